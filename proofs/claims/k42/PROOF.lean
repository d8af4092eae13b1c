import PyProof.Rows.All
import Wide.All
import OpenK.AllK
import Wide.FinOn
import Lean
import PyProof.EqAt
import PyProof.EqKinds
import PyProof.TupleCall
import PySem.Challenge.RW_quoteweave_k42_since_when
noncomputable section
set_option Elab.async false
set_option linter.all false
set_option genInjectivity false
set_option genSizeOf false
set_option maxRecDepth 100000
set_option maxHeartbeats 4000000
open PySem.W renaming Frag->QA,kia_one->qI,nsIn->qq,fnOf->qr,keepIn->wN,mg_of->WR,codeIn->Wb,WData->Ww,codeHd_of_K->W9,mg_none_of->QAG,methodObj->QAT,kitx_list->QAU,codeHdIn->QAl,cellsFrom_some->QAq,instObj->QAz,lookIn->QBH,kitOne->QBI,tabObj->QBM,kitx_tuple->QBf,kitx_dict->QBq,plainGet->QCD
open PySem renaming wpAny_bind->QC,wpAny_pure->QK,sizeLine_eq->Q2,wpAny_loadPart'->qD,wpAny_newObj_type->qL,mem_of_lookup->qN,wpAny_call_entry->qQ,wpAny_callSpecial?_slot->qe,Spec->qj,wpAny_holding->qp,wpAny_typeNameOfWhole_itemiter->qu,wpAny_mono->qw,wpAny_Call_Name_kw->qy,wpAny_typeNameOfWhole_keyiter->q0,wpAny_dictEntries->wC,wpAny_setField_rec->wM,wpAny_truthy_bool->wT,wpAny_passesOwn->wU,wpAny_dictEpoch->wq,wpAny_field->WE,wpAny_isOneOf_itemiter->WW,wpAny_notOrdered_dict->Wg,wpAny_isInstance->Wl,wpAny_attempt->Wv,wpAny_execs_nil->Wz,codeAny_builtin->W4,wpAny_seqItems->QAK,wpAny_setField->QAO,wpAny_fieldsOf->QAP,wpAny_pyIter_list->QAW,seqIndex_of->QAe,wpAny_Call_method0_late->QAf,plainId_quiet->QAg,wpAny_newList->QAh,wpAny_eqBool_int->QAn,wpAny_specialOf->QAy,wpAny_isOneOf_keyiter->QA5,builtinLookup_eq_fast->QA6,wpAny_Name->QA9,wpAny_loadName_local->QBA,wpAny_newFunctionEnv->QBB,wpAny_pyIter_revIter->QBE,wpAny_newTuple->QBK,wpAny_loadName_free->QBN,wpAny_Tuple_spliced->QBO,evalArgs_none->QBP,wpAny_setItem_pairs->QBQ,wpAny_Constant_int->QBc,wpAny_standAt->QBd,wpAny_handled->QBi,wpAny_pyIter_tuple->QBj,call_reversed_list->QBk,wpAny_assign_Name->QBo,slot_list_getitem->QBs,call_meets->QBt,wpAny_rule->QBv,wpAny_pyIter_slot->QBw,wpAny_pyIter_enum->QBz,codeAny_mono->QB4,seqIndex_neg->QB5,wpAny_typeOf->QB6,wpAny_pyHash_str->QCB,wpAny_execs_cons->QCC,wpAny_of_eq->QCM,wpAny_throw->QCN,wpAny_letGo->QCO,storedH_new->QCP,typeIs_str->QCW,Str->QCZ
open List renaming mem_cons_of_mem->QD,length_map->QE,mem_cons_self->QF,length_append->QI,mem_singleton->QJ,mem_cons->QL,length_cons->QM,size_toArray->QN,map_append->QO,map_cons->QS,mem_map->QV,mem_append_right->QX,map_map->Qa,getElem?_map->Qb,mem_filter->Qd,mem_append->Qf,getElem?_eq_some_iff->Qg,nodup_cons->Qh,nil_append->Qi,range->Ql,getElem?_eq_getElem->Qm,mem_append_left->Qn,contains_iff_mem->Qq,isEmpty_iff->Qr,getElem?_append_right->Qu,length_range->Qw,nodup_nil->Q0,all_eq_true->Q4,getElem?_eq_none->Q7,filter_sublist->Q9,toArray->qA,append_assoc->qB,length_singleton->qF,length_filter_le->qG,length_take->qJ,getElem?_append_left->qK,append_nil->qM,mem_range->qP,getElem?_set_ne->qT,mem_of_getElem?->qU,length->qa,all_cons->qb,getElem?_set_self->qh,nodup_append->ql,length_replicate->qt,ext_getElem?->wB,getElem?_set->wE,length_set->wG,find?_cons->wI,map_congr_left->wJ,length_dropLast->wQ,length_nil->wR,reverse_cons->wV,getElem?_cons_succ->wb,getElem?_replicate->wc,length_reverse->we,lookup_cons->wj,map_nil->wn,any_cons->wv,map_snd_zip->w6,any_eq_true->w8,getElem_mem->w9,not_mem_nil->WA,filter_cons->WB,mem_flatMap->WC,filterMap_cons->WD,getElem?_range->WF,set->WS,map_inj_right->WT,drop_eq_nil_of_le->WX,map_inj_left->Wa,mem_iff_getElem?->Wj,map_fst_zip->Wn,map_reverse->Wp,getElem?_modify->Wq,forIn_cons->Wx,foldl_cons->W7,zip_cons_cons->QAF,length_zipIdx->QAH,replicate->QAL,drop_eq_getElem_cons->QAQ,getLast?_eq_getElem?->QAS,length_erase_of_mem->QAX,flatMap_cons->QAY,foldl_append->QAZ,getElem?_cons_zero->QAc,cons_append->QAk,length_drop->QAo,length_pos_of_mem->QAu,length_eq_one_iff->QAv,modify_succ_cons->QAw,modify_zero_cons->QAx,of_mem_zip->QA1,mem_zipIdx->QA8,mem_erase_of_ne->QBF,forIn_nil->QBJ,mem_map_of_mem->QBS,mergeSort_perm->QBU,set_cons_zero->QBV,set_cons_succ->QBW,mem_filterMap->QBe,any_eq_false->QBp,mapM_toArray->QBx,pairwise_map->QB0,any_map->QB9,mem_reverse->QCI,lookup->QCK,Perm->QCS,map_id->QCT,getD->QCa
open Bool renaming false_ne_true->QG,and_eq_true->QW,false_eq_true->Qs,not_eq_true'->Q5,eq_iff_iff->qC,or_eq_true->wX,not_false->wy,true_and->WI,and_eq_true_iff->Ws,not_true->Wt,false_and->QAI,false_or->QAd,and_false->QBG,and_true->QBX,or_false->QBY,or_true->QB2,true_or->QB3
open PySem.Heap renaming get?_push_of_some->QH,get?_push_size->QR,lt_size->QT,SameBut->qX,get?_update_self->wL,size_push->wz,get?_update_other->WU,ExtBut->W0,get?_push_cases->QBD,size_update->QCH,IsList->QCL
open Nat renaming le_trans->QU,le_refl->QZ,ne_of_lt->Qj,lt_of_lt_of_le->Qo,zero_le->Qt,lt_irrefl->qR,le_succ->wH,le_of_eq->wa,lt_of_succ_lt_succ->wk,ne_of_gt->wm,lt_succ_of_lt->ww,lt_of_le_of_lt->WJ,zero_add->Wc,succ_le_succ->Wm,lt_trans->QAE,le_add_right->QAp,le_of_lt->QA0,lt_or_ge->QA2,sub_self->QA7,lt_succ_self->QCA,blt->QCY
open PySem.Str renaming ofString->QY
open False renaming elim->Qc
open Option.some renaming inj->Qk,injEq->Qp
open PySem.PyData renaming eqv->Qv,strOk->qf,canLayAll0->qm,depthAll->wW,canLay0->QAN,depth->QA3,noConfusion->QBh
open Array renaming length_toList->Qx,perm_iff_toList_perm->qS,toList_inj->w4,getElem?_toList->We,getElem?_eq_some_iff->QAC,getElem?_eq_none->QAs,forIn_toList->QBZ
open PySem.Challenge renaming pw_quoteweave_k42_since_when->Qy,rw_quoteweave_k42_since_when->qE
open PySem.Obj renaming mapSeq->Qz,data_mapFields->WM,isFreed_of_fields->QA4,data_mapDictKeys->QBC,cls_mapFields->QBu
open PySem.Heap.SameBut renaming update->Q1
open Ne renaming symm->Q3
open Option renaming map_some->Q6,map_none->wY,isNone_iff_eq_none->QAR,isSome_map->QAV,getD_none->QCE,getD_some->QCF
open PySem.Builtin.Str renaming occurrences->Q8
open PySem.Paired renaming length->qH
open PyProof.Rows renaming callWith_type1->qO,subscriptTail_builtinR->qi,listUpdate_at->WN,get?_update_seq->W5,boot_reversed->QAB,slot_tuple_getitem->QAD,seqEpoch_at->QBR,getItem_tuple->QBg,sortedAll_old->QBl,Subscript_->QBr,listItems_at->QB7,sortedAll_at->QB8
open PySem.Builtin.SmallTypes renaming nextOf->qV
open PySem.F renaming slot_dict_itemiterator_next->qW,slot_dict_keyiterator_next->qZ,slot_tuple_iterator_next->qg,args_tuple_iterator_next_1->WH,entry_tuple_iterator_next->WL,plainAttrs_list->WP,args_dict_itemiterator_next_1->WY,entry_dict_itemiterator_next->Wf,args_dict_keyiterator_next_1->Wi,entry_dict_keyiterator_next->Wo,slot_dict_getitem->QAM,plainAttrs_dict->QAj,slot_dict_items_iter->QAr,plain_list_iadd->QB1,slot_dict_iter->QCG
open Int renaming toNat_natCast->qY,lt_irrefl->wg,le_trans->Wk,emod_eq_of_lt->QAb,natCast_nonneg->QBm,lt_of_le_of_lt->QBn,le_refl->QCU,toNat->QCV
open LawfulBEq renaming eq_of_beq->qd
open PySem.SeqAt renaming EqAt->qk
open Prod renaming fst->qz,snd->QCJ,ext->QCX
open Lean.Parser.Tactic renaming tacticSeq->wA
open PySem.Calls renaming spliced_cons->wK,spliced_nil->wu,callWith_builtin->WV,Name_function_global->QAA
open PySem.Builtin.Dict_items renaming addrOf->wO,ownsTuple->Wu
open Classical renaming byContradiction->wP
open List.Pairwise renaming imp_of_mem->wZ,map->WZ
open PySem.W.WData renaming weightAll->wf,weight->Wr
open PySem.Txt renaming slice->wo
open PySem.Builtin.List renaming listExtendWith->wt,listTooLong->WG,listUpdate->QAi,listItems->QAt
open PySem.Around renaming under_plainId->wx,in1_units->QAm
open PySem.Builtin.Range renaming rangeSize->WK,small->QBT
open Iff renaming rfl->WO
open List.cons renaming injEq->WQ
open PySem.Builtin.Dict renaming showsAll->Wh
open PySem.Builtin.Int renaming intBits->W6
open Prod.mk renaming inj->W8
open PySem.Builtin.Tuple renaming tupleHashOf->QAJ
open PySem.StrLaws renaming sliceText->QAa
open List.Perm renaming refl->QBL
open PySem.SeqAt.EqAt renaming int_str->QBa,str_int->QBb
open PyProof.Rows.SortSt renaming mk'->QBy
open Array.Perm renaming refl->QCQ
open StateT renaming run_pure->QCR
theorem dF{p:Prop}[Decidable p](h:¬p):decide p=false:=_root_.decide_eq_false h
theorem dT{p:Prop}[Decidable p](h:p):decide p=true:=_root_.decide_eq_true h
abbrev OB:=List (PySem.Addr×PySem.Obj)
abbrev gC:=PySem.Value -> PySem.Shared -> Prop
abbrev dB:=PySem.Addr -> Prop
abbrev rC:=List (QCZ×QCZ)
set_option hygiene false in
local macro_rules | `(tactic| omega)=>do
 let f:=λ(s:String)=>(s.splitOn " ").toArray.map λx=>Lean.mkIdent x.toName
 let a<-(f "L2.szA L2.szB L2.szC L2.unA Nat.le_trans Nat.lt_of_le_of_lt").mapM λx=>`(wA| exact $x (by assumption) (by decide))
 let b<-(f "Nat.lt_of_lt_of_le Nat.lt_of_le_of_lt Nat.le_trans").mapM λx=>`(wA| exact $x (by assumption) (by assumption))
 let c<-(f "Nat.le_of_lt Nat.ne_of_lt Nat.ne_of_gt Nat.lt_succ_of_lt Nat.le_of_lt_succ L2.prA").mapM λx=>`(wA| exact $x (by assumption))
 let d<-(f "Nat.le_refl Nat.le_succ Nat.zero_le Nat.succ_pos").mapM λx=>`(wA| exact $x _)
 `(tactic| first|decide|assumption|exact L2.szL (by decide) $[| $a]* $[| $b]* $[| $c]* $[| $d]*|omega (config:={}) | (have:=PySem.sizeLine_eq;omega (config:={})))
set_option hygiene false in
local macro_rules
 | `(%[ $xs,*|1 ])=>do
  let mut r<-`(PX.xz)
  for x in xs.getElems.reverse do r<-`(PX.nz $x $r)
  return r
 | `(%[ $xs,*|2 ])=>do
  let mut r<-`(PT.nil)
  for x in xs.getElems.reverse do r<-`(PT.seq $x $r)
  return r
def zza:="zA cg gg K8 fg lg rg ug Z8 dg og xg Fg Jr yg Pg Hg Yr Ng R8 kg Ag Eg vg Mg zg J8 Kr Lg iU eU O8 Sg Rg aU Og Gg P8 Lf i8 Hq Gq Mf Ig A8 ZU KU eg Jg Pq Yg X8 U8 Kg Vg Rq Zg ig V8 Sx Ix Tx Ex Ax cr br Ox Rx Px Ew Tw Aw Dx Ux Bx Xx Vs xx yy jy FX yq zq Kx Yx Jx sx ox lx gx cx bx ux yr Iq Xg jx Iw yx Sq Bg Vx kw XY Xr d8 Ef Af Pf Rf Tf Sf Up Xp Cf Bf Zf Jf Jq Kq Nw Xq x8 Xf v8 u8 JN Vf Yw Pw Re vp zp tw d9 U2 Lm Ls Xw Uw jo iw aw vn jn Im cn Sd jg tf fB reduceIte"
def zzb:="YH DE LF sR T.isD lockA xG lock kill xN Tg.ix vC RW JO FR isMut NV frzAt yW Rc OC.eq_1 OC.eq_2 OM.eq_1 OM.eq_2 OM.eq_3 OM.eq_4 i6 e6 t6 SI.eq_1 List.modify_succ_cons List.modify_zero_cons Option.map_some List.length_cons List.length_nil List.getElem?_cons_zero List.getElem?_cons_succ List.cons_append List.nil_append List.set_cons_zero List.set_cons_succ Nat.reduceAdd Nat.reduceSub Nat.zero_add Bool.and_true Bool.true_and Bool.not_true Bool.not_false Bool.or_true Bool.true_or Bool.or_false Bool.false_or Bool.and_false Bool.false_and if_true if_false Bool.false_eq_true true_and and_true false_implies ne_eq reduceCtorEq not_false_eq_true not_true_eq_false implies_true forall_const Int.reduceLT Int.reduceLE Int.reducePow Int.reduceNeg Nat.reducePow and_self eq_self Option.some.injEq Sl.own.injEq Sl.vz.injEq and_assoc decide_true decide_false"
set_option hygiene false in
local macro_rules | `(tactic| simp_arith [$ls,*])=>do
 let a<-(zza.splitOn " ").toArray.mapM λx=>`(Lean.Parser.Tactic.simpLemma| ↓ $(Lean.mkIdent x.toName):ident)
 let b<-(zzb.splitOn " ").toArray.mapM λx=>`(Lean.Parser.Tactic.simpLemma| $(Lean.mkIdent x.toName):ident)
 `(tactic| simp only [$ls,*,$a,*,$b,*])
set_option hygiene false in
local macro_rules | `(tactic| simp? [$ls,*])=>do
 let a<-(zza.splitOn " ").toArray.mapM λx=>`(Lean.Parser.Tactic.simpLemma| ↓ $(Lean.mkIdent x.toName):ident)
 let b<-(zzb.splitOn " ").toArray.mapM λx=>`(Lean.Parser.Tactic.simpLemma| $(Lean.mkIdent x.toName):ident)
 `(tactic| simp -implicitDefEqProofs only [$ls,*,$a,*,$b,*])
abbrev LS:=List QCZ
abbrev LN:=List Nat
abbrev LJ:=List Int
abbrev LW:=List PySem.Value
namespace L2.L3.Q
open PySem PySem.W PySem.Spec PyProof.Rows
def js(x:List Addr)(h:Heap):QA:=x.filterMap λa=>(h.get? a).map λo=>(a,o)
noncomputable abbrev Xs:=(Str×Str×Arguments×FuncBody×Scope)×(Addr×List (Str×Addr)×Value×Addr)×Bool
noncomputable def Zm(h:FuncData)(b:Bool):Xs:=((h.name,h.qualname,h.params,h.body,h.scope),(h.globals,h.closure,h.defaults,h.builtins),b)
noncomputable def kW(K:QA)(x:Str):Option Xs:=match qq K mainGlobals x with
 |some (some (.ref f))=>(match K.lookup f with
  |some ⟨_,_,.func fd,_⟩=>some (Zm fd (Wb K fd.code x&&wN K (.ref f)))|_=>none)
 |_=>none
noncomputable def rT(x:Str)(st:Stmt):Option Xs:=match st with
 | .FunctionDef _ a b _ _ _ sc _ _ _=>some (Zm (qr x x a b sc .none .none .none .none none .none .none) true)|_=>none
def Ln:Value->Option Str
 | .str z _=>some z|_=>none
noncomputable def oh(K:QA)(x:Str):Option (List (Option Str)):=match qq K mainGlobals x with
 |some (some (.ref f))=>(match K.lookup f with
  |some ⟨.type t,_,.seq its _,_⟩=>if t="tuple" then some (its.toList.map Ln) else none|_=>none)
 |_=>none
def Du:Value->Option Int
 | .int i _=>some i|_=>none
def lh(K:QA)(x:Str):Option Int:=match qq K mainGlobals x with
 |some (some u)=>Du u|_=>none
def pV(K:QA)(x:Str):Bool:=match qq K mainGlobals x with
 |some none=>true|_=>false
noncomputable def fG(K:QA)(T:Addr):Bool:=(match qq K mainGlobals "going_order" with
 |some (some (.ref f))=>(match K.lookup f with
  |some ⟨_,_,.func fd,_⟩=>(match fd.code with
   | .ref c=>QAl K c T|_=>false)
  |_=>false)
 |_=>false)&&((match qq K mainGlobals "__builtins__" with
 |some (some (.ref b))=>(match K.lookup b with
  |some ⟨.type t,some d,.plain,_⟩=>t == "module" && (d==builtinsNs&&(b != builtinsNs&&(b != mainGlobals&&b != T)))|_=>false)
 |_=>false)&&((K.lookup T).isNone&&mainGlobals != T))
def top(i:Nat):Stmt:=Qy.main.body.getD i (.Pass ⟨0,0,0,0⟩)
noncomputable def fT:List (Str×Nat):=([("_law_mixed",37),("_law_cell_at",36),("_law_letters",38),("_law_spelt",39),("_law_words",40),("_law_person",41),("_law_folded",45),("_law_quote",43),("_law_event",44),("_law_against",42),("_law_world",46),("going_order",16),("has_against",21),("rank_of",19),("floor_of",20),("is_taken",18),("seen_among",23),("wrong_among",22),("live_among",24),("edges_of",27),("seers_of",26),("add_way",6),("add_name",5),("rooms_of",4),("points_reached",7),("lay_chain",8),("name_behind",10),("chain_from",9),("full_names",11),("apart_chains",3),("told_through",14),("ground_alone",13),("needs_of",29),("holders_in",28),("held_among",25),("gone",17),("_law_pairs",47),("_law_due",48),("since_in",34),("last_moment",31),("since_of",33),("law",49)]:List (String×Nat)).map λp=>(QY p.1,p.2)
def tT:List (Str×LS):=[("BEGIN",["","begin"])]
def sT:List (Str×Int):=[("WIDE",2)]
noncomputable def nT:LS:=(["any","bool","enumerate","int","isinstance","len","list","min","range","reversed","sorted","tuple"]:List String).map QY
noncomputable def qv:Program:={ Qy with main:={ Qy.main with body:=[1,2,3,4,5,6,7,8,9,10,11,13,14,16,17,18,19,20,21,22,23,24,25,26,27,28,29,31,33,34,36,37,38,39,40,41,42,43,44,45,46,47,48,49].map top } }
def tA:Addr:=84
noncomputable abbrev iY:=List (Option Xs)×List (Option (List (Option Str)))×List (Option Int)×List Bool×Bool
noncomputable def seen(K:Frag):iY:=(fT.map λp=>kW K p.1,tT.map λp=>oh K p.1,sT.map λp=>lh K p.1,nT.map (pV K),fG K tA)
noncomputable def due:iY:=(fT.map λp=>rT p.1 (top p.2),tT.map λp=>some (p.2.map some),sT.map λp=>some p.2,nT.map λ_=>true,true)
def fr(s:Shared):Frag:=js ((Ql 300).filter λa=>a != tA) s.heap
def xt(s:Shared):Bool:=xlAt qv [] s&&recOk (RowW.records qE.row.toRowW) s
def ob(s:Shared):iY×Option Obj:=(seen (fr s),s.heap.get? tA)
theorem lf:LeftO Qy qv [] xt ob (λ_=>(due,some (tabObj #[]))) 2806:=by intro w;kernel_rfl
theorem ws:qE.wellSaid=true:=by kernel_rfl
end L2.L3.Q
namespace L2
open PySem PySem.Spec PyProof.Rows
section
variable{n m:Nat}
theorem szL(h:n<=16777216):n<=sizeLine:=by rw[Q2];exact h
theorem gy(h:n<16777216):n<sizeLine:=by rw[Q2];exact h
theorem ly(h:n<=m)(k:m<=16777216):n<=sizeLine:=szL (QU h k)
theorem By(h:n<=m)(k:m<16777216):n<sizeLine:=gy (WJ h k)
theorem Uy(h:n<=m)(k:m<=16777216):0+n<=sizeLine:=by rw[Wc];exact ly h k
theorem Xy{k c:Nat}(h:n+k<c)(l:m<=k):n+m<c:=WJ (Nat.add_le_add_left l n) h
theorem Cy(h:m<n):n - 1<n:=by cases n with|zero=>exact(nomatch h)|succ n=>exact QCA n
end
open PySem.SeqAt
inductive NK where
 |s (x:Str)|t (xs:List NK)
noncomputable instance:DecidableEq NK:=λ_ _=>Classical.propDecidable _
mutual
def T1(h:Heap):NK->Value->Prop
 | .s x,v=>∃t,v=.str x t|.t ks,v=>∃a y,v=.ref a/\h.IsTuple a y/\NKvs h ks y.toList
def NKvs(h:Heap):List NK->LW->Prop
 |[],vs=>vs=[]|k::ks,vs=>∃v r,vs=v::r/\T1 h k v/\NKvs h ks r
end
mutual
def c6:NK->Nat
 | .s _=>0|.t h=>nkds h+1
def nkds:List NK->Nat
 |[]=>0|k::ks=>max (c6 k) (nkds ks)
end
mutual
def Yu(w:World):NK->Int
 | .s x=>hashStr w x|.t h=>reduceHash (QAJ (nkhs w h))
def nkhs(w:World):List NK->LJ
 |[]=>[]|k::ks=>Yu w k::nkhs w ks
end
mutual
def cm:NK->Nat
 | .s _=>1|.t h=>nkts h+1
def nkts:List NK->Nat
 |[]=>0|k::ks=>cm k+nkts ks
end
theorem AW{h:Heap}{a:Addr}{xs x:Array Value}(p:h.IsTuple a xs)(q:h.IsTuple a x):xs=x:=by obtain⟨o,e,_,n,d⟩:=p;obtain⟨u,y,_,v,z⟩:=q;cases e.symm.trans y;cases d.symm.trans z;rfl
mutual
theorem d6{h:Heap}:∀{k l:NK}{v:Value},T1 h k v->T1 h l v->k=l
 | .s x,.s y,v,⟨t,e⟩,⟨u,e'⟩=>by subst e;cases e';rfl|.s x,.t ls,v,⟨t,e⟩,⟨_,_,e',_⟩=>by subst e;cases e'|.t ks,.s y,v,⟨_,_,e,_⟩,⟨_,e'⟩=>by subst e;cases e'|.t ks,.t ls,v,⟨a,its,e,p,q⟩,⟨b,jts,e',p',q'⟩=>by subst e;cases e';cases AW p p';rw[nks_inj q q']
theorem nks_inj{h:Heap}:∀{ks ls:List NK}{vs:LW},NKvs h ks vs->NKvs h ls vs->ks=ls
 |[],[],_,_,_=>rfl|[],_::_,_,e,⟨_,_,e',_⟩=>by cases(show _=[] from e).symm.trans e'|_::_,[],_,⟨_,_,e',_⟩,e=>by cases(show _=[] from e).symm.trans e'|k::ks,l::ls,_,⟨v,r,e,p,q⟩,⟨v',r',e',p',q'⟩=>by cases e.symm.trans e';rw[d6 p p',nks_inj q q']
end
mutual
theorem XS{h h':Heap}(k:∀a its,h.IsTuple a its->h'.IsTuple a its):∀{x:NK}{v:Value},T1 h x v->T1 h' x v
 | .s x,v,e=>e|.t ks,v,⟨a,its,e,p,q⟩=>⟨a,its,e,k a its p,nks_keeps k q⟩
theorem nks_keeps{h h':Heap}(k:∀a its,h.IsTuple a its->h'.IsTuple a its):∀{xs:List NK}{vs:LW},NKvs h xs vs->NKvs h' xs vs
 |[],_,e=>e|x::xs,_,⟨v,r,e,p,q⟩=>⟨v,r,e,XS k p,nks_keeps k q⟩
end
section
variable{prog:Program}{w:World}{E:gC}
mutual
theorem UX:∀(k:NK) (v:Value) (A:Around) (s:Shared) (Q:Int->Shared->Prop),T1 s.heap k v->A.units+c6 k<cLine->Q (Yu w k) { s with toks:=s.toks+cm k }->wpAny (model prog w) A (pyHash v) Q E s
 | .s x,v,A,s,Q,⟨t,e⟩,_,q=>by subst e;exact QCB q|.t ks,v,A,s,Q,⟨a,its,e,⟨o,ho,hc,n,hd⟩,hi⟩,h,q=>by subst e;have h:A.units+(nkds ks+1)<cLine:=h;refine PySem.W.pyHash_slot (T:="tuple") ⟨o,ho,hc⟩ F.slot_tuple_hash F.entry_tuple_hash (F.args_tuple_hash_1 _) (beq_builtin_none _) (.inr (by omega)) ?_;show wpAny _ _ (Builtin.Tuple.tupleItemsOf (.ref a) >>= _) _ _ s;refine QC (wpAny_tupleItemsOf ho hd ?_);refine QC ?_;rw[<- QBZ];refine nk_loop ks its.toList A.in1 s #[] _ hi (by rw[QAm];omega) λb hb=>?_;show wpAny _ _ (retInt (QAJ b.toList)) _ _ _;rw[hb];exact QC (wpAny_mkInt (QK ⟨_,_,rfl,by rw[Nat.add_assoc];exact q⟩))
theorem nk_loop:∀(ks:List NK) (vs:LW) (A:Around) (s:Shared) (b:Array Int) (Q:Array Int->Shared->Prop),NKvs s.heap ks vs->A.units+nkds ks<cLine ->
  (∀y,y.toList=b.toList++nkhs w ks->Q y { s with toks:=s.toks+nkts ks }) ->
  wpAny (model prog w) A (forIn vs b λx r=>do let h <- pyHash x;pure PUnit.unit;pure (ForInStep.yield (r.push h))) Q E s
 |[],vs,A,s,b,Q,e,_,q=>by subst e;exact QK (q b (qM _).symm)|k::ks,vs,A,s,b,Q,⟨v,r,e,p,p'⟩,z,q=>by subst e;have z:A.units+max (c6 k) (nkds ks)<cLine:=z;rw[Wx];refine QC (QC (UX k v A s _ p (by omega) ?_));refine QC (QK (QK ?_));refine nk_loop ks r A _ _ Q p' (by omega) λy hb=>?_;have e:s.toks+cm k+nkts ks=s.toks+(cm k+nkts ks):=Nat.add_assoc _ _ _;have:=q y (by rw[hb,Array.toList_push,qB];rfl);show Q y { s with toks:=s.toks+cm k+nkts ks };rw[e];exact this
end
end
theorem Dl{ks ls:List NK}{n m:Nat}(x:n=ks.length)(y:m=ls.length):((Ql (min n m)).all (λj=>decide (ks[j]?=ls[j]?))&&n==m)=decide (NK.t ks=NK.t ls):=by subst x y;rw[qC,decide_eq_true_iff,QW,Q4,beq_iff_eq];constructor;rintro⟨z,v⟩;congr 1;refine wB λj=>?_;by_cases u:j<ks.length;exact of_decide_eq_true (z j (qP.mpr (by omega)));rw[Q7 (by omega),Q7 (by omega)];intro h;injection h with h;subst h;exact⟨λ_ _=>dT rfl,rfl⟩
theorem JQ{h:Heap}:∀{ks:List NK}{vs:LW},NKvs h ks vs->vs.length=ks.length
 |[],_,e=>by cases(show _=[] from e);rfl|_::_,_,⟨v,r,e,_,q⟩=>by rw[e,QM,QM,JQ q]
mutual
theorem Le:∀(k l:NK) (v u:Value) (A:Around) (s:Shared),T1 s.heap k v->T1 s.heap l u->A.units+c6 k<cLine->EqAt A s v u (decide (k=l))
 | .s x,.s y,v,u,A,s,⟨t,e⟩,⟨t',e'⟩,_=>by
  subst e e';have:=EqAt.str_str (A:=A) (s:=s) x t y t';have z:(x==y)=decide (NK.s x=NK.s y):=by rw[qC,decide_eq_true_iff,beq_iff_eq];exact⟨λh=>h▸rfl,λh=>by injection h⟩
  rw[<- z];exact this
 | .s x,.t ls,v,u,A,s,⟨t,e⟩,⟨b,jts,e',p,_⟩,f=>by subst e e';rw[dF λh=>by cases h];exact EqAt.str_tuple x t p (by omega)|.t ks,.s y,v,u,A,s,⟨a,its,e,p,_⟩,⟨t,e'⟩,f=>by subst e e';rw[dF λh=>by cases h];exact EqAt.tuple_str y t p (by omega)|.t ks,.t ls,v,u,A,s,⟨a,its,e,p,q⟩,⟨b,jts,e',p',q'⟩,f=>by subst e e';by_cases w:a=b;subst w;cases AW p p';rw[nks_inj q q',dT rfl];exact EqAt.same _;have f:A.units+(nkds ks+1)<cLine:=f;refine EqAt.of_refs w ?_;have i:=JQ q;have g:=JQ q';rw[Qx]at i g;rw[<- Dl i g];refine RcAt.tuples p p' (by omega) λj n m=>?_;have:=nks_eq ks ls its.toList jts.toList A.in1 s q q' (by rw[QAm];omega) j (by rw[Qx];exact n) (by rw[Qx];exact m);simpa using this
theorem nks_eq:∀(ks ls:List NK) (vs us:LW) (A:Around) (s:Shared),NKvs s.heap ks vs->NKvs s.heap ls us->A.units+nkds ks<cLine->∀j (y:j<vs.length) (x:j<us.length),EqAt A s vs[j] us[j] (decide (ks[j]?=ls[j]?))
 |[],_,vs,us,A,s,e,_,_,j,y,_=>by cases(show vs=[] from e);cases y|_::_,[],vs,us,A,s,_,e,_,j,_,x=>by cases(show us=[] from e);cases x|k::ks,l::ls,_,_,A,s,⟨v,r,e,p,q⟩,⟨v',r',e',p',q'⟩,u,j,y,x=>by
  subst e e';have u:A.units+max (c6 k) (nkds ks)<cLine:=u;cases j with|zero=>have:=Le k l v v' A s p p' (by omega);have z:decide (k=l)=decide ((k::ks)[0]?=(l::ls)[0]?):=decide_eq_decide.mpr ⟨λh=>by rw[h];rfl,λh=>Qk h⟩;rw[<- z];exact this|succ j=>exact nks_eq ks ls r r' A s q q' (by omega) j (wk y) (wk x)
end
section
variable{prog:Program}{w:World}{A:Around}{E:gC}{s:Shared}
mutual
theorem VS:∀(k:NK) (v:Value) (n:Nat) (Q:Bool->Shared->Prop),T1 s.heap k v->c6 k<=n->Q true s->wpAny (model prog w) A (eqIsQuiet n v) Q E s
 | .s x,v,n,Q,⟨t,e⟩,_,q=>by subst e;rw[eqIsQuiet_byValue _ rfl];exact QK q|.t ks,v,n,Q,⟨a,its,e,⟨o,ho,hc,m,hd⟩,hi⟩,g,q=>by
  subst e;have g:nkds ks+1<=n:=g;obtain⟨n,rfl⟩:∃m,n=m+1:=⟨n - 1,by omega⟩
  have i:s.TypeIs (.ref a) "tuple":=⟨o,ho,hc⟩
  unfold eqIsQuiet;refine QC (QAy i F.slot_tuple_eq.lookup ?_);show wpAny _ _ (isInstance (.ref a) (.type "tuple") >>= _) _ _ s;refine QC (Wl i isSubtype_tuple_tuple ?_);simp only[Wt,Qs,if_false];refine QC (QAK ho hd ?_);refine QC ?_;show wpAny _ _ (forIn its _ _) _ _ s;rw[<- QBZ];refine wpAny_forIn_list _ (λh r z=>r.1=none/\z=s/\∀v∈h,∀Q:Bool->Shared->Prop,Q true s->wpAny (model prog w) A (eqIsQuiet n v) Q E s) _ ?_ ?_ _ _ ⟨rfl,rfl,nks_quiet ks its.toList n hi (by omega)⟩;rintro v h r z ⟨f,rfl,y⟩;refine QC (y v QF _ ?_);simp only[Wt,Qs,if_false];exact QK ⟨rfl,rfl,λu b=>y u (QD _ b)⟩;rintro⟨j,l⟩ z ⟨f,rfl,_⟩;cases(show j=none from f);exact QK q
theorem nks_quiet:∀(ks:List NK) (vs:LW) (n:Nat),NKvs s.heap ks vs->nkds ks<=n->∀v∈vs,∀Q:Bool->Shared->Prop,Q true s->wpAny (model prog w) A (eqIsQuiet n v) Q E s
 |[],vs,n,e,_,v,hv,Q,q=>by cases(show vs=[] from e);cases hv|k::ks,vs,n,⟨x,r,e,p,p'⟩,h,v,hv,Q,q=>by subst e;have h:max (c6 k) (nkds ks)<=n:=h;rcases QL.mp hv with rfl|hv;exact VS k v n Q p (by omega) q;exact nks_quiet ks r n p' (by omega) v hv Q q
end
end
section
variable{H:Hp}{a b:Addr}{o:HO}
noncomputable def vF(prog:Program)(w:World):HeapKind prog w NK where
 is:=λh k a=>T1 h k (.ref a)/\c6 k<=6
 hash:=Yu w
 draws:=cm
 room:=λA=>A.units+8<cLine
 inj:=λy u=>d6 y.1 u.1
 keeps:=λ{h m k a d o p q} x j l i=>⟨XS (λb f ⟨ob,e,c,n,v⟩=>⟨ob,(i.2 b λz=>by subst z;cases e.symm.trans j;cases l.symm.trans v).trans e,c,n,v⟩) x.1,x.2⟩
 pyHash:=λg hk h=>UX _ _ _ _ _ hk.1 (by have:=hk.2;omega) h
 eqBool:=λg y u h=>Le _ _ _ _ _ _ y.1 u.1 (by have:=y.2;omega) _ _ _ _ h
 quiet:=λhk h=>VS _ _ _ _ hk.1 (by have:=hk.2;omega) h
noncomputable abbrev Key:=Sum Int Str
def kP:Key->Value->Bool
 | .inl k,v=>Value.isInt k v|.inr x,v=>Value.isStrOf x v
def Cu(w:World):Key->Int
 | .inl k=>hashInt k|.inr x=>hashStr w x
theorem OA:∀{k:Key}{v:Value},kP k v=true->(∃i t,k=Sum.inl i/\v=Value.int i t)∨(∃x t,k=Sum.inr x/\v=Value.str x t)
 | .inl i,v,h=>by obtain⟨t,e⟩:=Value.isInt_shape (k:=i) (v:=v) h;exact .inl ⟨i,t,rfl,e⟩|.inr x,v,h=>by obtain⟨t,e⟩:=Value.isStrOf_shape (x:=x) (v:=v) h;exact .inr ⟨x,t,rfl,e⟩
theorem EZ(i:Int)(t:Tok):kP (.inl i) (.int i t)=true:=by simp[kP,Value.isInt]
theorem AZ(x:Str)(t:Tok):kP (.inr x) (.str x t)=true:=by simp[kP,Value.isStrOf]
theorem Rj(a b:Int):decide ((Sum.inl a:Key)=Sum.inl b)=(a==b):=by by_cases e:a=b;subst e;simp;have h:¬ (Sum.inl a:Key)=Sum.inl b:=λq=>e (Sum.inl.inj q);rw[dF h];exact(beq_eq_false_iff_ne.mpr e).symm
theorem Nj(a b:Str):decide ((Sum.inr a:Key)=Sum.inr b)=decide (a=b):=by by_cases e:a=b;subst e;simp;have h:¬ (Sum.inr a:Key)=Sum.inr b:=λq=>e (Sum.inr.inj q);rw[dF h,dF e]
theorem Pj(a:Int)(b:Str):decide ((Sum.inl a:Key)=Sum.inr b)=false:=dF (λq=>nomatch q)
theorem Oj(a:Str)(b:Int):decide ((Sum.inr a:Key)=Sum.inl b)=false:=dF (λq=>nomatch q)
noncomputable def GD(prog:Program)(w:World):PySem.KeyKind prog w Key where
 is:=kP
 hash:=Cu w
 inj:=λv a b f hb=>by
  rcases OA f with⟨i,t,rfl,rfl⟩| ⟨x,t,rfl,rfl⟩
  rcases OA hb with⟨j,u,rfl,e⟩| ⟨y,u,rfl,e⟩
  ·injection e with e1 _;rw[e1]
  exact nomatch e;rcases OA hb with⟨j,u,rfl,e⟩| ⟨y,u,rfl,e⟩
  ·exact nomatch e
  injection e with e1 _;rw[e1]
 byValue:=λk v h=>by rcases OA h with⟨i,t,rfl,rfl⟩| ⟨x,t,rfl,rfl⟩<;>rfl
 pyHash:=λhv h=>by
  rcases OA hv with⟨i,t,rfl,rfl⟩| ⟨x,t,rfl,rfl⟩
  exact wpAny_pyHash_int h;exact QCB h
 eqBool:=λz hv h=>by
  rcases OA z with⟨i,t,rfl,rfl⟩| ⟨x,t,rfl,rfl⟩
  rcases OA hv with⟨j,u,rfl,rfl⟩| ⟨y,u,rfl,rfl⟩
  ·rw[Rj]at h;exact QAn h
  rw[Pj]at h;exact QBa i t y u _ _ _ _ h;rcases OA hv with⟨j,u,rfl,rfl⟩| ⟨y,u,rfl,rfl⟩
  ·rw[Oj]at h;exact QBb x t j u _ _ _ _ h
  rw[Nj]at h;exact wpAny_eqBool_str h
 «strs»:=λk x t v h=>by
  rcases OA h with⟨i,u,rfl,e⟩| ⟨y,u,rfl,e⟩
  exact nomatch e;injection e with e1 _;subst e1;cases v<;>rfl
theorem GS(prog:Program)(w:World)(i:Int)(t:Tok):(GD prog w).is (.inl i) (.int i t)=true:=EZ i t
theorem FS(prog:Program)(w:World)(x:Str)(t:Tok):(GD prog w).is (.inr x) (.str x t)=true:=AZ x t
set_option genInjectivity true in
inductive V where
 |non|bl (b:Bool)|int (i:Int)|str (x:Str)|byt (b:Array UInt8)|flt (b:UInt64)|ref (a:Addr)|ty (n:String)
 deriving DecidableEq
abbrev LV:=List V
noncomputable def rA:V->Value->Prop
 | .non,u=>u=Value.none|.bl b,u=>u=Value.bool b|.int i,u=>∃t,u=Value.int i t|.str x,u=>∃t,u=Value.str x t|.byt b,u=>∃t,u=Value.bytes b t|.flt b,u=>∃t,u=Value.float b t|.ref a,u=>u=Value.ref a|.ty n,u=>u=Value.type n
noncomputable abbrev lA:LV->LW->Prop:=Paired rA
theorem lA.length{xs:LV}{us:LW}(r:lA xs us):xs.length=us.length:=qH r
theorem lA.get:∀{xs:LV}{us:LW}{i:Nat}{x:V},lA xs us->xs[i]?=some x->∃u,us[i]?=some u/\rA x u
 |_,_,_,_,.nil,e=>by simp at e|_,_,0,_,.cons r _,e=>by simp at e;subst e;exact⟨_,rfl,r⟩|_,_,i+1,x,.cons _ t,e=>by obtain⟨u,y,h⟩:=lA.get (i:=i) (x:=x) t (by simpa using e);exact⟨u,by simpa using y,h⟩
theorem lA.set{x:V}{u:Value}(r:rA x u):∀{xs:LV}{us:LW}(i:Nat),lA xs us->lA (xs.set i x) (us.set i u)
 |_,_,_,.nil=>.nil|_,_,0,.cons _ t=>.cons r t|_,_,i+1,.cons q t=>.cons q (lA.set r i t)
theorem lA.append:∀{xs h:LV}{us ws:LW},lA xs us->lA h ws->lA (xs++h) (us++ws)
 |_,_,_,_,.nil,s=>s|_,_,_,_,.cons r t,s=>.cons r (lA.append t s)
theorem lA.take:∀{xs:LV}{us:LW}(n:Nat),lA xs us->lA (xs.take n) (us.take n)
 |_,_,0,_=>.nil|_,_,_+1,.nil=>.nil|_,_,n+1,.cons r t=>.cons r (lA.take n t)
theorem lA.drop:∀{xs:LV}{us:LW}(n:Nat),lA xs us->lA (xs.drop n) (us.drop n)
 |_,_,0,r=>r|_,_,_+1,.nil=>.nil|_,_,n+1,.cons _ t=>lA.drop n t
def pU:Option V->Option Value->Prop
 |some v,some u=>rA v u|none,none=>True|_,_=>False
def KV{h:Type}:List (h×V)->List (h×Value)->Prop:=Paired λ(p:h×V) (q:h×Value)=>p.1=q.1/\rA p.2 q.2
def kV:Key->V
 | .inl i=>.int i|.inr x=>.str x
inductive HO where
 |lst (xs:LV)
 |tup (xs:LV)
 |dK (kvs:List (Key×V))|dT (ep:Nat) (kvs:List (NK×Addr×V))
 |set (S:Int->Bool) (n:Nat)
 |ins (C dx:Addr) (fs:List (Str×V))
 |own (x:Addr)
 |xd (fs:List (Str×V))
 |met (f x:Addr)
 |rng (lo hi:Int)
 |frz (o:Obj) (u:HO)
 |tbl (q:Str)
 |ext (φ:Heap->Prop)
noncomputable abbrev Hp:=Addr->Option HO
def DA(H:Hp)(a:Addr)(o:HO):Hp:=λb=>if b=a then some o else H b
theorem iA:DA H a o a=some o:=by unfold DA;rw[if_pos rfl]
theorem xA(h:b≠a):DA H a o b=H b:=by unfold DA;rw[if_neg h]
theorem e9{u:HO}:DA (DA H a o) a u=DA H a u:=by funext b;unfold DA;split<;>rfl
theorem sA(h:H a=some o)(h':H b=none):a≠b:=by intro e;subst e;rw[h]at h';cases h'
end
section
variable(P:Program)(w:World)
noncomputable def BA(H:Hp)(h:Heap)(a:Addr):HO->Prop
 | .lst k=>k.length<=sizeLine/\∃(z:LW) (n:Nat),lA k z/\h.get? a=some { cls:=.type "list",data:=.seq z.toArray n }|.tup k=>k.length<=sizeLine/\∃z:LW,lA k z/\IsTup h a z.toArray|.dK y=>y.length<=sizeLine/\(a==sysModules)=false/\∃m,KV y m/\h.DictOf (GD P w) a m|.dT W y=>y.length<=sizeLine/\(a==sysModules)=false/\∃k:List (NK×Addr×Value),
   Paired (λ(p:NK×Addr×V) (q:NK×Addr×Value)=>p.1=q.1/\p.2.1=q.2.1/\rA p.2.2 q.2.2) y k /\
   ∃o X,h.get? a=some o/\o.ExactDict/\o.data=.dict X W/\X.toList=k.map (entryOfKey (vF P w))/\(k.map (·.1)).Nodup
 | .set S n=>h.SetOf (intKind P w) a S n|.ins C e fs=>H e=some (.own a)/\fs.length<=1000/\e≠a/\h.get? a=some (QAz C e) /\
   ∃b,h.Ns1 e b/\(∀f,pU (fs.lookup f) (b f))/\PySem.Within b (fs.map (·.1))
 | .own _=>∃o,h.get? a=some o|.xd fs=>∃b,h.Ns1 a b/\∀f,pU (fs.lookup f) (b f)|.rng Y Z=>∃t u v,h.get? a=some { cls:=.type "range",data:=.fields #[.int Y t,.int Z u,.int 1 v] }|.frz o u=>h.get? a=some o/\BA H h a u|.tbl q=>∃i,h.get? a=some { cls:=.none,data:=.fields i }/\TriplesOk i.toList/\∀j l,codeAmong j i.toList=some l->∃c,l=.ref c/\H c=some (.own a)/\h.CodeRec l q|.met f x=>h.get? a=some (QAT (.ref f) (.ref x))|.ext g=>g h/\(∃o,h.get? a=some o)/\∀s r:Heap,g s->(∀o,s.get? a=some o->r.get? a=some o)->g r
def LL(H:Hp)(h:Heap):Prop:=∀a o,H a=some o->BA P w H h a o
end
section
variable{P:Program}{w:World}{H i:Hp}{h h':Heap}{a:Addr}{o:HO}
theorem BA.lt(x:BA P w H h a o):a<h.objs.size:=by
 cases o with|lst v=>obtain⟨_,_,_,_,e⟩:=x;exact QT e|tup v=>obtain⟨_,_,_,p⟩:=x;exact p.lt|dK z=>obtain⟨_,_,_,_,o,_,_,e,_⟩:=x;exact QT e|dT j z=>obtain⟨_,_,_,_,o,_,e,_⟩:=x;exact QT e|set S n=>obtain⟨o,_,_,_,e,_⟩:=x;exact QT e|ins C l fs=>obtain⟨_,_,_,e,_⟩:=x;exact QT e|own y=>obtain⟨_,e⟩:=x;exact QT e|xd fs=>obtain⟨_,⟨_,_,_,e,_⟩,_⟩:=x;exact QT e|rng b g=>obtain⟨_,_,_,e⟩:=x;exact QT e|frz ob u=>obtain⟨e,_⟩:=x;exact QT e|tbl q=>obtain⟨_,e,_⟩:=x;exact QT e|met f y=>exact QT (show h.get? a=some _ from x)|ext k=>obtain⟨_,⟨_,e⟩,_⟩:=x;exact QT e
theorem Paired.mapP{α z:Type}{F G:α->z->Prop}:∀{y:List α}{x:List z},Paired F y x->(∀a b,F a b->G a b)->Paired G y x
 |_,_,.nil,_=>.nil|_,_,.cons r t,f=>.cons (f _ _ r) (Paired.mapP t f)
theorem BA.stay(x:BA P w H h a o)(k:∀b u,(b=a∨H b=some (.own a))->h.get? b=some u->h'.get? b=some u)
  (K:∀b,H b=some (.own a)->i b=some (.own a)) (O:∀b xs,H b=some (.tup xs)->i b=some (.tup xs)):BA P w i h' a o:=by
 induction o with|lst xs=>obtain⟨z,m,n,r,e⟩:=x;exact⟨z,m,n,r,k _ _ (.inl rfl) e⟩|tup xs=>obtain⟨z,m,r,ob,e,c⟩:=x;exact⟨z,m,r,ob,k _ _ (.inl rfl) e,c⟩|dK W=>obtain⟨z,y,s,r,ob,j,l,e,c⟩:=x;exact⟨z,y,s,r,ob,j,l,k _ _ (.inl rfl) e,c⟩|dT l W=>obtain⟨z,y,xs,r,ob,j,e,c⟩:=x;exact⟨z,y,xs,r,ob,j,k _ _ (.inl rfl) e,c⟩|set S n=>obtain⟨ob,j,l,t,e,c⟩:=x;exact⟨ob,j,l,t,k _ _ (.inl rfl) e,c⟩|ins C R fs=>obtain⟨d,z,F,e,Z,⟨Y,j,l,J,c⟩,r⟩:=x;exact⟨K _ d,z,F,k _ _ (.inl rfl) e,Z,⟨Y,j,l,k _ _ (.inr d) J,c⟩,r⟩|own y=>obtain⟨ob,e⟩:=x;exact⟨ob,k _ _ (.inl rfl) e⟩|xd fs=>obtain⟨Z,⟨Y,j,l,e,c⟩,r⟩:=x;exact⟨Z,⟨Y,j,l,k _ _ (.inl rfl) e,c⟩,r⟩|rng N Q=>obtain⟨t,u,v,e⟩:=x;exact⟨t,u,v,k _ _ (.inl rfl) e⟩|frz ob u G=>obtain⟨e,q⟩:=x;exact⟨k _ _ (.inl rfl) e,G q⟩|tbl q=>obtain⟨E,e,t,f⟩:=x;refine⟨E,k _ _ (.inl rfl) e,t,λX L g=>?_⟩;obtain⟨c,rfl,o,c1,ob,s,B,A,I,r⟩:=f X L g;cases A;exact⟨c,rfl,K _ o,c,ob,s,B,rfl,k _ _ (.inr o) I,r⟩|met f y=>have e:h.get? a=some (QAT (.ref f) (.ref y)):=x;show h'.get? a=some (QAT (.ref f) (.ref y));exact k a _ (.inl rfl) e|ext M=>obtain⟨p,⟨o,e⟩,st⟩:=x;exact⟨st _ _ p λo q=>k _ _ (.inl rfl) q,⟨o,k _ _ (.inl rfl) e⟩,st⟩
theorem LL.lt(x:LL P w H h)(e:H a=some o):a<h.objs.size:=(x a o e).lt
theorem LL.fresh(x:LL P w H h)(e:h.objs.size<=a):H a=none:=by
 cases q:H a with|none=>rfl|some u=>exact absurd (Qo (x.lt q) e) (qR _)
theorem LL.kept(x:LL P w H h)(k:∀b u,h.get? b=some u->h'.get? b=some u):LL P w H h':=λa o e =>
 (x a o e).stay (λb u _ q=>k b u q) (λ_ q=>q) λ_ _ q=>q
theorem LL.laid(x:LL P w H h)(k:∀b u,h.get? b=some u->h'.get? b=some u)(z:h.objs.size<=a)(new:BA P w (DA H a o) h' a o):LL P w (DA H a o) h':=λb u e=>by have y:=x.fresh z;by_cases hb:b=a;subst hb;rw[iA]at e;cases e;exact new;rw[xA hb]at e;exact(x b u e).stay (λc v _ q=>k c v q) (λc q=>by rw[xA (sA q y)];exact q) λc f q=>by rw[xA (sA q y)];exact q
end
def Rd(H:Hp)(a:Addr)(u:HO):Prop:=H a=some u∨∃o,H a=some (.frz o u)
theorem Rd.ok{P:Program}{w:World}{H:Hp}{h:Heap}{a:Addr}{u:HO}(r:Rd H a u)(x:LL P w H h):BA P w H h a u:=by
 rcases r with r|⟨o,r⟩
 exact x a u r;obtain⟨_,q⟩:=x a _ r;exact q
noncomputable def Um:Option HO->Prop
 |some (.lst _)=>True|some (.dK _)=>True|some (.dT _ _)=>True|some (.set _ _)=>True|some (.ins _ _ _)=>True|some (.ext _)=>True|_=>False
section
variable{P:Program}{w:World}{H:Hp}{h h':Heap}{x e:Addr}{a:HO}
theorem LL.write(ok:LL P w H h)(l:Um (H x))(o:e=x∨H e=some (.own x))(k:∀b u,b≠e->h.get? b=some u->h'.get? b=some u)(m:∃u,h'.get? e=some u)
  (new:BA P w (DA H x a) h' x a):LL P w (DA H x a) h':=λb u q=>by
 have g:∀c y,H c=some (.own y)->c≠x:=λc y r z=>by subst z;rw[r]at l;exact l
 have i:∀c j,H c=some (.tup j)->c≠x:=λc j r z=>by subst z;rw[r]at l;exact l
 by_cases hb:b=x;subst hb;rw[iA]at q;cases q;exact new;rw[xA hb]at q;by_cases f:b=e;have n:H b=some (.own x):=by rcases o with z|z;exact absurd (f.trans z) hb;rw[f];exact z
 rw[q]at n;cases n;obtain⟨v,hv⟩:=m;exact⟨v,by rw[f];exact hv⟩;refine(ok b u q).stay (λc v hc r=>k c v ?_ r) (λc r=>by rw[xA (g c b r)];exact r) λc j r=>by rw[xA (i c j r)];exact r
 rcases hc with rfl|hc;exact f;rintro rfl;rcases o with z|z;exact g c b hc z;rw[hc]at z;cases z;exact hb rfl
end
structure Un(fs ex:List Addr)(H H':Hp)(h h':Heap):Prop where
 keep:∀b o,h.get? b=some o->H b=none->b∉fs->b∉ex->h'.get? b=some o
 slot:∀b o,h.get? b=some o->H b=none->b∈fs->b∉ex->∃sl,h'.get? b=some { o with slots:=sl }
 free:∀b o,h.get? b=some o->H b=none->b∉ex->H' b=none
 there:∀b o,h.get? b=some o->b∉ex->∃o',h'.get? b=some o'
 tups:∀b xs,H b=some (.tup xs)->H' b=some (.tup xs)
 frzs:∀b o u,H b=some (.frz o u)->H' b=some (.frz o u)
 tbls:∀b q,H b=some (.tbl q)->H' b=some (.tbl q)
section
variable{y w ex c:List Addr}{H d g:Hp}{h v f h':Heap}{a x e:Addr}{o:HO}
theorem Un.any(u:Un y ex H d h v){b:Addr}{ob:Obj}(q:h.get? b=some ob)(n:H b=none)(z:b∉ex):∃k,v.get? b=some { ob with slots:=k }:=by by_cases hb:b∈y;exact u.slot b ob q n hb z;exact⟨ob.slots,u.keep b ob q n hb z⟩
theorem Un.kept(k:∀b u,h.get? b=some u->h'.get? b=some u):Un y ex H H h h' :=
 ⟨λb ob q _ _ _=>k b ob q,λb ob q _ _ _=>⟨ob.slots,k b ob q⟩,λ_ _ _ n _=>n,λb ob q _=>⟨ob,k b ob q⟩,λ_ _ q=>q,λ_ _ _ q=>q,λ_ _ q=>q⟩
theorem Un.refl:Un y ex H H h h:=Un.kept λ_ _ q=>q
theorem Un.laid(k:∀b u,h.get? b=some u->h'.get? b=some u)(j:h.objs.size<=a)(z:H a=none):Un y ex H (DA H a o) h h' where
 keep:=λb u q _ _ _=>k b u q
 slot:=λb u q _ _ _=>⟨u.slots,k b u q⟩
 free:=λb u q n _=>by rw[xA (Qj (Qo (QT q) j))];exact n
 there:=λb u q _=>⟨u,k b u q⟩
 tups:=λb i q=>by rw[xA (sA q z)];exact q
 frzs:=λb u i q=>by rw[xA (sA q z)];exact q
 tbls:=λb l q=>by rw[xA (sA q z)];exact q
theorem Un.write(j:Um (H x))(X:e=x∨H e=some (.own x))(k:∀b u,b≠e->h.get? b=some u->h'.get? b=some u)(m:∃u,h'.get? e=some u):Un y ex H (DA H x o) h h':=by
 have p:∀b,H b=none->b≠x:=λb n z=>by subst z;rw[n]at j;exact j
 have hb:∀b,H b=none->b≠e:=λb n z=>by subst z;rcases X with r|r;exact p b n r;rw[n]at r;cases r
 have l:∀b u,H b=some u->¬ Um (some u)->b≠x:=λb u q nm z=>by subst z;rw[q]at j;exact nm j
 refine⟨λb u q n _ _=>k b u (hb b n) q,λb u q n _ _=>⟨u.slots,k b u (hb b n) q⟩,λb u q n _=>by rw[xA (p b n)];exact n,λb u q _=>?_,
  λb s q=>by rw[xA (l b _ q λz=>z)];exact q,λb u s q=>by rw[xA (l b _ q λz=>z)];exact q,λb Y q=>by rw[xA (l b _ q λz=>z)];exact q⟩
 by_cases i:b=e;subst i;exact m;exact⟨u,k b u i q⟩
end
section
variable{h:Heap}{b:Addr}{o:Obj}
def Cr(h:Heap)(H:Hp):List Addr:=(Ql h.objs.size).filter λa=>(H a).isSome
def TQ(h:Heap)(H:Hp):Heap:=PySem.W.hideAll h (Cr h H)
theorem Z0(h:Heap)(H:Hp):(TQ h H).objs.size=h.objs.size:=PySem.W.hideAll_size _ _
theorem t7{H:Hp}(e:h.get? b=some o)(n:H b=none):(TQ h H).get? b=some o :=
 PySem.W.hideAll_get _ e λx=>by have q:(H b).isSome=true:=(Qd.mp x).2;rw[n]at q;simp at q
theorem Hb{H:Hp}(e:(TQ h H).get? b=some o):h.get? b=some o/\H b=none:=by
 have y:h.get? b=some o:=PySem.W.of_hideAll (Cr h H) e;refine⟨y,?_⟩;cases q:H b with|none=>rfl|some x=>have u:b∈Cr h H:=Qd.mpr ⟨qP.mpr (QT y),by simp[q]⟩;have z:(TQ h H).get? b=none:=PySem.W.hideAll_none (Cr h H) u;rw[z]at e;cases e
structure Mod(K:QA)(mg:Str->Option Value)(base:Heap):Prop where
 kin:K.In base
 glob:base.Ns mainGlobals mg
 blt:∃mb,base.Ns builtinsNs mb/\∀x:Str,x≠"__name__"->mb x=bootBuiltins x
 nolimit:base.NoLimit
structure Cx where
 prog:Program
 w:World
 K:QA
 mg:Str->Option Value
 base:Heap
 A:Around
 N:LS
 s₀:Shared
 H₀:Hp
 env:Env
 outer:List Env
 stack:List Env
 ex:List Addr
 fn:Str->Bool
 calm:Bool
 pn:OB
 xe:Value->Shared->Prop
def uY(l:List Env):List Addr:=l.filterMap (·.frame)
noncomputable abbrev Cx.fs(X:Cx):List Addr:=uY X.outer
def Nq(sc:Scope)(x:Str):Prop:=sc.names.lookup x=some .local∨sc.names.lookup x=some .cell∨sc.names.lookup x=some .free
def Bm(sc:Scope)(x:Str):Prop:=sc.names.lookup x=some .local∨sc.names.lookup x=some .cell
def zw(env:Env)(h:Heap)(m:Str->Option Value)(x:Str)(u:Value):Prop :=
 (env.kindOf x=some .local/\m x=some u)∨((env.kindOf x=some .cell∨env.kindOf x=some .free)/\∃c,env.cells.lookup x=some c/\h.IsCell c (some u))
def aP(mg:Str->Option Value)(x:Heap)(P:Addr)(q:Str):Prop :=
 ∃f o y c,mg "going_order"=some (.ref f)/\x.get? f=some o/\o.data=.func y/\y.code=.ref c/\PySem.W.CodeHd x c P/\q=y.qualname++".<locals>.<lambda>"
structure Cx.Ok(X:Cx):Prop where
 mod:Mod X.K X.mg X.base
 kind:X.env.scope.kind=.function
 glob:X.env.globals=mainGlobals
 blt:X.env.builtins=builtinsNs
 above:X.s₀.heap.objs.size<=X.env.locals
 inj:∀x y c,X.env.cells.lookup x=some c->X.env.cells.lookup y=some c->x=y
 has:∀x,(X.env.kindOf x=some .cell∨X.env.kindOf x=some .free)->∃c,X.env.cells.lookup x=some c
 cab:∀x c,X.fn x=true->X.env.cells.lookup x=some c->X.s₀.heap.objs.size<=c
 hd:X.calm=true->X.A.handled=none
 frames:X.A.frames=some X.stack
 stk:X.stack=X.outer∨(X.stack=X.env::X.outer/\X.env.frame=some X.env.locals)
 exf:∀b∈X.ex,b≠X.env.locals/\∀x c,X.env.cells.lookup x=some c->c≠b
 bs:∀b o,X.base.get? b=some o->X.s₀.heap.get? b=some o/\X.H₀ b=none
 bsz:X.base.objs.size<=X.s₀.heap.objs.size
 noex:∀b o,X.base.get? b=some o->b∉X.ex
 exfs:∀b∈X.ex,b∉X.fs
 funs:X.s₀.heap.FunFrames X.base X.outer
 frf:∀b∈X.fs,X.H₀ b=none
 tb:∀P q,aP X.mg X.base P q->X.H₀ P=some (.tbl q)
structure Inv(X:Cx)(pins:OB)(σ:List (Option V))(H:Hp)(s:Shared):Prop where
 ok:X.Ok
 os:s.os=X.s₀.os
 bare:AllBare s.gens
 base:Un X.fs X.ex X.H₀ H X.s₀.heap s.heap
 loc:∃m,s.heap.Ns X.env.locals m/\∀(i:Nat) (x:Str) (v:V),X.N[i]?=some x->σ[i]?=some (some v)->Nq X.env.scope x->∃u,rA v u/\zw X.env s.heap m x u
 cell:∀x c,X.env.cells.lookup x=some c->∃v,s.heap.IsCell c v
 free:H X.env.locals=none
 freeC:∀x c,X.env.cells.lookup x=some c->H c=none
 pin:∀p∈X.pn++pins,s.heap.get? p.1=some p.2/\H p.1=none/\p.1≠X.env.locals/\p.1∉X.fs/\∀v,p.2.data≠.cell v
 hok:LL X.prog X.w H s.heap
 len:σ.length=X.N.length
end
section
variable{X:Cx}{f:OB}{σ:List (Option V)}{H g:Hp}{s:Shared}{h':Heap}
section
variable{a:Addr}{g':Array GenState}{ch:List Addr}{i:Nat}{x:Str}{M:Model}{A:Around}{E:gC}{u:Value}{Q:Unit->Shared->Prop}
theorem Cx.Ok.nofr(ok:X.Ok){b:Addr}{o:Obj}(e:X.base.get? b=some o):b∉X.fs:=λhb=>by have:=(ok.funs.mem hb).1;rw[e]at this;cases this
theorem Inv.bs(I:Inv X f σ H s):∀b o,X.base.get? b=some o->s.heap.get? b=some o/\H b=none:=λb o e =>
 ⟨I.base.keep b o (I.ok.bs b o e).1 (I.ok.bs b o e).2 (I.ok.nofr e) (I.ok.noex b o e),I.base.free b o (I.ok.bs b o e).1 (I.ok.bs b o e).2 (I.ok.noex b o e)⟩
theorem Inv.bk(I:Inv X f σ H s):∀b o,X.base.get? b=some o->s.heap.get? b=some o:=λb o e=>(I.bs b o e).1
theorem Inv.tb(I:Inv X f σ H s):∀P q,aP X.mg X.base P q->H P=some (.tbl q):=λP q h=>I.base.tbls P q (I.ok.tb P q h)
theorem Inv.mod(I:Inv X f σ H s):Mod X.K X.mg X.base:=I.ok.mod
theorem Inv.kIn(I:Inv X f σ H s):X.K.In s.heap:=I.ok.mod.kin.keeps I.bk
theorem Inv.nolimit(I:Inv X f σ H s):s.heap.NoLimit:=I.ok.mod.nolimit.keeps I.bk
theorem Inv.lt(I:Inv X f σ H s):X.env.locals<s.heap.objs.size:=let⟨_,h,_⟩:=I.loc;h.lt
theorem Inv.sz(I:Inv X f σ H s):X.s₀.heap.objs.size<=s.heap.objs.size:=QU I.ok.above (QA0 I.lt)
theorem Inv.nofs(I:Inv X f σ H s)(h:s.heap.objs.size<=a):a∉X.fs:=λhb=>by obtain⟨_,o,y,_⟩:=I.ok.funs.mem hb;exact absurd (Qo (QT y) (QU I.sz h)) (qR _)
theorem Inv.cne(I:Inv X f σ H s):∀x c,X.env.cells.lookup x=some c->c≠X.env.locals:=λx c e z=>by obtain⟨v,o,w,k⟩:=I.cell x c e;obtain⟨m,⟨b,j,l,h,y,_⟩,_⟩:=I.loc;rw[z,h]at w;cases w;rw[y]at k;cases k
theorem Inv.funs(I:Inv X f σ H s):s.heap.FunFrames X.base X.outer:=by
 have all:∀(l:List Env),(∀b∈uY l,b∈X.fs)->X.s₀.heap.FunFrames X.base l->s.heap.FunFrames X.base l:=by
  intro l;induction l with|nil=>intro _ _;trivial|cons p r w=>intro v hl;obtain⟨hk,⟨L,o,h,m,j,n⟩,k⟩:=hl;have y:L∈X.fs:=v L (by unfold uY;rw[WD,h];exact QF);obtain⟨q,e⟩:=I.base.slot L o j (I.ok.frf L y) y λz=>I.ok.exfs L z y;exact⟨hk,⟨L,_,h,m,e,n⟩,w (λb hb=>v b (by unfold uY;rw[WD,h];exact QD _ hb)) k⟩
 exact all X.outer (λ_ hb=>hb) I.ok.funs
theorem Inv.stack(I:Inv X f σ H s):s.heap.FunFrames X.base X.stack:=by
 rcases I.ok.stk with e|⟨e,y⟩
 rw[e];exact I.funs;rw[e];obtain⟨m,h,_⟩:=I.loc;refine .cons (by rw[I.ok.kind];decide) y h ?_ I.funs;exact Heap.get?_none_of_le (QU I.ok.bsz I.ok.above)
theorem Inv.stkSub(I:Inv X f σ H s):∀b∈uY X.stack,b∈X.env.locals::X.fs:=λb hb=>by
 rcases I.ok.stk with e|⟨e,h⟩
 rw[e]at hb;exact QD _ hb;rw[e]at hb;unfold uY at hb;rw[WD,h]at hb;exact hb
theorem Inv.stkFree(I:Inv X f σ H s):∀b∈uY X.stack,H b=none:=λb hb=>by rcases QL.mp (I.stkSub b hb) with e|hb;rw[e];exact I.free;obtain⟨_,o,h,_⟩:=I.ok.funs.mem hb;exact I.base.free b o h (I.ok.frf b hb) λz=>I.ok.exfs b z hb
theorem Inv.step{t':Nat}{d':Drawn}(I:Inv X f σ H s)
  (j:∀b∈ch,(b∈X.ex∨X.s₀.heap.objs.size<=b)/\b≠X.env.locals/\(∀x c,X.env.cells.lookup x=some c->c≠b)/\∀p∈X.pn++f,p.1≠b)
  (keep:∀b o,b≠X.env.locals->b∉X.fs->b∉ch->s.heap.get? b=some o->H b=none->h'.get? b=some o)
  (W:∀b o,b≠X.env.locals->b∈X.fs->b∉ch->s.heap.get? b=some o->H b=none->∃R,h'.get? b=some { o with slots:=R }) (free:∀b o,b∉ch->s.heap.get? b=some o->H b=none->g b=none)
  (K:∀b o,b∉ch->s.heap.get? b=some o->∃J,h'.get? b=some J)
  (F:∀b xs,H b=some (.tup xs)->g b=some (.tup xs)) (N:∀b o u,H b=some (.frz o u)->g b=some (.frz o u)) (G:∀b O,H b=some (.tbl O)->g b=some (.tbl O))
  (ns:∀m,s.heap.Ns X.env.locals m->h'.Ns X.env.locals m) (S:LL X.prog X.w g h') (hg:AllBare g') :
  Inv X f σ g { s with heap:=h',gens:=g',drawn:=d',toks:=t' }:=by
 have L:∀b o,X.s₀.heap.get? b=some o->b≠X.env.locals:=λb o e=>Qj (Qo (QT e) I.ok.above);have Z:∀b o,X.s₀.heap.get? b=some o->b∉X.ex->b∉ch:=λb o e h hb=>by rcases(j b hb).1 with z|z;exact h z;exact absurd (Qo (QT e) z) (qR _)
 have Y:∀x c,X.env.cells.lookup x=some c->∀v,s.heap.IsCell c v->h'.IsCell c v:=λx c e v ⟨o,C,hd⟩=>by have y:c∉ch:=λz=>(j c z).2.2.1 x c e rfl;by_cases hc:c∈X.fs;obtain⟨R,q⟩:=W c o (I.cne x c e) hc y C (I.freeC x c e);exact⟨_,q,hd⟩;exact⟨o,keep c o (I.cne x c e) hc y C (I.freeC x c e),hd⟩
 refine⟨I.ok,I.os,hg,⟨λb o e n hb h=>?_,λb o e n hb h=>?_,λb o e n h=>?_,λb o e h=>?_,λb xs e=>F b xs (I.base.tups b xs e),λb o xs e=>N b o xs (I.base.frzs b o xs e),λb O e=>?_⟩,?_,λx c e=>?_,?_,λx c e=>?_,λp hp=>?_,S,I.len⟩;exact keep b o (L b o e) hb (Z b o e h) (I.base.keep b o e n hb h) (I.base.free b o e n h);obtain⟨R,B⟩:=I.base.slot b o e n hb h;obtain⟨P,e2⟩:=W b _ (L b o e) hb (Z b o e h) B (I.base.free b o e n h);exact⟨P,e2⟩;obtain⟨J,B⟩:=I.base.there b o e h;exact free b J (Z b o e h) B (I.base.free b o e n h);obtain⟨J,B⟩:=I.base.there b o e h;exact K b J (Z b o e h) B;exact G b _ (I.base.tbls b O e);obtain⟨m,hn,hl⟩:=I.loc;refine⟨m,ns m hn,λi x v B e2 e3=>?_⟩;obtain⟨u,r,l⟩:=hl i x v B e2 e3;refine⟨u,r,?_⟩;rcases l with l|⟨k,c,e,z⟩
 exact .inl l;exact .inr ⟨k,c,e,Y x c e _ z⟩;obtain⟨v,z⟩:=I.cell x c e;exact⟨v,Y x c e v z⟩;obtain⟨m,⟨o,_,_,C,_⟩,_⟩:=I.loc;exact free _ o (λz=>(j _ z).2.1 rfl) C I.free;obtain⟨v,o,C,hd⟩:=I.cell x c e;exact free c o (λz=>(j c z).2.2.1 x c e rfl) C (I.freeC x c e);obtain⟨e,n,ne,nf,d⟩:=I.pin p hp;have y:p.1∉ch:=λz=>(j p.1 z).2.2.2 p hp rfl;exact⟨keep p.1 p.2 ne nf y e n,free p.1 p.2 y e n,ne,nf,d⟩
theorem Inv.un{t':Nat}(I:Inv X f σ H s)(u:Un X.fs [] H g s.heap h')(y:LL X.prog X.w g h'):Inv X f σ g { s with heap:=h',toks:=t' }:=by obtain⟨m,⟨o,K,B,j,r⟩,_⟩:=id I.loc;obtain⟨Y,q⟩:=u.any j I.free (by simp);exact I.step (g':=s.gens) (d':=s.drawn) (ch:=[]) (λ_ z=>nomatch z) (λb o _ hb _ e n=>u.keep b o e n hb (by simp)) (λb o _ hb _ e n=>u.slot b o e n hb (by simp)) (λb o _ e n=>u.free b o e n (by simp)) (λb o _ e=>u.there b o e (by simp)) u.tups u.frzs u.tbls (λW p=>by obtain⟨Z,v,k,h,l⟩:=p;rw[j]at h;cases h;exact⟨_,v,k,q,l⟩) y I.bare
theorem Inv.call{t':Nat}{d':Drawn}(I:Inv X f σ H s)(u:Un (uY X.stack) ch H g s.heap h')(v:LL X.prog X.w g h')(W:AllBare g')
  (y:∀b∈ch,(b∈X.ex∨X.s₀.heap.objs.size<=b)/\b≠X.env.locals/\(∀x c,X.env.cells.lookup x=some c->c≠b)/\∀p∈X.pn++f,p.1≠b) :
  Inv X f σ g { s with heap:=h',gens:=g',drawn:=d',toks:=t' }:=by
 obtain⟨m,⟨o,F,G,q,r⟩,_⟩:=id I.loc;obtain⟨K,k⟩:=u.any q I.free λz=>(y _ z).2.1 rfl;exact I.step (ch:=ch) y (λb o k hb hc e n=>u.keep b o e n (λz=>(QL.mp (I.stkSub b z)).elim k hb) hc) (λb o _ _ hc e n=>u.any e n hc) (λb o hc e n=>u.free b o e n hc) (λb o hc e=>u.there b o e hc) u.tups u.frzs u.tbls (λC Z=>by obtain⟨B,j,l,h,Y⟩:=Z;rw[q]at h;cases h;exact⟨_,j,l,k,Y⟩) v W
theorem Inv.turned{t':Nat}{it:Addr}(I:Inv X f σ H s)(k:∀b o,b≠it->s.heap.get? b=some o->h'.get? b=some o)(j:H it=none)(y:it≠X.env.locals)
  (W:it∈X.ex∨X.s₀.heap.objs.size<=it) (Z:∀x c,X.env.cells.lookup x=some c->c≠it) (Y:∀p∈X.pn++f,p.1≠it):Inv X f σ H { s with heap:=h',toks:=t' }:=by
 have h:∀b u,H b=some u->b≠it:=λb u e z=>by rw[z,j]at e;cases e
 refine I.step (g':=s.gens) (d':=s.drawn) (ch:=[it]) (λb hb=>?_) (λb o _ _ hc e _=>k b o (λz=>hc (by simp[z])) e) (λb o _ _ hc e _=>⟨o.slots,k b o (λz=>hc (by simp[z])) e⟩) (λ_ _ _ _ n=>n)
  (λb o hc e=>⟨o,k b o (λz=>hc (by simp[z])) e⟩) (λ_ _ e=>e) (λ_ _ _ e=>e) (λ_ _ e=>e) (λm l=>?_) (λb u e=>?_) I.bare
 have e:b=it:=by simpa using hb
 subst e;exact⟨W,y,Z,Y⟩;obtain⟨o,K,B,w,r⟩:=l;exact⟨o,K,B,k _ o (Q3 y) w,r⟩;refine(I.hok b u e).stay (λc v hc q=>k c v ?_ q) (λ_ q=>q) λ_ _ q=>q;rcases hc with z|z;rw[z];exact h b u e;exact h c _ z
theorem Inv.tok(I:Inv X f σ H s)(t:Nat):Inv X f σ H { s with toks:=t }:=I.un (h':=s.heap) (t':=t) Un.refl I.hok
theorem Inv.kept{t':Nat}(I:Inv X f σ H s)(k:∀b u,s.heap.get? b=some u->h'.get? b=some u):Inv X f σ H { s with heap:=h',toks:=t' }:=I.un (Un.kept k) (I.hok.kept k)
theorem Inv.laid{o:HO}{t':Nat}(I:Inv X f σ H s)(k:∀b u,s.heap.get? b=some u->h'.get? b=some u)(h:s.heap.objs.size<=a)(new:BA X.prog X.w (DA H a o) h' a o) :
  Inv X f σ (DA H a o) { s with heap:=h',toks:=t' }:=I.un (Un.laid k h (I.hok.fresh h)) (I.hok.laid k h new)
theorem Inv.write{x e:Addr}{o:HO}{t':Nat}(I:Inv X f σ H s)(y:Um (H x))(z:e=x∨H e=some (.own x))(k:∀b u,b≠e->s.heap.get? b=some u->h'.get? b=some u)(h:∃u,h'.get? e=some u)
  (new:BA X.prog X.w (DA H x o) h' x o):Inv X f σ (DA H x o) { s with heap:=h',toks:=t' }:=I.un (Un.write y z k h) (I.hok.write y z k h new)
theorem Inv.pins_of{y:OB}(I:Inv X f σ H s)(h:∀p∈y,s.heap.get? p.1=some p.2/\H p.1=none/\p.1≠X.env.locals/\p.1∉X.fs/\∀v,p.2.data≠.cell v):Inv X y σ H s :=
 ⟨I.ok,I.os,I.bare,I.base,I.loc,I.cell,I.free,I.freeC,λp w=>(Qf.mp w).elim (λz=>I.pin p (Qn _ z)) (h p),I.hok,I.len⟩
theorem YS{N:LS}(h:N.Nodup){j:Nat}(a:N[i]?=some x)(b:N[j]?=some x):i=j:=by obtain⟨w,z⟩:=Qg.mp a;obtain⟨v,y⟩:=Qg.mp b;exact(List.getElem_inj h).mp (z.trans y.symm)
theorem KO{v:V}(I:Inv X f σ H s)(hN:X.N.Nodup)(O:X.N[i]?=some x)(W:Bm X.env.scope x)(r:rA v u)
  (h:∀s',Inv X f (σ.set i (some v)) H s'->(∃a,qX a s.heap s'.heap/\(a=X.env.locals∨X.env.cells.lookup x=some a))->Q () s') (hf:X.fn x=true∨X.env.scope.names.lookup x=some .local):wpAny M A (storeName X.env x u) Q E s:=by
 obtain⟨m,hn,hl⟩:=id I.loc;have P:(X.env.scope.kind==.class||(X.env.scope.kind==.module&&X.env.locals != X.env.globals))=false:=by rw[I.ok.kind];rfl
 have C:i<σ.length:=by rw[I.len];exact(Qg.mp O).1
 have cne:=I.cne;have Y:∀{a:Addr}{h':Heap},(∃o,s.heap.get? a=some o/\H a=none)->qX a s.heap h'->LL X.prog X.w H h':=λ{a h'} ha l b ob e=>by obtain⟨_,_,K⟩:=ha;refine(I.hok b ob e).stay (λc w' hc q=>(l.2 c ?_).trans q) (λ_ q=>q) λ_ _ q=>q;rintro rfl;rcases hc with rfl|hc;rw[K]at e;cases e;rw[K]at hc;cases hc
 rcases W with hk|hk;refine wpAny_storeName_local hk hn (λh' hn' l=>?_) P;obtain⟨oL,_,_,hoL,_⟩:=id hn;refine h _ ⟨I.ok,I.os,I.bare,⟨λb o e n hb W=>?_,λb o e n hb W=>?_,I.base.free,λb o e W=>?_,I.base.tups,I.base.frzs,I.base.tbls⟩,⟨_,hn',λj y v' Z B e3=>?_⟩,λy c e=>?_,I.free,I.freeC,λp hp=>?_,Y ⟨oL,hoL,I.free⟩ l,by simpa using I.len⟩ ⟨_,l,.inl rfl⟩;exact(l.2 b (Qj (Qo (QT e) I.ok.above))).trans (I.base.keep b o e n hb W);obtain⟨sl,Z⟩:=I.base.slot b o e n hb W;exact⟨sl,(l.2 b (Qj (Qo (QT e) I.ok.above))).trans Z⟩;obtain⟨o',Z⟩:=I.base.there b o e W;exact⟨o',(l.2 b (Qj (Qo (QT e) I.ok.above))).trans Z⟩;by_cases F:j=i
 ·subst F
  rw[O]at Z;cases Z;rw[qh C]at B;cases B;exact⟨u,r,.inl ⟨hk,by simp⟩⟩
 rw[qT (Q3 F)]at B;obtain⟨u',r',q⟩:=hl j y v' Z B e3;refine⟨u',r',?_⟩;rcases q with⟨k,e⟩| ⟨k,c,e,z⟩
 refine .inl ⟨k,?_⟩;have:y≠x:=λe=>F (YS hN Z (e▸O));simp[this,e];exact .inr ⟨k,c,e,z.sameBut l (cne y c e)⟩;obtain⟨w',z⟩:=I.cell y c e;exact⟨w',z.sameBut l (cne y c e)⟩;obtain⟨e,n,ne,nf,d⟩:=I.pin p hp;exact⟨(l.2 p.1 ne).trans e,n,ne,nf,d⟩;have G:X.fn x=true:=by rcases hf with z|z;exact z;rw[z]at hk;cases hk
 obtain⟨c,hc⟩:=I.ok.has x (.inl hk);obtain⟨w',z⟩:=I.cell x c hc;refine wpAny_storeName_cell I.ok.kind hk hc z (λh' S l=>?_);obtain⟨oc,L,J⟩:=id z;refine h { s with heap:=h' } ⟨I.ok,I.os,I.bare,⟨λb o e n hb W=>?_,λb o e n hb W=>?_,I.base.free,λb o e W=>?_,I.base.tups,I.base.frzs,I.base.tbls⟩,⟨m,hn.sameBut l (Q3 (cne x c hc)),λj y v' Z B e3=>?_⟩,λy c' e=>?_,I.free,I.freeC,λp hp=>?_,Y ⟨oc,L,I.freeC x c hc⟩ l,by simpa using I.len⟩ ⟨c,l,.inr hc⟩;exact(l.2 b (Qj (Qo (QT e) (I.ok.cab x c G hc)))).trans (I.base.keep b o e n hb W);obtain⟨sl,Z⟩:=I.base.slot b o e n hb W;exact⟨sl,(l.2 b (Qj (Qo (QT e) (I.ok.cab x c G hc)))).trans Z⟩;obtain⟨o',Z⟩:=I.base.there b o e W;exact⟨o',(l.2 b (Qj (Qo (QT e) (I.ok.cab x c G hc)))).trans Z⟩;by_cases F:j=i
 ·subst F
  rw[O]at Z;cases Z;rw[qh C]at B;cases B;exact⟨u,r,.inr ⟨.inl hk,c,hc,S⟩⟩
 rw[qT (Q3 F)]at B;obtain⟨u',r',q⟩:=hl j y v' Z B e3;refine⟨u',r',?_⟩;rcases q with q|⟨k,c',e,z'⟩
 exact .inl q;refine .inr ⟨k,c',e,z'.sameBut l ?_⟩;rintro rfl;exact F (YS hN Z (I.ok.inj _ _ _ e hc▸O));by_cases R:c'=c
 ·subst R;exact⟨_,S⟩
 obtain⟨w2,z2⟩:=I.cell y c' e;exact⟨w2,z2.sameBut l R⟩;obtain⟨e,n,ne,nf,d⟩:=I.pin p hp;refine⟨(l.2 p.1 ?_).trans e,n,ne,nf,d⟩;intro q;rw[q,L]at e;have q':oc=p.2:=Qk e;exact d w' (by rw[<- q'];exact J)
theorem PR{v:V}(I:Inv X f σ H s)(k:X.N.Nodup)(z:X.N[i]?=some x)(y:Bm X.env.scope x)(r:rA v u)
  (h:∀s',Inv X f (σ.set i (some v)) H s'->Q () s') (w:X.fn x=true∨X.env.scope.names.lookup x=some .local):wpAny M A (storeName X.env x u) Q E s :=
 KO I k z y r (λs' b _=>h s' b) w
theorem Inv.call'{s':Shared}(I:Inv X f σ H s)(v:s'.os=s.os)(u:Un (uY X.stack) ch H g s.heap s'.heap)(h:LL X.prog X.w g s'.heap)(k:AllBare s'.gens)
  (y:∀b∈ch,(b∈X.ex∨X.s₀.heap.objs.size<=b)/\b≠X.env.locals/\(∀x c,X.env.cells.lookup x=some c->c≠b)/\∀p∈X.pn++f,p.1≠b):Inv X f σ g s':=by
 obtain⟨h',g',d',t',z⟩:=s';have e:z=s.os:=v;subst e;exact I.call (g':=g') (t':=t') (d':=d') u h k y
end
end
noncomputable abbrev XK:=Value->Option Addr->Hp->Prop
noncomputable abbrev St:=List (Option V)
noncomputable abbrev VK:=V->Hp->Prop
noncomputable abbrev TE:=St->Hp->VK->Prop
noncomputable abbrev TT:=St->Hp->(Bool->Hp->Prop)->Prop
noncomputable abbrev TA:=St->Hp->(LV->Hp->Prop)->Prop
structure Ends where
 nx:St->Hp->Prop
 rt:VK
 bk:St->Hp->Prop:=λ_ _=>False
 ct:St->Hp->Prop:=λ_ _=>False
noncomputable abbrev TS:=Ends->St->Hp->Prop
def EP(X:Cx)(h:OB)(σ:St)(Q:VK)(u:Value)(s':Shared):Prop:=∃v x,Inv X h σ x s'/\rA v u/\Q v x
def TP(X:Cx)(h:OB)(σ:St)(Q:Bool->Hp->Prop)(b:Bool)(s':Shared):Prop:=∃x,Inv X h σ x s'/\Q b x
def AP(X:Cx)(h:OB)(σ:St)(Q:LV->Hp->Prop)(us:LW)(s':Shared):Prop:=∃x y,Inv X h σ y s'/\lA x us/\Q x y
def SP(X:Cx)(x:OB)(D:Ends)(f:Flow)(s':Shared):Prop :=
 match f with
 | .next=>∃h y,Inv X x h y s'/\D.nx h y|.brk=>∃h y,Inv X x h y s'/\D.bk h y|.cont=>∃h y,Inv X x h y s'/\D.ct h y|.ret u=>∃v h y,Inv X x h y s'/\rA v u/\D.rt v y
def PE(X:Cx)(e:Expr)(t:TE):Prop :=
 ∀(h:OB) (s:Shared) (x:St) (H:Hp) (Q:VK),Inv X h x H s->t x H Q->wpAny (model X.prog X.w) X.A (eval e X.env) (EP X h x Q) X.xe s
def PT(X:Cx)(e:Expr)(t:TT):Prop :=
 ∀(h:OB) (s:Shared) (x:St) (H:Hp) (Q:Bool->Hp->Prop),Inv X h x H s->t x H Q->wpAny (model X.prog X.w) X.A (isTrue e X.env (eval e X.env)) (TP X h x Q) X.xe s
def PW(X:Cx)(e:Expr)(t:TT):Prop :=
 ∀(x:Sem Value) (h:OB) (s:Shared) (y:St) (H:Hp) (Q:Bool->Hp->Prop),Inv X h y H s->t y H Q->wpAny (model X.prog X.w) X.A (isTrue e X.env x) (TP X h y Q) X.xe s
theorem PW.pt{X:Cx}{e:Expr}{t:TT}(h:PW X e t):PT X e t:=h _
def PA(X:Cx)(es:List Expr)(t:TA):Prop :=
 ∀(y:Pos) (h:OB) (s:Shared) (x:St) (H:Hp) (Q:LV->Hp->Prop),Inv X h x H s->t x H Q->wpAny (model X.prog X.w) X.A (spliced (backTo y (starEach es X.env))) (AP X h x Q) X.xe s
def PS(X:Cx)(st:Stmt)(t:TS):Prop :=
 ∀(h:OB) (s:Shared) (x:St) (H:Hp) (D:Ends),Inv X h x H s->t D x H->wpAny (model X.prog X.w) X.A (exec st X.env) (SP X h D) X.xe s
def HW(X:Cx)(st:List Stmt)(t:TS):Prop :=
 ∀(h:OB) (s:Shared) (x:St) (H:Hp) (D:Ends),Inv X h x H s->t D x H->wpAny (model X.prog X.w) X.A (execs st X.env) (SP X h D) X.xe s
theorem HB{α:Type}{t:Sem α}{Q y:α->Shared->Prop}{M:Model}{A:Around}{E:gC}{s:Shared}(h:wpAny M A t Q E s)(z:∀a s,Q a s->y a s):wpAny M A t y E s:=qw h z λ_ _ x=>x
section
variable{X:Cx}
section
variable{z:OB}{s:Shared}{σ:St}{H:Hp}{x:Str}{pos:Pos}{E Q:gC}{u:Value}
theorem bin{a b:Expr}{ta d:TE}(r:PE X a ta)(hb:PE X b d){R:V->V->Hp->Prop}(I:Inv X z σ H s)(h:ta σ H λx j=>d σ j λy k=>R x y k)
  {α:Type}{Q:α->Shared->Prop}{f:Value->Value->Sem α}
  (q:∀v u i x y k,Inv X z σ k i->rA x v->rA y u->R x y k->wpAny (model X.prog X.w) X.A (f v u) Q X.xe i) :
  wpAny (model X.prog X.w) X.A (eval a X.env) (λv g=>wpAny (model X.prog X.w) X.A (eval b X.env) (λu e=>wpAny (model X.prog X.w) X.A (f v u) Q X.xe e) X.xe g) X.xe s:=by
 refine HB (r z s σ H _ I h) λv l ⟨x,j,Z,n,p⟩=>?_;refine HB (hb z l σ j _ Z p) λu i ⟨y,k,Y,m,o⟩=>?_;exact q v u i x y k Y n m o
def ft(i:Nat):TE:=λσ H Q=>∃v,σ[i]?=some (some v)/\Q v H
def tC(v:V):TE:=λ_ H Q=>Q v H
theorem x5{i:Nat}(f:X.N[i]?=some x)(hv:Nq X.env.scope x)(w:(x==("__debug__":Str))=false:=by decide)(k:(x==("__classdict__":Str))=false:=by decide):PE X (.Name x pos) (ft i):=by
 intro z s σ H Q I h;obtain⟨v,e,h⟩:=h;obtain⟨m,a,hl⟩:=I.loc;obtain⟨u,r,l⟩:=hl i x v f e hv;have fin:EP X z σ Q u s:=⟨v,H,I,r,h⟩
 rcases l with⟨hk,b⟩| ⟨hk,c,hc,y⟩
 exact QA9 (QBA I.ok.kind hk a b fin) w;rcases hk with hk|hk
 ·exact QA9 (wpAny_loadName_cell I.ok.kind hk hc y fin) w
 exact QA9 (QBN I.ok.kind hk hc y fin k) w
theorem vV{i j pos}:PE X (.Constant (.int i) j pos) (tC (.int i)):=λ_ _ _ H _ I h=>QBc ⟨.int i,H,I.tok _,⟨_,rfl⟩,h⟩
theorem Ke{b j pos}:PE X (.Constant (.bool b) j pos) (tC (.bl b)):=λ_ _ _ H _ I h=>Constant_bool ⟨.bl b,H,I,rfl,h⟩
theorem m5{j pos}:PE X (.Constant .none j pos) (tC .non):=λ_ _ _ H _ I h=>Constant_none ⟨.non,H,I,rfl,h⟩
theorem Yi{x j pos}:PE X (.Constant (.str x) j pos) (tC (.str x)):=λ_ _ _ H _ I h=>Calls.Constant_str ⟨.str x,H,I.tok _,⟨_,rfl⟩,h⟩
def Gl(X:Cx)(x:Str):Prop:=X.env.kindOf x=some .globalImplicit
theorem GQ(I:Inv X z σ H s)(v:Gl X x)(y:X.mg x=some u)(h:Q u s)
  (k:(x==("__debug__":Str))=false:=by decide):wpAny (model X.prog X.w) X.A (eval (.Name x pos) X.env) Q E s :=
 QAA I.ok.kind v (Calls.loadGlobal_global (by rw[I.ok.glob];exact I.mod.glob.keeps I.bk) y h) k
theorem xE(I:Inv X z σ H s)(k:Gl X x)(v:X.mg x=none)(hv:bootBuiltins x=some u)(h:Q u s)
  (y:x≠"__name__":=by decide) (a:(x==("__debug__":Str))=false:=by decide):wpAny (model X.prog X.w) X.A (eval (.Name x pos) X.env) Q E s:=by
 obtain⟨f,e,b⟩:=I.mod.blt;exact QAA I.ok.kind k (Calls.loadGlobal_builtin (by rw[I.ok.glob];exact I.mod.glob.keeps I.bk) v (by rw[I.ok.blt];exact e.keeps I.bk) ((b x y).trans hv) h) a
theorem Ga{v:V}(w:Gl X x)(y:X.mg x=some u)(r:rA v u)(k:(x==("__debug__":Str))=false:=by decide):PE X (.Name x pos) (tC v) :=
 λ_ _ _ H _ I h=>GQ I w y ⟨v,H,I,r,h⟩ k
theorem Pa{v:V}(k:Gl X x)(w:X.mg x=none)(hv:bootBuiltins x=some u)(r:rA v u)(y:x≠"__name__":=by decide)(a:(x==("__debug__":Str))=false:=by decide):PE X (.Name x pos) (tC v) :=
 λ_ _ _ H _ I h=>xE I k w hv ⟨v,H,I,r,h⟩ y a
end
variable{a b:Expr}{ta d:TE}{pos:Pos}
variable{g n:TT}{k:List Expr}
def Dt(t u:TT):TT:=λh H Q=>t h H λc x=>if c=true then u h x Q else Q false x
def uy(t u:TT):TT:=λh H Q=>t h H λc x=>if c=true then Q true x else u h x Q
def Kt(t:TT):TT:=λh H Q=>t h H λc x=>Q (!c) x
theorem da(z:PT X a g):PW X (.BoolOp .And [a] pos) g:=by
 intro u x s y H Q I h;refine isTrue_and (HB (z x s y H Q I h) λc v e=>?_);cases c with|true=>exact isTrue_and_nil e|false=>exact e
theorem Sh(z:PT X a g):PW X (.BoolOp .Or [a] pos) g:=by
 intro u x s y H Q I h;refine isTrue_or (HB (z x s y H Q I h) λc v e=>?_);cases c with|false=>exact isTrue_or_nil e|true=>exact e
theorem P4(f:PT X a g)(hb:PW X (.BoolOp .And (b::k) pos) n):PW X (.BoolOp .And (a::b::k) pos) (Dt g n):=by
 intro w x s y H Q I h;refine isTrue_and (HB (f x s y H _ I h) λc e ⟨v,u,z⟩=>?_);cases c with|true=>exact hb w x e y v Q u z|false=>exact⟨v,u,z⟩
theorem se(f:PT X a g)(hb:PW X (.BoolOp .Or (b::k) pos) n):PW X (.BoolOp .Or (a::b::k) pos) (uy g n):=by
 intro w x s y H Q I h;refine isTrue_or (HB (f x s y H _ I h) λc e ⟨v,u,z⟩=>?_);cases c with|true=>exact⟨v,u,z⟩|false=>exact hb w x e y v Q u z
theorem Th(z:PT X a g):PT X (.UnaryOp .Not a pos) (Kt g):=by intro x s y H Q I h;exact isTrue_not (z x s y H (λc u=>Q (!c) u) I h)
def Fn(ta d:TE):TE:=λh H Q=>ta h H λx y=>∃c,x=.bl c/\if c=true then d h y Q else Q (.bl false) y
def Zt(ta d:TE):TE:=λh H Q=>ta h H λx y=>∃c,x=.bl c/\if c=true then Q (.bl true) y else d h y Q
theorem c5{op}{t:TE}(h:PE X a t):PE X (.BoolOp op [a] pos) t:=λx s y H Q I z=>BoolOp_one (h x s y H Q I z)
theorem i5(j:PE X a ta)(hb:PE X (.BoolOp .And (b::k) pos) d):PE X (.BoolOp .And (a::b::k) pos) (Fn ta d):=by
 intro y s u H Q I h;refine BoolOp_and (HB (j y s u H _ I h) λv f ⟨x,e,w,i,z⟩=>?_);obtain⟨c,rfl,z⟩:=z;cases i;refine wT ?_;cases c with|true=>exact hb y f u e Q w z|false=>exact⟨.bl false,e,w,rfl,z⟩
theorem Ze(j:PE X a ta)(hb:PE X (.BoolOp .Or (b::k) pos) d):PE X (.BoolOp .Or (a::b::k) pos) (Zt ta d):=by
 intro y s u H Q I h;refine BoolOp_or (HB (j y s u H _ I h) λv f ⟨x,e,w,i,z⟩=>?_);obtain⟨c,rfl,z⟩:=z;cases i;refine wT ?_;cases c with|false=>exact hb y f u e Q w z|true=>exact⟨.bl true,e,w,rfl,z⟩
end
def pC(K:QA)(H:Hp)(a:Addr)(xs:LV):Prop :=
 Rd H a (.lst xs) ∨
  ∃(o:Obj) (h:Array Value) (n:Nat),K.lookup a=some o/\o.cls=.type "list"/\o.dict=none/\o.data=.seq h n/\h.size<=sizeLine/\lA xs h.toList
def nE(K:QA)(H:Hp)(a:Addr)(xs:LV):Prop :=
 Rd H a (.tup xs) ∨
  ∃(o:Obj) (h:Array Value) (n:Nat),K.lookup a=some o/\o.cls=.type "tuple"/\o.data=.seq h n/\h.size<=sizeLine/\lA xs h.toList
noncomputable def XN:Value->Option V
 | .none=>some .non|.bool b=>some (.bl b)|.int i _=>some (.int i)|.str x _=>some (.str x)|.bytes b _=>some (.byt b)|.float b _=>some (.flt b)|.ref a=>some (.ref a)|.type n=>some (.ty n)|_=>none
theorem rA.abs{x:V}{u:Value}(r:rA x u):XN u=some x:=by
 cases x with|non=>cases r;rfl|bl _=>cases r;rfl|int _=>obtain⟨t,rfl⟩:=r;rfl|str _=>obtain⟨t,rfl⟩:=r;rfl|byt _=>obtain⟨t,rfl⟩:=r;rfl|flt _=>obtain⟨t,rfl⟩:=r;rfl|ref _=>cases r;rfl|ty _=>cases r;rfl
theorem rA.inj{x y:V}{u:Value}(r:rA x u)(q:rA y u):x=y:=Qk (r.abs.symm.trans q.abs)
theorem lA.inj:∀{xs h:LV}{us:LW},lA xs us->lA h us->xs=h
 |_,_,_,.nil,.nil=>rfl|_,_,_,.cons r t,.cons r' t'=>by rw[r.inj r',lA.inj t t']
section
variable{X:Cx}{x:OB}{σ:St}{H:Hp}{s:Shared}{a:Addr}{xs y:LV}
theorem pC.of{K:QA}(h:H a=some (.lst xs)):pC K H a xs:=.inl (.inl h)
theorem nE.of{K:QA}(h:H a=some (.tup xs)):nE K H a xs:=.inl (.inl h)
theorem Inv.list(I:Inv X x σ H s)(h:pC X.K H a xs):∃its:LW,lA xs its/\PlainL s.heap a its.toArray/\xs.length<=sizeLine:=by
 rcases h with h|⟨o,its,n,hk,hc,v,u,w,r⟩
 obtain⟨z,its,n,r,e⟩:=h.ok I.hok;exact⟨its,r,⟨_,n,e,rfl,rfl,rfl⟩,z⟩;refine⟨its.toList,r,⟨o,n,I.kIn a o hk,hc,v,by simpa using u⟩,?_⟩;have e:=r.length;simp only[Qx]at e;omega
theorem Inv.tuple(I:Inv X x σ H s)(h:nE X.K H a xs):∃its:LW,lA xs its/\IsTup s.heap a its.toArray/\xs.length<=sizeLine:=by
 rcases h with h|⟨o,its,n,hk,hc,u,v,r⟩
 obtain⟨z,its,r,p⟩:=h.ok I.hok;exact⟨its,r,p,z⟩;refine⟨its.toList,r,⟨o,I.kIn a o hk,hc,n,by simpa using u⟩,?_⟩;have e:=r.length;simp only[Qx]at e;omega
theorem Inv.list_inj(I:Inv X x σ H s)(h:pC X.K H a xs)(h':pC X.K H a y):xs=y:=by
 obtain⟨u,r,⟨o,n,e,_,_,d⟩,_⟩:=I.list h;obtain⟨z,k,⟨b,f,v,_,_,w⟩,_⟩:=I.list h';rw[e]at v;cases v;rw[d]at w;injection w with d1 _;have:u=z:=by simpa using congrArg Array.toList d1
 subst this;exact r.inj k
theorem Inv.tuple_inj(I:Inv X x σ H s)(h:nE X.K H a xs)(h':nE X.K H a y):xs=y:=by
 obtain⟨u,r,⟨o,e,_,n,d⟩,_⟩:=I.tuple h;obtain⟨z,k,⟨b,v,_,f,w⟩,_⟩:=I.tuple h';rw[e]at v;cases v;rw[d]at w;injection w with d1 _;have:u=z:=by simpa using congrArg Array.toList d1
 subst this;exact r.inj k
end
noncomputable abbrev Cx.wish(X:Cx)(E:gC):Cx:={ X with xe:=E }
noncomputable abbrev Cx.nox(X:Cx):Cx:=X.wish λ_ _=>False
theorem Cx.Ok.wish{X:Cx}(ok:X.Ok)(E:gC):(X.wish E).Ok :=
 ⟨ok.mod,ok.kind,ok.glob,ok.blt,ok.above,ok.inj,ok.has,ok.cab,ok.hd,ok.frames,ok.stk,ok.exf,ok.bs,ok.bsz,ok.noex,ok.exfs,ok.funs,ok.frf,ok.tb⟩
theorem Cx.Ok.unwish{X:Cx}{E:gC}(ok:(X.wish E).Ok):X.Ok :=
 ⟨ok.mod,ok.kind,ok.glob,ok.blt,ok.above,ok.inj,ok.has,ok.cab,ok.hd,ok.frames,ok.stk,ok.exf,ok.bs,ok.bsz,ok.noex,ok.exfs,ok.funs,ok.frf,ok.tb⟩
section
variable{X:Cx}{x:OB}{σ:St}{H:Hp}{s:Shared}{E:gC}
theorem Inv.wish(I:Inv X x σ H s)(E:gC):Inv (X.wish E) x σ H s:=⟨I.ok.wish E,I.os,I.bare,I.base,I.loc,I.cell,I.free,I.freeC,I.pin,I.hok,I.len⟩
theorem Inv.unwish(I:Inv (X.wish E) x σ H s):Inv X x σ H s:=⟨I.ok.unwish,I.os,I.bare,I.base,I.loc,I.cell,I.free,I.freeC,I.pin,I.hok,I.len⟩
theorem SP.unwish{D:Ends}{f:Flow}{s':Shared}(h:SP (X.wish E) x D f s'):SP X x D f s':=by
 cases f with|next=>obtain⟨y,z,I,q⟩:=h;exact⟨y,z,I.unwish,q⟩|brk=>obtain⟨y,z,I,q⟩:=h;exact⟨y,z,I.unwish,q⟩|cont=>obtain⟨y,z,I,q⟩:=h;exact⟨y,z,I.unwish,q⟩|ret u=>obtain⟨v,y,z,I,r,q⟩:=h;exact⟨v,y,z,I.unwish,r,q⟩
theorem HW.nox{st:List Stmt}{t:TS}(h:HW X.nox st t):HW X st t:=λx s σ H D I y =>
 qw (h x s σ H D (I.wish _) y) (λ_ _ q=>q.unwish) λ_ _ z=>Qc z
end
section
variable{X:Cx}{st:Stmt}{y:List Stmt}{t u:TS}{e:Expr}{te:TE}{pos:Pos}
def Xn:TS:=λD h H=>D.nx h H
def Jt(t u:TS):TS:=λD h H=>t { D with nx:=u D } h H
theorem aa:HW X [] Xn:=λ_ _ x H _ I h=>Wz ⟨x,H,I,h⟩
theorem R4(b:PS X st t)(a:HW X y u):HW X (st::y) (Jt t u):=by
 intro x s w H D I h;refine QCC (HB (b x s w H { D with nx:=u D } I h) λf k q=>?_);cases f with|next=>obtain⟨z,i,g,q⟩:=q;exact a x k z i D g q|ret v=>exact q|brk=>exact q|cont=>exact q
theorem nX(w:PS X st t):HW X [st] t:=by
 intro x s z H D I h;refine QCC (HB (w x s z H D I h) λf k q=>?_);cases f with|next=>exact Wz q|ret v=>exact q|brk=>exact q|cont=>exact q
theorem Inv.quiet{h:OB}{σ:St}{H:Hp}{s:Shared}(I:Inv X h σ H s):interactive X.env=false:=by simp[interactive,I.ok.kind]
def Bn(te:TE):TS:=λD h H=>te h H λ_ x=>D.nx h x
theorem pX(b:PE X e te)(a:swapsWith e none pos.line X.env=pure false:=by rfl):PS X (.Expr e pos) (Bn te):=by intro z s w H D I h;exact wpAny_Expr_any (HB (b z s w H _ I h) λv i ⟨x,g,f,j,k⟩=>⟨w,g,f,k⟩) I.quiet a
def Yt(te:TE):TS:=λD h H=>te h H D.rt
theorem A4(b:PE X e te):PS X (.Return (some e) pos) (Yt te):=by intro z s w H D I h;exact wpAny_Return_some (HB (b z s w H _ I h) λv i ⟨x,g,f,k,a⟩=>⟨x,w,g,f,k,a⟩)
def Ut(c:TT)(t u:TS):TS:=λD h H=>c h H λb x=>if b=true then t D h x else u D h x
theorem Ko{c:Expr}{a b:List Stmt}{tc:TT}(hc:PT X c tc)(g:HW X a t)(hb:HW X b u):PS X (.If c a b pos) (Ut tc t u):=by
 intro x s z H D I h;refine wpAny_If (HB (hc x s z H _ I h) λd v ⟨f,k,w⟩=>?_);cases d with|true=>exact g x v z f D k w|false=>exact hb x v z f D k w
end
noncomputable abbrev TG:=V->St->Hp->(St->Hp->Prop)->Prop
noncomputable abbrev Tv:=LV->St->Hp->(St->Hp->Prop)->Prop
def PG(X:Cx)(h:Expr)(t:TG):Prop :=
 ∀(x:OB) (s:Shared) (z:St) (H:Hp) (v:V) (u:Value) (Q:St->Hp->Prop),Inv X x z H s->rA v u->t v z H Q ->
  wpAny (model X.prog X.w) X.A (assign h X.env u) (λ_ a=>∃y k,Inv X x y k a/\Q y k) X.xe s
def zx(X:Cx)(ts:List Expr)(t:Tv):Prop :=
 ∀(h:OB) (s:Shared) (y:St) (H:Hp) (z:LV) (u:LW) (Q:St->Hp->Prop),Inv X h y H s->lA z u->t z y H Q ->
  wpAny (model X.prog X.w) X.A (assignInOrder ((assignEach ts X.env).map (·.2)) u) (λ_ k=>∃x v,Inv X h x v k/\Q x v) X.xe s
noncomputable abbrev Ol:=V->V->V->Hp->(Hp->Prop)->Prop
def Dd(X:Cx)(t:Ol):Prop :=
 ∀(h:OB) (s:Shared) (x:St) (H:Hp) (o i v:V) (y z u:Value) (Q:Hp->Prop),Inv X h x H s->rA o y->rA i z->rA v u->t o i v H Q ->
  wpAny (model X.prog X.w) X.A (setItem y z u) (λ_ a=>∃k,Inv X h x k a/\Q k) X.xe s
section
variable{X:Cx}{pos:Pos}
section
variable{i:Nat}{x:Str}{e:Expr}{te:TE}
def kY(i:Nat):TG:=λv h H Q=>Q (h.set i (some v)) H
theorem tX(a:X.N.Nodup)(w:X.N[i]?=some x)(z:Bm X.env.scope x)(k:X.fn x=true∨X.env.scope.names.lookup x=some .local):PG X (.Name x pos) (kY i):=by intro y s f H v u Q I r h;exact QBo (PR I a w z r (λg b=>⟨_,H,b,h⟩) k)
def dv(K:QA)(n:Nat)(t:Tv):TG:=λv y H Q=>∃a h,v=.ref a/\nE K H a h/\h.length=n/\t h y H Q
theorem fi{es:List Expr}{k:Nat}{t:Tv}{n:Nat}(hc:X.calm=true)(h:zx X es t)
  (Y:(assignEach es X.env).length=n:=by rfl) (w:(assignEach es X.env).findIdx? (·.1)=none:=by rfl):PG X (.Tuple es k pos) (dv X.K n t):=by
 intro y s f H v u Q I r z;obtain⟨a,j,W,q,hl,z⟩:=z;subst W;cases r;obtain⟨l,g,p,B⟩:=I.tuple q;refine assign_Tuple_tuple (I.ok.hd hc) p (by simp[Y,<- hl,g.length]) w λZ m=>?_;have A:Inv X y f H { s with heap:=Z }:=I.kept (t':=s.toks) λb o e=>m b o (Qj (QT e)) e;exact h y _ f H j _ Q A (by simpa using g) z
def gv(y z:TE)(t:Ol):TG:=λv h H Q=>y h H λo k=>z h k λi w=>t o i v w λu=>Q h u
theorem si{o i:Expr}{b f:TE}{t:Ol}(Z:PE X o b)(W:PE X i f)(Y:Dd X t)
  (K:∀v,assign (.Subscript o i pos) X.env v=(do
   let w <- holding [v] (eval o X.env)
   let k <- holding [v,w] (eval i X.env)
   standAt pos
   holding [v,w,k] (setItem w k v)
   release [v,w,k] []):=by intro _;rfl):PG X (.Subscript o i pos) (gv b f t):=by
 intro z s a H v u Q I r h;rw[K];refine QC (qp (HB (Z z s a H _ I h) λw j ⟨x,G,C,m,q⟩=>?_));refine QC (qp (HB (W z j a G _ C q) λk g ⟨y,F,B,l,p⟩=>?_));refine QC (QBd (QC (qp (HB (Y z g a F x y v w k u _ B m l r p) λ_ J ⟨E,A,n⟩=>?_))));exact wpAny_release ⟨a,E,A,n⟩
def ph(te:TE)(g:TG):TS:=λD h H=>te h H λx y=>g x h y D.nx
theorem ji{z:Expr}{g:TG}(l:PE X e te)(j:PG X z g)(f:swapsWithSole [z] e pos.line X.env=pure false:=by rfl)(b:swappedStores [z] e X.env=pure none:=by rfl)
  (m:(assignEach [z] X.env).map (·.2)=[assign z X.env]:=by rfl):PS X (.Assign [z] e pos) (ph te g):=by
 intro y s u H D I h;refine wpAny_Assign_stores (HB (l y s u H _ I h) λv w ⟨x,o,n,k,a⟩=>?_) f b;rw[m];exact HB (j y w u o x v _ n k a) λ_ p q=>q
theorem Ah{pos':Pos}(l:X.N.Nodup)(f:X.N[i]?=some x)(a:Bm X.env.scope x)(j:PE X e te)(b:swapsWith e (some (.Name x pos')) pos.line X.env=pure false:=by rfl)(g:X.fn x=true∨X.env.scope.names.lookup x=some .local) :
  PS X (.Assign [.Name x pos'] e pos) (ph te (kY i)):=by
 intro z s u H D I h;refine wpAny_Assign_Name (HB (j z s u H _ I h) λv q ⟨y,o,n,w,k⟩=>?_) b;exact PR n l f a w (λp m=>⟨_,o,m,k⟩) g
end
end
section
variable{X:Cx}{pos:Pos}
noncomputable def K3(c:TT)(tb:TS):TS:=λD h H=>∃W:Nat->St->Hp->Prop,(∃m,W m h H)/\∀m h H,W m h H ->
 c h H λb z=>if b=true then ∃N:St->Hp->Prop,(∀x u,N x u->∃y,y < m/\W y x u)/\tb { D with nx:=N,ct:=N,bk:=D.nx } h z else D.nx h z
theorem T4{c:Expr}{body:List Stmt}{tc:TT}{tb:TS}(p:PassesOwn (model X.prog X.w) X.A X.env X.xe)(hc:PT X c tc)(hb:HW X body tb):PS X (.While c body [] pos) (K3 tc tb):=by
 intro y s B H D I h;obtain⟨W,⟨L,E⟩,k⟩:=h;refine wpAny_While (codeAny_whileLoop (λn J=>∃u K,Inv X y u K J/\W n u K) ?_ L ⟨B,H,I,E⟩);rintro n G ⟨z,Z,M,C⟩;refine wU p (HB (hc y G z Z _ M (k n z Z C)) λb F ⟨Y,r,g⟩=>?_);cases b with
 |true =>
  obtain⟨N,q,g⟩:=g;rw[if_pos rfl];refine wU p (HB (hb y F z Y _ r g) λf O e=>?_);cases f with|next=>obtain⟨x,a,o,j⟩:=e;obtain⟨l,m,i⟩:=q x a j;exact⟨l,m,x,a,o,i⟩|cont=>obtain⟨x,a,o,j⟩:=e;obtain⟨l,m,i⟩:=q x a j;exact⟨l,m,x,a,o,i⟩|brk=>exact e|ret v=>exact e
 |false=>rw[if_neg QG];exact Wz ⟨z,Y,r,g⟩
end
section
variable{s:Shared}{y:Expr}{P:Program}{w:World}{K:QA}
structure It where
 go:Nat->Hp->Prop
 yld:Nat->Hp->V->Hp->Prop
 stop:Nat->Hp->Prop
def VJ(X:Cx)(h:OB)(H:Hp)(b:Addr):Prop :=
 H b=none/\b≠X.env.locals/\b∉X.fs/\(b∈X.ex∨X.s₀.heap.objs.size<=b)/\(∀x c,X.env.cells.lookup x=some c->c≠b)/\∀p∈X.pn++h,p.1≠b
theorem Inv.fpOk{X:Cx}{h:OB}{σ:St}{H u:Hp}{b:Addr}(I:Inv X h σ H s)(hb:s.heap.objs.size<=b)(a:u b=none):VJ X h u b:=by refine⟨a,wm (Qo I.lt hb),I.nofs hb,.inr (QU I.sz hb),λx c e z=>?_,λp k z=>?_⟩;obtain⟨v,q⟩:=I.cell x c e;exact absurd (Qo q.lt (by rw[z];exact hb)) (qR _);exact absurd (Qo (QT (I.pin p k).1) (by rw[z];exact hb)) (qR _)
structure Turn0(P:Program)(w:World)(K:QA)(y:Expr)(J:It)(fp:List Addr)(it:Addr)(tn:Nat->Heap->Prop):Prop where
 mem:it∈fp
 obj:∀i h,tn i h->∀b∈fp,∃o,h.get? b=some o/\∀v,o.data≠.cell v
 keep:∀i h h',tn i h->(∀b∈fp,∀o,h.get? b=some o->h'.get? b=some o)->tn i h'
 item:∀(X:Cx),X.prog=P->X.w=w->X.K=K->X.calm=true->∀(i:Nat) (pins:OB) (s:Shared) (σ:St) (H:Hp) (E:gC),Inv X pins σ H s->(∀b∈fp,VJ X pins H b)->tn i s.heap->J.go i H ->
  wpAny (model P w) X.A (pyNext (.ref it)) (λr s1=>∃u,r=some u /\
   wpAny (model P w) X.A (letOwnedTupleGo y (.ref it) u) (λ_ s2=>∃x H',Inv X pins σ H' s2/\rA x u/\J.yld i H x H'/\tn (i+1) s2.heap/\∀b∈fp,H' b=none) E s1) E s
 done:∀(X:Cx),X.prog=P->X.w=w->X.K=K->X.calm=true->∀(i:Nat) (pins:OB) (s:Shared) (σ:St) (H:Hp) (E:gC),Inv X pins σ H s->(∀b∈fp,VJ X pins H b)->tn i s.heap->J.stop i H ->
  wpAny (model P w) X.A (pyNext (.ref it)) (λr s1=>r=none/\Inv X pins σ H s1) E s
structure Turn(P:Program)(w:World)(K:QA)(y:Expr)(J:It)(fp:List Addr)(it:Addr)(tn:Nat->Heap->Prop):Prop extends Turn0 P w K y J fp it tn where
 self:∀(A:Around) (i:Nat) (s:Shared) (Q:gC) (E:gC),tn i s.heap->Q (.ref it) s->wpAny (model P w) A (pyIter (.ref it)) Q E s
noncomputable abbrev TI:=St->Hp->(It->Hp->Prop)->Prop
def jw(X:Cx)(h:OB)(σ:St)(y:Expr)(R:It->Hp->Prop)(x:Value)(u:Shared):Prop :=
 ∃(it:Addr) (v:List Addr) (tn:Nat->Heap->Prop) (J:It) (z:Hp),x=.ref it/\Inv X h σ z u/\Turn X.prog X.w X.K y J v it tn/\tn 0 u.heap/\(∀b∈v,VJ X h z b)/\R J z
def PI(X:Cx)(y x:Expr)(u:TI):Prop :=
 ∀(h:OB) (s:Shared) (z:St) (H:Hp) (R:It->Hp->Prop),Inv X h z H s->u z H R ->
  wpAny (model X.prog X.w) X.A (eval x X.env) (λv k=>wpAny (model X.prog X.w) X.A (pyIter v) (jw X h z y R) X.xe k) X.xe s
def Iv(X:Cx)(h:OB)(σ:St)(y:Expr)(R:It->Hp->Prop)(x:Value)(u:Shared):Prop :=
 ∃(it:Addr) (v:List Addr) (tn:Nat->Heap->Prop) (J:It) (z:Hp),x=.ref it/\Inv X h σ z u/\Turn0 X.prog X.w X.K y J v it tn/\tn 0 u.heap/\(∀b∈v,VJ X h z b)/\R J z
def Ks(X:Cx)(y x:Expr)(u:TI):Prop :=
 ∀(h:OB) (s:Shared) (z:St) (H:Hp) (R:It->Hp->Prop),Inv X h z H s->u z H R ->
  wpAny (model X.prog X.w) X.A (eval x X.env) (λv k=>wpAny (model X.prog X.w) X.A (pyIter v) (Iv X h z y R) X.xe k) X.xe s
theorem PI.to0{X:Cx}{z:Expr}{k:TI}(h:PI X y z k):Ks X y z k:=λu s a H R I q =>
 qw (h u s a H R I q) (λv m f=>qw f (λb l ⟨it,g,tn,J,j,e,i,T,r⟩=>⟨it,g,tn,J,j,e,i,T.toTurn0,r⟩) λ_ _ x=>x) λ_ _ x=>x
theorem go_of{M:Model}{A:Around}{E:gC}{it:Addr}{u:Value}{o:Obj}{n:String}{vs:Array Value}{Q:Unit->Shared->Prop}(z:s.heap.get? it=some o)(hc:o.cls=.type n)(k:o.data=.fields vs)
    (v:["enumerate","zip","dict_itemiterator","dict_reverseitemiterator","odict_iterator","itertools.zip_longest","itertools.pairwise"].contains n=false) (x:Q () s):wpAny M A (letOwnedTupleGo y (.ref it) u) Q E s:=by
  unfold letOwnedTupleGo;cases y<;>first
    |exact QK x
    | (cases u<;>first
        |exact QK x
        | (refine QC (wpAny_load z ?_)
           rw[hc,k];show wpAny M A (if(["enumerate","zip","dict_itemiterator","dict_reverseitemiterator","odict_iterator","itertools.zip_longest","itertools.pairwise"].contains n&&vs[0]?==some (rawInt _))=true then _ else _) Q E s;rw[if_neg (by intro h;rw[v,QAI]at h;cases h)];exact QK x))
noncomputable def Lx(K:QA)(a:Addr):It :=
 ⟨λi H=>∃h x,pC K H a h/\h[i]?=some x,λi H x z=>z=H/\∀h,pC K H a h->h[i]?=some x,λi H=>∃h,pC K H a h/\h.length<=i⟩
noncomputable def Gx(K:QA)(a:Addr):It :=
 ⟨λi H=>∃h x,nE K H a h/\h[i]?=some x,λi H x z=>z=H/\∀h,nE K H a h->h[i]?=some x,λi H=>∃h,nE K H a h/\h.length<=i⟩
def cw(h:Int)(n:Nat):It:=⟨λi _=>i<n,λi H x z=>z=H/\x=.int (h+i),λi _=>n<=i⟩
theorem GY(a it:Addr):Turn P w K y (Lx K a) [it] it (λi h=>h.IsListIter it a i) where
 mem:=by simp
 obj:=λi h st b hb=>by
  have e:b=it:=by simpa using hb
  subst e;obtain⟨o,e,c,d⟩:=st;exact⟨o,e,λv z=>by rw[d]at z;cases z⟩
 keep:=λi h m st k=>st.at λo e=>k it (by simp) o e
 item:=by intro X W Y A hc i f s L H E I l st Z;subst W Y A;obtain⟨M,x,j,r⟩:=Z;obtain⟨q,n,p,Q⟩:=I.list j;obtain⟨u,S,O⟩:=n.get r;obtain⟨J,G,f2,F,C,B⟩:=l it (by simp);refine wpAny_pyNext_list_item st p.isList (x:=u) (by simpa using S) λm g N=>?_;have I1:Inv X f L H { s with heap:=m }:=I.turned (t':=s.toks) (λb o hb e=>(N.2 b hb).trans e) J G F C B;obtain⟨o,e,c,d⟩:=id g;exact⟨u,rfl,go_of (s:={ s with heap:=m }) e c d (by decide) ⟨x,H,I1,O,⟨rfl,λys R=>by rw[I.list_inj R j];exact r⟩,g,λb hb=>(l b hb).1⟩⟩
 done:=by intro X W Y A hc i f s L H E I l st Z;subst W Y A;obtain⟨M,j,r⟩:=Z;obtain⟨q,n,p,Q⟩:=I.list j;obtain⟨J,G,f2,F,C,B⟩:=l it (by simp);have hl:=n.length;exact wpAny_pyNext_list_end (I.ok.hd hc) st p.isList (by simp;omega) λm eb=>⟨rfl,I.turned (t':=s.toks) (λb o hb e=>eb b o hb e) J G F C B⟩
 self:=λ_ _ _ _ _ st h=>wpAny_pyIter_listiter st h
theorem LU(a it:Addr):Turn P w K y (Gx K a) [it] it (λi h=>h.IsTupleIter it a i) where
 mem:=by simp
 obj:=λi h st b hb=>by
  have e:b=it:=by simpa using hb
  subst e;obtain⟨o,e,c,d⟩:=st;exact⟨o,e,λv z=>by rw[d]at z;cases z⟩
 keep:=λi h n st k=>st.at λo e=>k it (by simp) o e
 item:=by intro X W Y A hc i f s L H E I m st Z;subst W Y A;obtain⟨M,x,l,r⟩:=Z;obtain⟨g,q,p,Q⟩:=I.tuple l;obtain⟨u,S,O⟩:=q.get r;obtain⟨J,G,f2,F,C,B⟩:=m it (by simp);refine wpAny_pyNext_tuple_item st (show s.heap.IsTuple a g.toArray from p) (x:=u) (by simpa using S) λn j N=>?_;have I1:Inv X f L H { s with heap:=n }:=I.turned (t':=s.toks) (λb o hb e=>(N.2 b hb).trans e) J G F C B;obtain⟨o,e,c,d⟩:=id j;exact⟨u,rfl,go_of (s:={ s with heap:=n }) e c d (by decide) ⟨x,H,I1,O,⟨rfl,λys R=>by rw[I.tuple_inj R l];exact r⟩,j,λb hb=>(m b hb).1⟩⟩
 done:=by intro X W Y A hc i f s L H E I m st Z;subst W Y A;obtain⟨M,l,r⟩:=Z;obtain⟨g,q,p,Q⟩:=I.tuple l;obtain⟨J,G,f2,F,C,B⟩:=m it (by simp);have hl:=q.length;exact wpAny_pyNext_tuple_end (I.ok.hd hc) st (show s.heap.IsTuple a g.toArray from p) (by simp;omega) λn eb=>⟨rfl,I.turned (t':=s.toks) (λb o hb e=>eb b o hb e) J G F C B⟩
 self:=λ_ _ _ _ _ st h=>wpAny_pyIter_tupleiter st h
theorem MU(it:Addr)(a:Int)(n:Nat):Turn P w K y (cw a n) [it] it (λi h=>IsRangeIter h it (a+(i:Nat) * 1) ((n:Int) - (i:Nat)) 1) where
 mem:=by simp
 obj:=λi h st b hb=>by
  have e:b=it:=by simpa using hb
  subst e;exact⟨_,st,λv z=>by have F:Data.fields _=Data.cell v:=z;cases F⟩
 keep:=λi h g st k=>k it (by simp) _ st
 item:=by intro X m j p hc i x s B H E I f st l;subst m j p;obtain⟨A,Z,J,Y,r,q⟩:=f it (by simp);have W:=Walks.range (prog:=X.prog) (w:=X.w) (I.ok.hd hc) it a 1 n;refine W.item i s _ _ l st λv g C hv u G=>?_;obtain⟨t,rfl⟩:=hv;have M:Inv X x B H { s with heap:=g,toks:=C }:=I.turned (λb o hb e=>G b o (by simpa using hb) e) A Z Y r q;refine⟨_,rfl,go_of (s:={ s with heap:=g,toks:=C }) (n:="range_iterator") u rfl rfl (by decide) ⟨.int (a+i),H,M,⟨t,?_⟩,⟨rfl,rfl⟩,u,λb hb=>(f b hb).1⟩⟩;rw[Int.mul_one]
 done:=by intro X m j p hc i x s B H E I f st l;subst m j p;obtain⟨A,Z,J,Y,r,q⟩:=f it (by simp);exact wpAny_pyNext_range_end (I.ok.hd hc) st (by have:n<=i:=l;omega) λg L=>⟨rfl,I.turned (t':=s.toks) (λb o hb e=>L b o hb e) A Z Y r q⟩
 self:=λ_ _ _ _ _ st h=>wpAny_pyIter_rangeiter st h
end
section
variable{X:Cx}{a:Expr}
section
variable{y:OB}{σ:St}{H:Hp}{s:Shared}{k:List Addr}{h:Heap}
theorem G4{R:It->Hp->Prop}{E:gC}{x z:Int}{t u v:Tok}{f:Nat}(I:Inv X y σ H s)(m:-(2 ^ 62)<=x)(l:x<2 ^ 62)(j:-(2 ^ 62)<=z)(i:z<2 ^ 62)
  (q:R (cw x (z - x).toNat) H):wpAny (model X.prog X.w) X.A (pyIter (.ref s.heap.objs.size)) (jw X y σ a R) E { s with heap:=s.heap.push { cls:=.type "range",data:=.fields #[.int x t,.int z u,.int 1 v] },toks:=f }:=by
 refine wpAny_pyIter_range (IsRange.new ..) (small_one m l j i) ?_;have g:Inv X y σ H { s with heap:=s.heap.push { cls:=.type "range",data:=.fields #[.int x t,.int z u,.int 1 v] },toks:=f }:=I.kept λb o e=>QH _ e;refine⟨(s.heap.push { cls:=.type "range",data:=.fields #[.int x t,.int z u,.int 1 v] }).objs.size,[(s.heap.push { cls:=.type "range",data:=.fields #[.int x t,.int z u,.int 1 v] }).objs.size],_,_,H,rfl,
  g.kept (t':=f) λb o e=>QH _ e,MU _ x (z - x).toNat,?_,λb hb=>?_,q⟩
 have p:x+((0:Nat):Int) * 1=x:=by simp
 have n:(((z - x).toNat:Nat):Int) - ((0:Nat):Int)=WK x z 1:=by rw[rangeSize_one];split<;>omega
 show IsRangeIter _ _ (x+((0:Nat):Int) * 1) ((((z - x).toNat:Nat):Int) - ((0:Nat):Int)) 1;rw[p,n];exact QR _ rfl;have e:b=(s.heap.push { cls:=.type "range",data:=.fields #[.int x t,.int z u,.int 1 v] }).objs.size:=by simpa using hb
 subst e;exact g.fpOk (QZ _) (g.hok.fresh (QZ _))
noncomputable def Bt(b:TI)(g:TG)(tb:TS):TS:=λD σ H=>b σ H λJ f=>∃W:Nat->Nat->St->Hp->Prop,(∃m,W 0 m σ f)/\∀i m σ H,W i m σ H ->
 (J.stop i H/\D.nx σ H)∨(J.go i H/\∃N:St->Hp->Prop,(∀z u,N z u->∃w,w < m/\W (i+1) w z u)/\∀x u,J.yld i H x u->g x σ u λv e=>tb { D with nx:=N,ct:=N,bk:=D.nx } v e)
def CM(k:List Addr)(h:Heap):OB:=k.filterMap λb=>(h.get? b).map λo=>(b,o)
theorem bF{b:Addr}{o:Obj}(hb:b∈k)(e:h.get? b=some o):(b,o)∈CM k h:=QBe.mpr ⟨b,hb,by rw[e];rfl⟩
theorem aZ{p:Addr×Obj}(x:p∈CM k h):p.1∈k/\h.get? p.1=some p.2:=by
 obtain⟨b,hb,e⟩:=QBe.mp x;cases q:h.get? b with|none=>rw[q]at e;cases e|some o=>rw[q]at e;have z:(b,o)=p:=Qk e;subst z;exact⟨hb,q⟩
theorem Inv.pinned(I:Inv X y σ H s)(f:∀b∈k,VJ X y H b)(w:∀b∈k,∃o,s.heap.get? b=some o/\∀v,o.data≠.cell v):Inv X (y++CM k s.heap) σ H s :=
 I.pins_of λp u=>(Qf.mp u).elim (λz=>I.pin p (QX _ z)) λz=>by obtain⟨hb,e⟩:=aZ z;obtain⟨j,i,g,_⟩:=f p.1 hb;obtain⟨o,x,d⟩:=w p.1 hb;rw[e]at x;cases x;exact⟨e,j,i,g,d⟩
theorem Inv.unpinned{x:OB}(I:Inv X (y++x) σ H s):Inv X y σ H s:=I.pins_of λp z=>I.pin p (QX _ (Qn _ z))
theorem Eh{q:Expr}{body:List Stmt}{wi:TI}{g:TG}{tb:TS}{pos:Pos}(O:PassesOwn (model X.prog X.w) X.A X.env X.xe)(hc:X.calm=true)(hi:Ks X a q wi)(hg:PG X a g)(hb:HW X body tb)
  (hs:∀x,foldedSetIterable q X.env x=pure x:=by intro _;rfl):PS X (.For a q body [] pos) (Bt wi g tb):=by
 intro y s σ H D I h;refine wpAny_For (HB (hi y s σ H _ I h) λv s1 h1=>HB h1 λitv s2 h2=>?_) hs;obtain⟨it,k,tn,J,H2,e,I2,T,S,f2,W,⟨m0,w0⟩,F⟩:=h2;subst e;have p:∀{B:Hp},(∀b∈k,B b=none)->∀b∈k,VJ X y B b:=λhn b hb=>⟨hn b hb,(f2 b hb).2⟩
 refine codeAny_forLoop_any (λn s'=>∃i l B,Inv X y l B s'/\tn i s'.heap/\(∀b∈k,B b=none)/\W i n l B) ?_ m0 ⟨0,σ,H2,I2,S,λb hb=>(f2 b hb).1,w0⟩;rintro n s3 ⟨i,j,Q,I3,L,P,w3⟩;rcases F i n j Q w3 with⟨G,qn⟩| ⟨go,N,hN,step⟩
 refine wU O (HB (T.done X rfl rfl rfl hc i y s3 j Q X.xe I3 (p P) L G) λr s4 ⟨hr,I4⟩=>?_);subst hr;exact Wz ⟨j,Q,I4,qn⟩;refine wU O (HB (T.item X rfl rfl rfl hc i y s3 j Q X.xe I3 (p P) L go) λr s4 ⟨u,hr,h4⟩=>?_);subst hr;refine wU O (HB h4 λ_ s5 ⟨x,H5,I5,r5,y5,E,fr5⟩=>?_);have I5':=I5.pinned (p fr5) (T.obj _ _ E);refine wU O (HB (hg _ s5 j H5 x u _ I5' r5 (step x H5 y5)) λ_ s6 ⟨R,H6,I6,q6⟩=>?_);refine wU O (HB (hb _ s6 R H6 _ I6 q6) λf s7 C=>?_);have Y:∀{z:St}{K:Hp},Inv X (y++CM k s5.heap) z K s7->N z K->∃m,m<n/\∃i l B,Inv X y l B s7/\tn i s7.heap/\(∀b∈k,B b=none)/\W i m l B:=λ{z K} Z M=>by obtain⟨m',hm,w7⟩:=hN z K M;refine⟨m',hm,i+1,z,K,Z.unpinned,T.keep _ _ _ E λb hb o e=>(Z.pin (b,o) (QX _ (QX _ (bF hb e)))).1,λb hb=>?_,w7⟩;obtain⟨o,e,d⟩:=T.obj _ _ E b hb;exact(Z.pin (b,o) (QX _ (QX _ (bF hb e)))).2.1
 cases f with|next=>obtain⟨z,K,Z,M⟩:=C;exact Y Z M|cont=>obtain⟨z,K,Z,M⟩:=C;exact Y Z M|brk=>obtain⟨z,K,Z,C⟩:=C;exact⟨z,K,Z.unpinned,C⟩|ret v=>obtain⟨x7,z,K,Z,r7,C⟩:=C;exact⟨x7,z,K,Z.unpinned,r7,C⟩
end
end
noncomputable abbrev R2:=V->V->Hp->VK->Prop
def RE(X:Cx)(f:Value->Value->Sem Value)(r:R2):Prop :=
 ∀(h:OB) (s:Shared) (z:St) (H:Hp) (x y:V) (v u:Value) (Q:VK),Inv X h z H s->rA x v->rA y u->r x y H Q ->
  wpAny (model X.prog X.w) X.A (f v u) (EP X h z Q) X.xe s
def Rv(X:Cx)(f:Value->Sem Value)(r:V->Hp->VK->Prop):Prop :=
 ∀(h:OB) (s:Shared) (y:St) (H:Hp) (x:V) (v:Value) (Q:VK),Inv X h y H s->rA x v->r x H Q ->
  wpAny (model X.prog X.w) X.A (f v) (EP X h y Q) X.xe s
def CC(X:Cx)(f:Value)(r:LV->Hp->VK->Prop):Prop :=
 ∀(h:OB) (s:Shared) (x:St) (H:Hp) (y:LV) (z:LW) (Q:VK),Inv X h x H s->lA y z->r y H Q ->
  wpAny (model X.prog X.w) X.A (call f z) (EP X h x Q) X.xe s
def Sv(X:Cx)(r:V->Hp->(Bool->Hp->Prop)->Prop):Prop :=
 ∀(h:OB) (s:Shared) (y:St) (H:Hp) (x:V) (v:Value) (Q:Bool->Hp->Prop),Inv X h y H s->rA x v->r x H Q ->
  wpAny (model X.prog X.w) X.A (truthy v) (TP X h y Q) X.xe s
def Zn(r:R2)(ta tb:TE):TE:=λh H Q=>ta h H λx u=>tb h u λy z=>r x y z Q
def ky(r:V->Hp->VK->Prop)(ta:TE):TE:=λh H Q=>ta h H λx y=>r x y Q
def rI(C:Int->Int->Prop)(g:Int->Int->V):R2:=λx y H Q=>∃i j,x=.int i/\y=.int j/\C i j/\Q (g i j) H
def ua(g:Int->Int->V):R2:=λx y H Q=>∃i j,x=.int i/\y=.int j/\Q (g i j) H
def rU(g:Int->V):V->Hp->VK->Prop:=λx H Q=>∃i,x=.int i/\Q (g i) H
section
variable{X:Cx}{a b c:Expr}{ta z tc:TE}{pos:Pos}
section
variable{f:Value->Value->Sem Value}{g:Int->Int->Int}
theorem binT(Z:PE X a ta)(hb:PE X b z){k:OB}{s:Shared}{σ:St}{H:Hp}{R:V->V->Hp->Prop}(I:Inv X k σ H s)
  (h:ta σ H λx m=>z σ m λy e=>R x y e) {Q:gC}
  (Y:∀v u l x y e,Inv X k σ e l->rA x v->rA y u->R x y e->wpAny (model X.prog X.w) X.A (f v u) Q X.xe l) :
  wpAny (model X.prog X.w) X.A (eval a X.env) (λv j=>wpAny (model X.prog X.w) X.A (eval b X.env) (λu i=>wpAny (model X.prog X.w) X.A (f v u) Q X.xe i) X.xe j) X.xe s:=by
 refine HB (Z k s σ H _ I h) λv n ⟨x,m,K,p,r⟩=>?_;refine HB (hb k n σ m _ K r) λu l ⟨y,e,W,o,q⟩=>?_;exact Y v u l x y e W p o q
theorem Bo{k:Operator}{r:R2}(m:RE X (binaryOp k) r)(n:PE X a ta)(hb:PE X b z):PE X (.BinOp a k b pos) (Zn r ta z):=by intro w s e H Q I h;exact wpAny_BinOp (binT n hb I h λv u i x y p o l j q=>m w i e p x y v u Q o l j q)
theorem Uo{w:UnaryOp}{r:V->Hp->VK->Prop}(j:Rv X (unaryOp w) r)(l:PE X a ta):PE X (.UnaryOp w a pos) (ky r ta):=by intro y s u H Q I h;exact UnaryOp_ (HB (l y s u H _ I h) λv k ⟨x,n,m,e,i⟩=>j y k u n x v Q m e i)
theorem oy{C:Int->Int->Prop}
  (k:∀(i j:Int) (t u:Tok) (s:Shared) (Q:gC) (E:gC),C i j->Q (.int (g i j) s.toks) { s with toks:=s.toks+1 }->wpAny (model X.prog X.w) X.A (f (.int i t) (.int j u)) Q E s) :
  RE X f (rI C λi j=>.int (g i j)):=by
 intro e s o H x y v u Q I n m h;obtain⟨i,j,rfl,rfl,hc,q⟩:=h;obtain⟨t,rfl⟩:=n;obtain⟨l,rfl⟩:=m;exact k i j t l s _ _ hc ⟨.int (g i j),H,I.tok _,⟨_,rfl⟩,q⟩
theorem Mo
  (k:∀(i j:Int) (t u:Tok) (s:Shared) (Q:gC) (E:gC),Q (.int (g i j) s.toks) { s with toks:=s.toks+1 }->wpAny (model X.prog X.w) X.A (f (.int i t) (.int j u)) Q E s) :
  RE X f (ua λi j=>.int (g i j)):=by
 intro e s o H x y v u Q I n m h;obtain⟨i,j,rfl,rfl,q⟩:=h;obtain⟨t,rfl⟩:=n;obtain⟨l,rfl⟩:=m;exact k i j t l s _ _ ⟨.int (g i j),H,I.tok _,⟨_,rfl⟩,q⟩
theorem Ia{g:Int->Int->Bool}
  (k:∀(i j:Int) (t u:Tok) (s:Shared) (Q:gC) (E:gC),Q (.bool (g i j)) s->wpAny (model X.prog X.w) X.A (f (.int i t) (.int j u)) Q E s) :
  RE X f (ua λi j=>.bl (g i j)):=by
 intro e s o H x y v u Q I n m h;obtain⟨i,j,rfl,rfl,q⟩:=h;obtain⟨t,rfl⟩:=n;obtain⟨l,rfl⟩:=m;exact k i j t l s _ _ ⟨.bl (g i j),H,I,rfl,q⟩
def sO(i j:Int):Prop:=(-(2 ^ 64)<i/\i<2 ^ 64)∨(-(2 ^ 64)<j/\j<2 ^ 64)
theorem sO.ok{i j:Int}(h:sO i j):IntMulOk i j:=by
 rcases h with⟨y,x⟩| ⟨y,x⟩
 exact .of_left (intBits_le_64 y x);exact .of_right (intBits_le_64 y x)
theorem op_add:RE X (binaryOp .Add) (ua λi j=>.int (i+j)):=Mo λ_ _ _ _ _ _ _ q=>add_int q
theorem op_sub:RE X (binaryOp .Sub) (ua λi j=>.int (i - j)):=Mo λ_ _ _ _ _ _ _ q=>sub_int q
theorem op_mod:RE X (binaryOp .Mod) (rI (λ_ j=>0<j) λi j=>.int (i % j)):=oy λi j _ _ _ _ _ hc q=>by have h:(0:Int)<j:=hc;exact mod_int' (by omega) (by rw[Int.fmod_eq_emod_of_nonneg i (by omega)];exact q)
theorem zy{f:Value->Sem Value}{g:Int->Int}
  (y:∀(i:Int) (t:Tok) (s:Shared) (Q:gC) (E:gC),Q (.int (g i) s.toks) { s with toks:=s.toks+1 }->wpAny (model X.prog X.w) X.A (f (.int i t)) Q E s) :
  Rv X f (rU λi=>.int (g i)):=by
 intro u s e H x v Q I k h;obtain⟨i,rfl,q⟩:=h;obtain⟨t,rfl⟩:=k;exact y i t s _ _ ⟨.int (g i),H,I.tok _,⟨_,rfl⟩,q⟩
theorem mh:Rv X (unaryOp .USub) (rU λi=>.int (-i)):=zy λ_ _ _ _ _ q=>neg_int q
end
end
noncomputable def G9:V->V->Bool
 | .non,.non=>true | .non,.int _=>true | .int _,.non=>true | .non,.bl _=>true | .bl _,.non=>true | .non,.str _=>true | .str _,.non=>true
 | .int _,.int _=>true | .bl _,.bl _=>true | .str _,.str _=>true | .byt _,.byt _=>true
 | .int _,.str _=>true | .str _,.int _=>true | .bl _,.str _=>true | .str _,.bl _=>true
 |_,_=>false
def rEq:R2:=λx y H Q=>G9 x y=true/\Q (.bl (decide (x=y))) H
def my:R2:=λx y H Q=>G9 x y=true/\Q (.bl (!decide (x=y))) H
theorem nY{i j:Int}:decide (V.int i=V.int j)=(i==j):=by rw[qC];simp
theorem N7{i j:Bool}:decide (V.bl i=V.bl j)=(i==j):=by rw[qC];simp
theorem mY{i j:Str}:decide (V.str i=V.str j)=(i==j):=by rw[qC];simp
theorem oY{i j:Array UInt8}:decide (V.byt i=V.byt j)=(i.toList==j.toList):=by rw[qC];cases i;cases j;simp
section
variable{X:Cx}{a b c:Expr}{ta g tc:TE}{pos:Pos}
section
variable{r:R2}{d:CmpOp}{us:LW}
theorem pA{h:OB}{σ:St}{H:Hp}{s:Shared}{Q:VK}{k x:Bool}(I:Inv X h σ H s)(q:Q (.bl k) H)(e:k=x):EP X h σ Q (.bool x) s:=by subst e;exact⟨.bl k,H,I,rfl,q⟩
theorem op_eq:RE X (compareOp .Eq) rEq:=by
 intro f s l H x y v u Q I e z h;obtain⟨k,q⟩:=h;cases x with
 |non =>
  cases e;cases y with|non=>cases z;exact PySem.EqNone.eq_none_none (pA I q (by simp))|bl j=>cases z;exact PySem.EqNone.eq_none_bool (pA I q (by simp))|int j=>obtain⟨w,rfl⟩:=z;exact PySem.EqNone.eq_none_int (pA I q (by simp))|str j=>obtain⟨w,rfl⟩:=z;exact PySem.EqNone.eq_none_str (pA I q (by simp))|_=>exact absurd (show false=true from k) QG
 |bl i =>
  cases e;cases y with|non=>cases z;exact PySem.EqNone.eq_bool_none (pA I q (by simp))|bl j=>cases z;exact eq_bool (pA I q N7)|str j=>obtain⟨w,rfl⟩:=z;exact PySem.EqMixed.eq_bool_str (pA I q (by simp))|_=>exact absurd (show false=true from k) QG
 |int i =>
  obtain⟨t,rfl⟩:=e;cases y with|non=>cases z;exact PySem.EqNone.eq_int_none (pA I q (by simp))|int j=>obtain⟨w,rfl⟩:=z;exact eq_int (pA I q nY)|str j=>obtain⟨w,rfl⟩:=z;exact PySem.EqMixed.eq_int_str (pA I q (by simp))|_=>exact absurd (show false=true from k) QG
 |str i =>
  obtain⟨t,rfl⟩:=e;cases y with|non=>cases z;exact PySem.EqNone.eq_str_none (pA I q (by simp))|bl j=>cases z;exact PySem.EqMixed.eq_str_bool (pA I q (by simp))|int j=>obtain⟨w,rfl⟩:=z;exact PySem.EqMixed.eq_str_int (pA I q (by simp))|str j=>obtain⟨w,rfl⟩:=z;exact eq_str (pA I q mY)|_=>exact absurd (show false=true from k) QG
 |byt i =>
  obtain⟨t,rfl⟩:=e;cases y with|byt j=>obtain⟨w,rfl⟩:=z;exact PySem.W.eq_bytes (pA I q oY)|_=>exact absurd (show false=true from k) QG
 |_=>cases y<;>exact absurd (show false=true from k) QG
theorem op_ne:RE X (compareOp .NotEq) my:=by
 intro f s l H x y v u Q I e z h;obtain⟨k,q⟩:=h;cases x with
 |non =>
  cases e;cases y with|non=>cases z;exact PySem.EqNone.ne_none_none (pA I q (by simp))|bl j=>cases z;exact PySem.EqNone.ne_none_bool (pA I q (by simp))|int j=>obtain⟨w,rfl⟩:=z;exact PySem.EqNone.ne_none_int (pA I q (by simp))|str j=>obtain⟨w,rfl⟩:=z;exact PySem.EqNone.ne_none_str (pA I q (by simp))|_=>exact absurd (show false=true from k) QG
 |bl i =>
  cases e;cases y with|non=>cases z;exact PySem.EqNone.ne_bool_none (pA I q (by simp))|bl j=>cases z;exact ne_bool (pA I q (congrArg not N7))|str j=>obtain⟨w,rfl⟩:=z;exact PySem.EqMixed.ne_bool_str (pA I q (by simp))|_=>exact absurd (show false=true from k) QG
 |int i =>
  obtain⟨t,rfl⟩:=e;cases y with|non=>cases z;exact PySem.EqNone.ne_int_none (pA I q (by simp))|int j=>obtain⟨w,rfl⟩:=z;exact ne_int (pA I q (congrArg not nY))|str j=>obtain⟨w,rfl⟩:=z;exact PySem.EqMixed.ne_int_str (pA I q (by simp))|_=>exact absurd (show false=true from k) QG
 |str i =>
  obtain⟨t,rfl⟩:=e;cases y with|non=>cases z;exact PySem.EqNone.ne_str_none (pA I q (by simp))|bl j=>cases z;exact PySem.EqMixed.ne_str_bool (pA I q (by simp))|int j=>obtain⟨w,rfl⟩:=z;exact PySem.EqMixed.ne_str_int (pA I q (by simp))|str j=>obtain⟨w,rfl⟩:=z;exact ne_str (pA I q (congrArg not mY))|_=>exact absurd (show false=true from k) QG
 |byt i =>
  obtain⟨t,rfl⟩:=e;cases y with|byt j=>obtain⟨w,rfl⟩:=z;exact PySem.W.ne_bytes (pA I q (congrArg not oY))|_=>exact absurd (show false=true from k) QG
 |_=>cases y<;>exact absurd (show false=true from k) QG
theorem op_lt:RE X (compareOp .Lt) (ua λi j=>.bl (decide (i<j))):=Ia λ_ _ _ _ _ _ _ q=>lt_int q
theorem op_le:RE X (compareOp .LtE) (ua λi j=>.bl (decide (i<=j))):=Ia λ_ _ _ _ _ _ _ q=>le_int q
theorem op_gt:RE X (compareOp .Gt) (ua λi j=>.bl (decide (j<i))):=Ia λ_ _ _ _ _ _ _ q=>gt_int q
theorem op_ge:RE X (compareOp .GtE) (ua λi j=>.bl (decide (j<=i))):=Ia λ_ _ _ _ _ _ _ q=>ge_int q
theorem nZ:RE X (compareOp .In) (λx y H Q=>∃i j,x=.str i/\y=.str j/\Q (.bl (!(Q8 j i 0 j.length 1).isEmpty)) H):=by intro z s e H x y v u Q I k w h;obtain⟨i,j,rfl,rfl,q⟩:=h;obtain⟨t,rfl⟩:=k;obtain⟨f,rfl⟩:=w;exact in_str (pA I q rfl)
theorem Fi:RE X (compareOp .Is) (λx y H Q=>y=.non/\Q (.bl (decide (x=.non))) H):=by
 intro w s e H x y v u Q I z k h;obtain⟨rfl,q⟩:=h;cases k;refine is_none_gen (pA I q ?_);cases x<;>first
  | (cases z;rfl)
  | (obtain⟨t,rfl⟩:=z;rfl)
theorem Aa:RE X (compareOp .IsNot) (λx y H Q=>y=.non/\Q (.bl (!decide (x=.non))) H):=by
 intro w s e H x y v u Q I z k h;obtain⟨rfl,q⟩:=h;cases k;refine isnot_none_gen (pA I q ?_);cases x<;>first
  | (cases z;rfl)
  | (obtain⟨t,rfl⟩:=z;rfl)
theorem gQ:RE X (compareOp .NotIn) (λx y H Q=>∃i j,x=.str i/\y=.str j/\Q (.bl (!(!(Q8 j i 0 j.length 1).isEmpty))) H):=by intro z s e H x y v u Q I k w h;obtain⟨i,j,rfl,rfl,q⟩:=h;obtain⟨t,rfl⟩:=k;obtain⟨f,rfl⟩:=w;exact notIn_str (pA I q rfl)
theorem RE.or{f:Value->Value->Sem Value}{i:R2}(h:RE X f r)(h':RE X f i):RE X f (λx y H Q=>r x y H Q∨i x y H Q):=by intro z s w H x y v u Q I e k q;rcases q with q|q;exact h z s w H x y v u Q I e k q;exact h' z s w H x y v u Q I e k q
theorem Na(i:RE X (compareOp d) r)(l:PE X a ta)(hb:PE X b g)(j:behindInMarks d b=false):PE X (.Compare a [d] [b] pos) (Zn r ta g):=by intro z s w H Q I h;exact wpAny_Compare1 (binT l hb I h λv u k x y n m f e q=>i z k w n x y v u Q m f e q) j
def Jn(t:TE):TT:=λh H Q=>t h H λx y=>∃k,x=.bl k/\Q k y
theorem ma(Y:RE X (compareOp d) r)(W:PE X a ta)(hb:PE X b g)(Z:behindInMarks d b=false):PT X (.Compare a [d] [b] pos) (Jn (Zn r ta g)):=by
 intro w s f H Q I h;refine wpAny_isTrue_Compare1 (HB (W w s f H _ I h) λv j ⟨x,F,B,n,q⟩=>HB (hb w j f F _ B q) λu i ⟨y,E,A,m,p⟩ =>
  HB (Y w i f E x y v u _ A n m p) λc G ⟨z,C,K,l,k,e,o⟩=>?_) Z
 subst e;cases l;exact wT ⟨C,K,o⟩
def Ml(K:QA)(x:V)(H:Hp)(k:Bool):Prop :=
 match x with
 | .non=>k=false|.bl b=>k=b|.int i=>k=(i != 0)|.str y=>y.length<=sizeLine/\k=((y.length:Int) != 0)|.byt y=>y.size<=sizeLine/\k=((y.size:Int) != 0)|.ref p=>(∃h,pC K H p h/\k=!h.isEmpty)∨(∃h,nE K H p h/\k=!h.isEmpty)∨∃z,H p=some (.dK z)/\k=!z.isEmpty|_=>False
theorem OV{h:Type}{kvs:List (h×V)}{vs:List (h×Value)}(r:KV kvs vs):(!vs.isEmpty)=!kvs.isEmpty:=by cases r<;>rfl
theorem cN{xs:LV}{its:LW}(r:lA xs its):(!its.toArray.isEmpty)=!xs.isEmpty:=by cases r<;>simp
theorem TH:(sizeLine:Nat)<2 ^ 63:=by rw[Q2];decide
theorem J3:Sv X (λx H Q=>∃k,Ml X.K x H k/\Q k H):=by
 intro A s F H x v Q I l h;obtain⟨k,e,q⟩:=h;have hl:=TH;have G:sizeLine=16777216:=Q2;cases x with
 |non=>cases l;have z:k=false:=e;subst z;exact truthy_none ⟨H,I,q⟩|bl b=>cases l;have z:k=b:=e;subst z;exact wT ⟨H,I,q⟩|int i=>obtain⟨t,rfl⟩:=l;have z:k=(i != 0):=e;subst z;exact PySem.P.truthy_int ⟨H,I,q⟩|str y=>obtain⟨t,rfl⟩:=l;obtain⟨C,z⟩:y.length<=sizeLine/\k=((y.length:Int) != 0):=e;subst z;exact PySem.P.truthy_str (by omega) ⟨H,I.tok _,q⟩|byt y=>obtain⟨t,rfl⟩:=l;obtain⟨C,z⟩:y.size<=sizeLine/\k=((y.size:Int) != 0):=e;subst z;exact PySem.W.truthy_bytes (by omega) ⟨H,I.tok _,q⟩|ref p =>
  cases l;have z:(∃j,pC X.K H p j/\k=!j.isEmpty)∨(∃j,nE X.K H p j/\k=!j.isEmpty)∨∃u,H p=some (.dK u)/\k=!u.isEmpty:=e;rcases z with⟨j,n,z⟩| ⟨j,n,z⟩| ⟨u,n,z⟩
  subst z;obtain⟨Z,r,Y,B⟩:=I.list n;have f:=r.length;exact wpAny_truthy_list Y.isList (by simp only[QN];omega) ⟨H,I.tok _,by rw[cN r];exact q⟩;subst z;obtain⟨Z,r,Y,B⟩:=I.tuple n;have f:=r.length;exact truthy_tuple Y (by simp only[QN];omega) ⟨H,I.tok _,by rw[cN r];exact q⟩;subst z;obtain⟨B,E,o,r,m⟩:u.length<=sizeLine/\(p==sysModules)=false/\∃o,KV u o/\s.heap.DictOf (GD X.prog X.w) p o:=I.hok p _ n;have f:u.length=o.length:=qH r;exact wpAny_truthy_dict E m (by omega) ⟨H,I.tok _,by rw[OV r];exact q⟩
 |_=>exact(show False from e).elim
theorem uV:RE X (binaryOp .Add) (λx y H Q=>∃i j,x=.str i/\y=.str j/\i.length+j.length<=sizeLine/\Q (.str (i++j)) H):=by intro z s l H x y v u Q I e k h;obtain⟨i,j,rfl,rfl,f,q⟩:=h;obtain⟨t,rfl⟩:=e;obtain⟨w,rfl⟩:=k;exact add_str (λw m=>⟨.str (i++j),H,I.tok _,⟨_,rfl⟩,q⟩) f
theorem FK{x:V}(r:lA [x] us):∃u,us=[u]/\rA x u:=by
 cases r with|cons y h=>cases h;exact⟨_,rfl,y⟩
theorem E2{x y:V}(r:lA [x,y] us):∃u h,us=[u,h]/\rA x u/\rA y h:=by
 cases r with
 |cons k w =>
  cases w with|cons v z=>cases z;exact⟨_,_,rfl,k,v⟩
theorem T0(hc:X.calm=true):CC X (.builtin "min") (λxs H Q=>∃i j,xs=[.int i,.int j]/\Q (.int (if j<i then j else i)) H):=by
 intro y s z H xs us Q I r h;obtain⟨i,j,rfl,q⟩:=h;obtain⟨u,v,rfl,⟨t,rfl⟩,⟨e,rfl⟩⟩:=E2 r;refine min_two_ints (I.ok.hd hc) λf w k=>⟨_,H,I.kept k,?_,q⟩
 by_cases x:j<i;rw[if_pos x,if_pos x];exact⟨_,rfl⟩;rw[if_neg x,if_neg x];exact⟨_,rfl⟩
end
end
section
variable{h:Heap}{u:Addr}{v:Str->Option Value}
structure ObjM(h:Heap)(x u C:Addr)(v:Str->Option Value):Prop where
 obj:h.get? x=some (QAz C u)
 ns:h.Ns1 u v
 ne:u≠x
theorem OZ(n:h.Ns1 u v):∃w,h.get? u=some w/\∀name,QBH name w=some (v name):=by
 obtain⟨o,k,l,f,i,hk,_,g⟩:=n;refine⟨o,f,λname=>?_⟩;have e:=g name;unfold nsFind findBy at e;rw[<- Array.find?_toList]at e;unfold QBH;rw[i];dsimp only;split;rename_i y q;rw[q]at e;exact congrArg some e;rename_i q;rw[q]at e;have a:k.toList.any (·.refKey)=false:=by rw[QBp];intro y b;obtain⟨z,t,x⟩:=hk y (Array.mem_toList_iff.mp b);simp[DictEntry.refKey,x]
 have j:¬ k.toList.any (·.refKey)=true:=by rw[a];exact QG
 rw[if_neg j];exact congrArg some e
theorem ObjM.look{x C:Addr}(I:ObjM h x u C v):∃y,PySem.W.InstAt h x (QAz C u) C (some y)/\∀name,QBH name y=some (v name) :=
 let⟨y,z,hl⟩:=OZ I.ns
 ⟨y,⟨I.obj,rfl,rfl,z⟩,hl⟩
end
section
variable{P:Program}{w:World}{H v:Hp}{h h':Heap}{a C y:Addr}{x u:List (Str×V)}
theorem Yc(b:LL P w H h)(e:H a=some (.ins C y x)):∃k,ObjM h a y C k/\(∀f,pU (x.lookup f) (k f))/\PySem.Within k (x.map (·.1))/\x.length<=1000/\H y=some (.own a):=by
 obtain⟨d,z,g,ob,k,n,r,q⟩:=(show BA P w H h a (.ins C y x) from b a _ e)
 exact⟨k,⟨ob,n,g⟩,r,q,z,d⟩
end
structure Cls(K:QA)(C:Addr):Prop where
 pg:QCD K C Str.empty=true
 hd:PySem.W.hasDictIn K C=true
 po:PySem.W.plainOver K C=true
 sa:PySem.W.findIn K (.ref C) "__setattr__"=some (some (.builtin "object.__setattr__"))
theorem Cls.get{K:QA}{C:Addr}(c:Cls K C)(f:Str):QCD K C f=true:=c.pg
section
variable{X:Cx}{v:OB}{σ:St}{H:Hp}{s:Shared}{A:Around}{E:gC}{Q:gC}{c:Value}{b:Bool}
inductive TyOf(K:QA)(H:Hp):V->Value->Prop where
 |non:TyOf K H .non (.type "NoneType")
 |bl (x:Bool):TyOf K H (.bl x) (.type "bool")
 |int (i:Int):TyOf K H (.int i) (.type "int")
 |str (x:Str):TyOf K H (.str x) (.type "str")
 |flt (x:UInt64):TyOf K H (.flt x) (.type "float")
 |lst {a:Addr}{xs:LV}(e:H a=some (.lst xs)):TyOf K H (.ref a) (.type "list")
 |frz {a:Addr}{o:Obj}{xs:LV}(e:H a=some (.frz o (.lst xs))):TyOf K H (.ref a) (.type "list")
 |tup {a:Addr}{xs:LV}(e:H a=some (.tup xs)):TyOf K H (.ref a) (.type "tuple")
 |dK {a:Addr}{kvs:List (Key×V)}(e:H a=some (.dK kvs)):TyOf K H (.ref a) (.type "dict")
 |dT {a:Addr}{ep:Nat}{kvs:List (NK×Addr×V)}(e:H a=some (.dT ep kvs)):TyOf K H (.ref a) (.type "dict")
 |ins {a C dx:Addr}{fs:List (Str×V)}(e:H a=some (.ins C dx fs)) (cl:Cls K C) (ha:PySem.W.findIn K (.ref C) "__class__"=some (some (.builtin "object.__class__")))
   (hn:PySem.W.specialIn K (.builtin "object.__class__") "__get__"=some (some (.builtin "getset_descriptor.__get__"))) (htk:PySem.W.takesIn K (.builtin "object.__class__")=some true)
   (hm:PySem.W.mroIn K C (.type "object")=some true):TyOf K H (.ref a) (.ref C)
theorem y0{x:V}{u t:Value}(I:Inv X v σ H s)(k:rA x u)(ty:TyOf X.K H x t)(e:QBI X.K t c=some b)(h:∀B,Q (.bool b) { s with toks:=B }) :
  wpAny (model X.prog X.w) A (call (.builtin "isinstance") [u,c]) Q E s:=by
 cases ty with
 |non=>cases(show u=Value.none from k);exact qI PySem.W.kitx_none I.kIn True.intro e (λz=>nomatch z) h
 |bl y=>cases(show u=Value.bool y from k);exact qI PySem.W.kitx_bool I.kIn True.intro e (λz=>nomatch z) h
 |int i=>obtain⟨t,q⟩:=(show ∃t,u=Value.int i t from k);cases q;exact qI PySem.W.kitx_int I.kIn True.intro e (λz=>nomatch z) h
 |str y=>obtain⟨t,q⟩:=(show ∃t,u=Value.str y t from k);cases q;exact qI PySem.W.kitx_str I.kIn True.intro e (λz=>nomatch z) h
 |flt y=>obtain⟨t,q⟩:=(show ∃t,u=Value.float y t from k);cases q;exact qI PySem.W.kitx_float I.kIn True.intro e (λz=>nomatch z) h
 |@lst a l f =>
  cases(show u=Value.ref a from k);obtain⟨_,_,n,_,g⟩:=(show BA X.prog X.w H s.heap a (.lst l) from I.hok a _ f)
  exact qI QAU I.kIn ⟨_,g,rfl⟩ e (λz=>nomatch z) h
 |@frz a ob l f =>
  cases(show u=Value.ref a from k);obtain⟨_,_,_,n,_,g⟩:=(show BA X.prog X.w H s.heap a (.frz ob (.lst l)) from I.hok a _ f)
  exact qI QAU I.kIn ⟨_,g,rfl⟩ e (λz=>nomatch z) h
 |@tup a l f =>
  cases(show u=Value.ref a from k);obtain⟨_,_,_,p⟩:=(show BA X.prog X.w H s.heap a (.tup l) from I.hok a _ f)
  obtain⟨o,g,m,_⟩:=p;exact qI QBf I.kIn ⟨o,g,m⟩ e (λz=>nomatch z) h
 |@dK a j f =>
  cases(show u=Value.ref a from k);obtain⟨_,_,N,_,p⟩:=(show BA X.prog X.w H s.heap a (.dK j) from I.hok a _ f)
  obtain⟨o,M,Y,g,m,_⟩:=p;exact qI QBq I.kIn ⟨o,g,m.1⟩ e (λz=>nomatch z) h
 |@dT a Y j f =>
  cases(show u=Value.ref a from k);obtain⟨_,_,l,_,o,M,g,m,_⟩:=(show BA X.prog X.w H s.heap a (.dT Y j) from I.hok a _ f)
  exact qI QBq I.kIn ⟨o,g,m.1⟩ e (λz=>nomatch z) h
 |@ins a C S fs f Z L F r G=>cases(show u=Value.ref a from k);obtain⟨R,O,_⟩:=Yc I.hok f;obtain⟨P,J,_⟩:=O.look;exact qI (PySem.W.kitx_own (Z.get _) Z.hd L F r G) I.kIn J e (λz=>nomatch z) h
end
section
variable{k:Nat}{A:Around}
structure Room(k:Nat)(A:Around):Prop where
 hd:A.handled=none
 dp:A.depth+3 * k+5<recursionLimit
 un:A.units+16 * k+200<cLine
theorem Room.mono{j:Nat}(r:Room k A)(h:j<=k):Room j A:=⟨r.hd,by have:=r.dp;omega,by have:=r.un;omega⟩
theorem Room.deeper(r:Room (k+1) A)(env:Env):Room k (A.deeper env) :=
 ⟨r.hd,by have:=r.dp;show A.depth+1+3 * k+5<_;omega,by have:=r.un;show A.units+3+16 * k+200<_;omega⟩
theorem Room.depth(r:Room k A):A.depth<recursionLimit:=by have:=r.dp;omega
def Vn:TA:=λ_ H Q=>Q [] H
def Cn(ta:TE)(z:TA):TA:=λh H Q=>ta h H λx v=>z h v λy u=>Q (x::y) u
end
section
variable{X:Cx}{e:Expr}{es:List Expr}{te:TE}{t:TA}{pos:Pos}
theorem bQ:PA X [] Vn:=λ_ _ _ _ H Q I h=>wu ⟨[],H,I,.nil,h⟩
theorem MI(j:PE X e te)(i:PA X es t)(g:starEach (e::es) X.env=(false,eval e X.env)::starEach es X.env:=by rfl):PA X (e::es) (Cn te t):=by intro pos y s z H Q I h;rw[g];show wpAny _ _ (spliced ((false,eval e X.env)::backTo pos (starEach es X.env))) _ _ s;refine wK (HB (j y s z H _ I h) λu w ⟨x,o,m,a,f⟩=>?_);exact HB (i pos y w z o _ m f) λp q ⟨v,n,l,k,b⟩=>⟨x::v,n,l,.cons a k,b⟩
def gt(t:TA):TE:=λy H Q=>t y H λh x=>h.length<=sizeLine/\∀p,x p=none->Q (.ref p) (DA x p (.tup h))
def Vt(t:TA):TE:=λy H Q=>t y H λh x=>h.length<=sizeLine/\∀p,x p=none->Q (.ref p) (DA x p (.lst h))
theorem Ji{x1}(h:PA X es t):PE X (.Tuple es x1 pos) (gt t):=by intro x s k H Q I g;refine QBO (HB (h pos x s k H _ I g) λf y ⟨a,w,v,r,z,q⟩=>⟨by rw[<- r.length];exact z,?_⟩);have i:w y.heap.objs.size=none:=v.hok.fresh (QZ _);refine⟨.ref y.heap.objs.size,DA w y.heap.objs.size (.tup a),v.laid (t':=y.toks) (λb u e=>QH _ e) (QZ _) ?_,rfl,q _ i⟩;exact⟨z,f,r,⟨_,QR _ rfl,rfl,_,rfl⟩⟩
theorem Zi(h:PA X es t):PE X (.List es pos) (Vt t):=by intro x s k H Q I g;refine wpAny_List_spliced (HB (h pos x s k H _ I g) λf y ⟨a,w,v,r,z,q⟩=>⟨by rw[<- r.length];exact z,?_⟩);have i:w y.heap.objs.size=none:=v.hok.fresh (QZ _);refine⟨.ref y.heap.objs.size,DA w y.heap.objs.size (.lst a),v.laid (t':=y.toks) (λb u e=>QH _ e) (QZ _) ?_,rfl,q _ i⟩;exact⟨z,f,0,r,QR _ rfl⟩
end
noncomputable abbrev Sp:=LV->Hp->VK->XK->Prop
noncomputable abbrev T8:=List Env->Hp->Shared->XK->Value->Shared->Prop
structure Env0(P:Program)(w:World)(K:QA)(mg:Str->Option Value)(base:Heap)(A:Around)(outer:List Env)(s:Shared)(H:Hp):Prop where
 frames:A.frames=some outer
 mod:Mod K mg base
 bs:∀b o,base.get? b=some o->s.heap.get? b=some o/\H b=none
 bsz:base.objs.size<=s.heap.objs.size
 funs:s.heap.FunFrames base outer
 frf:∀b∈uY outer,H b=none
 tb:∀P q,aP mg base P q->H P=some (.tbl q)
 hok:LL P w H s.heap
 bare:AllBare s.gens
def CE(outer:List Env)(P:Program)(w:World)(H:Hp)(s:Shared)(Q:VK)(u:Value)(s':Shared):Prop :=
 ∃v h,s'.os=s.os/\AllBare s'.gens/\Un (uY outer) [] H h s.heap s'.heap/\LL P w h s'.heap/\rA v u/\Q v h
def CR(h:T8)(outer:List Env)(P:Program)(w:World)(H:Hp)(s:Shared)(Q:VK)(E:XK)(r:Result)(s':Shared):Prop :=
 match r with
 | .ok (.ret u)=>CE outer P w H s Q u s'|.ok _=>False|.error e=>h outer H s E e s'
structure FnOk(P:Program)(w:World)(K:QA)(mg:Str->Option Value)(base:Heap)(CX:T8)(k:Nat)(f:Addr)(fd:FuncData)(ps:LS)(sp:Sp):Prop where
 len:∀vs H Q E,sp vs H Q E->vs.length=ps.length
 run:∀(A:Around) (outer:List Env) (s:Shared) (H:Hp) (args:Args) (us:LW) (vs:LV) (Q:VK) (E:XK),Room k A->Env0 P w K mg base A outer s H->BindsTo s fd args (ps.zip us)->lA vs us->sp vs H Q E ->
  codeAny (model P w) A (.call (.ref f) args) (CR CX outer P w H s Q E) s
theorem FnOk.mono{P:Program}{w:World}{K:QA}{mg:Str->Option Value}{x:Heap}{a:T8}{j k:Nat}{f:Addr}{v:FuncData}{u:LS}{z:Sp}(F:FnOk P w K mg x a j f v u z)(h:j<=k) :
  FnOk P w K mg x a k f v u z:=⟨F.len,λA y s H args e b Q E g=>F.run A y s H args e b Q E (g.mono h)⟩
section
variable{X:Cx}{x:OB}{σ:St}{H:Hp}{s s':Shared}
theorem Inv.env0(I:Inv X x σ H s):Env0 X.prog X.w X.K X.mg X.base X.A X.stack s H :=
 ⟨I.ok.frames,I.ok.mod,I.bs,QU I.ok.bsz I.sz,I.stack,I.stkFree,I.tb,I.hok,I.bare⟩
theorem Inv.after{Q:VK}{u:Value}(I:Inv X x σ H s)(h:CE X.stack X.prog X.w H s Q u s'):EP X x σ Q u s':=by obtain⟨v,f,a,bare,un,k,r,q⟩:=h;obtain⟨e,g,d,t,y⟩:=s';obtain rfl:y=s.os:=a;exact⟨v,f,I.call (h':=e) (g':=g) (d':=d) (t':=t) (ch:=[]) un k bare (λb z=>absurd z (by simp)),r,q⟩
end
def ze(z:Sp)(h:LV)(E:XK)(t:TA):TE:=λx H Q=>t x H λy u=>z (y++h) u Q E
def XJ(K:QA)(y:FuncData)(x:LS)(ds:LW):Prop :=
 ∀(s:Shared) (h:LW),K.In s.heap->(h++ds).length=x.length->BindsTo s y ⟨h,[]⟩ (x.zip (h++ds))
theorem XJ.all{K:QA}{y:FuncData}{x:LS}(h:∀us:LW,us.length=x.length->bindArgs y ⟨us,[]⟩=pure (x.zip us)):XJ K y x []:=λs us _ hl=>by rw[qM]at hl ⊢;exact .of_eq (h us hl)
def BN(z:T8)(X:Cx)(E:XK):Prop:=∀(h:OB) (y:St) (H:Hp) (s:Shared) (e:Value) (x:Shared),Inv X h y H s->z X.stack H s E e x->X.xe e x
section
variable{X:Cx}{b:T8}{k:Nat}{f C:Addr}{a:FuncData}{z:LS}{v:Sp}{y:LV}{ds:LW}{E:XK}{x m:Str}{p pos apos:Pos}{e o:Expr}{es:List Expr}{ta:TE}{t:TA}
theorem K4{g:OB}{σ:St}{H:Hp}{s:Shared}{Q:VK}{us:LW}{vs:LV}(F:FnOk X.prog X.w X.K X.mg X.base b k f a z v)(q:Room k X.A)(hb:XJ X.K a z ds)(Y:lA y ds)(n:BN b X E)
  (I:Inv X g σ H s) (r:lA vs us) (h:v (vs++y) H Q E):wpAny (model X.prog X.w) X.A (call (.ref f) us) (EP X g σ Q) X.xe s:=by
 have j:lA (vs++y) (us++ds):=r.append Y;have hl:(us++ds).length=z.length:=by rw[<- j.length];exact F.len _ _ _ _ h
 refine wpAny_call (QB4 (F.run X.A X.stack s H ⟨us,[]⟩ (us++ds) (vs++y) Q E q I.env0 (hb s us I.kIn hl) j h) λr l i=>?_);cases r with
 |error e=>exact n g σ H s e l I i|ok fl =>
  cases fl with|ret u=>exact I.after i|next=>exact Qc i|brk=>exact Qc i|cont=>exact Qc i
theorem Oa(F:FnOk X.prog X.w X.K X.mg X.base b k f a z v)(Y:Room k X.A)(B:Gl X x)(Z:X.mg x=some (.ref f))(hk:wN X.K (.ref f)=true)(hb:XJ X.K a z ds)(J:lA y ds)(n:BN b X E)
  (L:PA X (e::es) t) (i:(x==("__debug__":Str))=false:=by decide) (G:starEach (e::es) X.env=(false,eval e X.env)::starEach es X.env:=by rfl) (g:(backTo pos (starEach es X.env)).any (·.1)=false:=by rfl) :
  PE X (.Call (.Name x p) (e::es) [] pos) (ze v y E t):=by
 intro u s l H Q I h;refine qy (GQ I B Z ?_ i);refine PySem.W.callWith_K (h₀:=X.base) I.ok.mod.kin hk (HB (L pos u s l H _ I h) λN O ⟨M,P,j,r,q⟩=>⟨j.kIn,?_⟩) G g;exact K4 F Y hb J n j r q
theorem t5(F:FnOk X.prog X.w X.K X.mg X.base b k f a z v)(j:Room k X.A)(n:Gl X x)(l:X.mg x=some (.ref f))(hk:wN X.K (.ref f)=true)(hb:XJ X.K a z ds)(q:lA y ds)(i:BN b X E)
  (u:(x==("__debug__":Str))=false:=by decide):PE X (.Call (.Name x p) [] [] pos) (ze v y E Vn):=by
 intro g s r H Q I h;refine qy (GQ I n l ?_ u);exact PySem.W.callWith_K0 I.kIn hk (K4 (us:=[]) F j hb q i I .nil h)
end
section
variable{X:Cx}{c:T8}{k:Nat}{f C:Addr}{b:FuncData}{v ks:LS}{u:Sp}{E:XK}{x m:Str}{p pos apos h:Pos}{e o:Expr}{es:List Expr}{y:List Keyword}{te ta:TE}{t z:TA}{w:Option Str}
variable{g:LW->LW->LW}{a:LV->LV->LV}
end
section
variable{l:T8}{P:Program}{w:World}{mg:Str->Option Value}{base:Heap}{j:LS}{g:Str}{d:Scope}{f:Addr}
structure FnScope(N P:LS)(sc:Scope):Prop where
 kind:sc.kind=.function
 co:sc.isCoroutine=false
 gen:sc.isGenerator=false
 nd:N.Nodup
 pre:N.take P.length=P
 par:∀x∈P,sc.names.lookup x=some .local∨sc.names.lookup x=some .cell
 nofree:∀y∈sc.names,y.2≠.free
theorem lP{y:Str->Option NameKind}{x:Str}:∀{binds:List (Str×Value)}{m:Str->Option Value},(∀v,(x,v)∉binds)->bindL y binds m x=m x
 |[],_,_=>rfl|(n,v)::r,m,h=>by
  unfold bindL;rw[lP λw z=>h w (QD _ z)];split;have:x≠n:=by rintro rfl;exact h v QF
  simp[this];rfl
theorem oP{y:Str->Option NameKind}{x:Str}:∀{binds:List (Str×Value)}{m:Str->Option Value},(∀v,(x,v)∉binds)->bindC y binds m x=m x
 |[],_,_=>rfl|(n,v)::r,m,h=>by
  unfold bindC;rw[oP λw z=>h w (QD _ z)];split;rfl;have:x≠n:=by rintro rfl;exact h v QF
  simp[this]
theorem mP{y:Str->Option NameKind}{x:Str}{v:Value}:∀{P:LS}{vs:LW}{i:Nat}{m:Str->Option Value},P.Nodup->P[i]?=some x->vs[i]?=some v->y x=some .local ->
  bindL y (P.zip vs) m x=some v
 |[],_,_,_,_,h,_,_=>by simp at h|_::_,[],_,_,_,_,h,_=>by simp at h|p::P,w::vs,0,m,nd,h1,h2,hk=>by simp at h1 h2;subst h1;subst h2;show bindL y ((p,w)::P.zip vs) m p=_;unfold bindL;rw[lP λv hv=>(Qh.mp nd).1 (QA1 hv).1,if_pos hk];simp|p::P,w::vs,i+1,m,nd,h1,h2,hk=>by show bindL y ((p,w)::P.zip vs) m x=_;unfold bindL;exact mP (i:=i) (Qh.mp nd).2 (by simpa using h1) (by simpa using h2) hk
theorem pP{y:Str->Option NameKind}{x:Str}{v:Value}:∀{P:LS}{vs:LW}{i:Nat}{m:Str->Option Value},P.Nodup->P[i]?=some x->vs[i]?=some v->y x≠some .local ->
  bindC y (P.zip vs) m x=some v
 |[],_,_,_,_,h,_,_=>by simp at h|_::_,[],_,_,_,_,h,_=>by simp at h|p::P,w::vs,0,m,nd,h1,h2,hk=>by simp at h1 h2;subst h1;subst h2;show bindC y ((p,w)::P.zip vs) m p=_;unfold bindC;rw[oP λv hv=>(Qh.mp nd).1 (QA1 hv).1,if_neg hk];simp|p::P,w::vs,i+1,m,nd,h1,h2,hk=>by show bindC y ((p,w)::P.zip vs) m x=_;unfold bindC;exact pP (i:=i) (Qh.mp nd).2 (by simpa using h1) (by simpa using h2) hk
def vD(N:LS)(vs:LV):St:=vs.map some++QAL (N.length - vs.length) none
noncomputable def dW(l:T8)(P:Program)(w:World)(K:QA)(mg:Str->Option Value)(base:Heap)(N:LS)(g:Str)(d:Scope)(f:Addr)(x:Value)(A:Around)(outer:List Env)(s:Shared)(H:Hp)(E:XK):Cx where
 prog:=P
 w:=w
 K:=K
 mg:=mg
 base:=base
 A:=A.deeper (envOfC g d s.heap.objs.size f x)
 N:=N
 s₀:=s
 H₀:=H
 env:=envOfC g d s.heap.objs.size f x
 outer:=outer
 stack:=envOfC g d s.heap.objs.size f x::outer
 ex:=[]
 calm:=true
 fn:=λ_=>true
 pn:=[]
 xe:=λe y=>wpAny (model P w) (A.deeper (envOfC g d s.heap.objs.size f x)) (leaving (envOfC g d s.heap.objs.size f x) e) (λ_ h=>l outer H s E e h) (λz h=>l outer H s E z h) y
theorem FT{sc:Scope}{n:Nat}{x:Str}(h:sc.names.lookup x=some .cell):∃c,(cellsFrom n sc.names []).lookup x=some c:=by have q:=QAq sc.names n [] (.inl h);exact Option.isSome_iff_exists.mp q
theorem d0{K:QA}{N:LS}{F:Value}{A:Around}{outer:List Env}{s G:Shared}{H:Hp}{E:XK}{us:LW}{vs:LV}
  (S:FnScope N j d) (M:A.handled=none) (o:Env0 P w K mg base A outer s H) (hl:vs.length=j.length) (r:lA vs us)
  (x:InCallC s s.heap.objs.size (bindL (envOfC g d s.heap.objs.size f F).kindOf (j.zip us) λ_=>none) (cellsFrom (s.heap.objs.size+1) d.names []) (bindC (envOfC g d s.heap.objs.size f F).kindOf (j.zip us) λ_=>none) G) :
  Inv (dW l P w K mg base N g d f F A outer s H E) [] (vD N vs) H G:=by
 have L:j.length<=N.length:=by have:=congrArg qa S.pre;rw[qJ]at this;omega
 obtain⟨C,Q,rfl,hk⟩:=x.done;have X:∀b:Addr,b∉(dW l P w K mg base N g d f F A outer s H E).ex:=λb z=>absurd (show b∈([]:List Addr) from z) (by simp);refine⟨⟨o.mod,S.kind,rfl,rfl,QZ _,λy z c C m=>?_,λy Y=>?_,λy c _ h=>?_,λ_=>M,Around.frames_deeper o.frames,.inr ⟨rfl,rfl⟩,λb z=>absurd z (X b),o.bs,o.bsz,λb _ _=>X b,λb z=>absurd z (X b),o.funs,o.frf,o.tb⟩,
  rfl,o.bare,Un.kept hk,⟨_,x.toInCall.ns,λi y v C m R=>?_⟩,λy c h=>⟨_,x.cell y c h⟩,o.hok.fresh (QZ _),λy c h=>?_,λp W=>absurd (show p∈([]:OB) from W) (by simp),o.hok.kept hk,?_⟩
 exact name_of_addr x.apart (qN C) (qN m);have Y:d.names.lookup y=some .cell∨d.names.lookup y=some .free:=Y;rcases Y with Y|Y;exact FT Y;exact absurd rfl (S.nofree _ (qN Y));exact QA0 (x.above y c (qN h));have B:i<vs.length:=by unfold vD at m;by_cases B:i<vs.length;exact B;rw[Qu (by simpa using B)]at m;rw[wc]at m;split at m<;>cases m
 have O:vs[i]?=some v:=by
  unfold vD at m;rw[qK (by simpa using B),Qb]at m;cases e:vs[i]? with|none=>rw[e]at m;cases m|some a=>rw[e]at m;cases m;rfl
 obtain⟨u,I,J⟩:=r.get O;have W:j[i]?=some y:=by rw[<- S.pre,List.getElem?_take_of_lt (by omega)];exact C
 have Z:j.Nodup:=by rw[<- S.pre];exact S.nd.sublist (List.take_sublist _ _)
 refine⟨u,J,?_⟩;rcases S.par y (qU W) with k|k;exact .inl ⟨k,mP Z W I k⟩;obtain⟨c,e⟩:=FT (n:=s.heap.objs.size+1) k;refine .inr ⟨.inl k,c,e,?_⟩;have q:=x.cell y c e;rw[pP Z W I (by show d.names.lookup y≠_;rw[k];decide)]at q;exact q;exact o.hok.fresh (QA0 (x.above y c (qN h)));unfold vD;show _=N.length;rw[QI,QE,qt];omega
theorem uf{K:QA}{k:Nat}{name:Str}{z:Arguments}{body:List Stmt}{dV kV B pm h ct oc:Value}{an od:Option Addr}
  {L:Array (Option Value)}{N:LS}{C:Sp}(lk:K.lookup f=some ⟨oc,od,.func (qr name g z body d dV kV B pm an h ct),L⟩) (R:Wb K h g=true) (S:FnScope N j d)
  (len:∀vs H Q E,C vs H Q E->vs.length=j.length)
  (p:∀(A:Around) (outer:List Env) (s:Shared) (H:Hp) (vs:LV) (Q:VK) (E:XK),Room k (A.deeper (envOfC g d s.heap.objs.size f h))->C vs H Q E ->
   ∃t,HW (dW l P w K mg base N g d f h A outer s H E) body t/\t { nx:=λ_ i=>Q .non i,rt:=Q } (vD N vs) H) :
  FnOk P w K mg base l (k+1) f (qr name g z body d dV kV B pm an h ct) j C:=by
 refine⟨len,λA outer s H args us vs Q E O Z hb r Y=>?_⟩;have hl:=len _ _ _ _ Y;have KX:K.In s.heap:=Z.mod.kin.keeps λb o e=>(Z.bs b o e).1;have M:s.heap.NoLimit:=Z.mod.nolimit.keeps λb o e=>(Z.bs b o e).1;have m:∀y∈j.zip us,d.names.lookup y.1=some .local∨(d.names.lookup y.1=some .cell/\((cellsFrom (s.heap.objs.size+1) d.names []).lookup y.1).isSome=true):=λ⟨n,v⟩ hy=>by rcases S.par n (QA1 hy).1 with q|q;exact .inl q;exact .inr ⟨q,QAq _ _ _ (.inl q)⟩
 refine codeAny_call_function O.depth (KX _ _ lk) rfl S.co S.gen rfl (PySem.W.codeRec_of KX R) (hb _ _ _ _ ?_);refine wpAny_newFunctionEnv_cells S.kind m λenv he s1 x=>?_;subst he;refine⟨M.keeps x.toInCall.keep,codeAny_func ?_⟩;obtain⟨t,ht,hq⟩:=p A outer s H vs Q E (O.deeper _) Y;have I:Inv (dW l P w K mg base N g d f h A outer s H E) [] (vD N vs) H s1:=d0 S O.hd Z hl r x;refine qw (ht [] s1 (vD N vs) H _ I hq) (λfl F X=>?_) λe F X=>X;have fin:∀{a:St}{i:Hp}{v:V}{u:Value},Inv (dW l P w K mg base N g d f h A outer s H E) [] a i F->rA v u->Q v i->CE outer P w H s Q u F :=
  λ{a i v u} J G q=>⟨v,i,J.os,J.bare,J.base,J.hok,G,q⟩
 cases fl with|ret u=>obtain⟨v,a,i,J,G,q⟩:=X;exact fin J G q|next=>obtain⟨a,i,J,q⟩:=X;exact fin (v:=V.non) (u:=Value.none) J rfl q|brk=>obtain⟨_,_,_,q⟩:=X;exact Qc q|cont=>obtain⟨_,_,_,q⟩:=X;exact Qc q
end
section
variable{X:Cx}{x:Str}{p pos:Pos}{e:Expr}{es:List Expr}{t:TA}{y T:String}{r:LV->Hp->VK->Prop}
def Kw(r:LV->Hp->VK->Prop)(t:TA):TE:=λh H Q=>t h H λz u=>r z u Q
theorem DM(hc:CC X (.builtin y) r)(l:Gl X x)(j:X.mg x=none)(hv:bootBuiltins x=some (.builtin y))(n:PA X (e::es) t)(i:x≠"__name__":=by decide)(v:(x==("__debug__":Str))=false:=by decide)
  (m:starEach (e::es) X.env=(false,eval e X.env)::starEach es X.env:=by rfl) (u:(backTo pos (starEach es X.env)).any (·.1)=false:=by rfl):PE X (.Call (.Name x p) (e::es) [] pos) (Kw r t):=by
 intro z s w H Q I h;refine qy (xE I l j hv ?_ i v);exact PyProof.Rows.callWith_builtin1 (HB (n pos z s w H _ I h) λa b ⟨k,q,o,f,g⟩=>hc z b w q k a Q o f g) m u
theorem lZ(hc:CC X (.type T) r)(l:Gl X x)(j:X.mg x=none)(hv:bootBuiltins x=some (.type T))(n:PA X (e::es) t)(i:x≠"__name__":=by decide)(v:(x==("__debug__":Str))=false:=by decide)
  (m:starEach (e::es) X.env=(false,eval e X.env)::starEach es X.env:=by rfl) (u:(backTo pos (starEach es X.env)).any (·.1)=false:=by rfl):PE X (.Call (.Name x p) (e::es) [] pos) (Kw r t):=by
 intro z s w H Q I h;refine qy (xE I l j hv ?_ i v);exact qO (HB (n pos z s w H _ I h) λa b ⟨k,q,o,f,g⟩=>hc z b w q k a Q o f g) m u
end
end L2
namespace HT
open PySem PyProof.Rows
section
open PySem.SeqAt
open PySem.AutoSeq1 (wpAny_loadPart')
open PySem.MeetsSeq PySem.MeetsSeq2 PySem.MeetsSeq3
end
section
variable{prog:Program}{w:World}{A:Around}{E:gC}{s:Shared}
def sIx(n d:Nat):Option Int->Nat
 |none=>d|some v=>if v<0 then(v+(n:Int)).toNat else min v.toNat n
end
end HT
namespace L2
open PySem PySem.Spec PyProof.Rows
noncomputable abbrev TO:=St->Hp->(Option Int->Hp->Prop)->Prop
def PO(X:Cx)(e:Option Expr)(t:TO):Prop :=
 ∀(h:OB) (s:Shared) (x:St) (H:Hp) (Q:Option Int->Hp->Prop),Inv X h x H s->t x H Q ->
  wpAny (model X.prog X.w) X.A (evalPart e X.env) (λu z=>∃o y,Inv X h x y z/\IsPart u o/\Q o y) X.xe s
def Z9:TO:=λ_ H Q=>Q none H
def Yn(t:TE):TO:=λh H Q=>t h H λx y=>∃i,x=.int i/\Q (some i) y
theorem PV{ns:LJ}:∀{us:LW},lA (ns.map V.int) us->IntsAre us ns:=by
 induction ns with
 |nil=>intro us r;rw[wn]at r;cases r;exact .nil|cons n ns y =>
  intro us r;rw[QS]at r;cases r with|cons x h=>obtain⟨t,e⟩:=x;subst e;exact .cons n t (y h)
section
variable{X:Cx}{e:Expr}{te:TE}{y z:Option Expr}{k a:TO}{pos p2:Pos}
theorem Va:PO X none Z9:=by intro x s u H Q I h;rw[evalPart_none];exact QK ⟨none,H,I,.none,h⟩
theorem Ka(h:PE X e te):PO X (some e) (Yn te):=by intro v s w H Q I g;rw[evalPart_some];refine HB (h v s w H _ I g) λu m ⟨x,l,j,b,f⟩=>?_;obtain⟨i,rfl,q⟩:=f;obtain⟨t,rfl⟩:=b;exact⟨some i,l,j,.int i t,q⟩
def Pl(X:Cx)(r:V->Option Int->Option Int->Hp->VK->Prop):Prop :=
 ∀(h:OB) (s:Shared) (u:St) (H:Hp) (x:V) (v f b:Value) (y z:Option Int) (g:Addr) (Q:VK),Inv X h u H s->rA x v->s.heap.IsSliceOf g f b .none->IsPart f y->IsPart b z->r x y z H Q ->
  ∃T id,typeLookup (.type T) "__getitem__"=pure (some (.builtin id))/\s.TypeIs v T/\wpAny (model X.prog X.w) X.A (getItem v (.ref g)) (EP X h u Q) X.xe s
theorem Pl.or{r j:V->Option Int->Option Int->Hp->VK->Prop}(h:Pl X r)(h':Pl X j):Pl X (λx y z H Q=>r x y z H Q∨j x y z H Q):=by intro u s w H x v f b y z g Q I i n m l q;rcases q with q|q;exact h u s w H x v f b y z g Q I i n m l q;exact h' u s w H x v f b y z g Q I i n m l q
noncomputable def xy(r:V->Option Int->Option Int->Hp->VK->Prop)(te:TE)(k a:TO):TE:=λh H Q=>te h H λx b=>k h b λl w=>a h w λu v=>r x l u v Q
theorem u5{r:V->Option Int->Option Int->Hp->VK->Prop}(G:Pl X r)(L:PE X e te)(hl:PO X y k)(E:PO X z a):PE X (.Subscript e (.Slice y z none p2) pos) (xy r te k a):=by intro f s i H Q I h;refine QBr (HB (L f s i H _ I h) λv p ⟨x,H1,R,Y,K⟩=>?_);refine wpAny_Slice (HB (hl f p i H1 _ R K) λm o ⟨l,S,P,C,W⟩=>HB (E f o i S _ P W) λj g ⟨u,n,O,B,Z⟩=>?_);rw[evalPart_none];refine QK ?_;have N:Inv X f i n { g with heap:=g.heap.push { cls:=.type "slice",data:=.fields #[m,j,.none] } }:=O.kept (t':=g.toks) λb ob q=>QH _ q;obtain⟨T,id,M,F,J⟩:=G f { g with heap:=g.heap.push { cls:=.type "slice",data:=.fields #[m,j,.none] } } i n x v m j l u g.heap.objs.size Q N Y (Heap.IsSliceOf.new ..) C B Z;show wpAny (model X.prog X.w) X.A (subscriptTail e (.Slice y z none p2) v (.ref g.heap.objs.size)) (EP X f i Q) X.xe { g with heap:=g.heap.push { cls:=.type "slice",data:=.fields #[m,j,.none] } };exact tail_any (ops:=[.ref g.heap.objs.size,v]) F M J (by with_unfolding_all rfl)
noncomputable def N0(xs:LV)(y z:Option Int):LV:=(xs.drop (HT.sIx xs.length 0 y)).take (HT.sIx xs.length xs.length z - HT.sIx xs.length 0 y)
theorem XT(xs:LV)(y z:Option Int):(N0 xs y z).length<=xs.length:=by unfold N0;rw[qJ,QAo];omega
end
noncomputable def XR(n:Nat)(i:Int):Option Nat:=if 0<=i then(if i<n then some i.toNat else none) else if -(n:Int)<=i then some (i+n).toNat else none
def YD{α:Type}(xs:List α)(i:Int):Option α:=(XR xs.length i).bind λj=>xs[j]?
theorem NQ{n:Nat}{i:Int}{j:Nat}(h:XR n i=some j):seqIndex? i n=some j/\j<n/\-(n:Int)<=i/\i<n:=by unfold XR at h;by_cases y:0<=i;rw[if_pos y]at h;by_cases x:i<n;rw[if_pos x]at h;have e:i.toNat=j:=Qk h;exact⟨by rw[QAe y x,e],by omega,by omega,x⟩;rw[if_neg x]at h;cases h;rw[if_neg y]at h;by_cases x:-(n:Int)<=i;rw[if_pos x]at h;have e:(i+n).toNat=j:=Qk h;exact⟨by rw[QB5 (by omega) x,e],by omega,x,by omega⟩;rw[if_neg x]at h;cases h
theorem mR{α:Type}{xs:List α}{i:Int}{v:α}(h:YD xs i=some v):∃j,seqIndex? i xs.length=some j/\xs[j]?=some v/\j<xs.length/\-(xs.length:Int)<=i/\i<xs.length:=by
 unfold YD at h;cases e:XR xs.length i with|none=>rw[e]at h;cases h|some j=>rw[e]at h;obtain⟨u,z,y,x⟩:=NQ e;exact⟨j,u,h,z,y,x⟩
theorem KF{α:Type}{xs:List α}{j:Nat}{v:α}(h:xs[j]?=some v):YD xs (j:Int)=some v:=by
 have x:j<xs.length:=(Qg.mp h).1;have e:XR xs.length (j:Int)=some j:=by unfold XR;rw[if_pos (by omega),if_pos (by omega)];simp
 unfold YD;rw[e];exact h
def YY(b:Expr):Prop:=∀o i,subscripted b false o i=operate [o,i] (getItem o i)
def L8(X:Cx)(r:R2):Prop :=
 ∀(k h:Expr) (z:OB) (s:Shared) (a:St) (H:Hp) (x y:V) (v u:Value) (Q:VK),Inv X z a H s->rA x v->rA y u->r x y H Q ->
  subscripted h false v u=operate [v,u] (getItem v u)->wpAny (model X.prog X.w) X.A (subscriptTail k h v u) (EP X z a Q) X.xe s
def D8(X:Cx)(id:String)(r:V->LV->Hp->VK->Prop):Prop :=
 ∀(h:OB) (s:Shared) (y:St) (H:Hp) (x:V) (z:LV) (v:Value) (u:LW) (Q:VK),Inv X h y H s->rA x v->lA z u->r x z H Q ->
  wpAny (model X.prog X.w) X.A (call (.builtin id) (v::u)) (EP X h y Q) X.xe s
section
variable{X:Cx}{a b:Expr}{ta Y:TE}{pos:Pos}
section
variable{d:OB}{s:Shared}{x:V}{u v:Value}
theorem L8.or{r g:R2}(h:L8 X r)(h':L8 X g):L8 X (λx y H Q=>r x y H Q∨g x y H Q):=by intro z w d s k H x y v u Q I f e q i;rcases q with q|q;exact h z w d s k H x y v u Q I f e q i;exact h' z w d s k H x y v u Q I f e q i
theorem D8.or{g:String}{r e:V->LV->Hp->VK->Prop}(h:D8 X g r)(h':D8 X g e):D8 X g (λx xs H Q=>r x xs H Q∨e x xs H Q):=by intro d s y H x xs v z Q I w k q;rcases q with q|q;exact h d s y H x xs v z Q I w k q;exact h' d s y H x xs v z Q I w k q
theorem Co{r:R2}(g:L8 X r)(i:PE X a ta)(hb:PE X b Y)(f:YY b):PE X (.Subscript a b pos) (Zn r ta Y):=by intro d s z H Q I h;exact QBr (binT i hb I h λv u w x y l j e k q=>g a b d w z l x y v u Q j e k q (f _ _))
def Jo(K:QA):R2:=λx y H Q=>∃p h i v,x=.ref p/\y=.int i/\pC K H p h/\YD h i=some v/\Q v H
def so(K:QA):R2:=λx y H Q=>∃p h i v,x=.ref p/\y=.int i/\nE K H p h/\YD h i=some v/\Q v H
noncomputable def ao:R2:=λx y H Q=>∃z i c,x=.str z/\y=.int i/\z.length<=sizeLine/\YD z.cps.toList i=some c/\Q (.str ⟨#[c]⟩) H
theorem bc:L8 X (Jo X.K):=by
 intro e f d s o H x y v u Q I E C h Z;obtain⟨p,N,i,z,rfl,rfl,F,G,q⟩:=h;cases E;obtain⟨t,rfl⟩:=C;obtain⟨m,r,l,O⟩:=I.list F;obtain⟨j,k,M,R,L,J⟩:=mR G;obtain⟨w,A,g⟩:=r.get M;have hl:=r.length;have P:=TH;have fin:EP X d o Q w s:=⟨z,H,I,g,q⟩
 by_cases W:0<=i;have n:i.toNat=j:=by rw[QAe W J]at k;exact Qk k
 exact item_listR l.isList W (by omega) (by rw[n];simpa using A) fin Z;have n:(i+(m.toArray.size:Int)).toNat=j:=by rw[QB5 (by omega) L]at k;rw[QN,<- hl];exact Qk k
 exact qi (x:=w) l.isList.typeIs QBs.lookup
  (wpAny_getItem_list_neg (Q:=λr B=>r=w/\EP X d o Q r B) l.isList (by omega) (by rw[QN]<;>omega) (by omega) (by rw[n];simpa using A) ⟨rfl,fin⟩) Z
theorem Sj:L8 X (so X.K):=by
 intro k e d s g H x y v u Q I o n h W;obtain⟨p,G,i,z,rfl,rfl,A,B,q⟩:=h;cases o;obtain⟨t,rfl⟩:=n;obtain⟨Z,r,l,J⟩:=I.tuple A;obtain⟨j,E,C,O,N,M⟩:=mR B;obtain⟨w,F,f⟩:=r.get C;have hl:=r.length;have L:=TH;have fin:EP X d g Q w s:=⟨z,H,I,f,q⟩
 exact qi (x:=w) l.typeIs QAD.lookup
  (QBg (j:=j) (Q:=λr m=>r=w/\EP X d g Q r m) l (by omega) (by omega) (by rw[QN,<- hl];exact E) (by simpa using F) ⟨rfl,fin⟩) W
theorem Tj:L8 X ao:=by
 intro w k d s W H x y v u Q I g f h l;obtain⟨z,i,c,rfl,rfl,A,m,q⟩:=h;obtain⟨t,rfl⟩:=g;obtain⟨K,rfl⟩:=f;obtain⟨j,e,p,C,o,n⟩:=mR m;have hl:z.cps.toList.length=z.length:=by simp[Str.length]
 rw[hl]at e o n;have B:=TH;exact tail_any (QCW s z t) slot_str_getitem.lookup (getItem_str (c:=c) (by have Z:decide (i < -(2 ^ 63:Int))=false:=dF (by omega);have r:decide (i ≥ 2 ^ 63)=false:=dF (by omega);rw[Z,r,QBY]) (by rw[e];simpa using p) ⟨.str ⟨#[c]⟩,H,I.tok _,⟨_,rfl⟩,q⟩) l
def ny(K:QA):R2:=λx y H Q=>Jo K x y H Q∨so K x y H Q∨ao x y H Q
theorem Aj:L8 X (ny X.K):=bc.or (Sj.or Tj)
theorem BV(its:LW)(n j:Nat)(u:Value):Qz (·.setIfInBounds j u) { cls:=.type "list",data:=.seq its.toArray n }={ cls:=.type "list",data:=.seq (its.set j u).toArray n }:=by simp[Qz]
theorem Inv.lst{d:OB}{σ:St}{H:Hp}{s:Shared}{p:Addr}{xs:LV}(I:Inv X d σ H s)(h:H p=some (.lst xs)) :
  ∃(its:LW) (n:Nat),lA xs its/\s.heap.get? p=some { cls:=.type "list",data:=.seq its.toArray n }/\xs.length<=sizeLine:=by
 obtain⟨z,its,n,r,e⟩:=I.hok p _ h;exact⟨its,n,r,e,z⟩
theorem Inv.lstUpd{σ:St}{H:Hp}{p:Addr}{xs y:LV}{its its':LW}{n z:Nat}{f:Obj->Obj}(I:Inv X d σ H s)(h:H p=some (.lst xs))
  (g:s.heap.get? p=some { cls:=.type "list",data:=.seq its.toArray n }) (w:f { cls:=.type "list",data:=.seq its.toArray n }={ cls:=.type "list",data:=.seq its'.toArray z }) (r:lA y its') (k:y.length<=sizeLine) (t:Nat) :
  Inv X d σ (DA H p (.lst y)) { s with heap:=s.heap.update p f,toks:=t }:=by
 have e:(s.heap.update p f).get? p=some { cls:=.type "list",data:=.seq its'.toArray z }:=by rw[wL f g (by rw[w]<;>rfl),w]
 refine I.write (x:=p) (e:=p) (by rw[h];trivial) (.inl rfl) (λb u hb q=>(WU _ _ (Q3 hb)).trans q) ⟨_,e⟩ ?_;exact⟨k,its',z,r,e⟩
def vo:V->V->V->Hp->(Hp->Prop)->Prop:=λo i v H Q=>∃p h k j,o=.ref p/\i=.int k/\H p=some (.lst h)/\XR h.length k=some j/\Q (DA H p (.lst (h.set j v)))
theorem z4:Dd X vo:=by
 intro d s Z H o i v G J u Q I B C A h;obtain⟨p,K,k,j,rfl,rfl,e,F,q⟩:=h;cases B;obtain⟨t,rfl⟩:=C;obtain⟨y,n,r,w,E⟩:=I.lst e;obtain⟨z,M,g,f⟩:=NQ F;have hl:=r.length;have L:=TH;have m:Inv X d Z (DA H p (.lst (K.set j v))) { s with heap:=s.heap.update p (Qz (·.setIfInBounds j u)) } :=
  I.lstUpd e w (BV y n j u) (r.set A j) (by rw[wG];exact E) s.toks
 by_cases l:0<=k;have hk:k.toNat=j:=by rw[QAe l f]at z;exact Qk z
 exact PySem.W.ki_setAt w l (by omega) (by rw[QN,<- hl];exact f) (by rw[hk];exact⟨_,m,q⟩);have hk:(k+(y.toArray.size:Int)).toNat=j:=by rw[QB5 (by omega) g]at z;rw[QN,<- hl];exact Qk z
 exact PySem.W.ki_setBack w (by omega) (by rw[QN,<- hl];exact g) (by omega) (by rw[hk];exact⟨_,m,q⟩)
theorem PP(y z:Option Int)(n:Nat):(sliceBounds y z none n).1=((HT.sIx n 0 y:Nat):Int)/\(sliceBounds y z none n).2.1=((HT.sIx n n z:Nat):Int)/\(sliceBounds y z none n).2.2=1:=by
 refine⟨?_,?_,rfl⟩;cases y with|none=>simp[sliceBounds,HT.sIx]|some i=>simp only[sliceBounds,HT.sIx,QCE,show(1:Int) > 0 by decide,if_true];by_cases h:i<0;simp only[h,if_true]<;>omega;simp only[h,if_false]<;>omega
 cases z with|none=>simp[sliceBounds,HT.sIx]|some i=>simp only[sliceBounds,HT.sIx,QCE,show(1:Int) > 0 by decide,if_true];by_cases h:i<0;simp only[h,if_true]<;>omega;simp only[h,if_false]<;>omega
theorem TN(its:LW)(h y:Option Int):slicePick its.toArray h y none=((its.drop (HT.sIx its.length 0 h)).take (HT.sIx its.length its.length y - HT.sIx its.length 0 h)).toArray:=by obtain⟨k,w,z⟩:=PP h y its.toArray.size;unfold slicePick;rw[k,w,z];simp only[sliceRange_one,pick_run,QN]<;>rfl
def zo(K:QA):V->Option Int->Option Int->Hp->VK->Prop:=λx y z H Q=>∃a h,x=.ref a/\pC K H a h/\∀p,H p=none->Q (.ref p) (DA H p (.lst (N0 h y z)))
theorem D9:Pl X (zo X.K):=by intro d s p H x v W Z w k A Q I f n i g h;obtain⟨a,y,rfl,m,q⟩:=h;cases f;obtain⟨j,r,e,l⟩:=I.list m;have z:=r.length;refine⟨"list",_,QBs.lookup,e.isList.typeIs,?_⟩;refine wpAny_getItem_list_slice e.isList n i g .none (by simp) ?_ (by rw[QN]<;>omega);rw[TN,<- z];refine⟨.ref s.heap.objs.size,_,I.laid (t':=s.toks) (o:=.lst (N0 y w k)) (λb ob q=>QH _ q) (QZ _) ?_,rfl,q _ (I.hok.fresh (QZ _))⟩;exact⟨QU (XT y w k) l,_,0,(r.drop (HT.sIx y.length 0 w)).take (HT.sIx y.length y.length k - HT.sIx y.length 0 w),QR _ rfl⟩
def gG:V->Bool
 | .non=>true|.bl _=>true|.int _=>true|.str _=>true|_=>false
noncomputable def Nc:V->V->Bool
 | .non,.non=>true|.bl a,.bl b=>a==b|.bl a,.int b=>(if a then 1 else 0)==b|.int a,.bl b=>a==(if b then 1 else 0)|.int a,.int b=>a==b|.str a,.str b=>a==b|_,_=>false
theorem Zk{A:Around}{y:V}(w:rA y u)(h:rA x v)(k:gG y=true)(fx:gG x=true):qk A s u v (Nc y x):=by
 cases y with
 |non =>
  cases w;cases x with|non=>cases h;exact qk.same _|bl b=>cases h;exact qk.none_bool b|int b=>obtain⟨t,rfl⟩:=h;exact qk.none_int b t|str b=>obtain⟨t,rfl⟩:=h;exact qk.none_str b t|_=>exact absurd (show false=true from fx) QG
 |bl a =>
  cases w;cases x with|non=>cases h;exact qk.bool_none a|bl b=>cases h;exact qk.bool_bool a b|int b=>obtain⟨t,rfl⟩:=h;exact qk.bool_int a b t|str b=>obtain⟨t,rfl⟩:=h;exact qk.bool_str a b t|_=>exact absurd (show false=true from fx) QG
 |int a =>
  obtain⟨z,rfl⟩:=w;cases x with|non=>cases h;exact qk.int_none a z|bl b=>cases h;exact qk.int_bool a z b|int b=>obtain⟨t,rfl⟩:=h;exact qk.int_int a z b t|str b=>obtain⟨t,rfl⟩:=h;exact QBa a z b t|_=>exact absurd (show false=true from fx) QG
 |str a =>
  obtain⟨z,rfl⟩:=w;cases x with|non=>cases h;exact qk.str_none a z|bl b=>cases h;exact qk.str_bool a z b|int b=>obtain⟨t,rfl⟩:=h;exact QBb a z b t|str b=>obtain⟨t,rfl⟩:=h;exact qk.str_str a z b t|_=>exact absurd (show false=true from fx) QG
 |_=>exact absurd (show false=true from k) QG
noncomputable def bW(x:V)(u:Value):Bool:=match u with
 | .none=>Nc .non x|.bool b=>Nc (.bl b) x|.int i _=>Nc (.int i) x|.str z _=>Nc (.str z) x|_=>false
theorem F7{y:V}(r:rA y u)(f:gG y=true):bW x u=Nc y x:=by
 cases y with|non=>cases r;rfl|bl b=>cases r;rfl|int i=>obtain⟨t,rfl⟩:=r;rfl|str z=>obtain⟨t,rfl⟩:=r;rfl|_=>exact absurd (show false=true from f) QG
theorem rJ{x:V}:∀{xs:LV}{us:LW},lA xs us->xs.all gG=true->us.any (bW x)=xs.any λy=>Nc y x
 |_,_,.nil,_=>rfl|y::xs,u::us,.cons r t,f=>by rw[qb,QW]at f;rw[wv,wv,F7 r f.1,rJ t f.2]
theorem vG{A:Around}{s:Shared}{x:V}{v:Value}(z:rA x v)(fx:gG x=true):∀{xs:LV}{us:LW},lA xs us->xs.all gG=true->∀u∈us,qk A s u v (bW x u)
 |_,_,.nil,_=>λu h=>by cases h|y::xs,u::us,.cons r t,f=>λw h=>by rw[qb,QW]at f;rcases QL.mp h with rfl|h;rw[F7 r f.1];exact Zk r z f.1 fx;exact vG z fx t f.2 w h
def inV(x:V)(xs:LV):Bool:=xs.any λy=>Nc y x
noncomputable def lu(K:QA)(neg:Bool):R2:=λx y H Q=>∃p h,y=.ref p/\(pC K H p h∨nE K H p h)/\gG x=true/\h.all gG=true/\Q (.bl (if neg then !inV x h else inV x h)) H
theorem oZ:RE X (compareOp .In) (lu X.K false):=by intro d s l H x y v u Q I g i h;obtain⟨p,m,rfl,k,fx,fs,q⟩:=h;cases i;rcases k with k|k;obtain⟨z,r,e,j⟩:=I.list k;refine SeqAt.in_listAt (bW x) e.isList (λw f=>vG g fx r fs w (by simpa using f)) ⟨.bl _,H,I,rfl,?_⟩;rw[show z.toArray.any (bW x)=z.any (bW x) by simp,rJ r fs];exact q;obtain⟨z,r,e,j⟩:=I.tuple k;refine SeqAt.in_tupleAt (bW x) e (λw f=>vG g fx r fs w (by simpa using f)) ⟨.bl _,H,I,rfl,?_⟩;rw[show z.toArray.any (bW x)=z.any (bW x) by simp,rJ r fs];exact q
theorem lQ:RE X (compareOp .NotIn) (lu X.K true):=by intro d s l H x y v u Q I g i h;obtain⟨p,m,rfl,k,fx,fs,q⟩:=h;cases i;rcases k with k|k;obtain⟨z,r,e,j⟩:=I.list k;refine SeqAt.notIn_listAt (bW x) e.isList (λw f=>vG g fx r fs w (by simpa using f)) ⟨.bl _,H,I,rfl,?_⟩;rw[show z.toArray.any (bW x)=z.any (bW x) by simp,rJ r fs];exact q;obtain⟨z,r,e,j⟩:=I.tuple k;refine SeqAt.notIn_tupleAt (bW x) e (λw f=>vG g fx r fs w (by simpa using f)) ⟨.bl _,H,I,rfl,?_⟩;rw[show z.toArray.any (bW x)=z.any (bW x) by simp,rJ r fs];exact q
theorem nJ:CC X (.builtin "len") (λxs H Q=>∃p z,xs=[.ref p]/\(pC X.K H p z∨nE X.K H p z)/\Q (.int z.length) H):=by intro d s j H xs l Q I r h;obtain⟨p,z,rfl,w,q⟩:=h;obtain⟨u,rfl,g⟩:=FK r;cases g;have m:=TH;rcases w with w|w;obtain⟨f,k,e,i⟩:=I.list w;have y:=k.length;exact Calls.call_len_list e.isList (by simp only[QN]<;>omega) ⟨.int z.length,H,I.tok _,⟨s.toks+1,by rw[QN,y]⟩,q⟩;obtain⟨f,k,e,i⟩:=I.tuple w;have y:=k.length;exact len_tuple e (by simp only[QN]<;>omega) ⟨.int z.length,H,I.tok _,⟨s.toks+1,by rw[QN,y]⟩,q⟩
theorem dR:CC X (.builtin "len") (λxs H Q=>∃z,xs=[.str z]/\z.length<=sizeLine/\Q (.int z.length) H):=by intro d s y H xs w Q I r h;obtain⟨z,rfl,k,q⟩:=h;obtain⟨u,rfl,t,rfl⟩:=FK r;have e:=TH;exact len_str (by omega) ⟨.int z.length,H,I.tok _,⟨_,rfl⟩,q⟩
theorem CC.or{f:Value}{r k:LV->Hp->VK->Prop}(h:CC X f r)(h':CC X f k):CC X f (λxs H Q=>r xs H Q∨k xs H Q):=by intro d s y H xs z Q I w q;rcases q with q|q;exact h d s y H xs z Q I w q;exact h' d s y H xs z Q I w q
theorem nO:CC X (.type "tuple") (λxs H Q=>∃p z,xs=[.ref p]/\((pC X.K H p z/\∀l,H l=none->Q (.ref l) (DA H l (.tup z)))∨(nE X.K H p z/\Q (.ref p) H))):=by
 intro d s j H xs C Q I r h;obtain⟨p,z,rfl,h⟩:=h;obtain⟨u,rfl,W⟩:=FK r;cases W;rcases h with⟨i,q⟩| ⟨i,q⟩
 obtain⟨y,f,g,m⟩:=I.list i;have n:=f.length;refine call_tuple_list g.isList (λk A=>?_) (by simp only[QN]<;>omega);have Z:Inv X d j H { s with heap:=k }:=I.kept (t':=s.toks) A;have B:Inv X d j (DA H k.objs.size (.tup z)) { s with heap:=k.push { cls:=.type "tuple",data:=.seq y.toArray } } :=
  Z.laid (t':=s.toks) (λb o e=>QH _ e) (QZ _) (show BA X.prog X.w _ _ _ (.tup z) from⟨m,y,f,IsTup.new _ _⟩)
 exact⟨.ref k.objs.size,_,B,rfl,q _ (Z.hok.fresh (QZ _))⟩;obtain⟨y,f,g,m⟩:=I.tuple i;exact call_tuple_same g ⟨.ref p,H,I,rfl,q⟩
def L1(K:QA)(T:String)(x:V)(H:Hp):Prop:=match x with
 | .str _=>T="str"|.int _=>T="int"|.ref p=>(T="list"/\∃y,pC K H p y)∨(T="tuple"/\∃o,K.lookup p=some o/\o.cls=.type "tuple"/\o.dict=none) ∨
   (T="dict"/\((∃h,H p=some (.dK h))∨∃z h,H p=some (.dT z h)))∨(T="set"/\∃S n,H p=some (.set S n))
 |_=>False
theorem y3{σ:St}{H:Hp}{T:String}(I:Inv X d σ H s)(r:rA x v)(ty:L1 X.K T x H) :
  s.TypeIs v T/\∀a,v=.ref a->∃ob,s.heap.get? a=some ob/\ob.dict=none:=by
 cases x with
 |str z=>obtain⟨t,rfl⟩:=r;cases(show T="str" from ty);exact⟨QCW s z t,λ_ e=>nomatch e⟩
 |int i=>obtain⟨t,rfl⟩:=r;cases(show T="int" from ty);exact⟨typeIs_int s i t,λ_ e=>nomatch e⟩
 |ref p =>
  cases r;rcases ty with⟨rfl,l,j⟩| ⟨rfl,o,hk,hc,w⟩| ⟨rfl,hk⟩| ⟨rfl,S,n,hk⟩
  obtain⟨g,_,f,_⟩:=I.list j;refine⟨f.isList.typeIs,λa e=>?_⟩;cases e;obtain⟨o,n,e,c,w,_⟩:=f;exact⟨o,e,w⟩;refine⟨⟨o,I.kIn p o hk,hc⟩,λa e=>?_⟩;cases e;exact⟨o,I.kIn _ o hk,w⟩;have z:∃o,s.heap.get? p=some o/\o.ExactDict:=by
   rcases hk with⟨y,hk⟩| ⟨m,y,hk⟩
   obtain⟨_,_,_,_,o,_,_,e,h,_⟩:=I.hok p _ hk;exact⟨o,e,h⟩;obtain⟨_,_,_,_,o,_,e,h,_⟩:=I.hok p _ hk;exact⟨o,e,h⟩
  obtain⟨o,e,h⟩:=z;refine⟨⟨o,e,h.1⟩,λa k=>?_⟩;cases k;exact⟨o,e,h.2.1⟩;obtain⟨o,_,_,_,e,h,_⟩:=I.hok p _ hk;refine⟨⟨o,e,h.1⟩,λa k=>?_⟩;cases k;exact⟨o,e,h.2.1⟩
 |_=>exact Qc ty
def Ct(K:QA)(T:String)(r:V->LV->Hp->VK->Prop)(m:TE):TE:=λy H Q=>m y H λx h=>L1 K T x h/\r x [] h Q
noncomputable def cy(K:QA)(T:String)(r:V->LV->Hp->VK->Prop)(m:TE)(t:TA):TE:=λh H Q=>m h H λx y=>L1 K T x y/\t h y λz w=>r x z w Q
end
variable{o e:Expr}{es:List Expr}{m:TE}{t:TA}{name:Str}{apos cpos:Pos}{T g:String}{r:V->LV->Hp->VK->Prop}
theorem Xi(p:PlainAttrs T)(w:Slot T name g)(k:typeOf (.builtin g)=pure (.type "method_descriptor"))(Z:D8 X g r)(q:PE X o m)
  (u:attributeBase o name X.env (eval o X.env)=eval o X.env:=by rfl) (z:(apos.endLine==cpos.line)=true:=by rfl):PE X (.Call (.Attribute o name apos) [] [] cpos) (Ct X.K T r m):=by
 intro y s f H Q I h;refine QAf u z (HB (q y s f H _ I h) λv l ⟨x,B,j,i,ty,n⟩=>?_);obtain⟨A,W⟩:=y3 j i ty;exact⟨T,g,p,w,k,A,W,WV rfl (QBP (Z y l f B x [] v [] Q j i .nil n))⟩
theorem Do(F:PlainAttrs T)(k:Slot T name g)(j:typeOf (.builtin g)=pure (.type "method_descriptor"))(L:D8 X g r)(J:PE X o m)(M:PA X (e::es) t)
  (w:attributeBase o name X.env (eval o X.env)=eval o X.env:=by rfl)
  (f:((backTo cpos (starEach (e::es) X.env)).all (λx=>!x.1)&&(backToKw cpos (keywordEach [] X.env)).all (λx=>x.1.isSome)
   && decide ((e::es).length+([]:List Keyword).length+(if([]:List Keyword).isEmpty then 0 else 1)<30))=true:=by rfl)
  (u:(apos.endLine==cpos.line)=true:=by rfl) (G:starEach (e::es) X.env=(false,eval e X.env)::starEach es X.env:=by rfl) (z:(backTo cpos (starEach es X.env)).any (·.1)=false:=by rfl) :
  PE X (.Call (.Attribute o name apos) (e::es) [] cpos) (cy X.K T r m t):=by
 intro y s i H Q I h;refine wpAny_Call_method_late w f u rfl (HB (J y s i H _ I h) λv A ⟨x,S,p,l,ty,E⟩=>?_);obtain⟨O,N⟩:=y3 p l ty;refine⟨T,g,F,k,j,O,N,?_⟩;have n:=M cpos y A i S _ p E;rw[G]at n ⊢;refine WV (by show(false||(backTo cpos (starEach es X.env)).any (·.1))=false;rw[z]<;>rfl) (Calls.evalArgs_plain ?_);exact HB n λZ W ⟨q,R,P,B,C⟩=>L y W i R x q v Z Q P l B C
end
def yw(X:Cx)(id:String)(r:V->LV->Hp->VK->Prop):Prop :=
 ∀(h:OB) (s:Shared) (y:St) (H:Hp) (x:V) (z:LV) (v:Value) (u:LW) (Q:VK),Inv X h y H s->rA x v->lA z u->r x z H Q ->
  wpAny (model X.prog X.w) X.A (call (.builtin id) (v::u)) (EP X h y Q) X.xe s
theorem lA.one:∀{x:V}{us:LW},lA [x] us->∃u,us=[u]/\rA x u
 |_,_,.cons r .nil=>⟨_,rfl,r⟩
theorem lA.eraseIdx:∀{xs:LV}{us:LW}(i:Nat),lA xs us->lA (xs.eraseIdx i) (us.eraseIdx i)
 |_,_,_,.nil=>.nil|_,_,0,.cons _ t=>t|_,_,i+1,.cons r t=>.cons r (lA.eraseIdx i t)
theorem lA.reverse{xs:LV}{us:LW}(h:lA xs us):lA xs.reverse us.reverse:=by
 induction h with|nil=>exact .nil|cons r t x=>rw[wV,wV];exact lA.append x (.cons r .nil)
theorem zP{α:Type}:∀(l:List α) (i:Nat),(l.eraseIdx i).length<=l.length
 |[],_=>QZ _|_::_,0=>wH _|_::r,i+1=>Wm (zP r i)
section
variable{X:Cx}{y:OB}{σ:St}{H:Hp}{s:Shared}{l b:Addr}{xs v w:LV}
theorem Inv.lset{its its':LW}{n:Nat}{f:Array Value->Array Value}{t':Nat}(I:Inv X y σ H s)(a:H l=some (.lst xs))
  (e:s.heap.get? l=some { cls:=.type "list",data:=.seq its.toArray n }) (k:f its.toArray=its'.toArray) (hv:lA v its') (h:v.length<=sizeLine) :
  Inv X y σ (DA H l (.lst v)) { s with heap:=s.heap.update l (Qz f),toks:=t' }:=by
 have q:=PySem.IsL.update e f;rw[k]at q;refine I.write (x:=l) (e:=l) (by rw[a];exact trivial) (.inl rfl) (λg u hb z=>(WU s.heap (Qz f) (Q3 hb)).trans z) ⟨_,q⟩ ?_;exact⟨h,its',_,hv,q⟩
theorem Inv.lnew{its:LW}{t':Nat}(I:Inv X y σ H s)(hv:lA v its)(h:v.length<=sizeLine) :
  Inv X y σ (DA H s.heap.objs.size (.lst v)) { s with heap:=s.heap.push { cls:=.type "list",data:=.seq its.toArray },toks:=t' } :=
 I.laid (λ_ _ q=>QH _ q) (QZ _) ⟨h,its,0,hv,QR _ rfl⟩
theorem Inv.fresh(I:Inv X y σ H s):H s.heap.objs.size=none:=I.hok.fresh (QZ _)
theorem Inv.lstM(I:Inv X y σ H s)(h:H l=some (.lst xs)):xs.length<=sizeLine/\∃(its:LW) (n:Nat),lA xs its/\xs.length=its.length/\s.heap.get? l=some { cls:=.type "list",data:=.seq its.toArray n }:=by obtain⟨z,its,n,r,e⟩:=I.hok l _ h;exact⟨z,its,n,r,r.length,e⟩
theorem v6{n:Nat}(h:n<=sizeLine):WG n=false:=by unfold WG;exact dF (by omega)
end
section
variable{X:Cx}
def lX:V->LV->Hp->VK->Prop:=λx z H Q=>∃l h y,x=.ref l/\z=[y]/\H l=some (.lst h)/\h.length<sizeLine/\Q .non (DA H l (.lst (h++[y])))
theorem HZ:yw X "list.append" lX:=by intro k s i H x m v o Q I b f h;obtain⟨l,j,y,rfl,rfl,a,p,q⟩:=h;cases b;obtain⟨u,rfl,g⟩:=f.one;obtain⟨z,w,n,r,hl,e⟩:=I.lstM a;refine QBt F.slot_list_append ⟨_,e,rfl⟩ F.entry_list_append (F.args_list_append_2 _ _) (PySem.list_append l w.toArray n u (by rw[QN];omega)) ⟨e,?_⟩;refine⟨.non,_,I.lset (its':=w++[u]) a e (by simp) (r.append (.cons g .nil)) ?_,rfl,q⟩;rw[QI,qF];omega
def ba:V->LV->Hp->VK->Prop:=λx z H Q=>∃l b y h,x=.ref l/\z=[.ref b]/\H l=some (.lst y)/\H b=some (.lst h)/\y.length+h.length<=sizeLine/\Q .non (DA H l (.lst (y++h)))
theorem GZ:yw X "list.extend" ba:=by
 intro f s K H x E v G Q I i j h;obtain⟨l,b,C,A,rfl,rfl,g,Z,J,q⟩:=h;cases i;obtain⟨u,rfl,m⟩:=j.one;cases m;obtain⟨z,w,n,r,hl,e⟩:=I.lstM g;obtain⟨B,y,p,o,Y,W⟩:=I.lstM Z;have a:w.toArray.size+y.toArray.size<=sizeLine:=by rw[QN,QN];omega
 have k:¬ (!w.toArray.isEmpty&&WG (w.toArray.size+y.toArray.size))=true:=by rw[v6 a,QBG];exact QG
 refine QBt F.slot_list_extend ⟨_,e,rfl⟩ F.entry_list_extend (F.args_list_extend_2 _ _)
  (AutoSeq1.list_extend_list_list_0 l w.toArray n b y.toArray p k (by rw[QN];omega) (by omega)) ⟨e,W,?_⟩
 refine⟨.non,_,I.lset (its':=w++y) g e (by simp) (r.append o) ?_,rfl,q⟩;rw[QI];omega
def Ph:V->LV->Hp->VK->Prop:=λx z H Q=>∃l h i k y,x=.ref l/\z=[.int i]/\H l=some (.lst h)/\-(2 ^ 63)<=i/\i<2 ^ 63/\seqIndex? i h.length=some k/\h[k]?=some y/\Q y (DA H l (.lst (h.eraseIdx k)))
theorem J6:yw X "list.pop" Ph:=by
 intro f s A H x B v C Q I m o h;obtain⟨l,j,i,k,y,rfl,rfl,g,K,W,hk,Y,q⟩:=h;cases m;obtain⟨u,rfl,p⟩:=o.one;obtain⟨t,rfl⟩:=p;obtain⟨z,a,n,r,hl,e⟩:=I.lstM g;obtain⟨w,Z,b⟩:=r.get Y;refine QBt F.slot_list_pop ⟨_,e,rfl⟩ F.entry_list_pop (F.args_list_pop_2 _ _)
  (MeetsSeq.list_pop_at l a.toArray n i t k w (fitsIndex_both K W) (by rw[QN,<- hl];exact hk) (by rw[<- We];exact Z) (by rw[QN];omega)) ⟨e,?_⟩
 refine⟨y,_,I.lset (its':=a.eraseIdx k) g e ?_ (r.eraseIdx k) ?_,b,q⟩;show a.toArray.eraseIdxIfInBounds k=(a.eraseIdx k).toArray;rw[List.eraseIdxIfInBounds_toArray];have:=zP j k;omega
end
end L2
namespace Att
open PySem PySem.W PySem.Calls PyProof.Rows
theorem iL{P:Params}{h:Heap}:∀(ns:LJ) (vs:LW),WellAll P h vs (ns.map WData.int)->IntsAre vs ns:=by
 intro ns;induction ns with
 |nil=>intro vs w;rw[wn]at w;cases w;exact .nil|cons n ns x =>
  intro vs w;rw[QS]at w;cases w with|cons a b=>cases a;exact .cons _ _ (x _ b)
theorem script_of{l:OpenLaw}{n:Nat}(j:l.most=some n){P:Params}{h:Heap}{args:List WData}{x:LW}
  (y:l.row.toRowW.claim.pre args=true) (k:WellAll P h x args) :
  ∃a vs ns,x=[Value.ref a]/\args=[WData.list (ns.map WData.int)]/\h.get? a=some { cls:=.type "list",data:=.seq vs.toArray }/\IntsAre vs ns/\ns.length<=n:=by
 have b:WShape.hasAll [] args [.list .int]=true:=(pre_splitW y).1;have hc:l.pre.holds [] { args:=args }=true:=(pre_splitW y).2;obtain⟨d,r,rfl,p,o⟩:=hasAllW_cons b;obtain rfl:=hasAllW_nil o;obtain⟨s,rfl,m⟩:=hasW_list p;obtain⟨ns,rfl⟩:=items_int m;have z:ns.length<=n:=by
  unfold OpenLaw.pre at hc;have w:(WTm.not (.lt (.lit (.int (n:Int))) (.len (.arg 0)))).holds [] { args:=[.list (ns.map .int)] }=true:=by have w:=(holds_andW hc).1;rw[j]at w;exact w
  have v:=condW_of w (w_not (w_lt w_lit (w_len_list (w_arg rfl))));rw[QE]at v;refine Nat.le_of_not_lt λq=>?_;have g:(n:Int)<((ns.length:Nat):Int):=by omega
  first
   | (rw[dT g]at v;exact absurd v (by decide))
   | (simp at v;omega)
 cases k with
 |cons f e =>
  cases e;cases f with|list i u=>exact⟨_,_,ns,rfl,rfl,i,iL ns _ u,z⟩
theorem post_true(l:OpenLaw)(args:List WData):l.row.toRowW.claim.post args (.bool true) args=true :=
 postW_of (r:=l.row.toRowW) (X:=(true==true))
  (show WShape.has [] (.bool true) .bool=true by first|rfl|decide|simp[WShape.has,WShape.arms,WShape.armsAll])
  (show(WTm.eq .res (.lit (.bool true))).value [] { args:=args,res:=some (.bool true),after:=args }=some (.bool (true==true)) from w_eq_bool (w_res rfl) w_lit) rfl
end Att
namespace L2
open PySem PySem.Spec PyProof.Rows
theorem YO:∀{vs:LW}{ns:LJ},IntsAre vs ns->lA (ns.map V.int) vs
 |_,_,.nil=>.nil|_,_,.cons n t h=>.cons ⟨t,rfl⟩ (YO h)
def Aq(H:Hp):Prop:=∀b,H b=none∨(∃o h,H b=some (.frz o (.lst h)))∨∃q,H b=some (.tbl q)
theorem M6{P:Program}{w:World}{K:QA}{mg mb:Str->Option Value}{CX:T8}{k:Nat}{fa a:Addr}{fd:FuncData}{x:Str}{sp:Sp}{y:Shared}{vs:LW}{ns:LJ}{T c:Addr}{X:Str}(hT:∀f:Heap,K.In f->∀P q,aP mg f P q->P=T/\q=X)(j:y.heap.TableAt c T #[])(hKT:K.lookup T=none)
  (KX:K.In y.heap) (Q:y.heap.Ns mainGlobals mg) (hb:y.heap.Ns builtinsNs mb) (hbb:∀x:Str,x≠"__name__"->mb x=bootBuiltins x) (R:y.heap.NoLimit) (hg:y.gens=#[])
  (J:y.heap.get? a=some { cls:=.type "list",data:=.seq vs.toArray }) (hi:IntsAre vs ns) (hl:ns.length<=sizeLine) (hr:Room k callerA)
  (F:∀f:Heap,K.In f->f.Ns mainGlobals mg->FnOk P w K mg f CX k fa fd [x] sp) (B:∀(s:Shared) (u:Value),BindsTo s fd ⟨[u],[]⟩ [(x,u)])
  (hsp:∀H:Hp,Aq H->pC K H a (ns.map V.int)->sp [.ref a] H (λv _=>v=.bl true) λ_ _ _=>False)
  (hCX:∀H e s',CX [] H y (λ_ _ _=>False) e s'->False) :
  codeAny (model P w) callerA (.call (.ref fa) ⟨[.ref a],[]⟩) (λr s'=>r=.ok (.ret (.bool true))/\OldK y.heap s'.heap/\s'.os=y.os/\AllBare s'.gens) y:=by
 have rv:=YO hi;have O:=hi.length;have W:∀H:Hp,Aq H->pC K H a (ns.map V.int)->LL P w H y.heap->(∀b,H b≠none->b=a∨b=T)->(H a≠none->K.lookup a=none)->H T=some (.tbl X) ->
   codeAny (model P w) callerA (.call (.ref fa) ⟨[.ref a],[]⟩) (λr s'=>r=.ok (.ret (.bool true))/\OldK y.heap s'.heap/\s'.os=y.os/\AllBare s'.gens) y:=by
  intro H hO hS A hA hK hP;have l:∀{b:Addr}{o:Obj},y.heap.get? b=some o->H b=none->(TQ y.heap H).get? b=some o:=λe n=>t7 e n;have noA:∀{b:Addr}{o:Obj}{L:Array DictEntry}{M:Nat},y.heap.get? b=some o->o.data=.dict L M->H b=none:=λ{b o L M} e d=>by
   cases q:H b with|none=>rfl|some u=>rcases hA b (by rw[q];simp) with e'|e';subst e';rw[J]at e;cases e;have d':Data.seq vs.toArray _=Data.dict L M:=d;cases d';subst e';rw[j.2]at e;cases e;have d':Data.fields #[]=Data.dict L M:=d;cases d'
  have Y:∀{b:Addr}{m:Str->Option Value},y.heap.Ns b m->(TQ y.heap H).Ns b m:=λ{b m} ⟨o,L,M,e,d,r⟩=>⟨o,L,M,l e (noA e d),d,r⟩
  have G:K.In (TQ y.heap H):=λb o e=>l (KX b o e) (by
   cases q:H b with|none=>rfl|some u=>rcases hA b (by rw[q];simp) with e'|e';subst e';rw[hK (by rw[q];simp)]at e;cases e;subst e';rw[hKT]at e;cases e)
  have hM:Mod K mg (TQ y.heap H):=⟨G,Y Q,⟨mb,Y hb,hbb⟩,let⟨mc,h1,h2⟩:=R;⟨mc,Y h1,h2⟩⟩
  have e0:Env0 P w K mg (TQ y.heap H) callerA [] y H:=⟨rfl,hM,λb o e=>Hb e,wa (Z0 _ _),trivial,λb hb=>absurd (show b∈([]:List Addr) from hb) (by simp),λP q t=>(by obtain⟨rfl,rfl⟩:=hT _ G P q t;exact hP),A,.of_eq hg⟩
  refine QB4 ((F _ G (Y Q)).run callerA [] y H ⟨[.ref a],[]⟩ [.ref a] [.ref a] _ _ hr e0 (B y (.ref a)) (.cons rfl .nil) (hsp H hO hS)) λr s' h=>?_;cases r with
  |error e=>exact(hCX H e s' h).elim|ok fl =>
   cases fl with
   |next=>exact Qc h|brk=>exact Qc h|cont=>exact Qc h|ret u =>
    obtain⟨v,H',os,bare,un,Z,r',q⟩:=h;have q':v=.bl true:=q;subst q';obtain rfl:u=Value.bool true:=r';have nx:∀b,b∉uY []:=λb z=>absurd (show b∈([]:List Addr) from z) (by simp);refine⟨rfl,⟨λb o e=>?_,λb o e=>un.there b o e (by simp)⟩,os,bare⟩;rcases hO b with z|⟨ob,xs,z⟩| ⟨tq',z⟩
    exact .inl (un.keep b o e z (nx b) (by simp));obtain⟨S,_⟩:=A b _ z;obtain⟨e2,_⟩:=Z b _ (un.frzs b ob _ z);rw[e]at S;cases S;exact .inl e2;have hb:b=T:=by rcases hA b (by rw[z];simp) with rfl|h;obtain⟨ps,S,_⟩:=A b _ z;rw[J]at S;cases S;exact h
    subst hb;obtain⟨ps,e2,_⟩:=Z b _ (un.tbls b _ z);have e0:=e.symm.trans j.2;cases e0;exact .inr (.inl ⟨j.isCodeTable,rfl,#[],ps,rfl,by simpa using e2⟩)
 have aT:a≠T:=λz=>by have e:=j.2;rw[<- z,J]at e;cases e
 have N:∀H:Hp,BA P w H y.heap T (.tbl X):=λH=>⟨#[],j.2,trivial,λpos cv g=>by cases g⟩
 cases hk:K.lookup a with
 |some o =>
  have e:=KX a o hk;rw[J]at e;cases e;refine W (λb=>if b=T then some (.tbl X) else none) (λb=>?_) (.inr ⟨_,vs.toArray,_,hk,rfl,rfl,rfl,by rw[QN,O];exact hl,by simpa using rv⟩) (λb u z=>?_) (λb z=>?_) (λz=>absurd (if_neg aT) z) (if_pos rfl);by_cases hb:b=T
  ·exact .inr (.inr ⟨_,if_pos hb⟩)
  exact .inl (if_neg hb);by_cases hb:b=T
  ·have p:=(if_pos hb).symm.trans z
   cases p;subst hb;exact N _
  have p:=(if_neg hb).symm.trans z;cases p;by_cases hb:b=T
  ·exact .inr hb
  exact absurd (if_neg hb) z
 |none =>
  have C:∀b,b=T->(if b=T then some (.tbl X) else if b=a then some (.frz { cls:=.type "list",data:=.seq vs.toArray } (.lst (ns.map V.int))) else none:Option HO)=some (.tbl X):=λb h=>if_pos h;have I:∀b,b=a->(if b=T then some (.tbl X) else if b=a then some (.frz { cls:=.type "list",data:=.seq vs.toArray } (.lst (ns.map V.int))) else none:Option HO)=some (.frz { cls:=.type "list",data:=.seq vs.toArray } (.lst (ns.map V.int))):=λb h=>(if_neg (h▸aT)).trans (if_pos h);have E:∀b,b≠T->b≠a->(if b=T then some (.tbl X) else if b=a then some (.frz { cls:=.type "list",data:=.seq vs.toArray } (.lst (ns.map V.int))) else none:Option HO)=none:=λb h h2=>(if_neg h).trans (if_neg h2);refine W (λb=>if b=T then some (.tbl X) else if b=a then some (.frz { cls:=.type "list",data:=.seq vs.toArray } (.lst (ns.map V.int))) else none) (λb=>?_) (.inl (.inr ⟨{ cls:=.type "list",data:=.seq vs.toArray },I a rfl⟩)) (λb u z=>?_) (λb z=>?_) (λ_=>hk) (C T rfl);by_cases hb:b=T
  ·exact .inr (.inr ⟨_,C b hb⟩)
  by_cases i:b=a
  ·exact .inr (.inl ⟨_,_,I b i⟩)
  exact .inl (E b hb i);by_cases hb:b=T
  ·have p:=(C b hb).symm.trans z
   cases p;subst hb;exact N _
  by_cases i:b=a
  ·have p:=(I b i).symm.trans z
   cases p;subst i;exact⟨J,by rw[QE];exact hl,vs,_,rv,J⟩
  have p:=(E b hb i).symm.trans z;cases p;by_cases hb:b=T
  ·exact .inr hb
  by_cases i:b=a
  ·exact .inl i
  exact absurd (E b hb i) z
noncomputable def RC(s:Stmt):Arguments:=match s with
 | .FunctionDef _ a _ _ _ _ _ _ _ _=>a|_=>{ posonlyargs:=[],args:=[],vararg:=none,kwonlyargs:=[],kw_defaults:=[],kwarg:=none,defaults:=[] }
def fC(s:Stmt):List Stmt:=match s with
 | .FunctionDef _ _ b _ _ _ _ _ _ _=>b|_=>[]
noncomputable def MA(s:Stmt):Scope:=match s with
 | .FunctionDef _ _ _ _ _ _ sc _ _ _=>sc|_=>{ kind:=.function,names:=[],isGenerator:=false,isCoroutine:=false }
noncomputable abbrev y2:T8:=λ_ _ _ _ _ _=>False
noncomputable abbrev E0:XK:=λ_ _ _=>False
theorem Fo{X:Cx}:BN y2 X E0:=λ_ _ _ _ _ _ _ h=>h.elim
structure Fun(K:QA)(x qual:Str)(st:Stmt)(f:Addr)(fd:FuncData):Prop where
 ex:∃(oc:Value) (od:Option Addr) (kV doc pm:Value) (an:Option Addr) (cdv ct:Value) (osl:Array (Option Value)),
  fd=qr x qual (RC st) (fC st) (MA st) .none kV doc pm an cdv ct/\K.lookup f=some ⟨oc,od,.func fd,osl⟩/\Wb K cdv qual=true
 kp:wN K (.ref f)=true
section
variable{P:Program}{w:World}{K:QA}{mg:Str->Option Value}{base:Heap}
section
variable{x y:Str}{st:Stmt}{f:Addr}{u:FuncData}{z:LS}
theorem Fun.ok{N:LS}{k:Nat}{b:Sp}(F:Fun K x y st f u)(S:FnScope N z (MA st))(len:∀vs H Q E,b vs H Q E->vs.length=z.length)
  (a:∀(v:Value) (A:Around) (outer:List Env) (s:Shared) (H:Hp) (vs:LV) (Q:VK) (E:XK),Room k (A.deeper (envOfC y (MA st) s.heap.objs.size f v))->b vs H Q E ->
   ∃t,HW (dW y2 P w K mg base N y (MA st) f v A outer s H E).nox (fC st) t/\t { nx:=λ_ m=>Q .non m,rt:=Q } (vD N vs) H):FnOk P w K mg base y2 (k+1) f u z b:=by
 obtain⟨p,o,kV,l,n,X,v,r,i,rfl,lk,g⟩:=F.ex;refine uf lk g S len λA outer s H vs Q E j e=>?_;obtain⟨t,h,q⟩:=a v A outer s H vs Q E j e;exact⟨t,h.nox,q⟩
theorem Fun.binds(F:Fun K x y st f u)
  (h:∀(kV v a:Value) (b:Option Addr) (k ct:Value) (us:LW),us.length=z.length->bindArgs (qr x y (RC st) (fC st) (MA st) .none kV v a b k ct) ⟨us,[]⟩=pure (z.zip us)):XJ K u z []:=by
 obtain⟨j,i,kV,v,a,b,k,ct,e,rfl,lk,g⟩:=F.ex;exact .all (h kV v a b k ct)
theorem nk{i:Value}{g e:Option Addr}{a:Array (Option Value)}{kV v b h ct:Value}(l:K.lookup f=some ⟨i,g,.func (qr x y (RC st) (fC st) (MA st) .none kV v b e h ct),a⟩)
  (c:Wb K h y=true) (k:wN K (.ref f)=true):Fun K x y st f (qr x y (RC st) (fC st) (MA st) .none kV v b e h ct):=⟨⟨i,g,kV,v,b,e,h,ct,a,rfl,l,c⟩,k⟩
end
end
def Same(H h:Hp):Prop:=∀b o,H b=some o->h b=some o
theorem Same.refl(H:Hp):Same H H:=λ_ _ h=>h
theorem Same.trans{H y x:Hp}(a:Same H y)(b:Same y x):Same H x:=λc o h=>b c o (a c o h)
theorem Same.free{H x:Hp}(e:Same H x){l:Addr}(h:x l=Option.none):H l=Option.none:=by
 cases q:H l with|none=>rfl|some o=>rw[e l o q]at h;cases h
theorem Same.seq{K:QA}{H x:Hp}{a:Addr}{xs:LV}(e:Same H x)(h:pC K H a xs):pC K x a xs:=by rcases h with(h|⟨o,h⟩)|h;exact .inl (.inl (e _ _ h));exact .inl (.inr ⟨o,e _ _ h⟩);exact .inr h
noncomputable def bO(env:Env):List (Str×NameKind)->List (Str×Addr)->List (Str×Addr)
 |[],cs=>cs|(n,k)::r,cs=>bO env r (if k==.free then(n,(env.cells.lookup n).getD 0)::cs else cs)
theorem nW{u:Scope}{env:Env}(h:∀y∈u.names,y.2=.free->∃c,env.cells.lookup y.1=some c):closureFor u env=pure (bO env u.names []):=by
 have key:∀(l:List (Str×NameKind)) (v:List (Str×Addr)),(∀y∈l,y.2=.free->∃c,env.cells.lookup y.1=some c) ->
   (forIn l v λ(x:Str×NameKind) (r:List (Str×Addr))=>(if(x.2==NameKind.free)=true then(do let c <- cellOf env x.1;pure (ForInStep.yield ((x.1,c)::r))) else pure (ForInStep.yield r):Sem (ForInStep (List (Str×Addr)))))=pure (bO env l v):=by
  intro l;induction l with
  |nil=>intro v _;rfl|cons y l a =>
   intro v hl;obtain⟨n,k⟩:=y;rw[Wx];by_cases hk:k=.free;subst hk;obtain⟨c,hc⟩:=hl (n,.free) QF rfl;have hc:env.cells.lookup n=some c:=hc;simp only[beq_self_eq_true,if_true,cellOf,hc,pure_bind,bO,QCF];exact a _ λz w=>hl z (QD _ w);have hb:(k==NameKind.free)=false:=by simpa using hk
   simp only[hb,Qs,if_false,pure_bind,bO];exact a _ λz w=>hl z (QD _ w)
 have e:=key u.names [] h;unfold closureFor;exact(congrArg (· >>= pure) e).trans (pure_bind _ _)
theorem dP{env:Env}{x:Str}{c:Addr}:∀(l:List (Str×NameKind)) (cs:List (Str×Addr)),(∀y∈l,y.2=.free->∃c,env.cells.lookup y.1=some c)->(∀c,cs.lookup x=some c->env.cells.lookup x=some c) ->
  (bO env l cs).lookup x=some c->env.cells.lookup x=some c
 |[],cs,_,hc,h=>hc c h|(n,k)::r,cs,hl,hc,h=>by
  refine dP r _ (λz a=>hl z (QD _ a)) (λd u=>?_) h;by_cases hk:k=.free;subst hk;obtain⟨e,v⟩:=hl (n,.free) QF rfl;have v:env.cells.lookup n=some e:=v;simp only[beq_self_eq_true,if_true,v,QCF,wj]at u;cases w:x==n with|true=>rw[w]at u;cases u;rw[qd w];exact v|false=>rw[w]at u;exact hc d u
  have hb:(k==NameKind.free)=false:=by simpa using hk
  simp only[hb,Qs,if_false]at u;exact hc d u
theorem rN{env:Env}{x:Str}:∀(l:List (Str×NameKind)) (cs:List (Str×Addr)),((∃c,cs.lookup x=some c)∨(x,NameKind.free)∈l)->∃c,(bO env l cs).lookup x=some c
 |[],cs,h=>by rcases h with h|h;exact h;cases h
 | (n,k)::r,cs,h=>by
  refine rN r _ ?_;rcases h with⟨c,h⟩| h;refine .inl ?_;split;rw[wj];split;exact⟨_,rfl⟩;exact⟨c,h⟩;exact⟨c,h⟩;rcases QL.mp h with h|h
  ·cases h
   refine .inl ?_;simp
  exact .inr h
def ZB:List Bool->Nat->LS->LS
 |b::m,j,x::N=>(if b then⟨#[46,j]⟩ else x)::ZB m (j+1) N|_,_,N=>N
def XC:List Bool->St->St
 |b::m,v::σ=>(if b then none else v)::XC m σ|_,σ=>σ
theorem vK:∀(m:List Bool) (σ:St),(XC m σ).length=σ.length
 |[],σ=>by unfold XC;rfl|_::_,[]=>by unfold XC;rfl|b::m,v::σ=>by unfold XC;rw[QM,QM,vK m σ]
theorem uP:∀(m:List Bool) (j:Nat) (N:LS),(ZB m j N).length=N.length
 |[],_,N=>by unfold ZB;rfl|_::_,_,[]=>by unfold ZB;rfl|b::m,j,x::N=>by unfold ZB;rw[QM,QM,uP m (j+1) N]
theorem IM:∀(m:List Bool) (j:Nat) (N:LS) (σ:St) (i:Nat) (v:V),(XC m σ)[i]?=some (some v)->σ[i]?=some (some v)/\(ZB m j N)[i]?=N[i]?
 |[],_,N,σ,i,v,h=>by unfold XC at h;unfold ZB;exact⟨h,rfl⟩|_::_,_,N,[],i,v,h=>by unfold XC at h;simp at h|b::m,j,[],w::σ,i,v,h=>by
  unfold XC at h;cases i with
  |zero =>
   cases b with|true=>simp at h|false=>simp at h;subst h;exact⟨by simp,by unfold ZB;rfl⟩
  |succ i=>have q:=(IM m (j+1) [] σ i v (by simpa using h)).1;exact⟨by simpa using q,by unfold ZB;rfl⟩
 |b::m,j,x::N,w::σ,0,v,h=>by
  unfold XC at h;cases b with|true=>simp at h|false=>simp at h;subst h;exact⟨by simp,by unfold ZB;simp⟩
 |b::m,j,x::N,w::σ,i+1,v,h=>by unfold XC at h;have q:=IM m (j+1) N σ i v (by simpa using h);unfold ZB;exact⟨by simpa using q.1,by simpa using q.2⟩
noncomputable def rM(h sc:Scope):Scope :=
  { h with names:=h.names.map λ(n,k)=>if(k==.free&&sc.kind==.function&&sc.names.lookup n==some .cell) then(n,.cell) else(n,k) }
theorem KC(sc:Scope)(x:Str):∀(l:List (Str×NameKind)),
  (l.map λ(n,k)=>if(k==NameKind.free&&sc.kind==.function&&sc.names.lookup n==some .cell) then(n,NameKind.cell) else(n,k)).lookup x =
   (l.lookup x).map λk=>if(k==NameKind.free&&sc.kind==.function&&sc.names.lookup x==some .cell) then NameKind.cell else k
 |[]=>rfl|(n,k)::r=>by
  rw[QS];have e:(if(k==NameKind.free&&sc.kind==.function&&sc.names.lookup n==some .cell)=true then(n,NameKind.cell) else(n,k)) =
    (n,if(k==NameKind.free&&sc.kind==.function&&sc.names.lookup n==some .cell)=true then NameKind.cell else k):=by split<;>rfl
  show QCK x ((if(k==NameKind.free&&sc.kind==.function&&sc.names.lookup n==some .cell)=true then(n,NameKind.cell) else(n,k))::_)=_;rw[e,wj,wj];cases h:x==n with|true=>rw[qd h];simp|false=>exact KC sc x r
structure CompSt(N:LS)(sc scope:Scope)(tgs:LS)(mask:List Bool):Prop where
 kind:scope.kind=.function
 nocell:∀y∈scope.names,y.2≠.cell
 names:∀y∈scope.names,y.2=.local->scope.names.lookup y.1=some .local
 free:∀y∈scope.names,y.2=.free->sc.names.lookup y.1=some .cell∨sc.names.lookup y.1=some .free
 loc:∀y∈scope.names,y.2=.local->y.1∈tgs∨y.1=(".0":Str)
 nd:(tgs++ZB mask 0 N).Nodup
 no0:(".0":Str)∉tgs++ZB mask 0 N
noncomputable def NA(X:Cx)(h:Scope)(y:LS)(x:List Bool)(s:Shared)(H:Hp)(ex:List Addr):Cx :=
  { X with N:=y++ZB x 0 X.N,s₀:=s,H₀:=H,env:=compEnvC h (bO X.env h.names []) s.heap.objs.size X.env,outer:=X.stack,stack:=X.stack,ex:=ex,fn:=λ_=>false,pn:=[],xe:=λ_ _=>False }
def fJ(k:Nat)(h:List Bool)(σ:St):St:=QAL k none++XC h σ
section
variable{X:Cx}{f:OB}{σ:St}{H:Hp}{s:Shared}{w:Scope}{d:LS}{a:List Bool}{ex:List Addr}
theorem CompSt.cells(C:CompSt X.N X.env.scope w d a)(ok:X.Ok):∀y∈w.names,y.2=.free->∃c,X.env.cells.lookup y.1=some c:=λy h x =>
 ok.has y.1 (C.free y h x)
theorem CompSt.kindCF(C:CompSt X.N X.env.scope w d a){x:Str}(h:(relabel w X.env).names.lookup x=some .cell∨(relabel w X.env).names.lookup x=some .free):(x,NameKind.free)∈w.names:=by
 have e:=KC X.env.scope x w.names;have u:(relabel w X.env).names.lookup x=(w.names.lookup x).map λk=>if(k==NameKind.free&&X.env.scope.kind==.function&&X.env.scope.names.lookup x==some .cell) then NameKind.cell else k:=e
 rw[u]at h;cases q:w.names.lookup x with
 |none=>rw[q]at h;simp at h|some k =>
  have y:=qN q;have z:=C.nocell _ y;cases k with|free=>exact y|cell=>exact absurd rfl z|«local»=>rw[q]at h;simp at h|_=>rw[q]at h;simp at h
theorem fW(I:Inv X f σ H s)(C:CompSt X.N X.env.scope w d a)(n:∀b∈ex,VJ X f H b/\b<s.heap.objs.size){h':Heap}{t':Nat}
  (hn:h'.Ns s.heap.objs.size (λ_=>none)) (hs:qX s.heap.objs.size (s.heap.push { cls:=.type "dict",data:=.dict #[] }) h') :
  Inv (NA X w d a s H ex) [] (fJ d.length a σ) H { s with heap:=h',toks:=t' }:=by
 have kept:∀b u,s.heap.get? b=some u->h'.get? b=some u:=λb u e=>hs.extBut b u (Qj (QT e)) (QH _ e);have look:∀x c,(bO X.env w.names []).lookup x=some c->X.env.cells.lookup x=some c:=λx c e=>dP w.names [] (C.cells I.ok) (λc z=>by simp at z) e;have nofs:∀b∈ex,b∉uY X.stack:=λb hb z=>by obtain⟨⟨_,f1,f2,_⟩,_⟩:=n b hb;rcases QL.mp (I.stkSub b z) with e|e;exact f1 e;exact f2 e
 refine⟨⟨I.ok.mod,C.kind,I.ok.glob,I.ok.blt,QZ _,λx y c E j=>I.ok.inj x y c (look x c E) (look y c j),λx hx=>?_,λx c hf _=>absurd (show false=true from hf) QG,I.ok.hd,I.ok.frames,.inl rfl,λb hb=>?_,I.bs,QU I.ok.bsz I.sz,λb o e hb=>?_,nofs,I.stack,I.stkFree,I.tb⟩,
  rfl,I.bare,Un.kept kept,⟨_,hn,λi x v E j h3=>?_⟩,λx c h=>?_,I.hok.fresh (QZ _),λx c h=>I.freeC x c (look x c h),λp hp=>absurd (show p∈([]:OB) from hp) (by simp),I.hok.kept kept,?_⟩
 exact rN w.names [] (.inr (C.kindCF hx));obtain⟨⟨_,_,_,_,f4,_⟩,lt⟩:=n b hb;exact⟨Qj lt,λx c e=>f4 x c (look x c e)⟩;obtain⟨⟨_,_,_,f3,_⟩,_⟩:=n b hb;rcases f3 with z|z;exact I.ok.noex b o e z;exact absurd (Qo (QT (I.ok.bs b o e).1) z) (qR _)
 ·
  have hi:d.length<=i:=by rcases QA2 i d.length with z|z;unfold fJ at j;rw[qK (by simpa using z),wc]at j;split at j<;>cases j;exact z
  have Z:(ZB a 0 X.N)[i - d.length]?=some x:=by have:(d++ZB a 0 X.N)[i]?=some x:=E;rw[Qu hi]at this;exact this
  have O:(XC a σ)[i - d.length]?=some (some v):=by unfold fJ at j;rw[Qu (by simpa using hi)]at j;simpa using j
  obtain⟨g1,g2⟩:=IM a 0 X.N σ _ v O;rw[g2]at Z;have A:x∈d++ZB a 0 X.N:=qU (show(d++ZB a 0 X.N)[i]?=some x from E);have K:x∉d:=λz=>by have nd:=C.nd;rw[ql]at nd;exact nd.2.2 x z x (qU (by rw[g2];exact Z)) rfl
  have g:(x,NameKind.free)∈w.names:=by
   rcases h3 with z|z|z;exfalso;have e:(relabel w X.env).names.lookup x=some .local:=z;have Q:=KC X.env.scope x w.names;have P:(relabel w X.env).names.lookup x=(w.names.lookup x).map λk=>if(k==NameKind.free&&X.env.scope.kind==.function&&X.env.scope.names.lookup x==some .cell) then NameKind.cell else k:=Q
   rw[P]at e;cases q:w.names.lookup x with
   |none=>rw[q]at e;cases e|some k =>
    rw[q]at e;have L:=qN q;have G:k=.local:=by
     cases k with|«local»=>rfl|free=>simp at e;split at e<;>cases e|_=>simp at e
    subst G;rcases C.loc _ L rfl with z|z;exact K z;exact C.no0 (z▸A)
   exact C.kindCF (.inl z);exact C.kindCF (.inr z)
  obtain⟨m,hnm,hl⟩:=I.loc;have F:Nq X.env.scope x:=.inr (C.free _ g rfl);obtain⟨u,r,l⟩:=hl _ x v Z g1 F;refine⟨u,r,?_⟩;rcases l with⟨k,_⟩| ⟨_,c,hc,Y⟩
  exfalso;have S:X.env.scope.names.lookup x=some .local:=k;rcases C.free _ g rfl with z|z;have W:X.env.scope.names.lookup x=some .cell:=z;rw[S]at W;cases W;have W:X.env.scope.names.lookup x=some .free:=z;rw[S]at W;cases W;obtain⟨R,B⟩:=rN (env:=X.env) w.names [] (.inr g);have:R=c:=by have:=look x R B;rw[hc]at this;exact(Qk this).symm
  subst this;refine .inr ⟨?_,R,B,?_⟩;rcases h3 with z|z|z
  ·exfalso
   have e:(relabel w X.env).names.lookup x=some .local:=z;have Q:=KC X.env.scope x w.names;have P:(relabel w X.env).names.lookup x=(w.names.lookup x).map λk=>if(k==NameKind.free&&X.env.scope.kind==.function&&X.env.scope.names.lookup x==some .cell) then NameKind.cell else k:=Q
   rw[P]at e;cases q:w.names.lookup x with
   |none=>rw[q]at e;cases e|some k =>
    rw[q]at e;have L:=qN q;have G:k=.local:=by
     cases k with|«local»=>rfl|free=>simp at e;split at e<;>cases e|_=>simp at e
    subst G;rcases C.loc _ L rfl with z|z;exact K z;exact C.no0 (z▸A)
  exact .inl z;exact .inr z;obtain⟨o,J,M⟩:=Y;exact⟨o,kept _ _ J,M⟩
 obtain⟨v,o,J,M⟩:=I.cell x c (look x c h);exact⟨v,o,kept _ _ J,M⟩;show(fJ d.length a σ).length=(d++ZB a 0 X.N).length;unfold fJ;rw[QI,QI,qt,vK,uP,I.len]
end
section
variable{X:Cx}{h:OB}{σ a:St}{H k:Hp}{s s':Shared}{x:Scope}{d:LS}{w:List Bool}{ex:List Addr}{D:Addr}{y:LV}{its:LW}
theorem gW(I:Inv X h σ H s)(l:∀b∈ex,VJ X h H b/\b<s.heap.objs.size)(W:D∈ex)(J:Inv (NA X x d w s H ex) [] a k s')(f:k D=none)(hv:lA y its)(B:y.length<=sizeLine)
  (hl:s'.heap.PlainList D its.toArray) {g:Heap}(C:qX s.heap.objs.size s'.heap g):Inv X h σ (DA k D (.lst y)) { s' with heap:=g }:=by
 have un:Un (uY X.stack) ex H k s.heap s'.heap:=J.base;have j:∀b o,s.heap.get? b=some o->b≠s.heap.objs.size:=λb o e=>Qj (QT e);have E:=l D W;have Z:k s.heap.objs.size=none:=J.free;have N:D≠s.heap.objs.size:=Qj E.2;have m:∀b u,b≠s.heap.objs.size->s'.heap.get? b=some u->g.get? b=some u:=λb u A e=>C.extBut b u A e;refine I.call' (s':={ s' with heap:=g }) (ch:=ex) J.os ⟨λb o e n hb i=>?_,λb o e n hb i=>?_,λb o e n i=>?_,λb o e i=>?_,λb p e=>?_,λb o u e=>?_,λb r e=>?_⟩ ?_ J.bare λb hb=>?_;exact m b o (j b o e) (un.keep b o e n hb i);obtain⟨K,q⟩:=un.slot b o e n hb i;exact⟨K,m b _ (j b o e) q⟩;have q:=un.free b o e n i;rw[xA (λ(z:b=D)=>i (by rw[z];exact W))];exact q;obtain⟨Y,q⟩:=un.there b o e i;exact⟨Y,m b Y (j b o e) q⟩;rw[xA (sA (un.tups b p e) f)];exact un.tups b p e;rw[xA (sA (un.frzs b o u e) f)];exact un.frzs b o u e;rw[xA (sA (un.tbls b r e) f)];exact un.tbls b r e;intro b u e;by_cases hb:b=D;subst hb;rw[iA]at e;cases e;obtain⟨n,q⟩:=hl;exact⟨B,its,n,hv,m _ _ N q⟩;rw[xA hb]at e;refine(J.hok b u e).stay (λc v hc q=>m c v ?_ q) (λc q=>?_) λc p q=>?_;rintro rfl;rcases hc with z|z;subst z;rw[Z]at e;cases e;rw[Z]at z;cases z;rw[xA (sA q f)];exact q;rw[xA (sA q f)];exact q;obtain⟨⟨P,M,O,L,G,F⟩,_⟩:=l b hb;exact⟨L,M,G,F⟩
end
section
variable{X:Cx}{s:Shared}{V Z K:Expr}{U:List Expr}{d:Scope}{pos:Pos}{B:TI}{g:TG}{tc:TT}{te:TE}{Y:LS}{j:List Bool}{l:OB}
def Tq(X:Cx)(U:List Expr)(t:TT):Prop:=∀(l:OB) (s:Shared) (h:St) (H:Hp) (Q:Bool->Hp->Prop),Inv X l h H s->t h H Q ->
 wpAny (model X.prog X.w) X.A (forIn U true λc r=>if r=true then do let ok <- isTrue c X.env (eval c X.env);pure (ForInStep.yield ok) else pure (ForInStep.yield r)) (TP X l h Q) X.xe s
theorem sX:Tq X [] (λ_ H Q=>Q true H):=λl s x H Q I h=>by rw[QBJ];exact QK ⟨H,I,h⟩
theorem rX{c:Expr}{t:TT}(hc:PT X c t):Tq X [c] t:=λl s x H Q I h=>by rw[Wx];simp only[if_true];refine QC (QC (HB (hc l s x H Q I h) λb y q=>QK ?_));dsimp only;rw[QBJ];exact QK q
theorem mH{prog:Program}{w:World}{A:Around}{R:Result->Shared->Prop}{y:Expr}{it q:Value}{env:Env}(I:Nat->Shared->Prop)
  (W:∀n s,I n s->wpAny (model prog w) A (pyNext it) (λr k=>match r with
   |none=>R (.ok .next) k|some v=>wpAny (model prog w) A (letOwnedTupleGo y it v) (λ_ u=>wpAny (model prog w) A (assign y env v) (λ_ f =>
     wpAny (model prog w) A (forIn U true λc r=>if r=true then do let ok <- isTrue c env (eval c env);pure (ForInStep.yield ok) else pure (ForInStep.yield r)) (λok z =>
      if ok=true then wpAny (model prog w) A (eval V env) (λx e =>
       wpAny (model prog w) A (call (.builtin "list.append") [q,x]) (λ_ b=>∃m,m<n/\I m b) (λ_ _=>False) e) (λ_ _=>False) z
      else ∃m,m<n/\I m z) (λ_ _=>False) f) (λ_ _=>False) u) (λ_ _=>False) k) (λ_ _=>False) s)
  (n:Nat) (h:I n s) :
  codeAny (model prog w) A (.compLoop (.ListComp V [⟨y,Z,U,0⟩] d pos) 0 it q env) R s:=by
 refine codeAny_loop rfl I (λn s G=>?_) n h;show wpAny _ A ((compTurn (.ListComp V [⟨y,Z,U,0⟩] d pos) 0 it q env).onRaise (λx=>do noteFrame x env;theTreesLotGoes x)) _ _ s;refine wpAny_noted ?_;rw[compTurn_list];refine QC (QBd (QC (qw (W n s G) (λr k o=>?_) λ_ _ a=>a.elim)));cases r with
 |none=>exact QK o|some v =>
  refine QC (qw o (λ_ u p=>?_) λ_ _ a=>a.elim);refine QC (qw p (λ_ f F=>QC (qw F (λok z i=>?_) λ_ _ a=>a.elim)) λ_ _ a=>a.elim);cases ok with|false=>exact QK ⟨rfl,i⟩|true=>exact QC (QC (qw i (λx e E=>QC (qw E (λ_ b C=>QK (QK ⟨rfl,C⟩)) λ_ _ a=>a.elim)) λ_ _ a=>a.elim))
noncomputable def V3(B:TI)(g:TG)(tc:TT)(te:TE)(k:Nat)(j:List Bool):TE:=λa H Q=>B a H λJ q=>∃W:Nat->Nat->LV->St->Hp->Prop,(∃m,W 0 m [] (fJ k j a) q) /\
 ∀i m h v u,W i m h v u->(J.stop i u/\h.length<=sizeLine/\∀p,u p=none->Q (.ref p) (DA u p (.lst h))) ∨
  (J.go i u/\∀x f,J.yld i u x f->g x v f λz o=>tc z o λb e=>if b=true then te z e λy n=>h.length<sizeLine/\∃w,w < m/\W (i+1) w (h++[y]) z n else ∃w,w < m/\W (i+1) w h z e)
def gr(X:Cx)(l:OB)(H:Hp)(s:Shared)(C:Addr):Prop :=
 H C=none/\C≠X.env.locals/\X.s₀.heap.objs.size<=C/\(∀x c,X.env.cells.lookup x=some c->c≠C)/\(∀p∈X.pn++l,p.1≠C)/\∃m,s.heap.Ns C m
theorem UT{pos':Pos}{use:Option (Value->Sem Unit)}(hc:X.calm=true)(hi:PI X K Z B)(C:CompSt X.N X.env.scope d Y j)
  (inner:∀s H ex,PG (NA X d Y j s H ex) K g/\Tq (NA X d Y j s H ex) U tc/\PE (NA X d Y j s H ex) V te)
  (hs:∀x,foldedSetIterable Z X.env x=pure x) {σ:St}{H:Hp}{Q:VK}{QQ:gC}(I:Inv X l σ H s) (h:V3 B g tc te Y.length j σ H Q)
  (fin:∀(D:Addr) (f:Hp) (s6:Shared) (F:Addr),Inv X l σ f s6->gr X l f s6 F->Q (.ref D) f->compPost (model X.prog X.w) X.A X.xe use QQ (.ref D) F (.ok .next) s6) :
  wpAny (model X.prog X.w) X.A (comprehension (.ListComp V [⟨K,Z,U,0⟩] d pos) d X.env pos' (newList []) false (eval Z X.env) use) QQ X.xe s:=by
 refine wpAny_comprehension_free (use:=use) rfl hs (nW (C.cells I.ok)) C.kind C.names (HB (hi l s σ H _ I h) λv s1 h1=>HB h1 λitv s2 h2=>?_);obtain⟨it,a,tn,J,E,e,I2,T,st2,f2,W,⟨m0,w0⟩,turn⟩:=h2;subst e;refine qL ?_;have I3:Inv X l σ E { s2 with heap:=s2.heap.push { cls:=.type "list",data:=.seq ([]:LW).toArray } }:=I2.kept (t':=s2.toks) λb o e=>QH _ e;generalize hS:({ s2 with heap:=s2.heap.push { cls:=.type "list",data:=.seq ([]:LW).toArray } }:Shared)=s3 at I3;have sz3:s3.heap.objs.size=s2.heap.objs.size+1:=by rw[<- hS];exact wz ..
 have lst3:s3.heap.PlainList s2.heap.objs.size ([]:LW).toArray:=⟨0,by rw[<- hS];exact QR _ rfl⟩
 have old3:∀b o,s2.heap.get? b=some o->s3.heap.get? b=some o:=λb o e=>by rw[<- hS];exact QH _ e
 generalize hDd:s2.heap.objs.size=D at sz3 lst3;have fD:VJ X l E D:=by rw[<- hDd];exact I2.fpOk (QZ _) (I2.hok.fresh (QZ _))
 have fpl:∀b∈a,b<D:=λb hb=>by obtain⟨o,e,_⟩:=T.obj _ _ st2 b hb;rw[<- hDd];exact QT e
 have hex:∀b∈D::a,VJ X l E b/\b<s3.heap.objs.size:=λb hb=>by rcases QL.mp hb with z|z;subst z;exact⟨fD,by rw[sz3];exact QCA _⟩;exact⟨f2 b z,by rw[sz3];exact ww (fpl b z)⟩
 refine QBB C.nocell (by intro y hy;simp at hy) (λh' hn hsb=>?_) C.kind;have J0:Inv (NA X d Y j s3 E (D::a)) [] (fJ Y.length j σ) E { s3 with heap:=h',toks:=s3.toks+([]:List (Str×Value)).length }:=fW I3 C hex hn hsb;have kept:∀b u,s3.heap.get? b=some u->h'.get? b=some u:=λb u e=>hsb.extBut b u (Qj (QT e)) (QH _ e);obtain⟨pg,pf,pl⟩:=inner s3 E (D::a);have loop:∀s4:Shared,s4={ s3 with heap:=h',toks:=s3.toks+([]:List (Str×Value)).length } ->
   codeAny (model X.prog X.w) X.A (.compLoop (.ListComp V [⟨K,Z,U,0⟩] d pos) 0 (.ref it) (.ref D) (compEnvC d (bO X.env d.names []) s3.heap.objs.size X.env))
    (compPost (model X.prog X.w) X.A X.xe use QQ (.ref D) s3.heap.objs.size) s4:=by
  rintro s4 rfl;have exok:∀{f:Hp},(∀b∈D::a,f b=none)->∀(pp:OB),(∀p∈pp,p.1∉a)->∀b∈a,VJ (NA X d Y j s3 E (D::a)) pp f b:=λ{f} hn pp hpp b hb=>by have g:=J0.ok.exf b (QD _ hb);exact⟨hn b (QD _ hb),g.1,J0.ok.exfs b (QD _ hb),.inl (QD _ hb),g.2,λp G z=>hpp p (by simpa[NA]using G) (z▸hb)⟩
  have DX:=J0.ok.exf D QF;have Dfp:D∉a:=λz=>qR _ (fpl D z);refine mH (λn M=>∃i m f L k,Inv (NA X d Y j s3 E (D::a)) [] m f M/\tn i M.heap/\(∀b∈D::a,f b=none)/\lA L k/\M.heap.PlainList D k.toArray/\W i n L m f) ?_ m0
   ⟨0,_,E,[],[],J0,T.keep _ _ _ (T.keep _ _ _ st2 λb hb o e=>old3 b o e) λb hb o e=>kept b o e,λb hb=>((hex b hb).1).1,.nil,lst3.at λo e=>kept _ _ e,w0⟩
  rintro n s5 ⟨i,P,H5,L,k,I5,st5,fr5,va5,ls5,w5⟩;obtain⟨R,lo⟩:=id ls5;have pinD:∀{m:St}{f:Hp}{M:Shared},Inv (NA X d Y j s3 E (D::a)) [] m f M->(∀b∈D::a,f b=none)->M.heap.get? D=some { cls:=.type "list",dict:=none,data:=.seq k.toArray R } ->
    Inv (NA X d Y j s3 E (D::a)) [(D,{ cls:=.type "list",dict:=none,data:=.seq k.toArray R })] m f M:=λ{m f M} I' fr' e' =>
   I'.pins_of λp G=>by
    have e:p=(D,{ cls:=.type "list",dict:=none,data:=.seq k.toArray R }):=by simpa using G
    subst e;exact⟨e',fr' D QF,DX.1,J0.ok.exfs D QF,λv z=>by cases z⟩
  have S:∀p∈[(D,({ cls:=.type "list",dict:=none,data:=.seq k.toArray R }:Obj))],p.1∉a:=λp G=>by
   have e:p=(D,{ cls:=.type "list",dict:=none,data:=.seq k.toArray R }):=by simpa using G
   subst e;exact Dfp
  have I5':=pinD I5 fr5 lo;rcases turn i n L P H5 w5 with⟨stop,hz,qn⟩| ⟨go,step⟩
  refine HB (T.done (NA X d Y j s3 E (D::a)) rfl rfl rfl hc i _ s5 P H5 (λ_ _=>False) I5' (exok fr5 _ S) st5 stop) λr s6 ⟨hr,I6⟩=>?_;subst hr;obtain⟨m6,hn6,_⟩:=I6.loc;have l6:s6.heap.PlainList D k.toArray:=⟨R,(I6.pin _ (QX _ (QJ.mpr rfl))).1⟩
  have I6':Inv (NA X d Y j s3 E (D::a)) [] P H5 s6:=I6.pins_of λp G=>by simp at G
  have Iout:Inv X l σ (DA H5 D (.lst L)) s6:=gW I3 hex QF I6' (fr5 D QF) va5 hz l6 (qX.refl _ _);have lC:H5 s3.heap.objs.size=none:=I6'.free;refine fin D _ s6 s3.heap.objs.size Iout ⟨?_,wm I3.lt,I3.sz,λx c e z=>?_,λp G z=>?_,m6,hn6⟩ (qn D (fr5 D QF));rw[xA (λ(z:s3.heap.objs.size=D)=>absurd (hex D QF).2 (by rw[z];exact qR _))];exact lC;obtain⟨v,q⟩:=I3.cell x c e;exact absurd q.lt (by rw[z];exact qR _);exact absurd (QT (I3.pin p G).1) (by rw[z];exact qR _);refine HB (T.item (NA X d Y j s3 E (D::a)) rfl rfl rfl hc i _ s5 P H5 (λ_ _=>False) I5' (exok fr5 _ S) st5 go) λr s6 ⟨u,hr,h6⟩=>?_;subst hr;refine HB h6 λ_ s7 ⟨x,H7,I7,r7,y7,st7,fr7⟩=>?_;have hD7:=(I7.pin _ (QX _ (QJ.mpr rfl)))
  have fr7':∀b∈D::a,H7 b=none:=λb hb=>by rcases QL.mp hb with z|z;subst z;exact hD7.2.1;exact fr7 b z
  have I7':=I7.pinned (exok fr7' _ S) (T.obj _ _ st7);have bk:∀{m:St}{f:Hp}{M:Shared},Inv (NA X d Y j s3 E (D::a)) ([(D,{ cls:=.type "list",dict:=none,data:=.seq k.toArray R })]++CM a s7.heap) m f M ->
    M.heap.get? D=some { cls:=.type "list",dict:=none,data:=.seq k.toArray R }/\tn (i+1) M.heap/\(∀b∈D::a,f b=none):=λ{m f M} I'=>by
   have hD:=I'.pin (D,{ cls:=.type "list",dict:=none,data:=.seq k.toArray R }) (QX _ (Qn _ (QJ.mpr rfl)));refine⟨hD.1,T.keep _ _ _ st7 λb hb o e=>(I'.pin (b,o) (QX _ (QX _ (bF hb e)))).1,λb hb=>?_⟩;rcases QL.mp hb with z|z;subst z;exact hD.2.1;obtain⟨o,e,_⟩:=T.obj _ _ st7 b z;exact(I'.pin (b,o) (QX _ (QX _ (bF z e)))).2.1
  refine HB (pg _ s7 P H7 x u _ I7' r7 (step x H7 y7)) λ_ s8 ⟨O,H8,I8,q8⟩=>?_;refine HB (pf _ s8 O H8 _ I8 q8) λok s9 ⟨H9,I9,q9⟩=>?_;cases ok with
  |false=>obtain⟨m',hm,w'⟩:=q9;obtain⟨b1,b2,b3⟩:=bk I9;exact⟨m',hm,i+1,O,H9,L,k,I9.pins_of λp G=>by simp at G,b2,b3,va5,⟨R,b1⟩,w'⟩|true =>
   refine HB (pl _ s9 O H9 _ I9 q9) λy s10 ⟨yv,H10,I10,r10,hz,m',hm,w'⟩=>?_;obtain⟨b1,b2,b3⟩:=bk I10;have hlen:=va5.length;refine wpAny_list_append_plain (hsz:=by rw[QN];omega) (show s10.heap.PlainList D k.toArray from⟨R,b1⟩) λh11 hl11 hs11=>?_;refine⟨m',hm,i+1,O,H10,L++[yv],k++[y],?_,T.keep _ _ _ b2 λb hb o e=>(hs11.2 b (λz=>Dfp (z▸hb))).trans e,b3,va5.append (.cons r10 .nil),by simpa using hl11,w'⟩;have I10':Inv (NA X d Y j s3 E (D::a)) [] O H10 s10:=I10.pins_of λp G=>by simp at G
   exact I10'.turned (t':=s10.toks) (λb o hb e=>(hs11.2 b hb).trans e) (b3 D QF) DX.1 (.inl QF) DX.2 λp G=>by simp[NA]at G
 refine codeAny_compStart_list (loop _ rfl) (T.self X.A 0 _ _ _ (T.keep _ _ _ (T.keep _ _ _ st2 λb hb o e=>old3 b o e) λb hb o e=>kept b o e) (loop _ rfl))
theorem dN{σ:St}{H:Hp}{F:Addr}(I:Inv X l σ H s)(f:gr X l H s F){h':Heap}(h:qX F s.heap h'):Inv X l σ H { s with heap:=h' }:=by obtain⟨v,u,z,y,x,_⟩:=f;exact I.turned (t':=s.toks) (λb o hb e=>(h.2 b hb).trans e) v u (.inr z) y x
theorem Ma(hc:X.calm=true)(w:PI X K Z B)(C:CompSt X.N X.env.scope d Y j)
  (y:∀s H ex,PG (NA X d Y j s H ex) K g/\Tq (NA X d Y j s H ex) U tc/\PE (NA X d Y j s H ex) V te)
  (u:∀x,foldedSetIterable Z X.env x=pure x:=by intro _;rfl):PE X (.ListComp V [⟨K,Z,U,0⟩] d pos) (V3 B g tc te Y.length j):=by
 intro l s b H Q I h;rw[eval_ListComp];refine UT hc w C y u I h λD a e F k f q=>?_;obtain⟨m,v⟩:=f.2.2.2.2.2;exact⟨m,v,λi z=>⟨.ref D,a,dN k f z,rfl,q⟩⟩
theorem Ja{cpos u:Pos}{i:Nat}{x:Str}(hc:X.calm=true)(S:X.N.Nodup)(n:X.N[i]?=some x)(p:X.env.scope.names.lookup x=some .local)
  (Q:PI X K Z B) (C:CompSt X.N X.env.scope d Y j)
  (y:∀s H ex,PG (NA X d Y j s H ex) K g/\Tq (NA X d Y j s H ex) U tc/\PE (NA X d Y j s H ex) V te)
  (M:∀x,foldedSetIterable Z X.env x=pure x) (k:swapsWith (.ListComp V [⟨K,Z,U,0⟩] d cpos) (some (.Name x u)) pos.line X.env=pure true) :
  PS X (.Assign [.Name x u] (.ListComp V [⟨K,Z,U,0⟩] d cpos) pos) (ph (V3 B g tc te Y.length j) (kY i)):=by
 intro l s σ H D0 I h;rw[exec_Assign_Name_used _ _ _ _ k];refine QC (QBd (QC ?_));show wpAny _ X.A (do let _ <- comprehension (.ListComp V [⟨K,Z,U,0⟩] d cpos) d X.env _ (newList []) false (eval Z X.env) (some (assign (.Name x u) X.env))) _ _ s;refine QC (qw (UT (use:=some (assign (.Name x u) X.env)) (QQ:=λ_ o=>SP X l D0 .next o) hc Q C y M I h λD H' J F I6 f q=>?_) (λ_ o O=>QK (QK O)) λ_ _ e=>e);show wpAny _ X.A (assign (.Name x u) X.env (.ref D)) _ _ J;refine QBo (KO I6 S n (.inl p) (v:=.ref D) rfl (λG I7 ⟨a,E,R⟩=>?_) (.inr p));obtain⟨f0,W,f2,r,f4,m,P⟩:=f;have L:F≠a:=by rcases R with z|z;rw[z];exact W;exact λe=>r x a z e.symm
 have w:G.heap.Ns F m:=P.sameBut E L;exact⟨m,w,λh' b=>⟨_,H',dN I7 ⟨f0,W,f2,r,f4,m,w⟩ b,q⟩⟩
end
end L2
namespace L2.L3
open PySem PySem.Spec PyProof.Rows
noncomputable def Zo(K:QA):R2:=λx y H Q=>match x,y with
 | .int i,.int j=>Q (.int (i+j)) H|.str a,.str b=>a.length+b.length<=sizeLine/\Q (.str (a++b)) H|.ref a,.ref b=>∃z h,pC K H a z/\pC K H b h/\z.length+h.length<=sizeLine/\∀p,H p=none->Q (.ref p) (DA H p (.lst (z++h)))|_,_=>False
def yo:R2:=λx y H Q=>match x,y with
 | .int i,.int j=>Q (.int (i - j)) H|_,_=>False
def xo(K:QA):R2:=λx y H Q=>match x,y with
 | .int i,.int j=>IntMulOk i j/\Q (.int (i * j)) H|_,_=>False
def ge:R2:=λx y H Q=>match x,y with
 | .int i,.int j=>(0<j/\j<2 ^ 200)/\Q (.int (i / j)) H|_,_=>False
def uo:R2:=λx y H Q=>match x,y with
 | .int i,.int j=>0<j/\Q (.int (i % j)) H|_,_=>False
section
variable{X:Cx}
theorem op_add:RE X (binaryOp .Add) (Zo X.K):=by
 intro w s n H x y v u Q I g f h;cases x with
 |int i =>
  cases y with|int j=>exact _root_.L2.op_add w s n H _ _ v u Q I g f ⟨i,j,rfl,rfl,h⟩|_=>exact Qc h
 |str a =>
  cases y with|str b=>exact uV w s n H _ _ v u Q I g f ⟨a,b,rfl,rfl,h.1,h.2⟩|_=>exact Qc h
 |ref a =>
  cases y with
  |ref b =>
   obtain⟨xs,ys,N,M,hz,q⟩:=h;cases g;cases f;obtain⟨k,r,⟨⟨S,R,A,G⟩,L,W,E,d1,p⟩,z1⟩:=I.list N;obtain⟨z,Y,⟨⟨B,l,m,e⟩,J,Z,C,d2,o⟩,z2⟩:=I.list M;simp only at E p C o;subst E p C o;have hl:=r.length;have O:=Y.length;refine concat_meets ⟨_,W,rfl⟩ ⟨_,Z,rfl⟩ noFill_list_add seq_list_add PySem.F.slot_list_add PySem.F.entry_list_add (PySem.F.args_list_add_2 _ _) (list_addW a b k.toArray z.toArray L J R l G e (by simp;omega)) ⟨W,Z,?_⟩;have P:k.toArray++z.toArray=(k++z).toArray:=by simp
   rw[P];exact⟨.ref _,_,I.lnew (t':=s.toks) (r.append Y) (by rw[QI];omega),rfl,q _ I.fresh⟩
  |_=>exact Qc h
 |_=>exact Qc h
theorem op_sub:RE X (binaryOp .Sub) yo:=by
 intro z s w H x y v u Q I a k h;cases x with
 |int i =>
  cases y with|int j=>exact _root_.L2.op_sub z s w H _ _ v u Q I a k ⟨i,j,rfl,rfl,h⟩|_=>exact Qc h
 |_=>exact Qc h
theorem Ea:RE X (binaryOp .FloorDiv) ge:=by
 intro z s a H x y v u Q I k w h;cases x with
 |int i =>
  cases y with
  |int j =>
   obtain⟨t,rfl⟩:=k;obtain⟨b,rfl⟩:=w;obtain⟨⟨f,e⟩,q⟩:=h;refine floordiv_int (by omega) ?_ (.inl (PyProof.noPylong_of_log2 ?_));rw[Int.fdiv_eq_ediv_of_nonneg i (by omega)];exact⟨.int _,H,I.tok _,⟨_,rfl⟩,q⟩;have:j.natAbs<2 ^ 200:=by omega
   have:=(Nat.log2_lt (show j.natAbs≠0 by omega)).mpr this;omega
  |_=>exact Qc h
 |_=>exact Qc h
theorem op_mod:RE X (binaryOp .Mod) uo:=by
 intro z s w H x y v u Q I a k h;cases x with
 |int i =>
  cases y with|int j=>exact _root_.L2.op_mod z s w H _ _ v u Q I a k ⟨i,j,rfl,rfl,h.1,h.2⟩|_=>exact Qc h
 |_=>exact Qc h
theorem Di:RE X (binaryOp .Mult) (xo X.K):=by
 intro z s a H x y v u Q I k w h;cases x with
 |int i =>
  cases y with|int j=>obtain⟨t,rfl⟩:=k;obtain⟨b,rfl⟩:=w;exact mul_int ⟨.int _,H,I.tok _,⟨_,rfl⟩,h.2⟩ h.1|_=>exact Qc h
 |_=>exact Qc h
end
end L2.L3
namespace L2
open PySem PySem.Spec PyProof.Rows
section
variable{x:Type}[DecidableEq x]
section
variable{p:x×V}{r kvs:List (x×V)}{vs:List (x×Value)}{u:Value}
def AL(kvs:List (x×V))(k:x):Option V:=(kvs.find? λh=>decide (h.1=k)).map (·.2)
noncomputable def yV(kvs:List (x×V))(k:x)(v:V):List (x×V) :=
 if(kvs.any λh=>decide (h.1=k))=true then kvs.map (λh=>if h.1=k then(h.1,v) else h) else kvs++[(k,v)]
theorem SL{k:x}(e:p.1=k):AL (p::r) k=some p.2:=by simp[AL,wI,e]
theorem TL{k:x}(e:¬ p.1=k):AL (p::r) k=AL r k:=by simp[AL,wI,e]
theorem GR(k:x):∀kvs:List (x×V),(kvs.any λh=>decide (h.1=k))=(AL kvs k).isSome
 |[]=>rfl|p::r=>by rw[wv];by_cases e:p.1=k;simp only[SL e,dT e,QB3,Option.isSome_some];rw[TL e,dF e,QAd];exact GR k r
theorem SS(kvs:List (x×V))(k:x)(v:V):(yV kvs k v).length<=kvs.length+1:=by unfold yV;split;rw[QE];omega;rw[QI,QM,wR];omega
theorem pU.isSome_eq{o:Option V}{u:Option Value}(r:pU o u):o.isSome=u.isSome:=by
 cases o with
 |none=>cases u with|none=>rfl|some _=>exact(show False from r).elim
 |some _=>cases u with|none=>exact(show False from r).elim|some _=>rfl
theorem KV.val(r:KV kvs vs)(k:x):pU (AL kvs k) (valueAt vs k):=by
 unfold KV at r;induction r with
 |nil=>exact True.intro|@cons p q g y h t a =>
  obtain⟨w,f⟩:=h;by_cases e:p.1=k;have v:q.1=k:=w.symm.trans e;have b:valueAt (q::y) k=some q.2:=by simp[valueAt,wI,v]
  rw[SL e,b];exact f;have v:¬ q.1=k:=λz=>e (w.trans z);have b:valueAt (q::y) k=valueAt y k:=by simp[valueAt,wI,v]
  rw[TL e,b];exact a
theorem KV.any(r:KV kvs vs)(k:x):(kvs.any λy=>decide (y.1=k))=vs.any λy=>decide (y.1=k):=by
 unfold KV at r;induction r with|nil=>rfl|cons h t z=>rw[wv,wv,z,h.1]
theorem KV.repl(r:KV kvs vs)(k:x){y:V}(a:rA y u) :
  KV (kvs.map λv=>if v.1=k then(v.1,y) else v) (vs.map λv=>if v.1=k then(v.1,u) else v):=by
 unfold KV at r ⊢;induction r with|nil=>exact .nil|@cons p q i g h t b=>rw[QS,QS];refine .cons ?_ b;obtain⟨w,f⟩:=h;by_cases e:p.1=k;rw[if_pos e,if_pos (w.symm.trans e)];exact⟨w,a⟩;rw[if_neg e,if_neg (λz=>e (w.trans z))];exact⟨w,f⟩
theorem KV.put(r:KV kvs vs)(k:x){y:V}(h:rA y u):KV (yV kvs k y) (stored vs k u):=by unfold yV stored;rw[r.any k];by_cases e:(vs.any λz=>decide (z.1=k))=true;rw[if_pos e,if_pos e];exact r.repl k h;rw[if_neg e,if_neg e];exact Paired.snoc r ⟨rfl,h⟩
theorem KV.length(r:KV kvs vs):kvs.length=vs.length:=qH r
end
end
theorem uN{P:Program}{w:World}{k:Key}{u:Value}(r:rA (kV k) u):(GD P w).is k u=true:=by
 cases k with|inl i=>obtain⟨t,e⟩:=(show ∃t,u=Value.int i t from r);subst e;exact GS P w i t|inr x=>obtain⟨t,e⟩:=(show ∃t,u=Value.str x t from r);subst e;exact FS P w x t
end L2
namespace L2.L3
open PySem PySem.Spec PyProof.Rows
section
variable{r kvs:List KE}{xs:List (NK×Addr×Value)}
noncomputable abbrev KE:=NK×Addr×V
def uH(kvs:List KE)(k:NK):Option V:=(kvs.find? λp=>decide (p.1=k)).map (·.2.2)
noncomputable def tM(kvs:List KE)(k:NK)(b:Addr)(v:V):List KE :=
 if(uH kvs k).isSome=true then kvs.map (λp=>if p.1=k then(p.1,p.2.1,v) else p) else kvs++[(k,b,v)]
noncomputable abbrev KD:List KE->List (NK×Addr×Value)->Prop:=Paired λ(p:NK×Addr×V) (q:NK×Addr×Value)=>p.1=q.1/\p.2.1=q.2.1/\rA p.2.2 q.2.2
theorem HR{p:KE}{k:NK}(e:p.1=k):uH (p::r) k=some p.2.2:=by simp[uH,wI,e]
theorem LR{p:KE}{k:NK}(e:¬ p.1=k):uH (p::r) k=uH r k:=by simp[uH,wI,e]
theorem KD.val(r:KD kvs xs)(k:NK):pU (uH kvs k) ((atKey xs k).map (·.2)):=by
 induction r with
 |nil=>exact True.intro|@cons p q a x h t v =>
  obtain⟨u,_,w⟩:=h;by_cases e:p.1=k;have y:q.1=k:=u.symm.trans e;have b:atKey (q::x) k=some q.2:=by simp[atKey,wI,y]
  rw[HR e,b];exact w;have y:¬ q.1=k:=λz=>e (u.trans z);have b:atKey (q::x) k=atKey x k:=by simp[atKey,wI,y]
  rw[LR e,b];exact v
theorem KD.put(r:KD kvs xs)(k:NK)(b:Addr){y:V}{u:Value}(v:rA y u):KD (tM kvs k b y) (storedH xs k b u):=by
 have e:(uH kvs k).isSome=(atKey xs k).isSome:=by rw[(r.val k).isSome_eq,QAV]
 unfold tM storedH;rw[e];by_cases q:(atKey xs k).isSome=true;rw[if_pos q,if_pos q];clear e q;induction r with|nil=>exact .nil|@cons p q i g h t a=>rw[QS,QS];refine .cons ?_ a;obtain⟨x,w,f⟩:=h;unfold putAt;by_cases e:p.1=k;rw[if_pos e,if_pos (x.symm.trans e)];exact⟨x,w,v⟩;rw[if_neg e,if_neg (λz=>e (x.trans z))];exact⟨x,w,f⟩
 rw[if_neg q,if_neg q];exact Paired.snoc r ⟨rfl,rfl,v⟩
theorem AS(kvs:List KE)(k:NK)(b:Addr)(v:V):(tM kvs k b v).length<=kvs.length+1:=by unfold tM;split;rw[QE];omega;rw[QI,QM,wR];omega
end
mutual
def Tl(K:QA)(H:Hp):NK->V->Prop
 | .s x,v=>v=.str x|.t ks,v=>∃a h,v=.ref a/\nE K H a h/\KyVs K H ks h
def KyVs(K:QA)(H:Hp):List NK->LV->Prop
 |[],xs=>xs=[]|k::ks,xs=>∃x r,xs=x::r/\Tl K H k x/\KyVs K H ks r
end
def pO(K:QA)(H:Hp)(b:Addr)(k:NK):Prop:=Tl K H k (.ref b)/\c6 k<=6
theorem OI{P:Program}{w:World}{A:Around}(h:A.units+60<cLine):(vF P w).room A.in1:=by show A.in1.units+8<cLine;rw[QAm];omega
def UG(K:QA)(H:Hp)(kvs:List KE):Prop:=∀p∈kvs,pO K H p.2.1 p.1
theorem Inv.big{X:Cx}{x:OB}{σ:St}{H:Hp}{s:Shared}(I:Inv X x σ H s):sysModules<s.heap.objs.size:=by have h:mainGlobals<s.heap.objs.size:=(I.mod.glob.keeps I.bk).lt;exact QAE (by decide) h
section
variable{X:Cx}{y:OB}{σ:St}{H:Hp}{s:Shared}{a b:Addr}
mutual
theorem Np(I:Inv X y σ H s):∀{k:NK}{x:V}{u:Value},Tl X.K H k x->rA x u->T1 s.heap k u
 | .s z,x,u,e,r=>by cases(show x=.str z from e);exact r|.t ks,x,u,⟨a,xs,e,q,p⟩,r=>by subst e;cases r;obtain⟨h,v,⟨o,g,f,n,w⟩,_⟩:=I.tuple q;exact⟨a,h.toArray,rfl,⟨o,g,f,n,w⟩,by simpa using ky_vs I p v⟩
theorem ky_vs(I:Inv X y σ H s):∀{ks:List NK}{xs:LV}{us:LW},KyVs X.K H ks xs->lA xs us->NKvs s.heap ks us
 |[],xs,us,e,r=>by cases(show xs=[] from e);cases r;rfl|k::ks,xs,us,⟨x,r,e,p,q⟩,rv=>by
  subst e;cases rv with|cons h t=>exact⟨_,_,rfl,Np I p h,ky_vs I q t⟩
end
theorem yT{k:NK}(I:Inv X pins σ H s)(h:pO X.K H b k):(vF X.prog X.w).is s.heap k b:=⟨Np I h.1 rfl,h.2⟩
theorem uL{ep:Nat}{kvs:List KE}(I:Inv X pins σ H s)(e:H a=some (.dT ep kvs))(hk:UG X.K H kvs):kvs.length<=sizeLine/\(a==sysModules)=false/\∃xs,KD kvs xs/\s.heap.DictOfH (vF X.prog X.w) a xs:=by
 obtain⟨z,y,xs,r,o,l,j,i,g,k,v⟩:=(show BA X.prog X.w H s.heap a (.dT ep kvs) from I.hok a _ e)
 refine⟨z,y,xs,r,o,l,ep,j,i,g,k,?_,v⟩;clear k v z e;induction r with
 |nil=>intro x h;exact nomatch h
 |@cons p q n m u t b=>intro x h;rcases QL.mp h with e|h;subst e;rw[<- u.1,<- u.2.1];exact yT I (hk p QF);exact b (λp f=>hk p (QD _ f)) x h
theorem KT{kvs:List (Key×V)}(I:Inv X pins σ H s)(e:H a=some (.dK kvs)):kvs.length<=sizeLine/\(a==sysModules)=false/\∃vs,KV kvs vs/\s.heap.DictOf (GD X.prog X.w) a vs :=
 show BA X.prog X.w H s.heap a (.dK kvs) from I.hok a _ e
end
theorem O7{X:Cx}{h:OB}{σ:St}{H:Hp}{s:Shared}{a:Addr}{ep:Nat}(I:Inv X h σ H s)(e:H a=some (.dT ep [])):(a==sysModules)=false/\s.heap.DictOf (GD X.prog X.w) a []:=by
 obtain⟨z,y,g,r,o,f,b,k,v,u,i⟩:=(show BA X.prog X.w H s.heap a (.dT ep []) from I.hok a _ e)
 cases r;have x:f=#[]:=by apply w4.mp;simpa using u
 subst x;exact⟨y,o,#[],ep,b,k,v,λe x=>by simp at x,.nil,Q0⟩
def kD:Key->PyData
 | .inl i=>.int i|.inr x=>.str x
mutual
def tD:NK->PyData
 | .s x=>.str x|.t h=>.tuple (tDs h)
def tDs:List NK->List PyData
 |[]=>[]|k::ks=>tD k::tDs ks
end
theorem j7{a b:Key}(e:kD a=kD b):a=b:=by
 cases a with
 |inl i=>cases b with|inl j=>injection e with e;rw[e]|inr y=>exact nomatch (show PyData.int i=PyData.str y from e)
 |inr x=>cases b with
  |inl j=>exact nomatch (show PyData.str x=PyData.int j from e)
  |inr y=>injection e with e;rw[e]
mutual
theorem RU:∀{a b:NK},tD a=tD b->a=b
 | .s x,.s y,e=>by rw[PyData.str.inj e]|.s x,.t l,e=>QBh e|.t k,.s y,e=>QBh e|.t k,.t l,e=>by rw[tDs_inj (PyData.tuple.inj e)]
theorem tDs_inj:∀{a b:List NK},tDs a=tDs b->a=b
 |[],[],_=>rfl|[],_::_,e=>(nomatch e)
 |_::_,[],e=>(nomatch e)
 |x::xs,y::ys,e=>by have e:tD x::tDs xs=tD y::tDs ys:=e;injection e with e1 e2;rw[RU e1,tDs_inj e2]
end
def CK(K:QA)(H:Hp)(b:Bool)(o:HO)(ks:List PyData)(vs:LV):Prop:=match b with
 |true=>∃x,∃h:List KE,o=.dT x h/\ks=h.map (λp=>tD p.1)/\vs=h.map (·.2.2)/\UG K H h/\(h.map (·.1)).Nodup|false=>(∃h:List (Key×V),h≠[]/\o=.dK h/\ks=h.map (λp=>kD p.1)/\vs=h.map (·.2)/\(h.map (·.1)).Nodup)∨∃x,o=.dT x []/\ks=[]/\vs=[]
theorem CK.len{K:QA}{H:Hp}{b:Bool}{o:HO}{ks:List PyData}{vs:LV}(h:CK K H b o ks vs):ks.length=vs.length:=by
 cases b with|true=>obtain⟨y,x,_,rfl,rfl,_⟩:=h;simp|false=>rcases h with⟨x,_,_,rfl,rfl,_⟩| ⟨_,_,rfl,rfl⟩<;>simp
def iR(K:QA)(H:Hp)(a:Addr)(y:V)(r:Option V):Prop:=match y with
 | .str z=>(∃h,H a=some (.dK h)/\r=AL h (.inr z))∨∃x,H a=some (.dT x [])/\r=none|.ref b=>∃x h k,H a=some (.dT x h)/\UG K H h/\pO K H b k/\r=uH h k|_=>False
def jm(K:QA)(H:Hp)(a:Addr)(y v:V)(Q:Hp->Prop):Prop:=match y with
 | .str z=>(∃h,H a=some (.dK h)/\h.length<sizeLine/\Q (DA H a (.dK (yV h (.inr z) v))))∨∃u,H a=some (.dT u [])/\Q (DA H a (.dK [(.inr z,v)]))|.ref b=>∃u h k,H a=some (.dT u h)/\UG K H h/\pO K H b k/\h.length<sizeLine/\∀x,Q (DA H a (.dT x (tM h k b v)))|_=>False
theorem LO{v:V}{o:Option Value}(r:pU (some v) o):∃w,o=some w/\rA v w:=by
 cases o with|none=>exact(show False from r).elim|some w=>exact⟨w,rfl,r⟩
section
variable{X:Cx}
section
variable{c:OB}{s:Shared}{σ:St}{H:Hp}{a:Addr}{u:Value}{o:Option V}{h':Heap}{pos:Pos}
theorem cc(P:X.A.units+66<cLine):L8 X (λx y H Q=>∃a v,x=.ref a/\iR X.K H a y (some v)/\Q v H):=by
 intro n Y c s σ H x y v u Q I J C h E;obtain⟨a,r,rfl,g,q⟩:=h;cases J;cases y with
 |str z =>
  rcases g with⟨W,e,l⟩| ⟨N,e,l⟩
  rotate_left
  cases l;obtain⟨_,M,G,f,m⟩:=KT I e;obtain⟨i,B,w⟩:=LO (v:=r) (o:=valueAt G (.inr z)) (by rw[l];exact f.val _);exact qi (x:=i) m.typeIs QAM.lookup
   (wpAny_getItem_of (Q:=λr Z=>r=i/\EP X c σ Q r Z) (uN (k:=.inr z) C) m.mapOf B ⟨rfl,r,H,I.tok _,w,q⟩) E
 |ref b =>
  obtain⟨N,W,k,e,hk,O,l⟩:=g;cases C;obtain⟨_,M,F,f,m⟩:=uL I e hk;obtain⟨i,B,w⟩:=LO (v:=r) (o:=(atKey F k).map (·.2)) (by rw[l];exact f.val _);obtain⟨p,L,j⟩:=Option.map_eq_some_iff.mp B;refine qi (x:=i) m.typeIs QAM.lookup
   (wpAny_getItem_heap (Q:=λr Z=>r=i/\EP X c σ Q r Z) (OI (by omega)) (yT I O) m L ?_) E
  exact⟨j,r,H,I.tok _,by rw[j];exact w,q⟩
 |_=>exact Qc g
theorem Zc(r:X.A.units+66<cLine){y:V}{Q:VK}(I:Inv X c σ H s)(f:rA y u)(g:iR X.K H a y o)(q:Q (.bl o.isSome) H) :
  wpAny (model X.prog X.w) X.A (compareOp .In u (.ref a)) (EP X c σ Q) X.xe s:=by
 cases y with
 |str z =>
  rcases g with⟨i,e,l⟩| ⟨j,e,l⟩
  rotate_left
  subst l;obtain⟨x,v⟩:=O7 I e;exact wpAny_in_of (uN (k:=.inr z) f) x v.mapOf ⟨.bl false,H,I.tok _,rfl,q⟩;obtain⟨_,x,p,h,v⟩:=KT I e;refine wpAny_in_of (uN (k:=.inr z) f) x v.mapOf ⟨.bl o.isSome,H,I.tok _,?_,q⟩;rw[<- (h.val (.inr z)).isSome_eq,<- l];rfl
 |ref b=>obtain⟨j,i,k,e,hk,m,l⟩:=g;cases f;obtain⟨_,x,n,h,v⟩:=uL I e hk;refine wpAny_in_heap (OI (by omega)) (yT I m) x v ⟨.bl o.isSome,H,I.tok _,?_,q⟩;have q:=(h.val k).isSome_eq;rw[QAV]at q;rw[<- q,<- l];rfl|_=>exact Qc g
theorem oV(r:X.A.units+66<cLine){y:V}{Q:VK}(I:Inv X c σ H s)(f:rA y u)(g:iR X.K H a y o)(q:Q (.bl (!o.isSome)) H) :
  wpAny (model X.prog X.w) X.A (compareOp .NotIn u (.ref a)) (EP X c σ Q) X.xe s:=by
 cases y with
 |str z =>
  rcases g with⟨i,e,l⟩| ⟨j,e,l⟩
  rotate_left
  subst l;obtain⟨x,v⟩:=O7 I e;exact wpAny_notIn_of (uN (k:=.inr z) f) x v.mapOf ⟨.bl true,H,I.tok _,rfl,q⟩;obtain⟨_,x,p,h,v⟩:=KT I e;refine wpAny_notIn_of (uN (k:=.inr z) f) x v.mapOf ⟨.bl (!o.isSome),H,I.tok _,?_,q⟩;rw[<- (h.val (.inr z)).isSome_eq,<- l];rfl
 |ref b=>obtain⟨j,i,k,e,hk,m,l⟩:=g;cases f;obtain⟨_,x,n,h,v⟩:=uL I e hk;refine wpAny_notIn_heap (OI (by omega)) (yT I m) x v ⟨.bl (!o.isSome),H,I.tok _,?_,q⟩;have q:=(h.val k).isSome_eq;rw[QAV]at q;rw[<- q,<- l];rfl|_=>exact Qc g
theorem zR{t':Nat}{ob:HO}(I:Inv X c σ H s)(h:Um (H a))(y:qX a s.heap h')(v:∃q,h'.get? a=some q)(new:BA X.prog X.w (DA H a ob) h' a ob) :
  Inv X c σ (DA H a ob) { s with heap:=h',toks:=t' } :=
 I.write (x:=a) (e:=a) h (.inl rfl) (λb q hb z=>(y.2 b hb).trans z) v new
theorem pN{t':Nat}{kvs:List KE}{xs:List (NK×Addr×Value)}(I:Inv X c σ H s)(y:Um (H a))(k:(a==sysModules)=false)(z:kvs.length<=sizeLine)(h:KD kvs xs)
  (j:h'.DictOfH (vF X.prog X.w) a xs) (v:qX a s.heap h'):∃ep,Inv X c σ (DA H a (.dT ep kvs)) { s with heap:=h',toks:=t' }:=by
 obtain⟨q,i,ep,x,g,f,e,_,b⟩:=j;exact⟨ep,zR I y v ⟨q,x⟩ ⟨z,k,xs,h,q,i,x,g,f,e,b⟩⟩
def setD(K:QA)(o y v:V)(H:Hp)(Q:Hp->Prop):Prop:=match o with
 | .ref a=>jm K H a y v Q|_=>False
theorem yS(M:X.A.units+66<cLine):Dd X (setD X.K):=by
 intro c s σ H o y v J L u Q I W n m h;cases o with
 |ref a =>
  cases W;cases y with
  |str z =>
   rcases h with⟨f,e,l,q⟩| ⟨B,e,q⟩
   rotate_left
   obtain⟨i,j⟩:=O7 I e;refine QBQ (hsz:=Qt _) (uN (k:=.inr z) n) j λh' x g=>⟨_,?_,q⟩
   have Y:∃q,h'.get? a=some q:=let⟨q,_,_,r,_⟩:=x;⟨q,r⟩
   exact zR I (by rw[e];exact True.intro) g Y ⟨by simp;decide,i,_,.cons ⟨rfl,m⟩ .nil,x⟩;obtain⟨p,i,G,w,j⟩:=KT I e;have hl:(yV f (.inr z) v).length<=sizeLine:=by have:=SS f (.inr z) v;omega
   refine QBQ (hsz:=by rw[<- w.length];exact p) (uN (k:=.inr z) n) j λh' x g=>⟨_,?_,q⟩
   have Y:∃q,h'.get? a=some q:=let⟨q,_,_,r,_⟩:=x;⟨q,r⟩
   exact zR I (by rw[e];exact True.intro) g Y ⟨hl,i,_,w.put _ m,x⟩
  |ref b =>
   obtain⟨B,f,k,e,hk,C,l,q⟩:=h;cases n;obtain⟨p,i,F,w,j⟩:=uL I e hk;have hl:(tM f k b v).length<=sizeLine:=by have:=AS f k b v;omega
   refine wpAny_setItem_heap (hsz:=by rw[<- qH w];exact p) (OI (by omega)) (yT I C) j λh' x g=>?_;obtain⟨Z,E⟩:=pN (t':=_) I (by rw[e];exact True.intro) i hl (w.put k b m) x g;exact⟨_,E,q Z⟩
  |_=>exact Qc h
 |_=>exact Qc h
theorem af{P:Program}{w:World}(h:Heap)(hb:sysModules<h.objs.size):BA P w H (h.push { cls:=.type "dict",data:=.dict #[] }) h.objs.size (.dT 0 []) :=
 ⟨Qt _,beq_eq_false_iff_ne.mpr (Q3 (Qj hb)),[],.nil,_,#[],QR _ rfl,⟨rfl,rfl,rfl⟩,rfl,rfl,Q0⟩
theorem La:PE X (.Dict [] [] pos) (λ_ H Q=>∀p,H p=none->Q (.ref p) (DA H p (.dT 0 []))):=λc s σ H Q I h =>
 wpAny_Dict_empty ⟨.ref s.heap.objs.size,_,I.laid (a:=s.heap.objs.size) (o:=.dT 0 []) (t':=s.toks) (λ_ _ q=>QH _ q) (QZ _) (af s.heap (Inv.big I)),rfl,h _ (I.hok.fresh (QZ _))⟩
theorem Ha(hu:X.A.units+66<cLine){k v:Expr}{l j:TE}(hk:PE X k l)(hv:PE X v j) :
  PE X (.Dict [some k] [v] pos) (λσ H Q=>∀p,H p=none->l σ (DA H p (.dT 0 [])) λy i=>j σ i λv h=>h p=some (.dT 0 [])/\∃b ks,y=.ref b/\pO X.K h b ks/\∀ep,Q (.ref p) (DA h p (.dT ep [(ks,b,v)]))):=by
 intro c s σ H Q I q;have E:=I.hok.fresh (QZ s.heap.objs.size);have N:=I.laid (a:=s.heap.objs.size) (o:=.dT 0 []) (h':=s.heap.push { cls:=.type "dict",data:=.dict #[] }) (t':=s.toks) (λ_ _ q=>QH _ q) (QZ _) (af s.heap (Inv.big I));refine wpAny_Dict_any rfl rfl (by simp) (by simp) (pairTrees_cons_walk (HB (hk c _ σ _ _ N (q _ E)) λu n ⟨y,i,M,Y,W⟩=>HB (hv c n σ i _ M W) λm R ⟨z,h,g,r,e,b,ks,G,J,Z⟩=>pairTrees_nil_walk ?_));subst G;cases Y;obtain⟨S,F,P,x,L⟩:=uL g e (λp C=>nomatch C);cases x;show wpAny _ _ (forIn [(Value.ref b,m)] PUnit.unit _) _ _ _;rw[Wx];refine QC (QC (wpAny_dictSet_heap (hsz:=Qt _) (show X.A.units+8<cLine by omega) (yT g J) L λh' f B=>QK ?_));show wpAny _ _ (forIn ([]:List (Value×Value)) _ _) _ _ _;rw[QBJ];obtain⟨w,O⟩:=pN (t':=_) (kvs:=[(ks,b,z)]) g (by rw[e];exact True.intro) F (by simp;decide) (.cons ⟨rfl,rfl,r⟩ .nil) f B;exact QK ⟨.ref _,_,O,rfl,Z w⟩
end
end
mutual
inductive Rep(K:QA)(H:Hp):V->PyData->Prop where
 |non:Rep K H .non .none
 |bl (b:Bool):Rep K H (.bl b) (.bool b)
 |int (i:Int):Rep K H (.int i) (.int i)
 |str (x:Str):Rep K H (.str x) (.str x)
 |lst {a:Addr}{xs:LV}{ds:List PyData}:pC K H a xs->Reps K H xs ds->Rep K H (.ref a) (.list ds)
 |tup {a:Addr}{xs:LV}{ds:List PyData}:nE K H a xs->Reps K H xs ds->Rep K H (.ref a) (.tuple ds)
 |dct {b:Bool}{a:Addr}{o:HO}{ks:List PyData}{xs:LV}{ds:List PyData}:H a=some o->CK K H b o ks xs->Reps K H xs ds->Rep K H (.ref a) (.dict (ks.zip ds))
inductive Reps(K:QA)(H:Hp):LV->List PyData->Prop where
 |nil:Reps K H [] []
 |cons {x:V}{d:PyData}{xs:LV}{ds:List PyData}:Rep K H x d->Reps K H xs ds->Reps K H (x::xs) (d::ds)
end
section
variable{K:QA}{H:Hp}{R:LV->List PyData->Prop}{xs:LV}{ds:List PyData}
theorem Rep.both{P:V->PyData->Prop}(z:P .non .none)(v:∀b,P (.bl b) (.bool b))(int:∀i,P (.int i) (.int i))(str:∀x,P (.str x) (.str x))
    (lst:∀{a:Addr}{xs:LV}{ds:List PyData},pC K H a xs->Reps K H xs ds->R xs ds->P (.ref a) (.list ds))
    (tup:∀{a:Addr}{xs:LV}{ds:List PyData},nE K H a xs->Reps K H xs ds->R xs ds->P (.ref a) (.tuple ds))
    (dct:∀{b:Bool}{a:Addr}{o:HO}{ks:List PyData}{xs:LV}{ds:List PyData},H a=some o->CK K H b o ks xs->Reps K H xs ds->R xs ds->P (.ref a) (.dict (ks.zip ds)))
    (u:R [] []) (y:∀{x:V}{d:PyData}{xs:LV}{ds:List PyData},Rep K H x d->Reps K H xs ds->P x d->R xs ds->R (x::xs) (d::ds)) :
    (∀{x:V}{d:PyData},Rep K H x d->P x d)/\∀{xs:LV}{ds:List PyData},Reps K H xs ds->R xs ds :=
  ⟨λh=>Rep.rec (motive_1:=λx d _=>P x d) (motive_2:=λx d _=>R x d) z v int str @lst @tup @dct u @y h,
   λh=>Reps.rec (motive_1:=λx d _=>P x d) (motive_2:=λx d _=>R x d) z v int str @lst @tup @dct u @y h⟩
theorem Reps.ind(z:R [] [])(y:∀{x:V}{d:PyData}{xs:LV}{ds:List PyData},Rep K H x d->R xs ds->R (x::xs) (d::ds))(h:Reps K H xs ds):R xs ds :=
 (Rep.both (P:=λ_ _=>True) trivial (λ_=>trivial) (λ_=>trivial) (λ_=>trivial) (λ_ _ _=>trivial) (λ_ _ _=>trivial) (λ_ _ _ _=>trivial) z λh _ _ r=>y h r).2 h
theorem Reps.length(h:Reps K H xs ds):xs.length=ds.length:=Reps.ind (R:=λxs ds=>xs.length=ds.length) rfl (λ_ e=>congrArg Nat.succ e) h
end
section
variable{X:Cx}{y:OB}{σ:St}{H:Hp}{s:Shared}
mutual
theorem KS{h:Heap}:∀{k:NK}{u:Value},T1 h k u->∃z,Reads h u (tD k) z
 | .s x,u,⟨t,e⟩=>by subst e;exact⟨_,.str x t⟩|.t ks,u,⟨a,its,e,⟨o,e1,c,n,d⟩,q⟩=>by subst e;obtain⟨z,v⟩:=nks_reads q;exact⟨_,.tuple e1 c d v⟩
theorem nks_reads{h:Heap}:∀{ks:List NK}{us:LW},NKvs h ks us->∃x,ReadsAll h us (tDs ks) x
 |[],us,e=>by cases(show us=[] from e);exact⟨_,.nil⟩|k::ks,us,⟨v,r,e,p,q⟩=>by subst e;obtain⟨x,u⟩:=KS p;obtain⟨bs,z⟩:=nks_reads q;exact⟨_,.cons u z⟩
end
section
variable{kvs:List (Key×V)}{xs:List (NK×Addr×Value)}{vs:List (Key×Value)}
theorem D4(I:Inv X pins σ H s){kvs:List KE}(r:KD kvs xs)(hk:UG X.K H kvs):∃z,ReadsAll s.heap (xs.map λx=>.ref x.2.1) (kvs.map λp=>tD p.1) z:=by
 induction r with|nil=>exact⟨_,.nil⟩|@cons p x _ _ h t u=>obtain⟨z,q⟩:=u λp v=>hk p (QD _ v);obtain⟨bs,y⟩:=KS (yT I (hk p QF)).1;rw[h.2.1]at y;exact⟨_,.cons y q⟩
theorem dS{P:Program}{w:World}{es:List DictEntry}(hk:KV kvs vs)(u:Pairs (GD P w) es vs):(∃v,ReadsAll s.heap (es.map (·.key)) (kvs.map λp=>kD p.1) v)/\es.map (·.val)=vs.map (·.2):=by
 unfold KV at hk;induction hk generalizing es with
 |nil=>cases u;exact⟨⟨_,.nil⟩,rfl⟩|cons h t e =>
  cases u with
  |cons a b c =>
   obtain⟨⟨v,q⟩,k⟩:=e c;refine⟨?_,by rw[QS,QS,k,b]⟩;rw[QS,QS];rw[<- h.1]at a;rcases OA a with⟨i,t,z,y⟩| ⟨x,t,z,y⟩
   rw[z,y];exact⟨_,.cons (.int i t) q⟩;rw[z,y];exact⟨_,.cons (.str x t) q⟩
theorem t9{kvs:List KE}(r:KD kvs xs):lA (kvs.map (·.2.2)) (xs.map (·.2.2)):=by
 induction r with|nil=>exact .nil|cons h _ x=>exact .cons h.2.2 x
theorem r9(r:KV kvs vs):lA (kvs.map (·.2)) (vs.map (·.2)):=by
 induction r with|nil=>exact .nil|cons h _ x=>exact .cons h.2 x
theorem L0(I:Inv X pins σ H s){b:Bool}{a:Addr}{o:HO}{ks:List PyData}{xs:LV}(h:H a=some o)(q:CK X.K H b o ks xs):∃ob es ep us,s.heap.get? a=some ob/\ob.cls=.type "dict"/\ob.dict=none/\ob.data=.dict es ep/\(a==sysModules)=false /\
  (∃j,ReadsAll s.heap (es.toList.map (·.key)) ks j)/\lA xs us/\es.toList.map (·.val)=us:=by
 cases b with
 |true=>obtain⟨e,kvs,rfl,rfl,rfl,hk,_⟩:=q;obtain⟨_,v,f,x,ob,es,ep,k,y,w,u,_⟩:=uL I h hk;refine⟨ob,es,ep,_,k,y.1,y.2.1,w,v,?_,t9 x,?_⟩;rw[u,Qa];exact D4 I x hk;rw[u,Qa];rfl|false =>
  rcases q with⟨kvs,_,rfl,rfl,rfl,_⟩| ⟨e,rfl,rfl,rfl⟩
  rotate_left
  obtain⟨_,v,f,x,ob,es,ep,k,y,w,u,_⟩:=uL I h λ_ z=>nomatch z;cases x;exact⟨ob,es,ep,[],k,y.1,y.2.1,w,v,⟨_,by rw[u];exact .nil⟩,.nil,by rw[u];rfl⟩;obtain⟨_,v,vs,x,ob,es,ep,k,y,w,_,u,_⟩:=KT I h;obtain⟨i,g⟩:=dS (s:=s) x u;exact⟨ob,es,ep,_,k,y.1,y.2.1,w,v,i,r9 x,g⟩
theorem Rep.reads2(I:Inv X pins σ H s):(∀{x:V}{d:PyData},Rep X.K H x d->∀u,rA x u->∃y,Reads s.heap u d y)/\∀{xs:LV}{ds:List PyData},Reps X.K H xs ds->∀us,lA xs us->∃y,ReadsAll s.heap us ds y:=by
 refine Rep.both (P:=λx d=>∀u,rA x u->∃y,Reads s.heap u d y) (R:=λxs ds=>∀us,lA xs us->∃y,ReadsAll s.heap us ds y) (λu r=>?_) (λb u r=>?_) (λi u r=>?_) (λx u r=>?_) (λh q v u r=>?_) (λh q v u r=>?_) (λ{b a o w xs ds} h q r v u l=>?_) (λus r=>?_) λ_ _ p m us r=>?_;cases r;exact⟨_,.none⟩;cases r;exact⟨_,.bool b⟩;obtain⟨t,rfl⟩:=r;exact⟨_,.int i t⟩;obtain⟨t,rfl⟩:=r;exact⟨_,.str x t⟩;cases r;obtain⟨g,k,⟨o,n,e,c,_,d⟩,_⟩:=I.list h;obtain⟨y,z⟩:=v _ k;exact⟨_,.list e c d (by simpa using z)⟩;cases r;obtain⟨g,k,⟨o,e,c,n,d⟩,_⟩:=I.tuple h;obtain⟨y,z⟩:=v _ k;exact⟨_,.tuple e c d (by simpa using z)⟩;cases l;obtain⟨ob,L,M,us,C,B,J,A,G,⟨y,W⟩,Z,Y⟩:=L0 I h q;obtain⟨bs,f⟩:=v _ Z;have hl:w.length=ds.length:=by rw[q.len,Reps.length r]
 have F:(w.zip ds).map (λx=>x.1)=w:=Wn (wa hl);have E:(w.zip ds).map (λx=>x.2)=ds:=w6 (wa hl.symm);exact⟨_,.dict C B A (by rw[F];exact W) (by rw[E,Y];exact f)⟩;cases r;exact⟨_,.nil⟩;cases r with|cons r j=>obtain⟨y,z⟩:=p _ r;obtain⟨bs,f⟩:=m _ j;exact⟨_,.cons z f⟩
theorem Rep.reads(I:Inv X pins σ H s){x:V}{d:PyData}{u:Value}(h:Rep X.K H x d)(r:rA x u):∃y,Reads s.heap u d y:=(Rep.reads2 I).1 h u r
def NF(d:PyData):Prop:=d.canLay0=true/\d.depth<=64
noncomputable def rEq(K:QA)(neg:Bool):R2:=λx y H Q=>match x,y with
 | .int i,.int j=>Q (.bl (if neg then !decide (i=j) else decide (i=j))) H|.str a,.str b=>Q (.bl (if neg then !decide (a=b) else decide (a=b))) H|.bl a,.bl b=>Q (.bl (if neg then !decide (a=b) else decide (a=b))) H|x,y=>∃z h,Rep K H x z/\Rep K H y h/\NF z/\NF h/\Q (.bl (if neg then !PyData.eqv z h else Qv z h)) H
theorem op_eq(C:X.A.units+64<cLine):RE X (compareOp .Eq) (rEq X.K false):=by
 intro z s g H x y v u Q I o n h;have k:(∃f e,Rep X.K H x f/\Rep X.K H y e/\NF f/\NF e/\Q (.bl (if false=true then !PyData.eqv f e else Qv f e)) H)->wpAny (model X.prog X.w) X.A (compareOp .Eq v u) (EP X z g Q) X.xe s:=by rintro⟨f,e,m,l,⟨Z,B⟩,⟨Y,W⟩,q⟩;obtain⟨E,r⟩:=m.reads I o;obtain⟨bs,p⟩:=l.reads I n;exact SeqAt.compareEq_reads r p Z Y (by omega) ⟨.bl _,H,I,rfl,q⟩
 have sc:G9 x y=true->Q (.bl (decide (x=y))) H->wpAny (model X.prog X.w) X.A (compareOp .Eq v u) (EP X z g Q) X.xe s:=λm l=>_root_.L2.op_eq z s g H x y v u Q I o n ⟨m,l⟩;cases x with
 |int i =>
  cases y with|int j=>exact sc rfl (by simpa[rEq]using h)|_=>exact k h
 |str a =>
  cases y with|str b=>exact sc rfl (by simpa[rEq]using h)|_=>exact k h
 |bl a =>
  cases y with|bl b=>exact sc rfl (by simpa[rEq]using h)|_=>exact k h
 |_=>exact k h
theorem op_ne(C:X.A.units+64<cLine):RE X (compareOp .NotEq) (rEq X.K true):=by
 intro z s g H x y v u Q I o n h;have k:(∃f e,Rep X.K H x f/\Rep X.K H y e/\NF f/\NF e/\Q (.bl (if true=true then !PyData.eqv f e else Qv f e)) H)->wpAny (model X.prog X.w) X.A (compareOp .NotEq v u) (EP X z g Q) X.xe s:=by rintro⟨f,e,m,l,⟨Z,B⟩,⟨Y,W⟩,q⟩;obtain⟨E,r⟩:=m.reads I o;obtain⟨bs,p⟩:=l.reads I n;exact SeqAt.compareNe_reads r p Z Y (by omega) ⟨.bl _,H,I,rfl,q⟩
 have sc:G9 x y=true->Q (.bl (!decide (x=y))) H->wpAny (model X.prog X.w) X.A (compareOp .NotEq v u) (EP X z g Q) X.xe s:=λm l=>_root_.L2.op_ne z s g H x y v u Q I o n ⟨m,l⟩;cases x with
 |int i =>
  cases y with|int j=>exact sc rfl (by simpa[rEq]using h)|_=>exact k h
 |str a =>
  cases y with|str b=>exact sc rfl (by simpa[rEq]using h)|_=>exact k h
 |bl a =>
  cases y with|bl b=>exact sc rfl (by simpa[rEq]using h)|_=>exact k h
 |_=>exact k h
def uZ(f:Int->Int->Bool):R2:=λx y H Q=>match x,y with
 | .int i,.int j=>Q (.bl (f i j)) H|_,_=>False
theorem fQ{w:CmpOp}{f:Int->Int->Bool}(e:RE X (compareOp w) (ua λi j=>.bl (f i j))):RE X (compareOp w) (uZ f):=by
 intro z s k H x y v u Q I b a h;cases x with
 |int i =>
  cases y with|int j=>exact e z s k H _ _ v u Q I b a ⟨i,j,rfl,rfl,h⟩|_=>exact Qc h
 |_=>exact Qc h
noncomputable def inStr(b a:Str):Bool:=match a.cps.toList with
 |[c]=>decide (c∈b.cps.toList)|_=>!(Q8 b a 0 b.length 1).isEmpty
theorem cT(b a:Str):inStr b a=!(Q8 b a 0 b.length 1).isEmpty:=by
 unfold inStr;split;rename_i c e;have x:a=⟨#[c]⟩:=by
  obtain⟨h⟩:=a;have:h=#[c]:=by apply w4.mp;simpa using e
  rw[this]
 rw[x];exact(StrLaws.found_one b c).symm;rfl
noncomputable def mS(K:QA)(neg:Bool):R2:=λx y H Q=>match y with
 | .str b=>match x with
  | .str a=>Q (.bl (if neg then !inStr b a else inStr b a)) H|_=>False
 | .ref p=>lu K neg x (.ref p) H Q∨(∃d h,Rep K H x d/\(Rep K H (.ref p) (.list h)∨Rep K H (.ref p) (.tuple h))/\NF d/\NF (.list h)/\Q (.bl (if neg then !(h.any λy=>Qv y d) else h.any λy=>Qv y d)) H)∨(∃o,iR K H p x o/\Q (.bl (if neg then !o.isSome else o.isSome)) H)|_=>False
theorem SO{ds:List PyData}(h:NF (.list ds)):qm ds=true/\wW ds<=63:=by obtain⟨x,y⟩:=h;simp only[QAN]at x;simp only[QA3]at y;exact⟨x,by omega⟩
theorem Lo(Y:X.A.units+66<cLine):RE X (compareOp .In) (mS X.K false):=by
 intro z s i H x y v u Q I e w h;cases y with
 |str b =>
  cases x with|str a=>refine nZ z s i H _ _ v u Q I e w ⟨a,b,rfl,rfl,?_⟩;rw[<- cT];simpa[mS]using h|_=>exact Qc h
 |ref p =>
  rcases h with h|⟨d,Z,r,k,l,n,q⟩| ⟨o,g,q⟩
  rotate_left 2
  cases w;exact Zc Y I e g q;exact oZ z s i H _ _ v u Q I e w h;obtain⟨B,j⟩:=r.reads I e;obtain⟨m,W⟩:=SO n;rcases k with k|k;obtain⟨bs,f⟩:=k.reads I w;exact SeqAt.in_list_reads f j m l.1 (by omega) ⟨.bl _,H,I,rfl,q⟩;obtain⟨bs,f⟩:=k.reads I w;exact SeqAt.in_tuple_reads f j m l.1 (by omega) ⟨.bl _,H,I,rfl,q⟩
 |_=>exact Qc h
theorem K5(Y:X.A.units+66<cLine):RE X (compareOp .NotIn) (mS X.K true):=by
 intro z s i H x y v u Q I e w h;cases y with
 |str b =>
  cases x with|str a=>refine gQ z s i H _ _ v u Q I e w ⟨a,b,rfl,rfl,?_⟩;rw[<- cT];simpa[mS]using h|_=>exact Qc h
 |ref p =>
  rcases h with h|⟨d,Z,r,k,l,n,q⟩| ⟨o,g,q⟩
  rotate_left 2
  cases w;exact oV Y I e g q;exact lQ z s i H _ _ v u Q I e w h;obtain⟨B,j⟩:=r.reads I e;obtain⟨m,W⟩:=SO n;rcases k with k|k;obtain⟨bs,f⟩:=k.reads I w;exact SeqAt.notIn_list_reads f j m l.1 (by omega) ⟨.bl _,H,I,rfl,q⟩;obtain⟨bs,f⟩:=k.reads I w;exact SeqAt.notIn_tuple_reads f j m l.1 (by omega) ⟨.bl _,H,I,rfl,q⟩
 |_=>exact Qc h
end
end
section
variable{X:Cx}
theorem uU:∀{bs:List Bool}{us:LW},lA (bs.map V.bl) us->∀(i:Nat) (v:Value),us[i]?=some v->∃b,bs[i]?=some b/\v=Value.bool b
 |[],_,.nil,i,v,h=>by simp at h|b::bs,_,.cons r t,0,v,h=>by simp at h;subst h;exact⟨b,by simp,r⟩|b::bs,_,.cons r t,i+1,v,h=>by obtain⟨c,y,x⟩:=uU (bs:=bs) t i v (by simpa using h);exact⟨c,by simpa using y,x⟩
theorem xZ(bs:List Bool):(Ql bs.length).any (λi=>bs.getD i false)=bs.any id:=by
 rw[qC,w8,w8];constructor;rintro⟨i,x,e⟩;have h:i<bs.length:=by simpa using x
 exact⟨bs[i],w9 h,by simpa[QCa,h]using e⟩;rintro⟨b,hb,e⟩;obtain⟨i,x,y⟩:=List.getElem_of_mem hb;exact⟨i,by simpa using x,by simp[QCa,x,y];simpa using e⟩
def Yo(K:QA):LV->Hp->VK->Prop:=λh H Q=>match h with
 |[.ref a]=>∃bs:List Bool,pC K H a (bs.map V.bl)/\Q (.bl (bs.any id)) H|_=>False
theorem k8(l:X.calm=true):CC X (.builtin "any") (Yo X.K):=by
 intro k s Z H f W Q I r h
 match f,h with
 |[.ref a],⟨bs,hq,q⟩ =>
  obtain⟨u,rfl,j⟩:=FK r;cases j;obtain⟨x,w,p,C⟩:=I.list hq;have hl:=w.length;rw[QE]at hl;refine call_any_walk (QAW p.isList ?_);have y:a<s.heap.objs.size:=by obtain⟨o,n,e,_⟩:=p;exact QT e
  refine⟨s.heap.objs.size,_,_,_,_,_,λi=>bs.getD i false,rfl,Walks.list (A:=X.A.in1) (I.ok.hd l) s.heap.objs.size a (Qj y) x.toArray,⟨⟨_,QR _ rfl,rfl,rfl⟩,?_⟩,?_,?_⟩;obtain⟨o,n,e,c,d,sq⟩:=p;exact⟨o,QH _ e,c,n,sq⟩;intro i v B F G m z;obtain⟨b,hb,rfl⟩:=uU w i v (by simpa using m);refine wT ?_;have:bs.getD i false=b:=by simp[QCa,hb]
  rw[<- this];exact z;intro E g hk;have Y:(Ql x.toArray.size).any (λi=>bs.getD i false)=bs.any id:=by rw[QN,<- hl,xZ]
  rw[Y];exact⟨.bl _,H,I.kept (t':=g) (λb o e=>hk b o (by simp;exact Qj (QT e)) (QH _ e)),rfl,q⟩
def fo(K:QA):LV->Hp->VK->Prop:=λx H Q=>(∃z,x=[.str z]/\z.length<=sizeLine/\Q (.int z.length) H)∨∃a h,x=[.ref a]/\(pC K H a h∨nE K H a h)/\Q (.int h.length) H
theorem y8:CC X (.builtin "len") (fo X.K):=λx s y H z u Q I r h=>h.elim (dR x s y H z u Q I r) (nJ x s y H z u Q I r)
def cV:V->Option Value
 | .ty n=>some (.type n)|.ref C=>some (.ref C)|_=>none
def Sw(K:QA)(H:Hp)(x:V)(t:Value):Prop:=(∃a h,x=.ref a/\pC K H a h/\t=.type "list")∨∃a h,x=.ref a/\nE K H a h/\t=.type "tuple"
def Rh(K:QA):LV->Hp->VK->Prop:=λy H Q=>match y with
 |[x,c]=>∃t h b,(TyOf K H x t∨Sw K H x t)/\cV c=some h/\QBI K t h=some b/\Q (.bl b) H|_=>False
theorem z8:CC X (.builtin "isinstance") (Rh X.K):=by
 intro m s Y H w Z Q I r h
 match w,h with
 |[x,c],⟨t,cv,b,ty,hc,hk,q⟩ =>
  obtain⟨u,k,rfl,f,v⟩:=E2 r;have e:k=cv:=by
   cases c with|ty n=>have l:k=Value.type n:=v;have j:some (Value.type n)=some cv:=hc;rw[l];exact Qk j|ref C=>have l:k=Value.ref C:=v;have j:some (Value.ref C)=some cv:=hc;rw[l];exact Qk j|_=>cases hc
  subst e;rcases ty with ty|⟨a,w,rfl,i,rfl⟩| ⟨a,w,rfl,i,rfl⟩
  exact y0 I f ty hk λy=>⟨.bl b,H,I.tok y,rfl,q⟩
  cases f;obtain⟨g,p,⟨o,n,e,c,_,d⟩,_⟩:=I.list i;exact qI QAU I.kIn ⟨o,e,c⟩ hk (λz=>nomatch z) λy=>⟨.bl b,H,I.tok y,rfl,q⟩
  cases f;obtain⟨g,p,⟨o,e,c,n,d⟩,_⟩:=I.tuple i;exact qI QBf I.kIn ⟨o,e,c⟩ hk (λz=>nomatch z) λy=>⟨.bl b,H,I.tok y,rfl,q⟩
def gu(K:QA):V->Option Int->Option Int->Hp->VK->Prop:=λx h y H Q=>match x with
 | .str z=>z.length<=sizeLine/\Q (.str (wo z h y)) H|.ref a=>zo K (.ref a) h y H Q|_=>False
theorem Ch:Pl X (gu X.K):=by
 intro y s p H x v G E W C g Q I Y B Z m h;cases x with
 |str z =>
  obtain⟨t,rfl⟩:=Y;obtain⟨J,q⟩:=h;refine⟨"str",_,F.slot_str_getitem.lookup,QCW _ _ _,?_⟩;have fin:∀l u:Option (Int×Tok),l.map (·.1)=W->u.map (·.1)=C->s.heap.IsSlice g l u none->wpAny (model X.prog X.w) X.A (getItem (.str z t) (.ref g)) (EP X y p Q) X.xe s:=λl u M L n=>by refine wpAny_getItem_str_slice n rfl ?_;subst M L;exact post_val_or_str ⟨QU (Txt.slice_le z _ _) J,λN k=>⟨.str (wo z _ _),H,I.tok k,⟨_,rfl⟩,q⟩⟩
  obtain⟨o,b,hc,e⟩:=B;cases Z with
  |none =>
   cases m with|none=>exact fin none none rfl rfl ⟨o,b,hc,e⟩|int j f=>exact fin none (some (j,f)) rfl rfl ⟨o,b,hc,e⟩
  |int i r =>
   cases m with|none=>exact fin (some (i,r)) none rfl rfl ⟨o,b,hc,e⟩|int j f=>exact fin (some (i,r)) (some (j,f)) rfl rfl ⟨o,b,hc,e⟩
 |ref a=>exact D9 y s p H _ v G E W C g Q I Y B Z m h|_=>exact Qc h
end
section
variable{h h':Heap}{j:Addr}{z:Src}{k:Nat}{xs:Array Value}
inductive Src where
 |l (a:Addr)|t (a:Addr)
def Src.adr:Src->Addr
 | .l a=>a|.t a=>a
def SD(h:Heap)(j:Addr):Src->Nat->Prop
 | .l a,k=>h.IsListIter j a k|.t a,k=>h.IsTupleIter j a k
def GB(h:Heap):Src->Array Value->Prop
 | .l a,xs=>h.IsList a xs|.t a,xs=>h.IsTuple a xs
theorem SD.keep(x:SD h j z k)(e:∀o,h.get? j=some o->h'.get? j=some o):SD h' j z k:=by
 cases z with|l a=>obtain⟨o,u,y⟩:=x;exact⟨o,e o u,y⟩|t a=>obtain⟨o,u,y⟩:=x;exact⟨o,e o u,y⟩
theorem SD.obj(x:SD h j z k):∃o,h.get? j=some o/\∀v,o.data≠.cell v:=by
 cases z with|l a=>obtain⟨o,u,w,y⟩:=x;exact⟨o,u,λv q=>by rw[y]at q;cases q⟩|t a=>obtain⟨o,u,w,y⟩:=x;exact⟨o,u,λv q=>by rw[y]at q;cases q⟩
theorem GB.ext{b:Addr}(x:GB h z xs)(e:W0 b h h')(n:z.adr≠b):GB h' z xs:=by
 cases z with|l a=>exact QCL.extBut x e n|t a=>exact Heap.IsTuple.extBut x e n
theorem GB.lt(x:GB h z xs):z.adr<h.objs.size:=by
 cases z with|l a=>obtain⟨o,y,_⟩:=x;exact QT y|t a=>obtain⟨o,y,_⟩:=x;exact QT y
theorem SD.lt(x:SD h j z k):j<h.objs.size:=by obtain⟨o,y,_⟩:=x.obj;exact QT y
end
section
variable{prog:Program}{w:World}{A:Around}{E:gC}{s:Shared}
section
variable{j t:Addr}{k:Nat}{xs:Array Value}{x:Value}{Q:gC}{z:Src}
theorem pj(p:s.heap.IsTupleIter j t k)(pt:s.heap.IsTuple t xs)(a:xs[k]?=some x)
  (q:∀h',h'.IsTupleIter j t (k+1)->qX j s.heap h'->Q x { s with heap:=h' }):wpAny (model prog w) A (qV (.ref j)) Q E s:=by
 obtain⟨ob,y,b,h⟩:=id p;obtain⟨e,v,_,f,u⟩:=pt;unfold qV;refine QC (qe (name:=QY "__next__") p.typeIs qg (qQ qg p.typeIs WL ?_ (WH _)));show wpAny _ _ (field (.ref j) 0 >>= _) _ _ _;refine QC (WE y h (x:=.ref t) rfl ?_);show wpAny _ _ (if(Value.ref t==Value.none)=true then _ else _) _ _ _;rw[if_neg (show ¬ (Value.ref t==Value.none)=true from QG)];show wpAny _ _ (field (.ref j) 1 >>= _) _ _ _;refine QC (WE y h (x:=.int k 0) rfl ?_);show wpAny _ _ (seqItems? (.ref t) >>= _) _ _ _;refine QC (QAK v u ?_);simp only[qY,a];refine QC (QAO y h (by simp) (QK ⟨x,rfl,QK (q _ ?_ (Q1 ..))⟩));refine⟨_,wL _ y (QA4 (WM h _)),(QBu ..).trans b,?_⟩;rw[WM h];simp[rawInt]
theorem nV(u:A.handled=none)(p:s.heap.IsTupleIter j t k)(pt:s.heap.IsTuple t xs)(f:xs[k]?=none)
  (q:∀h' e,W0 j s.heap h'->(∃o,h'.get? e=some o/\o.cls=.type "StopIteration")->E (.ref e) { s with heap:=h' }):wpAny (model prog w) A (qV (.ref j)) Q E s:=by
 obtain⟨ob,y,l,h⟩:=id p;obtain⟨g,b,_,i,v⟩:=pt;unfold qV;refine QC (qe (name:=QY "__next__") p.typeIs qg (qQ qg p.typeIs WL ?_ (WH _)));show wpAny _ _ (field (.ref j) 0 >>= _) _ _ _;refine QC (WE y h (x:=.ref t) rfl ?_);show wpAny _ _ (if(Value.ref t==Value.none)=true then _ else _) _ _ _;rw[if_neg (show ¬ (Value.ref t==Value.none)=true from QG)];show wpAny _ _ (field (.ref j) 1 >>= _) _ _ _;refine QC (WE y h (x:=.int k 0) rfl ?_);show wpAny _ _ (seqItems? (.ref t) >>= _) _ _ _;refine QC (QAK b v ?_);simp only[qY,f];refine QC (QBv (QC (QAO y h (by simp) ?_)));refine QC (m:=newExc (.type "StopIteration") []) ?_;simp only[newExc,newTuple];refine QC (qL ?made (by size_fits));refine QC (m:=firstArgMember _ _) (QCM (a:=Value.none) (by first|rfl | (rw[firstArgMember];rfl)) ?arg);refine qL ?made2 (by size_fits);simp only[raiseNew];refine QC (QBi ?_);first|rw[show A.in1.handled=none from u]|rw[u]
 refine QC (QK (QCN (q _ _ (((Q1 ..).extBut.push _).push _) ⟨_,QR _ rfl,rfl⟩)))
theorem Ob(p:SD s.heap j z k)(pt:GB s.heap z xs)(h:xs[k]?=some x)
  (q:∀h',SD h' j z (k+1)->qX j s.heap h'->Q x { s with heap:=h' }):wpAny (model prog w) A (qV (.ref j)) Q E s:=by
 cases z with|l a=>exact wpAny_nextOf_list_item p pt h q|t a=>exact pj p pt h q
theorem y6(y:A.handled=none)(p:SD s.heap j z k)(pt:GB s.heap z xs)(h:xs[k]?=none)
  (q:∀h' e,W0 j s.heap h'->(∃o,h'.get? e=some o/\o.cls=.type "StopIteration")->E (.ref e) { s with heap:=h' }):wpAny (model prog w) A (qV (.ref j)) Q E s:=by
 cases z with|l a=>exact wpAny_nextOf_list_end y p pt h q|t a=>exact nV y p pt h q
noncomputable def Src.it:Src->Obj
 | .l a=>{ cls:=.type "list_iterator",data:=.fields #[.ref a,.int 0 0] }|.t a=>{ cls:=.type "tuple_iterator",data:=.fields #[.ref a,.int 0 0] }
theorem TR(pt:GB s.heap z xs)(q:Q (.ref s.heap.objs.size) { s with heap:=s.heap.push z.it }):wpAny (model prog w) A (pyIter (.ref z.adr)) Q E s:=by
 cases z with|l a=>exact QAW pt q|t a=>exact QBj pt q
theorem V9(h:Heap)(z:Src):SD (h.push z.it) h.objs.size z 0:=by
 cases z with|l a=>exact⟨_,QR _ rfl,rfl,rfl⟩|t a=>exact⟨_,QR _ rfl,rfl,rfl⟩
end
end
section
variable{prog:Program}{w:World}{A:Around}{E:gC}{s:Shared}
theorem Hh{h h':Heap}{b:Addr}{z:Src}{xs:Array Value}(x:GB h z xs)(e:qX b h h')(n:z.adr≠b):GB h' z xs:=x.ext e.extBut n
end
section
variable{X:Cx}{w:OB}{σ:St}{H:Hp}{s:Shared}{h':Heap}
theorem _root_.L2.Inv.turnedL{t':Nat}{ch:List Addr}(I:Inv X w σ H s)(k:∀b o,b∉ch->s.heap.get? b=some o->h'.get? b=some o)(f:∀b∈ch,VJ X w H b):Inv X w σ H { s with heap:=h',toks:=t' }:=by
 have h:∀b u,H b=some u->b∉ch:=λb u e z=>by rw[(f b z).1]at e;cases e
 have a:X.env.locals∉ch:=λz=>(f _ z).2.1 rfl;refine I.step (g':=s.gens) (d':=s.drawn) (ch:=ch) (λb hb=>?_) (λb o _ _ hc e _=>k b o hc e) (λb o _ _ hc e _=>⟨o.slots,k b o hc e⟩) (λ_ _ _ _ n=>n)
  (λb o hc e=>⟨o,k b o hc e⟩) (λ_ _ e=>e) (λ_ _ _ e=>e) (λ_ _ e=>e) (λm y=>?_) (λb u e=>?_) I.bare
 obtain⟨_,l,_,j,i,g⟩:=f b hb;exact⟨j,l,i,g⟩;obtain⟨o,p,Y,x,r⟩:=y;exact⟨o,p,Y,k _ o a x,r⟩;refine(I.hok b u e).stay (λc v hc q=>k c v ?_ q) (λ_ q=>q) λ_ _ q=>q;rcases hc with z|z;rw[z];exact h b u e;exact h c _ z
def O1(K:QA)(H:Hp):Src->LV->Prop
 | .l a,xs=>pC K H a xs|.t a,xs=>nE K H a xs
theorem _root_.L2.Inv.src(I:Inv X w σ H s){z:Src}{xs:LV}(h:O1 X.K H z xs):∃its:LW,lA xs its/\GB s.heap z its.toArray/\xs.length<=sizeLine:=by
 cases z with|l a=>obtain⟨its,x,p,y⟩:=I.list h;exact⟨its,x,p.isList,y⟩|t a=>obtain⟨its,x,p,y⟩:=I.tuple h;exact⟨its,x,p,y⟩
theorem _root_.L2.Inv.src_inj(I:Inv X w σ H s){z:Src}{xs x:LV}(h:O1 X.K H z xs)(h':O1 X.K H z x):xs=x:=by
 cases z with|l a=>exact I.list_inj h h'|t a=>exact I.tuple_inj h h'
theorem _root_.L2.Inv.pair{p:Addr}{a b:Value}{x y:V}{t':Nat}(I:Inv X w σ H s)(k:∀b u,s.heap.get? b=some u->h'.get? b=some u)(v:s.heap.objs.size<=p)(e:h'.get? p=some { cls:=.type "tuple",data:=.seq #[a,b] })(z:rA x a)(h:rA y b) :
  Inv X w σ (DA H p (.tup [x,y])) { s with heap:=h',toks:=t' } :=
 I.laid k v ⟨by rw[Q2];show 2<=_;decide,[a,b],.cons z (.cons h .nil),_,e,rfl,_,rfl⟩
end
section
variable{prog:Program}{w:World}{A:Around}{E:gC}{s:Shared}
section
variable{z d:Addr}{u:Obj}{es:Array DictEntry}{i ep:Nat}{f c:Value}{Q:Option Value->Shared->Prop}
theorem gD:Wu "dict_itemiterator"=true:=by decide +kernel
theorem jK(l:List String)(h:(l.contains "dict_itemiterator" || l.contains "object")=false):(l.any λt=>[Value.type "dict_itemiterator",Value.type "object"].contains (.type t))=false:=by
 rw[QBp];intro t x;rw[Bool.or_eq_false_iff]at h;have v:t≠"dict_itemiterator":=λe=>by subst e;rw[Qq.mpr x]at h;cases h.1
 have y:t≠"object":=λe=>by subst e;rw[Qq.mpr x]at h;cases h.2
 simp[v,y]
theorem j6{e:DictEntry}
  (n:IsItemIter s.heap z d i es.size ep f c) (Y:s.heap.get? d=some u) (C:u.data=.dict es ep) (J:es[i]?=some e)
  (q:∀h',IsItemIterOut h' z d (i+1) es.size ep e.key e.val s.heap.objs.size->h'.get? s.heap.objs.size=some { cls:=.type "tuple",data:=.seq #[e.key,e.val] } ->
   h'.objs.size=s.heap.objs.size+1->(∀b o,b≠z->s.heap.get? b=some o->h'.get? b=some o)->Q (some (.ref s.heap.objs.size)) { s with heap:=h' }) :
  wpAny (model prog w) A (pyNext (.ref z)) Q E s:=by
 have G:s.TypeIs (.ref z) "dict_itemiterator":=⟨_,n,rfl⟩
 show wpAny _ _ (bind _ _) _ _ _;refine QC (Wv (qe G qW (qQ qW G Wf ?_ (WY _))));show wpAny _ _ (bind _ _) _ _ _;refine QC (QK (QC (QC (QC (qu G (QK (QC (QAP n rfl ?_))))))));rw[gD];show wpAny _ _ (if(Value.ref d==Value.none)=true then _ else _) _ _ _;rw[if_neg (show ¬ (Value.ref d==Value.none)=true from QG)];show wpAny _ _ (wO (.ref d) >>= _) _ _ _;refine QC (QK (QC (wC Y C ?_)));rw[if_neg (show ¬ (((es.size:Nat):Int) != ((es.size:Nat):Int))=true by simp)];refine QC (QK (QC (wq Y C ?_)));rw[if_neg (show ¬ (((ep:Nat):Int) != ((ep:Nat):Int))=true by simp)];refine QK ?_;have L:(if((i:Nat):Int)<0 then none else es[((i:Nat):Int).toNat]?)=some e:=by rw[if_neg (by omega),qY];exact J
 simp only[L];refine QC ?_;show wpAny _ _ (typeNameOfWhole (.ref z) >>= _) _ _ _;refine QC (qu G (QK (QC (WW G ?_))));rw[gD,if_pos rfl];rw[show(List.any _ λt=>[Value.type "dict_itemiterator",Value.type "object"].contains (.type t))=false from jK _ (by decide +kernel),if_neg QG];refine QC (wM n (by simp) λa h X=>?_);have h:IsItemIter a z d (i+1) es.size ep f c:=h;refine QC (qp ?_);have F:({ s with heap:=a }:Shared).TypeIs (.ref z) "dict_itemiterator":=⟨_,h,rfl⟩
 show wpAny _ _ (Builtin.Dict_items.isOneOf (.ref z) _ >>= _) _ _ _;refine QC (WW F ?_);rw[jK _ (by decide +kernel),if_neg QG];refine QC (WW F ?_);rw[jK _ (by decide +kernel),if_neg QG];show wpAny _ _ (newTuple [e.key,e.val] >>= _) _ _ _;refine QC (QBK ?_);have r:a.objs.size=s.heap.objs.size:=X.1;have y:IsItemIter (a.push { cls:=.type "tuple",data:=.seq #[e.key,e.val] }) z d (i+1) es.size ep f c:=QH _ h;show wpAny _ _ (Builtin.Dict_items.ownedTupleIsFree (.ref z) >>= _) _ _ _;refine QC ?_;show wpAny _ _ (field (.ref z) 0 >>= _) _ _ _;refine QC (WE y rfl (x:=.none) rfl (QK ?_));rw[if_pos rfl];show wpAny _ _ (field (.ref z) 6 >>= _) _ _ _;refine QC (WE y rfl (x:=f) rfl ?_);refine QC (WE y rfl (x:=c) rfl ?_);refine QC (wM y (by simp) λO B m=>?_);refine QC (wM B (by simp) λN K l=>?_);refine QC (wM K (by simp) λM W j=>?_);refine QC (wM W (by simp) λI Z g=>?_);refine QC (QCO (QK ?_));refine QK ⟨_,rfl,QK ?_⟩;have k:z<a.objs.size:=QT h;have pt:I.get? a.objs.size=some { cls:=.type "tuple",data:=.seq #[e.key,e.val] } :=
  g.extBut _ _ (wm k) (j.extBut _ _ (wm k) (l.extBut _ _ (wm k) (m.extBut _ _ (wm k) (QR _ rfl))))
 have p:I.objs.size=a.objs.size+1:=by rw[g.1,j.1,l.1,m.1,wz]
 have v:IsItemIterOut I z d (i+1) es.size ep e.key e.val a.objs.size:=Z;rw[r]at pt p v;have:=q I v pt p λb o hb x=>g.extBut _ _ hb (j.extBut _ _ hb (l.extBut _ _ hb (m.extBut _ _ hb (QH _ (X.extBut _ _ hb x)))));show Q (some (.ref a.objs.size)) _;rw[r];exact this
theorem rQ(g:A.handled=none)
  (h:IsItemIter s.heap z d i es.size ep f c) (x:s.heap.get? d=some u) (y:u.data=.dict es ep) (j:es[i]?=none)
  (q:∀h',W0 z s.heap h'->Q none { s with heap:=h' }) :
  wpAny (model prog w) A (pyNext (.ref z)) Q E s:=by
 have v:s.TypeIs (.ref z) "dict_itemiterator":=⟨_,h,rfl⟩
 show wpAny _ _ (bind _ _) _ _ _;refine QC (Wv (qe v qW (qQ qW v Wf ?_ (WY _))));show wpAny _ _ (bind _ _) _ _ _;refine QC (QK (QC (QC (QC (qu v (QK (QC (QAP h rfl ?_))))))));rw[gD];show wpAny _ _ (if(Value.ref d==Value.none)=true then _ else _) _ _ _;rw[if_neg (show ¬ (Value.ref d==Value.none)=true from QG)];show wpAny _ _ (wO (.ref d) >>= _) _ _ _;refine QC (QK (QC (wC x y ?_)));rw[if_neg (show ¬ (((es.size:Nat):Int) != ((es.size:Nat):Int))=true by simp)];refine QC (QK (QC (wq x y ?_)));rw[if_neg (show ¬ (((ep:Nat):Int) != ((ep:Nat):Int))=true by simp)];refine QK ?_;have l:(if((i:Nat):Int)<0 then none else es[((i:Nat):Int).toNat]?)=none:=by rw[if_neg (by omega),qY];exact j
 simp only[l];refine QC ?_;show wpAny _ _ (typeNameOfWhole (.ref z) >>= _) _ _ _;refine QC (qu v (QK ?_));rw[gD,if_pos rfl];refine QC (wM h (by simp) λn e k=>?_);refine QC (m:=newExc (.type "StopIteration") []) ?_;simp only[newExc,newTuple];refine QC (qL ?made (by size_fits));refine QC (m:=firstArgMember _ _) (QCM (a:=Value.none) (by first|rfl | (rw[firstArgMember];rfl)) ?arg);refine qL ?made2 (by size_fits);simp only[raiseNew];refine QC (QBi ?_);first|rw[show A.in1.handled=none from g]|rw[g]
 refine QC (QK (QCN ?_));refine QC (Wl (T:="StopIteration") (b:=true) ⟨_,QR _ rfl,rfl⟩ (by kernel_rfl) ?_);rw[if_pos rfl];exact QK (q _ ((k.extBut.push _).push _))
theorem u7{v:Addr}{Q:gC}(hv:s.heap.IsItemsView v d)(h:s.heap.get? d=some u)(x:u.data=.dict es ep)
  (q:Q (.ref s.heap.objs.size) { s with heap:=s.heap.push { cls:=.type "dict_itemiterator",data:=.fields #[.none,.bool false,.ref d,.int 0 0,.int es.size 0,.int ep 0,.none,.none] } }) :
  wpAny (model prog w) A (pyIter (.ref v)) Q E s:=by
 have a:=Heap.IsItemsView.typeIs hv;obtain⟨c,y,b,k⟩:=id hv;refine QBw a QAr (qQ QAr a F.entry_dict_items_iter ?_ (F.args_dict_items_iter_1 _));show wpAny _ _ (bind _ _) _ _ _;refine QC (QK (QC ?_));show wpAny _ _ (bind _ _) _ _ _;refine QC (WE y k rfl (QK (QC ?_)));show wpAny _ _ (bind _ _) _ _ _;refine QC (wC h x (QC (wq h x ?_)));simp only[gD,if_true];refine qL (QK ⟨_,rfl,"dict_itemiterator",_,⟨_,QR _ rfl,rfl⟩,qW.lookup,q⟩) (show _<=sizeLine+2 by simp[Builtin.Dict_items.ownedTupleFields,Q2])
theorem ZW{Q:gC}(h:s.heap.get? d=some u)(x:u.cls=.type "dict")(v:(d==sysModules)=false)
  (q:Q (.ref s.heap.objs.size) { s with heap:=s.heap.push { cls:=.type "dict_items",data:=.fields #[.ref d] } }):wpAny (model prog w) A (call (.builtin "dict.items") [.ref d]) Q E s:=by
 have y:s.TypeIs (.ref d) "dict":=⟨_,h,x⟩
 refine qQ F.slot_dict_items y F.entry_dict_items ?_ (F.args_dict_items_1 _);show wpAny _ _ (bind _ _) _ _ _;refine QC ?_;show wpAny _ _ (bind _ _) _ _ _;refine QC (Wg y ?_);refine QK ?_;show wpAny _ _ ((if(d==sysModules)=true then _ else _) >>= _) _ _ _;rw[v,if_neg QG];exact QC (QK (QC (qL (QK ⟨_,rfl,q⟩) (show _<=sizeLine+2 by simp[Q2]))))
theorem CY{Y:Type}[DecidableEq Y]{h:HeapKind prog w Y}{d a:Addr}{xs:List (Y×Addr×Value)}{k:Y}{v:Value}{Q:gC}(B:h.room A)(g:h.is s.heap k a)(F:s.heap.DictOfH h d xs)(hsz:xs.length<=sizeLine)
  (I:∀p,atKey xs k=some p->Q p.2 { s with toks:=s.toks+h.draws k })
  (G:atKey xs k=none->∀h',h'.DictOfH h d (storedH xs k a v)->qX d s.heap h'->Q v { s with heap:=h',toks:=s.toks+h.draws k }) :
  wpAny (model prog w) A (dictSetDefault d (.ref a) v) Q E s:=by
 obtain⟨o,es,ep,n,hc,m,Z,X,W⟩:=id F;have J:es.size=xs.length:=by have:=congrArg qa Z;simpa using this
 unfold dictSetDefault;refine qp (QC (h.pyHash B g (QC (wpAny_dictFind_heap B g n m Z X W (λr=>?_) λj p C=>?_))));have b:=atKey_none_of_get r;have q:=not_mem_keys_of_get r;refine QC (QBv (QC (wpAny_updateDictKeys n m (QK (G b _ ?_ (Q1 ..))) (by omega) (by simp))));refine⟨_,_,ep+1,wL _ n (Obj.isFreed_of_dict (QBC m _)),Obj.ExactDict.mapDictKeys hc _,QBC m _,?_,?_,?_⟩;rw[QCP b];simp[Z,entryOfKey];rw[QCP b];intro x l;rcases Qf.mp l with l|l;exact h.keeps (X x l) n m (Q1 ..);rw[QJ.mp l];exact h.keeps g n m (Q1 ..);rw[QCP b,QO];exact ql.mpr ⟨W,by simp,λx l y K e=>by rw[QS,wn,QJ]at K;rw[e,K]at l;exact q l⟩;have b:=atKey_of_get W C;have L:es[j]?=some (entryOfKey h (k,p)):=by
  have:es.toList[j]?=some (entryOfKey h (k,p)):=by rw[Z,Qb,C];rfl
  simpa using this
 refine QC (wC n m ?_);rw[L];exact QC (QBv (QK (I p b)))
theorem xU{y:Type}[DecidableEq y]{h:HeapKind prog w y}{d a:Addr}{xs:List (y×Addr×Value)}{k:y}{v:Value}{Q:gC}(g:h.room A.in1)(x:h.is s.heap k a)(b:s.heap.DictOfH h d xs)(hsz:xs.length<=sizeLine)(m:(d==sysModules)=false)
  (o:∀p,atKey xs k=some p->Q p.2 { s with toks:=s.toks+h.draws k })
  (n:atKey xs k=none->∀h',h'.DictOfH h d (storedH xs k a v)->qX d s.heap h'->Q v { s with heap:=h',toks:=s.toks+h.draws k }) :
  wpAny (model prog w) A (call (.builtin "dict.setdefault") [.ref d,.ref a,v]) Q E s:=by
 have e:s.TypeIs (.ref d) "dict":=Heap.DictOfH.typeIs b;refine qQ F.slot_dict_setdefault e F.entry_dict_setdefault ?_ (F.args_dict_setdefault_3 _ _ _);show wpAny _ _ (bind _ _) _ _ _;refine QC ?_;show wpAny _ _ (bind _ _) _ _ _;refine QC (Wg e ?_);refine QK ?_;show wpAny _ _ (if(d==sysModules)=true then _ else _) _ _ _;rw[m,if_neg QG];exact QC (CY g x b hsz (λp j=>QK ⟨_,rfl,o p j⟩) λl h' r q=>QK ⟨_,rfl,n l h' r q⟩)
end
end
def UL(K:QA):V->LV->Hp->VK->Prop:=λx z H Q=>∃a b v w h k,x=.ref a/\z=[.ref b,v]/\H a=some (.dT w h)/\UG K H h/\pO K H b k/\h.length<sizeLine /\
   (∀u,uH h k=some u->Q u H)/\(uH h k=none->∀y,Q v (DA H a (.dT y (tM h k b v))))
theorem FZ{X:Cx}(R:X.A.units+66<cLine):D8 X "dict.setdefault" (UL X.K):=by
 intro m s L H x N v P Q I o r h;obtain⟨a,b,y,ep,f,k,rfl,rfl,e,hk,F,l,Z,Y⟩:=h;cases o;obtain⟨u,O,rfl,q,g⟩:=E2 r;cases q;obtain⟨W,n,M,w,G⟩:=uL I e hk;have hl:(tM f k b y).length<=sizeLine:=by have:=AS f k b y;omega
 refine xU (OI (by omega)) (yT I F) G (by rw[<- qH w];exact W) n (λp C=>?_) λE S j B=>?_;have z:=w.val k;rw[C]at z;cases ev:uH f k with|none=>rw[ev]at z;exact(show False from z).elim|some u=>rw[ev]at z;exact⟨u,H,I.tok _,z,Z u ev⟩
 have z:=w.val k;rw[E]at z;cases ev:uH f k with|some u=>rw[ev]at z;exact(show False from z).elim|none=>obtain⟨i,J⟩:=pN (t':=_) I (by rw[e];exact True.intro) n hl (w.put k b g) j B;exact⟨y,_,J,g,Y ev i⟩
noncomputable def Hx(ep n:Nat)(a:Addr):It :=
  ⟨λi H=>∃h p,H a=some (.dT ep h)/\h.length=n/\h[i]?=some p,
   λi H v x=>∃q p,H q=none/\v=.ref q/\x=DA H q (.tup [.ref p.2.1,p.2.2])/\∀h,H a=some (.dT ep h)->h[i]?=some p,
   λi H=>∃h,H a=some (.dT ep h)/\h.length=n/\n<=i⟩
theorem MH{α h:Type}{R:α->h->Prop}:∀{l:List α}{m:List h}{i:Nat}{x:α},Paired R l m->l[i]?=some x->∃y,m[i]?=some y/\R x y
 |_,_,i,_,.nil,e=>by simp at e|_,_,0,_,.cons r _,e=>by simp at e;subst e;exact⟨_,rfl,r⟩|_,_,i+1,x,.cons _ t,e=>by obtain⟨y,u,z⟩:=MH (i:=i) (x:=x) t (by simpa using e);exact⟨y,by simpa using u,z⟩
theorem NU{P:Program}{w:World}{K:QA}{es:List Expr}{kk:Nat}{pp:Pos}{a it:Addr}{n ep:Nat}:Turn0 P w K (.Tuple es kk pp) (Hx ep n a) [it] it (λi h=>∃ok Y,IsItemIter h it a i n ep ok Y) where
 mem:=by simp
 obj:=λi h st b hb=>by obtain⟨ok,Y,st⟩:=st;rw[QJ]at hb;subst hb;exact⟨_,st,λv q=>by cases(show Data.fields _=Data.cell v from q)⟩
 keep:=λi h h' st k=>by obtain⟨ok,Y,st⟩:=st;exact⟨ok,Y,k it (by simp) _ st⟩
 item:=by
  intro X J C L hc i Z s σ H E I A st G;subst J C L;obtain⟨j,p,e,F,ep⟩:=G;obtain⟨ok,Y,st⟩:=st;obtain⟨z,y,xs,r,o,u,N,h2,M,B,h5⟩:=(show BA X.prog X.w H s.heap a (.dT _ j) from I.hok a _ e)
  have l:u.size=n:=by have:=congrArg qa B;rw[QE,Qx]at this;rw[this,<- qH r,F]
  obtain⟨q,hq,rq⟩:=MH r ep;have he:u[i]?=some (entryOfKey (vF X.prog X.w) q):=by
   have:u.toList[i]?=some (entryOfKey (vF X.prog X.w) q):=by rw[B,Qb,hq];rfl
   simpa using this
  subst l;refine j6 st N M he λh' b1 b3 b4 b5=>⟨_,rfl,wpAny_letOwnedTupleGo_items b1 λm c1 sb=>?_⟩
  have hp:=I.hok.fresh (QZ s.heap.objs.size);have W:it<s.heap.objs.size:=QT st;have g:∀b∈[it],b<s.heap.objs.size:=λb hb=>by rw[QJ]at hb;subst hb;exact W
  have kept:∀b o,b∉[it]->s.heap.get? b=some o->m.get? b=some o:=λb o hb q=>by rw[QJ]at hb;exact(sb.2 b hb).trans (b5 b o hb q)
  have f:m.get? s.heap.objs.size=some { cls:=.type "tuple",data:=.seq #[.ref q.2.1,q.2.2] }:=(sb.2 _ (wm W)).trans b3;have I1:=I.pair (x:=.ref p.2.1) (y:=p.2.2) (h':=s.heap.push { cls:=.type "tuple",data:=.seq #[.ref q.2.1,q.2.2] }) (t':=s.toks) (λb o e=>QH _ e) (QZ _) (QR _ rfl) (show Value.ref q.2.1=Value.ref p.2.1 by rw[rq.2.1]) rq.2.2;have I2:=I1.turnedL (h':=m) (t':=s.toks) (ch:=[it]) (λb o hb e=>by
   rcases QBD e with⟨q1,q2⟩| q;subst q1 q2;exact f;exact kept b o hb q) λb hb=>by
   obtain⟨f0,S,f2,R,Q,O⟩:=A b hb;exact⟨by rw[xA (Qj (g b hb))];exact f0,S,f2,R,Q,O⟩
  refine⟨.ref s.heap.objs.size,_,I2,rfl,⟨s.heap.objs.size,p,hp,rfl,rfl,λkvs' g1=>?_⟩,⟨_,_,c1⟩,λb hb=>?_⟩;rw[e]at g1;cases g1;exact ep;rw[xA (Qj (g b hb))];exact(A b hb).1
 done:=by
  intro X J C L hc i Z s σ H E I A st G;subst J C L;obtain⟨j,e,F,ep⟩:=G;obtain⟨ok,Y,st⟩:=st;obtain⟨z,y,xs,r,o,u,N,h2,M,B,h5⟩:=(show BA X.prog X.w H s.heap a (.dT _ j) from I.hok a _ e)
  have l:u.size=n:=by have:=congrArg qa B;rw[QE,Qx]at this;rw[this,<- qH r,F]
  subst l;obtain⟨f0,S,f2,R,Q,O⟩:=A it (by simp);exact rQ (I.ok.hd hc) st N M (QAs ep) λh' eb=>⟨rfl,I.turned (t':=s.toks) (λb o hb e=>eb b o hb e) f0 S R Q O⟩
section
variable{prog:Program}{w:World}{A:Around}{E:gC}{s:Shared}
section
variable{d h:Addr}{x:Obj}{es:Array DictEntry}{ep i:Nat}{Q:Option Value->Shared->Prop}
theorem SG:Wu "dict_keyiterator"=false:=by decide +kernel
theorem rc{Q:gC}(v:(d==sysModules)=false)(y:s.heap.get? d=some x)(hc:x.cls=.type "dict")(z:x.data=.dict es ep)
  (q:Q (.ref s.heap.objs.size) { s with heap:=s.heap.push { cls:=.type "dict_keyiterator",data:=.fields #[.ref d,.int 0 0,.int es.size 0,.int ep 0] } }) :
  wpAny (model prog w) A (pyIter (.ref d)) Q E s:=by
 have u:s.TypeIs (.ref d) "dict":=⟨_,y,hc⟩
 refine QBw u QCG (qQ QCG u F.entry_dict_iter ?body (F.args_dict_iter_1 _))
 case body =>
  show wpAny _ _ (bind _ _) _ _ _;refine QC ?sl
  case sl =>
   show wpAny _ _ (bind _ _) _ _ _;refine QC (Wg u (QK ?go))
   case go =>
    have e:Wh d=pure PUnit.unit:=by unfold Wh;rw[v];rfl
    show wpAny _ _ (Wh d >>= _) _ _ _;rw[e];refine QC (QK (QC (wC y z (QC (wq y z (QC (qL (QK ⟨_,rfl,"dict_keyiterator",_,⟨_,QR _ rfl,rfl⟩,qZ.lookup,?_⟩))))))));simpa[rawInt]using q
theorem Nb{e:DictEntry}
  (v:s.heap.IsKeyIter h d i es.size ep) (u:s.heap.get? d=some x) (k:x.data=.dict es ep) (g:es[i]?=some e)
  (q:∀h',h'.IsKeyIter h d (i+1) es.size ep->qX h s.heap h'->Q (some e.key) { s with heap:=h' }) :
  wpAny (model prog w) A (pyNext (.ref h)) Q E s:=by
 have a:=v.typeIs;obtain⟨l,b,f,y⟩:=id v;show wpAny _ _ (bind _ _) _ _ _;refine QC (Wv (qe a qZ (qQ qZ a Wo ?_ (Wi _))));show wpAny _ _ (bind _ _) _ _ _;refine QC (QK (QC (QC (QC (q0 a (QK (QC (QAP b y ?_))))))));rw[SG];show wpAny _ _ (if(Value.ref d==Value.none)=true then _ else _) _ _ _;rw[if_neg (show ¬ (Value.ref d==Value.none)=true from QG)];show wpAny _ _ (wO (.ref d) >>= _) _ _ _;refine QC (QK (QC (wC u k ?_)));rw[if_neg (show ¬ (((es.size:Nat):Int) != ((es.size:Nat):Int))=true by simp)];refine QC (QK (QC (wq u k ?_)));rw[if_neg (show ¬ (((ep:Nat):Int) != ((ep:Nat):Int))=true by simp)];refine QK ?_;have j:(if((i:Nat):Int)<0 then none else es[((i:Nat):Int).toNat]?)=some e:=by rw[if_neg (by omega),qY];exact g
 simp only[j];refine QC ?_;show wpAny _ _ (typeNameOfWhole (.ref h) >>= _) _ _ _;refine QC (q0 a (QK (QC (QA5 a ?_))));rw[SG];show wpAny _ _ (setField (.ref h) 1 _ >>= _) _ _ _;refine QC (QAO b y (by simp) ?_);have z:(s.heap.update h (Obj.mapFields (·.setIfInBounds 1 (rawInt ((i:Int)+1))))).IsKeyIter h d (i+1) es.size ep :=
  ⟨_,wL _ b (QA4 (WM y _)),(QBu ..).trans f,by rw[WM y];simp[rawInt]⟩
 refine QC (qp (QC (QA5 (s:={ s with heap:=s.heap.update h (Obj.mapFields (·.setIfInBounds 1 (rawInt ((i:Int)+1)))) }) z.typeIs ?_)));show wpAny _ _ (pure e.key) _ _ _;exact QK (QK ⟨_,rfl,QK (q _ z (Q1 ..))⟩)
theorem JS(f:A.handled=none)
  (z:s.heap.IsKeyIter h d i es.size ep) (y:s.heap.get? d=some x) (v:x.data=.dict es ep) (g:es[i]?=none)
  (q:∀h',W0 h s.heap h'->Q none { s with heap:=h' }) :
  wpAny (model prog w) A (pyNext (.ref h)) Q E s:=by
 have k:=z.typeIs;obtain⟨n,e,j,u⟩:=id z;show wpAny _ _ (bind _ _) _ _ _;refine QC (Wv (qe k qZ (qQ qZ k Wo ?_ (Wi _))));show wpAny _ _ (bind _ _) _ _ _;refine QC (QK (QC (QC (QC (q0 k (QK (QC (QAP e u ?_))))))));rw[SG];show wpAny _ _ (if(Value.ref d==Value.none)=true then _ else _) _ _ _;rw[if_neg (show ¬ (Value.ref d==Value.none)=true from QG)];show wpAny _ _ (wO (.ref d) >>= _) _ _ _;refine QC (QK (QC (wC y v ?_)));rw[if_neg (show ¬ (((es.size:Nat):Int) != ((es.size:Nat):Int))=true by simp)];refine QC (QK (QC (wq y v ?_)));rw[if_neg (show ¬ (((ep:Nat):Int) != ((ep:Nat):Int))=true by simp)];refine QK ?_;have l:(if((i:Nat):Int)<0 then none else es[((i:Nat):Int).toNat]?)=none:=by rw[if_neg (by omega),qY];exact g
 simp only[l];refine QC ?_;show wpAny _ _ (typeNameOfWhole (.ref h) >>= _) _ _ _;refine QC (q0 k (QK ?_));rw[SG];show wpAny _ _ (setField (.ref h) 0 .none >>= _) _ _ _;refine QC (QAO e u (by simp) ?_);refine QC (m:=newExc (.type "StopIteration") []) ?_;simp only[newExc,newTuple];refine QC (qL ?made (by size_fits));refine QC (m:=firstArgMember _ _) (QCM (a:=Value.none) (by first|rfl | (rw[firstArgMember];rfl)) ?arg);refine qL ?made2 (by size_fits);simp only[raiseNew];refine QC (QBi ?_);first|rw[show A.in1.handled=none from f]|rw[f]
 refine QC (QK (QCN ?_));refine QC (Wl (T:="StopIteration") (b:=true) ⟨_,QR _ rfl,rfl⟩ (by kernel_rfl) ?_);rw[if_pos rfl];exact QK (q _ (((Q1 ..).extBut.push _).push _))
end
end
noncomputable def Mx(ep n:Nat)(a:Addr):It :=
  ⟨λi H=>∃h p,H a=some (.dT ep h)/\h.length=n/\h[i]?=some p,
   λi H v x=>x=H/\∀h,H a=some (.dT ep h)->∃p,h[i]?=some p/\v=.ref p.2.1,
   λi H=>∃h,H a=some (.dT ep h)/\h.length=n/\n<=i⟩
theorem HY{P:Program}{w:World}{K:QA}{S:Expr}{a it:Addr}{n ep:Nat}:Turn P w K S (Mx ep n a) [it] it (λi h=>h.IsKeyIter it a i n ep) where
 mem:=by simp
 obj:=λi h st b hb=>by obtain⟨o,e,c,d⟩:=st;rw[QJ]at hb;subst hb;exact⟨o,e,λv z=>by rw[d]at z;cases z⟩
 keep:=λi h Y st k=>st.at λo e=>k it (by simp) o e
 item:=by
  intro X B Z C hc i u s Q H E I l st A;subst B Z C;obtain⟨f,p,e,W,ep⟩:=A;obtain⟨z,y,R,r,o,x,G,h2,F,m,h5⟩:=(show BA X.prog X.w H s.heap a (.dT _ f) from I.hok a _ e)
  have g:x.size=n:=by have:=congrArg qa m;rw[QE,Qx]at this;rw[this,<- qH r,W]
  obtain⟨q,hq,rq⟩:=MH r ep;have he:x[i]?=some (entryOfKey (vF X.prog X.w) q):=by
   have:x.toList[i]?=some (entryOfKey (vF X.prog X.w) q):=by rw[m,Qb,hq];rfl
   simpa using this
  subst g;obtain⟨O,N,f2,M,L,J⟩:=l it (by simp);refine Nb st G F he λY j sb=>?_;have I1:Inv X u Q H { s with heap:=Y }:=I.turned (t':=s.toks) (λb o hb e=>(sb.2 b hb).trans e) O N M L J;obtain⟨oi,ei,ci,di⟩:=id j;exact⟨_,rfl,go_of (s:={ s with heap:=Y }) ei ci di (by decide) ⟨.ref p.2.1,H,I1,show Value.ref q.2.1=Value.ref p.2.1 by rw[rq.2.1],⟨rfl,λks hk=>by rw[e]at hk;cases hk;exact⟨p,ep,rfl⟩⟩,j,λb hb=>(l b hb).1⟩⟩
 done:=by
  intro X B Z C hc i u s Q H E I l st A;subst B Z C;obtain⟨f,e,W,ep⟩:=A;obtain⟨z,y,R,r,o,x,G,h2,F,m,h5⟩:=(show BA X.prog X.w H s.heap a (.dT _ f) from I.hok a _ e)
  have g:x.size=n:=by have:=congrArg qa m;rw[QE,Qx]at this;rw[this,<- qH r,W]
  subst g;obtain⟨O,N,f2,M,L,J⟩:=l it (by simp);exact JS (I.ok.hd hc) st G F (QAs ep) λY eb=>⟨rfl,I.turned (t':=s.toks) (λb o hb e=>eb b o hb e) O N M L J⟩
 self:=λ_ _ _ _ _ st h=>wpAny_pyIter_keyiter st h
open PySem.SeqAt
open AutoSeq1 (wpAny_loadPart')
open MeetsSeq MeetsSeq2 MeetsSeq3
noncomputable def om:LS->LS->Bool
 |[],[]=>false|[],_::_=>true|_::_,[]=>false|x::a,y::b=>if(x==y)=true then om a b else decide (x.cps.toList<y.cps.toList)
theorem HP{vs:LW}{z:LS}(h:StrsAre vs z):vs.length=z.length/\∀(i:Nat) (x:Str),z[i]?=some x->∃t:Tok,vs[i]?=some (Value.str x t):=by
 induction h with
 |nil=>exact⟨rfl,λi x e=>by simp at e⟩|cons y t _ u =>
  refine⟨by rw[QM,QM,u.1],λi x e=>?_⟩;cases i with|zero=>simp at e;subst e;exact⟨t,rfl⟩|succ i=>simp at e;simpa using u.2 i x e
theorem NZ(l b:Addr)(v x:Array Value)(n B:Nat)(L X:Option Addr)(W o:Array (Option Value))(a ts:LS)(I:StrsAre v.toList a)(G:StrsAre x.toList ts)(k:Nat) :
  ∀i:Nat,v.size - i=k->i<=v.size->i<=x.size->Meets (Builtin.«list.__eq__.loop» ⟨[.ref l,.ref b,rawInt i,rawInt 0],[]⟩)
   (λA R s=>s.heap.get? l=some { cls:=.type "list",dict:=L,data:=.seq v n,slots:=W }/\s.heap.get? b=some { cls:=.type "list",dict:=X,data:=.seq x B,slots:=o } /\
    R (.ok (.ret (.bool (om (a.drop i) (ts.drop i))))) s):=by
 obtain⟨S,Q⟩:=HP I;obtain⟨O,N⟩:=HP G;rw[Qx]at S O;induction k with
 |zero =>
  intro i hk F p e w A R s h;obtain⟨E,g,d,Z,K⟩:=s;obtain⟨hl,hb,h⟩:=h;wp_walk using qD hl,qD hb;have m:v[((i:Nat):Int).toNat]?=none:=by simp;omega
  rw[m];wp_walk using qD hl,qD hb;have Y:a.drop i=[]:=by simp;omega
  rw[Y]at h;have f:om [] (ts.drop i)=decide (v.size<x.size):=by
   cases z:ts.drop i with
   |nil =>
    have:ts.length<=i:=by simpa using z
    exact(dF (by omega)).symm
   |cons y r =>
    have:i<ts.length:=by by_cases c:i<ts.length;exact c;rw[WX (by omega)]at z;cases z
    exact(dT (by omega)).symm
  rw[f]at h;exact h
 |succ k C =>
  intro i hk F p e w A R s h;obtain⟨E,g,d,Z,K⟩:=s;obtain⟨hl,hb,h⟩:=h;wp_walk using qD hl,qD hb;have j:i<a.length:=by omega
  obtain⟨t,ev⟩:=Q i a[i] (Qm j);have m:v[((i:Nat):Int).toNat]?=some (.str a[i] t):=by simpa using ev
  rw[m];have Y:a.drop i=a[i]::a.drop (i+1):=QAQ j;rw[Y]at h;by_cases c:i<ts.length;obtain⟨u,J⟩:=N i ts[i] (Qm c);have f:x[((i:Nat):Int).toNat]?=some (.str ts[i] u):=by simpa using J
  have M:ts.drop i=ts[i]::ts.drop (i+1):=QAQ c;rw[M]at h;have h:R (.ok (.ret (.bool (if(a[i]==ts[i])=true then om (a.drop (i+1)) (ts.drop (i+1)) else decide (a[i].cps.toList<ts[i].cps.toList))))) _:=h;rw[f];refine QC (EqAt.str_str a[i] t ts[i] u e w _ _ ?_);have hc:((i:Int)+1)=((i+1:Nat):Int):=by push_cast;rfl
  cases q:(a[i]==ts[i]) with|true=>rw[q,if_pos rfl]at h;wp_walk;rw[hc];exact⟨QAg plain_eq_loop _,W4 entry_eq_loop (by rw[wx plain_eq_loop _];exact C (i+1) (by omega) (by omega) (by omega) e w A R _ ⟨hl,hb,h⟩)⟩|false=>rw[q,if_neg QG]at h;wp_walk using qD hl,qD hb;rw[m,f];show wpAny _ _ (compareOp .Lt (.str a[i] t) (.str ts[i] u) >>= _) _ _ _;refine QC (PySem.P.lt_str ?_);exact QK h
  have f:x[((i:Nat):Int).toNat]?=none:=by simp;omega
  rw[f];wp_walk using qD hl,qD hb;rw[WX (show ts.length<=i by omega)]at h;have:decide (v.size<x.size)=false:=dF (by omega);have h:R (.ok (.ret (.bool false))) _:=h;rw[<- this]at h;exact h
theorem RZ(l b:Addr)(y x:Array Value)(n e:Nat)(f v:Option Addr)(a z:Array (Option Value))(k ts:LS)(j:StrsAre y.toList k)(i:StrsAre x.toList ts) :
  Meets (Builtin.«list.__lt__» ⟨[.ref l,.ref b],[]⟩)
   (λA R s=>s.heap.get? l=some { cls:=.type "list",dict:=f,data:=.seq y n,slots:=a }/\s.heap.get? b=some { cls:=.type "list",dict:=v,data:=.seq x e,slots:=z } /\
    R (.ok (.ret (.bool (om k ts)))) s):=by
 intro u w A R s h;obtain⟨p,g,d,m,o⟩:=s;obtain⟨hl,hb,h⟩:=h;have q:=AutoSeq1.sub_list_list;wp_walk using qD hl,qD hb;exact⟨QAg plain_eq_loop _,W4 entry_eq_loop (by rw[wx plain_eq_loop _];exact NZ l b y x n e f v a z k ts j i _ 0 rfl (Qt _) (Qt _) u w A R _ ⟨hl,hb,h⟩)⟩
section
variable{prog:Program}{w:World}{A:Around}{E:gC}{s:Shared}
theorem bV{l b:Addr}{y x:Array Value}{n a:Nat}{e u:Option Addr}{k z:Array (Option Value)}{v ts:LS}{Q:Bool->Shared->Prop}(f:A.units<cLine)(hl:s.heap.get? l=some { cls:=.type "list",dict:=e,data:=.seq y n,slots:=k })(hb:s.heap.get? b=some { cls:=.type "list",dict:=u,data:=.seq x a,slots:=z })
  (i:StrsAre y.toList v) (g:StrsAre x.toList ts) (h:Q (om v ts) s):wpAny (model prog w) A (keyLt' oneType' (.ref l) (.ref b)) Q E s:=by
 rw[keyLt'_oneType,oneLt'_eq];simp only[if_true];refine QC (wpAny_cRoomFor f (QC (wpAny_callSpecialIfBound?_slot (T:="list") ⟨_,hl,rfl⟩ F.slot_list_lt ?_)));refine QBt F.slot_list_lt ⟨_,hl,rfl⟩ F.entry_list_lt (F.args_list_lt_2 _ _) (RZ l b y x n a e u k z v ts i g) ⟨hl,hb,?_⟩;exact wT h
end
end L2.L3
namespace L2.L3
open PySem PySem.Spec PyProof.Rows PySem.W
def EB{α:Type}(n:Nat)(P:α->Prop):KasT α->Prop
 | .ret a=>P a|.ask i j k=>i<n/\j<n/\∀b,EB n P (k b)
theorem EB.bnd{α x:Type}{n:Nat}{P:α->Prop}{R:x->Prop}{f:α->KasT x}(y:∀a,P a->EB n R (f a)):∀{t:KasT α},EB n P t->EB n R (t.bind f)
 | .ret a,h=>y a h|.ask i j k,⟨h1,h2,h⟩=>⟨h1,h2,λb=>EB.bnd y (h b)⟩
theorem EB.wp{α:Type}{n:Nat}{P:α->Prop}{x:Nat->Nat->(Bool->Shared->Prop)->Shared->Prop}{Q:α->Shared->Prop}{s:Shared}(y:∀i j,i<n->j<n->∀C:Bool->Shared->Prop,(∀b,C b s)->x i j C s)(z:∀a,P a->Q a s):∀{t:KasT α},EB n P t->t.kasWp x Q s
 | .ret a,h=>z a h|.ask i j k,⟨h1,h2,h⟩=>y i j h1 h2 _ λb=>EB.wp y z (h b)
def Pm(n:Nat)(p:Array Nat):Prop:=p.Perm (qA (Ql n))
section
variable{n:Nat}
section
variable{p:Array Nat}
theorem Pm.lt(h:Pm n p)(x:0<n)(i:Nat):p.getD i 0<n:=by
 by_cases c:i<p.size;have e:p.getD i 0=p[i]:=by simp[Array.getD,c]
 rw[e];have m:p[i]∈p.toList:=by simp
 have:=(qS.mp h).mem_iff.mp m;simpa using this;have e:p.getD i 0=0:=by simp[Array.getD,c]
 rw[e];exact x
theorem Pm.rev(h:Pm n p)(i j:Nat):Pm n (kas_rev p i j):=(mirror_perm _ _ _ _).trans h
theorem rR{p:Array Nat}(h:Pm n p)(x:0<n):∀(f m:Nat),EB n (λ_=>True) (kas_asc p f m)
 |0,m=>trivial|f+1,m=>⟨h.lt x _,h.lt x _,λb=>by
  cases b with|true=>exact trivial|false=>exact rR h x f (m+1)⟩
theorem tJ(x:0<n):∀(f:Nat) {p:Array Nat}(h:Pm n p) (m q:Nat),EB n (λr=>Pm n r.1) (kas_desc f p m q)
 |0,p,h,m,q=>h|f+1,p,h,m,q=>⟨h.lt x _,h.lt x _,λb=>by
  cases b with
  |true=>show EB n _ (if q > 0 then _ else _);split;exact tJ x f (h.rev _ _) _ _;exact tJ x f h _ _|false =>
   refine⟨h.lt x _,h.lt x _,λb=>?_⟩;cases b with|true=>exact h|false=>exact tJ x f h _ _⟩
theorem tP(x:0<n)(h:Pm n p)(a b:Nat):EB n (λr=>Pm n r.2) (kas_tail3 a b p):=by refine EB.bnd (f:=λm=>.ret (m,kas_rev p 0 a)) (λm _=>?_) (rR (h.rev _ _) x _ _);exact h.rev _ _
theorem sJ(x:0<n)(h:Pm n p)(a b:Nat):EB n (λr=>Pm n r.2) (kas_descPart a b p):=by refine EB.bnd (λr y=>?_) (tJ x _ h _ _);split;exact tP x (Pm.rev y _ _) _ _;exact tP x y _ _
theorem B1(x:0<n)(h:Pm n p)(b:Nat):EB n (λr=>Pm n r.2) (kas_count b p):=by
 refine EB.bnd (λm _=>?_) (rR h x _ _);split;exact h;split
 ·refine⟨h.lt x _,h.lt x _,λc=>?_⟩
  cases c with|true=>exact h|false=>exact sJ x (h.rev _ _) _ _
 exact sJ x h _ _
theorem ZK(x:0<n){p:Array Nat}(h:Pm n p)(k:Nat):∀(f l r:Nat),EB n (λ_=>True) (kas_place p k f l r)
 |0,l,r=>trivial|f+1,l,r=>by
  show EB n _ (if l ≥ r then _ else _);split;exact trivial;refine⟨h.lt x _,h.lt x _,λb=>?_⟩;cases b with|true=>exact ZK x h k f _ _|false=>exact ZK x h k f _ _
theorem aY(x:0<n):∀(f:Nat) {p:Array Nat}(h:Pm n p) (k:Nat),EB n (Pm n) (kas_bin f p k)
 |0,p,h,k=>h|f+1,p,h,k=>EB.bnd (λl _=>aY x f ((bubble_perm _ _ _).trans h) _) (ZK x h _ _ _ _)
theorem VN(x:0<n):EB n (Pm n) (kas_sort n):=by refine EB.bnd (λr h=>?_) (B1 x (QCQ _) _);split;exact aY x _ h _;exact h
end
end
theorem MO{α:Type}(vs:List α)(d:α):(Ql vs.length).map (λi=>vs.getD i d)=vs:=by apply wB;intro i;rw[Qb];by_cases c:i<vs.length;rw[WF c];simp[c];rw[Q7 (by simp;omega),Q7 (by omega)];rfl
section
variable{prog:Program}{w:World}{A:Around}{E:gC}{s:Shared}
theorem Rp{M:Model}{vs:LW}{Q:SortKind->Shared->Prop}(k:2<=vs.length)(z:∀v∈vs,s.TypeIs v "list")(h:Q oneType' s):wpAny M A (keyKind' vs.toArray) Q E s:=by
 cases vs with
 |nil=>simp at k|cons v r =>
  rw[keyKind'_eq,QBx,map_eq_pure_bind];refine QC (QC (kas_mapM (r:=none) _ (λu y e q=>?_) (QK ?_)));rw[kas_first_eq];exact QC (QB6 (z u y) (QK q));rw[if_neg (by simp),if_neg (by simp),oneTypeOnly'_eq,QBx,map_eq_pure_bind];refine QC (QC (QC (kas_mapM (r:=.type "list") _ (λu y e q=>QB6 (z u y) q) (QK ?_))));have b:((v::r).map λ_=>Value.type "list").toArray[0]?=some (.type "list"):=by simp
  have a:(((v::r).map λ_=>Value.type "list").toArray.all λx=>x==Value.type "list")=true:=by simp only[List.all_toArray,List.all_map,Q4];intro _ _;rfl
  rw[b];simp only[a,if_true];exact QK (QK h)
theorem Xj{a:Addr}{vs:LW}{n:Nat}{P:PySem.Fin->Shared->Prop}(Y:s.heap.get? a=some (seqObj "list" vs.toArray n))(K:vs.length<64)(S:∀v∈vs,∃b o,v=.ref b/\b≠a/\s.heap.get? b=some o/\o.cls=.type "list")
  (G:∀B:Heap,(∀b o,b≠a->s.heap.get? b=some o->B.get? b=some o)->∀x∈vs,∀y∈vs,∀C:Bool->Shared->Prop,(∀k,C k { s with heap:=B })->wpAny (model prog w) A (keyLt' oneType' x y) C (λ_ _=>False) { s with heap:=B })
  (k:∀out:LW,out.Perm vs->P (.done (.ret .none)) { s with heap:=sortedHeap s.heap a vs out.toArray }):wpAny (model prog w) A (Builtin.«list.sort» ⟨[.ref a],[]⟩) P E s:=by
 have ha:a<s.heap.objs.size:=QT Y;have J:=Q1 s.heap a (Qz λ_=>(#[]:Array Value));obtain⟨Z,X⟩:∃Z,(s.heap.update a (Qz λ_=>(#[]:Array Value))).get? a=some (seqObj "list" #[] Z):=⟨_,W5 Y λ_=>#[]⟩
 have r:(((s.heap.update a (Qz λ_=>(#[]:Array Value))).push (seqObj "tuple" vs.toArray 0)).push (seqObj "list" #[] 0)).get? a=some (seqObj "list" #[] Z):=QH _ (QH _ X);have kept:∀b o,b≠a->s.heap.get? b=some o->(((s.heap.update a (Qz λ_=>(#[]:Array Value))).push (seqObj "tuple" vs.toArray 0)).push (seqObj "list" #[] 0)).get? b=some o:=λb o hb e=>QH _ (QH _ ((J.2 b hb).trans e));rw[list_sort_plain];refine QC (QB7 Y rfl (QC (WN Y rfl ?_ (by rw[QN];omega) (Qt _))));refine QC (QBR X rfl (QC (QBK ?_ (by show vs.length<=_;omega))));refine QC (QAh (qp ?_) (Qt _));show wpAny (model prog w) A _ P E { s with heap:=((s.heap.update a (Qz λ_=>(#[]:Array Value))).push (seqObj "tuple" vs.toArray 0)).push (seqObj "list" #[] 0) };dsimp only;have fin:∀out:LW,out.Perm vs->wpAny (model prog w) A (do
   let h:=(<- seqEpoch a) != Z
   QAi (.ref a) λ_=>out.toArray
   if h then rule "list.sort.modified";raiseError "ValueError" "list modified during sort"
   ret .none) P E { s with heap:=((s.heap.update a (Qz λ_=>(#[]:Array Value))).push (seqObj "tuple" vs.toArray 0)).push (seqObj "list" #[] 0) }:=λout m=>by
  have hl:=m.length_eq;refine QC (QBR r rfl (QC (WN r rfl ?_ (Qt _) (by rw[QN];omega))));simp only[bne_self_eq_false,Qs,if_false];exact QK (k out m)
 by_cases I:vs.length<2;have u:vs.toArray.size<2:=by rw[QN];exact I
 rw[if_pos u,if_pos u];refine QC (QK ?_);rw[QCR];refine QC (QK ?_);have e:(arrOf (QBy general' (vs.toArray.zip vs.toArray) #[] 7 none)).map (·.2)=vs.toArray:=by show(vs.toArray.zip vs.toArray).map (·.2)=_;apply w4.mp;simp[w6]
 dsimp only;rw[e];exact fin vs (QBL _);have u:¬ vs.toArray.size<2:=by rw[QN];exact I
 rw[if_neg u,if_neg u];refine QC (Rp (by omega) (λv hv=>?_) ?_);obtain⟨b,o,rfl,hb,e,c⟩:=S v hv;exact⟨o,kept b o hb e,c⟩;have F:QBy oneType' (vs.toArray.zip vs.toArray) #[] 7 none=kas_st oneType' (pairsOf vs) (qA (Ql vs.length)):=by have e:=kas_range (pairsOf vs);rw[pairsOf_size]at e;show QBy oneType' (pairsOf vs) #[] 7 none=QBy oneType' ((qA (Ql vs.length)).map (kas_item (pairsOf vs))) #[] 7 none;rw[e]
 have all:=VN (n:=vs.length) (by omega);have f:(kas_sort vs.length).kasWp (kas_cmp prog w A oneType' (pairsOf vs)) (λp g=>g={ s with heap:=((s.heap.update a (Qz λ_=>(#[]:Array Value))).push (seqObj "tuple" vs.toArray 0)).push (seqObj "list" #[] 0) }/\Pm vs.length p) { s with heap:=((s.heap.update a (Qz λ_=>(#[]:Array Value))).push (seqObj "tuple" vs.toArray 0)).push (seqObj "list" #[] 0) }:=by
  rw[<- kas_ask_eq];refine EB.wp (λi j O N C H=>?_) (λp m=>⟨rfl,m⟩) all;have gi:vs.getD i Value.none∈vs:=by
   have:vs.getD i Value.none=vs[i]:=by simp[O]
   rw[this];exact w9 _
  have gj:vs.getD j Value.none∈vs:=by
   have:vs.getD j Value.none=vs[j]:=by simp[N]
   rw[this];exact w9 _
  exact G _ kept _ gi _ gj C H
 have l:=kas_runs (prog:=prog) (w:=w) (A:=A) (E:=E) (Q:=λ_ z g=>∃p:Array Nat,p.size=vs.length/\arrOf z=p.map (kas_item (pairsOf vs))/\failedOf z=none/\g={ s with heap:=((s.heap.update a (Qz λ_=>(#[]:Array Value))).push (seqObj "tuple" vs.toArray 0)).push (seqObj "list" #[] 0) }/\Pm vs.length p)
  (by omega) K (λM z g a1 a2 a3 a4=>⟨M,a1,a2,a3,a4⟩) f
 rw[<- F]at l;refine QC (qw l ?_ λ_ _ e=>e);rintro⟨⟨⟩,z⟩ g ⟨p,m,W,R,rfl,L⟩;dsimp only;have q:(arrOf z).map (·.2)=qA (p.toList.map λi=>vs.getD i Value.none):=by apply w4.mp;rw[W,Array.map_map,Array.toList_map];exact wJ λi _=>by show(kas_item (pairsOf vs) i).2=_;rw[kas_item_eq]
 rw[q,R];refine fin _ ?_;have:=(qS.mp L).map λi=>vs.getD i Value.none;refine this.trans ?_;show((Ql vs.length).map λi=>vs.getD i Value.none).Perm vs;rw[MO]
theorem X9{l:Addr}{vs:LW}{Q:gC}(hl:s.heap.IsList l vs.toArray)(g:vs.length<64)(X:∀v∈vs,∃b o,v=.ref b/\s.heap.get? b=some o/\o.cls=.type "list")
  (i:∀f:Heap,(∀b o,s.heap.get? b=some o->f.get? b=some o)->∀x∈vs,∀y∈vs,∀C:Bool->Shared->Prop,(∀k,C k { s with heap:=f })->wpAny (model prog w) A.in1.in1 (keyLt' oneType' x y) C (λ_ _=>False) { s with heap:=f })
  (k:∀out:LW,out.Perm vs->Q (.ref (s.heap.objs.size+1)) { s with heap:=sortedAll s.heap vs out.toArray }):wpAny (model prog w) A (call (.builtin "sorted") [.ref l]) Q E s:=by
 refine Calls.call_function_entry kind_sorted plain_sorted entry_sorted (args_sorted1 _) ?_;unfold Builtin.«sorted»;refine QC (m:=checkCount "sorted" 1 1 _) (QK (QC (collect_list hl ?_ (by omega))));refine QC (QAh ?_ (by show vs.length<=_;omega));have u:((s.heap.push (seqObj "list" #[] 0)).update s.heap.objs.size (Qz (·++vs.toArray))).objs.size=s.heap.objs.size+1:=by rw[QCH,size_push']
 have a:(((s.heap.push (seqObj "list" #[] 0)).update s.heap.objs.size (Qz (·++vs.toArray))).push (seqObj "list" vs.toArray 0)).get? (s.heap.objs.size+1)=some (seqObj "list" vs.toArray 0):=by rw[<- u];exact QR _ rfl
 have z:∀b o,s.heap.get? b=some o->(((s.heap.push (seqObj "list" #[] 0)).update s.heap.objs.size (Qz (·++vs.toArray))).push (seqObj "list" vs.toArray 0)).get? b=some o:=λb o q=>by have h:b<s.heap.objs.size:=QT q;refine QH _ ?_;rw[Heap.get?_update_ne _ _ _ _ (Qj h)];exact QH _ q
 show wpAny _ _ _ _ _ { s with heap:=((s.heap.push (seqObj "list" #[] 0)).update s.heap.objs.size (Qz (·++vs.toArray))).push (seqObj "list" vs.toArray 0) };rw[u];refine QC (qp (qQ slot_list_sort ⟨_,a,rfl⟩ entry_list_sort ?body (args_list_sort _)))
 case body =>
  refine Xj (s:={ s with heap:=((s.heap.push (seqObj "list" #[] 0)).update s.heap.objs.size (Qz (·++vs.toArray))).push (seqObj "list" vs.toArray 0) }) a g (λv hv=>?_) (λf j x p y n C Y=>?_) λout r=>⟨_,rfl,QK ⟨_,rfl,k out r⟩⟩
  obtain⟨b,o,e,q,c⟩:=X v hv;have h:b<s.heap.objs.size:=QT q;exact⟨b,o,e,Qj (ww h),z b o q,c⟩;refine i f (λb o q=>?_) x p y n C Y;have h:b<s.heap.objs.size:=QT q;exact j b o (Qj (ww h)) (z b o q)
end
section
variable{prog:Program}{w:World}{A:Around}
theorem Xk(Z:A.handled=none)(j:Addr)(z:Src)(m:z.adr≠j)(y:Array Value)(c:Nat) :
  Draws prog w A j [j,z.adr] (c+y.size) (λi v=>∃k,i=c+k/\y[k]?=some v) (λi h=>∃k,i=c+k/\SD h j z k/\GB h z y) where
 live:=λ_ _ ⟨_,_,p,_⟩=>let⟨o,e,_⟩:=p.obj;⟨o,e⟩
 frame:=λ_ h f ⟨k,e,p,q⟩ u=>⟨k,e,p.keep λo x=>u j (by simp) o x,by
  cases z with|l a=>exact QCL.at q λo x=>u a (by simp[Src.adr]) o x|t a=>obtain⟨o,Y,X⟩:=q;exact⟨o,u a (by simp[Src.adr]) o Y,X⟩⟩
 item:=λi s Q E W ⟨k,e,p,q⟩ n=>by
  have hk:k<y.size:=by omega
  exact Ob p q (x:=y[k]) (by simp[hk]) λf g b=>n _ f s.toks ⟨k,e,by simp[hk]⟩ ⟨k+1,by omega,g,Hh q b m⟩ b
 done:=λs Q E ⟨k,e,p,q⟩ r=>by
  have hk:k=y.size:=by omega
  exact y6 Z p q (by simp[hk]) r
theorem Uk(r:A.handled=none)(j:Addr)(z:Src)(y:Array Value)(n k:Nat)(v:y[k]?=none) :
  Draws prog w A j [j,z.adr] n (λ_ _=>False) (λi h=>i=n/\SD h j z k/\GB h z y) where
 live:=λ_ _ ⟨_,p,_⟩=>let⟨o,e,_⟩:=p.obj;⟨o,e⟩
 frame:=λ_ h Y ⟨e,p,q⟩ u=>⟨e,p.keep λo x=>u j (by simp) o x,by
  cases z with|l a=>exact QCL.at q λo x=>u a (by simp[Src.adr]) o x|t a=>obtain⟨o,m,g⟩:=q;exact⟨o,u a (by simp[Src.adr]) o m,g⟩⟩
 item:=λi s Q E b ⟨e,_,_⟩ X=>absurd b (by omega)
 done:=λs Q E ⟨_,p,q⟩ f=>y6 r p q v f
noncomputable def Nx(K:QA)(z:Src)(c:Nat):It :=
  ⟨λi H=>∃h x,O1 K H z h/\h[i]?=some x,
   λi H v y=>∃p x,H p=none/\v=.ref p/\y=DA H p (.tup [.int ((c+i:Nat):Int),x])/\∀h,O1 K H z h->h[i]?=some x,
   λi H=>∃h,O1 K H z h/\h.length<=i⟩
def MW(e j:Addr)(z:Src)(c i:Nat)(h:Heap):Prop:=(∃x,IsEnum h e j ((c+i:Nat):Int) x)/\SD h j z i
theorem LY{P:Program}{K:QA}{es:List Expr}{kk:Nat}{pp:Pos}{e j:Addr}{z:Src}{c:Nat}(L:e≠j)(n2:z.adr≠e)(n3:z.adr≠j) :
  Turn P w K (.Tuple es kk pp) (Nx K z c) [e,j] e (MW e j z c) where
 mem:=by simp
 obj:=λi h st b hb=>by obtain⟨⟨a,g⟩,n⟩:=st;simp only[QL,WA,or_false]at hb;rcases hb with rfl|rfl;exact⟨_,g,λv q=>by cases(show Data.fields _=Data.cell v from q)⟩;exact n.obj
 keep:=λi h h' st k=>by obtain⟨⟨a,g⟩,n⟩:=st;exact⟨⟨a,k e (by simp) _ g⟩,n.keep λo x=>k j (by simp) o x⟩
 item:=by
  intro X O M Q hc i r s σ H E I B st N;subst O M Q;obtain⟨xs,x,C,ex⟩:=N;obtain⟨f,J,F,_⟩:=I.src C;obtain⟨u,hu,ru⟩:=J.get ex;obtain⟨⟨a,g⟩,n⟩:=st;have hi:i<f.toArray.size:=by have:=(Qg.mp hu).1;simpa using this
  refine wpAny_pyNext_enum_itemD (Xk (show X.A.in1.handled=none from I.ok.hd hc) j z n3 f.toArray c) g ⟨i,rfl,n,F⟩ (by omega) L (by simp[L,Q3 n2]) λy h' W ⟨k,ek,hy⟩ b1 b2 b3 b4 b5=>?_;have ek:k=i:=by omega
  subst ek;have ey:y=u:=by
   have:f.toArray[k]?=some u:=by simpa using hu
   rw[this]at hy;exact(Qk hy).symm
  subst ey;refine⟨_,rfl,wpAny_letOwnedTupleGo_enum b1 λp c1 G=>?_⟩;obtain⟨k2,Z,b2,b2'⟩:=b2;have Z:k2=k+1:=by omega
  subst Z;have hp:=I.hok.fresh (QZ s.heap.objs.size);have Y:e<s.heap.objs.size:=QT g;have m:∀b∈[e,j],b<s.heap.objs.size:=λb hb=>by simp only[QL,WA,or_false]at hb;rcases hb with rfl|rfl;exact Y;exact n.lt
  have kept:∀b o,b∉[e,j]->s.heap.get? b=some o->p.get? b=some o:=λb o hb q=>by simp only[QL,WA,or_false,not_or]at hb;exact(G.2 b hb.1).trans (b5 b o hb.1 hb.2 q)
  have l:p.get? s.heap.objs.size=some { cls:=.type "tuple",data:=.seq #[.int ((c+k:Nat):Int) W,y] }:=(G.2 _ (wm Y)).trans b3;have I1:=I.pair (x:=.int ((c+k:Nat):Int)) (h':=s.heap.push { cls:=.type "tuple",data:=.seq #[.int ((c+k:Nat):Int) W,y] }) (t':=W+1) (λb o e=>QH _ e) (QZ _) (QR _ rfl) ⟨_,rfl⟩ ru;have I2:=I1.turnedL (h':=p) (t':=W+1) (ch:=[e,j]) (λb o hb e=>by
   rcases QBD e with⟨q1,q2⟩| q;subst q1 q2;exact l;exact kept b o hb q) λb hb=>by
   obtain⟨f0,f1,f2,f3,S,R⟩:=B b hb;exact⟨by rw[xA (Qj (m b hb))];exact f0,f1,f2,f3,S,R⟩
  refine⟨.ref s.heap.objs.size,_,I2,rfl,⟨s.heap.objs.size,x,hp,rfl,rfl,λxs' g1=>?_⟩,⟨⟨y,?_⟩,b2.keep λo q=>(G.2 _ (Q3 L)).trans q⟩,λb hb=>?_⟩;rw[I.src_inj g1 C];exact ex;have:(((c+(k+1):Nat)):Int)=((c+k:Nat):Int)+1:=by omega
  rw[this];exact c1;rw[xA (Qj (m b hb))];exact(B b hb).1
 done:=by intro X O M Q hc i r s σ H E I B st N;subst O M Q;obtain⟨xs,C,en⟩:=N;obtain⟨f,J,F,_⟩:=I.src C;obtain⟨⟨a,g⟩,n⟩:=st;have l1:=J.length;obtain⟨f0,f1,f2,f3,S,R⟩:=B j (by simp);exact wpAny_pyNext_enum_endD (Uk (show X.A.in1.handled=none from I.ok.hd hc) j z f.toArray 0 i (by simp;omega)) g ⟨rfl,n,F⟩ λh' eb=>⟨rfl,I.turned (t':=s.toks) (λb o hb e=>eb b o hb e) f0 f1 f3 S R⟩
 self:=λ_ _ _ _ _ st h=>by obtain⟨⟨a,g⟩,_⟩:=st;exact QBz g h
end
theorem C0(z:Src)(xs:Array Value):Meets (Builtin.«enumerate.__new__» ⟨[.type "enumerate",.ref z.adr],[]⟩) (λ_ R s=>GB s.heap z xs /\
   R (.ok (.ret (.ref (s.heap.push z.it).objs.size))) { s with heap:=(s.heap.push z.it).push { cls:=.type "enumerate",data:=.fields #[.none,.bool false,.ref s.heap.objs.size,rawInt 0,.none,.none] } }) :=
 .of_wp λy w A R s h=>by
  obtain⟨b,g,d,v,a⟩:=s;obtain⟨k,h⟩:=h;have u:=sub_enumerate;have x:GB (Shared.heap ⟨b,g,d,v,a⟩) z xs:=k;wp_walk;refine wpAny_stack_any λst=>QK ?_;split;rename_i cl _ _ _ _ _;cases(cl==Value.type "enumerate")<;>(wp_walk using TR x;exact⟨_,rfl,h⟩)
  wp_walk using TR x;exact⟨_,rfl,h⟩
section
variable{prog:Program}{w:World}{A:Around}{E:gC}{s:Shared}
theorem fY{h:Heap}{z:Src}{n:Int}:IsEnum ((h.push z.it).push { cls:=.type "enumerate",data:=.fields #[.none,.bool false,.ref h.objs.size,rawInt n,.none,.none] }) (h.objs.size+1) h.objs.size n .none:=by have:=QR (h.push z.it) (o:={ cls:=.type "enumerate",data:=.fields #[.none,.bool false,.ref h.objs.size,rawInt n,.none,.none] }) rfl;rw[wz]at this;exact this
theorem KW{z:Src}{xs:Array Value}{Q:gC}(y:GB s.heap z xs)
  (h:∀h',MW (s.heap.objs.size+1) s.heap.objs.size z 0 0 h'->(∀c o,s.heap.get? c=some o->h'.get? c=some o)->Q (.ref (s.heap.objs.size+1)) { s with heap:=h' }):wpAny (model prog w) A (call (.type "enumerate") [.ref z.adr]) Q E s:=by
 refine callType_new PySem.F.called_enumerate (by decide) (PySem.F.typeCall_enumerate_1 _) (PySem.F.newCall_enumerate_1 _) (λobj=>PySem.F.args_object_init_2 obj _) PySem.F.entry_enumerate_new (C0 z xs) ⟨y,?_⟩;show _/\_;rw[wz];exact⟨⟨_,fY,rfl⟩,h _ ⟨⟨.none,fY⟩,(V9 s.heap z).keep λo e=>QH _ e⟩ λc o x=>QH _ (QH _ x)⟩
end
theorem sy{a b:Nat}(h:a≠b):((a:Addr)≠(b:Addr)):=h
theorem iZ:typeLookup (.type "list_reverseiterator") "__len__"=pure none:=by rw[typeLookup_type,QA6];kernel_rfl
theorem m7:typeLookup (.type "list_reverseiterator") "__length_hint__"=pure (some (.builtin "list_reverseiterator.__length_hint__")):=by rw[typeLookup_type,QA6];kernel_rfl
section
variable{d:Program}{a:World}{u:Around}{g:gC}{h:Shared}{f:gC}
noncomputable abbrev Pb:Obj:={ cls:=.type "list",data:=.seq #[] }
theorem oO{j l:Addr}{xs:Array Value}(Q:u.handled=none)(N:l≠j)(J:h.heap.IsRevIter j l ((xs.size:Int) - 1))(B:h.heap.IsList l xs)(P:xs.size<=sizeLine)
  (k:∀s' r c,(∀b o,b≠j->h.heap.get? b=some o->s'.heap.get? b=some o)->s'.gens=h.gens->s'.drawn=h.drawn->s'.os=h.os ->
   s'.heap.get? h.heap.objs.size=some { cls:=.type "list",dict:=none,data:=.seq r c,slots:=#[] }->ItemsOf (λi v=>xs[xs.size - 1 - i]?=some v) r xs.size->f (.ref h.heap.objs.size) s') :
  wpAny (model d a) u (call (.type "list") [.ref j]) f g h:=by
 have W:=(Walks.listRev (prog:=d) (w:=a) (A:=u.in1.in1) Q j l N xs).toS;have ty:∀{i:Nat}{q:Shared},(i<=xs.size/\q.heap.IsRevIter j l ((xs.size:Int) - 1 - (i:Int))/\q.heap.IsList l xs)->q.TypeIs (.ref j) "list_reverseiterator":=λz=>z.2.1.typeIs;obtain⟨oj,H,_⟩:=id J;obtain⟨ol,S,_⟩:=id B;have E:=QT H;have C:=QT S;generalize hn:h.heap.objs.size=n at E C k;have K:n∉[j,l]:=λz=>by rcases QL.mp z with z|z;exact qR _ (z▸E);exact qR _ (QJ.mp z▸C)
 have O:n≠j:=λz=>K (z▸QF);refine callType_codes (Q₁:=λp q=>p=.ref n/\q={ h with heap:=h.heap.push Pb }) F.called_list (F.typeCall_list_1 _) F.entry_list_init (code_list_new _ ⟨by rw[hn],rfl⟩) ?_;rintro p q ⟨rfl,rfl⟩;have Y:(h.heap.push Pb).get? n=some Pb:=hn▸QR _ rfl;refine⟨⟨_,Y,rfl⟩,F.args_list_init_2 _ _,?_⟩;show wpAny _ u.in1.in1 (do let Z <- QAt (.ref n);QAi (.ref n) (λ_=>#[]);letGo Z.toList.reverse;wt (.ref n) (.ref j) .none) _ _ _;unfold QAt;refine QC (QC (QAK Y rfl (QK (QC (m:=updateSeq n λ_=>#[]) (wpAny_updateSeq Y rfl (QC (QCO ?_)))))));have e1:=wL (Qz λ_=>(#[]:Array Value)) Y rfl;have I:∀b o,b≠n->h.heap.get? b=some o->((h.heap.push Pb).update n (Qz λ_=>(#[]:Array Value))).get? b=some o:=λb o z e=>(WU _ _ (Q3 z)).trans (QH _ e);have L:0<=xs.size/\h.heap.IsRevIter j l ((xs.size:Int) - 1 - ((0:Nat):Int))/\h.heap.IsList l xs:=⟨Qt _,by simpa using J,B⟩
 have s:=W.frame 0 h _ h.toks L (QZ _) λb hb o e=>I b o (λz=>K (z▸hb)) e;have M:Builtin.List.listSameRef (.ref n) (.ref j)=false:=beq_eq_false_iff_ne.mpr O;unfold wt Builtin.List.listLengthHint;refine QC (QB6 (ty s) ?_);rw[if_neg (by simp only[M];decide)];refine QC (W.self 0 _ _ _ s (QC (qp (QC (QAy (ty s) iZ ?_)))));show wpAny _ _ (specialOf (.ref j) (QY "__length_hint__") >>= _) _ _ _;refine QC (QAy (ty s) m7 ?_);generalize hx:("list_reverseiterator.__length_hint__":String)=x
 wp_delta
 rw[show splitId x=some ("list_reverseiterator","__length_hint__") by rw[<- hx];decide +kernel];subst hx;refine QC (Wl (b:=true) (ty s) (by rw[isSubtype_type];kernel_rfl) (QK ?_));rw[if_neg (by decide)];refine QK ⟨QAg F.plain_extend_loop _,codeAny_extend_loopS W P _ K _ xs.size 0 _ _ _ rfl (Qt _) s e1 (ItemsOf.nil _) ?_⟩;intro s' r c X R it;refine⟨rfl,k s' r c (λb o z e=>?_) X.gens X.drawn X.os R it⟩;have G:b<n:=hn▸QT e;exact X.heap b o (λm=>(QL.mp m).elim (λy=>qR _ (y▸G)) λy=>z (QJ.mp y)) (I b o (Qj G) e)
end
def jV(K:QA)(x:V)(H:Hp)(Q:VK):Prop:=∃p h,x=.ref p/\pC K H p h/\∀l,H l=none->Q (.ref l) (DA H l (.lst h.reverse))
theorem IZ{its:LW}{x:Array Value}(h:ItemsOf (λi v=>its.toArray[its.toArray.size - 1 - i]?=some v) x its.toArray.size):x.toList=its.reverse:=by
 obtain⟨y,z⟩:=h;have y:x.toList.length=its.length:=y;refine List.ext_getElem (by rw[y,we]) λi a b=>?_;have:=z i x[i] (Array.getElem?_eq_getElem a);have e:its[its.length - 1 - i]?=some x[i]:=by simpa only[List.getElem?_toArray,QN]using this
 rw[Qm (by omega)]at e;rw[List.getElem_reverse];exact(Qk e).symm
section
variable{X:Cx}{a:Expr}{ta:TE}{v p2 pos y:Pos}
theorem Ki(hc:X.calm=true)(g1:Gl X "list")(g2:Gl X "reversed")(P:X.mg "list"=none)(O:X.mg "reversed"=none)(ha:PE X a ta)(st:starEach [a] X.env=(false,eval a X.env)::starEach [] X.env) :
  PE X (.Call (.Name "list" v) [.Call (.Name "reversed" p2) [a] [] y] [] pos) λσ H Q=>ta σ H λx E=>jV X.K x E Q:=by
 intro g s σ H Q I h;refine qy (xE I g1 P PyProof.Rows.boot_list ?_);refine qO ?_ rfl rfl;show wpAny _ _ (spliced ((false,eval (.Call (.Name "reversed" p2) [a] [] y) X.env)::[])) _ _ s;refine wK ?_;refine qy (xE I g2 O QAB ?_);refine qO ?_ st rfl;rw[st];show wpAny _ _ (spliced ((false,eval a X.env)::[])) _ _ s;refine wK (HB (ha g s σ H _ I h) λu f ⟨x,E,l,J,p,F,e,hq,q⟩=>wu ?_);subst e;cases J;obtain⟨k,W,L,S⟩:=l.list hq;have C:=W.length;have hl:=L.isList;refine QBk hl (wu ?_);obtain⟨ol,n,_⟩:=id hl;have lt:=QT n;have M:p≠f.heap.objs.size:=Qj lt;have hd:X.A.handled=none:=l.ok.hd hc;have r:(f.heap.push (revObj p ((k.toArray.size:Int) - 1))).IsList p k.toArray:=hl.at λo e=>QH _ e;have m:(f.heap.push (revObj p ((k.toArray.size:Int) - 1))).IsRevIter f.heap.objs.size p ((k.toArray.size:Int) - 1 - ((0:Nat):Int)):=⟨_,QR _ rfl,rfl,by simp[revObj]⟩
 refine oO hd (by exact M) (by simpa using m) r (by rw[QN];omega) λZ j c' N e1 e2 e3 Y i=>?_;have ea:=IZ i;have R:∀b o,f.heap.get? b=some o->Z.heap.get? b=some o:=λb o e=>N b o (λz=>qR _ (z▸QT e)) (QH _ e);obtain⟨B,gs,dr,G,oo⟩:=Z;cases e1;cases e2;cases e3;refine⟨.ref (f.heap.push (revObj p ((k.toArray.size:Int) - 1))).objs.size,_,l.laid (t':=G) (h':=B) R (by rw[wz];omega) (show BA X.prog X.w _ B _ (.lst F.reverse) from⟨by rw[we];exact S,j.toList,c',by rw[ea];exact W.reverse,Y⟩),rfl,q _ (l.hok.fresh (by rw[wz];omega))⟩
end
noncomputable def Fx(K:QA)(a:Addr)(n:Nat):It :=
 ⟨λi H=>i<n/\∃h x,pC K H a h/\h[n - 1 - i]?=some x,λi H x y=>y=H/\∀h,pC K H a h->h[n - 1 - i]?=some x,λi _=>n<=i⟩
theorem u3{P:Program}{w:World}{K:QA}{L:Expr}(a it:Addr)(n:Nat):Turn P w K L (Fx K a n) [it] it (λi h=>i<=n/\h.IsRevIter it a ((n:Int) - 1 - (i:Int))) where
 mem:=by simp
 obj:=λi h st b hb=>by
  have e:b=it:=by simpa using hb
  subst e;obtain⟨_,o,e,c,d⟩:=st;exact⟨o,e,λv z=>by rw[d]at z;cases z⟩
 keep:=λi h m st k=>⟨st.1,st.2.at λo e=>k it (by simp) o e⟩
 item:=by intro X r q Y hc i f s F H E I l st j;subst r q Y;obtain⟨hi,xs,x,J,G⟩:=j;obtain⟨Q,N,p,hz⟩:=I.list J;obtain⟨u,S,O⟩:=N.get G;obtain⟨C,B,f2,A,W,Z⟩:=l it (by simp);have y:=st.2;rw[show(n:Int) - 1 - (i:Int)=((n - 1 - i:Nat):Int) by omega]at y;refine wpAny_pyNext_rev_item y p.isList (x:=u) (by simpa using S) λm g M=>?_;have I1:Inv X f F H { s with heap:=m }:=I.turned (t':=s.toks) (λb o hb e=>(M.2 b hb).trans e) C B A W Z;obtain⟨o,e,c,d⟩:=id g;rw[show((n - 1 - i:Nat):Int) - 1=(n:Int) - 1 - ((i+1:Nat):Int) by omega]at g;exact⟨u,rfl,go_of (s:={ s with heap:=m }) e c d (by decide) ⟨x,H,I1,O,⟨rfl,λys R=>by rw[I.list_inj R J];exact G⟩,⟨hi,g⟩,λb hb=>(l b hb).1⟩⟩
 done:=by intro X r q Y hc i f s F H E I l st j;subst r q Y;obtain⟨C,B,f2,A,W,Z⟩:=l it (by simp);have j:n<=i:=j;have y:=st.2;rw[show(n:Int) - 1 - (i:Int)=-1 by have:=st.1;omega]at y;exact wpAny_pyNext_rev_end (I.ok.hd hc) y λm eb=>⟨rfl,I.turned (t':=s.toks) (λb o hb e=>eb b o hb e) C B A W Z⟩
 self:=λ_ _ _ _ _ st h=>QBE st.2 h
inductive Bi where
 |len|any|min|sorted|tuple
 deriving DecidableEq
inductive Mt where
 |append|pop|setd|extend|index
 deriving DecidableEq
inductive ItK where
 |val|rng1|enum|itm|rev
 deriving DecidableEq
inductive Tg where
 |nm (i:Nat)|tp (is:LN)
 deriving DecidableEq
set_option genSizeOf false in
set_option genInjectivity false in
inductive PX where
 |zz (i:Nat)|int (i:Int)|str (x:Str)|bl (b:Bool)|non
 |glo (x:Str)|bty (x:Str) (n:String)
 |bin (op:Operator) (a b:PX)
 |cmp (op:CmpOp) (a b:PX)
 |and (a b:PX)|or (a b:PX)|not (a:PX)
 |call (f:Str) (as:PX)
 |bi (f:Bi) (as:PX)|isi (a c:PX)
 |mt (m:Mt) (o as:PX)
 |idx (a b:PX)|slc (a lo hi:PX)|nop
 |lst (as:PX)|tup (as:PX)|dnew (b:Bool)|dsp (a b:PX)
 |comp (mask:List Bool) (tgs:LS) (tg:Tg) (ik:ItK) (its cond elt:PX)
 |xz|nz (a as:PX)|ng (i:Int)|lrv (a:PX)
structure Ev where
 sp:Str->Sp
 va:Str->V
structure W3 where
 e:TE
 t:TT
 a:TA
def never:W3:=⟨λ_ _ _=>False,λ_ _ _=>False,λ_ _ _=>False⟩
def MF(K:QA)(x:V)(H:Hp)(Q:Bool->Hp->Prop):Prop:=match x with
 | .bl b=>Q b H|.int i=>Q (i != 0) H|.non=>Q false H|.str z=>z.length<=sizeLine/\Q ((z.length:Int) != 0) H|x=>∃k,Ml K x H k/\Q k H
def n8(x:V)(H:Hp)(Q:Bool->Hp->Prop):Prop:=match x with
 | .bl b=>Q b H|_=>False
def Yd(K:QA):Operator->R2
 | .Add=>Zo K|.Sub=>yo|.Mult=>xo K|.FloorDiv=>ge|.Mod=>uo|_=>λ_ _ _ _=>False
noncomputable def EX(neg:Bool):R2:=λx y H Q=>match y with
 | .non=>Q (.bl (if neg then !decide (x=.non) else decide (x=.non))) H|.bl c=>∃b,x=.bl b/\Q (.bl (if neg then !decide (b=c) else decide (b=c))) H|_=>False
noncomputable def A7(K:QA):CmpOp->R2
 | .Eq=>rEq K false|.NotEq=>rEq K true|.Lt=>uZ λi j=>decide (i<j)|.LtE=>uZ λi j=>decide (i<=j)|.Gt=>uZ λi j=>decide (j<i)|.GtE=>uZ λi j=>decide (j<=i)|.In=>mS K false|.NotIn=>mS K true|.Is=>EX false|.IsNot=>EX true
noncomputable def bZ(K:QA):R2:=λx y H Q=>match x,y with
 | .str z,.int i=>z.length<=sizeLine/\∃c,YD z.cps.toList i=some c/\Q (.str ⟨#[c]⟩) H|.ref a,.int i=>∃h v,(pC K H a h∨nE K H a h)/\YD h i=some v/\Q v H|.ref a,.str z=>∃v,iR K H a (.str z) (some v)/\Q v H|.ref a,.ref b=>∃v,iR K H a (.ref b) (some v)/\Q v H|_,_=>False
def hX(K:QA):LV->Hp->VK->Prop:=λk H Q=>∃p,k=[.ref p]/\((∃z:LS,pC K H p (z.map V.str)/\z.length<64/\∀l h,H l=none->h.Perm z->sortedS h=true->Q (.ref l) (DA H l (.lst (h.map V.str)))) ∨
   (∃u,pC K H p u/\u.length<64/\(∀x∈u,∃a,∃z:LS,x=.ref a/\pC K H a (z.map V.str))/\∀l w,H l=none->w.Perm u->Q (.ref l) (DA H l (.lst w))) ∨
   (∃v:LJ,pC K H p (v.map V.int)/\v.length<64/\∀l (y:LJ),H l=none->y.Perm v->y.Pairwise (·<=·)->Q (.ref l) (DA H l (.lst (y.map V.int)))))
def L4(K:QA):LV->Hp->VK->Prop:=λx H Q=>∃p h,x=[.ref p]/\pC K H p h/\∀l,H l=none->Q (.ref l) (DA H l (.tup h))
noncomputable def Dq(K:QA):Bi->LV->Hp->VK->Prop
 | .len=>fo K|.any=>Yo K|.sorted=>hX K|.min=>λh H Q=>∃i j,h=[.int i,.int j]/\Q (.int (if j<i then j else i)) H|.tuple=>L4 K
def fe:V->LV->Hp->VK->Prop:=λx y H Q=>∃l i h k v,x=.ref l/\y=[.int i]/\H l=some (.lst h)/\XR h.length i=some k/\h[k]?=some v/\Q v (DA H l (.lst (h.eraseIdx k)))
def oe:V->LV->Hp->VK->Prop:=λx z H Q=>∃l b y h,x=.ref l/\z=[.ref b]/\H l=some (.lst y)/\H b=some (.lst h)/\y.length+h.length<=sizeLine/\Q .non (DA H l (.lst (y++h)))
def M4:V->LV->Hp->VK->Prop:=λx u H Q=>∃z y i h,x=.str z/\u=[.str y]/\Q8 z y 0 z.length 1=i::h/\Q (.int (i:Int)) H
def jc(K:QA):Mt->V->LV->Hp->VK->Prop
 | .append=>lX|.pop=>fe|.setd=>UL K|.index=>M4|.extend=>oe
def Mt.ty:Mt->String
 | .append=>"list"|.pop=>"list"|.setd=>"dict"|.index=>"str"|.extend=>"list"
def GM(x:V)(H:Hp)(Q:Option Int->Hp->Prop):Prop:=match x with
 | .int i=>Q (some i) H|_=>False
inductive Item where
 |one (v:V)|tup (vs:LV)
noncomputable def cC(K:QA):ItK->LV->Hp->(List Item->(Hp->Prop)->Hp->Prop)->Prop
 | .val,[.ref a],H,R=>(∃h,pC K H a h/\R (h.map .one) (λH=>pC K H a h) H)∨(∃h,nE K H a h/\R (h.map .one) (λH=>nE K H a h) H)∨(∃y,∃x:List KE,H a=some (.dT y x)/\R (x.map λp=>.one (.ref p.2.1)) (λH=>H a=some (.dT y x)) H)|.rng1,[.int j],H,R=>(-(2 ^ 62)<=j/\j<2 ^ 62)/\R ((Ql j.toNat).map λ(i:Nat)=>.one (.int (i:Int))) (λ_=>True) H|.enum,[.ref a],H,R=>∃z h,Src.adr z=a/\O1 K H z h/\R (h.zipIdx.map λp=>.tup [.int (p.2:Int),p.1]) (λH=>O1 K H z h) H|.rev,[.ref a],H,R=>∃h,pC K H a h/\R (h.reverse.map .one) (λH=>pC K H a h) H|.itm,[.ref a],H,R=>∃y,∃x:List KE,H a=some (.dT y x)/\R (x.map λp=>.tup [.ref p.2.1,p.2.2]) (λH=>H a=some (.dT y x)) H|_,_,_,_=>False
def xB:LN->LV->St->Option St
 |[],[],σ=>some σ|i::is,v::vs,σ=>xB is vs (σ.set i (some v))|_,_,_=>none
noncomputable def oG(K:QA):Tg->TG
 | .nm i=>λv x H Q=>Q (x.set i (some v)) H|.tp z=>λv x H Q=>match v with
  | .ref p=>∃y h,nE K H p y/\xB z y x=some h/\Q h H|_=>False
noncomputable def bindI(K:QA)(z:Tg):Item->St->Hp->(St->Hp->Prop)->Prop
 | .one v=>oG K z v|.tup y=>λx H Q=>match z with
  | .tp w=>∀u,Same H u->∃h,xB w y x=some h/\Q h u|.nm i=>∀p,H p=none->Q (x.set i (some (.ref p))) (DA H p (.tup y))
def nq(K:QA)(xs:List Item)(st:Hp->Prop)(bind:Item->St->Hp->(St->Hp->Prop)->Prop)(tc:TT)(te:TE)(σ:St)(H:Hp)(Q:VK):Prop :=
 ∃W:Nat->LV->Hp->Prop,W 0 [] H/\(∀i h H,i<=xs.length->W i h H->st H) /\
  (∀i x h H,xs[i]?=some x->W i h H->bind x σ H λz u=>tc z u λb v=>if b=true then te z v λy w=>h.length<sizeLine/\W (i+1) (h++[y]) w else W (i+1) h v) /\
  ∀h u,W xs.length h u->h.length<=sizeLine/\∀p,u p=none->Q (.ref p) (DA u p (.lst h))
structure Yields(J:It)(xs:List Item)(st:Hp->Prop):Prop where
 go:∀i H,st H->i<xs.length->J.go i H
 yld:∀i H x H',st H->i<xs.length->J.yld i H x H'->∃it,xs[i]?=some it/\match it with
  | .one v=>x=v/\H'=H|.tup vs=>∃p,H p=none/\x=.ref p/\H'=DA H p (.tup vs)
 stop:∀i H,st H->xs.length<=i->J.stop i H
def oq(J:It)(g:TG)(tc:TT)(te:TE)(k:St)(l:Hp)(Q:VK):Prop:=∃W:Nat->Nat->LV->St->Hp->Prop,(∃m,W 0 m [] k l) /\
 ∀i m h v u,W i m h v u->(J.stop i u/\h.length<=sizeLine/\∀p,u p=none->Q (.ref p) (DA u p (.lst h))) ∨
  (J.go i u/\∀x e,J.yld i u x e->g x v e λz j=>tc z j λb a=>if b=true then te z a λy f=>h.length<sizeLine/\∃w,w < m/\W (i+1) w (h++[y]) z f else ∃w,w < m/\W (i+1) w h z a)
def VY(K:QA)(xs:List Item)(st:Hp->Prop)(x:Tg)(tc:TT)(te:TE)(h:St)(H:Hp)(Q:VK):Prop:=∀J,Yields J xs st->oq J (oG K x) tc te h H Q
def isNop:PX->Bool
 | .nop=>true|_=>false
noncomputable def wp(K:QA)(Γ:Ev):PX->XK->W3
 | .zz i,E=>let e:TE:=λh H Q=>match h[i]? with
   |some (some v)=>Q v H|_=>False
  ⟨e,λh H Q=>e h H λx z=>MF K x z Q,never.a⟩
 | .int i,E=>⟨λ_ H Q=>Q (.int i) H,λ_ H Q=>Q (i != 0) H,never.a⟩|.str x,E=>⟨λ_ H Q=>Q (.str x) H,never.t,never.a⟩|.bl b,E=>⟨λ_ H Q=>Q (.bl b) H,λ_ H Q=>Q b H,never.a⟩|.non,E=>⟨λ_ H Q=>Q .non H,λ_ H Q=>Q false H,never.a⟩|.glo x,E=>⟨λ_ H Q=>Q (Γ.va x) H,λ_ H Q=>MF K (Γ.va x) H Q,never.a⟩|.bty _ n,E=>⟨λ_ H Q=>Q (.ty n) H,never.t,never.a⟩|.bin op a b,E=>let e:TE:=λh H Q=>(wp K Γ a E).e h H λx z=>(wp K Γ b E).e h z λy w=>Yd K op x y w Q
  ⟨e,λh H Q=>e h H λx z=>MF K x z Q,never.a⟩
 | .cmp op a b,E=>let e:TE:=λh H Q=>(wp K Γ a E).e h H λx z=>(wp K Γ b E).e h z λy w=>A7 K op x y w Q
  ⟨e,λh H Q=>e h H λx z=>n8 x z Q,never.a⟩
 | .and a b,E=>⟨λh H Q=>(wp K Γ a E).e h H λx z=>n8 x z λc w=>if c=true then(wp K Γ b E).e h w Q else Q (.bl false) w,
   λh H Q=>(wp K Γ a E).t h H λc z=>if c=true then(wp K Γ b E).t h z Q else Q false z,never.a⟩
 | .or a b,E=>⟨λh H Q=>(wp K Γ a E).e h H λx z=>n8 x z λc w=>if c=true then Q (.bl true) w else(wp K Γ b E).e h w Q,
   λh H Q=>(wp K Γ a E).t h H λc z=>if c=true then Q true z else(wp K Γ b E).t h z Q,never.a⟩
 | .not a,E=>⟨λh H Q=>(wp K Γ a E).e h H λx z=>MF K x z λc w=>Q (.bl (!c)) w,λh H Q=>(wp K Γ a E).t h H λc z=>Q (!c) z,never.a⟩|.call f as,E=>let e:TE:=λh H Q=>(wp K Γ as E).a h H λg z=>Γ.sp f g z Q E
  ⟨e,λh H Q=>e h H λx z=>MF K x z Q,never.a⟩
 | .bi f as,E=>let e:TE:=λh H Q=>(wp K Γ as E).a h H λg z=>Dq K f g z Q
  ⟨e,λh H Q=>e h H λx z=>MF K x z Q,never.a⟩
 | .isi a c,E=>let e:TE:=λh H Q=>(wp K Γ a E).e h H λx z=>(wp K Γ c E).e h z λy w=>Rh K [x,y] w Q
  ⟨e,λh H Q=>e h H λx z=>MF K x z Q,never.a⟩
 | .mt m o as,E=>let e:TE:=λh H Q=>(wp K Γ o E).e h H λx z=>L1 K m.ty x z/\(wp K Γ as E).a h z λg w=>jc K m x g w Q
  ⟨e,λh H Q=>e h H λx z=>MF K x z Q,never.a⟩
 | .idx a b,E=>let e:TE:=λh H Q=>(wp K Γ a E).e h H λx z=>(wp K Γ b E).e h z λy w=>bZ K x y w Q
  ⟨e,λh H Q=>e h H λx z=>MF K x z Q,never.a⟩
 | .slc a lo hi,E=>⟨λh H Q=>(wp K Γ a E).e h H λx z =>
   (if isNop lo=true then λ(R:Option Int->Hp->Prop)=>R none z else λR=>(wp K Γ lo E).e h z λl w=>GM l w R) λl w =>
   (if isNop hi=true then λ(R:Option Int->Hp->Prop)=>R none w else λR=>(wp K Γ hi E).e h w λu j=>GM u j R) λu j=>gu K x l u j Q,never.t,never.a⟩
 | .nop,E=>never|.lst as,E=>⟨λh H Q=>(wp K Γ as E).a h H λk z=>k.length<=sizeLine/\∀p,z p=none->Q (.ref p) (DA z p (.lst k)),never.t,never.a⟩|.tup as,E=>⟨λh H Q=>(wp K Γ as E).a h H λk z=>k.length<=sizeLine/\∀p,z p=none->Q (.ref p) (DA z p (.tup k)),never.t,never.a⟩|.comp mask tgs tg ik its cond elt,E=>⟨λh H Q=>(wp K Γ its E).a h H λg z=>cC K ik g z λk st w =>
   VY K k st tg (if isNop cond=true then λ_ H Q=>Q true H else(wp K Γ cond (λ_ _ _=>False)).t) (wp K Γ elt (λ_ _ _=>False)).e (fJ tgs.length mask h) w Q,never.t,never.a⟩
 | .dnew b,E=>⟨λ_ H Q=>∀p,H p=none->Q (.ref p) (DA H p (.dT 0 [])),never.t,never.a⟩|.dsp a b,E=>⟨λh H Q=>∀p,H p=none->(wp K Γ a E).e h (DA H p (.dT 0 [])) λy z=>(wp K Γ b E).e h z λv w=>w p=some (.dT 0 [])/\∃b q,y=.ref b/\pO K w b q/\∀r,Q (.ref p) (DA w p (.dT r [(q,b,v)])),never.t,never.a⟩|.ng i,E=>⟨λh H Q=>Q (.int (-i)) H,never.t,never.a⟩|.lrv a,E=>⟨λh H Q=>(wp K Γ a E).e h H λx z=>jV K x z Q,never.t,never.a⟩|.xz,E=>⟨never.e,never.t,λ_ H Q=>Q [] H⟩|.nz a as,E=>⟨never.e,never.t,λh H Q=>(wp K Γ a E).e h H λx z=>(wp K Γ as E).a h z λk w=>Q (x::k) w⟩
structure Glob where
 ev:Ev
 fn:Str->Prop
 val:Str->Prop
 no:Str->Prop
def Bi.nm:Bi->Str
 | .len=>"len"|.any=>"any"|.sorted=>"sorted"|.min=>"min"|.tuple=>"tuple"
noncomputable def Mt.nm:Mt->Str
 | .append=>"append"|.pop=>"pop"|.setd=>"setdefault"|.index=>"index"|.extend=>"extend"
noncomputable def jq(G:Glob):ItK->Prop
 | .val=>True|.rng1=>G.no "range"|.enum=>G.no "enumerate"|.rev=>G.no "reversed"|.itm=>True
noncomputable def IA(G:Glob):PX->Prop
 | .glo x=>G.val x|.bty x n=>G.no x/\bootBuiltins x=some (.type n)|.bin _ a b | .cmp _ a b | .and a b | .or a b | .idx a b | .nz a b | .dsp a b=>IA G a/\IA G b
 | .not a | .lst a | .tup a=>IA G a
 | .lrv a=>G.no "list"/\G.no "reversed"/\IA G a|.slc a b c=>IA G a/\IA G b/\IA G c|.call f y=>G.fn f/\IA G y|.bi f y=>G.no f.nm/\IA G y|.isi a c=>G.no "isinstance"/\IA G a/\IA G c|.mt _ o y=>IA G o/\IA G y|.comp _ _ _ v z h u=>jq G v/\IA G z/\IA G h/\IA G u|_=>True
structure SC where
 N:LS
 sc:Scope
def xC:Expr->Bool
 | .Starred _ _=>false|_=>true
noncomputable def gh(S:SC)(i:Nat)(x:Str):Bool :=
 S.N[i]?==some x&&(S.sc.names.lookup x==some .local||S.sc.names.lookup x==some .cell||S.sc.names.lookup x==some .free)&&x != "__debug__" && x != "__classdict__"
def Bj(S:SC)(i:Nat)(x:Str):Bool:=S.N[i]?==some x&&S.sc.names.lookup x==some .local
noncomputable def oT(S:SC)(x:Str):Bool:=S.sc.names.lookup x==some .globalImplicit&&x != "__debug__" && x != "__name__"
def rY(S:SC)(h:Scope)(y:LS)(x:List Bool):SC:=⟨y++ZB x 0 S.N,rM h S.sc⟩
def yK:LS->Bool
 |[]=>true|x::r=>!r.contains x&&yK r
noncomputable def S7(S:SC)(h:Scope)(z:LS)(x:List Bool):Bool :=
 h.kind==.function&&h.names.all (λy=>y.2 != .cell&&(y.2 != .local||(h.names.lookup y.1==some .local&&(z.contains y.1||y.1==(".0":Str)))) &&
  (y.2 != .free||S.sc.names.lookup y.1==some .cell||S.sc.names.lookup y.1==some .free))&&yK (z++ZB x 0 S.N)&&!(z++ZB x 0 S.N).contains (".0":Str)
noncomputable def am(c:Bool)(S:SC)(i:Nat)(x:Str):Bool:=S.N[i]?==some x&&(S.sc.names.lookup x==some .local||(c&&S.sc.names.lookup x==some .cell))
noncomputable def bt(c:Bool)(S:SC):Tg->Expr->Bool
 | .nm i,.Name x _=>am c S i x|.tp is,.Tuple es _ _=>is.length==es.length&&(is.zip es).all λp=>match p.2 with
  | .Name x _=>am c S p.1 x|_=>false
 |_,_=>false
def eQ:Expr->Bool
 | .Call (.Name _ _) [] [] _=>false|_=>true
def ZS:Expr->Bool
 | .Set _ _ _=>false|_=>true
def iQ:Expr->Bool
 | .Slice _ _ _ _=>false|_=>true
def gF:PX->Bool
 | .xz=>true|.nz _ r=>gF r|_=>false
def MV:Expr->Bool
 | .Tuple _ _ _=>true|_=>false
section
variable{α:Type}
section
variable{e:Expr}{l:List α}
def PH(e:Expr)(f:Str->Pos->Bool):Bool:=match e with | .Name x p=>f x p|_=>false
def AG(e:Expr)(f:Const->Bool):Bool:=match e with | .Constant c _ _=>f c|_=>false
noncomputable def De(e:Expr)(f:Expr->Operator->Expr->Pos->Bool):Bool:=match e with | .BinOp l o r p=>f l o r p|_=>false
def Li(e:Expr)(f:UnaryOp->Expr->Bool):Bool:=match e with | .UnaryOp o x _=>f o x|_=>false
noncomputable def Ce(e:Expr)(f:Expr->List CmpOp->List Expr->Bool):Bool:=match e with | .Compare l x h _=>f l x h|_=>false
def mV(e:Expr)(f:BoolOp->List Expr->Pos->Bool):Bool:=match e with | .BoolOp o h p=>f o h p|_=>false
noncomputable def lV(e:Expr)(f:Expr->List Expr->List Keyword->Pos->Bool):Bool:=match e with | .Call g x h p=>f g x h p|_=>false
def D5(e:Expr)(f:Expr->Str->Pos->Bool):Bool:=match e with | .Attribute v n p=>f v n p|_=>false
def iX(e:Expr)(f:Expr->Expr->Pos->Bool):Bool:=match e with | .Subscript v i p=>f v i p|_=>false
noncomputable def JX(e:Expr)(f:Option Expr->Option Expr->Option Expr->Bool):Bool:=match e with | .Slice l h s _=>f l h s|_=>false
def nQ(e:Expr)(f:List Expr->Pos->Bool):Bool:=match e with | .List h p=>f h p|_=>false
def Ve(e:Expr)(f:List Expr->Nat->Pos->Bool):Bool:=match e with | .Tuple h k p=>f h k p|_=>false
noncomputable def Mi(e:Expr)(f:Expr->List Comprehension->Scope->Pos->Bool):Bool:=match e with | .ListComp x h sc p=>f x h sc p|_=>false
def hV(e:Expr)(f:List (Option Expr)->List Expr->Bool):Bool:=match e with | .Dict x h _=>f x h|_=>false
def RM(l:List α)(f:α->Bool):Bool:=match l with | [x]=>f x|_=>false
def Cw(l:List α)(f:α->α->Bool):Bool:=match l with | [x,y]=>f x y|_=>false
def cb(l:List α)(f:α->List α->Bool):Bool:=match l with|x::r=>f x r|_=>false
def Oo(o:Option α)(n:Bool)(f:α->Bool):Bool:=match o with|none=>n|some x=>f x
theorem eE{f:Str->Pos->Bool}(h:PH e f=true):∃x p,e=.Name x p/\f x p=true:=by
 cases e with|Name x p=>exact⟨x,p,rfl,h⟩|_=>exact(QG h).elim
theorem iE{f:Const->Bool}(h:AG e f=true):∃c k p,e=.Constant c k p/\f c=true:=by
 cases e with|Constant c k p=>exact⟨c,k,p,rfl,h⟩|_=>exact(QG h).elim
theorem db{f:Expr->Operator->Expr->Pos->Bool}(h:De e f=true):∃l o r p,e=.BinOp l o r p/\f l o r p=true:=by
 cases e with|BinOp l o r p=>exact⟨l,o,r,p,rfl,h⟩|_=>exact(QG h).elim
theorem U5{f:UnaryOp->Expr->Bool}(h:Li e f=true):∃o x p,e=.UnaryOp o x p/\f o x=true:=by
 cases e with|UnaryOp o x p=>exact⟨o,x,p,rfl,h⟩|_=>exact(QG h).elim
theorem ub{f:Expr->List CmpOp->List Expr->Bool}(h:Ce e f=true):∃l y x p,e=.Compare l y x p/\f l y x=true:=by
 cases e with|Compare l y x p=>exact⟨l,y,x,p,rfl,h⟩|_=>exact(QG h).elim
theorem eS{f:BoolOp->List Expr->Pos->Bool}(h:mV e f=true):∃o es p,e=.BoolOp o es p/\f o es p=true:=by
 cases e with|BoolOp o es p=>exact⟨o,es,p,rfl,h⟩|_=>exact(QG h).elim
theorem aS{f:Expr->List Expr->List Keyword->Pos->Bool}(h:lV e f=true):∃g es ks p,e=.Call g es ks p/\f g es ks p=true:=by
 cases e with|Call g es ks p=>exact⟨g,es,ks,p,rfl,h⟩|_=>exact(QG h).elim
theorem C5{f:Expr->Str->Pos->Bool}(h:D5 e f=true):∃v n p,e=.Attribute v n p/\f v n p=true:=by
 cases e with|Attribute v n p=>exact⟨v,n,p,rfl,h⟩|_=>exact(QG h).elim
theorem mQ{f:Expr->Expr->Pos->Bool}(h:iX e f=true):∃v i p,e=.Subscript v i p/\f v i p=true:=by
 cases e with|Subscript v i p=>exact⟨v,i,p,rfl,h⟩|_=>exact(QG h).elim
theorem pZ{f:Option Expr->Option Expr->Option Expr->Bool}(h:JX e f=true):∃l u s p,e=.Slice l u s p/\f l u s=true:=by
 cases e with|Slice l u s p=>exact⟨l,u,s,p,rfl,h⟩|_=>exact(QG h).elim
theorem PM{f:List Expr->Pos->Bool}(h:nQ e f=true):∃es p,e=.List es p/\f es p=true:=by
 cases e with|List es p=>exact⟨es,p,rfl,h⟩|_=>exact(QG h).elim
theorem jb{f:List Expr->Nat->Pos->Bool}(h:Ve e f=true):∃es k p,e=.Tuple es k p/\f es k p=true:=by
 cases e with|Tuple es k p=>exact⟨es,k,p,rfl,h⟩|_=>exact(QG h).elim
theorem fV{f:Expr->List Comprehension->Scope->Pos->Bool}(h:Mi e f=true):∃x y sc p,e=.ListComp x y sc p/\f x y sc p=true:=by
 cases e with|ListComp x y sc p=>exact⟨x,y,sc,p,rfl,h⟩|_=>exact(QG h).elim
theorem tS{f:List (Option Expr)->List Expr->Bool}(h:hV e f=true):∃ks vs p,e=.Dict ks vs p/\f ks vs=true:=by
 cases e with|Dict ks vs p=>exact⟨ks,vs,p,rfl,h⟩|_=>exact(QG h).elim
theorem zL{f:α->List α->Bool}(h:cb l f=true):∃x r,l=x::r/\f x r=true:=by
 cases l with|nil=>exact(QG h).elim|cons x r=>exact⟨x,r,rfl,h⟩
theorem YB{f:α->Bool}(h:RM l f=true):∃x,l=[x]/\f x=true:=by
 cases l with
 |nil=>exact(QG h).elim|cons x r =>
  cases r with|nil=>exact⟨x,rfl,h⟩|cons _ _=>exact(QG h).elim
theorem Po{f:α->α->Bool}(h:Cw l f=true):∃x y,l=[x,y]/\f x y=true:=by
 cases l with
 |nil=>exact(QG h).elim|cons x r =>
  obtain⟨y,e,h⟩:=YB (l:=r) (f:=f x) (by
   cases r with|nil=>exact h|cons y r=>cases r<;>exact h)
  exact⟨x,y,by rw[e],h⟩
end
end
section
variable{c:Const}{n:Str}{e:Expr}
def Ek(c:Const)(f:Int->Bool):Bool:=match c with | .int i=>f i|_=>false
def Uq(c:Const)(f:Str->Bool):Bool:=match c with | .str i=>f i|_=>false
def Ff(c:Const)(f:Bool->Bool):Bool:=match c with | .bool i=>f i|_=>false
def Df(c:Const):Bool:=match c with | .none=>true|_=>false
theorem c8{f:Int->Bool}(h:Ek c f=true):∃i,c=.int i/\f i=true:=by
 cases c with|int i=>exact⟨i,rfl,h⟩|_=>exact(QG h).elim
theorem Ak{f:Str->Bool}(h:Uq c f=true):∃i,c=.str i/\f i=true:=by
 cases c with|str i=>exact⟨i,rfl,h⟩|_=>exact(QG h).elim
theorem td{f:Bool->Bool}(h:Ff c f=true):∃i,c=.bool i/\f i=true:=by
 cases c with|bool i=>exact⟨i,rfl,h⟩|_=>exact(QG h).elim
theorem sd(h:Df c=true):c=.none:=by
 cases c with|none=>rfl|_=>exact(QG h).elim
theorem yA{a b:Bool}(h:(a&&b)=true):a=true/\b=true:=by cases a<;>cases b<;>first|exact⟨rfl,rfl⟩| exact(QG h).elim
noncomputable def oJ(S:SC)(n:Str)(e:Expr)(f:List Expr->List Keyword->Pos->Bool):Bool:=lV e λg y h p=>PH g λx _=>n==x&&(oT S x&&f y h p)
theorem OD{S:SC}{f:List Expr->List Keyword->Pos->Bool}(h:oJ S n e f=true):∃y es ks p,e=.Call (.Name n y) es ks p/\oT S n=true/\f es ks p=true:=by obtain⟨g,es,ks,p,rfl,w⟩:=aS h;obtain⟨x,y,rfl,v⟩:=eE w;have u:=yA v;have z:=yA u.2;have e:=qd u.1;exact⟨y,es,ks,p,by rw[e],by rw[e];exact z.1,z.2⟩
noncomputable def Z6(n:Str)(e:Expr)(f:Expr->List Expr->Pos->Pos->Bool):Bool:=lV e λg z y p=>D5 g λv x h=>n==x&&(y.isEmpty&&(h.endLine==p.line&&f v z h p))
theorem GX{f:Expr->List Expr->Pos->Pos->Bool}(h:Z6 n e f=true):∃v y es p,e=.Call (.Attribute v n y) es [] p/\(y.endLine==p.line)=true/\f v es y p=true:=by obtain⟨g,es,i,p,rfl,a⟩:=aS h;obtain⟨v,x,y,rfl,k⟩:=C5 a;have w:=yA k;have u:=yA w.2;have z:=yA u.2;have e:=qd w.1;have b:=Qr.mp u.1;exact⟨v,y,es,p,by rw[e,b],z.1,z.2⟩
def Se(x:BoolOp)(r:Expr)(h:List Expr)(pos:Pos):Expr:=match h with
 |[]=>r|q::t=>.BoolOp x (r::q::t) pos
noncomputable def Rr(y:Bool)(S:SC)(z:ItK)(c:List Expr->Pos->Bool)(t it:Expr)(pos:Pos):Bool:=match z with
 | .val=>y&&c [it] pos|.rng1=>oJ S "range" it λh x p=>x.isEmpty&&RM h λa=>c [a] p|.enum=>MV t&&oJ S "enumerate" it λh x p=>x.isEmpty&&RM h λa=>c [a] p|.rev=>oJ S "reversed" it λh x p=>x.isEmpty&&RM h λa=>c [a] p|.itm=>MV t&&(y&&Z6 "items" it λv h _ p=>eQ v&&(h.isEmpty&&c [v] p))
def Gu(h:List Expr)(n:Bool)(f:Expr->Bool):Bool:=match h with
 |[]=>n|c::r=>r.isEmpty&&(!n&&f c)
def isItm:ItK->Bool
 | .itm=>true|_=>false
noncomputable def AB:PX->SC->Expr->Bool
 | .zz i,S,e=>PH e λx _=>gh S i x|.int i,_,e=>AG e λc=>Ek c λj=>i==j|.str x,_,e=>AG e λc=>Uq c λy=>x==y|.bl b,_,e=>AG e λc=>Ff c λk=>b==k|.non,_,e=>AG e Df|.glo x,S,e=>PH e λy _=>x==y&&oT S x|.bty x _,S,e=>PH e λy _=>x==y&&oT S x|.bin op a b,S,e=>De e λl o r _=>op==o&&(AB a S l&&AB b S r)|.cmp op a b,S,e=>Ce e λl Z Y=>RM Z λo=>RM Y λr=>op==o&&(ZS r&&(AB a S l&&AB b S r))|.and a b,S,e=>mV e λo z p=>o==.And&&cb z λl t=>cb t λr t=>AB a S l&&AB b S (Se .And r t p)|.or a b,S,e=>mV e λo z p=>o==.Or&&cb z λl t=>cb t λr t=>AB a S l&&AB b S (Se .Or r t p)|.not a,S,e=>Li e λo x=>o==.Not&&AB a S x|.call f as,S,e=>oJ S f e λz w p=>w.isEmpty&&AB as S (.List z p)|.bi f as,S,e=>oJ S f.nm e λz w p=>w.isEmpty&&cb z λx t=>AB as S (.List (x::t) p)|.isi a c,S,e=>oJ S "isinstance" e λz w _=>w.isEmpty&&Cw z λl r=>xC l&&(xC r&&(AB a S l&&AB c S r))|.mt m o as,S,e=>Z6 m.nm e λv z _ p=>gF as&&(eQ v&&(decide (z.length<20)&&(AB o S v&&AB as S (.List z p))))|.idx a b,S,e=>iX e λv i _=>iQ i&&(AB a S v&&AB b S i)|.slc a lo hi,S,e=>iX e λv X _=>JX X λl h s=>s.isNone&&(AB a S v&&(Oo l (isNop lo) (λe=>!isNop lo&&AB lo S e)&&Oo h (isNop hi) λe=>!isNop hi&&AB hi S e))|.nop,_,_=>false|.lst as,S,e=>nQ e λz p=>AB as S (.List z p)|.tup as,S,e=>Ve e λz _ p=>AB as S (.List z p)|.comp mask tgs tg ik its cond elt,S,e=>Mi e λK W u p=>RM W λg=>g.is_async==0&&(!isItm ik&&(S7 S u tgs mask&&(bt false (rY S u tgs mask) tg g.target&&(ZS g.iter &&
   (Rr (gF its) S ik (λz p=>AB its S (.List z p)) g.target g.iter p&&(Gu g.ifs (isNop cond) (λc=>AB cond (rY S u tgs mask) c)&&AB elt (rY S u tgs mask) K))))))
 | .dnew _,_,e=>hV e λw q=>w.isEmpty&&q.isEmpty|.dsp a b,S,e=>hV e λw q=>RM w λk=>RM q λv=>Oo k false (AB a S)&&AB b S v|.ng i,_,e=>Li e λo x=>o==.USub&&AG x λc=>Ek c λj=>i==j|.lrv a,S,e=>oJ S "list" e λz w _=>w.isEmpty&&RM z λx=>oJ S "reversed" x λz w _=>w.isEmpty&&RM z λy=>xC y&&AB a S y|.xz,_,e=>nQ e λz _=>z.isEmpty|.nz a as,S,e=>nQ e λz p=>cb z λx t=>xC x&&(AB a S x&&AB as S (.List t p))
end
variable{Γ:Ev}
theorem Bl(x:V)(H:Hp)(Q:Bool->Hp->Prop):n8 x H Q=∃k,x=.bl k/\Q k H:=by
 apply propext;cases x with|bl b=>exact⟨λh=>⟨b,rfl,h⟩,λ⟨k,e,h⟩=>by cases e;exact h⟩|_=>exact⟨λh=>Qc h,λ⟨k,e,h⟩=>by cases e⟩
theorem J5(x:V)(H:Hp)(Q:Option Int->Hp->Prop):GM x H Q=∃i,x=.int i/\Q (some i) H:=by
 apply propext;cases x with|int b=>exact⟨λh=>⟨b,rfl,h⟩,λ⟨k,e,h⟩=>by cases e;exact h⟩|_=>exact⟨λh=>Qc h,λ⟨k,e,h⟩=>by cases e⟩
theorem IW(K:QA)(x:V)(H:Hp)(Q:Bool->Hp->Prop):MF K x H Q=∃k,Ml K x H k/\Q k H:=by
 apply propext;cases x with|bl b=>exact⟨λh=>⟨b,rfl,h⟩,λ⟨k,(e:k=b),h⟩=>by subst e;exact h⟩|int i=>exact⟨λh=>⟨i != 0,rfl,h⟩,λ⟨k,(e:k=(i != 0)),h⟩=>by subst e;exact h⟩|non=>exact⟨λh=>⟨false,rfl,h⟩,λ⟨k,(e:k=false),h⟩=>by subst e;exact h⟩|str z=>exact⟨λh=>⟨_,⟨h.1,rfl⟩,h.2⟩,λ⟨k,⟨u,y⟩,h⟩=>by subst y;exact⟨u,h⟩⟩|_=>exact WO
section
variable{X:Cx}
section
variable{e b:Expr}{es:List Expr}{env:Env}{its:LW}
theorem n5:PE X e never.e:=λ_ _ _ _ _ _ h=>Qc h
theorem eM:PT X e never.t:=λ_ _ _ _ _ _ h=>Qc h
theorem rS:PA X es never.a:=λ_ _ _ _ _ _ _ h=>Qc h
theorem dD{a:Expr}{ta:TE}(i:PE X a ta)(g:∀y,isTrue a X.env y=(do let v <- y;standAt a.pos;holding [v] (truthy v))) :
  PT X a (λσ H Q=>ta σ H λx l=>MF X.K x l Q):=by
 intro z s σ H Q I h;refine isTrue_plain (HB (i z s σ H _ I h) λv k ⟨x,w,j,f,u⟩=>?_) (g _);have u:MF X.K x w Q:=u;rw[IW]at u;exact J3 z k σ w x v Q j f u
theorem V5{f:Value->Value->Sem Value}:RE X f (λ_ _ _ _=>False):=λ_ _ _ _ _ _ _ _ _ _ _ _ h=>h.elim
theorem Gi(h:Operator):RE X (binaryOp h) (Yd X.K h):=by
 cases h with|Add=>exact op_add|Sub=>exact op_sub|Mult=>exact Di|FloorDiv=>exact Ea|Mod=>exact op_mod|_=>exact V5
theorem uT(neg:Bool){h:OB}{s:Shared}{σ:St}{H:Hp}{b c:Bool}{Q:VK}(I:Inv X h σ H s)(q:Q (.bl (if neg then !decide (b=c) else decide (b=c))) H):wpAny (model X.prog X.w) X.A (compareOp (if neg then .IsNot else .Is) (.bool b) (.bool c)) (EP X h σ Q) X.xe s:=by
 have e:compareOp (if neg then .IsNot else .Is) (.bool b) (.bool c)=pure (.bool (if neg then !decide (b=c) else decide (b=c))):=by cases neg<;>cases b<;>cases c<;>rfl
 rw[e];exact QK ⟨.bl _,H,I,rfl,q⟩
theorem X5(g:X.A.units+66<cLine)(f:CmpOp):RE X (compareOp f) (A7 X.K f):=by
 cases f with
 |Eq=>exact op_eq (by omega)|NotEq=>exact op_ne (by omega)|Lt=>exact fQ _root_.L2.op_lt|LtE=>exact fQ _root_.L2.op_le|Gt=>exact fQ _root_.L2.op_gt|GtE=>exact fQ _root_.L2.op_ge|In=>exact Lo g|NotIn=>exact K5 g|Is =>
  intro z s a H x y v u Q I k w h;cases y with|non=>exact Fi z s a H x _ v u Q I k w ⟨rfl,h⟩|bl c=>obtain⟨b,rfl,q⟩:=h;cases k;cases w;cases b<;>cases c<;>exact uT false I q|_=>exact Qc h
 |IsNot =>
  intro z s a H x y v u Q I k w h;cases y with|non=>exact Aa z s a H x _ v u Q I k w ⟨rfl,h⟩|bl c=>obtain⟨b,rfl,q⟩:=h;cases k;cases w;cases b<;>cases c<;>exact uT true I q|_=>exact Qc h
theorem Ej(Z:X.A.units+66<cLine):L8 X (bZ X.K):=by
 intro w k f s n H x y v u Q I r p h Y;have sq:=λh=>Aj (X:=X) w k f s n H x y v u Q I r p h Y;have dc:=λh=>cc Z w k f s n H x y v u Q I r p h Y;cases x with
 |str z =>
  cases y with|int i=>obtain⟨W,c,m,q⟩:=h;exact sq (.inr (.inr ⟨z,i,c,rfl,rfl,W,m,q⟩))|_=>exact Qc h
 |ref a =>
  cases y with
  |int i=>obtain⟨o,j,l,m,q⟩:=h;rcases l with l|l;exact sq (.inl ⟨a,o,i,j,rfl,rfl,l,m,q⟩);exact sq (.inr (.inl ⟨a,o,i,j,rfl,rfl,l,m,q⟩))
  |str z=>obtain⟨j,g,q⟩:=h;exact dc ⟨a,j,rfl,g,q⟩|ref b=>obtain⟨j,g,q⟩:=h;exact dc ⟨a,j,rfl,g,q⟩|_=>exact Qc h
 |_=>exact Qc h
theorem u6{x:CmpOp}(h:ZS b=true):behindInMarks x b=false:=by cases b<;>first|rfl|cases h
theorem Xa(h:iQ b=true):YY b:=by intro o i;cases b<;>first|rfl|cases h
theorem HA(env:Env)(h:xC e=true):starEach (e::es) env=(false,eval e env)::starEach es env:=by cases e<;>first|rfl|cases h
theorem rV(h:ZS e=true)(x:Value):foldedSetIterable e env x=pure x:=by cases e<;>first|rfl|cases h
theorem x6{o:Expr}{n:Str}(h:eQ o=true):attributeBase o n env (eval o env)=eval o env:=by unfold attributeBase;split;cases h;rfl
theorem Eb:D8 X "list.pop" fe:=by intro z s f H x u v g Q I j m h;obtain⟨l,i,u,k,y,rfl,rfl,a,hk,n,q⟩:=h;obtain⟨o,Y,r,p⟩:=NQ hk;have hl:u.length<=sizeLine:=(show BA X.prog X.w H s.heap l (.lst u) from I.hok l _ a).1;rw[Q2]at hl;exact J6 z s f H _ _ v g Q I j m ⟨l,u,i,k,y,rfl,rfl,a,by omega,by omega,o,n,q⟩
theorem NR{x:LS}(h:lA (x.map V.str) its):StrsAre its x:=by
 induction x generalizing its with
 |nil=>cases h;exact .nil|cons y x z =>
  cases h with|cons h t=>obtain⟨k,rfl⟩:=h;exact .cons _ _ (z t)
theorem DY{x:LS}(h:StrsAre its x):lA (x.map V.str) its:=by
 induction h with|nil=>exact .nil|cons y t _ z=>exact .cons ⟨t,rfl⟩ z
theorem fZ{out:LW}(g:its.Perm out):∀{xs:LV},lA xs its->∃z,z.Perm xs/\lA z out:=by
 induction g with
 |nil=>intro xs r;cases r;exact⟨[],QBL _,.nil⟩|cons x _ k =>
  intro xs r;cases r with|cons h t=>obtain⟨z,p,v⟩:=k t;exact⟨_::z,p.cons _,.cons h v⟩
 |swap x y l =>
  intro xs r;cases r with
  |cons h t=>cases t with|cons i t=>exact⟨_::_::_,QCS.swap _ _ _,.cons i (.cons h t)⟩
 |trans _ _ f a=>intro xs r;obtain⟨z,p,v⟩:=f r;obtain⟨w,q,u⟩:=a v;exact⟨w,q.trans p,u⟩
theorem A2{xs:LV}{v:Value}(r:lA xs its)(h:v∈its):∃x∈xs,rA x v:=by
 induction r with
 |nil=>exact nomatch h
 |cons r t z=>rcases QL.mp h with e|h;subst e;exact⟨_,QF,r⟩;obtain⟨x,u,y⟩:=z h;exact⟨x,QD _ u,y⟩
theorem o0{vs:LW}{ns:LJ}(h:IntsAre vs ns):lA (ns.map V.int) vs:=by
 induction h with|nil=>exact .nil|cons n t _ x=>exact .cons ⟨t,rfl⟩ x
theorem vU(hu:X.A.units+66<cLine):CC X (.builtin "sorted") (hX X.K):=by
 intro pins s σ H xs us Q I r h;obtain⟨p,rfl,h⟩:=h;rcases h with⟨ss,W,E,q⟩| ⟨xs,W,E,hx,q⟩| ⟨ns,W,E,q⟩
 skip;obtain⟨u,rfl,m⟩:=FK r;cases m;obtain⟨its,g,Y,hz⟩:=I.list W;have hl:=g.length;rw[QE]at hl;refine sorted_strs Y.isList (by simpa using NR g) (by omega) λout l J F a3=>?_;obtain⟨e,B⟩:=QB8 s.heap its out;have hlen:=(HP J).1;have hp:=F.length_eq;refine⟨.ref (s.heap.objs.size+1),_,I.laid (t':=s.toks) (λb o z=>QBl z) (wH _) (show BA X.prog X.w _ _ _ (.lst (l.map V.str)) from⟨by rw[QE,Q2];omega,out.toList,e,DY J,by simpa using B⟩),rfl,q _ l (I.hok.fresh (wH _)) F a3⟩;skip;obtain⟨u,rfl,m⟩:=FK r;cases m;obtain⟨its,g,Y,hz⟩:=I.list W;have hl:=g.length;have f:∀v∈its,∃b dd M n k,∃j:LS,v=.ref b/\s.heap.get? b=some { cls:=.type "list",dict:=dd,data:=.seq k n,slots:=M }/\StrsAre k.toList j:=λv hv=>by obtain⟨x,S,N⟩:=A2 g hv;obtain⟨a,j,rfl,sq⟩:=hx x S;cases N;obtain⟨i,O,⟨o,n,e,c,d,z⟩,_⟩:=I.list sq;obtain⟨oc,od,R,P⟩:=o;cases c;exact⟨a,od,P,n,i.toArray,j,rfl,by rw[e,show R=Data.seq i.toArray n from z],by simpa using NR O⟩
 refine X9 Y.isList (by omega) (λv hv=>?_) (λh3 kp x hx y hy C hC=>?_) λout hp=>?_;obtain⟨b,dd,M,n,k,j,rfl,e,_⟩:=f v hv;exact⟨b,_,rfl,e,rfl⟩;obtain⟨b,dd,M,n,k,j,rfl,e,st⟩:=f x hx;obtain⟨b2,dd2,sl2,n2,G,ts2,rfl,e2,L⟩:=f y hy;exact bV (s:={ s with heap:=h3 }) (show X.A.units+1+1<cLine by omega) (kp _ _ e) (kp _ _ e2) st L (hC _);obtain⟨e,B⟩:=QB8 s.heap its out.toArray;obtain⟨ys,py,vy⟩:=fZ hp.symm g;have hp2:=py.length_eq;refine⟨.ref (s.heap.objs.size+1),_,I.laid (t':=s.toks) (λb o z=>QBl z) (wH _) (show BA X.prog X.w _ _ _ (.lst ys) from⟨by rw[Q2];omega,out,e,vy,B⟩),rfl,q _ ys (I.hok.fresh (wH _)) py⟩;obtain⟨u,rfl,m⟩:=FK r;cases m;obtain⟨its,g,Y,hz⟩:=I.list W;have hl:=g.length;rw[QE]at hl;refine sorted_ints Y.isList (PV g) (by omega) λout Z J F a3=>?_;obtain⟨e,B⟩:=QB8 s.heap its out;have hp:=F.length_eq;refine⟨.ref (s.heap.objs.size+1),_,I.laid (t':=s.toks) (λb o z=>QBl z) (wH _) (show BA X.prog X.w _ _ _ (.lst (Z.map V.int)) from⟨by rw[QE,Q2];omega,out.toList,e,o0 J,by simpa using B⟩),rfl,q _ Z (I.hok.fresh (wH _)) F a3⟩
theorem R0:CC X (.type "tuple") (L4 X.K):=by intro x s y H k u Q I r h;obtain⟨p,z,rfl,w,v⟩:=h;exact nO x s y H _ u Q I r ⟨p,z,rfl,.inl ⟨w,v⟩⟩
theorem Zj:D8 X "str.index" M4:=by intro k s l H x m v n Q I a g h;obtain⟨z,y,i,w,rfl,rfl,j,q⟩:=h;obtain⟨t,rfl⟩:=a;obtain⟨u,rfl,f⟩:=FK g;obtain⟨o,rfl⟩:=f;exact PySem.SC.index j ⟨.int _,H,I.tok _,⟨_,rfl⟩,q⟩
theorem Ib:D8 X "list.extend" oe:=by intro y s u H x z v k Q I a f h;obtain⟨l,b,z,w,rfl,rfl,h⟩:=h;exact GZ y s u H _ _ v k Q I a f ⟨l,b,z,w,rfl,rfl,h⟩
theorem Bq(h:X.A.units+66<cLine)(hc:X.calm=true)(f:Bi):(∃id,bootBuiltins f.nm=some (.builtin id)/\CC X (.builtin id) (Dq X.K f))∨∃T,bootBuiltins f.nm=some (.type T)/\CC X (.type T) (Dq X.K f):=by
 cases f with|len=>exact .inl ⟨_,PySem.boot_len,y8⟩|any=>exact .inl ⟨_,PyProof.Rows.boot_any,k8 hc⟩|min=>exact .inl ⟨_,PyProof.Rows.boot_min,T0 hc⟩|sorted=>exact .inl ⟨_,PyProof.Rows.boot_sorted,vU h⟩|tuple=>exact .inr ⟨_,by kernel_rfl,R0⟩
end
end
end L2.L3
namespace L2.L3
open PySem PySem.Spec PyProof.Rows
section
variable{S:SC}{i:Nat}{x:Str}
structure OkX(X:Cx)(S:SC)(G:Glob)(E:XK):Prop where
 N:X.N=S.N
 sc:X.env.scope=S.sc
 calm:X.calm=true
 un:X.A.units+66<cLine
 fn:∀f,G.fn f->∃(CX:T8) (k:Nat) (a:Addr) (fd:FuncData) (ps:LS),FnOk X.prog X.w X.K X.mg X.base CX k a fd ps (G.ev.sp f)/\Room k X.A/\X.mg f=some (.ref a)/\wN X.K (.ref a)=true/\XJ X.K fd ps [] /\
  BN CX X E/\∀l H s e s',CX l H s (λ_ _ _=>False) e s'->False
 val:∀x,G.val x->∃u,X.mg x=some u/\rA (G.ev.va x) u
 no:∀x,G.no x->X.mg x=none
noncomputable def JR(X:Cx)(Γ:Ev)(E:XK):PX->List Expr->Prop
 | .nz a as,e::es=>PE X e (wp X.K Γ a E).e/\JR X Γ E as es|_,_=>True
structure Snd(X:Cx)(Γ:Ev)(E:XK)(p:PX)(e:Expr):Prop where
 pe:PE X e (wp X.K Γ p E).e
 pt:PT X e (wp X.K Γ p E).t
 pw:∀op es pos,e=.BoolOp op es pos->PW X e (wp X.K Γ p E).t
 pa:∀es pos,e=.List es pos->PA X es (wp X.K Γ p E).a
 pas:∀es pos,e=.List es pos->JR X Γ E p es
theorem p9(h:gh S i x=true):S.N[i]?=some x/\Nq S.sc x/\(x==("__debug__":Str))=false/\(x==("__classdict__":Str))=false:=by simp only[gh,QW,wX,beq_iff_eq,bne_iff_ne,ne_eq]at h;obtain⟨⟨⟨v,y⟩,u⟩,z⟩:=h;refine⟨v,?_,by simpa using u,by simpa using z⟩;rcases y with(y|y)|y;exact .inl y;exact .inr (.inl y);exact .inr (.inr y)
theorem kc(h:Bj S i x=true):S.N[i]?=some x/\S.sc.names.lookup x=some .local:=by simp only[Bj,QW,beq_iff_eq]at h;exact h
theorem MD(h:oT S x=true):S.sc.names.lookup x=some .globalImplicit/\(x==("__debug__":Str))=false/\x≠"__name__":=by simp only[oT,QW,beq_iff_eq,bne_iff_ne,ne_eq]at h;exact⟨h.1.1,by simpa using h.1.2,h.2⟩
theorem YE:∀{l:LS},yK l=true->l.Nodup
 |[],_=>Q0|x::r,h=>by simp only[yK,QW,Q5]at h;exact Qh.mpr ⟨by simpa using h.1,YE h.2⟩
theorem CT{z:Scope}{w:LS}{u:List Bool}(h:S7 S z w u=true):CompSt S.N S.sc z w u:=by simp only[S7,QW,Q4,beq_iff_eq,Q5]at h;obtain⟨⟨⟨f,k⟩,b⟩,a⟩:=h;refine⟨f,λy v e=>?_,λy v e=>?_,λy v e=>?_,λy v e=>?_,YE b,by simpa using a⟩;have:=(k y v).1.1;rw[e]at this;exact absurd this (by decide);have:=(k y v).1.2;rw[e]at this;simp at this;exact this.1;have:=(k y v).2;rw[e]at this;simp at this;exact this;have:=(k y v).1.2;rw[e]at this;simp at this;exact this.2
theorem OkX.comp{X:Cx}{G:Glob}{E:XK}(ok:OkX X S G E)(y:Scope)(v:LS)(u:List Bool)(s:Shared)(H:Hp)(ex:List Addr):OkX (NA X y v u s H ex) (rY S y v u) G (λ_ _ _=>False) where
 N:=by show v++ZB u 0 X.N=v++ZB u 0 S.N;rw[ok.N]
 sc:=by show rM y X.env.scope=rM y S.sc;rw[ok.sc]
 calm:=ok.calm
 un:=ok.un
 fn:=λf h=>by obtain⟨o,k,a,n,b,m,l,j,g,e,p,w⟩:=ok.fn f h;exact⟨o,k,a,n,b,m,l,j,g,e,λ_ _ _ _ _ _ _ z=>(w _ _ _ _ _ z).elim,w⟩
 val:=ok.val
 no:=ok.no
end
section
variable{X:Cx}
theorem L6{c:Bool}{S:SC}{i:Nat}{x:Str}(k:X.N=S.N)(y:X.env.scope=S.sc)(u:c=true->∀x,X.fn x=true)(h:am c S i x=true):X.N[i]?=some x/\Bm X.env.scope x/\(X.fn x=true∨X.env.scope.names.lookup x=some .local):=by
 simp only[am,QW,wX,beq_iff_eq]at h;rw[k,y];rcases h.2 with z|⟨w,v⟩
 exact⟨h.1,.inl z,.inr z⟩;exact⟨h.1,.inr v,.inl (u w x)⟩
theorem CO{c:Bool}{S:SC}(a:c=true->∀x,X.fn x=true)(j:X.N=S.N)(k:X.env.scope=S.sc)(nd:X.N.Nodup):∀(w:LN) (es:List Expr),w.length=es.length->((w.zip es).all λp=>match p.2 with | .Name x _=>am c S p.1 x|_=>false)=true ->
  zx X es (λvs σ H Q=>∃y,xB w vs σ=some y/\Q y H)
 |[],[],_,_=>by
  intro z s σ H vs n Q I r h;obtain⟨y,e,q⟩:=h;cases vs with|nil=>cases r;simp only[xB]at e;cases e;exact assignInOrder_nil ⟨σ,H,I,q⟩|cons _ _=>simp[xB]at e
 |[],_::_,h,_=>by cases h|_::_,[],h,_=>by cases h|i::w,e::es,hl,hz=>by
  simp only[QAF,qb,QW]at hz;obtain⟨l,W⟩:=hz;cases e with
  |Name x pos =>
   obtain⟨g,f,b⟩:=L6 j k a l;have Z:=CO a j k nd w es (by simpa using hl) W;intro z s σ H vs n Q I r h;obtain⟨y,e,q⟩:=h;cases vs with
   |nil=>simp[xB]at e|cons v vs =>
    simp only[xB]at e;cases r with|cons r Y=>show wpAny _ _ (assignInOrder (assign (.Name x pos) X.env::(assignEach es X.env).map (·.2)) _) _ _ _;refine assignInOrder_cons (HB (tX (pos:=pos) nd g f b z s σ H v _ _ I r (show kY i v σ H (λu m=>u=σ.set i (some v)/\m=H) from⟨rfl,rfl⟩)) λ_ o ⟨u,m,B,A,K⟩=>?_);subst A K;exact Z z o _ _ vs _ Q B Y ⟨y,e,q⟩
  |_=>simp at l
theorem ES{c:Bool}:∀(z:LN) (es:List Expr) (S:SC),z.length=es.length->((z.zip es).all λp=>match p.2 with | .Name x _=>am c S p.1 x|_=>false)=true->(assignEach es X.env).length=es.length/\(assignEach es X.env).findIdx? (·.1)=none
 |[],[],_,_,_=>⟨rfl,rfl⟩|[],_::_,_,h,_=>by cases h|_::_,[],_,h,_=>by cases h|i::z,e::es,S,hl,hz=>by
  simp only[QAF,qb,QW]at hz;obtain⟨w,v⟩:=hz;cases e with|Name x y=>have u:=ES z es S (by simpa using hl) v;have k:assignEach (.Name x y::es) X.env=(false,assign (.Name x y) X.env)::assignEach es X.env:=rfl;rw[k];refine⟨by rw[QM,QM,u.1],?_⟩;rw[List.findIdx?_cons];simp[u.2]|_=>simp at w
theorem dM:∀{y:LN}{vs:LV}{σ x:St},xB y vs σ=some x->vs.length=y.length
 |[],[],_,_,_=>rfl|[],_::_,_,_,h=>by simp[xB]at h|_::_,[],_,_,h=>by simp[xB]at h|_::y,_::vs,σ,x,h=>by simp only[xB]at h;rw[QM,QM,dM h]
theorem v5{c:Bool}{S:SC}{G:Glob}{E:XK}(ok:OkX X S G E)(z:c=true->∀x,X.fn x=true)(nd:X.N.Nodup){b:Tg}{e:Expr}(h:bt c S b e=true):PG X e (oG X.K b):=by
 cases b with
 |nm i =>
  cases e with|Name x pos=>obtain⟨l,j,g⟩:=L6 ok.N ok.sc z h;exact tX nd l j g|_=>cases h
 |tp o =>
  cases e with
  |Tuple m k pos =>
   obtain⟨J,Z⟩:=yA h;have f:=qd J;obtain⟨C,B⟩:=ES (X:=X) o m S f Z;have w:=fi (pos:=pos) (k:=k) (n:=m.length) ok.calm (CO z ok.N ok.sc nd o m f Z) C B;intro y s W H v u Q I r Y;refine w y s W H v u Q I r ?_;cases v with|ref p=>obtain⟨A,a,F,e,q⟩:=Y;exact⟨p,A,rfl,F,by rw[dM e,f],a,e,q⟩|_=>exact Qc Y
  |_=>cases h
end
variable{Γ:Ev}
theorem x9(K:QA)(a:Addr)(xs:LV):Yields (Lx K a) (xs.map .one) (λH=>pC K H a xs) :=
  { go:=λi H h u=>by
      have z:i<xs.length:=by simpa using u
      exact⟨xs,xs[i],h,by simp[z]⟩
    yld:=λi H x v h _ ⟨e,y⟩=>⟨.one x,by rw[Qb,y xs h];rfl,rfl,e⟩
    stop:=λi H h u=>⟨xs,h,by simpa using u⟩ }
theorem zh(K:QA)(a:Addr)(xs:LV):Yields (Fx K a xs.length) (xs.reverse.map .one) (λH=>pC K H a xs):=by
 have e:∀i,i<xs.length->xs.reverse[i]?=xs[xs.length - 1 - i]?:=λi y=>List.getElem?_reverse y;have l:(xs.reverse.map Item.one).length=xs.length:=by rw[QE,we]
 refine⟨λi H h y=>?_,λi H x u h y z=>?_,λi H h y=>by rw[l]at y;exact y⟩;rw[l]at y;exact⟨y,xs,xs[xs.length - 1 - i]'(by omega),h,Qm _⟩;rw[l]at y;exact⟨.one x,by rw[Qb,e i y,z.2 xs h];rfl,rfl,z.1⟩
theorem jh(K:QA)(a:Addr)(xs:LV):Yields (Gx K a) (xs.map .one) (λH=>nE K H a xs) :=
  { go:=λi H h u=>by
      have z:i<xs.length:=by simpa using u
      exact⟨xs,xs[i],h,by simp[z]⟩
    yld:=λi H x v h _ ⟨e,y⟩=>⟨.one x,by rw[Qb,y xs h];rfl,rfl,e⟩
    stop:=λi H h u=>⟨xs,h,by simpa using u⟩ }
theorem yh(u:Int)(n:Nat):Yields (cw u n) ((Ql n).map λ(k:Nat)=>.one (.int (u+(k:Int)))) (λ_=>True) :=
  { go:=λi H h z=>by
      have y:i<n:=by simpa using z
      exact y
    yld:=λi H x w h z ⟨e,v⟩=>by
      have y:i<n:=by simpa using z
      exact⟨.one x,by rw[Qb,WF y,v];rfl,rfl,e⟩
    stop:=λi H h z=>by
      have y:n<=i:=by simpa using z
      exact y }
theorem b9(K:QA)(z:Src)(c:Nat)(xs:LV):Yields (Nx K z c) (xs.zipIdx.map λp=>.tup [.int ((c+p.2:Nat):Int),p.1]) (λH=>O1 K H z xs) :=
  { go:=λi H h u=>by
      have y:i<xs.length:=by simpa using u
      exact⟨xs,xs[i],h,by simp[y]⟩
    yld:=λi H x g h u ⟨p,a,v,e,w,k⟩=>by
      have y:i<xs.length:=by simpa using u
      have f:=k xs h;refine⟨.tup [.int ((c+i:Nat):Int),a],?_,p,v,e,w⟩;have b:xs.zipIdx[i]?=some (a,i):=by rw[List.getElem?_zipIdx,f];simp
      rw[Qb,b];rfl
    stop:=λi H h u=>⟨xs,h,by simpa using u⟩ }
theorem J2(ep:Nat)(a:Addr)(kvs:List KE):Yields (Hx ep kvs.length a) (kvs.map λp=>.tup [.ref p.2.1,p.2.2]) (λH=>H a=some (.dT ep kvs)) :=
  { go:=λi H h y=>by
      have z:i<kvs.length:=by simpa using y
      exact⟨kvs,kvs[i],h,rfl,by simp[z]⟩
    yld:=λi H x w h y ⟨q,p,u,e,v,k⟩=>⟨.tup [.ref p.2.1,p.2.2],by rw[Qb,k kvs h];rfl,q,u,e,v⟩
    stop:=λi H h y=>⟨kvs,h,rfl,by simpa using y⟩ }
theorem u9(ep:Nat)(a:Addr)(kvs:List KE):Yields (Mx ep kvs.length a) (kvs.map λp=>.one (.ref p.2.1)) (λH=>H a=some (.dT ep kvs)) :=
  { go:=λi H h y=>by
      have z:i<kvs.length:=by simpa using y
      exact⟨kvs,kvs[i],h,rfl,by simp[z]⟩
    yld:=λi H x b h y ⟨u,k⟩=>by obtain⟨p,w,v⟩:=k kvs h;exact⟨.one (.ref p.2.1),by rw[Qb,w];rfl,v,u⟩
    stop:=λi H h y=>⟨kvs,h,rfl,by simpa using y⟩ }
noncomputable def DR(h:St->Hp->(List Item->(Hp->Prop)->Hp->Prop)->Prop):TI:=λx H R=>h x H λy st z=>∀J,Yields J y st->R J z
section
variable{X:Cx}{f:Expr}
section
variable{a:Expr}{ta:TA}{p pos k:Pos}{x:Str}{es:List Expr}{d:Nat}
theorem Ua{l:Expr}{t:TE}(hl:PE X l t):PI X f l (DR λσ H R=>t σ H λv m=>cC X.K .val [v] m R):=by
 intro g s σ H R I h;refine HB (hl g s σ H _ I h) λv y ⟨x,m,i,F,C⟩=>?_;have j:∀b∈[y.heap.objs.size],VJ X g m b:=λb hb=>by
  have e:b=y.heap.objs.size:=by simpa using hb
  subst e;exact i.fpOk (QZ _) (i.hok.fresh (QZ _))
 cases x with
 |ref a =>
  cases F;rcases C with⟨Z,A,q⟩| ⟨Z,A,q⟩| ⟨ep,u,e,q⟩
  obtain⟨Y,E,p,G⟩:=i.list A;refine QAW p.isList ?_;exact⟨y.heap.objs.size,[y.heap.objs.size],_,_,m,rfl,i.kept (t':=y.toks) λb o e=>QH _ e,GY a _,⟨_,QR _ rfl,rfl,rfl⟩,j,q _ (x9 _ a Z)⟩;obtain⟨Y,E,p,G⟩:=i.tuple A;refine QBj (show y.heap.IsTuple a Y.toArray from p) ?_;exact⟨y.heap.objs.size,[y.heap.objs.size],_,_,m,rfl,i.kept (t':=y.toks) λb o e=>QH _ e,LU a _,⟨_,QR _ rfl,rfl,rfl⟩,j,q _ (jh _ a Z)⟩;obtain⟨z,J,Z,r,ob,B,O,N,M,L,P⟩:=(show BA X.prog X.w m y.heap a (.dT ep u) from i.hok a _ e)
  have W:B.size=u.length:=by have:=congrArg qa L;rw[QE,Qx]at this;rw[this,<- qH r]
  refine rc J O N.1 M ?_;exact⟨y.heap.objs.size,[y.heap.objs.size],_,_,m,rfl,i.kept (t':=y.toks) λb o e=>QH _ e,HY (a:=a) (n:=u.length) (ep:=ep),⟨_,QR _ rfl,rfl,by rw[<- W];rfl⟩,j,q _ (u9 ep a u)⟩
 |_=>exact Qc C
theorem Ba(g:x="range")(m:Gl X x)(l:X.mg x=none)(n:PA X [a] ta)(i:xC a=true) :
  PI X f (.Call (.Name x p) [a] [] pos) (DR λσ H R=>ta σ H λvs v=>cC X.K .rng1 vs v R):=by
 subst g;intro z s σ H R I h;refine Call_ (xE I m l boot_range (qO (HB (n pos z s σ H _ I h) λY Z ⟨vs,v,o,b,u⟩=>?_) (HA _ i) rfl))
 match vs,u with
 |[.int j],⟨⟨u,q2⟩,q⟩ =>
  cases b with
  |cons r w =>
   cases w;obtain⟨t,rfl⟩:=r;refine call_range_1 (G4 o (by omega) (by omega) u q2 ?_);have e:(j - 0).toNat=j.toNat:=by simp
   rw[e];have y:=yh 0 j.toNat;refine q _ ?_;simpa using y
theorem xi(Z:x="reversed")(B:Gl X x)(A:X.mg x=none)(C:PA X [a] ta)(W:xC a=true) :
  PI X f (.Call (.Name x p) [a] [] pos) (DR λσ H R=>ta σ H λvs w=>cC X.K .rev vs w R):=by
 subst Z;intro z s σ H R I h;refine Call_ (xE I B A QAB (qO (HB (C pos z s σ H _ I h) λE y ⟨vs,w,u,m,n⟩=>?_) (HA _ W) rfl))
 match vs,n with
 |[.ref l],⟨xs,hq,q⟩ =>
  cases m with
  |cons r j =>
   cases j;cases r;obtain⟨v,i,Y,F⟩:=u.list hq;have hl:=i.length;refine QBk Y.isList ?_;have g:(y.heap.push (revObj l ((v.toArray.size:Int) - 1))).IsRevIter y.heap.objs.size l ((xs.length:Int) - 1 - ((0:Nat):Int)):=⟨_,QR _ rfl,rfl,by simp[revObj,hl]⟩
   refine QBE g ?_;refine⟨y.heap.objs.size,[y.heap.objs.size],_,_,w,rfl,u.kept (t':=y.toks) λb o e=>QH _ e,u3 l _ xs.length,⟨Qt _,g⟩,λb hb=>?_,q _ (zh _ l xs)⟩;have e:b=y.heap.objs.size:=by simpa using hb
   subst e;exact u.fpOk (QZ _) (u.hok.fresh (QZ _))
theorem J1:bootBuiltins ("enumerate":Str)=some (.type "enumerate"):=by kernel_rfl
theorem G7{y:OB}{σ:St}{e:Hp}{h:Shared}{R:It->Hp->Prop}{c:Nat}{z:Src}{xs:LV}{its:Array Value}{h':Heap}(v:Inv X y σ e h)(g:GB h.heap z its)(st:MW (h.heap.objs.size+1) h.heap.objs.size z c 0 h')(j:∀c o,h.heap.get? c=some o->h'.get? c=some o)
  (q:∀J,Yields J (xs.zipIdx.map λp=>.tup [.int ((c+p.2:Nat):Int),p.1]) (λH=>O1 X.K H z xs)->R J e):wpAny (model X.prog X.w) X.A (pyIter (.ref (h.heap.objs.size+1))) (jw X y σ (.Tuple es d k) R) X.xe { h with heap:=h' }:=by
 obtain⟨⟨i,l⟩,_⟩:=id st;refine QBz l ?_;have m:=v.kept (h':=h') (t':=h.toks) j;have lt:=g.lt;refine⟨_,[h.heap.objs.size+1,h.heap.objs.size],_,_,e,rfl,m,LY (sy (Nat.succ_ne_self _)) (Qj (ww lt)) (Qj lt),st,λb hb=>?_,q _ (b9 _ z c xs)⟩;have u:h.heap.objs.size<=b:=by simp only[QL,WA,or_false]at hb;rcases hb with rfl|rfl;exact QAp _ _;exact QZ _
 exact v.fpOk u (v.hok.fresh u)
theorem Da(l:x="enumerate")(o:Gl X x)(n:X.mg x=none)(Y:PA X [a] ta)(m:xC a=true) :
  PI X (.Tuple es d k) (.Call (.Name x p) [a] [] pos) (DR λσ H R=>ta σ H λvs w=>cC X.K .enum vs w R):=by
 subst l;intro u s σ H R I h;refine Call_ (xE I o n J1 (qO (HB (Y pos u s σ H _ I h) λZ W ⟨vs,w,v,e,g⟩=>?_) (HA _ m) rfl))
 match vs,g with
 |[.ref l1],⟨z,xs,e1,h1,q⟩ =>
  subst e1;cases e with|cons r b=>cases b;cases r;obtain⟨j,_,y,_⟩:=v.src h1;refine KW y λA st i=>G7 (xs:=xs) v y st i ?_;simpa using q
theorem fc{K:QA}{u:V}{H:Hp}{R:List Item->(Hp->Prop)->Hp->Prop}(h:cC K .itm [u] H R):∃a ep kvs,u=.ref a/\H a=some (.dT ep kvs)/\R (kvs.map λp=>.tup [.ref p.2.1,p.2.2]) (λH=>H a=some (.dT ep kvs)) H:=by
 cases u with|ref a=>obtain⟨ep,kvs,e,q⟩:=h;exact⟨a,ep,kvs,rfl,e,q⟩|_=>exact Qc h
theorem ui{o:Expr}{B:TE}{apos cpos:Pos}(J:PE X o B)(i:attributeBase o "items" X.env (eval o X.env)=eval o X.env)(g:(apos.endLine==cpos.line)=true) :
  Ks X (.Tuple es d k) (.Call (.Attribute o "items" apos) [] [] cpos) (DR λσ H R=>B σ H λv l=>cC X.K .itm [v] l R):=by
 intro u s σ H R I h;refine QAf i g (HB (J u s σ H _ I h) λv j ⟨x,l,C,E,G⟩=>?_);obtain⟨a,ep,y,rfl,e,q⟩:=fc G;cases E;obtain⟨z,L,P,r,ob,W,m,Z,N,M,Q⟩:=(show BA X.prog X.w l j.heap a (.dT ep y) from C.hok a _ e)
 refine⟨"dict",_,QAj,PySem.F.slot_dict_items,PySem.F.type_dict_items,⟨ob,m,Z.1⟩,λb O=>?_,WV rfl (QBP (ZW m Z.1 L ?_))⟩;cases O;exact⟨ob,m,Z.2.1⟩;have A:Inv X u σ l { j with heap:=j.heap.push { cls:=.type "dict_items",data:=.fields #[.ref a] } }:=C.kept (t':=j.toks) λb o e=>QH _ e;refine u7 ⟨_,QR _ rfl,rfl,rfl⟩ (QH _ m) N ?_;have Y:W.size=y.length:=by have:=congrArg qa M;rw[QE,Qx]at this;rw[this,<- qH r]
 refine⟨_,[_],_,_,l,rfl,A.kept (t':=j.toks) λb o e=>QH _ e,NU (a:=a) (n:=y.length) (ep:=ep),⟨.none,.none,?_⟩,λb hb=>?_,q _ (J2 ep a y)⟩;rw[<- Y];exact QR _ rfl;have e:=QJ.mp hb;subst e;exact A.fpOk (QZ _) (A.hok.fresh (QZ _))
end
end
section
variable{u σ:St}{K:QA}{k:Tg}{H:Hp}{Q:St->Hp->Prop}
def Tg.at:Tg->LN
 | .nm i=>[i]|.tp h=>h
def JU(k:Tg)(u σ:St):Prop:=u.length=σ.length/\∀(j:Nat),j∉k.at->u[j]?=σ[j]?
theorem OY{i:Nat}{v:Option V}(h:u.length=σ.length)(x:∀j,j≠i->u[j]?=σ[j]?):u.set i v=σ.set i v:=by apply wB;intro j;by_cases e:j=i;subst e;by_cases hl:j<σ.length;rw[qh (by omega),qh hl];rw[Q7 (by rw[wG];omega),Q7 (by rw[wG];omega)];rw[qT (Q3 e),qT (Q3 e)];exact x j e
theorem YI:∀(x:LN) (vs:LV) (u σ:St),u.length=σ.length->(∀j,j∉x->u[j]?=σ[j]?)->xB x vs u=xB x vs σ
 |[],[],u,σ,hl,h=>by have:u=σ:=wB λj=>h j (by simp);rw[this]|[],_::_,_,_,_,_=>rfl|_::_,[],_,_,_,_=>rfl|i::x,v::vs,u,σ,hl,h=>by simp only[xB];refine YI x vs _ _ (by simp[hl]) λj z=>?_;by_cases e:j=i;subst e;by_cases y:j<σ.length;rw[qh (by omega),qh y];rw[Q7 (by rw[wG];omega),Q7 (by rw[wG];omega)];rw[qT (Q3 e),qT (Q3 e)];exact h j (by simp[e,z])
theorem yF:∀(h:LN) (vs:LV) (σ u:St),xB h vs σ=some u->u.length=σ.length/\∀j,j∉h->u[j]?=σ[j]?
 |[],[],σ,u,e=>by simp only[xB]at e;cases e;exact⟨rfl,λ_ _=>rfl⟩|[],_::_,_,_,e=>by simp[xB]at e|_::_,[],_,_,e=>by simp[xB]at e|i::h,v::vs,σ,u,e=>by simp only[xB]at e;obtain⟨w,y⟩:=yF h vs _ _ e;refine⟨by rw[w,wG],λj x=>?_⟩;rw[y j (λz=>x (QD _ z)),qT (λz=>x (by simp[z]))]
theorem cU{v:V}(a:JU k u σ)(h:oG K k v σ H Q):oG K k v u H λx m=>JU k x σ/\Q x m:=by
 obtain⟨f,g⟩:=a;cases k with
 |nm i=>have e:u.set i (some v)=σ.set i (some v):=OY f λj y=>g j (by simpa[Tg.at]using y);show JU (.nm i) (u.set i (some v)) σ/\Q (u.set i (some v)) H;rw[e];exact⟨⟨by simp,λj y=>qT (λz=>y (by simp[Tg.at,z]))⟩,h⟩|tp b =>
  cases v with|ref p=>obtain⟨w,x,l,e,q⟩:=h;exact⟨w,x,l,by rw[YI b w u σ f λj y=>g j y];exact e,⟨(yF b w σ x e).1,λj y=>(yF b w σ x e).2 j y⟩,q⟩|_=>exact Qc h
theorem XW{v:V}{y:St->Hp->Prop}(m:∀σ H,Q σ H->y σ H)(h:oG K k v σ H Q):oG K k v σ H y:=by
 cases k with
 |nm i=>exact m _ _ h|tp a =>
  cases v with|ref p=>obtain⟨z,x,w,e,q⟩:=h;exact⟨z,x,w,e,m _ _ q⟩|_=>exact Qc h
theorem YN{it:Item}{x:V}{y:Hp}(w:match it with | .one v=>x=v/\y=H | .tup vs=>∃p,H p=none/\x=.ref p/\y=DA H p (.tup vs))(h:bindI K k it σ H Q):oG K k x σ y Q:=by
 cases it with
 |one v=>obtain⟨rfl,rfl⟩:=w;exact h|tup vs =>
  obtain⟨p,z,rfl,rfl⟩:=w;cases k with
  |nm i=>exact h p z|tp a =>
   obtain⟨u,e,q⟩:=h (DA H p (.tup vs)) λb o e=>by rw[xA (sA e z)];exact e
   exact⟨vs,u,nE.of iA,e,q⟩
theorem R7{xs:List Item}{st:Hp->Prop}{tc:TT}{te:TE}{a:St}{Q:VK}(h:nq K xs st (bindI K k) tc te a H Q):VY K xs st k tc te a H Q:=by
 obtain⟨W,Z,o,j,done⟩:=h;intro J Y;refine⟨λi m v u f=>m=xs.length - i/\i<=xs.length/\JU k u a/\W i v f,⟨xs.length,by simp,Qt _,⟨rfl,λ_ _=>rfl⟩,Z⟩,?_⟩;rintro i m v u f ⟨rfl,C,F,w⟩;have n:=o i v f C w;by_cases g:i<xs.length;refine .inr ⟨Y.go i f n g,λx G y=>?_⟩;obtain⟨it,p,B⟩:=Y.yld i f x G n g y;have b:=cU F (YN B (j i it v f p w));refine XW (λl I q=>?_) b;obtain⟨r,q⟩:=q;have E:∀(z:LV) (s:Hp),(∃X,X < xs.length - i/\X=xs.length - (i+1)/\i+1<=xs.length/\JU k l a/\W (i+1) z s)=W (i+1) z s:=λz s =>
  propext ⟨λ⟨_,_,_,_,_,w⟩=>w,λw=>⟨_,by omega,rfl,g,r,w⟩⟩
 simp only[E];exact q
 ·have e:i=xs.length:=by omega
  subst e;obtain⟨A,q⟩:=done v f w;exact .inl ⟨Y.stop _ f n (QZ _),A,q⟩
end
end L2.L3
namespace L2.L3
open PySem PySem.Spec PyProof.Rows
variable{Γ:Ev}
section
variable{X:Cx}{E:XK}{p its:PX}{es:List Expr}{e t Y:Expr}{pos:Pos}{S:SC}{Q:LV->Hp->Prop}{G:Glob}{d:ItK}
def tQ:PX->Bool
 | .nz _ _=>false|_=>true
theorem gU(h:tQ p=true):JR X Γ E p es:=by cases p<;>first|trivial|cases h
theorem nR(Q:Bool->Hp->Prop):(λ(x:V) (h:Hp)=>n8 x h Q)=λ(x:V) (h:Hp)=>∃k,x=.bl k/\Q k h:=by funext x h;exact Bl x h Q
theorem Snd.of(pe:PE X e (wp X.K Γ p E).e)(pt:PT X e (wp X.K Γ p E).t)(hb:∀h es pos,e≠.BoolOp h es pos)(y:(wp X.K Γ p E).a=never.a)(x:tQ p=true:=by rfl):Snd X Γ E p e :=
 ⟨pe,pt,λh es pos z=>absurd z (hb h es pos),λes pos z=>by rw[y];exact rS,λ_ _ _=>gU x⟩
theorem Snd.lit(pe:PE X e (wp X.K Γ p E).e)(x:(wp X.K Γ p E).t=never.t)(hb:∀h es pos,e≠.BoolOp h es pos)(z:(wp X.K Γ p E).a=never.a)(y:tQ p=true:=by rfl):Snd X Γ E p e :=
 Snd.of pe (by rw[x];exact eM) hb z y
theorem Snd.args(w:PA X es (wp X.K Γ p E).a)(u:JR X Γ E p es)(v:(wp X.K Γ p E).e=never.e)(y:(wp X.K Γ p E).t=never.t):Snd X Γ E p (.List es pos) :=
 ⟨by rw[v];exact n5,by rw[y];exact eM,λ_ _ _ z=>(by cases z),λx h z=>by cases z;exact w,λx h z=>by cases z;exact u⟩
theorem Vi{x:Str}{v:V}{u:Value}(y:X.env.scope=S.sc)(h:oT S x=true)(z:X.mg x=some u)(r:rA v u):PE X (.Name x pos) (λ_ H Q=>Q v H):=by obtain⟨k,w,a⟩:=MD h;exact Ga (show X.env.scope.names.lookup x=some .globalImplicit by rw[y];exact k) z r w
theorem zD:∀(p:PX) {es:List Expr},AB p S (.List es pos)=true->es.all xC=true:=by
 intro p;induction p with|xz=>intro es h;have h:es.isEmpty=true:=h;rw[Qr.mp h];rfl|nz a u _ y=>intro es h;have h:cb es _=true:=h;obtain⟨x,t,rfl,h⟩:=zL h;have z:=yA h;rw[qb,z.1,y (yA z.2).2];rfl|lst u y=>exact λh=>y h|_=>exact λh=>(QG h).elim
theorem fU{K:QA}{σ:St}{H:Hp}:∀(p:PX),gF p=true->AB p S (.List [] pos)=true->((wp K Γ p E).a σ H Q↔Q [] H):=by
 intro p;cases p with|xz=>exact λ_ _=>WO|nz _ _=>exact λ_ h=>(QG h).elim|_=>exact λh=>(QG h).elim
theorem U1{K:QA}{σ:St}{H:Hp}(p:PX)(h:AB p S (.List [] pos)=true)(q:(wp K Γ p E).a σ H Q):Q [] H:=by
 cases x:gF p with
 |true=>exact(fU p x h).mp q|false =>
  cases p with|xz=>exact q|nz _ _=>exact(QG h).elim|_=>exact q.elim
theorem dU{a:Expr}(p:PX)(y:gF p=true)(h:AB p S (.List [a] pos)=true):∃x,p=.nz x .xz:=by
 cases p with
 |nz x r =>
  have z:AB r S (.List [] pos)=true:=(yA (yA h).2).2;cases r with|xz=>exact⟨x,rfl⟩|nz _ _=>exact(QG z).elim|_=>exact(QG y).elim
 |xz=>exact(QG h).elim|_=>exact(QG y).elim
theorem Jp(h:X.A.units+66<cLine)(m:Mt):∃id,PlainAttrs m.ty/\Slot m.ty m.nm id/\typeOf (.builtin id)=pure (.type "method_descriptor")/\D8 X id (jc X.K m):=by
 cases m with|append=>exact⟨_,WP,PySem.F.slot_list_append,PySem.F.type_list_append,HZ⟩|pop=>exact⟨_,WP,PySem.F.slot_list_pop,PySem.F.type_list_pop,Eb⟩|extend=>exact⟨_,WP,PySem.F.slot_list_extend,PySem.F.type_list_extend,Ib⟩|setd=>exact⟨_,QAj,PySem.F.slot_dict_setdefault,PySem.F.type_dict_setdefault,FZ h⟩|index=>exact⟨_,PySem.F.plainAttrs_str,PySem.F.slot_str_index,PySem.F.type_str_index,Zj⟩
theorem HE{env:Env}{pos:Pos}:∀{es:List Expr},es.all xC=true->(backTo pos (starEach es env)).any (·.1)=false
 |[],_=>rfl|e::es,h=>by rw[qb]at h;obtain⟨y,x⟩:=yA h;rw[HA env y];show(false||(backTo pos (starEach es env)).any (·.1))=false;rw[HE x];rfl
theorem lU{env:Env}{pos:Pos}:∀{es:List Expr},es.all xC=true->(backTo pos (starEach es env)).all (λx=>!x.1)=true
 |[],_=>rfl|e::es,h=>by rw[qb]at h;obtain⟨z,y⟩:=yA h;rw[HA env z];show(true&&(backTo pos (starEach es env)).all (λx=>!x.1))=true;rw[lU y];rfl
theorem zV(ok:OkX X S G E)(y:Rr (gF its) S d (λes p=>AB its S (.List es p)) t Y pos=true)(j:jq G d)(n:isItm d=false)
  (f:∀es p,AB its S (.List es p)=true->Snd X G.ev E its (.List es p)):PI X t Y (DR λσ H R=>(wp X.K G.ev its E).a σ H λvs o=>cC X.K d vs o R):=by
 have v:∀{x:Str},oT S x=true->Gl X x:=λ{x} h=>by show X.env.scope.names.lookup x=some .globalImplicit;rw[ok.sc];exact(MD h).1
 have w:MV t=true->∃es k p,t=.Tuple es k p:=λh=>by
  cases t with|Tuple es k p=>exact⟨es,k,p,rfl⟩|_=>exact(QG h).elim
 cases d with|val=>have i:=yA y;have g:=(f _ pos i.2).pas _ pos rfl;obtain⟨a,rfl⟩:=dU its i.1 i.2;exact Ua g.1|rng1=>obtain⟨l,es,m,p,rfl,b,h⟩:=OD y;have u:=yA h;cases Qr.mp u.1;obtain⟨a,rfl,z⟩:=YB u.2;exact Ba rfl (v b) (ok.no _ j) ((f _ p z).pa _ p rfl) (by simpa using zD its z)|rev=>obtain⟨l,es,m,p,rfl,b,h⟩:=OD y;have u:=yA h;cases Qr.mp u.1;obtain⟨a,rfl,z⟩:=YB u.2;exact xi rfl (v b) (ok.no _ j) ((f _ p z).pa _ p rfl) (by simpa using zD its z)|enum=>have i:=yA y;obtain⟨es,k,pt,rfl⟩:=w i.1;obtain⟨l,es,m,p,rfl,b,h⟩:=OD i.2;have u:=yA h;cases Qr.mp u.1;obtain⟨a,rfl,z⟩:=YB u.2;exact Da rfl (v b) (ok.no _ j) ((f _ p z).pa _ p rfl) (by simpa using zD its z)|itm=>cases n
theorem Ca(ok:OkX X S G E)(x:Rr (gF its) S d (λes p=>AB its S (.List es p)) t Y pos=true)(g:jq G d)
  (u:∀es p,AB its S (.List es p)=true->Snd X G.ev E its (.List es p)):Ks X t Y (DR λσ H R=>(wp X.K G.ev its E).a σ H λvs j=>cC X.K d vs j R):=by
 cases b:isItm d with
 |false=>exact(zV ok x g b u).to0|true =>
  cases d with
  |itm =>
   have i:=yA x;have w:=yA i.2;cases t with|Tuple es k pt=>obtain⟨v,l,es,p,rfl,hl,h⟩:=GX w.2;have f:=yA h;have z:=yA f.2;cases Qr.mp z.1;have y:=(u _ p z.2).pas _ p rfl;obtain⟨a,rfl⟩:=dU its w.1 z.2;exact ui y.1 (x6 f.1) hl|_=>exact(QG i.1).elim
  |_=>cases b
theorem RG{te x:TE}(h:PE X e te)(q:∀σ H Q,x σ H Q->te σ H Q):PE X e x:=λy s σ H Q I z=>h y s σ H Q I (q σ H Q z)
theorem snd:∀(p:PX) {X:Cx}{S:SC}{E:XK}(ok:OkX X S G E) {e:Expr},AB p S e=true->IA G p->Snd X G.ev E p e:=by
 intro p;induction p with
 |zz i =>
  intro X S E ok e h _;obtain⟨x,pos,rfl,h⟩:=eE h;obtain⟨Z,J,L,P⟩:=p9 h;have base:=x5 (pos:=pos) (show X.N[i]?=some x by rw[ok.N];exact Z) (show Nq X.env.scope x by rw[ok.sc];exact J) L P;have pe:PE X (.Name x pos) (wp X.K G.ev (.zz i) E).e:=RG base λB H Q q=>by
   have q:(match B[i]? with|some (some v)=>Q v H|_=>False):=q;cases hs:B[i]? with
   |none=>rw[hs]at q;exact q.elim|some o =>
    rw[hs]at q;cases o with|none=>exact q.elim|some v=>exact⟨v,hs,q⟩
  exact Snd.of pe (dD pe λ_=>rfl) (λ_ _ _ z=>by cases z) rfl
 |int i=>intro X S E ok e h _;obtain⟨c,k,pos,rfl,h⟩:=iE h;obtain⟨j,rfl,h⟩:=c8 h;cases qd h;exact Snd.of vV (dD (ta:=λ_ H Q=>Q (.int i) H) vV λ_=>rfl) (λ_ _ _ z=>by cases z) rfl|str x=>intro X S E ok e h _;obtain⟨c,k,pos,rfl,h⟩:=iE h;obtain⟨j,rfl,h⟩:=Ak h;cases qd h;exact Snd.lit Yi rfl (λ_ _ _ z=>by cases z) rfl|bl b=>intro X S E ok e h _;obtain⟨c,k,pos,rfl,h⟩:=iE h;obtain⟨j,rfl,h⟩:=td h;cases qd h;exact Snd.of Ke (dD (ta:=λ_ H Q=>Q (.bl b) H) Ke λ_=>rfl) (λ_ _ _ z=>by cases z) rfl|non=>intro X S E ok e h _;obtain⟨c,k,pos,rfl,h⟩:=iE h;cases sd h;exact Snd.of m5 (dD (ta:=λ_ H Q=>Q .non H) m5 λ_=>rfl) (λ_ _ _ z=>by cases z) rfl|glo x=>intro X S E ok e h nd;obtain⟨y,pos,rfl,h⟩:=eE h;have h:=yA h;cases qd h.1;obtain⟨u,hm,r⟩:=ok.val x nd;have pe:=Vi (pos:=pos) ok.sc h.2 hm r;exact Snd.of pe (dD pe λ_=>rfl) (λ_ _ _ z=>by cases z) rfl|bty x n=>intro X S E ok e h nd;obtain⟨y,pos,rfl,h⟩:=eE h;have h:=yA h;cases qd h.1;obtain⟨g1,g2,g3⟩:=MD h.2;exact Snd.lit (Pa (show X.env.scope.names.lookup x=some .globalImplicit by rw[ok.sc];exact g1) (ok.no x nd.1) nd.2 rfl g3 g2) rfl (λ_ _ _ z=>by cases z) rfl|bin op a b W O=>intro X S E ok e h nd;obtain⟨l,o,r,pos,rfl,h⟩:=db h;have Z:=yA h;have J:=yA Z.2;cases qd Z.1;have pe:=Bo (pos:=pos) (Gi op) (W ok J.1 nd.1).pe (O ok J.2 nd.2).pe;exact Snd.of pe (dD pe λ_=>rfl) (λ_ _ _ z=>by cases z) rfl|cmp op a b W O=>intro X S E ok e h nd;obtain⟨l,os,rs,pos,rfl,h⟩:=ub h;obtain⟨o,rfl,h⟩:=YB h;obtain⟨r,rfl,h⟩:=YB h;have Z:=yA h;have J:=yA Z.2;have L:=yA J.2;cases qd Z.1;have pa:=(W ok L.1 nd.1).pe;have pb:=(O ok L.2 nd.2).pe;refine Snd.of (Na (pos:=pos) (X5 ok.un op) pa pb (u6 J.1)) (λM s B H Q I q=>ma (pos:=pos) (X5 ok.un op) pa pb (u6 J.1) M s B H Q I ?_) (λ_ _ _ z=>by cases z) rfl;show Zn _ _ _ B H (λ(x:V) (A:Hp)=>∃k,x=.bl k/\Q k A);rw[<- nR Q];exact q|and a b W O =>
  intro X S E ok e h nd;obtain⟨o,es,pos,rfl,h⟩:=eS h;have Z:=yA h;cases qd Z.1;obtain⟨l,t,rfl,J⟩:=zL Z.2;obtain⟨r,t,rfl,L⟩:=zL J;have P:=yA L;have sa:=W ok P.1 nd.1;have sb:=O ok P.2 nd.2;have eqA:∀(B:St) (Q:VK),(λ(x:V) (A:Hp)=>∃c,x=.bl c/\if c=true then(wp X.K G.ev b E).e B A Q else Q (.bl false) A)=λ(x:V) (A:Hp)=>n8 x A λc H2=>if c=true then(wp X.K G.ev b E).e B H2 Q else Q (.bl false) H2:=λB Q=>(nR _).symm
  have key:PW X (.BoolOp .And (l::r::t) pos) (wp X.K G.ev (.and a b) E).t/\PE X (.BoolOp .And (l::r::t) pos) (λB H Q=>(wp X.K G.ev a E).e B H λx A=>∃c,x=.bl c/\if c=true then(wp X.K G.ev b E).e B A Q else Q (.bl false) A):=by
   cases t with|nil=>exact⟨P4 sa.pt (da sb.pt),i5 (pos:=pos) sa.pe (c5 sb.pe)⟩|cons q t=>exact⟨P4 sa.pt (sb.pw _ _ _ rfl),i5 (pos:=pos) sa.pe sb.pe⟩
  refine⟨RG key.2 λB H Q q=>?_,key.1.pt,λ_ _ _ _=>key.1,λ_ _ z=>(by cases z),λ_ _ z=>trivial⟩;rw[eqA];exact q
 |or a b W O =>
  intro X S E ok e h nd;obtain⟨o,es,pos,rfl,h⟩:=eS h;have Z:=yA h;cases qd Z.1;obtain⟨l,t,rfl,J⟩:=zL Z.2;obtain⟨r,t,rfl,L⟩:=zL J;have P:=yA L;have sa:=W ok P.1 nd.1;have sb:=O ok P.2 nd.2;have eqA:∀(B:St) (Q:VK),(λ(x:V) (A:Hp)=>∃c,x=.bl c/\if c=true then Q (.bl true) A else(wp X.K G.ev b E).e B A Q)=λ(x:V) (A:Hp)=>n8 x A λc H2=>if c=true then Q (.bl true) H2 else(wp X.K G.ev b E).e B H2 Q:=λB Q=>(nR _).symm
  have key:PW X (.BoolOp .Or (l::r::t) pos) (wp X.K G.ev (.or a b) E).t/\PE X (.BoolOp .Or (l::r::t) pos) (λB H Q=>(wp X.K G.ev a E).e B H λx A=>∃c,x=.bl c/\if c=true then Q (.bl true) A else(wp X.K G.ev b E).e B A Q):=by
   cases t with|nil=>exact⟨se sa.pt (Sh sb.pt),Ze (pos:=pos) sa.pe (c5 sb.pe)⟩|cons q t=>exact⟨se sa.pt (sb.pw _ _ _ rfl),Ze (pos:=pos) sa.pe sb.pe⟩
  refine⟨RG key.2 λB H Q q=>?_,key.1.pt,λ_ _ _ _=>key.1,λ_ _ z=>(by cases z),λ_ _ z=>trivial⟩;rw[eqA];exact q
 |not a W=>intro X S E ok e h nd;obtain⟨o,x,pos,rfl,h⟩:=U5 h;have Z:=yA h;cases qd Z.1;have sa:=W ok Z.2 nd;refine Snd.of (λM s B H Q I q=>?_) (Th sa.pt) (λ_ _ _ z=>by cases z) rfl;refine UnaryOp_ (HB (sa.pe M s B H _ I q) λv s1 ⟨x,A,I1,r1,q1⟩=>?_);have q1:MF X.K x A (λc H2=>Q (.bl (!c)) H2):=q1;rw[IW]at q1;refine not_of (HB (J3 M s1 B A x v _ I1 r1 q1) λc s2 ⟨H2,I2,q2⟩=>?_);exact⟨.bl (!c),H2,I2,rfl,q2⟩|call f as ih =>
  intro X S E ok e h nd;obtain⟨p,es,ks,pos,rfl,hg,h⟩:=OD h;have Z:=yA h;cases Qr.mp Z.1;obtain⟨g1,g2,g3⟩:=MD hg;have hg:Gl X f:=show X.env.scope.names.lookup f=some .globalImplicit by rw[ok.sc];exact g1
  obtain⟨CX,k,a,fd,ps,F,hr,hm,hk,hb,hx,_⟩:=ok.fn f nd.1;have pa:=(ih ok Z.2 nd.2).pa es pos rfl;have st:=zD as Z.2;have pe:PE X (.Call (.Name f p) es [] pos) (wp X.K G.ev (.call f as) E).e:=by
   cases es with|nil=>exact RG (t5 (pos:=pos) (p:=p) F hr hg hm hk hb .nil hx g2) λB H Q q=>U1 as Z.2 q|cons e1 es1=>have st:=yA st;refine RG (Oa (pos:=pos) (p:=p) F hr hg hm hk hb .nil hx pa g2 (HA _ st.1) (HE st.2)) λB H Q q=>?_;show(wp X.K G.ev as E).a B H λvs A=>G.ev.sp f (vs++[]) A Q E;simp only[qM];exact q
  exact Snd.of pe (dD pe λ_=>rfl) (λ_ _ _ z=>by cases z) rfl
 |idx a b W O=>intro X S E ok e h nd;obtain⟨v,i,pos,rfl,h⟩:=mQ h;have Z:=yA h;have J:=yA Z.2;have pe:=Co (pos:=pos) (Ej ok.un) (W ok J.1 nd.1).pe (O ok J.2 nd.2).pe (Xa Z.1);exact Snd.of pe (dD pe λ_=>rfl) (λ_ _ _ z=>by cases z) rfl|nop=>intro X S E ok e h nd;exact(QG h).elim|lst as ih=>intro X S E ok e h nd;obtain⟨es,pos,rfl,h⟩:=PM h;have pa:=(ih ok h nd).pa es pos rfl;exact⟨Zi pa,eM,λ_ _ _ z=>(by cases z),λ_ _ z=>rS,λ_ _ z=>trivial⟩|tup as ih=>intro X S E ok e h nd;obtain⟨es,k,pos,rfl,h⟩:=jb h;exact Snd.lit (Ji ((ih ok h nd).pa es pos rfl)) rfl (λ_ _ _ z=>by cases z) rfl|dnew b=>intro X S E ok e h nd;obtain⟨ks,vs,pos,rfl,h⟩:=tS h;have Z:=yA h;cases Qr.mp Z.1;cases Qr.mp Z.2;exact Snd.lit La rfl (λ_ _ _ z=>by cases z) rfl|dsp a b W O =>
  intro X S E ok e h nd;obtain⟨ks,vs,pos,rfl,h⟩:=tS h;obtain⟨k,rfl,h⟩:=YB h;obtain⟨v,rfl,h⟩:=YB h;have Z:=yA h;cases k with|none=>exact(QG Z.1).elim|some k=>exact Snd.lit (Ha ok.un (W ok Z.1 nd.1).pe (O ok Z.2 nd.2).pe) rfl (λ_ _ _ z=>by cases z) rfl
 |ng i=>intro X S E ok e h nd;obtain⟨o,x,pos,rfl,h⟩:=U5 h;have Z:=yA h;cases qd Z.1;obtain⟨c,k,pos2,rfl,J⟩:=iE Z.2;obtain⟨j,rfl,J⟩:=c8 J;cases qd J;exact Snd.lit (λM s B H Q I q=>Uo (pos:=pos) (mh (X:=X)) (ta:=λ_ H Q=>Q (.int i) H) vV M s B H Q I ⟨i,rfl,q⟩) rfl (λ_ _ _ z=>by cases z) rfl|lrv a W=>intro X S E ok e h nd;obtain⟨p,es,ks,pos,rfl,hg,h⟩:=OD h;have Z:=yA h;cases Qr.mp Z.1;obtain⟨x,rfl,h⟩:=YB Z.2;obtain⟨p',es,ks,pos',rfl,hg',h⟩:=OD h;have J:=yA h;cases Qr.mp J.1;obtain⟨y,rfl,h5⟩:=YB J.2;have L:=yA h5;refine Snd.lit (Ki ok.calm (show X.env.scope.names.lookup _=some .globalImplicit by rw[ok.sc];exact(MD hg).1) (show X.env.scope.names.lookup _=some .globalImplicit by rw[ok.sc];exact(MD hg').1) (ok.no _ nd.1) (ok.no _ nd.2.1) (W ok L.2 nd.2.2).pe (HA _ L.1)) rfl (λ_ _ _ z=>by cases z) rfl|xz=>intro X S E ok e h nd;obtain⟨es,pos,rfl,h⟩:=PM h;cases Qr.mp h;exact Snd.args bQ trivial rfl rfl|nz a as W ih=>intro X S E ok e h nd;obtain⟨es,pos,rfl,h⟩:=PM h;obtain⟨e1,es1,rfl,h⟩:=zL h;have Z:=yA h;have J:=yA Z.2;have sa:=(W ok J.1 nd.1).pe;have ss:=ih ok J.2 nd.2;exact Snd.args (MI sa (ss.pa es1 pos rfl) (HA _ Z.1)) ⟨sa,ss.pas es1 pos rfl⟩ rfl rfl|bi f as ih =>
  intro X S E ok e h nd;obtain⟨p,es,ks,pos,rfl,hg,h⟩:=OD h;have Z:=yA h;cases Qr.mp Z.1;obtain⟨e1,es1,rfl,L⟩:=zL Z.2;obtain⟨g1,g2,g3⟩:=MD hg;have hg:Gl X f.nm:=show X.env.scope.names.lookup f.nm=some .globalImplicit by rw[ok.sc];exact g1
  have pa:=(ih ok L nd.2).pa _ pos rfl;have st:=yA (zD as L);have pe:PE X (.Call (.Name f.nm p) (e1::es1) [] pos) (wp X.K G.ev (.bi f as) E).e:=by
   rcases Bq ok.un ok.calm f with⟨id,hb,hc⟩| ⟨T,hb,hc⟩
   exact DM (pos:=pos) (p:=p) hc hg (ok.no _ nd.1) hb pa g3 g2 (HA _ st.1) (HE st.2);exact lZ (pos:=pos) (p:=p) hc hg (ok.no _ nd.1) hb pa g3 g2 (HA _ st.1) (HE st.2)
  exact Snd.of pe (dD pe λ_=>rfl) (λ_ _ _ z=>by cases z) rfl
 |isi a c W ihc =>
  intro X S E ok e h nd;obtain⟨p,es,ks,pos,rfl,hg,h⟩:=OD h;have Z:=yA h;cases Qr.mp Z.1;obtain⟨l,r,rfl,J⟩:=Po Z.2;have L:=yA J;have P:=yA L.2;have h5:=yA P.2;obtain⟨g1,g2,g3⟩:=MD hg;have hg:Gl X "isinstance":=show X.env.scope.names.lookup ("isinstance":Str)=some .globalImplicit by rw[ok.sc];exact g1
  have pe:PE X (.Call (.Name "isinstance" p) [l,r] [] pos) (wp X.K G.ev (.isi a c) E).e :=
   DM (pos:=pos) (p:=p) z8 hg (ok.no _ nd.1) (by kernel_rfl) (MI (W ok h5.1 nd.2.1).pe (MI (ihc ok h5.2 nd.2.2).pe bQ (HA _ P.1)) (HA _ L.1)) g3 g2 (HA _ L.1) (HE (by rw[qb,P.1];rfl))
  exact Snd.of pe (dD pe λ_=>rfl) (λ_ _ _ z=>by cases z) rfl
 |mt m o as iho ih =>
  intro X S E ok e h nd;obtain⟨v,ap,es,pos,rfl,J,h⟩:=GX h;have h0:=yA h;have Z:=yA h0.2;have L:=yA Z.2;have P:=yA L.2;have po:=(iho ok P.1 nd.1).pe;have pa:=(ih ok P.2 nd.2).pa _ pos rfl;have st:=zD as P.2;obtain⟨id,pat,sl,ty,mr⟩:=Jp (X:=X) ok.un m;have pe:PE X (.Call (.Attribute v m.nm ap) es [] pos) (wp X.K G.ev (.mt m o as) E).e:=by
   cases es with
   |nil =>
    refine RG (Xi (apos:=ap) (cpos:=pos) pat sl ty mr po (x6 Z.1) J) λB H Q q=>?_;have e:(λ(x:V) (A:Hp)=>L1 X.K m.ty x A/\jc X.K m x [] A Q)=λ(x:V) (A:Hp)=>L1 X.K m.ty x A/\(wp X.K G.ev as E).a B A λvs H2=>jc X.K m x vs H2 Q:=by funext x A;rw[propext (fU as h0.1 P.2)]
    show(wp X.K G.ev o E).e B H (λ(x:V) (A:Hp)=>L1 X.K m.ty x A/\jc X.K m x [] A Q);rw[e];exact q
   |cons e1 es1=>have s2:=yA st;refine Do (apos:=ap) (cpos:=pos) pat sl ty mr po pa (x6 Z.1) ?_ J (HA _ s2.1) (HE s2.2);rw[lU st];have hl':(e1::es1).length<20:=of_decide_eq_true L.1;show(true&&true&&decide ((e1::es1).length+0+0<30))=true;rw[dT (Qo hl' (by decide:20<=30):(e1::es1).length+0+0<30)];rfl
  exact Snd.of pe (dD pe λ_=>rfl) (λ_ _ _ z=>by cases z) rfl
 |slc a lo hi W ihl ihh =>
  intro X S E ok e h nd;obtain⟨v,sl,pos,rfl,h⟩:=mQ h;obtain⟨l,u,st,p2,rfl,h⟩:=pZ h;have Z:=yA h;have J:=yA Z.2;have L:=yA J.2;have part:∀(q:PX) (w:Option Expr),(∀{e:Expr},AB q S e=true->PE X e (wp X.K G.ev q E).e)->Oo w (isNop q) (λe=>!isNop q&&AB q S e)=true ->
    PO X w (λB H R=>(if isNop q=true then λ(R:Option Int->Hp->Prop)=>R none H else λR=>(wp X.K G.ev q E).e B H λl H2=>GM l H2 R) R):=by
   intro q w ihq hq;cases w with
   |none=>have e:isNop q=true:=hq;simp only[e,if_true];exact Va|some e' =>
    have q1:=yA hq;have e:isNop q=false:=(Q5 _).mp q1.1;simp only[e,Qs,if_false];intro M s B H Q I w;refine Ka (ihq q1.2) M s B H Q I ?_;show(wp X.K G.ev q E).e B H (λ(x:V) (A:Hp)=>∃i,x=.int i/\Q (some i) A);have e2:(λ(x:V) (A:Hp)=>∃i,x=.int i/\Q (some i) A)=λ(x:V) (A:Hp)=>GM x A Q:=by funext x A;exact(J5 x A Q).symm
    rw[e2];exact w
  cases QAR.mp Z.1;exact Snd.lit (u5 (pos:=pos) (p2:=p2) Ch (W ok J.1 nd.1).pe (part lo l (λhc=>(ihl ok hc nd.2.1).pe) L.1) (part hi u (λhc=>(ihh ok hc nd.2.2).pe) L.2)) rfl (λ_ _ _ z=>by cases z) rfl
 |comp mask tgs tg d its cond elt ihi ihc ihe =>
  intro X S E ok e h nd;obtain⟨e,gens,scope,pos,rfl,h⟩:=fV h;obtain⟨⟨t,Y,ifs,asy⟩,rfl,h⟩:=YB h;have h0:=yA h;have hi:=yA h0.2;have Z:=yA hi.2;have J:=yA Z.2;have L:=yA J.2;have P:=yA L.2;have h5:=yA P.2;have ea:asy=0:=qd h0.1;cases ea;have C:CompSt X.N X.env.scope scope tgs mask:=by rw[ok.N,ok.sc];exact CT Z.1
  obtain⟨n1,n2,n3,n4⟩:=nd;have pi:PI X t Y (DR λB H R=>(wp X.K G.ev its E).a B H λvs A=>cC X.K d vs A R):=zV ok P.1 n1 ((Q5 _).mp hi.1) λes p q=>ihi ok q n2;refine Snd.lit (Ma (pos:=pos) (g:=oG X.K tg) (tc:=if isNop cond=true then λ_ H Q=>Q true H else(wp X.K G.ev cond (λ_ _ _=>False)).t) (te:=(wp X.K G.ev elt (λ_ _ _=>False)).e) ok.calm pi C (λs H ex=>?_) (λx=>rV L.1 x)) rfl (λ_ _ _ z=>by cases z) rfl;have okc:=ok.comp scope tgs mask s H ex;refine⟨v5 okc (λz=>(QG z).elim) C.nd J.1,?_,(ihe okc h5.2 n4).pe⟩;have hif:=h5.1;cases ifs with|nil=>have e:isNop cond=true:=hif;simp only[e,if_true];exact sX|cons c r=>have q1:=yA hif;have q2:=yA q1.2;cases Qr.mp q1.1;have e:isNop cond=false:=(Q5 _).mp q2.1;simp only[e,Qs,if_false];exact rX (ihc okc q2.2 n3).pt
end
end L2.L3
namespace L2.L3
open PySem PySem.Spec PyProof.Rows
section
variable{s:Stmt}{f:Expr->List Stmt->List Stmt->Bool}
set_option genSizeOf false in
set_option genInjectivity false in
inductive PT where
 |nil|seq (s r:PT)
 |set (i:Nat) (e:PX)
 |expr (e:PX)|ret (e:PX)
 |ife (c:PX) (a b:PT)
 |for_ (tg:Tg) (ik:ItK) (its:PX) (body:PT)
 |own (i:Nat) (e:PX)|six (o i e:PX)|sdf (i:Nat) (k:PX)|whl (c:PX) (body:PT)|frz (is:LN) (s:PT)
def zS(K:QA):V->V->V->Hp->(Hp->Prop)->Prop:=λo i v H Q=>match o,i with
 | .ref p,.int k=>∃h j,H p=some (.lst h)/\XR h.length k=some j/\Q (DA H p (.lst (h.set j v)))|.ref p,.str z=>jm K H p (.str z) v Q|.ref p,.ref b=>jm K H p (.ref b) v Q|_,_=>False
def En(i:Nat)(k:PX):PX:=.mt .setd (.zz i) %[k,.dnew true|1]
def pv(J:It)(g:TG)(tb:TS)(D:Ends)(σ:St)(w:Hp):Prop:=∃W:Nat->Nat->St->Hp->Prop,(∃m,W 0 m σ w)/\∀i m σ H,W i m σ H ->
 (J.stop i H/\D.nx σ H)∨(J.go i H/\∃N:St->Hp->Prop,(∀h y,N h y->∃u,u < m/\W (i+1) u h y)/\∀x y,J.yld i H x y->g x σ y λz v=>tb { D with nx:=N,ct:=N,bk:=D.nx } z v)
def Al(K:QA)(xs:List Item)(st:Hp->Prop)(h:Tg)(tb:TS)(D:Ends)(σ:St)(H:Hp):Prop:=∀J,Yields J xs st->pv J (oG K h) tb D σ H
noncomputable def UR(K:QA)(Γ:Ev)(E:XK):PT->TS
 | .nil=>λD h H=>D.nx h H|.seq s r=>λD h H=>UR K Γ E s { D with nx:=λh H=>UR K Γ E r D h H } h H|.set i e=>λD h H=>(wp K Γ e E).e h H λx y=>D.nx (h.set i (some x)) y|.own i e=>λD h H=>(wp K Γ e E).e h H λx y=>D.nx (h.set i (some x)) y|.expr e=>λD h H=>(wp K Γ e E).e h H λ_ y=>D.nx h y|.ret e=>λD h H=>(wp K Γ e E).e h H D.rt|.ife c a b=>λD h H=>(wp K Γ c E).t h H λk y=>if k=true then UR K Γ E a D h y else UR K Γ E b D h y|.for_ l p u z=>λD h H=>(wp K Γ u E).a h H λj y=>cC K p j y λg st w=>Al K g st l (UR K Γ E z) D h w|.six o i e=>λD h H=>(wp K Γ e E).e h H λv y=>(wp K Γ o E).e h y λm w=>(wp K Γ i E).e h w λn X=>zS K m n v X λq=>D.nx h q|.sdf i k=>λD h H=>(wp K Γ (En i k) E).e h H λ_ y=>D.nx h y|.whl c z=>K3 (wp K Γ c E).t (UR K Γ E z)|.frz _ s=>UR K Γ E s
noncomputable def xF(G:Glob):PT->Prop
 | .nil=>True|.seq s r=>xF G s/\xF G r|.set _ e=>IA G e|.own _ e=>IA G e|.six o i e=>IA G o/\IA G i/\IA G e|.sdf i k=>IA G (En i k)|.whl c h=>IA G c/\xF G h|.frz _ s=>xF G s|.expr e=>IA G e|.ret e=>IA G e|.ife c a b=>IA G c/\xF G a/\xF G b|.for_ _ y x h=>jq G y/\IA G x/\xF G h
def RH:Expr->Bool
 | .ListComp _ _ _ _ | .SetComp _ _ _ _ | .DictComp _ _ _ _ _=>false
 |_=>true
noncomputable def LP(S:SC)(i:Nat)(x:Str):Bool:=S.N[i]?==some x&&(S.sc.names.lookup x==some .local||S.sc.names.lookup x==some .cell)
def AX:PT->Bool
 | .nil=>false|.seq _ _=>false|.frz _ s=>AX s|_=>true
def YX(s:Stmt)(f:List Expr->Expr->Bool):Bool:=match s with | .Assign h v _=>f h v|_=>false
def Ni(s:Stmt)(f:Expr->Bool):Bool:=match s with | .Expr v _=>f v|_=>false
def Xe(s:Stmt)(f:Option Expr->Bool):Bool:=match s with | .Return v _=>f v|_=>false
def Ue(s:Stmt)(f:Expr->List Stmt->List Stmt->Bool):Bool:=match s with | .If t x y _=>f t x y|_=>false
noncomputable def Be(s:Stmt)(f:Expr->Expr->List Stmt->List Stmt->Pos->Bool):Bool:=match s with | .For t it x y p=>f t it x y p|_=>false
noncomputable def No(s:Stmt)(f:Expr->List Stmt->List Stmt->Bool):Bool:=match s with | .While t x y _=>f t x y|_=>false
theorem oQ{f:List Expr->Expr->Bool}(h:YX s f=true):∃ts v p,s=.Assign ts v p/\f ts v=true:=by
 cases s with|Assign ts v p=>exact⟨ts,v,p,rfl,h⟩|_=>exact(QG h).elim
theorem B5{f:Expr->Bool}(h:Ni s f=true):∃v p,s=.Expr v p/\f v=true:=by
 cases s with|Expr v p=>exact⟨v,p,rfl,h⟩|_=>exact(QG h).elim
theorem yb{f:Option Expr->Bool}(h:Xe s f=true):∃v p,s=.Return v p/\f v=true:=by
 cases s with|Return v p=>exact⟨v,p,rfl,h⟩|_=>exact(QG h).elim
theorem zb(h:Ue s f=true):∃t x y p,s=.If t x y p/\f t x y=true:=by
 cases s with|If t x y p=>exact⟨t,x,y,p,rfl,h⟩|_=>exact(QG h).elim
theorem vb{f:Expr->Expr->List Stmt->List Stmt->Pos->Bool}(h:Be s f=true):∃t it x y p,s=.For t it x y p/\f t it x y p=true:=by
 cases s with|For t it x y p=>exact⟨t,it,x,y,p,rfl,h⟩|_=>exact(QG h).elim
theorem Hi(h:No s f=true):∃t x y p,s=.While t x y p/\f t x y=true:=by
 cases s with|While t x y p=>exact⟨t,x,y,p,rfl,h⟩|_=>exact(QG h).elim
noncomputable def setB(S:SC)(i:Nat)(c:Expr->Bool)(l:List Stmt):Bool:=RM l λst=>YX st λh v=>RM h λt=>PH t λx _=>LP S i x&&((RH v||S.sc.names.lookup x==some .cell)&&c v)
def Ie:PX->Bool
 | .comp _ _ _ _ _ _ _=>true|_=>false
noncomputable def xX(S:SC)(i:Nat)(e:PX)(l:List Stmt):Bool:=RM l λst=>YX st λy v=>RM y λt=>PH t λx z=>Mi v λw u sc h=>Bj S i x&&(S.sc.kind==.function&&(z.line==h.line&&(!(sc.names.any λ(n,k)=>n==x&&(k==.local||k==.cell))&&(Ie e&&AB e S (.ListComp w u sc h)))))
noncomputable def kR:PT->SC->List Stmt->Bool
 | .nil,_,l=>l.isEmpty|.seq s r,S,l=>cb l λst l=>AX s&&(kR s S [st]&&kR r S l)|.set i e,S,l=>setB S i (AB e S) l||xX S i e l
 | .own i e,S,l=>setB S i (AB e S) l||xX S i e l
 | .frz _ s,S,l=>kR s S l|.expr e,S,l=>RM l λst=>Ni st λv=>RH v&&AB e S v|.ret e,S,l=>RM l λst=>Xe st λv=>Oo v false (AB e S)|.ife c a b,S,l=>RM l λst=>Ue st λt x y=>AB c S t&&(kR a S x&&kR b S y)|.for_ tg ik its body,S,l=>RM l λst=>Be st λt it x y h=>y.isEmpty&&(bt true S tg t&&(ZS it&&(Rr (gF its) S ik (λg p=>AB its S (.List g p)) t it h&&kR body S x)))|.six o i e,S,l=>RM l λst=>YX st λu v=>RM u λt=>iX t λw z _=>iQ z&&(RH v&&(AB e S v&&(AB o S w&&AB i S z)))|.sdf i k,S,l=>RM l λst=>Ni st λv=>RH v&&AB (En i k) S v|.whl c body,S,l=>RM l λst=>No st λt x y=>y.isEmpty&&(AB c S t&&kR body S x)
structure OkS(X:Cx)(S:SC)(G:Glob)(E:XK):Prop extends OkX X S G E where
 po:PassesOwn (model X.prog X.w) X.A X.env X.xe
 nd:X.N.Nodup
 cel:∀x,X.fn x=true
end
section
variable{X:Cx}{S:SC}{G:Glob}{E:XK}
section
variable{i:Nat}{x:Str}{e:PX}
theorem aQ{e:Expr}{t:Option Expr}{n:Nat}{env:Env}(h:RH e=true):swapsWith e t n env=pure false:=by cases e<;>first|rfl|cases h
theorem y4(n:X.A.units+66<cLine):Dd X (zS X.K):=by
 intro y s w H o i v l m u Q I f g a h;cases o with
 |ref p =>
  cases i with|int k=>obtain⟨r,j,Z,Y,q⟩:=h;exact z4 y s w H _ _ v l m u Q I f g a ⟨p,r,k,j,rfl,rfl,Z,Y,q⟩|str z=>exact yS n y s w H _ _ v l m u Q I f g a h|ref b=>exact yS n y s w H _ _ v l m u Q I f g a h|_=>exact Qc h
 |_=>exact Qc h
theorem MY(ok:OkX X S G E)(h:LP S i x=true):X.N[i]?=some x/\Bm X.env.scope x:=by simp only[LP,QW,wX,beq_iff_eq]at h;rw[ok.N,ok.sc];exact⟨h.1,h.2⟩
theorem dZ(ok:OkS X S G E){v:Expr}{u pos:Pos}(g:LP S i x=true)(w:(RH v||S.sc.names.lookup x==some .cell)=true)(pe:PE X v (wp X.K G.ev e E).e) :
  PS X (.Assign [.Name x u] v pos) (UR X.K G.ev E (.set i e)):=by
 obtain⟨l,j⟩:=MY ok.toOkX g;refine Ah (pos':=u) ok.nd l j pe ?_ (.inl (ok.cel x));cases z:RH v with
 |true=>exact aQ z|false =>
  rw[z,QAd,beq_iff_eq,<- ok.sc]at w;have hk:X.env.kindOf x=some .cell:=w;have key:∀(b c:Bool) (y h:Nat),(pure (b&&X.env.kindOf x==some .local&&y==h&&!c):Sem Bool)=pure false:=λb c y h=>by
   rw[hk];have:(b&&(some NameKind.cell==some NameKind.local)&&y==h&&!c)=false:=by cases b<;>rfl
   rw[this]
  cases v with|ListComp m a sc f=>exact key _ _ _ _|SetComp m a sc f=>exact key _ _ _ _|DictComp k v a sc f=>exact key _ _ _ _|_=>cases z
theorem Jc(h:Ie e=true):∃a b c d f g k,e=.comp a b c d f g k:=by
 cases e with|comp a b c d f g k=>exact⟨a,b,c,d,f,g,k,rfl⟩|_=>exact(QG h).elim
theorem Ih(ok:OkS X S G E){l:List Stmt}(h:xX S i e l=true)(nd:IA G e):∃st,l=[st]/\PS X st (UR X.K G.ev E (.set i e)):=by
 obtain⟨st,e1,q1⟩:=YB h;obtain⟨ts,v,p,e2,q2⟩:=oQ q1;obtain⟨t,e3,q3⟩:=YB q2;obtain⟨x,px,e4,q4⟩:=eE q3;obtain⟨el,gs,sc,cp,e5,q5⟩:=fV q4;subst e1 e2 e3 e4 e5;have L:=yA q5;have J:=yA L.2;have I:=yA J.2;have F:=yA I.2;have B:=yA F.2;obtain⟨u,a,tg,ik,o,y,j,rfl⟩:=Jc B.1;refine⟨_,rfl,?_⟩;have h6:=B.2;obtain⟨el',O,m,pos,ee,g⟩:=fV h6;cases ee;obtain⟨⟨t,it,Y,Z⟩,rfl,g⟩:=YB g;have g0:=yA g;have M:=yA g0.2;have g1:=yA M.2;have g2:=yA g1.2;have g3:=yA g2.2;have R:=yA g3.2;have P:=yA R.2;have ea:Z=0:=qd g0.1;cases ea;have C:CompSt X.N X.env.scope sc a u:=by rw[ok.N,ok.sc];exact CT g1.1
 obtain⟨n1,n2,n3,n4⟩:=nd;obtain⟨l1,l2⟩:=kc L.1;have b:X.env.scope.names.lookup x=some .local:=by rw[ok.sc];exact l2
 refine Ja (g:=oG X.K tg) (tc:=if isNop y=true then λ_ H Q=>Q true H else(wp X.K G.ev y (λ_ _ _=>False)).t) (te:=(wp X.K G.ev j (λ_ _ _=>False)).e) ok.calm ok.nd (by rw[ok.N];exact l1) b (zV ok.toOkX (pos:=cp) R.1 n1 ((Q5 _).mp M.1) λes p q=>snd o ok.toOkX q n2) C (λs H ex=>?_) (λx=>rV g3.1 x) ?_;have w:=ok.toOkX.comp sc a u s H ex;refine⟨v5 w (λz=>(QG z).elim) C.nd g2.1,?_,(snd j w P.2 n4).pe⟩;have f:=P.1;cases Y with|nil=>have e:isNop y=true:=f;simp only[e,if_true];exact sX|cons c r=>have A:=yA f;have W:=yA A.2;cases Qr.mp A.1;have e:isNop y=false:=(Q5 _).mp W.1;simp only[e,Qs,if_false];exact rX (snd y w W.2 n3).pt
 have k1:X.env.scope.kind=.function:=by rw[ok.sc];exact qd J.1
 have k2:(X.env.blockKind==.function)=true:=by simp[Env.blockKind,k1,ScopeKind.isAnnotationScope]
 have k3:(X.env.kindOf x==some .local)=true:=by show(X.env.scope.names.lookup x==some .local)=true;rw[b];rfl
 show(pure (X.env.blockKind==.function&&X.env.kindOf x==some .local&&px.line==cp.line&&!(sc.names.any λ(n,k)=>n==x&&(k==.local||k==.cell))):Sem Bool)=pure true;rw[k2,k3,I.1,F.1];rfl
theorem Nt:∀(p:PT) {l:List Stmt},OkS X S G E->kR p S l=true->xF G p->HW X l (UR X.K G.ev E p)/\(AX p=true->∀st,l=[st]->PS X st (UR X.K G.ev E p)):=by
 intro p;have one:∀{p:PT}{st:Stmt},PS X st (UR X.K G.ev E p)->HW X [st] (UR X.K G.ev E p)/\(AX p=true->∀g,[st]=[g]->PS X g (UR X.K G.ev E p)):=λh=>⟨nX h,λ_ g e=>by cases e;exact h⟩
 have f:∀{i:Nat}{e:PX}{l:List Stmt},OkS X S G E->(setB S i (AB e S) l||xX S i e l)=true->IA G e->∃st,l=[st]/\PS X st (UR X.K G.ev E (.set i e)):=λ{i e l} ok h nd=>by
  rcases(wX _ _).mp h with h|h
  rotate_left
  exact Ih ok h nd;obtain⟨st,N,W⟩:=YB h;obtain⟨H,v,p,M,Z⟩:=oQ W;obtain⟨t,L,q3⟩:=YB Z;obtain⟨x,px,J,Y⟩:=eE q3;subst N M L J;have z:=yA Y;have u:=yA z.2;exact⟨_,rfl,dZ ok z.1 u.1 (snd e ok.toOkX u.2 nd).pe⟩
 induction p with
 |nil=>intro l ok h nd;cases Qr.mp h;exact⟨aa,λh=>(QG h).elim⟩|seq s r B C=>intro l ok h nd;obtain⟨st,l,rfl,h⟩:=zL h;have z:=yA h;have u:=yA z.2;exact⟨R4 ((B ok u.1 nd.1).2 z.1 st rfl) (C ok u.2 nd.2).1,λh=>(QG h).elim⟩|set i e=>intro l ok h nd;obtain⟨st,rfl,q⟩:=f ok h nd;exact one q|own i e=>intro l ok h nd;obtain⟨st,rfl,q⟩:=f ok h nd;exact one q|expr e=>intro l ok h nd;obtain⟨st,rfl,h⟩:=YB h;obtain⟨v,p,rfl,h⟩:=B5 h;have z:=yA h;exact one (pX (snd e ok.toOkX z.2 nd).pe (aQ z.1))|ret e =>
  intro l ok h nd;obtain⟨st,rfl,h⟩:=YB h;obtain⟨v,p,rfl,h⟩:=yb h;cases v with|none=>exact(QG h).elim|some v=>exact one (A4 (snd e ok.toOkX h nd).pe)
 |ife c a b I F=>intro l ok h nd;obtain⟨st,rfl,h⟩:=YB h;obtain⟨t,x,y,p,rfl,h⟩:=zb h;have z:=yA h;have u:=yA z.2;exact one (Ko (snd c ok.toOkX z.1 nd.1).pt (I ok u.1 nd.2.1).1 (F ok u.2 nd.2.2).1)|for_ tg ik A n j=>intro l ok h nd;obtain⟨st,rfl,h⟩:=YB h;obtain⟨t,it,x,y,p,rfl,h⟩:=vb h;have R:=yA h;have z:=yA R.2;have u:=yA z.2;have m:=yA u.2;cases Qr.mp R.1;exact one (Eh ok.po ok.calm (Ca ok.toOkX m.1 nd.1 λes p q=>snd A ok.toOkX q nd.2.1) (v5 ok.toOkX (λ_=>ok.cel) ok.nd z.1) (j ok m.2 nd.2.2).1 λx=>rV u.1 x)|six o i e =>
  intro l ok h nd;obtain⟨st,N,W⟩:=YB h;obtain⟨H,v,p,M,Z⟩:=oQ W;obtain⟨t,L,h⟩:=YB Z;subst N M L;obtain⟨ov,P,O,J,Y⟩:=mQ h;subst J;have z:=yA Y;have u:=yA z.2;have m:=yA u.2;have Q:=yA m.2;refine one (ji (snd e ok.toOkX m.1 nd.2.2).pe (si (pos:=O) (snd o ok.toOkX Q.1 nd.1).pe (snd i ok.toOkX Q.2 nd.2.1).pe (y4 ok.un) ?_) ?_ ?_ ?_);intro w;cases P<;>first|rfl|exact(QG z.1).elim
  show swapsWith v (some (.Subscript ov P O)) p.line X.env=pure false;exact aQ u.1;cases v<;>rfl;rfl
 |sdf i k=>intro l ok h nd;obtain⟨st,rfl,h⟩:=YB h;obtain⟨v,p,rfl,h⟩:=B5 h;have z:=yA h;exact one (pX (snd (En i k) ok.toOkX z.2 nd).pe (aQ z.1))|whl c n j=>intro l ok h nd;obtain⟨st,rfl,h⟩:=YB h;obtain⟨t,x,y,p,rfl,h⟩:=Hi h;have z:=yA h;have u:=yA z.2;cases Qr.mp z.1;exact one (T4 ok.po (snd c ok.toOkX u.1 nd.1).pt (j ok u.2 nd.2).1)|frz is s j=>intro l ok h nd;exact j ok h nd
end
end
noncomputable abbrev D:=PyData
set_option genInjectivity true in
inductive T where
 |d (x:D)|lst (ts:List T)|tup (ts:List T)|dct (b:Bool) (ks:List D) (ts:List T)
abbrev LT:=List T
mutual
def T.er:T->D
 | .d x=>x|.lst h=>.list (ersT h)|.tup h=>.tuple (ersT h)|.dct _ y h=>.dict (y.zip (ersT h))
def ersT:LT->List D
 |[]=>[]|t::r=>t.er::ersT r
end
theorem bB(ds:List D):ersT (ds.map T.d)=ds:=by
 induction ds with|nil=>rfl|cons d r h=>simp only[QS,ersT,h,T.er]
theorem C7:∀(ts:LT),(ersT ts).length=ts.length
 |[]=>rfl|t::r=>by simp only[ersT,QM,C7 r]
theorem yR:∀(ts:LT),ersT ts=ts.map T.er
 |[]=>rfl|t::r=>by simp only[ersT,QS,yR r]
def T.isD:T->Bool
 | .d _=>true|_=>false
set_option genInjectivity true in
inductive Sl where
 |own (t:T)|vz (t:T)
noncomputable abbrev kA:=List (Option Sl)
abbrev bD(x:D):Option Sl:=some (.vz (.d x))
abbrev oW(t:T):Option Sl:=some (.own t)
def YH(t:T)(n:Bool):Bool:=n||t.isD
def gA(t:T):Bool->T
 |true=>.d t.er|false=>t
theorem aA(x:D)(n:Bool):gA (.d x) n=.d x:=by cases n<;>rfl
theorem xY(t:T)(n:Bool):(gA t n).er=t.er:=by cases n<;>rfl
def oH:LT->Option (List D)
 |[]=>some []|.d x::r=>(oH r).map (x::·)|_::_=>none
theorem XA(ds:List D):oH (ds.map T.d)=some ds:=by
 induction ds with|nil=>rfl|cons d r h=>simp only[QS,oH,h,Q6]
theorem yM:∀{ts:LT}{ds:List D},oH ts=some ds->ts=ds.map T.d
 |[],ds,h=>by simp only[oH,Qp]at h;subst h;rfl|.d x::r,ds,h=>by
  simp only[oH]at h;cases e:oH r with|none=>rw[e]at h;cases h|some y=>rw[e]at h;cases h;rw[QS,yM e]
 | .lst _::_,_,h=>by simp[oH]at h|.tup _::_,_,h=>by simp[oH]at h|.dct _ _ _::_,_,h=>by simp[oH]at h
def oD:List (D×D)->Option Bool
 | (.tuple _,_)::_=>some true|(.str _,_)::_=>some false|_=>none
def UD:Bool->D->Prop
 |true,k=>∃q,k=tD (.t q)/\c6 (.t q)<=6|false,k=>∃z,k=.str z
open Classical in
def cA:List D->D->Option Nat
 |[],_=>none|x::r,k=>if x=k then some 0 else(cA r k).map (·+1)
noncomputable def IJ(b:Bool)(ks:List D)(ts:LT)(k:D)(t:T):T:=match cA ks k with
 |some n=>.dct b ks (ts.set n t)|none=>.dct b (ks++[k]) (ts++[t])
theorem BC:∀{ks:List D}{k:D}{n:Nat},cA ks k=some n->ks[n]?=some k
 |[],_,_,h=>by cases h|x::r,k,n,h=>by
  unfold cA at h;by_cases e:x=k;rw[if_pos e]at h;cases h;rw[e];rfl;rw[if_neg e]at h;cases q:cA r k with|none=>rw[q]at h;cases h|some m=>rw[q]at h;cases h;simpa using BC q
theorem jB:∀{ks:List D}{k:D},cA ks k=none↔k∉ks
 |[],_=>by simp[cA]|x::r,k=>by unfold cA;by_cases e:x=k;simp[e];rw[if_neg e,Option.map_eq_none_iff,jB];simp[Q3 e]
theorem xW{ks:List D}{k:D}:(cA ks k).isSome=true↔k∈ks:=by
 cases h:cA ks k with|none=>simp[jB.mp h]|some n=>simp[qU (BC h)]
set_option genInjectivity true in
inductive Vw where
 |sc (x:D)|ls (ts:LT)|tp (ts:LT)|dc (b:Bool) (ks:List D) (ts:LT)
noncomputable def yC(kvs:List (D×D)):Vw:=match oD kvs with
 |some b=>.dc b (kvs.map (·.1)) (kvs.map λp=>T.d p.2)|none=>.sc (.dict kvs)
noncomputable def T.vw:T->Vw
 | .lst h=>.ls h|.tup h=>.tp h|.dct b u h=>.dc b u h|.d x=>match x with
  | .list z=>.ls (z.map T.d)|.tuple z=>.tp (z.map T.d)|.dict y=>yC y|.none=>.sc .none|.bool b=>.sc (.bool b)|.int i=>.sc (.int i)|.str s=>.sc (.str s)
def ZE(ts:LT):T:=match oH ts with
 |some h=>.d (.tuple h)|none=>.tup ts
noncomputable abbrev XD:=Value×List (Str×D)
noncomputable abbrev XE:=XD->Prop
noncomputable abbrev TK:=T->Bool->kA->Prop
inductive Md where
 |uz|yz|vz|chg
 deriving DecidableEq
structure PSp where
 md:List Md
 run:LT->(T->LT->Prop)->XE->Prop
 mono:∀{ts:LT}{Q Q':T->LT->Prop}{E E':XE},(∀t os,Q t os->Q' t os)->(∀x,E x->E' x)->run ts Q E->run ts Q' E'
structure PEv where
 sp:Str->PSp
 va:Str->Option D
def binT(w:Operator)(x y:Vw)(Q:T->Bool->Prop):Prop:=match w with
 | .Add=>(∃i j,x=.sc (.int i)/\y=.sc (.int j)/\Q (.d (.int (i+j))) false)∨(∃a b,x=.sc (.str a)/\y=.sc (.str b)/\a.length+b.length<=sizeLine/\Q (.d (.str (a++b))) false) ∨
  (∃v u z h,x=.ls v/\y=.ls u/\oH v=some z/\oH u=some h/\z.length+h.length<=sizeLine/\Q (.lst ((z++h).map T.d)) true)
 | .Sub=>∃i j,x=.sc (.int i)/\y=.sc (.int j)/\Q (.d (.int (i - j))) false|.Mult=>∃i j,x=.sc (.int i)/\y=.sc (.int j)/\IntMulOk i j/\Q (.d (.int (i * j))) false|.FloorDiv=>∃i j,x=.sc (.int i)/\y=.sc (.int j)/\(0<j/\j<2 ^ 200)/\Q (.d (.int (i / j))) false|.Mod=>∃i j,x=.sc (.int i)/\y=.sc (.int j)/\0<j/\Q (.d (.int (i % j))) false|_=>False
section
variable{Q:T->Bool->Prop}
theorem Zl(i j:Int):binT .Add (.sc (.int i)) (.sc (.int j)) Q=Q (.d (.int (i+j))) false:=by simp[binT]
theorem Yl(a b:Str):binT .Add (.sc (.str a)) (.sc (.str b)) Q=(a.length+b.length<=sizeLine/\Q (.d (.str (a++b))) false):=by simp[binT]
theorem Jl(i j:Int):binT .Sub (.sc (.int i)) (.sc (.int j)) Q=Q (.d (.int (i - j))) false:=by simp[binT]
theorem il(i j:Int):binT .Mult (.sc (.int i)) (.sc (.int j)) Q=(IntMulOk i j/\Q (.d (.int (i * j))) false):=by simp[binT]
theorem ul(i j:Int):binT .FloorDiv (.sc (.int i)) (.sc (.int j)) Q=((0<j/\j<2 ^ 200)/\Q (.d (.int (i / j))) false):=by simp[binT]
theorem xl(i j:Int):binT .Mod (.sc (.int i)) (.sc (.int j)) Q=(0<j/\Q (.d (.int (i % j))) false):=by simp[binT]
end
section
variable{Q:T->Prop}
noncomputable def Zs:D->D->(Bool->Prop)->Prop
 | .int i,.int j,Q=>Q (decide (i=j))|.str x,.str y,Q=>Q (decide (x=y))|.bool x,.bool y,Q=>Q (decide (x=y))|a,b,Q=>NF a/\NF b/\Q (Qv a b)
def FB:D->Bool
 | .none | .bool _ | .int _ | .str _=>true
 |_=>false
noncomputable def Sr:D->D->(Bool->Prop)->Prop
 | .str x,.str y,Q=>Q (inStr y x)|a,.list ds,Q|a,.tuple ds,Q=>((FB a=true/\ds.all FB=true)∨(NF a/\NF (.list ds)))/\Q (ds.any λy=>Qv y a)
 |a,.dict kvs,Q=>∃b,oD kvs=some b/\UD b a/\Q (cA (kvs.map (·.1)) a).isSome|_,_,_=>False
def mZ(f:Int->Int->Bool):D->D->(Bool->Prop)->Prop
 | .int i,.int j,Q=>Q (f i j)|_,_,_=>False
def c7:D->Bool
 | .none=>true|_=>false
def z0:D->D->(Bool->Prop)->Prop
 |a,.none,Q=>Q (c7 a)|.bool a,.bool b,Q=>Q (decide (a=b))|_,_,_=>False
noncomputable def mW:CmpOp->D->D->(Bool->Prop)->Prop
 | .Eq,a,b,Q=>Zs a b Q|.NotEq,a,b,Q=>Zs a b λk=>Q (!k)|.Lt,a,b,Q=>mZ (λi j=>decide (i<j)) a b Q|.LtE,a,b,Q=>mZ (λi j=>decide (i<=j)) a b Q|.Gt,a,b,Q=>mZ (λi j=>decide (j<i)) a b Q|.GtE,a,b,Q=>mZ (λi j=>decide (j<=i)) a b Q|.In,a,b,Q=>Sr a b Q|.NotIn,a,b,Q=>Sr a b λk=>Q (!k)|.Is,a,b,Q=>z0 a b Q|.IsNot,a,b,Q=>z0 a b λk=>Q (!k)
def Ac(h:CmpOp)(x:D)(y:T)(Q:Bool->Prop):Prop:=match y with
 | .dct b u _=>UD b x/\((h=.In/\Q (cA u x).isSome)∨(h=.NotIn/\Q (!(cA u x).isSome)))|.d y=>mW h x y Q|.lst z=>mW h x (.list (ersT z)) Q|.tup z=>mW h x (.tuple (ersT z)) Q
noncomputable def sI:D->(Bool->Prop)->Prop
 | .bool b,Q=>Q b|.int i,Q=>Q (i != 0)|.none,Q=>Q false|.str z,Q=>z.length<=sizeLine/\Q ((z.length:Int) != 0)|.list ds,Q=>Q (!ds.isEmpty)|.tuple ds,Q=>Q (!ds.isEmpty)|_,_=>False
def Ul:D->(Bool->Prop)->Prop
 | .bool b,Q=>Q b|_,_=>False
def ZT(x:Vw)(k:D)(Q:T->Prop):Prop:=∃b y h n t,x=.dc b y h/\UD b k/\cA y k=some n/\h[n]?=some t/\Q t
def kO(x y:Vw)(Q:T->Prop):Prop:=(∃z i c,x=.sc (.str z)/\y=.sc (.int i)/\z.length<=sizeLine/\YD z.cps.toList i=some c/\Q (.d (.str ⟨#[c]⟩))) ∨
 (∃h i t,x=.ls h/\y=.sc (.int i)/\YD h i=some t/\Q t)∨(∃h i t,x=.tp h/\y=.sc (.int i)/\YD h i=some t/\Q t)
theorem uk(z:Str)(i:Int):kO (.sc (.str z)) (.sc (.int i)) Q=(z.length<=sizeLine/\∃c,YD z.cps.toList i=some c/\Q (.d (.str ⟨#[c]⟩))):=by simp[kO]
theorem l7(ts:LT)(i:Int):kO (.ls ts) (.sc (.int i)) Q=∃t,YD ts i=some t/\Q t:=by simp[kO]
theorem vk(ts:LT)(i:Int):kO (.tp ts) (.sc (.int i)) Q=∃t,YD ts i=some t/\Q t:=by simp[kO]
noncomputable def gJ{α:Type}(xs:List α)(h x:Option Int):List α:=(xs.drop (HT.sIx xs.length 0 h)).take (HT.sIx xs.length xs.length x - HT.sIx xs.length 0 h)
def RJ(x:Vw)(y u:Option Int)(Q:T->Bool->Prop):Prop:=(∃z,x=.sc (.str z)/\z.length<=sizeLine/\Q (.d (.str (wo z y u))) false)∨(∃h v,x=.ls h/\oH h=some v/\Q (.lst ((gJ v y u).map T.d)) true)
end
section
variable{Q:T->Bool->Prop}{h x:Option Int}
theorem Bh(z:Str):RJ (.sc (.str z)) h x Q=(z.length<=sizeLine/\Q (.d (.str (wo z h x))) false):=by simp[RJ]
theorem T3(ts:LT):RJ (.ls ts) h x Q=∃ds,oH ts=some ds/\Q (.lst ((gJ ds h x).map T.d)) true:=by simp[RJ]
end
def kG:D->(Option Int->Prop)->Prop
 | .int i,Q=>Q (some i)|_,_=>False
noncomputable def isD(n:String):D->Option Bool
 | .none=>some false|.bool _=>some (n == "bool" || n == "int")
 | .int _=>some (n == "int")|.str _=>some (n == "str")|.list _=>some (n == "list")|.tuple _=>some (n == "tuple")|.dict _=>none
noncomputable def vP(n:String):Bool:=n == "bool" || n == "int" || n == "str" || n == "list" || n == "tuple" || n == "ValueError"
def HC(l:LS):D:=.list (l.map PyData.str)
def Y1(f:Bi)(vs:List Vw)(Q:T->Bool->Prop):Prop:=match f with
 | .len=>(∃z,vs=[.sc (.str z)]/\z.length<=sizeLine/\Q (.d (.int z.length)) false)∨(∃h,vs=[.ls h]/\Q (.d (.int h.length)) false)∨(∃h,vs=[.tp h]/\Q (.d (.int h.length)) false)|.any=>∃h,∃bs:List Bool,vs=[.ls h]/\oH h=some (bs.map PyData.bool)/\Q (.d (.bool (bs.any id))) false|.sorted=>(∃h,∃v:LS,vs=[.ls h]/\oH h=some (v.map PyData.str)/\v.length<64/\∀x:LS,x.Perm v->sortedS x=true->Q (.lst ((x.map PyData.str).map T.d)) true) ∨
  (∃h,∃ls:List (LS),vs=[.ls h]/\oH h=some (ls.map HC)/\ls.length<64/\∀u:List (LS),u.Perm ls->Q (.lst ((u.map HC).map T.d)) true) ∨
  (∃h,∃w:LJ,vs=[.ls h]/\oH h=some (w.map PyData.int)/\w.length<64/\∀y:LJ,y.Perm w->y.Pairwise (·<=·)->Q (.lst ((y.map PyData.int).map T.d)) true)
 | .min=>∃i j,vs=[.sc (.int i),.sc (.int j)]/\Q (.d (.int (if j<i then j else i))) false|.tuple=>∃h k,vs=[.ls h]/\oH h=some k/\Q (.d (.tuple k)) false
section
variable{Q:T->Bool->Prop}
theorem Hf(ts:LT):Y1 .len [.ls ts] Q=Q (.d (.int ts.length)) false:=by simp[Y1]
theorem Cq(ts:LT):Y1 .any [.ls ts] Q=∃bs:List Bool,oH ts=some (bs.map PyData.bool)/\Q (.d (.bool (bs.any id))) false:=by simp[Y1]
theorem Vl(i j:Int):Y1 .min [.sc (.int i),.sc (.int j)] Q=Q (.d (.int (if j<i then j else i))) false:=propext ⟨λ⟨_,_,e,h⟩=>by cases e;exact h,λh=>⟨_,_,rfl,h⟩⟩
theorem Gf(ts:LT):Y1 .tuple [.ls ts] Q=∃ds,oH ts=some ds/\Q (.d (.tuple ds)) false:=by simp[Y1]
end
section
variable{N:T->T->Prop}
def Nr(m:Mt)(x:Vw)(vs:List Vw)(Q:T->Bool->Prop):Prop:=match m with
 | .index=>∃z y i h,x=.sc (.str z)/\vs=[.sc (.str y)]/\Q8 z y 0 z.length 1=i::h/\Q (.d (.int ((i:Nat):Int))) false|_=>False
def ja(x:Vw)(Q:T->Bool->Prop):Prop:=∃h y,x=.ls h/\oH h=some y/\Q (.lst (y.reverse.map T.d)) true
def Vw.isS:Vw->Bool
 | .sc (.str _)=>true|_=>false
def isMut:Mt->Bool
 | .append=>true|.pop=>true|.setd=>true|.extend=>true|.index=>false
def Y6(m:Mt)(x:Vw):Bool:=x.isS&&!isMut m
def eL(m:Mt)(s:T)(us:LT)(N:T->T->Prop):Prop:=match m with
 | .append=>∃h t,s=.lst h/\us=[t]/\h.length<sizeLine/\N (.d .none) (.lst (h++[t]))|.pop=>∃h i k t,s=.lst h/\us=[.d (.int i)]/\XR h.length i=some k/\h[k]?=some t/\N t (.lst (h.eraseIdx k))|.extend=>∃h x,s=.lst h/\us=[.lst x]/\h.length+x.length<=sizeLine/\N (.d .none) (.lst (h++x))|_=>False
theorem i6(ts:LT)(t:T):eL .append (.lst ts) [t] N=(ts.length<sizeLine/\N (.d .none) (.lst (ts++[t]))):=by simp[eL]
theorem t6(ts vs:LT):eL .extend (.lst ts) [.lst vs] N=(ts.length+vs.length<=sizeLine/\N (.d .none) (.lst (ts++vs))):=by simp[eL]
theorem e6(ts:LT)(i:Int):eL .pop (.lst ts) [.d (.int i)] N=∃k t,XR ts.length i=some k/\ts[k]?=some t/\N t (.lst (ts.eraseIdx k)):=by simp[eL]
def NV:Mt->Bool
 | .append=>true|.pop=>true|.setd=>false|.extend=>true|.index=>false
def SI(m:Mt):T->Bool
 | .lst _=>NV m|_=>false
def Vw.seq:Vw->Option (LT)
 | .ls h=>some h|.tp h=>some h|_=>none
def DB(u:ItK)(vs:List Vw)(R:LT->Prop):Prop:=match u with
 | .val=>(∃h,vs=[.ls h]/\R h)∨(∃h,vs=[.tp h]/\R h)∨(∃y h,vs=[.dc true y h]/\R (y.map T.d))|.rng1=>∃j,vs=[.sc (.int j)]/\(-(2 ^ 62)<=j/\j<2 ^ 62)/\R ((Ql j.toNat).map λ(i:Nat)=>.d (.int (i:Int)))|.rev=>∃h,vs=[.ls h]/\R h.reverse|.enum=>∃x h z,vs=[x]/\x.seq=some h/\oH h=some z/\R (z.zipIdx.map λp=>.d (.tuple [.int (p.2:Int),p.1]))|.itm=>(∃y h z,vs=[.dc true y h]/\oH h=some z/\R ((y.zip z).map λp=>.d (.tuple [p.1,p.2])))∨(vs=[.sc (.dict [])]/\R [])
end
section
variable{R:LT->Prop}
theorem kJ(ts:LT):DB .val [.ls ts] R=R ts:=by simp[DB]
theorem v7(ts:LT):DB .val [.tp ts] R=R ts:=by simp[DB]
theorem k7(j:Int):DB .rng1 [.sc (.int j)] R=((-(2 ^ 62)<=j/\j<2 ^ 62)/\R ((Ql j.toNat).map λ(i:Nat)=>.d (.int (i:Int)))):=by simp[DB]
theorem xT(x:Vw):DB .enum [x] R=∃ts ds,x.seq=some ts/\oH ts=some ds/\R (ds.zipIdx.map λp=>.d (.tuple [.int (p.2:Int),p.1])):=by apply propext;constructor;rintro⟨_,ts,ds,⟨⟩,h⟩;exact⟨ts,ds,h⟩;rintro⟨ts,ds,h⟩;exact⟨_,ts,ds,rfl,h⟩
theorem vT(ks:List D)(ts:LT):DB .itm [.dc true ks ts] R=∃ds,oH ts=some ds/\R ((ks.zip ds).map λp=>.d (.tuple [p.1,p.2])):=by apply propext;constructor;rintro(⟨_,_,ds,⟨⟩,h⟩| ⟨⟨⟩,_⟩);exact⟨ds,h⟩;rintro⟨ds,h⟩;exact .inl ⟨_,_,ds,rfl,h⟩
theorem kT(ks:List D)(ts:LT):DB .val [.dc true ks ts] R=R (ks.map T.d):=by simp[DB]
theorem z7:DB .itm [.sc (.dict [])] R=R []:=by apply propext;constructor;rintro(⟨_,_,x,⟨⟩,h⟩| ⟨_,h⟩);exact h;exact λh=>.inr ⟨rfl,h⟩
end
noncomputable def NC:LN->LT->kA->Option kA
 |[],[],ρ=>some ρ|i::is,t::ts,ρ=>NC is ts (ρ.set i (some (.vz t)))|_,_,_=>none
noncomputable def gP:Tg->T->kA->(kA->Prop)->Prop
 | .nm i,t,ρ,Q=>Q (ρ.set i (some (.vz t)))|.tp is,t,ρ,Q=>match t.vw with
  | .tp x=>∃h,NC is x ρ=some h/\Q h|_=>False
def Tg.ix:Tg->LN
 | .nm i=>[i]|.tp h=>h
def X4:PX->Option Nat
 | .zz i=>some i|_=>none
def xG:Option Sl->Option Sl
 |some (.own t)=>some (.vz t)|s=>s
def lockA(ρ:kA):kA:=ρ.map xG
def lock:LN->kA->kA
 |[],ρ=>ρ|i::is,ρ=>lock is (ρ.modify i xG)
def yW:Option Sl->Option Sl
 |some (.own t)=>bD t.er|s=>s
def frzAt:LN->kA->kA
 |[],ρ=>ρ|i::is,ρ=>frzAt is (ρ.modify i yW)
def xN:Option Sl->Option Sl
 |some (.vz t)=>if t.isD=true then some (.vz t) else none|s=>s
def kill:LN->kA->kA
 |[],ρ=>ρ|i::is,ρ=>kill is (ρ.modify i xN)
def clear:LN->kA->kA
 |[],ρ=>ρ|i::is,ρ=>clear is (ρ.set i none)
noncomputable def FA:LN->kA->Option (LT)
 |[],_=>some []|i::is,ρ=>match ρ[i]? with
  |some (some (.own t))=>(FA is ρ).map (t::·)|_=>none
noncomputable def jC:LN->LT->kA->Option kA
 |[],[],ρ=>some ρ|i::is,t::ts,ρ=>jC is ts (ρ.set i (some (.own t)))|_,_,_=>none
def uC:List Bool->kA->kA
 |b::m,v::ρ=>(if b then none else v)::uC m ρ|_,ρ=>ρ
def xO(k:Nat)(h:List Bool)(ρ:kA):kA:=QAL k none++uC h ρ
def sq{α:Type}(x:T)(ρ:kA)(b:kA->(α->kA->Prop)->Prop)(K:α->kA->Prop):Prop :=
 if x.isD=true then b ρ K else b (lockA ρ) λy _=>K y ρ
def cu(f:kA->TK->Prop):kA->(T×Bool->kA->Prop)->Prop:=λy K=>f y λx n h=>K (x,n) h
def LF:List (T×Bool)->LT
 |[]=>[]|p::r=>p.1::LF r
def vO:List (T×Bool)->LT
 |[]=>[]|p::r=>gA p.1 p.2::vO r
def SB:List (T×Bool)->List Vw
 |[]=>[]|p::r=>(gA p.1 p.2).vw::SB r
def DE:List (T×Bool)->Bool
 |[]=>true|p::r=>YH p.1 p.2&&DE r
def sR:List (T×Bool)->Bool
 |[]=>true|p::r=>YH p.1 p.2&&sR r
noncomputable def UF(t:T):Option T:=match t.vw with
 | .ls h=>(oH h).map λx=>.lst (x.map T.d)|_=>if t.isD=true then some t else none
noncomputable def ZA:List Md->List (T×Bool)->LT->Option (LT)
 |_,[],[]=>some []|_,[],_::_=>none|md,(x,n)::xs,os=>match md.headD .uz with
  | .uz=>match gA x n with
   | .d d=>(ZA md.tail xs os).map (.d d::·)|_=>none
  | .yz=>match UF (gA x n) with
   |some t=>(ZA md.tail xs os).map (t::·)|none=>none
  | .vz=>(ZA md.tail xs os).map (gA x n::·)|.chg=>match os with
   |o::os=>(ZA md.tail xs os).map (o::·)|[]=>none
noncomputable def CB:List Md->LT->LT
 |_,[]=>[]|md,t::ts=>match md.headD .uz with
  | .chg=>t::CB md.tail ts|_=>CB md.tail ts
def bA:List Md->PX->LN
 | .chg::md,.nz (.zz j) as=>j::bA md as|_::md,.nz _ as=>bA md as|_,_=>[]
def Md.isMut:Md->Bool
 | .chg=>true|_=>false
structure D3 where
 e:kA->TK->Prop
 t:kA->(Bool->kA->Prop)->Prop
 a:List Md->kA->(List (T×Bool)->kA->Prop)->Prop
def zE:D3:=⟨λ_ _=>False,λ_ _=>False,λ_ _ _=>False⟩
noncomputable def MC(body:T->(Option T->Prop)->Prop):LT->LT->(LT->Prop)->Prop
 |[],acc,Q=>acc.length<=sizeLine/\Q acc|x::xs,acc,Q=>body x fun
  |some y=>acc.length<sizeLine/\MC body xs (acc++[y]) Q|none=>MC body xs acc Q
def nG(v:Tg)(u:kA)(c:kA->(Bool->kA->Prop)->Prop)(e:kA->TK->Prop)(x:T)(R:Option T->Prop):Prop :=
 gP v x u λz=>c z λb h=>if b=true then e h λy n _=>YH y n=true/\R (some y) else R none
def jk:PX->D->(Bool->Prop)->Prop
 | .bty _ n,d,Q=>∃b,isD n d=some b/\vP n=true/\Q b|_,_,_=>False
noncomputable def Lr:Option (Option Sl)->(T->Prop)->Prop
 |some (some (.own t)),Q=>Q t|some (some (.vz t)),Q=>Q t|some none,_=>False|none,_=>False
noncomputable def OC:Option (Option Sl)->(T->Prop)->Prop
 |some (some (.own t)),Q=>Q t|some (some (.vz _)),_=>False|some none,_=>False|none,_=>False
def de:Option Nat->(Nat->Prop)->Prop
 |none,_=>False|some j,Q=>Q j
def b7:PX->Bool
 | .zz _=>true|_=>false
def pe(Ψ:PEv):PX->XE->D3
 | .zz i,_=>let e:kA->TK->Prop:=λv Q=>Lr v[i]? λt=>Q t false v
  ⟨e,λv Q=>e v λt _ h=>sI t.er λb=>Q b h,zE.a⟩
 | .int i,_=>⟨λv Q=>Q (.d (.int i)) false v,λv Q=>Q (i != 0) v,zE.a⟩|.str x,_=>⟨λv Q=>Q (.d (.str x)) false v,zE.t,zE.a⟩|.bl b,_=>⟨λv Q=>Q (.d (.bool b)) false v,λv Q=>Q b v,zE.a⟩|.non,_=>⟨λv Q=>Q (.d .none) false v,λv Q=>Q false v,zE.a⟩|.glo x,_=>let e:kA->TK->Prop:=λv Q=>match Ψ.va x with
   |some d=>Q (.d d) false v|none=>False
  ⟨e,λv Q=>e v λt _ h=>sI t.er λb=>Q b h,zE.a⟩
 | .bty _ _,_=>zE|.bin op a b,E=>let e:kA->TK->Prop:=λv Q=>(pe Ψ a E).e v λx n h=>sq (gA x n) h (cu (pe Ψ b E).e) λy w=>binT op (gA x n).vw (gA y.1 y.2).vw λz k=>Q z k w
  ⟨e,λv Q=>e v λt _ h=>sI t.er λb=>Q b h,zE.a⟩
 | .cmp op a b,E=>let t:kA->(Bool->kA->Prop)->Prop:=λv Q=>(pe Ψ a E).e v λx n h=>sq (gA x n) h (cu (pe Ψ b E).e) λy w=>Ac op x.er (gA y.1 y.2) λk=>Q k w
  ⟨λv Q=>t v λk h=>Q (.d (.bool k)) false h,t,zE.a⟩
 | .and a b,E=>⟨λv Q=>(pe Ψ a E).e v λx _ h=>Ul x.er λc=>if c=true then(pe Ψ b E).e h Q else Q (.d (.bool false)) false h,
   λv Q=>(pe Ψ a E).t v λc h=>if c=true then(pe Ψ b E).t h Q else Q false h,zE.a⟩
 | .or a b,E=>⟨λv Q=>(pe Ψ a E).e v λx _ h=>Ul x.er λc=>if c=true then Q (.d (.bool true)) false h else(pe Ψ b E).e h Q,
   λv Q=>(pe Ψ a E).t v λc h=>if c=true then Q true h else(pe Ψ b E).t h Q,zE.a⟩
 | .not a,E=>⟨λv Q=>(pe Ψ a E).e v λx _ h=>sI x.er λc=>Q (.d (.bool (!c))) false h,λv Q=>(pe Ψ a E).t v λc h=>Q (!c) h,zE.a⟩|.call f as,E=>let e:kA->TK->Prop:=λv Q=>∃Z,FA (bA (Ψ.sp f).md as) v=some Z/\(bA (Ψ.sp f).md as).Nodup/\(pe Ψ as E).a (Ψ.sp f).md (clear (bA (Ψ.sp f).md as) v) λg h=>∃Y,ZA (Ψ.sp f).md g Z=some Y/\(Ψ.sp f).run Y (λr s=>∃w,jC (bA (Ψ.sp f).md as) s h=some w/\Q r true w) E
  ⟨e,λv Q=>e v λt _ h=>sI t.er λb=>Q b h,zE.a⟩
 | .isi a c,E=>let t:kA->(Bool->kA->Prop)->Prop:=λv Q=>(pe Ψ a E).e v λx _ h=>jk c x.er λb=>Q b h
  ⟨λv Q=>t v λk h=>Q (.d (.bool k)) false h,t,zE.a⟩
 | .bi f as,E=>let e:kA->TK->Prop:=λv Q=>(pe Ψ as E).a [] v λg h=>Y1 f (SB g) λz k=>Q z k h
  ⟨e,λv Q=>e v λt _ h=>sI t.er λb=>Q b h,zE.a⟩
 | .mt m o as,E=>let e:kA->TK->Prop:=λv Q=>if isMut m=true then de (X4 o) λj=>OC v[j]? λt=>SI m t=true/\(pe Ψ as E).a [] (v.set j (some (.vz t))) λg w=>DE g=true/\w[j]?=some (some (.vz t))/\eL m t (LF g) λr K=>Q r true (w.set j (some (.own K))) else(pe Ψ o E).e v λx n h=>Y6 m (gA x n).vw=true/\sq (gA x n) h ((pe Ψ as E).a []) λg w=>Nr m (gA x n).vw (SB g) λz k=>Q z k w
  ⟨e,λv Q=>e v λt _ h=>sI t.er λb=>Q b h,zE.a⟩
 | .idx a b,E=>let e:kA->TK->Prop:=λv Q=>(pe Ψ a E).e v λx n h=>sq (gA x n) h (cu (pe Ψ b E).e) λy w=>(kO (gA x n).vw (gA y.1 y.2).vw λz=>Q z false w)∨(ZT (gA x n).vw y.1.er λz=>Q z false w)
  ⟨e,λv Q=>e v λt _ h=>sI t.er λb=>Q b h,zE.a⟩
 | .slc a lo hi,E=>⟨λv Q=>(pe Ψ a E).e v λx n h =>
   sq (α:=Option Int) (gA x n) h (if isNop lo=true then λv (R:Option Int->kA->Prop)=>R none v else λv R=>(pe Ψ lo E).e v λl _ w=>kG l.er λo=>R o w) λl w =>
   sq (α:=Option Int) (gA x n) w (if isNop hi=true then λv (R:Option Int->kA->Prop)=>R none v else λv R=>(pe Ψ hi E).e v λu _ p=>kG u.er λo=>R o p) λu p=>RJ (gA x n).vw l u λz k=>Q z k p,zE.t,zE.a⟩
 | .nop,_=>zE|.lst as,E=>⟨λv Q=>(pe Ψ as E).a [] v λg h=>DE g=true/\g.length<=sizeLine/\Q (.lst (LF g)) true h,zE.t,zE.a⟩|.tup as,E=>⟨λv Q=>(pe Ψ as E).a [] v λg h=>DE g=true/\g.length<=sizeLine/\Q (ZE (LF g)) true h,zE.t,zE.a⟩|.comp mask tgs tg ik its cond elt,E=>⟨λv Q=>(pe Ψ its E).a [] v λg h=>DB ik (SB g) λq =>
   MC (nG tg (xO tgs.length mask (lockA h)) (if isNop cond=true then λv R=>R true v else(pe Ψ cond (λ_=>False)).t) (pe Ψ elt (λ_=>False)).e) q [] λW=>Q (.lst W) true h,zE.t,zE.a⟩
 | .dnew b,_=>⟨λv Q=>Q (.dct b [] []) true v,zE.t,zE.a⟩|.dsp a b,E=>⟨λv Q=>(pe Ψ a E).e v λy m h=>YH y m=true/\(pe Ψ b E).e h λx n w=>YH x n=true/\UD true y.er/\Q (.dct true [y.er] [x]) true w,zE.t,zE.a⟩|.ng i,_=>⟨λv Q=>Q (.d (.int (-i))) false v,zE.t,zE.a⟩|.lrv a,E=>⟨λv Q=>(pe Ψ a E).e v λx n h=>ja (gA x n).vw λz k=>Q z k h,zE.t,zE.a⟩|.xz,_=>⟨zE.e,zE.t,λ_ v Q=>Q [] v⟩|.nz a as,E=>⟨zE.e,zE.t,λX v Q=>if(X.headD .uz).isMut=true then b7 a=true/\(pe Ψ as E).a X.tail v λg h=>Q ((.d .none,true)::g) h
   else(pe Ψ a E).e v λx n h=>sq (α:=List (T×Bool)) (if n=true then .d .none else x) h ((pe Ψ as E).a X.tail) λg w=>Q ((x,n)::g) w⟩
structure PEnds where
 nx:kA->Prop
 rt:T->kA->Prop
 bk:kA->Prop:=λ_=>False
 ct:kA->Prop:=λ_=>False
def xH:PX->LN
 | .zz i=>[i]|.idx a _=>xH a|.and a b | .or a b=>xH a++xH b
 | .nz a h=>xH a++xH h|_=>[]
noncomputable def OM:Option (Option Sl)->Bool
 |some (some (.own _))=>true|some (some (.vz _))=>false|some none=>false|none=>false
def vC(ρ:kA):LN->LN
 |[]=>[]|i::is=>if OM ρ[i]?=true then i::vC ρ is else vC ρ is
def YC:LN->kA->kA->kA
 |[],_,ρ=>ρ|i::L,ρ0,ρ=>YC L ρ0 (ρ.set i (ρ0[i]?.getD none))
def HU(J L:LN)(h:kA)(N:kA->Prop)(ρ:kA):Prop:=(∀i∈L,i∉J/\ρ[i]?=h[i]?.map xG)/\N (YC L h ρ)
noncomputable def IH(body:PEnds->kA->Prop)(z:Tg)(Z:PEnds):LT->kA->Prop
 |[],ρ=>Z.nx ρ|x::xs,ρ=>gP z x ρ λy=>body { Z with nx:=λh=>IH body z Z xs h,ct:=λh=>IH body z Z xs h,bk:=Z.nx } y
noncomputable def fu(ρ:kA)(i:Nat)(R:T->kA->Prop):Option (Option Sl)->Prop
 |some (some (.own t))=>R t (ρ.set i none)|some (some (.vz t))=>t.isD=true/\R t ρ|some none=>False|none=>False
noncomputable def cH(Ψ:PEv)(E:XE)(y:T->kA->Prop):PX->kA->Prop
 | .zz i,ρ=>fu ρ i y ρ[i]?|e,ρ=>(pe Ψ e E).e ρ λx n h=>YH x n=true/\y x h
noncomputable def Mn:T->D->D->(T->Prop)->Prop
 | .lst ts,.int i,x,Q=>∃n,XR ts.length i=some n/\Q (.lst (ts.set n (.d x)))|.dct b ks ts,k,x,Q=>UD b k/\ks.length<sizeLine/\Q (IJ b ks ts k (.d x))|_,_,_,_=>False
def Tt:PX->Option (Nat×Option PX)
 | .zz j=>some (j,none)|.idx (.zz j) k=>some (j,some k)|_=>none
def Fh(k:D)(t:T)(Q:T->Prop):Prop:=∃h x,t=.dct true h x/\UD true k/\h.length<sizeLine/\((∃n,cA h k=some n/\Q t)∨(cA h k=none/\Q (.dct true (h++[k]) (x++[.dct true [] []]))))
def Rc:T->Bool
 | .dct true _ _=>true|_=>false
def Hn(z:D)(t:T)(Q:T->(T->T)->Prop):Prop:=∃b x h n s,t=.dct b x h/\UD b z/\cA x z=some n/\h[n]?=some s/\Q s λy=>.dct b x (h.set n y)
noncomputable def aB(Ψ:PEv)(E:XE):PT->PEnds->kA->Prop
 | .nil,Z,u=>Z.nx u|.seq s r,Z,u=>aB Ψ E s { Z with nx:=λw=>aB Ψ E r Z w } u|.set i e,Z,u=>(pe Ψ e E).e u λx n h=>YH x n=true/\Z.nx (h.set i (bD x.er))|.expr e,Z,u=>(pe Ψ e E).e u λ_ _ h=>Z.nx h|.ret e,Z,u=>cH Ψ E Z.rt e u|.ife c a b,Z,u=>(pe Ψ c E).t u λk h=>if k=true then aB Ψ E a Z h else aB Ψ E b Z h|.for_ tg ik its body,Z,u=>(pe Ψ its E).a [] u λX h=>DB ik (SB X) λf =>
   if sR X=true then IH (aB Ψ E body) tg { Z with nx:=λv=>Z.nx (kill tg.ix v) } f h
   else IH (aB Ψ E body) tg { Z with nx:=λv=>HU tg.ix (vC h (xH its)) h Z.nx (kill tg.ix v) } f (lock (vC h (xH its)) h)
 | .own i e,Z,u=>(pe Ψ e E).e u λx n h=>YH x n=true/\Z.nx (h.set i (some (.own x)))|.six o i e,Z,u=>match Tt o with
  |none=>False|some (j,none)=>OC u[j]? λt=>(pe Ψ e E).e (u.set j (some (.vz t))) λx n h=>YH x n=true/\(pe Ψ i E).e h λy m v=>YH y m=true/\v[j]?=some (some (.vz t))/\Mn t y.er x.er λq=>Z.nx (v.set j (some (.own q)))|some (j,some k)=>OC u[j]? λt=>(pe Ψ e E).e (u.set j (some (.vz t))) λx n h=>YH x n=true/\(pe Ψ k E).e h λz l v=>YH z l=true/\Hn z.er t λs put=>(pe Ψ i E).e v λy m g=>YH y m=true/\g[j]?=some (some (.vz t))/\Mn s y.er x.er λY=>Z.nx (g.set j (some (.own (put Y))))
 | .sdf j k,Z,u=>OC u[j]? λt=>Rc t=true/\(pe Ψ k E).e (u.set j (some (.vz t))) λy m h=>YH y m=true/\h[j]?=some (some (.vz t))/\Fh y.er t λq=>Z.nx (h.set j (some (.own q)))|.whl c body,Z,u=>∃W:Nat->kA->Prop,(∃m,W m u)/\∀m u,W m u->(pe Ψ c E).t u λb h=>if b=true then
   aB Ψ E body { Z with nx:=λw=>∃p,p < m/\W p w,ct:=λw=>∃p,p < m/\W p w,bk:=Z.nx } h else Z.nx h
 | .frz is s,Z,u=>aB Ψ E s Z (frzAt is u)
abbrev pF(Ψ:PEv):PT->PEnds->kA->Prop:=aB Ψ λ_=>False
theorem _root_.L2.Same.rd{H x:Hp}(e:Same H x){a:Addr}{u:HO}(h:Rd H a u):Rd x a u:=by
 rcases h with h|⟨o,h⟩
 exact .inl (e _ _ h);exact .inr ⟨o,e _ _ h⟩
theorem _root_.L2.Same.tupl{K:QA}{H x:Hp}{a:Addr}{xs:LV}(e:Same H x)(h:nE K H a xs):nE K x a xs:=by rcases h with h|h;exact .inl (e.rd h);exact .inr h
mutual
theorem LX{K:QA}{H x:Hp}(e:Same H x):∀{k:NK}{v:V},Tl K H k v->Tl K x k v
 | .s _,_,h=>h|.t _,_,⟨a,xs,h,q,p⟩=>⟨a,xs,h,e.tupl q,kys_mono e p⟩
theorem kys_mono{K:QA}{H y:Hp}(e:Same H y):∀{ks:List NK}{vs:LV},KyVs K H ks vs->KyVs K y ks vs
 |[],_,h=>h|_::_,_,⟨x,r,h,p,q⟩=>⟨x,r,h,LX e p,kys_mono e q⟩
end
section
variable{K:QA}{H x:Hp}{vs:LV}{ds:List D}
theorem _root_.L2.Same.key(e:Same H x){b:Addr}{k:NK}(h:pO K H b k):pO K x b k:=⟨LX e h.1,h.2⟩
theorem CK.mono(e:Same H x){b:Bool}{o:HO}{ks:List D}(h:CK K H b o ks vs):CK K x b o ks vs:=by
 cases b with|true=>obtain⟨f,y,a,k,w,v,u⟩:=h;exact⟨f,y,a,k,w,λp z=>e.key (v p z),u⟩|false=>exact h
theorem Rep.mono2(e:Same H x):(∀{v:V}{d:D},Rep K H v d->Rep K x v d)/\∀{vs:LV}{ds:List D},Reps K H vs ds->Reps K x vs ds :=
 Rep.both (P:=Rep K x) (R:=Reps K x) .non .bl .int .str (λh _ r=>.lst (e.seq h) r) (λh _ r=>.tup (e.tupl h) r) (λh q _ r=>.dct (e _ _ h) (q.mono e) r) .nil λ_ _ h r=>.cons h r
theorem Rep.mono(e:Same H x){v:V}{d:D}(h:Rep K H v d):Rep K x v d:=(Rep.mono2 e).1 h
theorem Reps.mono(e:Same H x)(h:Reps K H vs ds):Reps K x vs ds:=(Rep.mono2 e).2 h
theorem Reps.append{ws:LV}{es:List D}(h:Reps K H vs ds)(r:Reps K H ws es):Reps K H (vs++ws) (ds++es):=Reps.ind (R:=λvs ds=>Reps K H (vs++ws) (ds++es)) r (λh t=>.cons h t) h
theorem Reps.reverse(h:Reps K H vs ds):Reps K H vs.reverse ds.reverse:=Reps.ind (R:=λvs ds=>Reps K H vs.reverse ds.reverse) .nil (λr y=>by rw[wV,wV];exact y.append (.cons r .nil)) h
theorem Reps.get{K:QA}{H:Hp}:∀{vs:LV}{ds:List D}{i:Nat}{d:D},Reps K H vs ds->ds[i]?=some d->∃v,vs[i]?=some v/\Rep K H v d
 |_,_,i,_,.nil,h=>by simp at h|_,_,0,_,.cons h _,e=>by simp at e;subst e;exact⟨_,rfl,h⟩|_,_,i+1,d,.cons _ t,e=>by obtain⟨v,z,y⟩:=Reps.get (i:=i) t (by simpa using e);exact⟨v,by simpa using z,y⟩
theorem Reps.drop{K:QA}{H:Hp}:∀{vs:LV}{ds:List D}(n:Nat),Reps K H vs ds->Reps K H (vs.drop n) (ds.drop n)
 |_,_,0,r=>r|_,_,_+1,.nil=>.nil|_,_,n+1,.cons _ t=>Reps.drop n t
theorem Reps.take{K:QA}{H:Hp}:∀{vs:LV}{ds:List D}(n:Nat),Reps K H vs ds->Reps K H (vs.take n) (ds.take n)
 |_,_,0,_=>.nil|_,_,_+1,.nil=>.nil|_,_,n+1,.cons h t=>.cons h (Reps.take n t)
theorem Reps.bools{K:QA}{H:Hp}:∀{vs:LV}{bs:List Bool},Reps K H vs (bs.map PyData.bool)->vs=bs.map V.bl
 |_,[],.nil=>rfl|_,b::bs,.cons h t=>by cases h;rw[QS,Reps.bools t]
theorem LB{p:Addr}{o:HO}(h:H p=none):Same H (DA H p o):=λb u q=>by rw[xA (sA q h)];exact q
end
mutual
inductive Tr(K:QA)(F H:Hp):Bool->V->T->(Addr->Prop)->Prop where
 |d {st:Bool}{v:V}{x:D}{S:dB}:Rep K F v x->(∀b,¬ S b)->Tr K F H st v (.d x) S
 |lst {st:Bool}{a:Addr}{vs:LV}{ts:LT}{S S':dB}:H a=some (.lst vs)->F a=none->Trs K F H st vs ts S'->¬ S' a->(∀b,S b↔b=a∨S' b)->Tr K F H st (.ref a) (.lst ts) S
 |tup {st:Bool}{a:Addr}{vs:LV}{ts:LT}{S S':dB}:H a=some (.tup vs)->F a=none->Trs K F H st vs ts S'->¬ S' a->(∀b,S b↔b=a∨S' b)->Tr K F H st (.ref a) (.tup ts) S
 |lstF {a:Addr}{vs:LV}{ds:List D}{S:dB}:pC K F a vs->Reps K F vs ds->(∀b,¬ S b)->Tr K F H false (.ref a) (.lst (ds.map T.d)) S
 |dct {st b:Bool}{a:Addr}{o:HO}{ks:List D}{vs:LV}{ts:LT}{S S':dB}:H a=some o->CK K F b o ks vs->F a=none->Trs K F H st vs ts S'->¬ S' a->(∀b,S b↔b=a∨S' b)->Tr K F H st (.ref a) (.dct b ks ts) S
inductive Trs(K:QA)(F H:Hp):Bool->LV->LT->(Addr->Prop)->Prop where
 |nil {st:Bool}{S:dB}:(∀b,¬ S b)->Trs K F H st [] [] S
 |cons {st:Bool}{v:V}{t:T}{vs:LV}{ts:LT}{S S1 S2:dB}:Tr K F H st v t S1->Trs K F H st vs ts S2->(∀b,S1 b->¬ S2 b)->(∀b,S b↔S1 b∨S2 b)->Trs K F H st (v::vs) (t::ts) S
end
section
variable{K:QA}{F H w c:Hp}
section
variable{R:Bool->LV->LT->(Addr->Prop)->Prop}{st b:Bool}{v:V}{t:T}{S:dB}{vs:LV}{ts:LT}{ds ks:List D}{i:Int}{kvs:List (D×D)}
theorem Tr.both{P:Bool->V->T->(Addr->Prop)->Prop}
    (d:∀{st:Bool}{v:V}{x:D}{S:dB},Rep K F v x->(∀b,¬ S b)->P st v (.d x) S)
    (lst:∀{st:Bool}{a:Addr}{vs:LV}{ts:LT}{S S':dB},H a=some (.lst vs)->F a=none->Trs K F H st vs ts S'->¬ S' a->(∀b,S b↔b=a∨S' b)->R st vs ts S'->P st (.ref a) (.lst ts) S)
    (tup:∀{st:Bool}{a:Addr}{vs:LV}{ts:LT}{S S':dB},H a=some (.tup vs)->F a=none->Trs K F H st vs ts S'->¬ S' a->(∀b,S b↔b=a∨S' b)->R st vs ts S'->P st (.ref a) (.tup ts) S)
    (y:∀{a:Addr}{vs:LV}{ds:List D}{S:dB},pC K F a vs->Reps K F vs ds->(∀b,¬ S b)->P false (.ref a) (.lst (ds.map T.d)) S)
    (dct:∀{st b:Bool}{a:Addr}{o:HO}{ks:List D}{vs:LV}{ts:LT}{S S':dB},H a=some o->CK K F b o ks vs->F a=none->Trs K F H st vs ts S'->¬ S' a->(∀b,S b↔b=a∨S' b)->R st vs ts S'->P st (.ref a) (.dct b ks ts) S)
    (u:∀{st:Bool}{S:dB},(∀b,¬ S b)->R st [] [] S)
    (z:∀{st:Bool}{v:V}{t:T}{vs:LV}{ts:LT}{S S1 k:dB},Tr K F H st v t S1->Trs K F H st vs ts k->(∀b,S1 b->¬ k b)->(∀b,S b↔S1 b∨k b)->P st v t S1->R st vs ts k->R st (v::vs) (t::ts) S) :
    (∀{st:Bool}{v:V}{t:T}{S:dB},Tr K F H st v t S->P st v t S)/\∀{st:Bool}{vs:LV}{ts:LT}{S:dB},Trs K F H st vs ts S->R st vs ts S :=
  ⟨λh=>Tr.rec (motive_1:=λst v t S _=>P st v t S) (motive_2:=λst vs ts S _=>R st vs ts S) @d @lst @tup @y @dct @u @z h,
   λh=>Trs.rec (motive_1:=λst v t S _=>P st v t S) (motive_2:=λst vs ts S _=>R st vs ts S) @d @lst @tup @y @dct @u @z h⟩
theorem Tr.mono2(e:Same F w):(∀{st:Bool}{v:V}{t:T}{S:dB},Tr K F H st v t S->(∀b,S b->c b=H b/\w b=none)->Tr K w c st v t S)/\∀{st:Bool}{vs:LV}{ts:LT}{S:dB},Trs K F H st vs ts S->(∀b,S b->c b=H b/\w b=none)->Trs K w c st vs ts S :=
 Tr.both (P:=λst v t S=>(∀b,S b->c b=H b/\w b=none)->Tr K w c st v t S) (R:=λst v t S=>(∀b,S b->c b=H b/\w b=none)->Trs K w c st v t S)
  (λr n _=>.d (r.mono e) n)
  (λ{_ a _ _ _ _} h _ _ n q x k=>.lst ((k a ((q a).mpr (.inl rfl))).1.trans h) (k a ((q a).mpr (.inl rfl))).2 (x λb hb=>k b ((q b).mpr (.inr hb))) n q)
  (λ{_ a _ _ _ _} h _ _ n q x k=>.tup ((k a ((q a).mpr (.inl rfl))).1.trans h) (k a ((q a).mpr (.inl rfl))).2 (x λb hb=>k b ((q b).mpr (.inr hb))) n q)
  (λh r n _=>.lstF (e.seq h) (r.mono e) n)
  (λ{_ _ a _ _ _ _ _ _} h u _ _ n q x k=>.dct ((k a ((q a).mpr (.inl rfl))).1.trans h) (u.mono e) (k a ((q a).mpr (.inl rfl))).2 (x λb hb=>k b ((q b).mpr (.inr hb))) n q)
  (λn _=>.nil n)
  (λ_ _ n q z y k=>.cons (z λb hb=>k b ((q b).mpr (.inl hb))) (y λb hb=>k b ((q b).mpr (.inr hb))) n q)
theorem Tr.mono(e:Same F w)(h:Tr K F H st v t S)(k:∀b,S b->c b=H b/\w b=none):Tr K w c st v t S:=(Tr.mono2 e).1 h k
theorem Trs.mono(e:Same F w)(h:Trs K F H st vs ts S)(k:∀b,S b->c b=H b/\w b=none):Trs K w c st vs ts S:=(Tr.mono2 e).2 h k
theorem Tr.weak2:(∀{st:Bool}{v:V}{t:T}{S:dB},Tr K F H st v t S->Tr K F H false v t S)/\∀{st:Bool}{vs:LV}{ts:LT}{S:dB},Trs K F H st vs ts S->Trs K F H false vs ts S :=
 Tr.both (P:=λ_ v t S=>Tr K F H false v t S) (R:=λ_ v t S=>Trs K F H false v t S) .d (λh f _ n q x=>.lst h f x n q) (λh f _ n q x=>.tup h f x n q) .lstF (λh u f _ n q x=>.dct h u f x n q) .nil λ_ _ n q z y=>.cons z y n q
theorem Tr.weak(h:Tr K F H st v t S):Tr K F H false v t S:=Tr.weak2.1 h
theorem Trs.weak(h:Trs K F H st vs ts S):Trs K F H false vs ts S:=Tr.weak2.2 h
theorem g8{C:dB}{a:Addr}{S':dB}(q:∀b,S b↔b=a∨S' b)(h:C a)(k:∀b,S' b->C b)(b:Addr)(hb:S b):C b:=((q b).mp hb).elim (λe=>e▸h) (k b)
theorem Tr.dom2:(∀{st:Bool}{v:V}{t:T}{S:dB},Tr K F H st v t S->∀b,S b->H b≠none/\F b=none)/\∀{st:Bool}{vs:LV}{ts:LT}{S:dB},Trs K F H st vs ts S->∀b,S b->H b≠none/\F b=none :=
 have y:∀{a:Addr}{o:HO},H a=some o->H a≠none:=λh z=>by rw[h]at z;cases z
 Tr.both (P:=λ_ _ _ S=>∀b,S b->H b≠none/\F b=none) (R:=λ_ _ _ S=>∀b,S b->H b≠none/\F b=none)
  (λ_ n b hb=>absurd hb (n b)) (λh f _ _ q x=>g8 q ⟨y h,f⟩ x) (λh f _ _ q x=>g8 q ⟨y h,f⟩ x) (λ_ _ n b hb=>absurd hb (n b)) (λh _ f _ _ q x=>g8 q ⟨y h,f⟩ x)
  (λn b hb=>absurd hb (n b)) λ_ _ _ q k u b hb=>((q b).mp hb).elim (k b) (u b)
theorem Tr.dom(h:Tr K F H st v t S):∀b,S b->H b≠none/\F b=none:=Tr.dom2.1 h
theorem Trs.dom(h:Trs K F H st vs ts S):∀b,S b->H b≠none/\F b=none:=Tr.dom2.2 h
theorem Tr.kept2(e:Same F w):(∀{st:Bool}{v:V}{t:T}{S:dB},Tr K F H st v t S->(∀b u,S b->H b=some u->w b=some u)->Rep K w v t.er)/\∀{st:Bool}{vs:LV}{ts:LT}{S:dB},Trs K F H st vs ts S->(∀b u,S b->H b=some u->w b=some u)->Reps K w vs (ersT ts) :=
 Tr.both (P:=λ_ v t S=>(∀b u,S b->H b=some u->w b=some u)->Rep K w v t.er) (R:=λ_ v t S=>(∀b u,S b->H b=some u->w b=some u)->Reps K w v (ersT t))
  (λr _ _=>r.mono e)
  (λ{_ a _ _ _ _} h _ _ _ q x k=>by unfold T.er;exact .lst (pC.of (k a _ ((q a).mpr (.inl rfl)) h)) (x λb u hb=>k b u ((q b).mpr (.inr hb))))
  (λ{_ a _ _ _ _} h _ _ _ q x k=>by unfold T.er;exact .tup (nE.of (k a _ ((q a).mpr (.inl rfl)) h)) (x λb u hb=>k b u ((q b).mpr (.inr hb))))
  (λh r _ _=>by unfold T.er;rw[bB];exact .lst (e.seq h) (r.mono e))
  (λ{_ _ a _ _ _ _ _ _} h f _ _ _ q x k=>by unfold T.er;exact .dct (k a _ ((q a).mpr (.inl rfl)) h) (f.mono e) (x λb u hb=>k b u ((q b).mpr (.inr hb))))
  (λ_ _=>.nil)
  (λ_ _ _ q z y k=>.cons (z λb u hb=>k b u ((q b).mpr (.inl hb))) (y λb u hb=>k b u ((q b).mpr (.inr hb))))
theorem Tr.kept(e:Same F w)(h:Tr K F H st v t S)(k:∀b u,S b->H b=some u->w b=some u):Rep K w v t.er:=(Tr.kept2 e).1 h k
theorem Tr.rep(f:Same F H)(h:Tr K F H st v t S):Rep K H v t.er:=h.kept f λ_ _ _ e=>e
theorem Trs.ind(z:∀{st:Bool}{S:dB},(∀b,¬ S b)->R st [] [] S)
  (x:∀{st:Bool}{v:V}{t:T}{vs:LV}{ts:LT}{S S1 y:dB},Tr K F H st v t S1->Trs K F H st vs ts y->(∀b,S1 b->¬ y b)->(∀b,S b↔S1 b∨y b)->R st vs ts y->R st (v::vs) (t::ts) S) (h:Trs K F H st vs ts S):R st vs ts S :=
 (Tr.both (P:=λ_ _ _ _=>True) (λ_ _=>trivial) (λ_ _ _ _ _ _=>trivial) (λ_ _ _ _ _ _=>trivial) (λ_ _ _=>trivial) (λ_ _ _ _ _ _ _=>trivial) z λh t n q _ r=>x h t n q r).2 h
theorem Trs.length(h:Trs K F H st vs ts S):vs.length=ts.length:=Trs.ind (R:=λ_ vs ts _=>vs.length=ts.length) (λ_=>rfl) (λ_ _ _ _ e=>congrArg Nat.succ e) h
theorem Trs.of_reps(h:Reps K F vs ds):Trs K F H st vs (ds.map T.d) (λ_=>False) :=
 Reps.ind (R:=λvs ds=>Trs K F H st vs (ds.map T.d) λ_=>False) (.nil λ_ z=>z) (λh t=>.cons (.d h λ_ z=>z) t (λ_ z=>z.elim) λb=>by simp) h
theorem Trs.un(h:Trs K F H st vs ts S)(e:oH ts=some ds):Reps K F vs ds/\∀b,¬ S b:=by
 have u:=yM e;clear e;revert ds;refine Trs.ind (R:=λ_ vs ts S=>∀{ds:List D},ts=ds.map T.d->Reps K F vs ds/\∀b,¬ S b) (λn ds e=>?_) (λh _ _ q x ds e=>?_) h;cases ds with|nil=>exact⟨.nil,n⟩|cons d r=>cases e
 cases ds with
 |nil=>cases e|cons d r =>
  injection e with e1 e2;obtain⟨z,y⟩:=x e2;subst e1;cases h with|d rep m=>exact⟨.cons rep z,λb hb=>((q b).mp hb).elim (m b) (y b)⟩
theorem Trs.get{i:Nat}(h:Trs K F H st vs ts S)(e:ts[i]?=some t):∃v S1,vs[i]?=some v/\Tr K F H st v t S1/\∀b,S1 b->S b:=by
 revert i;refine Trs.ind (R:=λst vs ts S=>∀{i:Nat},ts[i]?=some t->∃v S1,vs[i]?=some v/\Tr K F H st v t S1/\∀b,S1 b->S b) (λn i e=>by cases e) (λh _ n q x i e=>?_) h;cases i with|zero=>cases e;exact⟨_,_,rfl,h,λb hb=>(q b).mpr (.inl hb)⟩|succ i=>obtain⟨v,S1,u,z,y⟩:=x (i:=i) e;exact⟨v,S1,u,z,λb hb=>(q b).mpr (.inr (y b hb))⟩
theorem Trs.at(r:Trs K F H st vs ts S)(h:YD ts i=some t):∃v S1,YD vs i=some v/\Tr K F H st v t S1/\∀b,S1 b->S b:=by
 unfold YD at h ⊢;rw[r.length];cases e:XR ts.length i with|none=>rw[e]at h;cases h|some j=>rw[e]at h;exact r.get h
theorem Trs.append{ws:LV}{us:LT}{S1 x:dB}(h:Trs K F H st vs ts S1)(r:Trs K F H st ws us x)(k:∀b,S1 b->¬ x b):Trs K F H st (vs++ws) (ts++us) (λb=>S1 b∨x b) :=
 Trs.ind (R:=λst vs ts S1=>Trs K F H st ws us x->(∀b,S1 b->¬ x b)->Trs K F H st (vs++ws) (ts++us) λb=>S1 b∨x b)
  (λ{_ S} n r _=>by have e:(λb=>S b∨x b)=x:=funext λb=>propext ⟨λz=>z.resolve_left (n b),.inr⟩;rw[e];exact r)
  (λh _ n q y r k=>.cons h (y r λb hb=>k b ((q b).mpr (.inr hb))) (λb hb z=>z.elim (n b hb) (k b ((q b).mpr (.inl hb)))) λb=>by rw[q b,or_assoc]) h r k
theorem Trs.one(h:Tr K F H st v t S):Trs K F H st [v] [t] S:=.cons h (.nil (S:=λ_=>False) λ_ z=>z) (λ_ _ z=>z) λb=>by simp
theorem DH(e:(T.d (.dict kvs)).vw=.ls ts):False:=by
 have e:yC kvs=.ls ts:=e;unfold yC at e;cases h:oD kvs with|none=>rw[h]at e;cases e|some b=>rw[h]at e;cases e
theorem RL(e:(T.d (.dict kvs)).vw=.tp ts):False:=by
 have e:yC kvs=.tp ts:=e;unfold yC at e;cases h:oD kvs with|none=>rw[h]at e;cases e|some b=>rw[h]at e;cases e
theorem Tr.ls(f:Same F H)(h:Tr K F H st v t S)(e:t.vw=.ls ts):∃a vs S',v=.ref a/\pC K H a vs/\Trs K F H false vs ts S'/\∀b,S' b->S b:=by
 cases h with
 |d r n =>
  cases r with|lst q r=>injection e with e;subst e;exact⟨_,_,_,rfl,f.seq q,Trs.of_reps r,λb hb=>hb.elim⟩|dct _ _ _=>exact(DH e).elim|_=>cases e
 |lst h _ r n q=>injection e with e;subst e;exact⟨_,_,_,rfl,pC.of h,r.weak,λb hb=>(q b).mpr (.inr hb)⟩|tup=>cases e|dct=>cases e|lstF h r n=>injection e with e;subst e;exact⟨_,_,_,rfl,f.seq h,Trs.of_reps r,λb hb=>hb.elim⟩
theorem Tr.tp(f:Same F H)(h:Tr K F H st v t S)(e:t.vw=.tp ts):∃a vs S',v=.ref a/\nE K H a vs/\Trs K F H false vs ts S'/\∀b,S' b->S b:=by
 cases h with
 |d r n =>
  cases r with|tup q r=>injection e with e;subst e;exact⟨_,_,_,rfl,f.tupl q,Trs.of_reps r,λb hb=>hb.elim⟩|dct _ _ _=>exact(RL e).elim|_=>cases e
 |tup h _ r n q=>injection e with e;subst e;exact⟨_,_,_,rfl,nE.of h,r.weak,λb hb=>(q b).mpr (.inr hb)⟩|lst=>cases e|lstF=>cases e|dct=>cases e
theorem OX{u:Bool}{o:HO}(h:CK K H u o ks vs)(e:oD (ks.zip ds)=some b):u=b:=by
 cases ks with
 |nil=>cases e|cons k ks =>
  cases ds with
  |nil=>cases e|cons d ds =>
   cases u with
   |true =>
    obtain⟨m,kvs,_,y,_,g,_⟩:=h;cases kvs with
    |nil=>cases y|cons p r =>
     have a:=(g p QF).1;obtain⟨f,n,j⟩:=p;cases f with|s x=>cases a|t l=>rw[QS]at y;injection y with y _;subst y;injection e
   |false =>
    rcases h with⟨kvs,_,_,y,_⟩| ⟨_,_,y,_⟩
    rotate_left
    cases y;cases kvs with
    |nil=>cases y|cons p r =>
     rw[QS]at y;injection y with y _;subst y;obtain⟨k,v⟩:=p;cases k with|inl i=>cases e|inr z=>injection e
theorem Tr.dc(f:Same F H)(h:Tr K F H st v t S)(e:t.vw=.dc b ks ts):∃a o vs S',v=.ref a/\H a=some o/\CK K F b o ks vs/\Trs K F H false vs ts S'/\(∀b,S' b->S b)/\∀w c,Same F w->Same w c->(∀b,S b->c b=H b)->c a=some o:=by
 cases h with
 |d r n =>
  cases r with
  |@dct X a o y l ds h q r =>
   have hl:y.length=ds.length:=by rw[q.len,Reps.length r]
   have g:(y.zip ds).map (λx=>x.1)=y:=Wn (wa hl);have u:(y.zip ds).map (λx=>x.2)=ds:=w6 (wa hl.symm);have e:yC (y.zip ds)=.dc b ks ts:=e;unfold yC at e;cases z:oD (y.zip ds) with
   |none=>rw[z]at e;cases e|some p =>
    rw[z]at e;injection e with z1 z2 z3;subst z1;rw[g]at z2;subst z2;have m:ts=ds.map T.d:=by have j:=congrArg (List.map T.d) u;rw[Qa]at j;rw[<- z3,<- j];rfl
    subst m;cases OX q z;exact⟨_,_,_,_,rfl,f _ _ h,q,Trs.of_reps r,λb hb=>hb.elim,λw c g u _=>u _ _ (g _ _ h)⟩
  |_=>cases e
 |dct h q _ r n s=>injection e with z1 z2 z3;subst z1 z2 z3;exact⟨_,_,_,_,rfl,h,q,r.weak,λb hb=>(s b).mpr (.inr hb),λw c _ _ k=>(k _ ((s _).mpr (.inl rfl))).trans h⟩|lst=>cases e|tup=>cases e|lstF=>cases e
theorem Tr.sc{x:D}(h:Tr K F H st v t S)(e:t.vw=.sc x):t=.d x/\Rep K F v x:=by
 cases h with
 |@d _ _ y _ r n =>
  cases y with
  |list ds=>cases e|tuple ds=>cases e|dict ds =>
   have e:yC ds=.sc x:=e;unfold yC at e;cases z:oD ds with|none=>rw[z]at e;injection e with e;subst e;exact⟨rfl,r⟩|some b=>rw[z]at e;cases e
  |_=>injection e with e;subst e;exact⟨rfl,r⟩
 |tup=>cases e|lst=>cases e|lstF=>cases e|dct=>cases e
theorem Tr.int(h:Tr K F H st v t S)(e:t.vw=.sc (.int i)):v=.int i:=by obtain⟨_,r⟩:=h.sc e;cases r;rfl
theorem Tr.str{i:Str}(h:Tr K F H st v t S)(e:t.vw=.sc (.str i)):v=.str i:=by obtain⟨_,r⟩:=h.sc e;cases r;rfl
end
end
def Sl.t:Sl->T
 | .own t=>t|.vz t=>t
def Sl.st:Sl->Bool
 | .own _=>true|.vz _=>false
noncomputable abbrev Ft:=Nat->Addr->Prop
structure Rl(K:QA)(F H:Hp)(S:Ft)(ρ:kA)(σ:St):Prop where
 fh:Same F H
 len:ρ.length=σ.length
 sl:∀(i:Nat) s,ρ[i]?=some (some s)->∃v,σ[i]?=some (some v)/\Tr K F H s.st v s.t (S i)
 dj:∀(i j:Nat) t s,i≠j->ρ[i]?=some (some (.own t))->ρ[j]?=some (some s)->∀b,S i b->¬ S j b
def U(ρ:kA)(S:Ft)(b:Addr):Prop:=∃(i:Nat) (t:T),ρ[i]?=some (some (.own t))/\S i b
structure Stp(F H:Hp)(S:Ft)(ρ:kA)(F' H':Hp)(S':Ft)(ρ':kA):Prop where
 ff:Same F F'
 hh:∀b u,H b=some u->¬ U ρ S b->H' b=some u
 dm:∀b,H' b=none->H b=none
 fn:∀b,F b=none->F' b≠none->U ρ S b∨H b=none
 uu:∀b,U ρ' S' b->U ρ S b∨H b=none
 bo:∀(j:Nat) t,ρ'[j]?=some (some (.vz t))->t.isD=false->ρ[j]?=some (some (.vz t))/\S' j=S j
structure Ste(F H:Hp)(S:Ft)(ρ:kA)(F' H':Hp)(S':Ft)(ρ':kA):Prop extends Stp F H S ρ F' H' S' ρ' where
 ow:∀(j:Nat) t,ρ'[j]?=some (some (.own t))->∃t0,ρ[j]?=some (some (.own t0))
section
variable{K:QA}{F H X m B E:Hp}{S S1 C:Ft}{ρ l A:kA}{σ:St}
section
variable{v:V}{t:T}{Z W:dB}{i:Nat}{s:Sl}{b p:Addr}{vs:LN}{g:Hp}{c:Ft}{y:kA}{n:Bool}
theorem Stp.refl:Stp F H S ρ F H S ρ:=⟨.refl _,λ_ _ h _=>h,λ_ h=>h,λb h z=>absurd h z,λ_ h=>.inl h,λ_ _ h _=>⟨h,rfl⟩⟩
theorem Ste.refl:Ste F H S ρ F H S ρ:=⟨Stp.refl,λ_ t h=>⟨t,h⟩⟩
theorem Stp.trans(a:Stp F H S ρ X m S1 l)(b:Stp X m S1 l B E C A):Stp F H S ρ B E C A where
 ff:=a.ff.trans b.ff
 hh:=λx u h n=>b.hh x u (a.hh x u h n) λz=>by rcases a.uu x z with q|q;exact n q;rw[q]at h;cases h
 dm:=λx h=>a.dm x (b.dm x h)
 fn:=λx h z=>by
  by_cases q:X x=none;rcases b.fn x q z with w|w
  ·exact a.uu x w
  exact .inr (a.dm x w);exact a.fn x h q
 uu:=λx h=>by rcases b.uu x h with w|w;exact a.uu x w;exact .inr (a.dm x w)
 bo:=λj t h n=>by obtain⟨o,f⟩:=b.bo j t h n;obtain⟨e,k⟩:=a.bo j t o n;exact⟨e,f.trans k⟩
theorem Ste.trans(a:Ste F H S ρ X m S1 l)(b:Ste X m S1 l B E C A):Ste F H S ρ B E C A:=⟨a.toStp.trans b.toStp,λj t h=>by obtain⟨x,z⟩:=b.ow j t h;exact a.ow j x z⟩
theorem Stp.keep(s:Stp F H S ρ X m S1 l){st:Bool}(h:Tr K F H st v t Z)(n:∀b,Z b->¬ U ρ S b):Tr K X m st v t Z :=
 h.mono s.ff λb hb=>by
  obtain⟨x,w⟩:=h.dom b hb;refine⟨?_,?_⟩;cases e:H b with|none=>exact absurd e x|some u=>exact s.hh b u e (n b hb)
  by_cases q:X b=none
  ·exact q
  rcases s.fn b w q with z|z
  ·exact absurd z (n b hb)
  exact absurd z x
theorem Rl.dom(I:Rl K F H S ρ σ)(h:ρ[i]?=some (some s))(hb:S i b):H b≠none/\F b=none:=by obtain⟨v,_,r⟩:=I.sl i s h;exact r.dom b hb
theorem Rl.isD(I:Rl K F H S ρ σ)(h:ρ[i]?=some (some s))(x:s.t.isD=true):¬ S i b:=by
 obtain⟨v,_,r⟩:=I.sl i s h;generalize s.t=t at r x;generalize s.st=st at r;cases r with|d r n=>exact n b|_=>cases x
structure Held(F H:Hp)(S:Ft)(ρ:kA)(Z:dB):Prop where
 dom:∀b,Z b->H b≠none/\F b=none
 nw:∀(i:Nat) s,ρ[i]?=some (some s)->∀b,Z b->¬ S i b
theorem Held.nu(h:Held F H S ρ Z):∀b,Z b->¬ U ρ S b:=λb hb ⟨i,t,z,x⟩=>h.nw i _ z b hb x
theorem Held.step(h:Held F H S ρ Z)(s:Stp F H S ρ X m S1 l)(j:Rl K X m S1 l σ):Held X m S1 l Z where
 dom:=λb hb=>by
  obtain⟨u,k⟩:=h.dom b hb;refine⟨λz=>u (s.dm b z),?_⟩;by_cases q:X b=none;exact q;rcases s.fn b k q with z|z
  ·exact absurd z (h.nu b hb)
  exact absurd z u
 nw:=λi w e b hb z=>by
  cases w with
  |own t=>rcases s.uu b ⟨i,t,e,z⟩ with q|q;exact h.nu b hb q;exact(h.dom b hb).1 q
  |vz t =>
   cases x:t.isD with|true=>exact j.isD e x z|false=>obtain⟨f,a⟩:=s.bo i t e x;rw[a]at z;exact h.nw i _ f b hb z
theorem Held.none:Held F H S ρ λ_=>False:=⟨λ_ z=>z.elim,λ_ _ _ _ z=>z.elim⟩
theorem Held.or{Y:dB}(a:Held F H S ρ Z)(b:Held F H S ρ Y):Held F H S ρ λx=>Z x∨Y x:=⟨λx h=>h.elim (a.dom x) (b.dom x),λi s e x h=>h.elim (a.nw i s e x) (b.nw i s e x)⟩
def uJ(F H:Hp)(W:dB):Hp:=open Classical in λb=>if W b then H b else F b
theorem xJ(h:W b):uJ F H W b=H b:=if_pos h
theorem dC(h:¬ W b):uJ F H W b=F b:=if_neg h
theorem zH(h:∀b,W b->F b=none):Same F (uJ F H W):=λb u e=>by rw[dC λz=>by rw[h b z]at e;cases e];exact e
theorem Hc(f:Same F H):Same (uJ F H W) H:=λb u e=>by by_cases hb:W b;rw[xJ hb]at e;exact e;rw[dC hb]at e;exact f b u e
theorem Rl.frz(I:Rl K F H S ρ σ){W:dB}(h:Held F H S ρ W):Rl K (uJ F H W) H S ρ σ where
 fh:=Hc I.fh
 len:=I.len
 sl:=λi s e=>by obtain⟨v,u,x⟩:=I.sl i s e;refine⟨v,u,x.mono (zH λb hb=>(h.dom b hb).2) λb hb=>⟨rfl,?_⟩⟩;rw[dC λz=>h.nw i s e b z hb];exact(x.dom b hb).2
 dj:=I.dj
theorem Stp.frz(s:Stp F H S ρ X m S1 l){W:dB}(x:∀b,W b->X b=none)(fr:∀b,W b->H b=none∨U ρ S b):Stp F H S ρ (uJ X m W) m S1 l :=
 ⟨s.ff.trans (zH x),s.hh,s.dm,λb h z=>by by_cases q:W b;exact(fr b q).symm;rw[dC q]at z;exact s.fn b h z,s.uu,s.bo⟩
theorem Ste.frz(s:Ste F H S ρ X m S1 l){W:dB}(h:∀b,W b->X b=none)(fr:∀b,W b->H b=none∨U ρ S b):Ste F H S ρ (uJ X m W) m S1 l:=⟨s.toStp.frz h fr,s.ow⟩
theorem Stp.new(s:Stp F H S ρ X m S1 l){p:Addr}(h:m p=none)(o:HO):Stp F H S ρ X (DA m p o) S1 l :=
 ⟨s.ff,λb u e n=>LB h b u (s.hh b u e n),λb e=>by by_cases hb:b=p;rw[hb,iA]at e;cases e;rw[xA hb]at e;exact s.dm b e,s.fn,s.uu,s.bo⟩
theorem Ste.new(s:Ste F H S ρ X m S1 l){p:Addr}(h:m p=none)(o:HO):Ste F H S ρ X (DA m p o) S1 l:=⟨s.toStp.new h o,s.ow⟩
theorem Rl.same(I:Rl K F H S ρ σ)(h:Same H m):Rl K F m S ρ σ where
 fh:=I.fh.trans h
 len:=I.len
 sl:=λi s e=>by
  obtain⟨v,z,x⟩:=I.sl i s e;refine⟨v,z,x.mono (.refl _) λb hb=>⟨?_,(x.dom b hb).2⟩⟩;cases e:H b with|none=>exact absurd e (x.dom b hb).1|some u=>exact h b u e
 dj:=I.dj
theorem Rl.new(I:Rl K F H S ρ σ){p:Addr}(h:H p=none)(o:HO):Rl K F (DA H p o) S ρ σ:=I.same (LB h)
theorem Stp.newT(s:Stp F H S ρ X m S1 l)(h:m p=none)(u:X p=none)(o:HO):Stp F H S ρ (DA X p o) (DA m p o) S1 l :=
 let x:=s.new h o
 ⟨s.ff.trans (LB u),x.hh,x.dm,λb e z=>by by_cases hb:b=p;rw[hb];exact .inr (s.dm p h);rw[xA hb]at z;exact s.fn b e z,s.uu,s.bo⟩
theorem Ste.newT(s:Ste F H S ρ X m S1 l)(h:m p=none)(x:X p=none)(o:HO):Ste F H S ρ (DA X p o) (DA m p o) S1 l:=⟨s.toStp.newT h x o,s.ow⟩
theorem Rl.newT(I:Rl K F H S ρ σ)(h:H p=none)(o:HO):Rl K (DA F p o) (DA H p o) S ρ σ where
 fh:=λb u e=>by by_cases hb:b=p;rw[hb,iA]at e ⊢;exact e;rw[xA hb]at e ⊢;exact I.fh b u e
 len:=I.len
 sl:=λi s e=>by obtain⟨v,k,x⟩:=I.sl i s e;refine⟨v,k,x.mono (LB (I.fh.free h)) λb hb=>?_⟩;have w:b≠p:=λz=>(x.dom b hb).1 (by rw[z];exact h);rw[xA w,xA w];exact⟨rfl,(x.dom b hb).2⟩
 dj:=I.dj
theorem PZ(ρ:kA)(i:Nat):(lockA ρ)[i]?=ρ[i]?.map xG:=by unfold lockA;rw[Qb]
theorem eB{ρ:kA}(h:(lockA ρ)[i]?=some (some s)):∃x,ρ[i]?=some (some x)/\s=.vz x.t:=by
 rw[PZ]at h;cases e:ρ[i]? with
 |none=>rw[e]at h;cases h|some o =>
  rw[e]at h;cases o with
  |none=>cases h|some x =>
   cases x with|own t=>injection h with h;injection h with h;subst h;exact⟨_,rfl,rfl⟩|vz t=>injection h with h;injection h with h;subst h;exact⟨_,rfl,rfl⟩
theorem PC(b:Addr):¬ U (lockA ρ) S b:=λ⟨i,t,h,_⟩=>by obtain⟨x,_,e⟩:=eB h;cases e
theorem Rl.lockA(I:Rl K F H S ρ σ):Rl K F H S (lockA ρ) σ where
 fh:=I.fh
 len:=by unfold L3.lockA;rw[QE];exact I.len
 sl:=λi s e=>by obtain⟨x,h,rfl⟩:=eB e;obtain⟨v,u,z⟩:=I.sl i x h;exact⟨v,u,z.weak⟩
 dj:=λi j t s _ h=>by obtain⟨x,_,e⟩:=eB h;cases e
theorem Stp.unlockA(s:Stp F H S (L3.lockA ρ) X m S1 l):Stp F H S ρ X m S ρ :=
 ⟨s.ff,λb u e _=>s.hh b u e (PC b),s.dm,λb h z=>(s.fn b h z).elim (λq=>absurd q (PC b)) .inr,λ_ h=>.inl h,λ_ _ h _=>⟨h,rfl⟩⟩
theorem Rl.unlockA(I:Rl K F H S ρ σ)(s:Stp F H S (L3.lockA ρ) X m S1 l)(f:Same X m):Rl K X m S ρ σ where
 fh:=f
 len:=I.len
 sl:=λi sl e=>by obtain⟨v,x,h⟩:=I.sl i sl e;exact⟨v,x,s.keep h λb _=>PC b⟩
 dj:=I.dj
structure VR(K:QA)(vs:LN)(g:Hp)(c:Ft)(y:kA)(F H:Hp)(S:Ft)(ρ:kA)(v:V)(t:T)(n:Bool)(Z:dB):Prop where
 tr:Tr K F H n v t Z
 fr:n=true->∀b,Z b->g b=none∨U y c b
 tm:n=false->∀b,Z b->∃(i:Nat) (s:Sl),i∈vs/\ρ[i]?=some (some s)/\S i b
 nw:n=true->∀(i:Nat) s,ρ[i]?=some (some s)->∀b,Z b->¬ S i b
theorem VR.d{vs:LN}{g:Hp}{c:Ft}{y:kA}{v:V}{x:D}(n:Bool)(r:Rep K F v x):VR K vs g c y F H S ρ v (.d x) n (λ_=>False) :=
 ⟨.d r λ_ z=>z,λ_ _ z=>z.elim,λ_ _ z=>z.elim,λ_ _ _ _ _ z=>z.elim⟩
theorem VR.held(h:VR K vs g c y F H S ρ v t true Z):Held F H S ρ Z:=⟨λb hb=>h.tr.dom b hb,h.nw rfl⟩
theorem VR.vars{ws:LN}(h:VR K vs g c y F H S ρ v t n Z)(k:∀i∈vs,i∈ws):VR K ws g c y F H S ρ v t n Z :=
 ⟨h.tr,h.fr,λe b hb=>let⟨i,s,z,x⟩:=h.tm e b hb;⟨i,s,k i z,x⟩,h.nw⟩
theorem VR.from(s:Stp F H S ρ X m S1 l)(h:VR K vs m S1 l B E C A v t n Z):VR K vs H S ρ B E C A v t n Z :=
 ⟨h.tr,λe b hb=>by rcases h.fr e b hb with q|q;exact .inl (s.dm b q);exact(s.uu b q).symm,h.tm,h.nw⟩
theorem VR.frz{vs:LN}{v:V}{t:T}{n:Bool}{Z:dB}(s:Ste F H S ρ X m S1 l)(I:Rl K X m S1 l σ)(h:VR K vs H S ρ X m S1 l v t n Z) :
  ∃B o,Ste F H S ρ B m S1 l/\Rl K B m S1 l σ/\Tr K B m false v (gA t n) o/\(YH t n=true->Rep K B v t.er)/\(∀b,o b->∃(i:Nat) (s:Sl),i∈vs/\l[i]?=some (some s)/\S1 i b) /\
   ∀st a t' k,Tr K X m st a t' k->(∀b,k b->∃(i:Nat) (s:Sl),l[i]?=some (some s)/\S1 i b)->Tr K B m st a t' k:=by
 cases n with
 |true =>
  have w:=h.held;have j:=zH (H:=m) λb hb=>(w.dom b hb).2;have f:=h.tr.kept j λb u hb e=>by rw[xJ hb];exact e
  refine⟨uJ X m Z,λ_=>False,s.frz (λb hb=>(w.dom b hb).2) (h.fr rfl),I.frz w,.d f λ_ z=>z,λ_=>f,λb z=>z.elim,λst a t' k r G=>r.mono j λb hb=>⟨rfl,?_⟩⟩;obtain⟨i,Y,L,J⟩:=G b hb;rw[dC λz=>w.nw i Y L b z J];exact(r.dom b hb).2
 |false =>
  refine⟨X,Z,s,I,h.tr,?_,h.tm rfl,λ_ _ _ _ r _=>r⟩;intro e;have q:=h.tr;cases t with
  |d x=>cases q with|d r n=>exact r
  |_=>cases e
end
end
noncomputable abbrev vB(K:QA)(vs:LN)(F H:Hp)(S:Ft)(ρ:kA)(σ:St)(Q:TK)(R:VK):Prop :=
 ∀v z x y h t n Z,Ste F H S ρ z x y h->Rl K z x y h σ->VR K vs H S ρ z x y h v t n Z->Q t n h->R v x
noncomputable abbrev BH(K:QA)(F H:Hp)(S:Ft)(ρ:kA)(σ:St)(Q:Bool->kA->Prop)(R:Bool->Hp->Prop):Prop :=
 ∀b z x y h,Ste F H S ρ z x y h->Rl K z x y h σ->Q b h->R b x
section
variable{K:QA}{ws:LN}{F H B A:Hp}{S S1:Ft}{ρ Y:kA}{σ:St}{v w:V}{a b:T}{J G:dB}{Q:TK}{R:VK}{E C:Bool}
section
variable{X o:Hp}{m:Ft}{u:kA}{p:Addr}{vs:LV}{ds:List D}
theorem vB.from(k:vB K ws F H S ρ σ Q R)(s:Ste F H S ρ X o m u):vB K ws X o m u σ Q R:=λv f e y h t n Z x z r q=>k v f e y h t n Z (s.trans x) z (r.from s.toStp) q
theorem BH.from{Q:Bool->kA->Prop}{R:Bool->Hp->Prop}(k:BH K F H S ρ σ Q R)(s:Ste F H S ρ X o m u):BH K X o m u σ Q R:=λb f e y h x z q=>k b f e y h (s.trans x) z q
theorem vB.vars{us:LN}(k:vB K ws F H S ρ σ Q R)(h:∀i∈us,i∈ws):vB K us F H S ρ σ Q R:=λv e z y x t n Z s I r q=>k v e z y x t n Z s I (r.vars h) q
theorem vB.d(k:vB K ws F H S ρ σ Q R)(s:Ste F H S ρ B A S1 Y)(I:Rl K B A S1 Y σ){x:D}{n:Bool}(r:Rep K B v x)(q:Q (.d x) n Y):R v A:=k v B A S1 Y _ n _ s I (VR.d n r) q
theorem vB.list(k:vB K ws F H S ρ σ Q R)(s:Ste F H S ρ B A S1 Y)(I:Rl K B A S1 Y σ)(x:A p=none){ts:LT}{W:dB}(r:Trs K B A true vs ts W)
  (fr:∀b,W b->H b=none∨U ρ S b) (y:Held B A S1 Y W) (q:Q (.lst ts) true Y):R (.ref p) (DA A p (.lst vs)):=by
 have g:∀b,A b≠none->b≠p:=λb h z=>h (by rw[z];exact x);refine k _ B _ S1 Y _ true (λb=>b=p∨W b) (s.new x _) (I.new x _) ⟨.lst iA (I.fh.free x) (r.mono (.refl _) λb hb=>⟨?_,(y.dom b hb).2⟩) (λz=>(y.dom p z).1 x) (λb=>WO),λ_ b hb=>?_,λz=>(by cases z),λ_ i f e b hb z=>?_⟩ q;rw[xA (g b (y.dom b hb).1)];rcases hb with rfl|hb
 ·exact .inl (s.dm _ x)
 exact fr b hb;rcases hb with rfl|hb
 ·exact(I.dom e z).1 x
 exact y.nw i f e b hb z
theorem vB.listD(k:vB K ws F H S ρ σ Q R)(s:Ste F H S ρ B A S1 Y)(I:Rl K B A S1 Y σ)(h:A p=none)(r:Reps K B vs ds)(q:Q (.lst (ds.map T.d)) true Y):R (.ref p) (DA A p (.lst vs)) :=
 k.list s I h (Trs.of_reps r) (λb z=>z.elim) .none q
theorem vB.tupD(k:vB K ws F H S ρ σ Q R)(s:Ste F H S ρ B A S1 Y)(I:Rl K B A S1 Y σ)(h:A p=none){n:Bool}(r:Reps K B vs ds)(q:Q (.d (.tuple ds)) n Y):R (.ref p) (DA A p (.tup vs)) :=
 vB.d k (s.newT h (I.fh.free h) _) (I.newT h _) (.tup (nE.of iA) (r.mono (LB (I.fh.free h)))) q
theorem vB.tup(k:vB K ws F H S ρ σ Q R)(s:Ste F H S ρ B A S1 Y)(I:Rl K B A S1 Y σ){p:Addr}(x:A p=none){vs:LV}{ts:LT}{W:dB}(r:Trs K B A true vs ts W)
  (fr:∀b,W b->H b=none∨U ρ S b) (y:Held B A S1 Y W) (q:Q (ZE ts) true Y):R (.ref p) (DA A p (.tup vs)):=by
 unfold ZE at q;cases e:oH ts with
 |some ds=>rw[e]at q;exact k.tupD s I x (r.un e).1 q|none =>
  rw[e]at q;have g:∀b,A b≠none->b≠p:=λb h z=>h (by rw[z];exact x);refine k _ B _ S1 Y _ true (λb=>b=p∨W b) (s.new x _) (I.new x _) ⟨.tup iA (I.fh.free x) (r.mono (.refl _) λb hb=>⟨?_,(y.dom b hb).2⟩) (λz=>(y.dom p z).1 x) (λb=>WO),λ_ b hb=>?_,λz=>(by cases z),λ_ i f e b hb z=>?_⟩ q;rw[xA (g b (y.dom b hb).1)];rcases hb with rfl|hb
  ·exact .inl (s.dm _ x)
  exact fr b hb;rcases hb with rfl|hb
  ·exact(I.dom e z).1 x
  exact y.nw i f e b hb z
theorem yl{W:Operator}(s:Ste F H S ρ B A S1 Y)(I:Rl K B A S1 Y σ)(Z:Tr K B A E v a J)(r:Tr K B A C w b G)(h:binT W a.vw b.vw λz n=>Q z n Y)(k:vB K ws F H S ρ σ Q R):Yd K W v w A R:=by
 have g:∀{i j:Int},a.vw=.sc (.int i)->b.vw=.sc (.int j)->v=.int i/\w=.int j:=λf e=>⟨Z.int f,r.int e⟩
 cases W with
 |Add =>
  rcases h with⟨i,j,f,e,h⟩| ⟨x,y,f,e,h⟩| ⟨P,N,ds,es,f,e,e1,e2,hl,q⟩
  obtain⟨rfl,rfl⟩:=g f e;exact k.d s I (.int _) h;obtain rfl:=Z.str f;obtain rfl:=r.str e;exact⟨h.1,k.d s I (.str _) h.2⟩;obtain⟨p,xs,_,rfl,hp,rp,_⟩:=Z.ls I.fh f;obtain⟨p2,O,_,rfl,hq,rq,_⟩:=r.ls I.fh e;have M:=(rp.un e1).1;have L:=(rq.un e2).1;exact⟨xs,O,hp,hq,by rw[M.length,L.length];exact hl,λl hl=>k.listD s I hl (M.append L) q⟩
 |Sub=>obtain⟨i,j,f,e,h⟩:=h;obtain⟨rfl,rfl⟩:=g f e;exact k.d s I (.int _) h|Mult=>obtain⟨i,j,f,e,h⟩:=h;obtain⟨rfl,rfl⟩:=g f e;exact⟨h.1,k.d s I (.int _) h.2⟩|FloorDiv=>obtain⟨i,j,f,e,h⟩:=h;obtain⟨rfl,rfl⟩:=g f e;exact⟨h.1,k.d s I (.int _) h.2⟩|Mod=>obtain⟨i,j,f,e,h⟩:=h;obtain⟨rfl,rfl⟩:=g f e;exact⟨h.1,k.d s I (.int _) h.2⟩|_=>exact h.elim
theorem sf{x y:D}{r:Bool->Prop}(neg:Bool)(e:Rep K A v x)(z:Rep K A w y)(h:Zs x y λk=>r (if neg then !k else k))(k:∀c,r c->R (.bl c) A):rEq K neg v w A R:=by
 have n:NF x/\NF y/\r (if neg then !PyData.eqv x y else Qv x y)->(∃l f,Rep K A v l/\Rep K A w f/\NF l/\NF f/\R (.bl (if neg then !PyData.eqv l f else Qv l f)) A):=λ⟨Z,s,q⟩ =>
  ⟨x,y,e,z,Z,s,k _ q⟩
 unfold Zs at h;split at h;cases e;cases z;exact k _ h;cases e;cases z;exact k _ h;cases e;cases z;exact k _ h;have g:=n h;rename_i n1 n2 n3;cases e with
 |int i =>
  cases z with|int j=>exact absurd rfl (n1 i j rfl)|_=>exact g
 |str i =>
  cases z with|str j=>exact absurd rfl (n2 i j rfl)|_=>exact g
 |bl i =>
  cases z with|bl j=>exact absurd rfl (n3 i j rfl)|_=>exact g
 |_=>exact g
theorem U7{F:Hp}{v w:V}{a b:D}(x:Rep K F v a)(h:Rep K F w b)(z:FB a=true)(y:FB b=true):Nc v w=Qv a b:=by cases x<;>cases h<;>first|exact absurd (show false=true from z) QG|exact absurd (show false=true from y) QG | (simp only[Qv];rfl) | (simp only[Qv])
theorem vW{F:Hp}{v:V}{a:D}(h:Rep K F v a)(x:FB a=true):gG v=true:=by cases h<;>first|rfl|exact absurd (show false=true from x) QG
theorem eT{F:Hp}(h:Reps K F vs ds)(f:ds.all FB=true):vs.all gG=true :=
 Reps.ind (R:=λvs ds=>ds.all FB=true->vs.all gG=true) (λ_=>rfl) (λh x f=>by rw[qb,QW]at f ⊢;exact⟨vW h f.1,x f.2⟩) h f
theorem mN{F:Hp}{v:V}{a:D}(x:Rep K F v a)(z:FB a=true):∀{vs:LV}{ds:List D},Reps K F vs ds->ds.all FB=true->inV v vs=ds.any λy=>Qv y a
 |_,_,.nil,_=>rfl|_,_,.cons h t,f=>by rw[qb,QW]at f;have e:=mN x z t f.2;unfold inV at e ⊢;rw[wv,wv,U7 h x f.1 z,e]
end
mutual
theorem fX{F:Hp}:∀{k:NK}{v:V},Rep K F v (tD k)->Tl K F k v
 | .s x,v,h=>by have h:Rep K F v (.str x):=h;cases h;rfl|.t ks,v,h=>by
  have h:Rep K F v (.tuple (tDs ks)):=h;cases h with|tup z y=>exact⟨_,_,rfl,z,reps_key y⟩
theorem reps_key{F:Hp}:∀{ks:List NK}{vs:LV},Reps K F vs (tDs ks)->KyVs K F ks vs
 |[],vs,h=>by have h:Reps K F vs []:=h;cases h;rfl|k::ks,vs,h=>by
  have h:Reps K F vs (tD k::tDs ks):=h;cases h with|cons h t=>exact⟨_,_,rfl,fX h,reps_key t⟩
end
section
variable{k x y:D}{o:HO}{ks ds:List D}{vs xs:LV}{X:Bool->Prop}{U:CmpOp}{W:Bool->Hp->Prop}{n:String}{Y:dB}{ts:LT}
theorem LQ{F:Hp}{v:V}(hk:UD true k)(r:Rep K F v k):∃q p,k=tD q/\v=.ref p/\pO K F p q:=by obtain⟨q,rfl,h⟩:=hk;have r:=fX r;obtain⟨p,_,rfl,_⟩:=id r;exact⟨_,p,rfl,rfl,r,h⟩
theorem DG(q:NK):∀(kvs:List KE),uH kvs q=(cA (kvs.map λp=>tD p.1) (tD q)).bind λn=>(kvs.map (·.2.2))[n]?
 |[]=>rfl|p::r=>by rw[QS,QS];unfold cA;by_cases e:p.1=q;rw[HR e,if_pos (by rw[e])];rfl;rw[LR e,if_neg λz=>e (RU z),DG q r];cases cA (r.map λp=>tD p.1) (tD q)<;>rfl
theorem BJ(q:Key):∀(kvs:List (Key×V)),AL kvs q=(cA (kvs.map λp=>kD p.1) (kD q)).bind λn=>(kvs.map (·.2))[n]?
 |[]=>rfl|p::r=>by rw[QS,QS];unfold cA;by_cases e:p.1=q;rw[SL e,if_pos (by rw[e])];rfl;rw[TL e,if_neg λz=>e (j7 z),BJ q r];cases cA (r.map λp=>kD p.1) (kD q)<;>rfl
theorem CK.get{a:Addr}{b:Bool}(u:H1 a=some o)(q:CK K H1 b o ks vs)(e:Rep K H1 w k)(hk:UD b k):iR K H1 a w ((cA ks k).bind λn=>vs[n]?):=by
 cases b with
 |true=>obtain⟨v,h,rfl,rfl,rfl,g,_⟩:=q;obtain⟨q,p,rfl,rfl,f⟩:=LQ hk e;exact⟨v,h,q,u,g,f,(DG q h).symm⟩|false =>
  obtain⟨z,rfl⟩:=hk;cases e;rcases q with⟨h,_,rfl,rfl,rfl,_⟩| ⟨v,rfl,rfl,rfl⟩
  exact .inl ⟨h,u,(BJ (.inr z) h).symm⟩;exact .inr ⟨v,u,rfl⟩
theorem iT{b:Bool}(q:CK K H1 b o ks vs):((cA ks k).bind λn=>vs[n]?).isSome=(cA ks k).isSome:=by
 cases e:cA ks k with
 |none=>rfl|some n =>
  have z:=(Qg.mp (BC e)).1;have h:n<vs.length:=by rw[<- q.len];exact z
  simp[h]
theorem SV{b neg:Bool}{a:Addr}(u:H1 a=some o)(q:CK K H1 b o ks vs)(z:Rep K H1 v x)(hk:UD b x)(h:R (.bl (if neg then !(cA ks x).isSome else(cA ks x).isSome)) H1):mS K neg v (.ref a) H1 R :=
 .inr (.inr ⟨_,q.get u z hk,by rw[iT q];exact h⟩)
theorem jf(neg:Bool)(z:Rep K H1 v x)(e:Rep K H1 w y)(h:Sr x y λk=>X (if neg then !k else k))(k:∀c,X c->R (.bl c) H1):mS K neg v w H1 R:=by
 unfold Sr at h;split at h;cases z;cases e;exact k _ h;rename_i ds;have u:=e;cases e with
 |lst l f =>
  rcases h.1 with⟨g,fs⟩| ⟨j,i⟩
  refine .inl ⟨_,_,rfl,.inl l,vW z g,eT f fs,?_⟩;rw[mN z g f fs];exact k _ h.2;exact .inr (.inl ⟨_,ds,z,.inl u,j,i,k _ h.2⟩)
 rename_i ds;have u:=e;cases e with
 |tup l f =>
  rcases h.1 with⟨g,fs⟩| ⟨j,i⟩
  refine .inl ⟨_,_,rfl,.inr l,vW z g,eT f fs,?_⟩;rw[mN z g f fs];exact k _ h.2;exact .inr (.inl ⟨_,ds,z,.inr u,j,i,k _ h.2⟩)
 obtain⟨b,p,hk,q⟩:=h;cases e with
 |@dct s a o ks vs ds h m r =>
  have hl:ks.length=ds.length:=by rw[m.len,Reps.length r]
  rw[Wn (wa hl)]at q;cases OX m p;exact SV h m z hk (k _ q)
 exact h.elim
theorem dQ{g:Int->Int->Bool}(u:Rep K H1 v x)(z:Rep K H1 w y)(h:mZ g x y X)(k:∀c,X c->R (.bl c) H1):uZ g v w H1 R:=by unfold mZ at h;split at h;cases u;cases z;exact k _ h;exact h.elim
theorem Rep.non_iff(h:Rep K H1 v x):decide (v=.non)=c7 x:=by cases h<;>rfl
theorem lW(u:Rep K H1 v x)(z:Rep K H1 w y)(h:mW U x y X)(k:∀c,X c->R (.bl c) H1):A7 K U v w H1 R:=by
 cases U with|Eq=>exact sf false u z h k|NotEq=>exact sf true u z h k|Lt=>exact dQ u z h k|LtE=>exact dQ u z h k|Gt=>exact dQ u z h k|GtE=>exact dQ u z h k|In=>exact jf false u z h k|NotIn=>exact jf true u z h k|Is=>have a:z0 x y X:=h;unfold z0 at a;split at a;cases z;have e:=u.non_iff;show R (.bl (decide (v=.non))) H1;rw[e];exact k _ a;cases z;cases u;exact⟨_,rfl,k _ a⟩;exact a.elim|IsNot=>have a:z0 x y λk=>X (!k):=h;unfold z0 at a;split at a;cases z;have e:=u.non_iff;show R (.bl (!decide (v=.non))) H1;rw[e];exact k _ a;cases z;cases u;exact⟨_,rfl,k _ a⟩;exact a.elim
theorem Tc(f:Same F1 H1)(z:Rep K H1 v x)(u:Tr K F1 H1 sb w b Zb)(h:Ac U x b X)(k:∀c,X c->R (.bl c) H1):A7 K U v w H1 R:=by
 cases b with
 |d y=>exact lW z (u.rep f) h k|lst ts=>exact lW z (u.rep f) h k|tup ts=>exact lW z (u.rep f) h k|dct b ks ts =>
  obtain⟨hk,h⟩:=h;cases u with
  |dct a e _ _ _ _ =>
   rcases h with⟨rfl,q⟩| ⟨rfl,q⟩
   exact SV (neg:=false) a (e.mono f) z hk (k _ q);exact SV (neg:=true) a (e.mono f) z hk (k _ q)
theorem vJ(r:Reps K F xs ds):(!ds.isEmpty)=!xs.isEmpty:=by cases r<;>rfl
theorem EW(z:Rep K H1 v x)(h:sI x X)(k:∀c,X c->W c H1):MF K v H1 W:=by
 unfold sI at h;split at h;cases z;exact k _ h;cases z;exact k _ h;cases z;exact k _ h;cases z;exact⟨h.1,k _ h.2⟩;cases z with|lst w u=>rw[vJ u]at h;exact⟨_,.inl ⟨_,w,rfl⟩,k _ h⟩
 cases z with|tup w u=>rw[vJ u]at h;exact⟨_,.inr (.inl ⟨_,w,rfl⟩),k _ h⟩
 exact h.elim
theorem m8(z:Rep K H1 v x)(h:Ul x X)(k:∀c,X c->W c H1):n8 v H1 W:=by unfold Ul at h;split at h;cases z;exact k _ h;exact h.elim
theorem zk(s:Ste F H S ρ F1 H1 S1 ρ1)(I:Rl K F1 H1 S1 ρ1 σ)(A:Tr K F1 H1 sa v a Za)(E:∀b,Za b->∃(i:Nat) (s:Sl),i∈ws/\ρ1[i]?=some (some s)/\S1 i b)(m:Tr K F1 H1 sb w b Zb)(h:kO a.vw b.vw λz=>Q z false ρ1)(k:vB K ws F H S ρ σ Q R):bZ K v w H1 R:=by
 rcases h with⟨z,i,c,j,g,f,e,q⟩| ⟨ts,i,d,j,g,f,q⟩| ⟨ts,i,d,j,g,f,q⟩
 obtain rfl:=A.str j;obtain rfl:=m.int g;exact⟨f,c,e,k.d s I (.str _) q⟩;obtain⟨p,xs,G,rfl,C,l,B⟩:=A.ls I.fh j;obtain rfl:=m.int g;obtain⟨x,Z,e,r,u⟩:=l.at f;exact⟨xs,x,.inl C,e,k _ F1 H1 S1 ρ1 _ false Z s I ⟨r,λz=>(by cases z),λ_ b hb=>E b (B b (u b hb)),λz=>(by cases z)⟩ q⟩;obtain⟨p,xs,G,rfl,C,l,B⟩:=A.tp I.fh j;obtain rfl:=m.int g;obtain⟨x,Z,e,r,u⟩:=l.at f;exact⟨xs,x,.inr C,e,k _ F1 H1 S1 ρ1 _ false Z s I ⟨r,λz=>(by cases z),λ_ b hb=>E b (B b (u b hb)),λz=>(by cases z)⟩ q⟩
theorem Dk(s:Ste F H S ρ F1 H1 S1 ρ1)(I:Rl K F1 H1 S1 ρ1 σ)(l:Tr K F1 H1 sa v a Za)(e:∀b,Za b->∃(i:Nat) (s:Sl),i∈ws/\ρ1[i]?=some (some s)/\S1 i b)(j:Rep K H1 w y)(h:ZT a.vw y λz=>Q z false ρ1)(k:vB K ws F H S ρ σ Q R):bZ K v w H1 R:=by
 obtain⟨b,ks,ts,n,d,G,hk,C,A,q⟩:=h;obtain⟨p,o,vs,L,rfl,B,J,f,m,_⟩:=l.dc I.fh G;obtain⟨x,Z,E,r,u⟩:=f.get A;have g:=(J.mono I.fh).get B j hk;rw[C]at g;have g:iR K H1 p w (vs[n]?):=g;rw[E]at g;have fin:=k _ F1 H1 S1 ρ1 _ false Z s I ⟨r,λz=>(by cases z),λ_ b hb=>e b (m b (u b hb)),λz=>(by cases z)⟩ q;cases w with|str z=>exact⟨x,g,fin⟩|ref c=>exact⟨x,g,fin⟩|_=>exact g.elim
theorem Reps.cut(r:Reps K F xs ds)(h z:Option Int):Reps K F (N0 xs h z) (gJ ds h z):=by unfold N0 gJ;rw[r.length];exact(r.drop _).take _
theorem Uh{b f:Option Int}(s:Ste F H S ρ F1 H1 S1 ρ1)(I:Rl K F1 H1 S1 ρ1 σ)(w:Tr K F1 H1 sa v a Za)(h:RJ a.vw b f λz n=>Q z n ρ1)(k:vB K ws F H S ρ σ Q R):gu K v b f H1 R:=by
 rcases h with⟨z,u,h⟩| ⟨ts,ds,u,e,q⟩
 obtain rfl:=w.str u;exact⟨h.1,k.d s I (.str _) h.2⟩;obtain⟨p,xs,_,rfl,i,g,_⟩:=w.ls I.fh u;exact⟨p,xs,rfl,i,λl hl=>k.listD s I hl ((g.un e).1.cut _ _) q⟩
theorem Ra{P:Option Int->Prop}{z:Option Int->Hp->Prop}(u:Rep K H1 v x)(h:kG x P)(k:∀o,P o->z o H1):GM v H1 z:=by unfold kG at h;split at h;cases u;exact k _ h;exact h.elim
noncomputable def Br:D->Value
 | .none=>.type "NoneType"|.bool _=>.type "bool"|.int _=>.type "int"|.str _=>.type "str"|.list _=>.type "list"|.tuple _=>.type "tuple"|.dict _=>.type "dict"
theorem Rep.ty(w:Rep K H1 v x):TyOf K H1 v (Br x)∨Sw K H1 v (Br x):=by
 cases w with
 |non=>exact .inl .non|bl b=>exact .inl (.bl _)|int b=>exact .inl (.int _)|str b=>exact .inl (.str _)|lst h u=>exact .inr (.inl ⟨_,_,rfl,h,rfl⟩)|tup h u=>exact .inr (.inr ⟨_,_,rfl,h,rfl⟩)|@dct b _ _ _ _ _ h q _ =>
  cases b with
  |true=>obtain⟨a,z,rfl,_⟩:=q;exact .inl (.dT h)|false =>
   rcases q with⟨z,_,rfl,_⟩| ⟨a,rfl,_⟩
   exact .inl (.dK h);exact .inl (.dT h)
theorem Mj{k:Bool}(h:isD n x=some k)(z:vP n=true):QBI K (Br x) (.type n)=some k:=by simp only[vP,wX,beq_iff_eq]at z;rcases z with((((rfl|rfl)|rfl)|rfl)|rfl)|rfl<;>cases x<;>simp[isD]at h<;>subst h<;>rfl
theorem Ij{k:Bool}(z:Rep K H1 v x)(h:isD n x=some k)(u:vP n=true)(q:R (.bl k) H1):Rh K [v,.ty n] H1 R :=
 ⟨Br x,.type n,k,z.ty,rfl,Mj h u,q⟩
inductive Tn(K:QA)(F H:Hp)(Y:dB):LV->LT->Prop where
 |nil:Tn K F H Y [] []
 |cons {v:V}{t:T}{vs:LV}{ts:LT}{Z:dB}:Tr K F H false v t Z->(∀b,Z b->Y b)->Tn K F H Y vs ts->Tn K F H Y (v::vs) (t::ts)
theorem PL(ts:LT):∀{xs:List (T×Bool)},vO xs=ts->SB xs=ts.map T.vw
 |[],h=>by subst h;rfl|p::r,h=>by subst h;simp only[SB,vO,QS,PL _ rfl]
theorem Tn.one{x:Vw}(h:Tn K F H Y vs ts)(e:ts.map T.vw=[x]):∃v t Z,vs=[v]/\ts=[t]/\t.vw=x/\Tr K F H false v t Z/\∀b,Z b->Y b:=by
 cases h with
 |nil=>cases e|cons r z t =>
  simp only[QS,WQ]at e;cases t with|nil=>exact⟨_,_,_,rfl,rfl,e.1,r,z⟩|cons _ _ _=>simp at e
theorem Tn.two{x y:Vw}(h:Tn K F H Y vs ts)(e:ts.map T.vw=[x,y]):∃v w t u Z a,vs=[v,w]/\ts=[t,u]/\t.vw=x/\u.vw=y/\Tr K F H false v t Z/\Tr K F H false w u a/\(∀b,Z b->Y b)/\(∀b,a b->Y b):=by
 cases h with|nil=>cases e|cons r z t=>simp only[QS,WQ]at e;obtain⟨v,u,a,rfl,rfl,i,g,f⟩:=t.one e.2;exact⟨_,_,_,_,_,_,rfl,rfl,e.1,i,r,g,z,f⟩
theorem EJ:∀{xs:LV}{z:LS},Reps K F xs (z.map PyData.str)->xs=z.map V.str
 |_,[],.nil=>rfl|_,y::z,.cons h t=>by cases h;rw[QS,EJ t]
theorem ZO:∀(h:LS),Reps K F (h.map V.str) (h.map PyData.str)
 |[]=>.nil|y::h=>.cons (.str y) (ZO h)
theorem bT:∀{xs:LV}{z:LJ},Reps K F xs (z.map PyData.int)->xs=z.map V.int
 |_,[],.nil=>rfl|_,y::z,.cons h t=>by cases h;rw[QS,bT t]
theorem xP:∀(h:LJ),Reps K F (h.map V.int) (h.map PyData.int)
 |[]=>.nil|y::h=>.cons (.int y) (xP h)
theorem vZ{α:Type}{g:α->D}{u:LV}(Z:xs.Perm u):∀{l:List α},Reps K F xs (l.map g)->∃z:List α,z.Perm l/\Reps K F u (z.map g):=by
 induction Z with
 |nil=>intro l r;exact⟨l,QBL _,r⟩|cons x _ m =>
  intro l r;cases l with
  |nil=>cases r|cons a l=>cases r with|cons h t=>obtain⟨z,p,v⟩:=m t;exact⟨a::z,p.cons _,.cons h v⟩
 |swap x y C =>
  intro l r;cases l with
  |nil=>cases r|cons a l=>cases l with
   |nil=>cases r with|cons h t=>cases t
   |cons b l=>cases r with
    |cons h t=>cases t with|cons A t=>exact⟨b::a::l,QCS.swap _ _ _,.cons A (.cons h t)⟩
 |trans _ _ s q=>intro l r;obtain⟨B,i,e⟩:=s r;obtain⟨j,f,w⟩:=q e;exact⟨j,f.trans i,w⟩
theorem IU{ls:List (LS)}(h:Reps K F xs (ls.map HC)):∀x∈xs,∃a,∃u:LS,x=.ref a/\pC K F a (u.map V.str):=by
 induction ls generalizing xs with
 |nil=>cases h;exact λ_ z=>nomatch z
 |cons l ls v =>
  cases h with
  |cons r t =>
   intro x h;rcases QL.mp h with e|h;subst e;cases r with|lst q r=>exact⟨_,l,rfl,by rw[<- EJ r];exact q⟩
   exact v t x h
theorem Kl{O:Bi}(s:Ste F H S ρ F1 H1 S1 ρ1)(I:Rl K F1 H1 S1 ρ1 σ)(m:Tn K F1 H1 Y vs ts)(h:Y1 O (ts.map T.vw) λz n=>Q z n ρ1)(k:vB K ws F H S ρ σ Q R):Dq K O vs H1 R:=by
 cases O with
 |len =>
  rcases h with⟨z,e,h⟩| ⟨A,e,h⟩| ⟨A,e,h⟩
  obtain⟨v,t,Z,rfl,rfl,e,r,_⟩:=m.one e;obtain rfl:=r.str e;exact .inl ⟨_,rfl,h.1,k.d s I (.int _) h.2⟩;obtain⟨v,t,Z,rfl,rfl,e,r,_⟩:=m.one e;obtain⟨p,xs,_,rfl,b,f,_⟩:=r.ls I.fh e;exact .inr ⟨_,xs,rfl,.inl b,by rw[f.length];exact k.d s I (.int _) h⟩;obtain⟨v,t,Z,rfl,rfl,e,r,_⟩:=m.one e;obtain⟨p,xs,_,rfl,b,f,_⟩:=r.tp I.fh e;exact .inr ⟨_,xs,rfl,.inr b,by rw[f.length];exact k.d s I (.int _) h⟩
 |any=>obtain⟨A,bs,e,hb,q⟩:=h;obtain⟨v,t,Z,rfl,rfl,e,r,_⟩:=m.one e;obtain⟨p,xs,_,rfl,b,f,_⟩:=r.ls I.fh e;obtain rfl:=(f.un hb).1.bools;exact⟨bs,b,k.d s I (.bl _) q⟩|min=>obtain⟨i,j,e,q⟩:=h;obtain⟨v,w,t,u,Z1,Z2,rfl,rfl,e1,e2,L,P,_⟩:=m.two e;obtain rfl:=L.int e1;obtain rfl:=P.int e2;exact⟨i,j,rfl,k.d s I (.int _) q⟩|sorted =>
  rcases h with⟨A,G,e,hb,g,q⟩| ⟨A,ls,e,hb,g,q⟩| ⟨A,ns,e,hb,g,q⟩
  obtain⟨v,t,Z,rfl,rfl,e,r,_⟩:=m.one e;obtain⟨p,xs,_,rfl,b,f,_⟩:=r.ls I.fh e;obtain rfl:=EJ (f.un hb).1;exact⟨_,rfl,.inl ⟨G,b,g,λl B hl C M=>k.listD s I hl (ZO B) (q B C M)⟩⟩;obtain⟨v,t,Z,rfl,rfl,e,r,_⟩:=m.one e;obtain⟨p,xs,_,rfl,b,f,_⟩:=r.ls I.fh e;have J:=(f.un hb).1;refine⟨_,rfl,.inr (.inl ⟨xs,b,by rw[Reps.length J,QE];exact g,λx hx=>?_,λl ys hl b=>?_⟩)⟩;obtain⟨a,G,e,sq⟩:=IU J x hx;exact⟨a,G,e,I.fh.seq sq⟩;obtain⟨N,C,L⟩:=vZ b.symm J;exact k.listD s I hl L (q N C);obtain⟨v,t,Z,rfl,rfl,e,r,_⟩:=m.one e;obtain⟨p,xs,_,rfl,b,f,_⟩:=r.ls I.fh e;obtain rfl:=bT (f.un hb).1;exact⟨_,rfl,.inr (.inr ⟨ns,b,g,λl E hl C M=>k.listD s I hl (xP E) (q E C M)⟩)⟩
 |tuple=>obtain⟨A,ds,e,hb,q⟩:=h;obtain⟨v,t,Z,rfl,rfl,e,r,_⟩:=m.one e;obtain⟨p,xs,_,rfl,b,f,_⟩:=r.ls I.fh e;exact⟨_,xs,rfl,b,λl hl=>k.tupD s I hl (f.un hb).1 q⟩
theorem Yj{m:Mt}(s:Ste F H S ρ F1 H1 S1 ρ1)(I:Rl K F1 H1 S1 ρ1 σ)(w:Tr K F1 H1 sa v a Za)(b:Tn K F1 H1 Y vs ts)(h:Nr m a.vw (ts.map T.vw) λz n=>Q z n ρ1)(k:vB K ws F H S ρ σ Q R):jc K m v vs H1 R:=by
 cases m with|index=>obtain⟨z,y,i,u,g,e,f,q⟩:=h;obtain rfl:=w.str g;obtain⟨v,t,Z,rfl,rfl,e,r,_⟩:=b.one e;obtain rfl:=r.str e;exact⟨z,y,i,u,rfl,rfl,f,k.d s I (.int _) q⟩|_=>exact h.elim
theorem Tp{x:Vw}(h:x.isS=true):∃z,x=.sc (.str z):=by
 cases x with
 |sc d=>cases d with|str z=>exact⟨z,rfl⟩|_=>exact(QG h).elim
 |_=>exact(QG h).elim
theorem gp{m:Mt}(u:Tr K F1 H1 sa v a Za)(h:Y6 m a.vw=true):L1 K m.ty v H1:=by
 have h:=yA h;obtain⟨z,w⟩:=Tp h.1;obtain rfl:=u.str w;cases m with|index=>rfl|_=>exact(QG h.2).elim
end
end
inductive AV(K:QA)(F H:Hp):List Md->LV->List (T×Bool)->(Addr->Prop)->(Addr->Prop)->Prop where
 |nil {md:List Md}{W Y:dB}:(∀b,¬ W b)->AV K F H md [] [] W Y
 |chg {md:List Md}{v:V}{vs:LV}{x:T}{xs:List (T×Bool)}{W Y:dB}:(md.headD .uz).isMut=true->AV K F H md.tail vs xs W Y->AV K F H md (v::vs) ((x,true)::xs) W Y
 |new {md:List Md}{v:V}{vs:LV}{x:T}{xs:List (T×Bool)}{Z W W' Y:dB}:(md.headD .uz).isMut=false->Tr K F H true v x Z->AV K F H md.tail vs xs W' Y->(∀b,Z b->¬ W' b)->(∀b,W b↔Z b∨W' b) ->
   AV K F H md (v::vs) ((x,true)::xs) W Y
 |tmp {md:List Md}{v:V}{vs:LV}{x:T}{xs:List (T×Bool)}{Z W Y:dB}:(md.headD .uz).isMut=false->Tr K F H false v x Z->(∀b,Z b->Y b)->AV K F H md.tail vs xs W Y ->
   AV K F H md (v::vs) ((x,false)::xs) W Y
section
variable{K:QA}{F H o l:Hp}{S S1:Ft}{ρ g:kA}{σ:St}
section
variable{Y W:dB}{md:List Md}{vs:LV}{xs:List (T×Bool)}{ws:LN}{c:Hp}{w:Ft}{y:kA}
theorem AV.sub{u:dB}(h:AV K F H md vs xs W Y)(k:∀b,Y b->u b):AV K F H md vs xs W u:=by
 induction h with|nil h=>exact .nil h|chg h t x=>exact .chg h (x k)|new h r t n q x=>exact .new h r (x k) n q|tmp h r z t x=>exact .tmp h r (λb hb=>k b (z b hb)) (x k)
theorem AV.dom(h:AV K F H md vs xs W Y):∀b,W b->H b≠none/\F b=none:=by
 induction h with|nil h=>exact λb hb=>absurd hb (h b)|chg h t x=>exact x|new h r t n q x=>exact λb hb=>((q b).mp hb).elim (r.dom b) (x b)|tmp h r z t x=>exact x
theorem AV.length(h:AV K F H md vs xs W Y):vs.length=xs.length:=by
 induction h with|nil h=>rfl|chg h t x=>simp[x]|new h r t n q x=>simp[x]|tmp h r z t x=>simp[x]
theorem AV.trs(h:AV K F H md vs xs W Y):(∀(i:Nat),(md.getD i .uz).isMut=false)->DE xs=true->Trs K F H true vs (LF xs) W:=by
 induction h with
 |nil h=>exact λ_ _=>.nil h|@chg md _ _ _ _ _ _ h t u =>
  intro m;have:=m 0;cases md with|nil=>cases h|cons a r=>exact absurd h (by simpa using this)
 |@new md v vs x xs Z W k Y h r t n q u =>
  intro m e;simp only[DE,QW]at e;exact .cons r (u (λi=>by cases md with|nil=>exact m i|cons a md=>exact m (i+1)) e.2) n q
 |@tmp md v vs x xs Z W Y h r z t u =>
  intro m e;simp only[DE,QW]at e;refine .cons (S1:=λ_=>False) ?_ (u (λi=>by cases md with|nil=>exact m i|cons a md=>exact m (i+1)) e.2) (λ_ z=>z.elim) λb=>by simp
  cases x with
  |d x=>cases r with|d r n=>exact .d r λ_ z=>z
  |_=>exact absurd e.1 (by simp[YH,T.isD])
theorem sj(i:Nat):((([]:List Md).getD i .uz).isMut)=false:=rfl
theorem AV.tn(h:AV K F H md vs xs W Y)(e:Same F o)(k:∀b,W b->o b=H b)(f:∀b,Y b->F b=none->o b=none)(i:md=[]):Tn K o H Y vs (vO xs):=by
 induction h with|nil h=>exact .nil|chg h t a=>subst i;cases h|@new md v vs x xs Z W m Y h r t n q a=>subst i;refine .cons (Z:=λ_=>False) ?_ (λb z=>z.elim) (a (λb hb=>k b ((q b).mpr (.inr hb))) f rfl);exact .d (r.kept e λb u hb j=>by rw[k b ((q b).mpr (.inl hb))];exact j) λ_ z=>z|@tmp md v vs x xs Z W Y h r z t a=>subst i;exact .cons (r.mono e λb hb=>⟨rfl,f b (z b hb) (r.dom b hb).2⟩) z (a k f rfl)
structure AR(K:QA)(ws:LN)(md:List Md)(c:Hp)(w:Ft)(y:kA)(F H:Hp)(S:Ft)(ρ:kA)(vs:LV)(xs:List (T×Bool))(W Y:dB):Prop where
 av:AV K F H md vs xs W Y
 fr:∀b,W b->c b=none∨U y w b
 tm:∀b,Y b->∃(i:Nat) (s:Sl),i∈ws/\ρ[i]?=some (some s)/\S i b
 nw:∀(i:Nat) s,ρ[i]?=some (some s)->∀b,W b->¬ S i b
theorem AR.held(h:AR K ws md c w y F H S ρ vs xs W Y):Held F H S ρ W:=⟨h.av.dom,h.nw⟩
theorem AR.from{v u:Hp}{z:Ft}{x:kA}(s:Stp F H S ρ o l S1 g)(h:AR K ws md l S1 g v u z x vs xs W Y):AR K ws md H S ρ v u z x vs xs W Y :=
 ⟨h.av,λb hb=>by rcases h.fr b hb with q|q;exact .inl (s.dm b q);exact(s.uu b q).symm,h.tm,h.nw⟩
theorem AR.vars{us:LN}(h:AR K ws md c w y F H S ρ vs xs W Y)(k:∀i∈ws,i∈us):AR K us md c w y F H S ρ vs xs W Y :=
 ⟨h.av,h.fr,λb hb=>let⟨i,s,z,x⟩:=h.tm b hb;⟨i,s,k i z,x⟩,h.nw⟩
theorem AR.frz{ws:LN}{vs:LV}{xs:List (T×Bool)}{W Y:dB}(s:Ste F H S ρ o l S1 g)(I:Rl K o l S1 g σ)(h:AR K ws [] H S ρ o l S1 g vs xs W Y) :
  ∃v,Ste F H S ρ v l S1 g/\Rl K v l S1 g σ/\Tn K v l Y vs (vO xs) /\
   ∀st k t' u,Tr K o l st k t' u->(∀b,u b->∃(i:Nat) (s:Sl),g[i]?=some (some s)/\S1 i b)->Tr K v l st k t' u:=by
 have x:=h.held;have f:=zH (H:=l) λb hb=>(x.dom b hb).2;refine⟨uJ o l W,s.frz (λb hb=>(x.dom b hb).2) h.fr,I.frz x,h.av.tn f (λb hb=>xJ hb) (λb m n=>?_) rfl,λst k t' u r j=>r.mono f λb hb=>⟨rfl,?_⟩⟩;obtain⟨i,a,_,e,p⟩:=h.tm b m;rw[dC λz=>h.nw i a e b z p];exact n;obtain⟨i,a,q,e⟩:=j b hb;rw[dC λz=>x.nw i a q b z e];exact(r.dom b hb).2
noncomputable def pB:List Md->LV->LV
 |_,[]=>[]|md,v::vs=>match md.headD .uz with
  | .chg=>v::pB md.tail vs|_=>pB md.tail vs
noncomputable abbrev kr(K:QA)(p:PX)(md:List Md)(F H:Hp)(S:Ft)(ρ:kA)(σ:St)(Q:List (T×Bool)->kA->Prop)(R:LV->Hp->Prop):Prop :=
 ∀vs u x z h xs W Y,Ste F H S ρ u x z h->Rl K u x z h σ->AR K (xH p) md H S ρ u x z h vs xs W Y->(pB md vs).map (λv=>some (some v))=(bA md p).map (λj=>σ[j]?)->Q xs h->R vs x
def Mq(K:QA)(F H:Hp)(x:XD)(h:Option Addr):Prop:=∃a fs,h=some a/\H a=some (.xd fs)/\Paired (λ(p:Str×V) (q:Str×D)=>p.1=q.1/\Rep K F p.2 q.2) fs x.2
def OE(K:QA)(F H:Hp)(S:Ft)(ρ:kA)(E:XE)(a:XK):Prop:=∀x v u h k z,Stp F H S ρ u h k z->Same u h->Mq K u h x v->E x->a x.1 v h
theorem OE.from{E:XE}{u:XK}(h:OE K F H S ρ E u)(s:Stp F H S ρ o l S1 g):OE K o l S1 g E u:=λx k e b a z v f r q=>h x k e b a z (s.trans v) f r q
theorem OE.never:OE K F H S ρ (λ_=>False) (λ_ _ _=>False):=λ_ _ _ _ _ _ _ _ _ z=>z
inductive ArgsR(K:QA)(F H:Hp)(Y:dB):List Md->LV->LT->Prop where
 |nil {md:List Md}:ArgsR K F H Y md [] []
 |chg {md:List Md}{v:V}{vs:LV}{t:T}{ts:LT}:md.headD .uz=.chg->ArgsR K F H Y md.tail vs ts->ArgsR K F H Y md (v::vs) (t::ts)
 |rd {md:List Md}{v:V}{vs:LV}{t:T}{ts:LT}{Z:dB}:md.headD .uz≠.chg->Tr K F H false v t Z->(∀b,Z b->Y b)->ArgsR K F H Y md.tail vs ts->ArgsR K F H Y md (v::vs) (t::ts)
structure Frm(M:dB)(F H F' H':Hp):Prop where
 ff:Same F F'
 fh:Same F' H'
 hh:∀b u,H b=some u->¬ M b->H' b=some u
 dm:∀b,H' b=none->H b=none
 fn:∀b,F b=none->F' b≠none->M b∨H b=none
noncomputable def lift(K:QA)(P:PSp):Sp:=λvs H Q E=>∃(F:Hp) (u:LT) (M Y:dB),Same F H/\ArgsR K F H Y P.md vs u/\Trs K F H true (pB P.md vs) (CB P.md u) M/\(∀b,Y b->¬ M b) /\
 P.run u (λr e=>∀v z h Z k,Frm M F H z h->Tr K z h true v r Z->Trs K z h true (pB P.md vs) e k->(∀b,Z b->¬ k b)->(∀b,Z b∨k b->M b∨H b=none)->Q v h)
  (λx=>∀a z h,Frm M F H z h->Mq K z h x a->E x.1 a h)
structure GOk(K:QA)(Γ:Ev)(Ψ:PEv):Prop where
 sp:∀f vs H Q E,lift K (Ψ.sp f) vs H Q E->Γ.sp f vs H Q E
 va:∀x d,Ψ.va x=some d->∀F,Rep K F (Γ.va x) d
structure PSnd(K:QA)(Γ:Ev)(Ψ:PEv)(p:PX):Prop where
 e:∀{E:XE}{EK:XK}{F H:Hp}{S:Ft}{ρ:kA}{σ:St}{Q:TK}{R:VK},Rl K F H S ρ σ->OE K F H S ρ E EK->(pe Ψ p E).e ρ Q->vB K (xH p) F H S ρ σ Q R->(wp K Γ p EK).e σ H R
 t:∀{E:XE}{EK:XK}{F H:Hp}{S:Ft}{ρ:kA}{σ:St}{Q:Bool->kA->Prop}{R:Bool->Hp->Prop},Rl K F H S ρ σ->OE K F H S ρ E EK->(pe Ψ p E).t ρ Q->BH K F H S ρ σ Q R->(wp K Γ p EK).t σ H R
 a:∀{E:XE}{EK:XK}{F H:Hp}{S:Ft}{ρ:kA}{σ:St}{md:List Md}{Q:List (T×Bool)->kA->Prop}{R:LV->Hp->Prop},Rl K F H S ρ σ->OE K F H S ρ E EK->(∀j∈bA md p,∃v,σ[j]?=some (some v))->(pe Ψ p E).a md ρ Q->kr K p md F H S ρ σ Q R->(wp K Γ p EK).a σ H R
end
end
section
variable{K:QA}{Γ:Ev}{Ψ:PEv}{E:XE}{c:XK}{F H A U:Hp}{S S1:Ft}{ρ o:kA}{σ:St}
section
variable{b a u:PX}{RR:LV->Hp->Prop}{P:List (T×Bool)->kA->Prop}{Y Z:dB}{t:T}{st:Bool}{ts:LT}{v:V}
theorem On(N:PSnd K Γ Ψ b)(I:Rl K F H S ρ σ)(X:OE K F H S ρ E c){x:T}{P:T×Bool->kA->Prop}{RR:VK}(h:sq x ρ (cu (pe Ψ b E).e) P)
  (M:∀w p g S' k y m Z,Ste F H S ρ p g S' k->Rl K p g S' k σ->(∀st v l,Tr K F H st v x l->Tr K p g st v x l)->(x.isD=false->k=ρ/\S'=S)->VR K (xH b) H S ρ p g S' k w y m Z->P (y,m) k->RR w g) :
  (wp K Γ b c).e σ H RR:=by
 unfold sq at h;cases W:x.isD with
 |true =>
  rw[W,if_pos rfl]at h;refine N.e I X h λw p g S' k y m Z s C r q=>M w p g S' k y m Z s C (λst v l B=>?_) (λz=>(by rw[W]at z;cases z)) r q;cases x with
  |d x=>cases B with|d r n=>exact .d (r.mono s.ff) n
  |_=>cases W
 |false =>
  rw[W,if_neg (by simp)]at h;have X':OE K F H S (lockA ρ) E c:=λx dx F2 H2 S2 O Q f r q=>X x dx F2 H2 S ρ Q.unlockA f r q;refine N.e I.lockA X' h λw p g S' k y m Z s C r q=>?_;have kp:∀st v t l,Tr K F H st v t l->Tr K p g st v t l:=λst v t l B=>s.keep B λb _=>PC b;refine M w p g S ρ y m Z ⟨s.unlockA,λj t h=>⟨t,h⟩⟩ (I.unlockA s.toStp C.fh) (λst v l B=>kp st v _ l B) (λ_=>⟨rfl,rfl⟩) ⟨r.tr,λe b hb=>?_,λe b hb=>?_,λe i L hi b hb z=>?_⟩ q;exact .inl ((r.fr e b hb).elim id λz=>absurd z (PC b));obtain⟨i,L,h1,J,G⟩:=r.tm e b hb;cases L with
  |own t=>obtain⟨t0,h0⟩:=s.ow i t J;obtain⟨_,_,e0⟩:=eB h0;cases e0|vz t =>
   cases W:t.isD with|true=>exact absurd G (C.isD J W)|false=>obtain⟨g1,g2⟩:=s.bo i t J W;obtain⟨R,g3,_⟩:=eB g1;rw[g2]at G;exact⟨i,R,h1,g3,G⟩
  rcases r.fr e b hb with q|q
  ·exact(I.dom hi z).1 q
  exact absurd q (PC b)
theorem Pn{md:List Md}(O:PSnd K Γ Ψ b)(I:Rl K F H S ρ σ)(X:OE K F H S ρ E c)(Q:∀j∈bA md b,∃v,σ[j]?=some (some v)){x:T}(h:sq x ρ ((pe Ψ b E).a md) P)
  (N:∀ws l e S' k L W Y,Ste F H S ρ l e S' k->Rl K l e S' k σ->(∀st v g,Tr K F H st v x g->Tr K l e st v x g)->(x.isD=false->k=ρ/\S'=S)->AR K (xH b) md H S ρ l e S' k ws L W Y->(pB md ws).map (λv=>some (some v))=(bA md b).map (λj=>σ[j]?)->P L k->RR ws e) :
  (wp K Γ b c).a σ H RR:=by
 unfold sq at h;cases m:x.isD with
 |true =>
  rw[m,if_pos rfl]at h;refine O.a I X Q h λw l e S' k y W Y s B r C q=>N w l e S' k y W Y s B (λst v g p=>?_) (λz=>(by rw[m]at z;cases z)) r C q;cases x with
  |d x=>cases p with|d r n=>exact .d (r.mono s.ff) n
  |_=>cases m
 |false =>
  rw[m,if_neg (by simp)]at h;have X':OE K F H S (lockA ρ) E c:=λx dx F2 H2 S2 R s2 f r q=>X x dx F2 H2 S ρ s2.unlockA f r q;refine O.a I.lockA X' Q h λw l e S' k y W Y s B r C q=>?_;have kp:∀st v t g,Tr K F H st v t g->Tr K l e st v t g:=λst v t g p=>s.keep p λb _=>PC b;refine N w l e S ρ y W Y ⟨s.unlockA,λj t h=>⟨t,h⟩⟩ (I.unlockA s.toStp B.fh) (λst v g p=>kp st v _ g p) (λ_=>⟨rfl,rfl⟩) ⟨r.av,λb hb=>?_,λb hb=>?_,λi M hi b hb z=>?_⟩ C q;exact .inl ((r.fr b hb).elim id λz=>absurd z (PC b));obtain⟨i,M,h1,J,G⟩:=r.tm b hb;cases M with
  |own t=>obtain⟨t0,h0⟩:=s.ow i t J;obtain⟨_,_,e0⟩:=eB h0;cases e0|vz t =>
   cases m:t.isD with|true=>exact absurd G (B.isD J m)|false=>obtain⟨g1,g2⟩:=s.bo i t J m;obtain⟨s0,g3,_⟩:=eB g1;rw[g2]at G;exact⟨i,s0,h1,g3,G⟩
  rcases r.fr b hb with q|q
  ·exact(I.dom hi z).1 q
  exact absurd q (PC b)
theorem GF(l:PSnd K Γ Ψ a)(I:Rl K F H S ρ σ)(X:OE K F H S ρ E c){P:TK}{RR:VK}(h:(pe Ψ a E).e ρ P)
  (j:∀v w z S' y x n Z,Ste F H S ρ w z S' y->Rl K w z S' y σ->OE K w z S' y E c->Tr K w z false v (gA x n) Z->(YH x n=true->Rep K w v x.er)->(∀b,Z b->∃(i:Nat) (s:Sl),i∈xH a/\y[i]?=some (some s)/\S' i b)->P x n y->RR v z) :
  (wp K Γ a c).e σ H RR:=by
 refine l.e I X h λv w z S' y x n Z s B r q=>?_;obtain⟨C,p,k,W,g,m,f,_⟩:=r.frz s B;exact j v C z S' y x n p k W (X.from k.toStp) g m f q
theorem x3(ia:PSnd K Γ Ψ a)(ib:PSnd K Γ Ψ b)(I:Rl K F H S ρ σ)(X:OE K F H S ρ E c){P:T->Bool->T->Bool->kA->Prop}{RR:V->V->Hp->Prop}
  (h:(pe Ψ a E).e ρ λx n o=>sq (gA x n) o (cu (pe Ψ b E).e) λy k=>P x n y.1 y.2 k)
  (kk:∀v w l f S' z x n y m j Zb,Ste F H S ρ l f S' z->Rl K l f S' z σ->OE K l f S' z E c->Tr K l f false v (gA x n) j->(∀b,j b->∃(i:Nat) (s:Sl),i∈xH a/\z[i]?=some (some s)/\S' i b)->Tr K l f false w (gA y m) Zb ->
   P x n y m z->RR v w f):(wp K Γ a c).e σ H λv U=>(wp K Γ b c).e σ U λw W=>RR v w W:=by
 refine GF ia I X h λv A U S1 o x n j M I1 X1 p _ G R=>?_;refine On ib I1 X1 R λw F2 W C k y m Z L I2 kp hs O Q=>?_;obtain⟨F3,Z3,J,I3,N,_,_,k3⟩:=O.frz L I2;have B:∀b,j b->∃(i:Nat) (s:Sl),i∈xH a/\k[i]?=some (some s)/\C i b:=by
  cases q:(gA x n).isD with
  |true =>
   intro b hb;exfalso;generalize gA x n=t at p q;cases p with|d r n=>exact n b hb|_=>cases q
  |false=>obtain⟨e1,e2⟩:=hs q;rw[e1,e2];exact G
 have g:=M.trans J;exact kk v w F3 W C k x n y m j Z3 g I3 (X.from g.toStp) (k3 _ _ _ _ (kp _ _ _ p) λb hb=>let⟨i,s,_,h2⟩:=B b hb;⟨i,s,h2⟩) B N Q
theorem BW(e:PSnd K Γ Ψ u)(I:Rl K F H S ρ σ)(X:OE K F H S ρ E c)(h:(pe Ψ u E).a [] ρ P)
  (k:∀vs z y S' x xs Y,Ste F H S ρ z y S' x->Rl K z y S' x σ->OE K z y S' x E c->Tn K z y Y vs (vO xs)->(∀b,Y b->∃(i:Nat) (s:Sl),i∈xH u/\x[i]?=some (some s)/\S' i b)->P xs x->RR vs y):(wp K Γ u c).a σ H RR:=by
 refine e.a (md:=[]) I X (λj f=>by cases u<;>cases f) h λvs z y S' x xs W Y s l r _ q=>?_;obtain⟨m,w,g,t,_⟩:=r.frz s l;exact k vs m y S' x xs Y w g (X.from w.toStp) t r.tm q
theorem dn(ia:PSnd K Γ Ψ a)(ib:PSnd K Γ Ψ u)(I:Rl K F H S ρ σ)(X:OE K F H S ρ E c){P1:T->Bool->Prop}{P:T->Bool->List (T×Bool)->kA->Prop}{R1:V->Hp->Prop}{RR:V->LV->Hp->Prop}
  (h:(pe Ψ a E).e ρ λx n o=>P1 x n/\sq (gA x n) o ((pe Ψ u E).a []) λxs z=>P x n xs z)
  (k1:∀v f w x n k,Tr K f w false v (gA x n) k->P1 x n->R1 v w)
  (kk:∀v vs f w S' y x n xs k Y,Ste F H S ρ f w S' y->Rl K f w S' y σ->OE K f w S' y E c->Tr K f w false v (gA x n) k->(∀b,k b->∃(i:Nat) (s:Sl),i∈xH a/\y[i]?=some (some s)/\S' i b)->Tn K f w Y vs (vO xs) ->
   P x n xs y->RR v vs w):(wp K Γ a c).e σ H λv U=>R1 v U/\(wp K Γ u c).a σ U λvs p=>RR v vs p:=by
 refine GF ia I X h λv A U S1 o x n k L I1 X1 l _ C ⟨Q,O⟩=>⟨k1 v A U x n k l Q,?_⟩
 refine Pn ib I1 X1 (λj hj=>by cases u<;>cases hj) O λvs F2 p B z xs W Y J I2 R hs M _ N=>?_;obtain⟨F3,G,I3,tn,k3⟩:=M.frz J I2;have q:∀b,k b->∃(i:Nat) (s:Sl),i∈xH a/\z[i]?=some (some s)/\B i b:=by
  cases m:(gA x n).isD with
  |true =>
   intro b hb;exfalso;generalize gA x n=t at l m;cases l with|d r n=>exact n b hb|_=>cases m
  |false=>obtain⟨e1,e2⟩:=hs m;rw[e1,e2];exact C
 have g:=L.trans G;exact kk v vs F3 p B z x n xs k Y g I3 (X.from g.toStp) (k3 _ _ _ _ (R _ _ _ l) λb hb=>let⟨i,s,_,h2⟩:=q b hb;⟨i,s,h2⟩) q tn N
noncomputable def D1(K:QA)(F H:Hp)(Y:dB):Item->T->Prop
 | .one v,t=>∃Z,Tr K F H false v t Z/\∀b,Z b->Y b|.tup vs,t=>∃h,t=.d (.tuple h)/\Reps K F vs h
theorem D1.mono{it:Item}(h:D1 K F H Y it t)(e:Same F A)(k:∀b,Y b->U b=H b/\A b=none):D1 K A U Y it t:=by
 cases it with|one v=>obtain⟨Z,r,z⟩:=h;exact⟨Z,r.mono e λb hb=>k b (z b hb),z⟩|tup y=>obtain⟨ts,x,r⟩:=h;exact⟨ts,x,r.mono e⟩
theorem HV{xs:LV}(h:Trs K F H st xs ts Z)(z:∀b,Z b->Y b):Paired (D1 K F H Y) (xs.map .one) ts :=
 Trs.ind (R:=λ_ xs ts Z=>(∀b,Z b->Y b)->Paired (D1 K F H Y) (xs.map .one) ts) (λ_ _=>.nil) (λh _ _ q x z=>.cons ⟨_,h.weak,λb hb=>z b ((q b).mpr (.inl hb))⟩ (x λb hb=>z b ((q b).mpr (.inr hb)))) h z
theorem RX{Y:dB}{α:Type}(f:α->V)(g:α->D)(h:∀x,Rep K F (f x) (g x)):∀(l:List α),Paired (D1 K F H Y) (l.map λx=>.one (f x)) (l.map λx=>T.d (g x))
 |[]=>.nil|x::r=>.cons ⟨λ_=>False,.d (h x) λ_ z=>z,λ_ z=>z.elim⟩ (RX f g h r)
theorem Tr.lsS(f:Same F H)(h:Tr K F H st v t Z)(e:t.vw=.ls ts):∃a vs S',v=.ref a/\pC K H a vs/\Trs K F H false vs ts S'/\(∀b,S' b->Z b)/\∀y x,Same F y->Same y x->(∀b,Z b->x b=H b)->pC K x a vs:=by
 cases h with
 |d r n =>
  cases r with|lst q r=>injection e with e;subst e;exact⟨_,_,_,rfl,f.seq q,Trs.of_reps r,λb hb=>hb.elim,λy x w z _=>(w.trans z).seq q⟩|dct _ _ _=>exact(DH e).elim|_=>cases e
 |lst h _ r n q=>injection e with e;subst e;exact⟨_,_,_,rfl,pC.of h,r.weak,λb hb=>(q b).mpr (.inr hb),λy x _ _ k=>pC.of ((k _ ((q _).mpr (.inl rfl))).trans h)⟩|tup=>cases e|dct=>cases e|lstF h r n=>injection e with e;subst e;exact⟨_,_,_,rfl,f.seq h,Trs.of_reps r,λb hb=>hb.elim,λy x w z _=>(w.trans z).seq h⟩
theorem Tr.tpS(f:Same F H)(h:Tr K F H st v t Z)(e:t.vw=.tp ts):∃a vs S',v=.ref a/\nE K H a vs/\Trs K F H false vs ts S'/\(∀b,S' b->Z b)/\∀y x,Same F y->Same y x->(∀b,Z b->x b=H b)->nE K x a vs:=by
 cases h with
 |d r n =>
  cases r with|tup q r=>injection e with e;subst e;exact⟨_,_,_,rfl,f.tupl q,Trs.of_reps r,λb hb=>hb.elim,λy x w z _=>(w.trans z).tupl q⟩|dct _ _ _=>exact(RL e).elim|_=>cases e
 |tup h _ r n q=>injection e with e;subst e;exact⟨_,_,_,rfl,nE.of h,r.weak,λb hb=>(q b).mpr (.inr hb),λy x _ _ k=>nE.of ((k _ ((q _).mpr (.inl rfl))).trans h)⟩|lst=>cases e|lstF=>cases e|dct=>cases e
theorem Tr.seqS(f:Same F H)(h:Tr K F H st v t Z)(e:t.vw.seq=some ts):∃a vs sz,v=.ref (Src.adr sz)/\O1 K H sz vs/\(∃S',Trs K F H false vs ts S')/\a=Src.adr sz/\∀g k,Same F g->Same g k->(∀b,Z b->k b=H b)->O1 K k sz vs:=by
 generalize ev:t.vw=w at e;cases w with|ls i=>cases e;obtain⟨a,vs,S',rfl,z,x,_,y⟩:=h.lsS f ev;exact⟨a,vs,.l a,rfl,z,⟨S',x⟩,rfl,y⟩|tp i=>cases e;obtain⟨a,vs,S',rfl,z,x,_,y⟩:=h.tpS f ev;exact⟨a,vs,.t a,rfl,z,⟨S',x⟩,rfl,y⟩|_=>cases e
end
mutual
theorem GV{F:Hp}:∀{k:NK}{v:V},Tl K F k v->Rep K F v (tD k)
 | .s x,v,h=>by cases(show v=.str x from h);exact .str x|.t ks,v,⟨a,xs,e,q,p⟩=>by subst e;exact .tup q (ky_reps p)
theorem ky_reps{F:Hp}:∀{ks:List NK}{vs:LV},KyVs K F ks vs->Reps K F vs (tDs ks)
 |[],vs,h=>by cases(show vs=[] from h);exact .nil|k::ks,vs,⟨x,r,e,p,q⟩=>by subst e;exact .cons (GV p) (ky_reps q)
end
theorem TX{Y:dB}:∀{kvs:List KE}{ds:List D},UG K F kvs->Reps K F (kvs.map (·.2.2)) ds->Paired (D1 K F H Y) (kvs.map λp=>.tup [.ref p.2.1,p.2.2]) (((kvs.map λp=>tD p.1).zip ds).map λp=>T.d (.tuple [p.1,p.2]))
 |[],_,_,.nil=>.nil|p::r,_,hk,.cons h t=>by simp only[QS,QAF];exact .cons ⟨[_,_],rfl,.cons (GV (hk p QF).1) (.cons h .nil)⟩ (TX (λp x=>hk p (QD _ x)) t)
theorem SX{Y:dB}:∀{kvs:List KE},UG K F kvs->Paired (D1 K F H Y) (kvs.map λp=>.one (.ref p.2.1)) ((kvs.map λp=>tD p.1).map T.d)
 |[],_=>.nil|p::r,hk=>.cons ⟨λ_=>False,.d (GV (hk p QF).1) λ_ z=>z,λ_ z=>z.elim⟩ (SX λp h=>hk p (QD _ h))
theorem zT{Y:dB}:∀{xs:LV}{ds:List D}(_:Reps K F xs ds) (g:Nat->Int) (n:Nat),Paired (D1 K F H Y) ((xs.zipIdx n).map λp=>.tup [.int (g p.2),p.1]) ((ds.zipIdx n).map λp=>T.d (.tuple [.int (g p.2),p.1]))
 |_,_,.nil,g,n=>by simp only[List.zipIdx_nil,wn];exact .nil|_,_,.cons h t,g,n=>by simp only[List.zipIdx_cons,QS];exact .cons ⟨[_,_],rfl,.cons (.int _) (.cons h .nil)⟩ (zT t g (n+1))
theorem MM{α x:Type}{R:α->x->Prop}:∀{l z:List α}{m y:List x},Paired R l m->Paired R z y->Paired R (l++z) (m++y)
 |_,_,_,_,.nil,h=>h|_,_,_,_,.cons r t,h=>.cons r (MM t h)
theorem HM{α h:Type}{R:α->h->Prop}:∀{l:List α}{m:List h},Paired R l m->Paired R l.reverse m.reverse
 |_,_,.nil=>.nil|_,_,.cons r t=>by rw[wV,wV];exact MM (HM t) (.cons r .nil)
theorem xK{M:ItK}{Y:dB}{vs:LV}{ts:LT}{RD:LT->Prop}{RR:List Item->(Hp->Prop)->Hp->Prop}(f:Same F H)(W:Tn K F H Y vs ts)(h:DB M (ts.map T.vw) RD)
  (k:∀xs R st,Paired (D1 K F H Y) xs R->(∀l w,Same F l->Same l w->(∀b,Y b->w b=H b)->st w)->RD R->RR xs st H):cC K M vs H RR:=by
 cases M with
 |val =>
  rcases h with⟨I,e,h⟩| ⟨I,e,h⟩| ⟨B,I,e,h⟩
  obtain⟨v,t,Z,rfl,rfl,e,r,z⟩:=W.one e;obtain⟨p,xs,S,rfl,J,m,G,s⟩:=r.lsS f e;exact .inl ⟨xs,J,k _ _ _ (HV m λb hb=>z b (G b hb)) (λl w y u q=>s l w y u λb hb=>q b (z b hb)) h⟩;obtain⟨v,t,Z,rfl,rfl,e,r,z⟩:=W.one e;obtain⟨p,xs,S,rfl,J,m,G,s⟩:=r.tpS f e;exact .inr (.inl ⟨xs,J,k _ _ _ (HV m λb hb=>z b (G b hb)) (λl w y u q=>s l w y u λb hb=>q b (z b hb)) h⟩);obtain⟨v,t,Z,rfl,rfl,y,A,C⟩:=W.one e;obtain⟨a,o,xs,_,rfl,N,Q,m,_,s⟩:=A.dc f y;obtain⟨X,g,rfl,rfl,rfl,O,_⟩:=Q;exact .inr (.inr ⟨X,g,N,k _ _ _ (SX O) (λl w y u q=>s l w y u λb hb=>q b (C b hb)) h⟩)
 |rng1=>obtain⟨j,e,h⟩:=h;obtain⟨v,t,Z,rfl,rfl,e,r,_⟩:=W.one e;obtain rfl:=r.int e;exact⟨h.1,k _ _ _ (RX (λ(i:Nat)=>.int (i:Int)) (λ(i:Nat)=>.int (i:Int)) (λc=>.int _) _) (λ_ _ _ _ _=>trivial) h.2⟩|rev=>obtain⟨I,e,h⟩:=h;obtain⟨v,t,Z,rfl,rfl,e,r,z⟩:=W.one e;obtain⟨p,xs,S,rfl,J,m,G,s⟩:=r.lsS f e;have q:=HM (HV m λb hb=>z b (G b hb));rw[<- Wp]at q;exact⟨xs,J,k _ _ _ q (λl w y u q=>s l w y u λb hb=>q b (z b hb)) h⟩|enum=>obtain⟨x,I,E,e,g1,P,q⟩:=h;obtain⟨v,t,Z,rfl,rfl,y,A,C⟩:=W.one e;obtain⟨a,xs,sz,rfl,hq,⟨_,m⟩,_,s⟩:=A.seqS f (by rw[y];exact g1);exact⟨sz,xs,rfl,hq,k _ _ _ (zT (m.un P).1 (λi=>(i:Int)) 0) (λl w y u q=>s l w y u λb hb=>q b (C b hb)) q⟩|itm =>
  rcases h with⟨B,I,E,e,P,q⟩| ⟨e,q⟩
  rotate_left
  obtain⟨v,t,Z,rfl,rfl,y,A,C⟩:=W.one e;obtain⟨_,m⟩:=A.sc y;generalize ed:PyData.dict []=d at m;cases m with
  |@dct b a o B vs E h L r =>
   have ez:B.zip E=[]:=by injection ed with ed;exact ed.symm
   have hl:B.length=E.length:=by rw[L.len,Reps.length r]
   have ek:B=[]:=by
    cases B with
    |nil=>rfl|cons k B =>
     cases E with|nil=>cases hl|cons d E=>cases ez
   subst ek;have eo:∃X,o=.dT X []:=by
    cases b with
    |true =>
     obtain⟨X,g,y,u,_⟩:=L;cases g with|nil=>exact⟨X,y⟩|cons p r=>cases u
    |false =>
     rcases L with⟨g,n,_,u,_⟩| ⟨X,y,_⟩
     cases g with|nil=>exact absurd rfl n|cons p r=>cases u
     exact⟨X,y⟩
   obtain⟨X,rfl⟩:=eo;exact⟨X,[],f _ _ h,k _ _ _ .nil (λl w y u _=>u _ _ (y _ _ h)) q⟩
  |_=>cases ed
  obtain⟨v,t,Z,rfl,rfl,y,A,C⟩:=W.one e;obtain⟨a,o,xs,_,rfl,N,Q,m,_,s⟩:=A.dc f y;obtain⟨X,g,rfl,rfl,rfl,O,_⟩:=Q;exact⟨X,g,N,k _ _ _ (TX O (m.un P).1) (λl w y u q=>s l w y u λb hb=>q b (C b hb)) q⟩
end
section
variable{i j:Nat}{Z:dB}
def FH(S:Ft)(i:Nat)(Z:dB):Ft:=λj=>if j=i then Z else S j
theorem RA{S:Ft}:FH S i Z i=Z:=if_pos rfl
theorem JA{S:Ft}(h:j≠i):FH S i Z j=S j:=if_neg h
theorem dA{α:Type}{l:List α}{x y:α}(h:(l.set i x)[j]?=some y):(i=j/\y=x/\i<l.length)∨(i≠j/\l[j]?=some y):=by rw[wE]at h;by_cases e:i=j;subst e;rw[if_pos rfl]at h;by_cases hl:i<l.length;rw[if_pos hl]at h;cases h;exact .inl ⟨rfl,rfl,hl⟩;rw[if_neg hl]at h;cases h;rw[if_neg e]at h;exact .inr ⟨e,h⟩
theorem vX{α:Type}{l:List α}{x:α}(h:i<l.length):(l.set i x)[i]?=some x:=by rw[wE,if_pos rfl,if_pos h]
theorem ED{α:Type}{l:List α}{x:α}(h:i≠j):(l.set i x)[j]?=l[j]?:=by rw[wE,if_neg h]
end
section
variable{K:QA}{Γ:Ev}{Ψ:PEv}{E:XE}{L:XK}{F H D G:Hp}{S S1:Ft}{ρ C:kA}{σ:St}
section
variable{Z Y:dB}{A X:Hp}{S':Ft}{g:kA}{o:St}{st:Bool}{B:Tg}{k:Nat}{l:List Bool}
theorem Rl.setB(I:Rl K F H S ρ σ)(i:Nat){v:V}{t:T}(r:Tr K F H false v t Z)(m:∀(j:Nat) u,j≠i->ρ[j]?=some (some (.own u))->∀b,Z b->¬ S j b):Rl K F H (FH S i Z) (ρ.set i (some (.vz t))) (σ.set i (some v)) where
 fh:=I.fh
 len:=by simpa using I.len
 sl:=λj s h=>by
  rcases dA h with⟨rfl,e,hl⟩| ⟨w,h⟩
  cases e;exact⟨v,vX (by rw[<- I.len];exact hl),by rw[RA];exact r⟩;rw[ED w,JA (Q3 w)];exact I.sl j s h
 dj:=λj k z s n x y b hb hk=>by
  rcases dA x with⟨_,e,_⟩| ⟨f,x⟩
  cases e;rw[JA (Q3 f)]at hb;rcases dA y with⟨e,_,_⟩| ⟨a,y⟩
  subst e;rw[RA]at hk;exact m j z n x b hk hb;rw[JA (Q3 a)]at hk;exact I.dj j k z s n x y b hb hk
structure Bd(J:LN)(F H:Hp)(S:Ft)(ρ:kA)(σ:St)(A X:Hp)(S':Ft)(g:kA)(o:St):Prop where
 ff:Same F A
 hh:Same H X
 fn:∀b,F b=none->A b≠none->H b=none
 out:∀j,j∉J->g[j]?=ρ[j]?/\S' j=S j/\o[j]?=σ[j]?
 inn:∀j t,j∈J->g[j]?≠some (some (.own t))
theorem Bd.U{J:LN}(h:Bd J F H S ρ σ A X S' g o){b:Addr}(u:U g S' b):L3.U ρ S b:=by obtain⟨i,t,x,z⟩:=u;by_cases y:i∈J;exact absurd x (h.inn i t y);obtain⟨w,v,_⟩:=h.out i y;rw[w]at x;rw[v]at z;exact⟨i,t,x,z⟩
theorem Bd.dm{J:LN}(h:Bd J F H S ρ σ A X S' g o)(b:Addr)(e:X b=none):H b=none:=h.hh.free e
theorem uX{Y:dB}(s:∀b,Y b->¬ U ρ S b):∀(w:LN) {vs:LV}{ts:LT}{S1:Ft}{C g:kA}{x:St}{J:LN},(∀i∈w,i∈J)->Rl K F H S1 C x->(∀b,U C S1 b->U ρ S b)->Tn K F H Y vs ts->NC w ts C=some g ->
  ∃o S',xB w vs x=some o/\Rl K F H S' g o/\(∀j,j∉J->g[j]?=C[j]?/\S' j=S1 j/\o[j]?=x[j]?)/\(∀j t,g[j]?=some (some (.own t))->j∉w/\C[j]?=some (some (.own t)))
 |[],_,_,S1,C,g,x,J,hJ,I,hu,.nil,h=>by simp only[NC,Qp]at h;subst h;exact⟨x,S1,rfl,I,λ_ _=>⟨rfl,rfl,rfl⟩,λj t h=>⟨(by simp),h⟩⟩|[],_,_,_,_,_,_,_,_,_,_,.cons _ _ _,h=>by simp[NC]at h|_::_,_,_,_,_,_,_,_,_,_,_,.nil,h=>by simp[NC]at h|i::w,_,_,S1,C,g,x,J,hJ,I,hu,.cons (v:=v) (t:=t) (Z:=Z) r z tl,h=>by
  simp only[NC]at h;have nu:∀b,Z b->¬ U C S1 b:=λb hb u=>s b (z b hb) (hu b u);have I2:=I.setB i r λj u _ y b hb N=>nu b hb ⟨j,u,y,N⟩;have p:∀b,U (C.set i (some (.vz t))) (FH S1 i Z) b->U ρ S b:=λb ⟨j,u,q,W⟩=>by
   rcases dA q with⟨_,e,_⟩| ⟨n,q⟩
   cases e;rw[JA (Q3 n)]at W;exact hu b ⟨j,u,q,W⟩
  obtain⟨o,S',R,Q,P,O⟩:=uX s w (λj y=>hJ j (QD _ y)) I2 p tl h;refine⟨o,S',R,Q,λj y=>?_,λj u y=>?_⟩;obtain⟨f,a,M⟩:=P j y;have n:i≠j:=λe=>y (e▸hJ i QF);rw[ED n]at f M;rw[JA (Q3 n)]at a;exact⟨f,a,M⟩;obtain⟨f,a⟩:=O j u y;rcases dA a with⟨_,e,_⟩| ⟨n,a⟩
  cases e;exact⟨λm=>(QL.mp m).elim (λe=>n e.symm) f,a⟩
theorem Tn.of_trs{vs:LV}{ts:LT}(h:Trs K F H st vs ts Z)(z:∀b,Z b->Y b):Tn K F H Y vs ts :=
 Trs.ind (R:=λ_ vs ts Z=>(∀b,Z b->Y b)->Tn K F H Y vs ts) (λ_ _=>.nil) (λh _ _ q x z=>.cons h.weak (λb hb=>z b ((q b).mpr (.inl hb))) (x λb hb=>z b ((q b).mpr (.inr hb)))) h z
theorem bU{it:Item}{t:T}{QP:kA->Prop}{RP:St->Hp->Prop}(I:Rl K F H S ρ σ)(hy:∀b,Y b->¬ U ρ S b)(r:D1 K F H Y it t)(h:gP B t ρ QP)
  (k:∀m f w x O,Bd B.ix F H S ρ σ w x O m f->Rl K w x O m f->QP m->RP f x):bindI K B it σ H RP:=by
 have nm:∀(i:Nat) {v:V}{t:T}{Z:dB}{w x:Hp}{O:Ft},Same F w->Same H x->(∀b,F b=none->w b≠none->H b=none)->Rl K w x O ρ σ->O=S->Tr K w x false v t Z->(∀b,Z b->¬ U ρ S b)->QP (ρ.set i (some (.vz t)))->B=.nm i->RP (σ.set i (some v)) x:=by
  intro i v t Z w x O R e2 e3 I2 hS r hz q ht;subst hS ht;refine k _ _ w x (FH O i Z) ⟨R,e2,e3,λj N=>?_,λj u N hu=>?_⟩ (I2.setB i r λj u _ N b hb hs=>hz b hb ⟨j,u,N,hs⟩) q;have n:i≠j:=λe=>N (by subst e;exact QJ.mpr rfl);exact⟨ED n,JA (Q3 n),ED n⟩;have e:j=i:=QJ.mp N;subst e;rcases dA hu with⟨_,e,_⟩| ⟨n,_⟩
  cases e;exact n rfl
 have tp:∀(y:LN) {W:LV}{P:LT}{x:Hp}{g:kA},Same H x->B=.tp y->Tn K F x Y W P->NC y P ρ=some g->QP g->∃o,xB y W σ=some o/\RP o x:=by intro y W P x g e2 ht r e q;subst ht;obtain⟨o,S',g1,g2,g3,g4⟩:=uX hy y (J:=y) (λi hi=>hi) (I.same e2) (λb u=>u) r e;exact⟨o,g1,k _ _ F x S' ⟨.refl _,e2,λb h z=>absurd h z,g3,λj u N hu=>(g4 j u hu).1 N⟩ g2 q⟩
 cases it with
 |one v =>
  obtain⟨Z,r,z⟩:=r;cases B with|nm i=>exact nm i (.refl _) (.refl _) (λb h z=>absurd h z) I rfl r (λb hb=>hy b (z b hb)) h rfl|tp y=>have Q:(match t.vw with | .tp P=>∃g,NC y P ρ=some g/\QP g|_=>False):=h;split at Q;rename_i P e;obtain⟨g,R,q⟩:=Q;obtain⟨a,W,S',rfl,M,rp,z2⟩:=r.tp I.fh e;obtain⟨o,g1,g2⟩:=tp y (.refl _) rfl (Tn.of_trs rp λb hb=>z b (z2 b hb)) R q;exact⟨W,o,M,g1,g2⟩;exact Q.elim
 |tup W =>
  obtain⟨ds,rfl,rd⟩:=r;cases B with|nm i=>intro p M;refine nm i (LB (I.fh.free M)) (LB M) (λb h1 Q=>?_) (I.newT M (.tup W)) rfl (.d (S:=λ_=>False) (.tup (nE.of iA) (rd.mono (LB (I.fh.free M)))) λ_ z=>z) (λb z=>z.elim) h rfl;by_cases hb:b=p;rw[hb];exact M;rw[xA hb]at Q;exact absurd h1 Q|tp y=>intro X s;obtain⟨g,R,q⟩:=h;exact tp y s rfl (Tn.of_trs (Trs.of_reps (st:=false) rd) λb hb=>hb.elim) R q
def Oc(k:Nat)(S:Ft):Ft:=λi=>if i<k then λ_=>False else S (i - k)
theorem yP:∀(m:List Bool) (ρ:kA) (i:Nat) s,(uC m ρ)[i]?=some (some s)->ρ[i]?=some (some s)/\m.getD i false=false
 |[],ρ,i,s,h=>by
  have e:uC [] ρ=ρ:=by cases ρ<;>rfl
  rw[e]at h;exact⟨h,rfl⟩
 |b::m,[],i,s,h=>by simp[uC]at h|b::m,v::ρ,0,s,h=>by
  cases b with|true=>simp[uC]at h|false=>simp[uC]at h;simp[h]
 |b::m,v::ρ,i+1,s,h=>by simp only[uC,wb]at h;obtain⟨y,x⟩:=yP m ρ i s h;exact⟨by simpa using y,by simpa using x⟩
theorem EO:∀(m:List Bool) (σ:St) (i:Nat) v,σ[i]?=some (some v)->m.getD i false=false->(XC m σ)[i]?=some (some v)
 |[],σ,i,v,h,_=>by
  have e:XC [] σ=σ:=by cases σ<;>rfl
  rw[e];exact h
 |b::m,[],i,v,h,_=>by simp at h|b::m,w::σ,0,v,h,hb=>by
  have:b=false:=by simpa using hb
  subst this;simpa[XC]using h
 |b::m,w::σ,i+1,v,h,hb=>by simp only[XC,wb];exact EO m σ i v (by simpa using h) (by simpa using hb)
theorem jP:∀(m:List Bool) (ρ:kA),(uC m ρ).length=ρ.length
 |[],ρ=>by cases ρ<;>rfl|_::_,[]=>rfl|b::m,v::ρ=>by simp[uC,jP m ρ]
theorem hG{ρ:kA}{i:Nat}{s:Sl}(h:(xO k l ρ)[i]?=some (some s)):k<=i/\ρ[i - k]?=some (some s)/\l.getD (i - k) false=false:=by unfold xO at h;rcases QA2 i k with z|z;rw[qK (by simpa using z),wc]at h;split at h<;>cases h;rw[Qu (by simpa using z)]at h;simp only[qt]at h;obtain⟨y,x⟩:=yP l ρ _ s h;exact⟨z,y,x⟩
theorem Rl.ent(I:Rl K F H S ρ σ)(k:Nat)(l:List Bool):Rl K F H (Oc k S) (xO k l ρ) (fJ k l σ) where
 fh:=I.fh
 len:=by simp[xO,fJ,jP,vK,I.len]
 sl:=λi s h=>by obtain⟨u,z,y⟩:=hG h;obtain⟨v,a,w⟩:=I.sl _ s z;refine⟨v,?_,?_⟩;unfold fJ;rw[Qu (by simpa using u)];simp only[qt];exact EO l σ _ v a y;unfold Oc;rw[if_neg (by omega)];exact w
 dj:=λi j t s n z y b hb x=>by obtain⟨p,f,_⟩:=hG z;obtain⟨m,e,_⟩:=hG y;unfold Oc at hb x;rw[if_neg (by omega)]at hb x;exact I.dj (i - k) (j - k) t s (by omega) f e b hb x
theorem gY(b:Addr):¬ U (xO k l (lockA ρ)) S' b:=λ⟨i,t,h,_⟩=>by obtain⟨_,x,_⟩:=hG h;obtain⟨_,_,e⟩:=eB x;cases e
theorem Paired.get_of{α v:Type}{R:α->v->Prop}{xs:List α}{u:List v}(h:Paired R xs u):∀{i:Nat}{x:α},xs[i]?=some x->∃y,u.drop i=y::u.drop (i+1)/\R x y:=by
 induction h with
 |nil=>intro i x e;simp at e|@cons x y xs u h t a =>
  intro i z e;cases i with|zero=>simp at e;subst e;exact⟨y,by simp,h⟩|succ i=>obtain⟨w,f,b⟩:=a (i:=i) (by simpa using e);exact⟨w,by simpa using f,b⟩
structure Pur(F H A X:Hp):Prop where
 ff:Same F A
 hh:Same H X
 fn:∀b,F b=none->A b≠none->H b=none
theorem Pur.trans{u y:Hp}(a:Pur F H D G)(b:Pur D G u y):Pur F H u y:=⟨a.ff.trans b.ff,a.hh.trans b.hh,λx h z=>by by_cases q:D x=none;exact a.hh.free (b.fn x q z);exact a.fn x h q⟩
theorem Pur.ste(p:Pur F H D G):Ste F H S ρ D G S ρ:=⟨⟨p.ff,λb u h _=>p.hh b u h,λb h=>p.hh.free h,λb h z=>.inr (p.fn b h z),λb h=>.inl h,λ_ _ h _=>⟨h,rfl⟩⟩,λ_ t h=>⟨t,h⟩⟩
theorem Pur.rl(p:Pur F H D G)(f:Same D G)(I:Rl K F H S ρ σ):Rl K D G S ρ σ:=⟨f,I.len,λi s e=>by
 obtain⟨v,y,h⟩:=I.sl i s e;exact⟨v,y,h.mono p.ff λb hb=>by
  obtain⟨x,z⟩:=h.dom b hb;refine⟨?_,?_⟩;cases e:H b with|none=>exact absurd e x|some u=>exact p.hh b u e
  by_cases q:D b=none
  ·exact q
  exact absurd (p.fn b z q) x⟩,I.dj⟩
theorem Stp.pur(s:Stp F H S ρ D G S' g)(n:∀b,¬ U ρ S b):Pur F H D G:=⟨s.ff,λb u h=>s.hh b u h (n b),λb h z=>(s.fn b h z).elim (λq=>absurd q (n b)) id⟩
theorem Pur.trs(p:Pur F H D G){v:LV}{t:LT}(h:Trs K F H st v t Z):Trs K D G st v t Z:=h.mono p.ff λb hb=>by
  obtain⟨x,y⟩:=h.dom b hb;refine⟨?_,?_⟩;cases e:H b with|none=>exact absurd e x|some u=>exact p.hh b u e
  by_cases q:D b=none
  ·exact q
  exact absurd (p.fn b y q) x
theorem P7{ws:LN}{N:Nat}{c:kA->(Bool->kA->Prop)->Prop}{e:kA->TK->Prop}{tc:TT}{te:TE}{us:LN}
  (ic:∀{F H:Hp}{S:Ft}{ρ:kA}{σ:St}{Q:Bool->kA->Prop}{R:Bool->Hp->Prop},Rl K F H S ρ σ->c ρ Q->BH K F H S ρ σ Q R->tc σ H R)
  (ie:∀{F H:Hp}{S:Ft}{ρ:kA}{σ:St}{Q:TK}{R:VK},Rl K F H S ρ σ->e ρ Q->vB K us F H S ρ σ Q R->te σ H R)
  {F0 H0:Hp}{S0:Ft}{P:kA}(s:Ste F0 H0 S0 P F H S ρ) (I:Rl K F H S ρ σ) {xs:List Item}{M:LT}{st:Hp->Prop}(pr:Paired (D1 K F H Y) xs M) (hyd:∀b,Y b->H b≠none/\F b=none) (hst:∀A X,Same F A->Same A X->(∀b,Y b->X b=H b)->st X) {Q:TK}{R:VK}
  (h:MC (nG B (xO N l (lockA ρ)) c e) M [] λM=>Q (.lst M) true ρ) (k:vB K ws F0 H0 S0 P σ Q R) :
  VY K xs st B tc te (fJ N l σ) H R:=by
 refine R7 ?_;have len:=qH pr;have yk:∀{A X:Hp},Pur F H A X->∀b,Y b->X b=H b/\A b=none:=λ{A X} p b hb=>by
  obtain⟨d1,d2⟩:=hyd b hb;refine⟨?_,?_⟩;cases e:H b with|none=>exact absurd e d1|some u=>exact p.hh b u e
  by_cases q:A b=none
  ·exact q
  exact absurd (p.fn b d2 q) d1
 refine⟨λi m X=>∃A w W,Pur F H A X/\Same A X/\Trs K A X true m w W/\(∀b,W b->H b=none)/\MC (nG B (xO N l (lockA ρ)) c e) (M.drop i) w λM=>Q (.lst M) true ρ,
  ⟨F,[],λ_=>False,⟨.refl _,.refl _,λb h z=>absurd h z⟩,I.fh,.nil λ_ z=>z,λ_ z=>z.elim,by simpa using h⟩,?_,?_,?_⟩
 rintro i m X _ ⟨A,w,W,p,f,_,_,_⟩;exact hst A X p.ff f λb hb=>(yk p b hb).1;rintro i x m G hx ⟨D,w,W,p1,f1,J,hw,hc⟩;obtain⟨y,hd,ry⟩:=Paired.get_of pr hx;rw[hd]at hc;unfold MC at hc;unfold nG at hc;have I1:Rl K D G (Oc N S) (xO N l (lockA ρ)) (fJ N l σ):=((p1.rl f1 I).lockA).ent N l;refine bU I1 (λb _=>gY b) (ry.mono p1.ff (yk p1)) hc λρ2 σ2 F2 H2 S2 O I2 hc=>?_;have p2:Pur D G F2 H2:=⟨O.ff,O.hh,O.fn⟩
 have nu2:∀b,¬ U ρ2 S2 b:=λb u=>gY b (O.U u);refine ic I2 hc λb F3 H3 S3 ρ3 s3 I3 q=>?_;have p3:Pur F2 H2 F3 H3:=s3.toStp.pur nu2;have nu3:∀b,¬ U ρ3 S3 b:=λb ⟨j,t,h1,_⟩=>by obtain⟨t0,h0⟩:=s3.ow j t h1;by_cases hj:j∈B.ix;exact O.inn j t0 hj h0;rw[(O.out j hj).1]at h0;obtain⟨_,h1,_⟩:=hG h0;obtain⟨_,_,e⟩:=eB h1;cases e
 have a:=p1.trans (p2.trans p3);cases b with
 |false=>exact⟨F3,w,W,a,I3.fh,p3.trs (p2.trs J),hw,q⟩|true =>
  refine ie I3 q λv F4 H4 S4 ρ4 z n Z s4 I4 r4 ⟨hk,hl,hc⟩=>?_;have p4:Pur F3 H3 F4 H4:=s4.toStp.pur nu3;have ra4:=p4.trs (p3.trs (p2.trs J));have rz:∃Z',Tr K F4 H4 true v z Z'/\∀b,Z' b->H3 b=none:=by
   cases n with
   |true=>exact⟨Z,r4.tr,λb hb=>(r4.fr rfl b hb).elim id λu=>absurd u (nu3 b)⟩|false =>
    cases z with
    |d x =>
     have tr:=r4.tr;cases tr with|d r n=>exact⟨λ_=>False,.d r λ_ z=>z,λ_ z=>z.elim⟩
    |_=>exact absurd hk (by simp[YH,T.isD])
  obtain⟨Z',rz,fz⟩:=rz;refine⟨by rw[J.length];exact hl,F4,_,λb=>W b∨Z' b,a.trans p4,I4.fh,ra4.append (Trs.one rz) λb hb hz=>?_,λb hb=>?_,hc⟩;have q1:=(J.dom b hb).1;exact q1 ((p2.trans p3).hh.free (fz b hz));rcases hb with hb|hb
  ·exact hw b hb
  exact a.hh.free (fz b hb)
 rintro m X ⟨A,w,W,p,f,J,hw,hc⟩;rw[len,List.drop_length]at hc;unfold MC at hc;have I':=p.rl f I;refine⟨by rw[J.length];exact hc.1,λq hq=>?_⟩;refine vB.list (k.from s) (p.ste) I' hq J (λb hb=>.inl (hw b hb)) ⟨J.dom,λi sl hi b hb z=>?_⟩ hc.2;exact(I.dom hi z).1 (hw b hb)
end
end
section
variable{K:QA}{Γ:Ev}{Ψ:PEv}{E:XE}{p:XK}{F H l c:Hp}{S S1:Ft}{ρ y:kA}{σ:St}
theorem Tr.yz{v:V}{u t:T}{Z:dB}(h:Tr K F H false v u Z)(e:UF u=some t):Tr K F H false v t Z:=by
 unfold UF at e;split at e;rename_i ts ev;cases x:oH ts with
 |none=>rw[x]at e;cases e|some f =>
  rw[x]at e;injection e with e;subst e;cases h with
  |d r n =>
   cases r with|lst q r=>injection ev with ev;subst ev;rw[XA]at x;injection x with x;subst x;exact .lstF q r n|dct _ _ _=>exact(DH ev).elim|_=>cases ev
  |lst k w z b a=>injection ev with ev;subst ev;show Tr K F H false _ (.lst (f.map T.d)) Z;rw[<- yM x];exact .lst k w z b a|tup=>cases ev|dct=>cases ev|lstF k w z=>injection ev with ev;subst ev;rw[XA]at x;injection x with x;subst x;exact .lstF k w z
 split at e
 ·injection e with e;subst e;exact h
 cases e
theorem AV.pass{Y:dB}{md:List Md}{vs:LV}{xs:List (T×Bool)}{W:dB}(h:AV K F H md vs xs W Y)(e:Same F l)(k:∀b,W b->l b=H b)(G:∀b,Y b->F b=none->l b=none) :
  ∀{g ts:LT},ZA md xs g=some ts->ArgsR K l H Y md vs ts/\CB md ts=g:=by
 induction h with
 |nil h =>
  intro g ts w;cases g with|nil=>simp only[ZA,Qp]at w;subst w;exact⟨.nil,rfl⟩|cons _ _=>simp[ZA]at w
 |@chg md v vs x xs W Y h t C =>
  intro g ts w;have f:md.headD .uz=.chg:=by generalize md.headD .uz=m at h;cases m<;>first|rfl|cases h
  unfold ZA at w;rw[f]at w;cases g with
  |nil=>cases w|cons o g =>
   cases a:ZA md.tail xs g with|none=>simp only[a,wY]at w;cases w|some B=>simp only[a,Q6,Qp]at w;subst w;obtain⟨s,j⟩:=C k G a;refine⟨.chg f s,?_⟩;unfold CB;rw[f];simp only[j]
 |@new md v vs x xs Z W J Y h r t n q C =>
  intro g ts w;have X:Tr K l H false v (.d x.er) (λ_=>False):=.d (r.kept e λb u hb I=>by rw[k b ((q b).mpr (.inl hb))];exact I) λ_ z=>z;have i:=@C (λb hb=>k b ((q b).mpr (.inr hb))) G;unfold ZA at w;cases f:md.headD .uz with
  |chg=>rw[f]at h;cases h|uz =>
   simp only[f,gA]at w;cases a:ZA md.tail xs g with|none=>simp only[a,wY]at w;cases w|some B=>simp only[a,Q6,Qp]at w;subst w;obtain⟨s,j⟩:=i a;exact⟨.rd (by rw[f];simp) X (λ_ z=>z.elim) s,by unfold CB;rw[f];exact j⟩
  |yz =>
   simp only[f,gA]at w;cases A:UF (.d x.er) with
   |none=>simp only[A]at w;cases w|some u =>
    simp only[A]at w;cases a:ZA md.tail xs g with|none=>simp only[a,wY]at w;cases w|some B=>simp only[a,Q6,Qp]at w;subst w;obtain⟨s,j⟩:=i a;exact⟨.rd (by rw[f];simp) (X.yz A) (λ_ z=>z.elim) s,by unfold CB;rw[f];exact j⟩
  |vz =>
   simp only[f,gA]at w;cases a:ZA md.tail xs g with|none=>simp only[a,wY]at w;cases w|some B=>simp only[a,Q6,Qp]at w;subst w;obtain⟨s,j⟩:=i a;exact⟨.rd (by rw[f];simp) X (λ_ z=>z.elim) s,by unfold CB;rw[f];exact j⟩
 |@tmp md v vs x xs Z W Y h r z t C =>
  intro g ts w;have X:Tr K l H false v x Z:=r.mono e λb hb=>⟨rfl,G b (z b hb) (r.dom b hb).2⟩
  have i:=@C k G;unfold ZA at w;cases f:md.headD .uz with
  |chg=>rw[f]at h;cases h|uz =>
   simp only[f,gA]at w;cases x with
   |d x =>
    cases a:ZA md.tail xs g with|none=>simp only[a,wY]at w;cases w|some B=>simp only[a,Q6,Qp]at w;subst w;obtain⟨s,j⟩:=i a;exact⟨.rd (by rw[f];simp) X z s,by unfold CB;rw[f];exact j⟩
   |_=>cases w
  |yz =>
   simp only[f,gA]at w;cases A:UF x with
   |none=>simp only[A]at w;cases w|some u =>
    simp only[A]at w;cases a:ZA md.tail xs g with|none=>simp only[a,wY]at w;cases w|some B=>simp only[a,Q6,Qp]at w;subst w;obtain⟨s,j⟩:=i a;exact⟨.rd (by rw[f];simp) (X.yz A) z s,by unfold CB;rw[f];exact j⟩
  |vz =>
   simp only[f,gA]at w;cases a:ZA md.tail xs g with|none=>simp only[a,wY]at w;cases w|some B=>simp only[a,Q6,Qp]at w;subst w;obtain⟨s,j⟩:=i a;exact⟨.rd (by rw[f];simp) X z s,by unfold CB;rw[f];exact j⟩
theorem yD:∀(J:LN) (ρ:kA) (i:Nat) s,(clear J ρ)[i]?=some (some s)->i∉J/\ρ[i]?=some (some s)
 |[],ρ,i,s,h=>⟨(by simp),h⟩|j::J,ρ,i,s,h=>by
  unfold clear at h;obtain⟨u,z⟩:=yD J _ i s h;rcases dA z with⟨_,e,_⟩| ⟨n,x⟩
  cases e;exact⟨λm=>(QL.mp m).elim (λe=>n e.symm) u,x⟩
theorem cP:∀(J:LN) (ρ:kA),(clear J ρ).length=ρ.length
 |[],_=>rfl|j::J,ρ=>by unfold clear;rw[cP J];simp
theorem Rl.drop(I:Rl K F H S ρ σ)(hl:y.length=ρ.length)(h:∀(i:Nat) s,y[i]?=some (some s)->ρ[i]?=some (some s)):Rl K F H S y σ :=
 ⟨I.fh,hl.trans I.len,λi s e=>I.sl i s (h i s e),λi j t s n z x=>I.dj i j t s n (h i _ z) (h j _ x)⟩
theorem DD:∀{J:LN}{ρ:kA}{x:LT},FA J ρ=some x->x.length=J.length/\∀(i:Nat) j,J[i]?=some j->∃t,x[i]?=some t/\ρ[j]?=some (some (.own t))
 |[],ρ,x,h=>by simp only[FA,Qp]at h;subst h;exact⟨rfl,λi j e=>by simp at e⟩|j::J,ρ,x,h=>by
  unfold FA at h;split at h;rename_i t e;cases z:FA J ρ with
  |none=>rw[z]at h;cases h|some f =>
   rw[z]at h;injection h with h;subst h;obtain⟨w,v⟩:=DD z;refine⟨by simp[w],λi k hk=>?_⟩;cases i with|zero=>simp at hk;subst hk;exact⟨t,rfl,e⟩|succ i=>obtain⟨u,b,a⟩:=v i k (by simpa using hk);exact⟨u,by simpa using b,a⟩
  cases h
theorem Rl.trs(I:Rl K F H S ρ σ):∀{J:LN}{w:LT}{vs:LV},J.Nodup->FA J ρ=some w->vs.map (λv=>some (some v))=J.map (λj=>σ[j]?)->Trs K F H true vs w (λb=>∃j∈J,S j b)
 |[],w,vs,_,h,hv=>by
  simp only[FA,Qp]at h;subst h;cases vs with|nil=>exact .nil λb ⟨j,m,_⟩=>by simp at m|cons _ _=>simp at hv
 |j::J,w,vs,nd,h,hv=>by
  unfold FA at h;split at h;rename_i t e;cases a:FA J ρ with
  |none=>rw[a]at h;cases h|some r =>
   rw[a]at h;injection h with h;subst h;cases vs with
   |nil=>simp at hv|cons v vs =>
    simp only[QS,WQ]at hv;obtain⟨f,q,o⟩:=I.sl j _ e;rw[q]at hv;have:v=f:=by simpa using hv.1
    subst this;have x:=Qh.mp nd;refine .cons o (Rl.trs I x.2 a hv.2) (λb hb ⟨k,hk,z⟩=>?_) λb=>?_;obtain⟨i,n⟩:=Wj.mp hk;obtain⟨u,_,g⟩:=(DD a).2 i k n;exact I.dj j k t _ (λz=>x.1 (z▸hk)) e g b hb z;constructor
    ·rintro⟨k,hk,z⟩
     rcases QL.mp hk with e|e;subst e;exact .inl z;exact .inr ⟨k,e,z⟩
    rintro(z|⟨k,hk,z⟩)
    ·exact⟨j,QF,z⟩
    exact⟨k,QD _ hk,z⟩
  cases h
theorem Rl.setO(I:Rl K F H S ρ σ)(i:Nat){v:V}{t:T}{Z:dB}(hv:σ[i]?=some (some v))(r:Tr K F H true v t Z)(w:∀(j:Nat) s,j≠i->ρ[j]?=some (some s)->∀b,Z b->¬ S j b):Rl K F H (FH S i Z) (ρ.set i (some (.own t))) σ where
 fh:=I.fh
 len:=by simpa using I.len
 sl:=λj s h=>by
  rcases dA h with⟨rfl,e,hl⟩| ⟨g,h⟩
  cases e;exact⟨v,hv,by rw[RA];exact r⟩;rw[JA (Q3 g)];exact I.sl j s h
 dj:=λj k a s n u x b hb hk=>by
  rcases dA u with⟨e,_,_⟩| ⟨f,u⟩
  subst e;rw[RA]at hb;rcases dA x with⟨e,_,_⟩| ⟨z,x⟩
  exact n e;rw[JA (Q3 z)]at hk;exact w k s (Q3 z) x b hb hk;rw[JA (Q3 f)]at hb;rcases dA x with⟨e,_,_⟩| ⟨z,x⟩
  subst e;rw[RA]at hk;exact w j _ n u b hk hb;rw[JA (Q3 z)]at hk;exact I.dj j k a s n u x b hb hk
theorem aM:∀{J:LN}{w:LT}{vs:LV}{M:dB}{S1:Ft}{y x:kA},J.Nodup->Rl K F H S1 y σ->Trs K F H true vs w M->vs.map (λv=>some (some v))=J.map (λj=>σ[j]?)->Held F H S1 y M->jC J w y=some x ->
  ∃f,Rl K F H f x σ/\(∀i,i∉J->x[i]?=y[i]?/\f i=S1 i)/\∀i∈J,∀s,x[i]?=some (some s)->(∃t,s=.own t)/\∀b,f i b->M b
 |[],w,vs,M,S1,y,x,nd,I,r,hv,hm,h=>by
  cases w with|nil=>simp only[jC,Qp]at h;subst h;exact⟨S1,I,λ_ _=>⟨rfl,rfl⟩,λi u=>by simp at u⟩|cons _ _=>simp[jC]at h
 |j::J,w,vs,M,S1,y,x,nd,I,r,hv,hm,h=>by
  cases r with
  |nil _=>simp[jC]at h|@cons _ v t vs ts _ Z Q G C n q =>
   simp only[jC]at h;simp only[QS,WQ]at hv;have a:=Qh.mp nd;have R:=I.setO j hv.1.symm G λk s _ hk b hb=>hm.nw k s hk b ((q b).mpr (.inl hb));have W:Held F H (FH S1 j Z) (y.set j (some (.own t))) Q:=⟨λb hb=>hm.dom b ((q b).mpr (.inr hb)),λi s u b hb z=>by
    rcases dA u with⟨rfl,_,_⟩| ⟨X,u⟩
    rw[RA]at z;exact n b z hb;rw[JA (Q3 X)]at z;exact hm.nw i s u b ((q b).mpr (.inr hb)) z⟩
   obtain⟨f,P,B,O⟩:=aM a.2 R C hv.2 W h;refine⟨f,P,λi u=>?_,λi u s Y=>?_⟩;have A:j≠i:=λe=>u (e▸QF);obtain⟨o,g⟩:=B i λm=>u (QD _ m);rw[ED A]at o;rw[JA (Q3 A)]at g;exact⟨o,g⟩;rcases QL.mp u with e|e
   ·subst e
    obtain⟨o,g⟩:=B i a.1;rw[o]at Y;rcases dA Y with⟨_,e,_⟩| ⟨X,_⟩
    injection e with e;refine⟨⟨t,e⟩,λb hb=>?_⟩;rw[g,RA]at hb;exact(q b).mpr (.inl hb);exact absurd rfl X
   obtain⟨N,L⟩:=O i e s Y;exact⟨N,λb hb=>(q b).mpr (.inr (L b hb))⟩
theorem vd{f:Str}{as:PX}(g:GOk K Γ Ψ)(ia:PSnd K Γ Ψ as)(I:Rl K F H S ρ σ)(X:OE K F H S ρ E p){Q:TK}{R:VK}{ws:LN}(h:(pe Ψ (.call f as) E).e ρ Q)(k:vB K ws F H S ρ σ Q R):(wp K Γ (.call f as) p).e σ H R:=by
 obtain⟨os,ho,nd,h⟩:=h;generalize hJ:bA (Ψ.sp f).md as=J at ho nd h;have C:∀j∈J,∃t,ρ[j]?=some (some (.own t)):=λj A=>by obtain⟨i,hi⟩:=Wj.mp A;obtain⟨t,_,e⟩:=(DD ho).2 i j hi;exact⟨t,e⟩
 have I0:Rl K F H S (clear J ρ) σ:=I.drop (cP J ρ) λi s e=>(yD J ρ i s e).2;have P:∀b,U (clear J ρ) S b->U ρ S b:=λb ⟨i,t,h1,O⟩=>⟨i,t,(yD J ρ i _ h1).2,O⟩
 have X0:OE K F H S (clear J ρ) E p:=λx dx F2 H2 S2 L m ff r q=>X x dx F2 H2 (λ_ _=>False) [] ⟨m.ff,λb u e n=>m.hh b u e λz=>n (P b z),m.dm,λb e z=>(m.fn b e z).imp (P b) id,λb ⟨i,t,e,_⟩=>by simp at e,λj t e=>by simp at e⟩ ff r q;have hm:∀j∈bA (Ψ.sp f).md as,∃v,σ[j]?=some (some v):=λj A=>by obtain⟨t,e⟩:=C j (hJ▸A);obtain⟨v,h1,_⟩:=I.sl j _ e;exact⟨v,h1⟩
 show(wp K Γ as p).a σ H λvs c=>Γ.sp f vs c R p;refine ia.a I0 X0 hm h λvs l c S1 y xs W Y s1 I1 r1 mv q1=>?_;rw[hJ]at mv;obtain⟨ts,hp,q1⟩:=q1;have hw:=r1.held;have m:=s1.frz (λb hb=>(hw.dom b hb).2) r1.fr;have I2:=I1.frz hw;have yk:∀b,Y b->l b=none->uJ l c W b=none:=λb hy hf=>by obtain⟨i,sl,_,O,h3⟩:=r1.tm b hy;rw[dC λz=>r1.nw i sl O b z h3];exact hf
 obtain⟨ar,mt⟩:=r1.av.pass (zH λb hb=>(hw.dom b hb).2) (λb hb=>xJ hb) yk hp;generalize uJ l c W=F2 at m I2 yk ar;have M0:=I.trs nd ho mv;have hM:Held F H S (clear J ρ) (λb=>∃j∈J,S j b):=⟨λb ⟨j,A,hb⟩=>let⟨t,e⟩:=C j A;I.dom e hb,λi s e b ⟨j,A,hb⟩ z=>by obtain⟨G,B⟩:=yD J ρ i s e;obtain⟨t,et⟩:=C j A;exact I.dj j i t s (λq=>G (q▸A)) et B b hb z⟩
 have N:=hM.step m.toStp I2;have M2:Trs K F2 c true (pB (Ψ.sp f).md vs) (CB (Ψ.sp f).md ts) (λb=>∃j∈J,S j b):=by
  rw[mt];refine M0.mono m.ff λb hb=>?_;refine⟨?_,(N.dom b hb).2⟩;cases e:H b with|none=>exact absurd e (hM.dom b hb).1|some u=>exact m.hh b u e (hM.nu b hb)
 refine g.sp f vs c R p ⟨F2,ts,_,Y,I2.fh,ar,M2,λb hy hb=>?_,?_⟩;obtain⟨i,sl,_,O,h3⟩:=r1.tm b hy;exact N.nw i sl O b hb h3
 ·have up:∀b,(∃j∈J,S j b)->U ρ S b:=λb ⟨j,A,hb⟩=>let⟨t,e⟩:=C j A;⟨j,t,e,hb⟩
  have lk:∀b,(∃j∈J,S j b)∨c b=none->U ρ S b∨H b=none:=λb hb=>hb.imp (up b) (m.dm b);refine(Ψ.sp f).mono ?_ ?_ q1
  rotate_left
  rintro x qx dx F' H' o xr;refine X x dx F' H' (λ_ _=>False) [] ⟨m.ff.trans o.ff,λb u e n=>o.hh b u (m.hh b u e λz=>n (P b z)) λz=>n (up b z),λb e=>m.dm b (o.dm b e),λb e z=>?_,λb ⟨i,t,e,_⟩=>by simp at e,λj t e=>by simp at e⟩ o.fh xr qx;by_cases q:F2 b=none;exact lk b (o.fn b q z);exact(m.fn b e q).imp (P b) id;rintro r os' ⟨L,hput,q⟩ v F' H' Z M' o tr trs dz hf;have I3:Rl K F' H' S1 y σ:=⟨o.fh,I2.len,λi s e=>by
   obtain⟨w,g1,g2⟩:=I2.sl i s e;refine⟨w,g1,g2.mono o.ff λb hb=>?_⟩;obtain⟨d1,d2⟩:=g2.dom b hb;have nM:¬ ∃j∈J,S j b:=λz=>N.nw i s e b z hb;refine⟨?_,?_⟩;cases e:c b with|none=>exact absurd e d1|some u=>exact o.hh b u e nM
   by_cases z:F' b=none
   ·exact z
   exact((o.fn b d2 z).elim nM d1).elim,I2.dj⟩
  have nw3:∀b,(∃j∈J,S j b)∨c b=none->∀(i:Nat) s,y[i]?=some (some s)->¬ S1 i b:=λb hb i s e z=>by rcases hb with hb|hb;exact N.nw i s e b hb z;exact(I2.dom e z).1 hb
  have hM':Held F' H' S1 y M':=⟨trs.dom,λi s e b hb=>nw3 b (hf b (.inr hb)) i s e⟩
  obtain⟨S2,I4,g2,g3⟩:=aM nd I3 trs mv hM' hput;have M:∀i s,L[i]?=some (some s)->(i∈J/\(∃t,s=.own t)/\∀b,S2 i b->M' b)∨(i∉J/\y[i]?=some (some s)/\S2 i=S1 i):=λi s e=>by by_cases hi:i∈J;exact .inl ⟨hi,g3 i hi s e⟩;obtain⟨G,B⟩:=g2 i hi;exact .inr ⟨hi,G▸e,B⟩
  have st:Ste F H S ρ F' H' S2 L:=⟨⟨m.ff.trans o.ff,λb u e n=>o.hh b u (m.hh b u e λz=>n (P b z)) λz=>n (up b z),λb e=>m.dm b (o.dm b e),λb e z=>by
    by_cases q:F2 b=none;exact lk b (o.fn b q z);exact(m.fn b e q).imp (P b) id,
   λb ⟨i,t,h1,O⟩=>by
    rcases M i _ h1 with⟨_,_,e⟩| ⟨_,G,B⟩
    exact lk b (hf b (.inr (e b O)));rw[B]at O;exact(m.uu b ⟨i,t,G,O⟩).imp (P b) id,
   λj t e hd=>by
    rcases M j _ e with⟨_,⟨t',z⟩,_⟩| ⟨_,G,B⟩
    cases z;obtain⟨b1,b2⟩:=m.bo j t G hd;exact⟨(yD J ρ j _ b1).2,B.trans b2⟩⟩,
   λj t e=>by
    rcases M j _ e with⟨A,_,_⟩| ⟨_,G,B⟩
    exact C j A;obtain⟨t0,e0⟩:=m.ow j t G;exact⟨t0,(yD J ρ j _ e0).2⟩⟩
  refine k v F' H' S2 L r true Z st I4 ⟨tr,λ_ b hb=>?_,λz=>(by cases z),λ_ i s e b hb z=>?_⟩ q;exact(lk b (hf b (.inl hb))).symm;rcases M i s e with⟨_,_,B⟩| ⟨_,G,B⟩
  ·exact dz b hb (B b z)
  rw[B]at z;exact nw3 b (hf b (.inl hb)) i s G z
end
section
variable{K:QA}{Γ:Ev}{Ψ:PEv}{E:XE}{O:XK}{F H F1 H1:Hp}{S S1:Ft}{ρ Q:kA}{σ:St}
section
variable{j i:Nat}{t s:T}{b:Bool}{G C:Hp}{B:Ft}{Y:kA}{W P Z:dB}{vs L:LV}{ts us:LT}{a:Addr}{M o:HO}{v A J:V}{x y:D}{ks:List D}{R:Hp->Prop}{N:T->Prop}
theorem zC(z:ρ[j]?=some (some (.own t))){s:Sl}(h:(ρ.set j (some (.vz t)))[i]?=some (some s)):(i=j/\s=.vz t)∨(i≠j/\ρ[i]?=some (some s)):=by
 rcases dA h with⟨rfl,e,_⟩| ⟨n,h⟩
 injection e with e;exact .inl ⟨rfl,e⟩;exact .inr ⟨Q3 n,h⟩
theorem Rl.lock1(I:Rl K F H S ρ σ)(h:ρ[j]?=some (some (.own t))):Rl K F H S (ρ.set j (some (.vz t))) σ where
 fh:=I.fh
 len:=by simpa using I.len
 sl:=λi s e=>by
  rcases zC h e with⟨rfl,rfl⟩| ⟨_,e⟩
  obtain⟨v,g,f⟩:=I.sl i _ h;exact⟨v,g,f.weak⟩;exact I.sl i s e
 dj:=λi k u s n p m=>by
  rcases zC h p with⟨_,z⟩| ⟨r,w⟩
  cases z;rcases zC h m with⟨q,_⟩| ⟨_,l⟩
  ·exact I.dj i k u _ n w (q▸h)
  exact I.dj i k u s n w l
theorem Rl.lock1U(I:Rl K F H S ρ σ)(w:ρ[j]?=some (some (.own t)))(b:Addr)(hb:S j b):¬ U (ρ.set j (some (.vz t))) S b:=λ⟨i,u,h,k⟩=>by
 rcases zC w h with⟨_,z⟩| ⟨n,h⟩
 cases z;exact I.dj i j u _ n h w b k hb
theorem lock1U(k:ρ[j]?=some (some (.own t))){b:Addr}(h:U (ρ.set j (some (.vz t))) S b):U ρ S b:=by
 obtain⟨i,u,w,e⟩:=h;rcases zC k w with⟨_,z⟩| ⟨n,w⟩
 cases z;exact⟨i,u,w,e⟩
theorem OE.lock1(X:OE K F H S ρ E O)(w:ρ[j]?=some (some (.own t))):OE K F H S (ρ.set j (some (.vz t))) E O:=λx k G C B Y h f r q =>
 X x k G C (λ_ _=>False) [] ⟨h.ff,λb u e n=>h.hh b u e λz=>n (lock1U w z),h.dm,λb e z=>(h.fn b e z).imp (lock1U w) id,λb ⟨i,t,e,_⟩=>by simp at e,λj t e=>by simp at e⟩ f r q
theorem RS(I:Rl K F H S ρ σ)(h:ρ[j]?=some (some (.own t)))(s:Ste F H S (ρ.set j (some (.vz t))) G C B Y)(l:Rl K G C B Y σ){b:Addr}(hb:S j b) :
  ∀(i:Nat) w,i≠j->Y[i]?=some (some w)->¬ B i b:=λi w n e z=>by
 cases w with
 |own u=>rcases s.uu b ⟨i,u,e,z⟩ with q|q;exact I.lock1U h b hb q;exact(I.dom h hb).1 q
 |vz u =>
  cases f:u.isD with
  |true=>exact l.isD e f z|false =>
   obtain⟨k,g⟩:=s.bo i u e f;rw[g]at z;rcases zC h k with⟨q,_⟩| ⟨_,k⟩
   exact n q;exact I.dj j i t _ (Q3 n) h k b hb z
theorem XI{t':T}{v0:V}{m:Hp}{Z':dB}(I:Rl K F H S ρ σ)(w:ρ[j]?=some (some (.own t)))(hv:σ[j]?=some (some v0))(s:Ste F H S (ρ.set j (some (.vz t))) G C B Y)(l:Rl K G C B Y σ)
  (hH:∀b u,C b=some u->¬ S j b->m b=some u) (dm:∀b,m b=none->C b=none) (r:Tr K G m true v0 t' Z') (hz:∀b,Z' b->S j b∨W b∨C b=none) (hw:Held G C B Y W) (frW:∀b,W b->H b=none∨U (ρ.set j (some (.vz t))) S b) :
  Ste F H S ρ G m (FH B j Z') (Y.set j (some (.own t')))/\Rl K G m (FH B j Z') (Y.set j (some (.own t'))) σ/\∀b,S j b∨W b∨C b=none->∀(i:Nat) h,i≠j->Y[i]?=some (some h)->¬ B i b:=by
 have nw:∀b,S j b∨W b∨C b=none->∀(i:Nat) h,i≠j->Y[i]?=some (some h)->¬ B i b:=λb hb i h n e z=>by rcases hb with hb|hb|hb;exact RS I w s l hb i h n e z;exact hw.nw i h e b hb z;exact(l.dom e z).1 hb
 have uj:∀b,S j b->U ρ S b:=λb hb=>⟨j,t,w,hb⟩
 have lk:∀b,S j b∨W b∨C b=none->U ρ S b∨H b=none:=λb hb=>by rcases hb with hb|hb|hb;exact .inl (uj b hb);exact(frW b hb).symm.imp (lock1U w) id;exact .inr (s.dm b hb)
 have fS:∀b,S j b->G b=none:=λb hb=>by
  by_cases q:G b=none;exact q;rcases s.fn b (I.dom w hb).2 q with z|z
  ·exact absurd z (I.lock1U w b hb)
  exact absurd z (I.dom w hb).1
 have fh:Same G m:=λb u e=>hH b u (l.fh b u e) λz=>by rw[fS b z]at e;cases e
 have I3:Rl K G m B (Y.set j none) σ:=⟨fh,by simpa using l.len,λi h e=>by
   rcases dA e with⟨_,z,_⟩| ⟨n,e⟩
   cases z;obtain⟨v,p,f⟩:=l.sl i h e;refine⟨v,p,f.mono (.refl _) λb hb=>⟨?_,(f.dom b hb).2⟩⟩;cases eb:C b with|none=>exact absurd eb (f.dom b hb).1|some u=>exact hH b u eb λz=>RS I w s l z i h (Q3 n) e hb,
  λi k u h n g X=>by
   rcases dA g with⟨_,z,_⟩| ⟨_,g⟩
   cases z;rcases dA X with⟨_,z,_⟩| ⟨_,X⟩
   ·cases z
   exact l.dj i k u h n g X⟩
 have I4:=I3.setO j hv r λi h n e b hb=>by
  rcases dA e with⟨_,z,_⟩| ⟨_,e⟩
  cases z;exact nw b (hz b hb) i h n e
 have es:(Y.set j none).set j (some (.own t'))=Y.set j (some (.own t')):=by simp
 rw[es]at I4;refine⟨⟨⟨s.ff,λb u e n=>hH b u (s.hh b u e λz=>n (lock1U w z)) λz=>n (uj b z),λb e=>s.dm b (dm b e),λb e z=>(s.fn b e z).imp (lock1U w) id,λb ⟨i,u,p,f⟩=>?_,λi u e hd=>?_⟩,λi u e=>?_⟩,I4,nw⟩;rcases dA p with⟨rfl,_,_⟩| ⟨n,p⟩
 ·rw[RA]at f
  exact lk b (hz b f)
 rw[JA (Q3 n)]at f;exact(s.uu b ⟨i,u,p,f⟩).imp (lock1U w) id;rcases dA e with⟨rfl,z,_⟩| ⟨n,e⟩
 ·cases z
 obtain⟨g,X⟩:=s.bo i u e hd;rcases zC w g with⟨z,_⟩| ⟨_,g⟩
 exact absurd z.symm n;exact⟨g,by rw[JA (Q3 n)];exact X⟩;rcases dA e with⟨rfl,_,_⟩| ⟨n,e⟩
 ·exact⟨t,w⟩
 obtain⟨t0,e0⟩:=s.ow i u e;rcases zC w e0 with⟨_,z⟩| ⟨_,e0⟩
 cases z;exact⟨t0,e0⟩
theorem Trs.erase{st:Bool}{S:dB}{k:Nat}(h:Trs K F H st vs ts S)(e:ts[k]?=some t):∃v P1 u,vs[k]?=some v/\Tr K F H st v t P1/\Trs K F H st (vs.eraseIdx k) (ts.eraseIdx k) u/\(∀b,P1 b->¬ u b)/\∀b,P1 b∨u b->S b:=by
 revert k;refine Trs.ind (R:=λst vs ts S=>∀{k:Nat},ts[k]?=some t->∃v P1 u,vs[k]?=some v/\Tr K F H st v t P1/\Trs K F H st (vs.eraseIdx k) (ts.eraseIdx k) u/\(∀b,P1 b->¬ u b)/\∀b,P1 b∨u b->S b) (λn k e=>by cases e) (λ{_ _ _ _ _ _ r _} h t n q f k e=>?_) h;cases k with|zero=>cases e;exact⟨_,_,_,rfl,h,t,n,λb hb=>(q b).mpr hb⟩|succ k=>obtain⟨v,P1,u,p,m,l,g,w⟩:=f (k:=k) e;refine⟨v,P1,λb=>r b∨u b,p,m,.cons h l (λb hb z=>n b hb (w b (.inr z))) λb=>WO,λb hb z=>z.elim (λz=>n b z (w b (.inl hb))) (g b hb),λb hb=>(q b).mpr ?_⟩;rcases hb with hb|hb|hb;exact .inr (w b (.inl hb));exact .inl hb;exact .inr (w b (.inr hb))
theorem RI{α:Type}:∀{l:List α}{k:α},l.Nodup->¬ k∈l->(l++[k]).Nodup
 |[],k,_,_=>by simp|a::r,k,h,hk=>by obtain⟨u,z⟩:=Qh.mp h;show(a::(r++[k])).Nodup;refine Qh.mpr ⟨λm=>?_,RI z λm=>hk (QL.mpr (Or.inr m))⟩;rcases Qf.mp m with q|q;exact u q;exact hk (QL.mpr (Or.inl (QJ.mp q).symm))
theorem DL(h:F a=none)(r:Trs K F H true L us P)(n:¬ P a):Tr K F (DA H a (.lst L)) true (.ref a) (.lst us) λb=>b=a∨P b :=
 .lst (S':=P) iA h (r.mono (.refl _) λb hb=>⟨xA λz=>n (z▸hb),(r.dom b hb).2⟩) n λb=>WO
theorem AC(w:Z a)(b:Addr)(u:HO)(e:H b=some u)(hb:¬ Z b):DA H a M b=some u:=by have h:b≠a:=λz=>hb (by rw[z];exact w);rw[xA h];exact e
theorem UB(b:Addr)(e:DA H a M b=none):H b=none:=by by_cases hb:b=a;rw[hb,iA]at e;cases e;rw[xA hb]at e;exact e
theorem Ab{m:Mt}{N:T->T->Prop}{R:VK}(f:Same F H)(r:Tr K F H true v s Z)(rv:Trs K F H true vs ts W)(dj:∀b,Z b->¬ W b)(h:eL m s ts N)
  (k:∀w r s' H' S1 Zr,(∀b u,H b=some u->¬ Z b->H' b=some u)->(∀b,H' b=none->H b=none)->Tr K F H' true v s' S1->Tr K F H' true w r Zr->(∀b,Zr b->¬ S1 b)->(∀b,S1 b∨Zr b->Z b∨W b∨H b=none)->N r s'->R w H'):jc K m v vs H R:=by
 cases m with
 |append =>
  obtain⟨us0,t0,rfl,rfl,h⟩:=h;cases r with
  |@lst _ a xs _ _ S' h1 h2 l X e =>
   have g:Z a:=(e a).mpr (.inl rfl);cases rv with
   |@cons _ w t ws us _ W1 W2 p r2 n q =>
    cases r2 with
    |nil n2 =>
     have hW:∀b,W b↔W1 b:=λb=>by rw[q b];simp[n2 b]
     refine⟨a,xs,w,rfl,rfl,h1,by rw[l.length];exact h.1,k .non (.d .none) _ _ _ (λ_=>False) (AC g) UB (DL h2 (Trs.append l (Trs.one p) λb hb hw=>dj b ((e b).mpr (.inr hb)) ((hW b).mpr hw)) λz=>z.elim X λz=>dj a g ((hW a).mpr z)) (.d .non λ_ z=>z) (λ_ z=>z.elim) (λb hb=>?_) h.2⟩;rcases hb with(hb|hb|hb)|hb;exact .inl (hb▸g);exact .inl ((e b).mpr (.inr hb));exact .inr (.inl ((hW b).mpr hb));exact hb.elim
 |extend =>
  obtain⟨us0,vs0,rfl,rfl,h⟩:=h;cases r with
  |@lst _ a xs _ _ S' h1 h2 l X e =>
   have g:Z a:=(e a).mpr (.inl rfl);cases rv with
   |@cons _ w t ws us _ W1 W2 p r2 n q =>
    cases r2 with
    |nil n2 =>
     have hW:∀b,W b↔W1 b:=λb=>by rw[q b];simp[n2 b]
     cases p with|@lst _ c zs _ _ B g1 g2 g3 g4 I=>have dw:∀b,B b->W b:=λb hb=>(hW b).mpr ((I b).mpr (.inr hb));refine⟨a,c,xs,zs,rfl,rfl,h1,g1,by rw[l.length,g3.length];exact h.1,k .non (.d .none) _ _ _ (λ_=>False) (AC g) UB (DL h2 (Trs.append l g3 λb hb hw=>dj b ((e b).mpr (.inr hb)) (dw b hw)) λz=>z.elim X λz=>dj a g (dw a z)) (.d .non λ_ z=>z) (λ_ z=>z.elim) (λb hb=>?_) h.2⟩;rcases hb with(hb|hb|hb)|hb;exact .inl (hb▸g);exact .inl ((e b).mpr (.inr hb));exact .inr (.inl (dw b hb));exact hb.elim
 |pop =>
  obtain⟨us0,i,j,t0,rfl,rfl,hi,ht,q⟩:=h;cases r with
  |@lst _ a xs _ _ S' h1 h2 l X e =>
   have g:Z a:=(e a).mpr (.inl rfl);obtain⟨w,P1,P2,g1,g2,g3,g4,I⟩:=l.erase ht;have na:¬ P1 a:=λz=>X (I a (.inl z));have nb:¬ P2 a:=λz=>X (I a (.inr z));cases rv with
   |cons p r2 n q2 =>
    cases r2;cases p with
    |d p n1 =>
     cases p;refine⟨a,i,xs,j,w,rfl,rfl,h1,by rw[l.length];exact hi,g1,k w t0 _ _ _ P1 (AC g) UB (DL h2 g3 nb) (g2.mono (.refl _) λb hb=>⟨xA λz=>na (z▸hb),(g2.dom b hb).2⟩) (λb hb z=>?_) (λb hb=>?_) q⟩;rcases z with z|z
     ·exact na (z▸hb)
     exact g4 b hb z;rcases hb with(hb|hb)|hb
     ·exact .inl (hb▸g)
     exact .inl ((e b).mpr (.inr (I b (.inr hb))));exact .inl ((e b).mpr (.inr (I b (.inl hb))))
 |_=>exact h.elim
theorem Trs.setD(w:Rep K F A x){S:dB}(n:Nat)(h:Trs K F H true vs ts S):∃P,Trs K F H true (vs.set n A) (ts.set n (.d x)) P/\∀b,P b->S b:=by
 revert n;refine Trs.ind (R:=λst vs ts S=>∀n:Nat,∃P,Trs K F H st (vs.set n A) (ts.set n (.d x)) P/\∀b,P b->S b) (λ{_ S} z n=>⟨S,.nil z,λ_ h=>h⟩) (λ{_ _ _ _ _ _ S1 B} h t m q k n=>?_) h;cases n with|zero=>exact⟨B,.cons (S1:=λ_=>False) (.d w λ_ z=>z) t (λ_ z=>z.elim) λb=>by simp,λb hb=>(q b).mpr (.inr hb)⟩|succ n=>obtain⟨P,e,u⟩:=k n;exact⟨λb=>S1 b∨P b,.cons h e (λb hb z=>m b hb (u b z)) λb=>WO,λb hb=>(q b).mpr (hb.imp id (u b))⟩
theorem Trs.part{S:dB}(h:Trs K F H true vs ts S)(e:ts[i]?=some t):∃v S1,vs[i]?=some v/\Tr K F H true v t S1/\(∀b,S1 b->S b) /\
  ∀(w:Hp) t' u,(∀b,S b->¬ S1 b->w b=H b)->Tr K F w true v t' u->(∀b,u b->S1 b)->∃P,Trs K F w true vs (ts.set i t') P/\∀b,P b->S b:=by
 revert i;refine Trs.ind (R:=λst vs ts S=>∀{i:Nat},ts[i]?=some t->∃v S1,vs[i]?=some v/\Tr K F H st v t S1/\(∀b,S1 b->S b)/\∀(w:Hp) t' u,(∀b,S b->¬ S1 b->w b=H b)->Tr K F w st v t' u->(∀b,u b->S1 b)->∃P,Trs K F w st vs (ts.set i t') P/\∀b,P b->S b) (λn i e=>by cases e) (λ{_ _ _ _ _ _ m P2} h t n q p i e=>?_) h;cases i with|zero=>cases e;exact⟨_,m,rfl,h,λb hb=>(q b).mpr (.inl hb),λw t' u k r f=>⟨λb=>u b∨P2 b,.cons r (t.mono (.refl _) λb hb=>⟨k b ((q b).mpr (.inr hb)) λz=>n b z hb,(t.dom b hb).2⟩) (λb hb z=>n b (f b hb) z) λb=>WO,λb hb=>(q b).mpr (hb.imp (f b) id)⟩⟩|succ i=>obtain⟨v,S1,h1,h2,g,I⟩:=p (i:=i) e;refine⟨v,S1,h1,h2,λb hb=>(q b).mpr (.inr (g b hb)),λw t' u k r f=>?_⟩;obtain⟨P,g1,l⟩:=I w t' u (λb hb X=>k b ((q b).mpr (.inr hb)) X) r f;exact⟨λb=>m b∨P b,.cons (h.mono (.refl _) λb hb=>⟨k b ((q b).mpr (.inl hb)) λz=>n b hb (g b z),(h.dom b hb).2⟩) g1 (λb hb z=>n b hb (l b z)) λb=>WO,λb hb=>(q b).mpr (hb.imp id (l b))⟩
def Pr(ks:List D)(k:D):List D:=match cA ks k with
 |some _=>ks|none=>ks++[k]
noncomputable def Ur{α:Type}(ks:List D)(vs:List α)(k:D)(x:α):List α:=match cA ks k with
 |some n=>vs.set n x|none=>vs++[x]
theorem zQ{α h:Type}[DecidableEq α](k:α)(key:h->α)(f:h->h)(hf:∀p,key (f p)=key p):∀(l:List h) (n:Nat),(l.map key).Nodup->(l.map key)[n]?=some k->(∀(g:h->V) (x:V),(∀p,key p=k->g (f p)=x)->(l.map λp=>if key p=k then f p else p).map g=(l.map g).set n x)
 |[],n,_,e=>by simp at e|p::r,0,nd,e=>by
  intro g x w;have e:key p=k:=by simpa using e
  rw[QS]at nd;obtain⟨u,m⟩:=Qh.mp nd;have e2:(r.map λp=>if key p=k then f p else p)=r:=by rw[show r=r.map id from(QCT r).symm,Qa];refine wJ λq I=>?_;have:key q≠k:=λz=>u (QV.mpr ⟨q,by simpa using I,z.trans e.symm⟩);simp[this]
  rw[QS,e2,QS,QS,if_pos e,w p e];rfl
 |p::r,n+1,nd,e=>by
  intro g x w;rw[QS]at nd;obtain⟨u,m⟩:=Qh.mp nd;have e:(r.map key)[n]?=some k:=by simpa using e
  have X:¬ key p=k:=λz=>u (by rw[z];exact qU e);rw[QS,QS,QS,if_neg X,zQ k key f hf r n m e g x w];rfl
theorem put_keys{α h z:Type}[DecidableEq α](k:α)(key:h->α)(f:h->h)(g:h->z)(u:∀p,g (f p)=g p)(l:List h):(l.map λp=>if key p=k then f p else p).map g=l.map g:=by rw[Qa];refine wJ λp _=>?_;show g (if key p=k then f p else p)=g p;split;exact u p;rfl
theorem CK.put{k:D}(f:Same F H)(ha:H a=some o)(dk:CK K F b o ks vs)(ry:Rep K F J k)(hk:UD b k)(hl:ks.length<sizeLine)
  (kk:∀o',CK K F b o' (Pr ks k) (Ur ks vs k A)->R (DA H a o')):zS K (.ref a) J A H R:=by
 cases b with
 |true =>
  obtain⟨ep,u,rfl,rfl,rfl,h4,X⟩:=dk;cases LQ hk ry with
  |intro q h =>
   obtain⟨p,rfl,rfl,hq⟩:=h;refine⟨ep,u,q,ha,λp hp=>f.key (h4 p hp),f.key hq,by simpa using hl,λI=>kk _ ?_⟩;have w:=DG q u;unfold tM Pr Ur;cases e:cA (u.map λp=>tD p.1) (tD q) with
   |none =>
    rw[e]at w;have w:uH u q=none:=w;rw[w];refine⟨I,u++[(q,p,A)],rfl,by simp,by simp,λx l=>?_,?_⟩;rcases Qf.mp l with l|l
    ·exact h4 x l
    rw[QJ.mp l];exact hq;rw[QO];refine RI X λm=>jB.mp e ?_;obtain⟨x,l,ex⟩:=QV.mp m;exact QV.mpr ⟨x,l,by rw[ex]⟩
   |some n =>
    rw[e]at w;have g:=BC e;have r:(u.map (·.1))[n]?=some q:=by
     rw[Qb]at g ⊢;cases en:u[n]? with|none=>rw[en]at g;cases g|some x=>rw[en]at g;rw[Q6,Qp]at g ⊢;exact RU g
    have hs:(uH u q).isSome=true:=by
     rw[w];have:n<u.length:=by have:=(Qg.mp r).1;simpa using this
     simp[this]
    rw[if_pos hs];refine⟨I,_,rfl,(put_keys q (·.1) (λp=>(p.1,p.2.1,A)) (λp=>tD p.1) (λ_=>rfl) u).symm,(zQ q (·.1) (λp=>(p.1,p.2.1,A)) (λ_=>rfl) u n X r (·.2.2) A λ_ _=>rfl).symm,λx l=>?_,?_⟩;obtain⟨y,hy,ey⟩:=QV.mp l;have hy:=h4 y hy;by_cases z:y.1=q;rw[if_pos z]at ey;subst ey;exact hy;rw[if_neg z]at ey;subst ey;exact hy;have:=put_keys q (·.1) (λp:KE=>(p.1,p.2.1,A)) (·.1) (λ_=>rfl) u;rw[this];exact X
 |false =>
  obtain⟨z,rfl⟩:=hk;cases ry;rcases dk with⟨u,hne,rfl,rfl,rfl,X⟩| ⟨ep,rfl,rfl,rfl⟩
  rotate_left
  exact .inr ⟨ep,ha,kk _ (.inl ⟨[(.inr z,A)],by simp,rfl,rfl,rfl,by simp⟩)⟩;refine .inl ⟨u,ha,by simpa using hl,kk _ (.inl ?_)⟩;have w:=BJ (.inr z) u;have ez:kD (.inr z)=.str z:=rfl;rw[ez]at w;unfold yV Pr Ur;rw[GR];cases e:cA (u.map λp=>kD p.1) (.str z) with
  |none=>rw[e]at w;have w:AL u (.inr z)=none:=w;rw[w];refine⟨u++[(.inr z,A)],by simp,rfl,by simp[ez],by simp,?_⟩;rw[QO];refine RI X λm=>jB.mp e ?_;obtain⟨x,l,ex⟩:=QV.mp m;exact QV.mpr ⟨x,l,by rw[ex];rfl⟩|some n =>
   rw[e]at w;have g:=BC e;have r:(u.map (·.1))[n]?=some (.inr z):=by
    rw[Qb]at g ⊢;cases en:u[n]? with|none=>rw[en]at g;cases g|some x=>rw[en]at g;rw[Q6,Qp]at g ⊢;exact j7 g
   have hs:(AL u (.inr z)).isSome=true:=by
    rw[w];have:n<u.length:=by have:=(Qg.mp r).1;simpa using this
    simp[this]
   rw[if_pos hs];refine⟨_,by simpa using hne,rfl,(put_keys (.inr z) (·.1) (λp=>(p.1,A)) (λp=>kD p.1) (λ_=>rfl) u).symm,(zQ (.inr z) (·.1) (λp=>(p.1,A)) (λ_=>rfl) u n X r (·.2) A λ_ _=>rfl).symm,?_⟩;have:=put_keys (.inr z) (·.1) (λp:Key×V=>(p.1,A)) (·.1) (λ_=>rfl) u;rw[this];exact X
theorem vR(h:F a=none)(u:CK K F b o ks L)(r:Trs K F H true L us P)(n:¬ P a):Tr K F (DA H a o) true (.ref a) (.dct b ks us) λb=>b=a∨P b :=
 .dct (S':=P) iA u h (r.mono (.refl _) λb hb=>⟨xA λz=>n (z▸hb),(r.dom b hb).2⟩) n λb=>WO
theorem G3(f:Same F H)(r:Tr K F H true v s Z)(ry:Rep K F J y)(rx:Rep K F A x)(h:Mn s y x N)
  (k:∀s' H' S1,(∀b u,H b=some u->¬ Z b->H' b=some u)->(∀b,H' b=none->H b=none)->Tr K F H' true v s' S1->(∀b,S1 b->Z b)->N s'->R H'):zS K v J A H R:=by
 cases s with
 |lst ts =>
  cases y with
  |int i =>
   obtain⟨n,hn,q⟩:=h;cases ry;cases r with|@lst _ a xs _ _ S' h1 h2 m I l=>have g:Z a:=(l a).mpr (.inl rfl);obtain⟨P,X,p⟩:=m.setD rx n;refine⟨xs,n,h1,by rw[m.length];exact hn,k _ _ _ (AC g) UB (DL h2 X λz=>I (p a z)) (λb hb=>?_) q⟩;rcases hb with hb|hb;exact hb▸g;exact(l b).mpr (.inr (p b hb))
  |_=>exact h.elim
 |dct b ks ts =>
  obtain⟨hk,hl,q⟩:=h;cases r with
  |@dct _ _ a o _ vs _ _ S' h1 dk h2 m I l =>
   have g:Z a:=(l a).mpr (.inl rfl);refine dk.put f h1 ry hk hl λo' w=>?_;unfold Pr Ur at w;unfold IJ at q;cases e:cA ks y with
   |some n=>rw[e]at w q;obtain⟨P,X,p⟩:=m.setD rx n;refine k _ _ _ (AC g) UB (vR h2 w X λz=>I (p a z)) (λb hb=>?_) q;rcases hb with hb|hb;exact hb▸g;exact(l b).mpr (.inr (p b hb))
   |none=>rw[e]at w q;have X:=Trs.append m (Trs.one (Tr.d (S:=λ_=>False) rx λ_ z=>z)) λ_ _ z=>z;refine k _ _ _ (AC g) UB (vR h2 w X λz=>z.elim I id) (λb hb=>?_) q;rcases hb with hb|hb|hb;exact hb▸g;exact(l b).mpr (.inr hb);exact hb.elim
 |_=>exact h.elim
theorem CK.vs_inj{m:Hp}{f:List D}{u:LV}(h:CK K F b o ks vs)(h':CK K m b o f u):vs=u:=by
 cases b with|true=>obtain⟨l,k,e,_,rfl,_⟩:=h;obtain⟨g,w,z,_,rfl,_⟩:=h';rw[e]at z;cases z;rfl|false=>rcases h with⟨k,_,e,_,rfl,_⟩| ⟨l,e,_,rfl⟩<;>rcases h' with⟨w,_,z,_,rfl,_⟩| ⟨g,z,_,rfl⟩<;>rw[e]at z<;>cases z<;>rfl
theorem K9{F0:Hp}{n:Nat}{w:V}(f:Same F H)(r:Tr K F H true (.ref a) (.dct b ks ts) Z)(l:H a=some o)(q:CK K F0 b o ks vs)(hw:vs[n]?=some w)(ht:ts[n]?=some s)
  (ry:Rep K F J y) (rx:Rep K F A x) (h:Mn s y x N)
  (k:∀s' g S1,(∀b u,H b=some u->¬ Z b->g b=some u)->(∀b,g b=none->H b=none)->Tr K F g true (.ref a) (.dct b ks (ts.set n s')) S1->(∀b,S1 b->Z b)->N s'->R g):zS K w J A H R:=by
 cases r with
 |@dct _ _ a o' _ vs' _ _ S' h1 dk h2 h3 h4 p =>
  rw[l]at h1;cases h1;cases q.vs_inj dk;have ha:Z a:=(p a).mpr (.inl rfl);obtain⟨w',S1,g1,g2,g3,g4⟩:=h3.part ht;rw[hw]at g1;cases g1;refine G3 f g2 ry rx h λs' g X hh dm rs sub q2=>?_;have keep:∀b,¬ S1 b->H b≠none->g b=H b:=λb hb m=>by
   cases e:H b with|none=>exact absurd e m|some u=>exact hh b u e hb
  have na:¬ S1 a:=λz=>h4 (g3 a z);obtain⟨P,p1,I⟩:=g4 g s' X (λb hb m=>keep b m (h3.dom b hb).1) rs sub;refine k _ g (λb=>b=a∨P b) (λb u e hb=>hh b u e λz=>hb ((p b).mpr (.inr (g3 b z)))) dm (.dct (S':=P) ((keep a na (by rw[l];simp)).trans l) dk h2 p1 (λz=>h4 (I a z)) λb=>WO) (λb hb=>?_) q2;rcases hb with hb|hb;exact hb▸ha;exact(p b).mpr (.inr (I b hb))
theorem Gh{p:Addr}(f:Same F H)(X:H p=none)(r:Tr K F H true v t Z)(ry:Rep K F J y)(h:Fh y t N)
  (k:∀s' l S1,(∀b u,H b=some u->¬ Z b->l b=some u)->(∀b,l b=none->H b=none)->Tr K F l true v s' S1->(∀b,S1 b->Z b∨b=p)->N s'->R l):UL K v [J,.ref p] (DA H p (.dT 0 [])) λ_ l=>R l:=by
 obtain⟨ks,ts,rfl,hk,hl,h⟩:=h;cases r with
 |@dct _ _ a o _ vs _ _ S' h1 dk h2 h3 h4 h5 =>
  have ha:Z a:=(h5 a).mpr (.inl rfl);obtain⟨ep,w,rfl,rfl,rfl,d4,d5⟩:=dk;have ap:a≠p:=sA h1 X;have fp:F p=none:=f.free X;have sm:Same H (DA H p (.dT 0 [])):=LB X;cases LQ hk ry with
  |intro q hh =>
   obtain⟨c,rfl,rfl,hq⟩:=hh;have vf:=DG q w;refine⟨a,c,.ref p,ep,w,q,rfl,rfl,(xA ap).trans h1,λx g=>(f.trans sm).key (d4 x g),(f.trans sm).key hq,by simpa using hl,λu eu=>?_,λen I=>?_⟩;rcases h with⟨n,e,q⟩| ⟨e,q⟩
   ·have r0:Tr K F H true (.ref a) (.dct true (w.map λp=>tD p.1) ts) Z:=.dct h1 ⟨ep,w,rfl,rfl,rfl,d4,d5⟩ h2 h3 h4 h5
    refine k _ _ Z (λb u e _=>sm b u e) (λb e=>UB b e) (r0.mono (.refl _) λb hb=>⟨xA λz=>(r0.dom b hb).1 (by rw[z];exact X),(r0.dom b hb).2⟩) (λb hb=>.inl hb) q
   rw[e]at vf;rw[vf]at eu;cases eu;rcases h with⟨n,e,q⟩| ⟨e,q2⟩
   ·have hn:=BC e
    rw[e]at vf;have:n<w.length:=by have:=(Qg.mp hn).1;simpa using this
    rw[vf]at en;have en:(w.map (·.2.2))[n]?=none:=en;rw[List.getElem?_eq_none_iff,QE]at en;omega
   have ep2:tM w q c (.ref p)=w++[(q,c,.ref p)]:=by unfold tM;rw[en];rfl
   rw[ep2];have np:¬ S' p:=λz=>(h3.dom p z).1 X;have g0:Tr K F (DA H p (.dT 0 [])) true (.ref p) (.dct true [] []) λb=>b=p :=
    .dct (S':=λ_=>False) (vs:=[]) iA ⟨0,[],rfl,rfl,rfl,λ_ z=>(nomatch z),Q0⟩ fp (.nil λ_ z=>z) (λz=>z) λb=>by simp
   have g3:Trs K F (DA H p (.dT 0 [])) true (w.map (·.2.2)) ts S':=h3.mono (.refl _) λb hb=>⟨xA λz=>np (z▸hb),(h3.dom b hb).2⟩
   have g1:=Trs.append g3 (Trs.one g0) λb hb z=>np (z▸hb);have dk':CK K F true (.dT I (w++[(q,c,.ref p)])) ((w.map λp=>tD p.1)++[tD q]) (w.map (·.2.2)++[.ref p]):=by
    refine⟨I,_,rfl,by simp,by simp,λx g=>?_,?_⟩;rcases Qf.mp g with g|g
    ·exact d4 x g
    rw[QJ.mp g];exact hq;rw[QO];refine RI d5 λm=>jB.mp e ?_;obtain⟨x,g,ex⟩:=QV.mp m;exact QV.mpr ⟨x,g,by rw[ex]⟩
   refine k _ _ _ (λb u e hb=>?_) (λb e=>UB b (UB b e)) (vR h2 dk' g1 λz=>z.elim h4 ap) (λb hb=>?_) q2;rw[xA λz=>hb (by rw[z];exact ha)];exact sm b u e;rcases hb with hb|hb|hb
   ·exact .inl (hb▸ha)
   exact .inl ((h5 b).mpr (.inr hb));exact .inr hb
end
end
section
variable{K:QA}{Γ:Ev}{Ψ:PEv}
section
variable{p:PX}{F H:Hp}{S:Ft}{ρ:kA}{Z:dB}
noncomputable abbrev C1(K:QA)(Γ:Ev)(Ψ:PEv)(p:PX):Prop:=∀{E:XE}{x:XK}{F H:Hp}{S:Ft}{ρ:kA}{h:St}{Q:TK}{R:VK},Rl K F H S ρ h->OE K F H S ρ E x->(pe Ψ p E).e ρ Q->vB K (xH p) F H S ρ h Q R->(wp K Γ p x).e h H R
theorem OU(f:C1 K Γ Ψ p){E:XE}{w:XK}{σ:St}{Q:Bool->kA->Prop}{R:Bool->Hp->Prop}(I:Rl K F H S ρ σ)(X:OE K F H S ρ E w)(h:(pe Ψ p E).e ρ λt _ y=>sI t.er λb=>Q b y)(k:BH K F H S ρ σ Q R) :
  (wp K Γ p w).e σ H λx i=>MF K x i R :=
 f I X h λv l j g z t n Z s u r q=>EW (r.tr.rep u.fh) q λc a=>k c l j g z s u a
theorem PSnd.of_e(w:∀E ρ Q,(pe Ψ p E).t ρ Q=(pe Ψ p E).e ρ λt _ y=>sI t.er λb=>Q b y)(z:∀v σ H R,(wp K Γ p v).t σ H R=(wp K Γ p v).e σ H λx g=>MF K x g R)(f:∀E,(pe Ψ p E).a=zE.a)(u:C1 K Γ Ψ p):PSnd K Γ Ψ p where
 e:=u
 t:=λI X h k=>by rw[w]at h;rw[z];exact OU u I X h k
 a:=λI X _ h k=>by rw[f]at h;exact h.elim
theorem PSnd.of_0(x:∀E,(pe Ψ p E).t=zE.t)(z:∀E,(pe Ψ p E).a=zE.a)(y:C1 K Γ Ψ p):PSnd K Γ Ψ p where
 e:=y
 t:=λI X h k=>by rw[x]at h;exact h.elim
 a:=λI X _ h k=>by rw[z]at h;exact h.elim
theorem PSnd.of_t(l:∀E ρ Q,(pe Ψ p E).e ρ Q=(pe Ψ p E).t ρ λb u=>Q (.d (.bool b)) false u)(v:∀z σ H R,(wp K Γ p z).t σ H R=(wp K Γ p z).e σ H λx n=>n8 x n R)(m:∀E,(pe Ψ p E).a=zE.a)
  (f:∀{E:XE}{z:XK}{F H:Hp}{S:Ft}{ρ:kA}{σ:St}{Q:Bool->kA->Prop}{R:VK},Rl K F H S ρ σ->OE K F H S ρ E z->(pe Ψ p E).t ρ Q->BH K F H S ρ σ Q (λb=>R (.bl b))->(wp K Γ p z).e σ H R):PSnd K Γ Ψ p where
 e:=λI X h k=>by rw[l]at h;exact f I X h λb j i g y s w q=>vB.d k s w (.bl b) q
 t:=λI X h k=>by rw[v];exact f I X h λb j i g y s w q=>k b j i g y s w q
 a:=λI X _ h k=>by rw[m]at h;exact h.elim
theorem Td(i:Nat):C1 K Γ Ψ (.zz i):=by
 intro E a F H S ρ y Q R I X h k;have x:Lr ρ[i]? λt=>Q t false ρ:=h;show(match y[i]? with|some (some v)=>R v H|_=>False);have key:∀s,ρ[i]?=some (some s)->Q s.t false ρ->(match y[i]? with|some (some v)=>R v H|_=>False):=λs e q=>by obtain⟨v,w,u⟩:=I.sl i _ e;rw[w];exact k v F H S ρ s.t false (S i) .refl I ⟨u.weak,λz=>(by cases z),λ_ b hb=>⟨i,s,QJ.mpr rfl,e,hb⟩,λz=>(by cases z)⟩ q
 unfold Lr at x;split at x;rename_i e;exact key _ e x;rename_i e;exact key _ e x;exact x.elim;exact x.elim
theorem Jj{m:Mt}{v:V}{s:T}(h:isMut m=true)(x:SI m s=true)(r:Tr K F H true v s Z):L1 K m.ty v H:=by
 unfold SI at x;split at x;cases r with
 |lst y _ _ _ _ =>
  refine .inl ⟨?_,_,pC.of y⟩;cases m with|append=>rfl|pop=>rfl|extend=>rfl|_=>cases x
 cases x
theorem Zu{m:Mt}{o g:PX}(io:PSnd K Γ Ψ o)(ia:PSnd K Γ Ψ g):C1 K Γ Ψ (.mt m o g):=by
 intro E EK F H S ρ L Q R I X h k;show(wp K Γ o EK).e L H λx J=>L1 K m.ty x J/\(wp K Γ g EK).a L J λA l=>jc K m x A l R;cases hm:isMut m with
 |false =>
  have h:(pe Ψ o E).e ρ λx n M=>Y6 m (gA x n).vw=true/\sq (gA x n) M ((pe Ψ g E).a []) λf y=>Nr m (gA x n).vw (SB f) λz k=>Q z k y:=by have C:(if isMut m=true then _ else _):=h;rw[hm,if_neg (by simp)]at C;exact C
  refine dn (P1:=λx n=>Y6 m (gA x n).vw=true) (R1:=λv J=>L1 K m.ty v J) (RR:=λv A l=>jc K m v A l R) io ia I X h (λv F' H' x n Za r p=>gp r p) λv A F' H' S' ρ' x n f Za Y s I' X' r _ tn q=>?_;rw[PL _ rfl]at q;exact Yj s I' r tn q k
 |true =>
  have h:de (X4 o) λj=>OC ρ[j]? λt=>SI m t=true/\(pe Ψ g E).a [] (ρ.set j (some (.vz t))) λf y=>DE f=true/\y[j]?=some (some (.vz t))/\eL m t (LF f) λr s'=>Q r true (y.set j (some (.own s'))):=by have C:(if isMut m=true then _ else _):=h;rw[hm,if_pos rfl]at C;exact C
  cases o with
  |zz j =>
   have h:OC ρ[j]? _:=h;unfold OC at h;split at h;rename_i t u;obtain⟨ht,q1⟩:=h;obtain⟨v0,hv,B⟩:=I.sl j _ u;have IL:=I.lock1 u;have n0:=I.lock1U u;have B:Tr K F H true v0 t (S j):=B;have XL:=X.lock1 u;show(match L[j]? with|some (some v)=>_|_=>False);rw[hv];refine⟨Jj hm ht B,?_⟩;refine ia.a (md:=[]) IL XL (λj u=>by cases g<;>cases u) q1 λA F2 l S2 y f W Y N I2 G _ P=>?_;obtain⟨he,hj2,P⟩:=P;have r2:Tr K F2 l true v0 t (S j):=N.toStp.keep B n0;have hw:=G.held;have trs:=G.av.trs sj he;have wS:∀b,S j b->¬ W b:=λb hb hb2=>by rcases G.fr b hb2 with q|q;exact(B.dom b hb).1 q;exact n0 b hb q
   refine Ab I2.fh r2 trs wS P λw r s' H3 S3 Zr hh dm O rr dz hf q=>?_;obtain⟨st,I3,nw⟩:=XI I u hv N I2 hh dm O (λb hb=>hf b (.inl hb)) hw G.fr;have zr:∀b,Zr b->S j b∨W b∨l b=none:=λb hb=>hf b (.inr hb);refine k w F2 H3 _ _ r true Zr st I3 ⟨rr,λ_ b hb=>?_,λz=>(by cases z),λ_ i sl e b hb z=>?_⟩ q;rcases zr b hb with q|q|q
   ·exact .inr ⟨j,t,u,q⟩
   exact(G.fr b q).imp id (lock1U u);exact .inl (N.dm b q);rcases dA e with⟨rfl,_,_⟩| ⟨n,e⟩
   ·rw[RA]at z
    exact dz b hb z
   rw[JA (Q3 n)]at z;exact nw b (zr b hb) i sl (Q3 n) e z
   all_goals exact h.elim
  |_=>exact h.elim
theorem vB.dct{ws:LN}{F H x y:Hp}{S S1:Ft}{ρ h:kA}{σ:St}{Q:TK}{R:VK}(k:vB K ws F H S ρ σ Q R)(s:Ste F H S ρ x y S1 h)(I:Rl K x y S1 h σ){p:Addr}(g:H p=none)(m:x p=none)(j:Held x y S1 h λb=>b=p){o:HO}{b:Bool}{ks:List D}{vs:LV}{ts:LT}{W:dB}(B:CK K x b o ks vs)(r:Trs K x y true vs ts W)
  (fr:∀b,W b->H b=none∨U ρ S b) (f:Held x y S1 h W) (a:¬ W p) (q:Q (.dct b ks ts) true h):R (.ref p) (DA y p o):=by
 have Y:∀b u,H b=some u->b≠p:=λb u e=>sA e g;have X:Ste F H S ρ x (DA y p o) S1 h:=⟨⟨s.ff,λb u e n=>by rw[xA (Y b u e)];exact s.hh b u e n,λb e=>s.dm b (UB b e),s.fn,s.uu,s.bo⟩,s.ow⟩
 have C:Rl K x (DA y p o) S1 h σ:=⟨λb u e=>by rw[xA λz=>by rw[z,m]at e;cases e];exact I.fh b u e,I.len,λi w e=>by obtain⟨v,A,l⟩:=I.sl i w e;exact⟨v,A,l.mono (.refl _) λb hb=>⟨xA λz=>j.nw i w e b z hb,(l.dom b hb).2⟩⟩,I.dj⟩
 refine k _ x _ S1 h _ true (λb=>b=p∨W b) X C ⟨.dct iA B m (r.mono (.refl _) λb hb=>⟨xA λz=>a (z▸hb),(f.dom b hb).2⟩) a (λb=>WO),λ_ b hb=>?_,λz=>(by cases z),λ_ i w e b hb z=>?_⟩ q;rcases hb with hb|hb
 ·exact .inl (hb▸g)
 exact fr b hb;rcases hb with hb|hb
 ·exact j.nw i w e b hb z
 exact f.nw i w e b hb z
theorem VR.strict{u y:Hp}{S1:Ft}{h:kA}{ws:LN}{v:V}{t:T}{n:Bool}(r:VR K ws H S ρ u y S1 h v t n Z)(e:YH t n=true):∃W,Tr K u y true v t W/\Held u y S1 h W/\∀b,W b->H b=none∨U ρ S b:=by
 cases n with
 |true=>exact⟨Z,r.tr,r.held,r.fr rfl⟩|false =>
  have w:=r.tr;cases t with
  |d x=>cases w with|d q _=>exact⟨λ_=>False,.d q λ_ z=>z,.none,λ_ z=>z.elim⟩
  |_=>cases e
theorem gT{σ:St}(I:Rl K F H S ρ σ){p:Addr}(h:H p=none)(o:HO):Held F (DA H p o) S ρ λb=>b=p :=
 ⟨λb hb=>⟨by rw[hb,iA];simp,by rw[hb];exact I.fh.free h⟩,λi x e b hb z=>(I.dom e z).1 (by rw[hb];exact h)⟩
theorem SA(g:GOk K Γ Ψ):∀(p:PX),PSnd K Γ Ψ p
 | .zz i=>⟨Td i,λI X h k=>OU (Γ:=Γ) (Ψ:=Ψ) (Td i) I X h k,λI X _ h k=>h.elim⟩|.int i=>⟨λI X h k=>vB.d k .refl I (.int i) h,λI X h k=>k _ _ _ _ _ .refl I h,λI X _ h k=>h.elim⟩|.str x=>⟨λI X h k=>vB.d k .refl I (.str x) h,λI X h k=>h.elim,λI X _ h k=>h.elim⟩|.bl b=>⟨λI X h k=>vB.d k .refl I (.bl b) h,λI X h k=>k _ _ _ _ _ .refl I h,λI X _ h k=>h.elim⟩|.non=>⟨λI X h k=>vB.d k .refl I .non h,λI X h k=>k _ _ _ _ _ .refl I h,λI X _ h k=>h.elim⟩|.glo x=>.of_e (λ_ _ _=>rfl) (λ_ _ _ _=>rfl) (λ_=>rfl) λ{E M F H S ρ G Q R} I X h k=>by have h:(match Ψ.va x with|some d=>Q (.d d) false ρ|none=>False):=h;split at h;rename_i d e;exact vB.d k .refl I (g.va x d e F) h;exact h.elim
 | .bty _ _=>⟨λI X h k=>h.elim,λI X h k=>h.elim,λI X _ h k=>h.elim⟩|.bin op a b=>.of_e (λ_ _ _=>rfl) (λ_ _ _ _=>rfl) (λ_=>rfl) λ{E M F H S ρ G Q R} I X h k =>
  x3 (P:=λx n y m J=>binT op (gA x n).vw (gA y m).vw λz k=>Q z k J) (RR:=λx y H2=>Yd K op x y H2 R) (SA g a) (SA g b) I X h λv w F' N S' A x n y m Za Zb s C X' ra _ rb q=>yl s C ra rb q k
 | .cmp op a b=>.of_t (λ_ _ _=>rfl) (λ_ _ _ _=>rfl) (λ_=>rfl) λ{E M F H S ρ G Q R} I X h k =>
  x3 (P:=λx n y m J=>Ac op x.er (gA y m) λk=>Q k J) (RR:=λx y H2=>A7 K op x y H2 R) (SA g a) (SA g b) I X h λv w F' N S' A x n y m Za Zb s C X' ra _ rb q =>
   Tc C.fh (by have:=ra.rep C.fh;rwa [xY]at this) rb q λc qc=>k c F' N S' A s C qc
 | .and a b=>⟨λ{E M F H S ρ G Q R} I X h k=>by
   refine(SA g a).e (Q:=λx _ B=>Ul x.er λc=>if c=true then(pe Ψ b E).e B Q else Q (.d (.bool false)) false B) (R:=λx L=>n8 x L λc H2=>if c=true then(wp K Γ b M).e G H2 R else R (.bl false) H2) I X h λv F' N S' A x n Z s C r q=>?_;refine m8 (r.tr.rep C.fh) q λc qc=>?_;cases c with|false=>exact vB.d k s C (.bl false) qc|true=>exact(SA g b).e C (X.from s.toStp) qc ((k.from s).vars λi hi=>QX _ hi),
  λ{E M F H S ρ G Q R} I X h k=>by
   refine(SA g a).t (Q:=λc B=>if c=true then(pe Ψ b E).t B Q else Q false B) (R:=λc L=>if c=true then(wp K Γ b M).t G L R else R false L) I X h λc F' N S' A s C qc=>?_;cases c with|false=>exact k _ F' N S' A s C qc|true=>exact(SA g b).t C (X.from s.toStp) qc (BH.from k s),λI X _ h k=>h.elim⟩
 | .or a b=>⟨λ{E M F H S ρ G Q R} I X h k=>by
   refine(SA g a).e (Q:=λx _ B=>Ul x.er λc=>if c=true then Q (.d (.bool true)) false B else(pe Ψ b E).e B Q) (R:=λx L=>n8 x L λc H2=>if c=true then R (.bl true) H2 else(wp K Γ b M).e G H2 R) I X h λv F' N S' A x n Z s C r q=>?_;refine m8 (r.tr.rep C.fh) q λc qc=>?_;cases c with|true=>exact vB.d k s C (.bl true) qc|false=>exact(SA g b).e C (X.from s.toStp) qc ((k.from s).vars λi hi=>QX _ hi),
  λ{E M F H S ρ G Q R} I X h k=>by
   refine(SA g a).t (Q:=λc B=>if c=true then Q true B else(pe Ψ b E).t B Q) (R:=λc L=>if c=true then R true L else(wp K Γ b M).t G L R) I X h λc F' N S' A s C qc=>?_;cases c with|true=>exact k _ F' N S' A s C qc|false=>exact(SA g b).t C (X.from s.toStp) qc (BH.from k s),λI X _ h k=>h.elim⟩
 | .not a=>⟨λ{E M F H S ρ G Q R} I X h k=>by
   refine(SA g a).e (Q:=λx _ B=>sI x.er λc=>Q (.d (.bool (!c))) false B) (R:=λx L=>MF K x L λc H2=>R (.bl (!c)) H2) I X h λv F' N S' A x n Z s C r q=>?_;exact EW (r.tr.rep C.fh) q λc qc=>vB.d k s C (.bl _) qc,
  λ{E M F H S ρ G Q R} I X h k=>(SA g a).t (Q:=λc B=>Q (!c) B) (R:=λc L=>R (!c) L) I X h λc F' N S' A s C qc=>k _ F' N S' A s C qc,λI X _ h k=>h.elim⟩
 | .call f as=>.of_e (λ_ _ _=>rfl) (λ_ _ _ _=>rfl) (λ_=>rfl) λ{E M F H S ρ G Q R} I X h k=>vd g (SA g as) I X h k|.isi a c=>by
  have key:∀{E:XE}{M:XK}{F H:Hp}{S:Ft}{ρ:kA}{G:St}{Q:Bool->kA->Prop}{R:VK},Rl K F H S ρ G->OE K F H S ρ E M->(pe Ψ (.isi a c) E).t ρ Q->BH K F H S ρ G Q (λb=>R (.bl b))->(wp K Γ (.isi a c) M).e G H R:=by
   intro E M F H S ρ G Q R I X h k;refine(SA g a).e (Q:=λx _ B=>jk c x.er λb=>Q b B) I X h λv F' N S' A x n Z s C r q=>?_;cases c with|bty z n=>obtain⟨b,h1,h2,q⟩:=q;exact Ij (r.tr.rep C.fh) h1 h2 (k b F' N S' A s C q)|_=>exact q.elim
  refine⟨λI X h k=>key I X h λb F' N S' A s C q=>vB.d k s C (.bl b) q,λ{E M F H S ρ G Q R} I X h k=>?_,λI X _ h k=>h.elim⟩;exact key (R:=λv L=>MF K v L R) I X h λb F' N S' A s C q=>k b F' N S' A s C q
 | .bi f as=>.of_e (λ_ _ _=>rfl) (λ_ _ _ _=>rfl) (λ_=>rfl) λ{E M F H S ρ G Q R} I X h k =>
  BW (P:=λxs B=>Y1 f (SB xs) λz k=>Q z k B) (RR:=λvs L=>Dq K f vs L R) (SA g as) I X h λvs F' N S' A xs Y s C X' tn _ q=>by rw[PL _ rfl]at q;exact Kl s C tn q k
 | .mt m o as=>.of_e (λ_ _ _=>rfl) (λ_ _ _ _=>rfl) (λ_=>rfl) (Zu (SA g o) (SA g as))|.idx a b=>by
  have he:C1 K Γ Ψ (.idx a b):=λ{E M F H S ρ G Q R} I X h k =>
   x3 (P:=λx n y m J=>(kO (gA x n).vw (gA y m).vw λz=>Q z false J)∨(ZT (gA x n).vw y.er λz=>Q z false J)) (RR:=λx y H2=>bZ K x y H2 R) (SA g a) (SA g b) I X h λv w F' N S' A x n y m Za Zb s C X' ra za rb q=>by rcases q with q|q;exact zk s C ra za rb q k;exact Dk s C ra za (by have:=rb.rep C.fh;rwa [xY]at this) q k
  exact⟨he,λI X h k=>OU he I X h k,λI X _ h k=>h.elim⟩
 | .slc a lo hi=>.of_0 (λ_=>rfl) (λ_=>rfl) λ{E M F H S ρ G Q R} I X h k=>by
  have part:∀(p:PX),PSnd K Γ Ψ p->∀{F H:Hp}{S:Ft}{ρ:kA}{x:T}{P:Option Int->kA->Prop}{RP:Option Int->Hp->Prop},Rl K F H S ρ G->OE K F H S ρ E M ->
    sq (α:=Option Int) x ρ (if isNop p=true then λρ (R:Option Int->kA->Prop)=>R none ρ else λρ R=>(pe Ψ p E).e ρ λl _ J=>kG l.er λo=>R o J) P ->
    (∀o F' N S' A,Ste F H S ρ F' N S' A->Rl K F' N S' A G->(∀st v Zx,Tr K F H st v x Zx->Tr K F' N st v x Zx)->P o A->RP o N) ->
    (if isNop p=true then λ(R:Option Int->Hp->Prop)=>R none H else λR=>(wp K Γ p M).e G H λl H2=>GM l H2 R) RP:=by
   intro p ip F H S ρ x P RP I X h k;cases hn:isNop p with
   |true=>simp only[hn,if_true]at h ⊢;refine k none F H S ρ .refl I (λ_ _ _ r=>r) ?_;unfold sq at h;split at h<;>exact h|false =>
    simp only[hn,Qs,if_false]at h ⊢;have h2:sq x ρ (cu (pe Ψ p E).e) λy A=>kG y.1.er λo=>P o A:=by unfold sq at h ⊢;exact h
    refine On ip I X h2 λw F' N S' A y m Z s C kp _ r q=>Ra (r.tr.rep C.fh) q λo qo=>k o F' N S' A s C kp qo
  refine GF (SA g a) I X h λv F1 L S1 B x n Za s1 I1 X1 r1 _ z1 h1=>?_;refine part lo (SA g lo) I1 X1 h1 λl F2 H2 S2 J s2 I2 k2 h2=>?_;refine part hi (SA g hi) I2 (X1.from s2.toStp) h2 λu F3 H3 S3 ρ3 s3 I3 k3 h3=>?_;exact Uh (s1.trans (s2.trans s3)) I3 (k3 _ _ _ (k2 _ _ _ r1)) h3 k
 | .nop=>⟨λI X h k=>h.elim,λI X h k=>h.elim,λI X _ h k=>h.elim⟩|.lst as=>.of_0 (λ_=>rfl) (λ_=>rfl) λ{E M F H S ρ G Q R} I X h k=>by refine(SA g as).a (md:=[]) (R:=λxs L=>xs.length<=sizeLine/\∀p,L p=none->R (.ref p) (DA L p (.lst xs))) I X (λj hj=>by cases as<;>cases hj) h λvs F' N S' A xs W Y s C r _ q=>?_;exact⟨by rw[r.av.length];exact q.2.1,λp hp=>vB.list k s C hp (r.av.trs sj q.1) r.fr r.held q.2.2⟩|.tup as=>.of_0 (λ_=>rfl) (λ_=>rfl) λ{E M F H S ρ G Q R} I X h k=>by refine(SA g as).a (md:=[]) (R:=λxs L=>xs.length<=sizeLine/\∀p,L p=none->R (.ref p) (DA L p (.tup xs))) I X (λj hj=>by cases as<;>cases hj) h λvs F' N S' A xs W Y s C r _ q=>?_;exact⟨by rw[r.av.length];exact q.2.1,λp hp=>vB.tup k s C hp (r.av.trs sj q.1) r.fr r.held q.2.2⟩|.comp mask tgs tg ik its cond elt=>.of_0 (λ_=>rfl) (λ_=>rfl) λ{E M F H S ρ G Q R} I X h k=>by
  refine BW (RR:=λvs L=>cC K ik vs L λxs st H2=>VY K xs st tg (if isNop cond=true then λ_ H Q=>Q true H else(wp K Γ cond (λ_ _ _=>False)).t) (wp K Γ elt (λ_ _ _=>False)).e (fJ tgs.length mask G) H2 R) (SA g its) I X h λvs F1 L S1 B xs Y s1 I1 X1 tn tm q1=>?_;rw[PL _ rfl]at q1;refine xK I1.fh tn q1 λxs ys st pr hst hc=>?_;refine P7 (us:=xH elt) ?_ ?_ s1 I1 pr (λb hb=>?_) hst hc k;intro F H S ρ G Q R I h k;cases hn:isNop cond with|true=>simp only[hn,if_true]at h ⊢;exact k true F H S ρ .refl I h|false=>simp only[hn,Qs,if_false]at h ⊢;exact(SA g cond).t I OE.never h k
  intro F H S ρ G Q R I h k;exact(SA g elt).e I OE.never h k;obtain⟨i,sl,_,h2,h3⟩:=tm b hb;exact I1.dom h2 h3
 | .ng i=>.of_0 (λ_=>rfl) (λ_=>rfl) λI X h k=>vB.d k .refl I (.int _) h|.lrv a=>.of_0 (λ_=>rfl) (λ_=>rfl) λ{E M F H S ρ G Q R} I X h k =>
  GF (P:=λx n B=>ja (gA x n).vw λz k=>Q z k B) (RR:=λx L=>jV K x L R) (SA g a) I X h λv F' N S' A x n Z s C _ r _ _ ⟨us,ds,e,hb,q⟩=>by obtain⟨p,xs,_,rfl,hp,rp,_⟩:=r.ls C.fh e;exact⟨p,xs,rfl,hp,λl hl=>k.listD s C hl (rp.un hb).1.reverse q⟩
 | .dnew b=>.of_0 (λ_=>rfl) (λ_=>rfl) λ{E M F H S ρ G Q R} I X h k=>by
  intro p hp;have hh:=gT I hp (.dT 0 []);have e:=vB.dct (o:=.dT 0 []) (b:=b) (ks:=[]) (vs:=[]) (ts:=[]) (W:=λ_=>False) k (Ste.refl.new hp (.dT 0 [])) (I.new hp _) hp (I.fh.free hp) hh ?_ (.nil λ_ z=>z) (λ_ z=>z.elim) .none (λz=>z) h;rw[e9]at e;exact e;cases b with
  |true=>exact⟨0,[],rfl,rfl,rfl,λ_ z=>(nomatch z),Q0⟩
  |false=>exact .inr ⟨0,rfl,rfl,rfl⟩
 | .dsp a b=>.of_0 (λ_=>rfl) (λ_=>rfl) λ{E M F H S ρ G Q R} I X h k=>by
  intro p hp;have hh:=gT I hp (.dT 0 []);have s0:Ste F H S ρ F (DA H p (.dT 0 [])) S ρ:=Ste.refl.new hp _;refine GF (SA g a) (I.new hp _) (X.from s0.toStp) h λy F1 L S1 B x n Z s1 I1 X1 _ er _ ⟨he,q1⟩=>?_;have hh1:=hh.step s1.toStp I1;have ry:=er he;refine(SA g b).e I1 X1 q1 λv F2 H2 S2 J t m Zb s2 I2 r2 q2=>?_;have hh2:=hh1.step s2.toStp I2;obtain⟨he2,hk,q2⟩:=q2;obtain⟨W,rw,hw,frw⟩:=(r2.from s1.toStp).strict he2;have hp2:H2 p=some (.dT 0 []):=s2.hh p _ (s1.hh p _ iA (hh.nu p rfl)) (hh1.nu p rfl);have np:¬ W p:=λz=>by rcases frw p z with q|q;rw[iA]at q;cases q;exact hh.nu p rfl q
  have ry2:=ry.mono s2.ff;refine⟨hp2,?_⟩;generalize x.er=d at hk ry2 q2;cases LQ hk ry2 with|intro ks hh=>obtain⟨c,rfl,rfl,hq⟩:=hh;refine⟨c,ks,rfl,I2.fh.key hq,λep=>?_⟩;exact vB.dct (o:=.dT ep [(ks,c,v)]) (b:=true) (vs:=[v]) (ts:=[t]) k (s0.trans (s1.trans s2)) I2 hp (hh2.dom p rfl).2 hh2 ⟨ep,_,rfl,rfl,rfl,λz hz=>by rw[QJ.mp hz];exact hq,by simp⟩ (Trs.one rw) (λb hb=>by rcases frw b hb with q|q;exact .inl (UB b q);exact .inr q) hw np q2
 | .xz=>⟨λI X h k=>h.elim,λI X h k=>h.elim,λ{E M F H S ρ G md Q R} I X _ h k=>k [] F H S ρ [] (λ_=>False) (λ_=>False) .refl I ⟨.nil λ_ z=>z,λ_ z=>z.elim,λ_ z=>z.elim,λ_ _ _ _ z=>z.elim⟩ (by cases md with|nil=>rfl|cons m r=>cases m<;>rfl) h⟩
 | .nz a as=>⟨λI X h k=>h.elim,λI X h k=>h.elim,λ{E M F H S ρ G md Q R} I X hm h k=>by
  show(wp K Γ a M).e G H λx L=>(wp K Γ as M).a G L λxs H2=>R (x::xs) H2;have vr2:∀i∈xH as,i∈xH (.nz a as):=λi hi=>QX _ hi;cases O:(md.headD .uz).isMut with
  |true =>
   have h2:b7 a=true/\(pe Ψ as E).a md.tail ρ λxs B=>Q ((.d .none,true)::xs) B:=by have h3:(if(md.headD .uz).isMut=true then _ else _):=h;rw[O,if_pos rfl]at h3;exact h3
   obtain⟨m,md',rfl⟩:∃m md',md=m::md':=by
    cases md with|nil=>cases O|cons m md'=>exact⟨m,md',rfl⟩
   have em:m=.chg:=by have O:m.isMut=true:=O;cases m<;>first|rfl|cases O
   subst em;cases a with
   |zz j=>obtain⟨v,hv⟩:=hm j (show j∈j::bA md' as from QF);show(match G[j]? with|some (some v)=>_|_=>False);rw[hv];refine(SA g as).a I X (λi hi=>hm i (QD _ hi)) h2.2 λvs F' N S' A xs W Y s C r mv q=>?_;refine k (v::vs) F' N S' A _ W Y s C ⟨.chg O r.av,r.fr,(r.vars vr2).tm,r.nw⟩ ?_ q;show(some (some v))::(pB md' vs).map _=G[j]?::(bA md' as).map _;have mv:(pB md' vs).map (λv=>some (some v))=(bA md' as).map (λj=>G[j]?):=mv;rw[hv,mv]
   |_=>exact absurd h2.1 (by simp[b7])
  |false =>
   have h2:(pe Ψ a E).e ρ λx n B=>sq (α:=List (T×Bool)) (if n=true then .d .none else x) B ((pe Ψ as E).a md.tail) λxs J=>Q ((x,n)::xs) J:=by have h3:(if(md.headD .uz).isMut=true then _ else _):=h;rw[O,if_neg (by simp)]at h3;exact h3
   have hroots:bA md (.nz a as)=bA md.tail as:=by
    cases md with|nil=>cases as<;>rfl|cons m md'=>have O:m.isMut=false:=O;cases m<;>first|rfl|cases O
   have hmv:∀v vs,pB md (v::vs)=pB md.tail vs:=λv vs=>by unfold pB;generalize md.headD .uz=m at O;cases m<;>first | (cases vs<;>rfl)|cases O
   refine(SA g a).e I X h2 λv F1 L S1 B x n Z s1 I1 r1 q1=>?_;refine Pn (SA g as) I1 (X.from s1.toStp) (λi hi=>hm i (by rw[hroots];exact hi)) q1 λvs F2 H2 S2 J xs W Y s2 I2 kp hs r2 mv q2=>?_;have s12:=s1.trans s2;have r2':=(r2.from s1.toStp).vars vr2;have mv':(pB md (v::vs)).map (λv=>some (some v))=(bA md (.nz a as)).map (λj=>G[j]?):=by rw[hroots,hmv];exact mv
   cases n with
   |true =>
    have hd:=r1.held;have hd2:=hd.step s2.toStp I2;refine k (v::vs) F2 H2 S2 J _ (λb=>Z b∨W b) Y s12 I2 ⟨.new O (s2.toStp.keep r1.tr hd.nu) r2.av (λb hb hw=>?_) λb=>WO,λb hb=>?_,r2'.tm,λi sl e b hb=>?_⟩ mv' q2;rcases r2.fr b hw with q|q
    ·exact(hd.dom b hb).1 q
    exact hd.nu b hb q;rcases hb with hb|hb
    ·exact r1.fr rfl b hb
    exact r2'.fr b hb;rcases hb with hb|hb
    ·exact hd2.nw i sl e b hb
    exact r2.nw i sl e b hb
   |false =>
    have za:∀b,Z b->∃(i:Nat) (s:Sl),i∈xH a/\J[i]?=some (some s)/\S2 i b:=by
     cases hd:x.isD with
     |true =>
      intro b hb;exfalso;have tr:=r1.tr;cases x with
      |d x=>cases tr with|d r n=>exact n b hb
      |_=>cases hd
     |false=>obtain⟨e1,e2⟩:=hs hd;rw[e1,e2];exact r1.tm rfl
    refine k (v::vs) F2 H2 S2 J _ W (λb=>Z b∨Y b) s12 I2 ⟨.tmp O (kp _ _ _ r1.tr) (λb hb=>.inl hb) (r2.av.sub λb hb=>.inr hb),r2'.fr,λb hb=>?_,r2.nw⟩ mv' q2;rcases hb with hb|hb;obtain⟨i,sl,h1,h2⟩:=za b hb;exact⟨i,sl,Qn _ h1,h2⟩;exact r2'.tm b hb⟩
end
end
structure Sts(C J:LN)(F H:Hp)(S:Ft)(ρ:kA)(σ:St)(F' H':Hp)(S':Ft)(ρ':kA)(σ':St):Prop where
 ff:Same F F'
 hh:∀b u,H b=some u->¬ U ρ S b->H' b=some u
 dm:∀b,H' b=none->H b=none
 fn:∀b,F b=none->F' b≠none->U ρ S b∨H b=none
 uu:∀b,U ρ' S' b->U ρ S b∨H b=none
 bo:∀(j:Nat) t,j∉J->ρ'[j]?=some (some (.vz t))->t.isD=false->ρ[j]?=some (some (.vz t))/\S' j=S j/\σ'[j]?=σ[j]?
 sg:∀j∈C,σ'[j]?=σ[j]?
structure Stc(C:LN)(F H:Hp)(S:Ft)(ρ:kA)(σ:St)(F' H':Hp)(S':Ft)(ρ':kA)(σ':St):Prop where
 ff:Same F F'
 hh:∀b u,H b=some u->¬ U ρ S b->H' b=some u
 dm:∀b,H' b=none->H b=none
 fn:∀b,F b=none->F' b≠none->U ρ S b∨H b=none
 uu:∀b,U ρ' S' b->U ρ S b∨H b=none
 sg:∀j∈C,σ'[j]?=σ[j]?
section
variable{K:QA}{Γ:Ev}{Ψ:PEv}{E:XE}{L:XK}{F H m p A G:Hp}{S S1 B:Ft}{ρ y X:kA}{σ g Y:St}{C J:LN}
section
variable{t:T}{Z:dB}{i:Nat}
theorem Stp.sts(s:Stp F H S ρ m p S1 y):Sts C J F H S ρ σ m p S1 y σ:=⟨s.ff,s.hh,s.dm,s.fn,s.uu,λj t _ e h=>let⟨z,x⟩:=s.bo j t e h;⟨z,x,rfl⟩,λ_ _=>rfl⟩
theorem Sts.refl:Sts C J F H S ρ σ F H S ρ σ:=Stp.refl.sts
theorem Sts.trans(a:Sts C J F H S ρ σ m p S1 y g)(b:Sts C [] m p S1 y g A G B X Y):Sts C J F H S ρ σ A G B X Y where
 ff:=a.ff.trans b.ff
 hh:=λx u h n=>b.hh x u (a.hh x u h n) λz=>by rcases a.uu x z with q|q;exact n q;rw[q]at h;cases h
 dm:=λx h=>a.dm x (b.dm x h)
 fn:=λx h z=>by
  by_cases q:m x=none;rcases b.fn x q z with w|w
  ·exact a.uu x w
  exact .inr (a.dm x w);exact a.fn x h q
 uu:=λx h=>by rcases b.uu x h with w|w;exact a.uu x w;exact .inr (a.dm x w)
 bo:=λj t v h n=>by obtain⟨r,o,l⟩:=b.bo j t (by simp) h n;obtain⟨f,e,k⟩:=a.bo j t v r n;exact⟨f,o.trans e,l.trans k⟩
 sg:=λj v=>(b.sg j v).trans (a.sg j v)
theorem Sts.c(s:Sts C J F H S ρ σ m p S1 y g):Stc C F H S ρ σ m p S1 y g:=⟨s.ff,s.hh,s.dm,s.fn,s.uu,s.sg⟩
theorem Stc.trans(a:Stc C F H S ρ σ m p S1 y g)(b:Stc C m p S1 y g A G B X Y):Stc C F H S ρ σ A G B X Y where
 ff:=a.ff.trans b.ff
 hh:=λx u h n=>b.hh x u (a.hh x u h n) λz=>by rcases a.uu x z with q|q;exact n q;rw[q]at h;cases h
 dm:=λx h=>a.dm x (b.dm x h)
 fn:=λx h z=>by
  by_cases q:m x=none;rcases b.fn x q z with w|w
  ·exact a.uu x w
  exact .inr (a.dm x w);exact a.fn x h q
 uu:=λx h=>by rcases b.uu x h with w|w;exact a.uu x w;exact .inr (a.dm x w)
 sg:=λj v=>(b.sg j v).trans (a.sg j v)
theorem OE.fromS(h:OE K F H S ρ E L)(s:Sts C J F H S ρ σ m p S1 y g):OE K m p S1 y E L:=λx k A G B X v f r q =>
 h x k A G (λ_ _=>False) [] ⟨s.ff.trans v.ff,λb u e n=>v.hh b u (s.hh b u e n) (λz=>(s.uu b z).elim n λw=>(by rw[w]at e;cases e)),λb e=>s.dm b (v.dm b e),λb e z=>by
  by_cases q:m b=none;rcases v.fn b q z with w|w
  ·exact s.uu b w
  exact .inr (s.dm b w);exact s.fn b e q,λb ⟨i,t,e,_⟩=>by simp at e,λj t e=>by simp at e⟩ f r q
structure EndsOk(K:QA)(C:LN)(F H:Hp)(S:Ft)(ρ:kA)(σ:St)(Z:PEnds)(Dn:Ends):Prop where
 nx:∀F' H' S' ρ' σ',Sts C [] F H S ρ σ F' H' S' ρ' σ'->Rl K F' H' S' ρ' σ'->Z.nx ρ'->Dn.nx σ' H'
 rt:∀v t W F' H' S' ρ' σ',Stc C F H S ρ σ F' H' S' ρ' σ'->Rl K F' H' S' ρ' σ'->Tr K F' H' true v t W->Held F' H' S' ρ' W->(∀b,W b->H b=none∨U ρ S b)->Z.rt t ρ'->Dn.rt v H'
 bk:∀F' H' S' ρ' σ',Sts C [] F H S ρ σ F' H' S' ρ' σ'->Rl K F' H' S' ρ' σ'->Z.bk ρ'->Dn.bk σ' H'
 ct:∀F' H' S' ρ' σ',Sts C [] F H S ρ σ F' H' S' ρ' σ'->Rl K F' H' S' ρ' σ'->Z.ct ρ'->Dn.ct σ' H'
theorem nv(s:Sts C J F H S ρ σ m p S1 y g){W:dB}(fr:∀b,W b->p b=none∨U y S1 b):∀b,W b->H b=none∨U ρ S b:=λb hb=>by rcases fr b hb with q|q;exact .inl (s.dm b q);exact(s.uu b q).symm
theorem EndsOk.from{Z:PEnds}{b:Ends}(ok:EndsOk K C F H S ρ σ Z b)(s:Sts C [] F H S ρ σ m p S1 y g):EndsOk K C m p S1 y g Z b :=
 ⟨λa k w z x u I q=>ok.nx a k w z x (s.trans u) I q,λv t W a k w z x u I r h fr q=>ok.rt v t W a k w z x (s.c.trans u) I r h (nv s fr) q,
  λa k w z x u I q=>ok.bk a k w z x (s.trans u) I q,λa k w z x u I q=>ok.ct a k w z x (s.trans u) I q⟩
theorem Sts.setD(s:Sts C J F H S ρ σ m p S1 y g)(i:Nat)(a:i∉C)(v:V)(k:t.isD=true)(Z:dB):Sts C J F H S ρ σ m p (FH S1 i Z) (y.set i (some (.vz t))) (g.set i (some v)) :=
 ⟨s.ff,s.hh,s.dm,s.fn,λb ⟨j,u,z,w⟩=>by
  rcases dA z with⟨_,e,_⟩| ⟨n,z⟩
  cases e;rw[JA (Q3 n)]at w;exact s.uu b ⟨j,u,z,w⟩,
 λj u h e x=>by
  rcases dA e with⟨_,e,_⟩| ⟨n,e⟩
  injection e with e;injection e with e;subst e;rw[k]at x;cases x;rw[JA (Q3 n),ED n];exact s.bo j u h e x,
 λj h=>by have n:i≠j:=λe=>a (e▸h);rw[ED n];exact s.sg j h⟩
theorem Rl.setD(I:Rl K F H S ρ σ)(i:Nat){v:V}{x:D}(r:Rep K F v x):Rl K F H (FH S i λ_=>False) (ρ.set i (bD x)) (σ.set i (some v)) :=
 I.setB i (.d r λ_ z=>z) λ_ _ _ _ _ z=>z.elim
theorem Rl.setN(I:Rl K F H S ρ σ)(i:Nat){v:V}(r:Tr K F H true v t Z)(w:∀(j:Nat) s,j≠i->ρ[j]?=some (some s)->∀b,Z b->¬ S j b):Rl K F H (FH S i Z) (ρ.set i (some (.own t))) (σ.set i (some v)) where
 fh:=I.fh
 len:=by simpa using I.len
 sl:=λj s h=>by
  rcases dA h with⟨rfl,e,hl⟩| ⟨a,h⟩
  cases e;exact⟨v,vX (by rw[<- I.len];exact hl),by rw[RA];exact r⟩;rw[ED a,JA (Q3 a)];exact I.sl j s h
 dj:=λj k f s n u x b hb hk=>by
  rcases dA u with⟨e,_,_⟩| ⟨l,u⟩
  subst e;rw[RA]at hb;rcases dA x with⟨e,_,_⟩| ⟨z,x⟩
  exact n e;rw[JA (Q3 z)]at hk;exact w k s (Q3 z) x b hb hk;rw[JA (Q3 l)]at hb;rcases dA x with⟨e,_,_⟩| ⟨z,x⟩
  subst e;rw[RA]at hk;exact w j _ n u b hk hb;rw[JA (Q3 z)]at hk;exact I.dj j k f s n u x b hb hk
theorem Sts.setN(s:Sts C J F H S ρ σ m p S1 y g)(i:Nat)(w:i∉C)(v:V)(t:T)(fr:∀b,Z b->H b=none∨U ρ S b):Sts C J F H S ρ σ m p (FH S1 i Z) (y.set i (some (.own t))) (g.set i (some v)) :=
 ⟨s.ff,s.hh,s.dm,s.fn,λb ⟨j,u,z,x⟩=>by
  rcases dA z with⟨rfl,_,_⟩| ⟨n,z⟩
  rw[RA]at x;exact(fr b x).symm;rw[JA (Q3 n)]at x;exact s.uu b ⟨j,u,z,x⟩,
 λj u h e k=>by
  rcases dA e with⟨_,e,_⟩| ⟨n,e⟩
  cases e;rw[JA (Q3 n),ED n];exact s.bo j u h e k,
 λj h=>by have n:i≠j:=λe=>w (e▸h);rw[ED n];exact s.sg j h⟩
theorem Rl.frz1(I:Rl K F H S ρ σ)(h:ρ[i]?=some (some (.own t))):Rl K (uJ F H (S i)) H (FH S i λ_=>False) (ρ.set i (bD t.er)) σ/\Sts C [] F H S ρ σ (uJ F H (S i)) H (FH S i λ_=>False) (ρ.set i (bD t.er)) σ:=by
 obtain⟨v,hv,r⟩:=I.sl i _ h;have k:=zH (H:=H) λb (hb:S i b)=>(r.dom b hb).2;have O:Rl K F H S (ρ.set i none) σ:=I.drop (by simp) λj s e=>by
  rcases dA e with⟨_,z,_⟩| ⟨_,e⟩
  cases z;exact e
 have l:Held F H S (ρ.set i none) (S i):=⟨r.dom,λj s e b hb z=>by
  rcases dA e with⟨_,q,_⟩| ⟨n,e⟩
  cases q;exact I.dj i j t s n h e b hb z⟩
 have N:=O.frz l;have f:Rep K (uJ F H (S i)) v t.er:=Tr.kept k r λb u hb e=>by rw[xJ hb];exact e
 have a:=N.setD i f;have M:(ρ.set i none).set i (bD t.er)=ρ.set i (bD t.er):=by simp
 have W:σ.set i (some v)=σ:=by apply wB;intro j;rw[wE];split;rename_i e;subst e;split;exact hv.symm;rename_i n;rw[Q7 (by omega)];rfl
 rw[M,W]at a;refine⟨a,⟨k,λb u e _=>e,λb e=>e,λb e z=>.inl ?_,λb ⟨j,u,x,w⟩=>.inl ?_,λj u _ e o=>?_,λ_ _=>rfl⟩⟩;by_cases hb:S i b
 ·exact⟨i,t,h,hb⟩
 rw[dC hb]at z;exact absurd e z;rcases dA x with⟨_,q,_⟩| ⟨n,x⟩
 ·cases q
 rw[JA (Q3 n)]at w;exact⟨j,u,x,w⟩;rcases dA e with⟨_,q,_⟩| ⟨n,e⟩
 ·injection q with q;injection q with q;subst q;cases o
 exact⟨e,JA (Q3 n),rfl⟩
theorem LZ{f:Option Sl->Option Sl}:ρ.modify i f=match ρ[i]? with|some o=>ρ.set i (f o)|none=>ρ:=by
 apply wB;intro j;rw[Wq];cases h:ρ[i]? with|none=>simp only;by_cases e:i=j;subst e;simp[h];simp[e]|some o=>simp only;rw[wE];by_cases e:i=j;subst e;obtain⟨hl,rfl⟩:=Qg.mp h;simp[hl];simp[e]
theorem jS{α:Type}{l:List α}{o:α}(h:l[i]?=some o):l.set i o=l:=by apply wB;intro j;rw[wE];split;rename_i e;subst e;rw[if_pos (Qg.mp h).1,h];rfl
theorem Rl.frzAt:∀(x:LN) {F:Hp}{S:Ft}{ρ:kA},Rl K F H S ρ σ->∃z S',Rl K z H S' (frzAt x ρ) σ/\Sts C [] F H S ρ σ z H S' (frzAt x ρ) σ
 |[],F,S,ρ,I=>⟨F,S,I,.refl⟩|i::x,F,S,ρ,I=>by
  have one:∃m S1,Rl K m H S1 (ρ.modify i yW) σ/\Sts C [] F H S ρ σ m H S1 (ρ.modify i yW) σ:=by
   rw[LZ];cases h:ρ[i]? with
   |none=>exact⟨F,S,I,.refl⟩|some o =>
    cases o with
    |none=>have e:ρ.set i (yW none)=ρ:=jS h;simp only[e];exact⟨F,S,I,.refl⟩|some u =>
     cases u with|vz t=>have e:ρ.set i (yW (some (.vz t)))=ρ:=jS h;simp only[e];exact⟨F,S,I,.refl⟩|own t=>exact⟨_,_,I.frz1 h⟩
  obtain⟨m,S1,a,w⟩:=one;obtain⟨A,B,k,v⟩:=Rl.frzAt x a;exact⟨A,B,k,w.trans v⟩
end
end
noncomputable def zK(C:LN):PT->Bool
 | .seq s r=>zK C s&&zK C r|.set i _=>!C.contains i|.own i _=>!C.contains i|.ife _ a b=>zK C a&&zK C b|.for_ x _ _ h=>x.ix.all (λi=>!C.contains i)&&zK C h|.nil=>true|.expr _=>true|.ret _=>true|.six _ _ _=>true|.sdf _ _=>true|.whl _ h=>zK C h|.frz _ s=>zK C s
section
variable{K:QA}{Γ:Ev}{Ψ:PEv}{E:XE}{N:XK}{F H D B F2 M:Hp}{S S1 O:Ft}{ρ A P:kA}{σ G R:St}{C J:LN}
theorem Sts.bind{L:LN}(s:Sts C J F H S ρ σ D B S1 A G)(b:Bd L D B S1 A G F2 M O P R)(v:∀j∈L,j∈J)(w:∀j∈L,j∉C):Sts C J F H S ρ σ F2 M O P R :=
 ⟨s.ff.trans b.ff,λx u e n=>b.hh x u (s.hh x u e n),λx e=>s.dm x (b.dm x e),λx e z=>by
  by_cases q:D x=none;exact .inr (s.dm x (b.fn x q z));exact s.fn x e q,λx u=>s.uu x (b.U u),λj t h e y=>by
  obtain⟨l,i,g⟩:=b.out j λz=>h (v j z);rw[l]at e;obtain⟨f,a,k⟩:=s.bo j t h e y;exact⟨f,i.trans a,g.trans k⟩,λj h=>(b.out j λz=>w j z h).2.2.trans (s.sg j h)⟩
theorem bY{g:Tg}{body:PEnds->kA->Prop}{tb:TS}{Z:PEnds}{o:Ends}{xs:List Item}{p:LT}{st:Hp->Prop}{Y:dB}
  (ib:∀{F H:Hp}{S:Ft}{ρ:kA}{σ:St}{Z:PEnds}{o:Ends},Rl K F H S ρ σ->OE K F H S ρ E N->body Z ρ->EndsOk K C F H S ρ σ Z o->tb o σ H)
  (I:Rl K F H S ρ σ) (X:OE K F H S ρ E N) (hC:∀j∈g.ix,j∉C) (pr:Paired (D1 K F H Y) xs p) (hy:∀b,Y b->¬ U ρ S b/\H b≠none/\F b=none) (hst:∀f k,Same F f->Same f k->(∀b,Y b->k b=H b)->st k) (h:IH body g Z p ρ)
  (onx:∀f k S' z w,Sts C g.ix F H S ρ σ f k S' z w->Rl K f k S' z w->Z.nx z->o.nx w k)
  (ort:∀v t W f k S' z w,Stc C F H S ρ σ f k S' z w->Rl K f k S' z w->Tr K f k true v t W->Held f k S' z W->(∀b,W b->H b=none∨U ρ S b)->Z.rt t z->o.rt v k):Al K xs st g tb o σ H:=by
 intro J hJ;have len:=qH pr;have yk:∀{D B:Hp}{S1:Ft}{A:kA}{G:St},Sts C g.ix F H S ρ σ D B S1 A G->∀b,Y b->B b=H b/\D b=none:=λ{D B S1 A G} s b hb=>by
  obtain⟨n,d1,d2⟩:=hy b hb;refine⟨?_,?_⟩;cases e:H b with|none=>exact absurd e d1|some u=>exact s.hh b u e n
  by_cases q:D b=none
  ·exact q
  exact((s.fn b d2 q).elim n d1).elim
 refine⟨λi m w k=>i<=xs.length/\m=xs.length - i/\∃z f S',Sts C g.ix F H S ρ σ f k S' z w/\Rl K f k S' z w/\IH body g Z (p.drop i) z,⟨_,Qt _,rfl,ρ,F,S,.refl,I,by simpa using h⟩,?_⟩;rintro i m G B ⟨hi,rfl,A,D,S1,L,I1,h1⟩;have hs:=hst D B L.ff I1.fh λb hb=>(yk L b hb).1;rcases QA2 i xs.length with l|hge;refine .inr ⟨hJ.go i B hs l,λw k=>i+1<=xs.length/\∃z f S',Sts C g.ix F H S ρ σ f k S' z w/\Rl K f k S' z w/\IH body g Z (p.drop (i+1)) z,λw k ⟨a,b⟩=>⟨_,by omega,a,rfl,b⟩,λx M hyl=>?_⟩;obtain⟨it,hx,hm⟩:=hJ.yld i B x M hs l hyl;obtain⟨y,hd,ry⟩:=Paired.get_of pr hx;rw[hd]at h1;unfold IH at h1;have key:L3.bindI K g it G B λR M=>tb { o with nx:=λw k=>i+1<=xs.length/\∃z f S',Sts C g.ix F H S ρ σ f k S' z w/\Rl K f k S' z w/\IH body g Z (p.drop (i+1)) z,ct:=λw k=>i+1<=xs.length/\∃z f S',Sts C g.ix F H S ρ σ f k S' z w/\Rl K f k S' z w/\IH body g Z (p.drop (i+1)) z,bk:=o.nx } R M:=by
  refine bU I1 (λb hb u=>?_) (ry.mono L.ff (yk L)) h1 λP R F2 H3 O bd I2 h2=>?_;rcases L.uu b u with q|q
  ·exact(hy b hb).1 q
  exact(hy b hb).2.1 q;have s2:=L.bind bd (λj hj=>hj) hC;exact ib I2 (X.fromS s2) h2 ⟨λf k S' z w Q I' q=>⟨l,z,f,S',s2.trans Q,I',q⟩,λv t W f k S' z w Q I' r hw fr q=>ort v t W f k S' z w (s2.c.trans Q) I' r hw (nv s2 fr) q,
   λf k S' z w Q I' q=>onx f k S' z w (s2.trans Q) I' q,λf k S' z w Q I' q=>⟨l,z,f,S',s2.trans Q,I',q⟩⟩
 exact YN hm key;have e:p.drop i=[]:=WX (by omega);rw[e]at h1;exact .inl ⟨hJ.stop i B hs hge,onx D B S1 A G L I1 h1⟩
theorem bG:∀(J:LN) (ρ:kA) (i:Nat) s,(kill J ρ)[i]?=some (some s)->ρ[i]?=some (some s)/\(i∈J->∀t,s=.vz t->t.isD=true)
 |[],ρ,i,s,h=>⟨h,λz=>by simp at z⟩|j::J,ρ,i,s,h=>by
  unfold kill at h;obtain⟨x,w⟩:=bG J _ i s h;rw[Wq]at x;by_cases e:j=i;subst e;simp only[reduceIte]at x;cases q:ρ[j]? with
  |none=>rw[q]at x;cases x|some o =>
   rw[q]at x;have x:xN o=some s:=by simpa using x
   cases o with
   |none=>cases x|some v =>
    cases v with
    |own t=>cases x;exact⟨rfl,λ_ u z=>by cases z⟩|vz t =>
     have x:(if t.isD=true then some (Sl.vz t) else none)=some s:=x;cases y:t.isD with|true=>rw[y,if_pos rfl]at x;cases x;exact⟨rfl,λ_ u z=>by cases z;exact y⟩|false=>rw[y]at x;simp at x
  simp only[e,if_false]at x;refine⟨by simpa using x,λm=>w ((QL.mp m).elim (λz=>absurd z.symm e) id)⟩
theorem vN:∀(J:LN) (ρ:kA),(kill J ρ).length=ρ.length
 |[],_=>rfl|j::J,ρ=>by unfold kill;rw[vN J];simp
theorem Sts.kill(s:Sts C J F H S ρ σ D B S1 A G):Sts C [] F H S ρ σ D B S1 (L3.kill J A) G :=
 ⟨s.ff,s.hh,s.dm,s.fn,λb ⟨i,t,y,x⟩=>s.uu b ⟨i,t,(bG J A i _ y).1,x⟩,λj t _ e h=>by obtain⟨y,x⟩:=bG J A j _ e;by_cases z:j∈J;rw[x z t rfl]at h;cases h;exact s.bo j t z y h,s.sg⟩
theorem OS:∀(L:LN) (ρ:kA) (j:Nat),(lock L ρ)[j]?=if j∈L then ρ[j]?.map xG else ρ[j]?
 |[],ρ,j=>by simp[lock]|i::L,ρ,j=>by
  have x:∀o,xG (xG o)=xG o:=λo=>by
   match o with
   |none=>rfl|some (.own _)=>rfl|some (.vz _)=>rfl
  unfold lock;rw[OS L,Wq];by_cases e:i=j;subst e;cases h:ρ[i]? with|none=>simp|some o=>simp[x]
  have y:¬ j=i:=λz=>e z.symm;simp[e,y]
theorem NS:∀(L:LN) (ρ:kA),(lock L ρ).length=ρ.length
 |[],_=>rfl|i::L,ρ=>by unfold lock;rw[NS L];simp
theorem jM:∀(L:LN) (x ρ:kA) (j:Nat),(∀i∈L,i<ρ.length)->(YC L x ρ)[j]?=if j∈L then some (x[j]?.getD none) else ρ[j]?
 |[],x,ρ,j,_=>by simp[YC]|i::L,x,ρ,j,h=>by unfold YC;rw[jM L x _ j (λk hk=>by simpa using h k (QD _ hk)),wE];by_cases e:i=j;subst e;simp[h i QF];have y:¬ j=i:=λz=>e z.symm;simp[e,y]
theorem EL:∀(L:LN) (h ρ:kA),(YC L h ρ).length=ρ.length
 |[],_,_=>rfl|i::L,h,ρ=>by unfold YC;rw[EL L];simp
theorem OH{ρ:kA}:∀(x:LN),∀i∈vC ρ x,∃t,ρ[i]?=some (some (.own t))
 |[],i,h=>by simp[vC]at h|j::x,i,h=>by
  unfold vC at h;split at h
  ·rename_i ho
   rcases QL.mp h with e|e
   ·subst e
    unfold OM at ho;split at ho;rename_i t e;exact⟨t,e⟩
    all_goals cases ho
   exact OH x i e
  exact OH x i h
theorem NM{ρ:kA}{i:Nat}{t:T}(h:ρ[i]?=some (some (.own t))):∀(x:LN),i∈x->i∈vC ρ x
 |[],hi=>by simp at hi|j::x,hi=>by
  unfold vC;rcases QL.mp hi with e|e;subst e;have:OM ρ[i]?=true:=by rw[h];rfl
  rw[if_pos this];exact QF;have:=NM h x e;split;exact QD _ this;exact this
section
variable{L:LN}(y:∀i∈L,∃t,ρ[i]?=some (some (.own t)))
include y
theorem kL{i:Nat}{s:Sl}(h:(lock L ρ)[i]?=some (some s)):(i∈L/\∃t,ρ[i]?=some (some (.own t))/\s=.vz t)∨(i∉L/\ρ[i]?=some (some s)):=by rw[OS]at h;by_cases x:i∈L;rw[if_pos x]at h;obtain⟨t,e⟩:=y i x;rw[e]at h;injection h with h;injection h with h;exact .inl ⟨x,t,e,h.symm⟩;rw[if_neg x]at h;exact .inr ⟨x,h⟩
theorem cF{b:Addr}(h:U (lock L ρ) S b):U ρ S b:=by
 obtain⟨i,t,x,z⟩:=h;rcases kL y x with⟨_,u,_,e⟩| ⟨_,x⟩
 cases e;exact⟨i,t,x,z⟩
theorem Rl.lock(I:Rl K F H S ρ σ):Rl K F H S (L3.lock L ρ) σ where
 fh:=I.fh
 len:=by rw[NS];exact I.len
 sl:=λi s e=>by
  rcases kL y e with⟨_,t,h,rfl⟩| ⟨_,h⟩
  obtain⟨v,u,x⟩:=I.sl i _ h;exact⟨v,u,x.weak⟩;exact I.sl i s h
 dj:=λi j t s n k w=>by
  rcases kL y k with⟨_,_,_,z⟩| ⟨_,u⟩
  cases z;rcases kL y w with⟨_,a,x,_⟩| ⟨_,x⟩
  ·exact I.dj i j t _ n u x
  exact I.dj i j t s n u x
theorem Rl.lockU(I:Rl K F H S ρ σ){i:Nat}(x:i∈L){b:Addr}(hb:S i b):¬ U (L3.lock L ρ) S b:=λ⟨j,t,h,v⟩=>by
 obtain⟨w,e⟩:=y i x;rcases kL y h with⟨_,_,_,z⟩| ⟨u,h⟩
 cases z;exact I.dj j i t _ (λz=>u (z▸x)) h e b v hb
theorem FY(I:Rl K F H S ρ σ)(s:Sts C [] F H S (lock L ρ) σ D B S1 A G)(W:Rl K D B S1 A G)(hl:∀i∈L,A[i]?=ρ[i]?.map xG) :
  ∃O,Rl K D B O (YC L ρ A) G/\Sts C [] F H S ρ σ D B O (YC L ρ A) G:=by
 classical
 have l1:∀i∈L,∃t,ρ[i]?=some (some (.own t))/\A[i]?=some (some (.vz t)):=λi h=>by obtain⟨t,e⟩:=y i h;have:=hl i h;rw[e]at this;exact⟨t,e,this⟩
 have hlt:∀i∈L,i<A.length:=λi h=>by obtain⟨t,_,e⟩:=l1 i h;exact(Qg.mp e).1
 let O:Ft:=λi=>if i∈L then S i else S1 i
 have l:∀i∈L,O i=S i:=λi h=>if_pos h;have g:∀i,i∉L->O i=S1 i:=λi h=>if_neg h;have get:∀i a,(YC L ρ A)[i]?=some (some a)->(i∈L/\∃t,ρ[i]?=some (some (.own t))/\A[i]?=some (some (.vz t))/\a=.own t)∨(i∉L/\A[i]?=some (some a)):=λi a e=>by rw[jM L ρ A i hlt]at e;by_cases h:i∈L;rw[if_pos h]at e;obtain⟨t,f,Y⟩:=l1 i h;rw[f]at e;injection e with e;have e:some (Sl.own t)=some a:=e;injection e with e;exact .inl ⟨h,t,f,Y,e.symm⟩;rw[if_neg h]at e;exact .inr ⟨h,e⟩
 have Q:∀i∈L,∀k a,k∉L->A[k]?=some (some a)->∀b,S i b->¬ S1 k b:=λi h k a hk e b hb z=>by
  obtain⟨t,f,_⟩:=l1 i h;cases a with
  |own u=>rcases s.uu b ⟨k,u,e,z⟩ with q|q;exact I.lockU y h hb q;exact(I.dom f hb).1 q
  |vz u =>
   cases o:u.isD with
   |true=>exact W.isD e o z|false =>
    obtain⟨m,p,_⟩:=s.bo k u (by simp) e o;rw[p]at z;rcases kL y m with⟨q,_⟩| ⟨_,m⟩
    exact hk q;exact I.dj i k t _ (λq=>hk (q▸h)) f m b hb z
 refine⟨O,⟨W.fh,by rw[EL];exact W.len,λi a e=>?_,λi k t a n f Y b hb hk=>?_⟩,⟨s.ff,λb u e n=>s.hh b u e λz=>n (cF y z),s.dm,λb e z=>(s.fn b e z).imp (cF y) id,λb ⟨i,t,h1,h2⟩=>?_,λj t _ e o=>?_,s.sg⟩⟩;rcases get i a e with⟨h,t,f,Y,rfl⟩| ⟨h,f⟩
 ·rw[l i h]
  obtain⟨v,m,p⟩:=I.sl i _ f;cases o:t.isD with
  |true =>
   obtain⟨v',g3,g4⟩:=W.sl i _ Y;refine⟨v',g3,?_⟩;have nb:∀b,¬ S i b:=λb=>I.isD f o;cases t with
   |d x =>
    have g4:Tr K D B false v' (.d x) (S1 i):=g4;cases g4 with|d r _=>exact .d r nb
   |_=>cases o
  |false =>
   obtain⟨_,_,g5⟩:=s.bo i t (by simp) Y o;refine⟨v,g5.trans m,?_⟩;have p:Tr K F H true v t (S i):=p;refine p.mono s.ff λb hb=>?_;obtain⟨d1,d2⟩:=p.dom b hb;have nu:=I.lockU y h hb;refine⟨?_,?_⟩;cases eb:H b with|none=>exact absurd eb d1|some u=>exact s.hh b u eb nu
   by_cases q:D b=none
   ·exact q
   exact((s.fn b d2 q).elim nu d1).elim
 rw[g i h];exact W.sl i a f;rcases get i _ f with⟨h,t',X,a2,_⟩| ⟨h,X⟩
 ·rw[l i h]at hb
  rcases get k a Y with⟨w,t2,Z,b2,_⟩| ⟨w,Z⟩
  rw[l k w]at hk;exact I.dj i k t' _ n X Z b hb hk;rw[g k w]at hk;exact Q i h k a w Z b hb hk
 rw[g i h]at hb;rcases get k a Y with⟨w,t2,Z,b2,_⟩| ⟨w,Z⟩
 rw[l k w]at hk;exact Q k w i _ h X b hk hb;rw[g k w]at hk;exact W.dj i k t a n X Z b hb hk;rcases get i _ h1 with⟨h,t',X,a2,_⟩| ⟨h,X⟩
 ·rw[l i h]at h2
  exact .inl ⟨i,t',X,h2⟩
 rw[g i h]at h2;exact(s.uu b ⟨i,t,X,h2⟩).imp (cF y) id;rcases get j _ e with⟨_,_,_,_,z⟩| ⟨hj,f⟩
 ·cases z
 obtain⟨m,p,g3⟩:=s.bo j t (by simp) f o;rcases kL y m with⟨q,_⟩| ⟨_,m⟩
 exact absurd q hj;exact⟨m,(g j hj).trans p,g3⟩
end
theorem sQ{i:Nat}(h:(!C.contains i)=true):i∉C:=λz=>by have:C.contains i=true:=Qq.mpr z;rw[this]at h;cases h
theorem k6{x:LN}(h:(x.all λi=>!C.contains i)=true):∀i∈x,i∉C:=λi y=>sQ (Q4.mp h i y)
theorem eY:∀{xs:List (T×Bool)},sR xs=true->∀t∈vO xs,t.isD=true
 |[],_,t,h=>by simp[vO]at h|p::r,h,t,y=>by
  simp only[sR,QW]at h;simp only[vO,QL]at y;rcases y with rfl|y;obtain⟨x,n⟩:=p;cases n with
  |true=>rfl|false =>
   have z:=h.1;cases x with|d x=>rfl|_=>cases z
  exact eY h.2 t y
theorem Tn.bare{Y:dB}{vs:LV}{ts:LT}(h:Tn K F H Y vs ts):(∀t∈ts,t.isD=true)->Tn K F H (λ_=>False) vs ts:=by
 induction h with
 |nil=>exact λ_=>.nil|@cons v t vs ts Z r z a w =>
  intro y;refine .cons (Z:=λ_=>False) ?_ (λ_ z=>z) (w λu k=>y u (QD _ k));have y:=y t QF;cases t with
  |d x=>cases r with|d q _=>exact .d q λ_ z=>z
  |_=>cases y
theorem B4{v:V}{t:T}{W:dB}{Z:PEnds}{h:Ends}(ok:EndsOk K C F H S ρ σ Z h)(s:Ste F H S ρ D B S1 A)(I:Rl K D B S1 A σ)(r:Tr K D B true v t W)(x:Held D B S1 A W)(fr:∀b,W b->H b=none∨U ρ S b)(q:Z.rt t A):h.rt v B :=
 ok.rt v t W D B S1 A σ (s.toStp.sts (J:=[])).c I r x fr q
theorem ya(g:GOk K Γ Ψ):∀(e:PX) {F H:Hp}{S:Ft}{ρ:kA}{σ:St}{Z:PEnds}{k:Ends},Rl K F H S ρ σ->OE K F H S ρ E N->cH Ψ E Z.rt e ρ->EndsOk K C F H S ρ σ Z k->(wp K Γ e N).e σ H k.rt:=by
  intro e F H S ρ σ Z k I X h ok;have f:∀e,(pe Ψ e E).e ρ (λx n A=>YH x n=true/\Z.rt x A)->(wp K Γ e N).e σ H k.rt:=λe h=>by refine(SA g e).e (Q:=λx n A=>YH x n=true/\Z.rt x A) I X h λv F' H' S' l x n Za s J r ⟨Y,q⟩=>?_;obtain⟨W,m,o,fr⟩:=r.strict Y;exact B4 ok s J m o fr q
  cases e with
  |zz i =>
   have y:fu ρ i Z.rt ρ[i]?:=h;show(match σ[i]? with|some (some v)=>k.rt v _|_=>False)
   match a:ρ[i]?,y with
   |some (some (.own t)),y =>
    obtain⟨v,w,r⟩:=I.sl i _ a;rw[w];have I0:Rl K F H S (ρ.set i none) σ:=I.drop (by simp) λj s e=>by
     rcases dA e with⟨_,z,_⟩| ⟨_,e⟩
     cases z;exact e
    refine ok.rt v t (S i) F H S (ρ.set i none) σ ⟨.refl _,λb u e _=>e,λb e=>e,λb e z=>absurd e z,λb ⟨j,u,w,L⟩=>.inl ?_,λ_ _=>rfl⟩ I0 r ⟨r.dom,λj s e b hb z=>?_⟩ (λb hb=>.inr ⟨i,t,a,hb⟩) y;rcases dA w with⟨_,z,_⟩| ⟨_,w⟩
    ·cases z
    exact⟨j,u,w,L⟩;rcases dA e with⟨_,q,_⟩| ⟨n,e⟩
    ·cases q
    exact I.dj i j t s n a e b hb z
   |some (some (.vz t)),y =>
    obtain⟨v,w,r⟩:=I.sl i _ a;rw[w];obtain⟨p,y⟩:=y;cases t with
    |d x =>
     have r:Tr K F H false v (.d x) (S i):=r;cases r with|d q n=>exact B4 (W:=λ_=>False) ok .refl I (.d q λ_ z=>z) .none (λ_ z=>z.elim) y
    |_=>cases p
   |some none,y=>exact y.elim|none,y=>exact y.elim
  |_=>exact f _ h
theorem BI(g:GOk K Γ Ψ):∀(p:PT) {F H:Hp}{S:Ft}{ρ:kA}{σ:St}{Z:PEnds}{Dn:Ends},zK C p=true->Rl K F H S ρ σ->OE K F H S ρ E N->aB Ψ E p Z ρ->EndsOk K C F H S ρ σ Z Dn->UR K Γ N p Dn σ H
 | .nil,_,_,_,_,_,_,_,c,I,X,h,ok=>ok.nx _ _ _ _ _ .refl I h|.seq s r,_,_,_,_,_,_,_,c,I,X,h,ok=>by obtain⟨c1,c2⟩:=yA c;exact BI g s c1 I X h ⟨λF' H' S' L σ' s' J q=>BI g r c2 J (X.fromS s') q (ok.from s'),ok.rt,ok.bk,ok.ct⟩|.set i e,F,H,S,ρ,σ,Z,Dn,c,I,X,h,ok=>by have hi:=sQ c;refine GF (RR:=λx B=>Dn.nx (σ.set i (some x)) B) (SA g e) I X h λv F' H' S' L x n Za s J X' r er _ ⟨he,q⟩=>?_;exact ok.nx _ _ _ _ _ (s.toStp.sts.setD i hi v rfl _) (J.setD i (er he)) q|.expr e,F,H,S,ρ,σ,Z,Dn,c,I,X,h,ok=>(SA g e).e I X h λv F' H' S' L x n Za s J r q=>ok.nx _ _ _ _ _ s.toStp.sts J q|.ret e,F,H,S,ρ,σ,Z,Dn,c,I,X,h,ok=>ya g e I X h ok|.ife t a b,F,H,S,ρ,σ,Z,Dn,c,I,X,h,ok=>by
  obtain⟨c1,c2⟩:=yA c;refine(SA g t).t I X h λk F' H' S' L s J q=>?_;cases k with|true=>exact BI g a c1 J (X.from s.toStp) q (ok.from s.toStp.sts)|false=>exact BI g b c2 J (X.from s.toStp) q (ok.from s.toStp.sts)
 | .for_ tg ik its body,F,H,S,ρ,σ,Z,Dn,c,I,X,h,ok=>by
  obtain⟨c1,c2⟩:=yA c;have hC:=k6 c1;refine BW (RR:=λvs B=>cC K ik vs B λxs st M=>Al K xs st tg (UR K Γ N body) Dn σ M) (SA g its) I X h λvs D B S1 A xs Y s1 I1 X1 tn tm q=>?_;rw[PL _ rfl]at q;have ok1:=ok.from s1.toStp.sts;cases ha:sR xs with
  |true=>have tn':=tn.bare (eY ha);refine xK I1.fh tn' q λits ys st pr hst hc=>?_;rw[ha,if_pos rfl]at hc;refine bY (λI X h ok=>BI g body c2 I X h ok) I1 X1 hC pr (λb z=>z.elim) hst hc ?_ ?_;exact λF' H' S' L σ' s' I' q=>ok1.nx _ _ _ _ _ s'.kill (I'.drop (vN _ _) λi sl e=>(bG _ _ i sl e).1) q;exact λv t W F' H' S' L σ' s' I' r hw fr q=>ok1.rt v t W F' H' S' L σ' s' I' r hw fr q|false =>
   refine xK I1.fh tn q λits' ys st pr hst hc=>?_;rw[ha,if_neg (by simp)]at hc;have hL:=OH (ρ:=A) (xH its);have IL:=I1.lock hL;have sL:Sts C [] D B S1 A σ D B (λ_ _=>False) [] σ:=⟨.refl _,λb u e _=>e,λb e=>e,λb e z=>absurd e z,λb ⟨i,t,e,_⟩=>by simp at e,λj t _ e=>by simp at e,λ_ _=>rfl⟩
   have XL:OE K D B S1 (lock (vC A (xH its)) A) E N:=λx dx F2 M O P s2 f r q =>
    X1 x dx F2 M (λ_ _=>False) [] ⟨s2.ff,λb u e n=>s2.hh b u e λz=>n (cF hL z),s2.dm,λb e z=>(s2.fn b e z).imp (cF hL) id,λb ⟨i,t,e,_⟩=>by simp at e,λj t e=>by simp at e⟩ f r q
   refine bY (λI X h ok=>BI g body c2 I X h ok) IL XL hC pr (λb hb=>?_) hst hc ?_ ?_;obtain⟨i,sl,h1,h2,h3⟩:=tm b hb;refine⟨λu=>?_,I1.dom h2 h3⟩;cases sl with
   |own t=>exact I1.lockU hL (NM h2 _ h1) h3 u|vz t =>
    obtain⟨j,t',e1,e2⟩:=u;rcases kL hL e1 with⟨_,_,_,z⟩| ⟨_,e1⟩
    cases z;exact I1.dj j i t' _ (λz=>by subst z;rw[h2]at e1;cases e1) e1 h2 b e2 h3
   intro F' H' S' L σ' s' I' ⟨q1,q2⟩;have sk:=s'.kill;have Ik:=I'.drop (vN tg.ix L) λi sl e=>(bG _ _ i sl e).1;obtain⟨O,I2,s2⟩:=FY hL I1 sk Ik λi hi=>(q1 i hi).2;exact ok1.nx _ _ _ _ _ s2 I2 q2;intro v t W F' H' S' L σ' s' I' r hw fr q;exact ok1.rt v t W F' H' S' L σ' ⟨s'.ff,λb u e n=>s'.hh b u e λz=>n (cF hL z),s'.dm,λb e z=>(s'.fn b e z).imp (cF hL) id,λb u=>(s'.uu b u).imp (cF hL) id,s'.sg⟩ I' r hw (λb hb=>(fr b hb).imp id (cF hL)) q
 | .own i e,F,H,S,ρ,σ,Z,Dn,c,I,X,h,ok=>by refine(SA g e).e (Q:=λx n A=>YH x n=true/\Z.nx (A.set i (some (.own x)))) I X h λv F' H' S' L x n Za s J r ⟨he,q⟩=>?_;obtain⟨W,r2,hw,fr⟩:=r.strict he;exact ok.nx _ _ _ _ _ (s.toStp.sts.setN i (sQ c) v x fr) (J.setN i r2 λj sl _ e b hb=>hw.nw j sl e b hb) q|.six o i e,F,H,S,ρ,σ,Z,Dn,c,I,X,h,ok=>by
  have later:∀{j:Nat}{t:T}{v0:V},ρ[j]?=some (some (.own t))->Tr K F H true v0 t (S j)->∀{F' H':Hp}{S':Ft}{L:kA},Ste F H S (ρ.set j (some (.vz t))) F' H' S' L->Tr K F' H' true v0 t (S j)/\∀b,S j b->H' b=H b:=λ{j t v0} hj r0 {F' H' S' L} s=>⟨s.toStp.keep r0 (I.lock1U hj),λb hb=>by
   cases e:H b with|none=>exact absurd e (r0.dom b hb).1|some u=>exact s.hh b u e (I.lock1U hj b hb)⟩
  cases o with
  |zz j =>
   have h:OC ρ[j]? _:=h;unfold OC at h;split at h;rename_i t hj;obtain⟨v0,hv,r0⟩:=I.sl j _ hj;have r0:Tr K F H true v0 t (S j):=r0;show(wp K Γ e N).e σ H λv B=>(wp K Γ (.zz j) N).e σ B λov M=>(wp K Γ i N).e σ M λiv H3=>zS K ov iv v H3 λH4=>Dn.nx σ H4;refine GF (SA g e) (I.lock1 hj) (X.lock1 hj) h λxv D B S1 A x n Zx s1 I1 X1 _ er1 _ ⟨he,q1⟩=>?_;have rx:=er1 he;show(match σ[j]? with|some (some v)=>_|_=>False);rw[hv];refine GF (SA g i) I1 X1 q1 λiv F2 M O P y m Zy s2 I2 X2 _ er2 _ ⟨he2,hj2,q2⟩=>?_;have s12:=s1.trans s2;refine G3 I2.fh (later hj r0 s12).1 (er2 he2) (rx.mono s2.ff) q2 λt' H3 S3 hh dm rt sub q=>?_;obtain⟨st,I3,_⟩:=XI (W:=λ_=>False) I hj hv s12 I2 hh dm rt (λb hb=>.inl (sub b hb)) .none (λ_ z=>z.elim);exact ok.nx _ _ _ _ _ st.toStp.sts I3 q
   all_goals exact h.elim
  |idx a k =>
   cases a with
   |zz j =>
    have h:OC ρ[j]? _:=h;unfold OC at h;split at h;rename_i t hj;obtain⟨v0,hv,r0⟩:=I.sl j _ hj;have r0:Tr K F H true v0 t (S j):=r0;show(wp K Γ e N).e σ H λv B=>(wp K Γ (.zz j) N).e σ B λov M=>(wp K Γ k N).e σ M λzv H3=>bZ K ov zv H3 λow H4=>(wp K Γ i N).e σ H4 λiv H5=>zS K ow iv v H5 λH6=>Dn.nx σ H6;refine GF (SA g e) (I.lock1 hj) (X.lock1 hj) h λxv D B S1 A x n Zx s1 I1 X1 _ er1 _ ⟨he,q1⟩=>?_;have rx:=er1 he;show(match σ[j]? with|some (some v)=>_|_=>False);rw[hv];refine GF (SA g k) I1 X1 q1 λzv F2 M O P z l Zz s2 I2 X2 _ er2 _ ⟨hez,b,ks,ts,n,s,et,hk,hf,ht,q2⟩=>?_;have s12:=s1.trans s2;have rz:=er2 hez;subst et;obtain⟨r2,k2⟩:=later hj r0 s12;obtain⟨a,o,vs,ea,ho,dk,hw⟩:∃a o vs,v0=.ref a/\M a=some o/\CK K F2 b o ks vs/\∃w,vs[n]?=some w/\S j a:=by
     cases r2 with|dct h1 dk h2 h3 h4 h5=>obtain⟨w,_,g1,_⟩:=h3.get ht;exact⟨_,_,_,rfl,h1,dk,w,g1,(h5 _).mpr (.inl rfl)⟩
    obtain⟨w,hw,sa⟩:=hw;subst ea;have gd:=(dk.mono I2.fh).get ho (rz.mono I2.fh) hk;rw[hf]at gd;have gd:iR K M a zv (vs[n]?):=gd;rw[hw]at gd;have fin:(wp K Γ i N).e σ M λiv H5=>zS K w iv xv H5 λH6=>Dn.nx σ H6:=by
     refine GF (SA g i) I2 X2 q2 λiv F3 H3 S3 ρ3 y m Zy s3 I3 X3 _ er3 _ ⟨he3,hj3,q3⟩=>?_;have s13:=s12.trans s3;obtain⟨r3,k3⟩:=later hj r0 s13;have ho3:H3 a=some o:=by rw[k3 a sa,<- k2 a sa];exact ho
     refine K9 I3.fh r3 ho3 dk hw ht (er3 he3) ((rx.mono s2.ff).mono s3.ff) q3 λt' H4 S4 hh dm rt sub q=>?_;obtain⟨st,I4,_⟩:=XI (W:=λ_=>False) I hj hv s13 I3 hh dm rt (λb hb=>.inl (sub b hb)) .none (λ_ z=>z.elim);exact ok.nx _ _ _ _ _ st.toStp.sts I4 q
    cases zv with|str z=>exact⟨w,gd,fin⟩|ref c=>exact⟨w,gd,fin⟩|_=>exact gd.elim
    all_goals exact h.elim
   |_=>exact h.elim
  |_=>exact h.elim
 | .sdf j k,F,H,S,ρ,σ,Z,Dn,c,I,X,h,ok=>by
  have h:OC ρ[j]? _:=h;unfold OC at h;split at h;rename_i t hj;obtain⟨v0,hv,r0⟩:=I.sl j _ hj;have r0:Tr K F H true v0 t (S j):=r0;obtain⟨hd,h⟩:=h;show(match σ[j]? with|some (some v)=>L1 K "dict" v H/\(wp K Γ k N).e σ H λx B=>∀p,B p=none->UL K v [x,.ref p] (DA B p (.dT 0 [])) λ_ M=>Dn.nx σ M|_=>False);rw[hv];constructor;cases r0 with
  |@dct _ b _ _ _ _ _ _ _ h1 dk _ _ _ _ =>
   cases b with|true=>obtain⟨ep,kvs,rfl,_⟩:=dk;exact .inr (.inr (.inl ⟨rfl,.inr ⟨ep,kvs,h1⟩⟩))|false=>cases hd
  |_=>cases hd
  refine GF (SA g k) (I.lock1 hj) (X.lock1 hj) h λiv D B S1 A y m Zy s1 I1 X1 _ er _ ⟨he,hj1,q1⟩=>?_;intro p hp;have r1:=s1.toStp.keep r0 (I.lock1U hj);refine Gh I1.fh hp r1 (er he) q1 λt' H3 S3 hh dm rt sub q=>?_;obtain⟨st,I3,_⟩:=XI (W:=λ_=>False) I hj hv s1 I1 hh dm rt (λb hb=>(sub b hb).imp id λ(z:b=p)=>.inr (by rw[z];exact hp)) .none (λ_ z=>z.elim);exact ok.nx _ _ _ _ _ st.toStp.sts I3 q
  all_goals exact h.elim
 | .whl t body,F,H,S,ρ,σ,Z,Dn,c,I,X,h,ok=>by
  obtain⟨W,⟨m0,w0⟩,turn⟩:=h;refine⟨λm σ' H'=>∃L F' S',Sts C [] F H S ρ σ F' H' S' L σ'/\Rl K F' H' S' L σ'/\W m L,⟨m0,ρ,F,S,.refl,I,w0⟩,?_⟩;rintro m G B ⟨A,D,S1,s1,I1,w1⟩;refine(SA g t).t I1 (X.fromS s1) (turn m A w1) λk F' H' S' L s' J q=>?_;have s2:=s1.trans s'.toStp.sts;cases k with
  |false=>exact ok.nx _ _ _ _ _ s2 J q|true =>
   refine⟨λσ' H'=>∃m',m' < m/\∃L F' S',Sts C [] F H S ρ σ F' H' S' L σ'/\Rl K F' H' S' L σ'/\W m' L,λ_ _ z=>z,?_⟩;refine BI g body c J (X.fromS s2) q ⟨?_,?_,?_,?_⟩;exact λF' H' S' L σ' s' I' ⟨m',hm,w⟩=>⟨m',hm,L,F',S',s2.trans s',I',w⟩
   exact λv t W F' H' S' L σ' s' I' r hw fr q=>ok.rt v t W F' H' S' L σ' (s2.c.trans s') I' r hw (nv s2 fr) q;exact λF' H' S' L σ' s' I' q=>ok.nx _ _ _ _ _ (s2.trans s') I' q;exact λF' H' S' L σ' s' I' ⟨m',hm,w⟩=>⟨m',hm,L,F',S',s2.trans s',I',w⟩
 | .frz is s,F,H,S,ρ,σ,Z,Dn,c,I,X,h,ok=>by obtain⟨F',S',I',s'⟩:=I.frzAt (C:=C) is;exact BI g s c I' (X.fromS s') h (ok.from s')
end
section
variable{z:Ev}{n:Need}
noncomputable def ut(x:Str)(n:String):Bool:=(x==("bool":Str)&&n == "bool")||(x==("int":Str)&&n == "int")||(x==("str":Str)&&n == "str")||(x==("list":Str)&&n == "list")||(x==("tuple":Str)&&n == "tuple")||(x==("ValueError":Str)&&n == "ValueError")
theorem nh{x:Str}{n:String}(h:ut x n=true):bootBuiltins x=some (.type n):=by simp only[ut,wX,QW,beq_iff_eq]at h;rcases h with((((⟨rfl,rfl⟩| ⟨rfl,rfl⟩)|⟨rfl,rfl⟩)|⟨rfl,rfl⟩)|⟨rfl,rfl⟩)|⟨rfl,rfl⟩<;>kernel_rfl
structure Need where
 fn:LS
 va:LS
 no:LS
noncomputable def Fu(n:Need):ItK->Bool
 | .val=>true|.rng1=>n.no.contains ("range":Str)|.enum=>n.no.contains ("enumerate":Str)|.rev=>n.no.contains ("reversed":Str)|.itm=>true
noncomputable def gB(n:Need):PX->Bool
 | .glo x=>n.va.contains x|.bty x t=>n.no.contains x&&ut x t|.bin _ a b | .cmp _ a b | .and a b | .or a b | .idx a b | .nz a b | .dsp a b=>gB n a&&gB n b
 | .not a | .lst a | .tup a=>gB n a
 | .lrv a=>n.no.contains "list" && (n.no.contains "reversed" && gB n a)|.slc a b c=>gB n a&&(gB n b&&gB n c)|.call f y=>n.fn.contains f&&gB n y|.bi f y=>n.no.contains f.nm&&gB n y|.isi a c=>n.no.contains ("isinstance":Str)&&(gB n a&&gB n c)|.mt _ o y=>gB n o&&gB n y|.comp _ _ _ w u h v=>Fu n w&&(gB n u&&(gB n h&&gB n v))|_=>true
noncomputable def uF(n:Need):PT->Bool
 | .seq s r=>uF n s&&uF n r|.set _ e=>gB n e|.own _ e=>gB n e|.expr e=>gB n e|.ret e=>gB n e|.ife c a b=>gB n c&&(uF n a&&uF n b)|.for_ _ y x h=>Fu n y&&(gB n x&&uF n h)|.six o i e=>gB n o&&(gB n i&&gB n e)|.sdf i k=>gB n (En i k)|.whl c b=>gB n c&&uF n b|.frz _ s=>uF n s|.nil=>true
def EQ(z:Ev)(n:Need):Glob:=⟨z,λf=>f∈n.fn,λx=>x∈n.va,λx=>x∈n.no⟩
theorem f7{x:ItK}(h:Fu n x=true):jq (EQ z n) x:=by
 cases x with|val=>trivial|itm=>trivial|_=>exact Qq.mp h
theorem VC:∀(p:PX),gB n p=true->IA (EQ z n) p:=by
 intro p;induction p with
 |glo x=>intro h;exact Qq.mp h|bty x t=>intro h;obtain⟨v,u⟩:=yA h;exact⟨Qq.mp v,nh u⟩|bin _ a b y w|cmp _ a b y w|and a b y w|or a b y w|idx a b y w|nz a b y w|dsp a b y w=>intro h;obtain⟨v,u⟩:=yA h;exact⟨y v,w u⟩
 |not a y|lst a y|tup a y=>intro h;exact y h
 |slc a b c y w g=>intro h;obtain⟨v,e⟩:=yA h;obtain⟨u,k⟩:=yA e;exact⟨y v,w u,g k⟩|call f l y=>intro h;obtain⟨v,u⟩:=yA h;exact⟨Qq.mp v,y u⟩|lrv a y=>intro h;obtain⟨v,u⟩:=yA h;obtain⟨k,i⟩:=yA u;exact⟨Qq.mp v,Qq.mp k,y i⟩|bi f l y=>intro h;obtain⟨v,u⟩:=yA h;exact⟨Qq.mp v,y u⟩|isi a c y g=>intro h;obtain⟨v,e⟩:=yA h;obtain⟨u,k⟩:=yA e;exact⟨Qq.mp v,y u,g k⟩|mt _ o l q y=>intro h;obtain⟨v,u⟩:=yA h;exact⟨q v,y u⟩|comp _ _ _ Z m j Y X s r=>intro h;obtain⟨v,h⟩:=yA h;obtain⟨u,h⟩:=yA h;obtain⟨k,i⟩:=yA h;exact⟨f7 v,X u,s k,r i⟩|_=>intro _;trivial
theorem JZ:∀(p:PT),uF n p=true->xF (EQ z n) p:=by
 intro p;induction p with
 |seq s r f l=>intro h;obtain⟨u,y⟩:=yA h;exact⟨f u,l y⟩|set _ e|own _ e|expr e|ret e=>intro h;exact VC _ h
 |six o i e=>intro h;obtain⟨u,x⟩:=yA h;obtain⟨y,w⟩:=yA x;exact⟨VC _ u,VC _ y,VC _ w⟩|sdf i k=>intro h;exact VC _ h|frz _ s f=>intro h;exact f h|whl c b v=>intro h;obtain⟨u,y⟩:=yA h;exact⟨VC _ u,v y⟩|ife c a b m v=>intro h;obtain⟨u,x⟩:=yA h;obtain⟨y,w⟩:=yA x;exact⟨VC _ u,m y,v w⟩|for_ _ q j g v=>intro h;obtain⟨u,x⟩:=yA h;obtain⟨y,w⟩:=yA x;exact⟨f7 u,VC _ y,v w⟩|_=>intro _;trivial
noncomputable def fN(N h:LS)(sc:Scope):Bool:=sc.kind==.function&&!sc.isCoroutine&&!sc.isGenerator&&yK N&&N.take h.length==h &&
 h.all (λx=>sc.names.lookup x==some .local||sc.names.lookup x==some .cell)&&sc.names.all λy=>y.2 != .free
theorem pT{N x:LS}{sc:Scope}(h:fN N x sc=true):FnScope N x sc:=by simp only[fN,QW,Q4,wX,beq_iff_eq,Q5,bne_iff_ne,ne_eq]at h;obtain⟨⟨⟨⟨⟨⟨b,a⟩,k⟩,w⟩,v⟩,u⟩,y⟩:=h;exact⟨b,a,k,YE w,v,u,y⟩
def kB(n:Need)(b:PT)(N h:LS)(st:Stmt):Bool:=fN N h (MA st)&&kR b ⟨N,MA st⟩ (fC st)&&uF n b
def Ui:Md->T->Sl
 | .chg,t=>.own t|_,t=>.vz t
def jE:List Md->LT->kA
 |_,[]=>[]|md,t::ts=>some (Ui (md.headD .uz) t)::jE md.tail ts
def oB(N:LS)(md:List Md)(ts:LT):kA:=jE md ts++QAL (N.length - ts.length) none
noncomputable def KB:Nat->List Md->Nat->LN
 |_,_,0=>[]|k,md,n+1=>match md.headD .uz with
  | .chg=>k::KB (k+1) md.tail n|_=>KB (k+1) md.tail n
def xV:Option (LT)->(LT->Prop)->Prop
 |some os,Q=>Q os|none,_=>False
noncomputable def rD(P:PSp)(n:Nat)(Q:T->LT->Prop):PEnds where
 nx:=λh=>xV (FA (KB 0 P.md n) h) (Q (.d .none))
 rt:=λt h=>xV (FA (KB 0 P.md n) h) (Q t)
abbrev ME(Ψ:PEv)(b:PT)(p:PSp)(N h:LS)(ds:LT)(Q:T->LT->Prop):Prop:=ds.length=h.length/\pF Ψ b (rD p h.length Q) (oB N p.md ds)
def GU(mg:Str->Option Value)(x:Str):V:=((mg x).bind XN).getD .non
def gq(K:QA)(mg:Str->Option Value)(Ψ:PEv):Ev:=⟨λf=>lift K (Ψ.sp f),GU mg⟩
structure ValsOk(P:Program)(w:World)(K:QA)(mg:Str->Option Value)(Ψ:PEv)(va:LS):Prop where
 rep:∀x d,Ψ.va x=some d->∀F,Rep K F (GU mg x) d
 has:∀x∈va,∃u v,mg x=some u/\XN u=some v
theorem gX{u:Value}{v:V}(h:XN u=some v):rA v u:=by cases u<;>first | (obtain rfl:=Qk h;first|rfl|exact⟨_,rfl⟩)|exact nomatch (show(none:Option V)=some v from h)
end
section
variable{P:Program}{w:World}{K:QA}{mg:Str->Option Value}{base:Heap}{Ψ:PEv}
section
variable{k:Nat}{F H:Hp}{Y M:dB}{md:List Md}{vs:LV}{ts:LT}{N l:LS}{R:PSp}{x o:Str}{st:Stmt}{f:Addr}{p:FuncData}{n:Need}
def BG(P:Program)(w:World)(K:QA)(mg:Str->Option Value)(base:Heap)(Ψ:PEv)(k:Nat)(f:Str):Prop :=
 ∃(a:Addr) (p:FuncData) (l:LS),FnOk P w K mg base y2 k a p l (lift K (Ψ.sp f))/\mg f=some (.ref a)/\wN K (.ref a)=true/\XJ K p l []
theorem BG.mono{j:Nat}{f:Str}(h:BG P w K mg base Ψ j f)(hk:j<=k):BG P w K mg base Ψ k f:=by obtain⟨a,p,l,z,y⟩:=h;exact⟨a,p,l,z.mono hk,y⟩
theorem ArgsR.length(h:ArgsR K F H Y md vs ts):vs.length=ts.length:=by
 induction h with|nil=>rfl|chg _ _ e=>exact congrArg Nat.succ e|rd _ _ _ _ e=>exact congrArg Nat.succ e
theorem LI:∀(m:List Md) (ts:LT),(jE m ts).length=ts.length
 |_,[]=>rfl|m,d::ds=>by unfold jE;rw[QM,QM,LI]
theorem Y5{m:Md}(h:m≠.chg)(t:T):Ui m t=.vz t:=by cases m<;>first|rfl|exact absurd rfl h
theorem SH(md:List Md)(v:V)(vs:LV):pB md (v::vs)=match md.headD .uz with | .chg=>v::pB md.tail vs|_=>pB md.tail vs:=by first | (rw[pB];done) | (rw[pB];cases md.headD .uz<;>rfl)
theorem EM(md:List Md)(v:T)(vs:LT):CB md (v::vs)=match md.headD .uz with | .chg=>v::CB md.tail vs|_=>CB md.tail vs:=by first | (rw[CB];done) | (rw[CB];cases md.headD .uz<;>rfl)
theorem RO(md:List Md)(t:T)(ts:LT):jE md (t::ts)=some (Ui (md.headD .uz) t)::jE md.tail ts:=by rw[jE]
theorem Kd(h:ArgsR K F H Y md vs ts)(r:Trs K F H true (pB md vs) (CB md ts) M) :
  ∃Z:Ft,(∀(i:Nat) s,(jE md ts)[i]?=some (some s)->∃v,vs[i]?=some v/\Tr K F H s.st v s.t (Z i))/\(∀(i:Nat) t,(jE md ts)[i]?=some (some (.own t))->∀b,Z i b->M b)/\(∀(i:Nat) t,(jE md ts)[i]?=some (some (.vz t))->∀b,Z i b->Y b) /\
   ∀(i j:Nat) t u,i≠j->(jE md ts)[i]?=some (some (.own t))->(jE md ts)[j]?=some (some (.own u))->∀b,Z i b->¬ Z j b:=by
 induction h generalizing M with
 |nil=>exact⟨λ_ _=>False,λi s e=>by simp[jE]at e,λi t e=>by simp[jE]at e,λi t e=>by simp[jE]at e,λi j t u _ e=>by simp[jE]at e⟩|@chg md v vs t ts a O A =>
  have J:pB md (v::vs)=v::pB md.tail vs:=by rw[SH,a]
  have I:CB md (t::ts)=t::CB md.tail ts:=by rw[EM,a]
  rw[J,I]at r;cases r with
  |@cons _ _ _ _ _ _ L Z2 W Q n q =>
   obtain⟨Z,E,g,C,B⟩:=A Q;have G:jE md (t::ts)=some (.own t)::jE md.tail ts:=by rw[RO,a];rfl
   rw[G];refine⟨λi=>match i with|0=>L|i+1=>Z i,λi s e=>?_,λi u e b hb=>?_,λi u e b hb=>?_,λi j u w X e m b hb y=>?_⟩;cases i with|zero=>simp at e;subst e;exact⟨v,rfl,W⟩|succ i=>exact E i s (by simpa using e)
   cases i with|zero=>exact(q b).mpr (.inl hb)|succ i=>exact(q b).mpr (.inr (g i u (by simpa using e) b hb))
   cases i with|zero=>simp at e|succ i=>exact C i u (by simpa using e) b hb
   cases i with
   |zero =>
    cases j with|zero=>exact X rfl|succ j=>exact n b hb (g j w (by simpa using m) b y)
   |succ i =>
    cases j with|zero=>exact n b y (g i u (by simpa using e) b hb)|succ j=>exact B i j u w (λz=>X (by rw[z])) (by simpa using e) (by simpa using m) b hb y
 |@rd md v vs t ts L a W S O A =>
  have J:pB md (v::vs)=pB md.tail vs:=by rw[SH];cases e:md.headD .uz<;>first|exact absurd e a|rfl
  have I:CB md (t::ts)=CB md.tail ts:=by rw[EM];cases e:md.headD .uz<;>first|exact absurd e a|rfl
  rw[J,I]at r;obtain⟨Z,E,g,C,B⟩:=A r;have G:jE md (t::ts)=some (.vz t)::jE md.tail ts:=by rw[RO,Y5 a]
  rw[G];refine⟨λi=>match i with|0=>L|i+1=>Z i,λi s e=>?_,λi u e b hb=>?_,λi u e b hb=>?_,λi j u w X e m b hb y=>?_⟩;cases i with|zero=>simp at e;subst e;exact⟨v,rfl,W⟩|succ i=>exact E i s (by simpa using e)
  cases i with|zero=>simp at e|succ i=>exact g i u (by simpa using e) b hb
  cases i with|zero=>exact S b hb|succ i=>exact C i u (by simpa using e) b hb
  cases i with
  |zero=>simp at e|succ i =>
   cases j with|zero=>simp at m|succ j=>exact B i j u w (λz=>X (by rw[z])) (by simpa using e) (by simpa using m) b hb y
theorem C3(f:Same F H)(h:ArgsR K F H Y md vs ts)(r:Trs K F H true (pB md vs) (CB md ts) M)(C:∀b,Y b->¬ M b) :
  ∃S,Rl K F H S (oB N md ts) (vD N vs)/\∀b,U (oB N md ts) S b->M b:=by
 obtain⟨Z,A,a,W,X⟩:=Kd h r;have hl:=h.length;have get:∀(i:Nat) s,(oB N md ts)[i]?=some (some s)->(jE md ts)[i]?=some (some s):=λi s e=>by
  unfold oB at e;rcases QA2 i ts.length with z|z
  ·rwa [qK (by rw[LI];exact z)]at e
  rw[Qu (by rw[LI];exact z),wc]at e;split at e<;>cases e
 refine⟨Z,⟨f,?_,λi s e=>?_,λi j t s n q m b hb y=>?_⟩,λb ⟨i,t,e,hb⟩=>a i t (get i _ e) b hb⟩;unfold oB vD;rw[QI,QI,LI,QE,qt,qt,hl];obtain⟨v,g,B⟩:=A i s (get i s e);refine⟨v,?_,B⟩;unfold vD;rw[qK (by rw[QE];exact(Qg.mp g).1),Qb,g];rfl;cases s with|own u=>exact X i j t u n (get i _ q) (get j _ m) b hb y|vz u=>exact C b (W j u (get j _ m) b y) (a i t (get i _ q) b hb)
theorem fP:∀{md:List Md}{k n:Nat}{vs:LV}{σ:St},vs.length=n->(∀(i:Nat) v,vs[i]?=some v->σ[k+i]?=some (some v))->(pB md vs).map (λv=>some (some v))=(KB k md n).map λj=>σ[j]?
 |md,k,0,vs,σ,h,g=>by
  cases vs with|nil=>rfl|cons _ _=>cases h
 |md,k,n+1,vs,σ,h,g=>by
  cases vs with
  |nil=>cases h|cons v vs =>
   have y:=fP (md:=md.tail) (k:=k+1) (n:=n) (vs:=vs) (σ:=σ) (by simpa using h) λi w z=>by have:=g (i+1) w (by simpa using z);rw[show k+1+i=k+(i+1) by omega];exact this
   have u:=g 0 v rfl;rw[SH];unfold KB;cases e:md.headD .uz with|chg=>simp only[QS,y];rw[show σ[k]?=some (some v) from u]|_=>exact y
theorem sN:∀{md:List Md}{k n j:Nat},j∈KB k md n->k<=j
 |md,k,0,j,h=>by simp[KB]at h|md,k,n+1,j,h=>by
  unfold KB at h;cases e:md.headD .uz with
  |chg=>rw[e]at h;rcases QL.mp h with z|z;omega;have:=sN z;omega
  |_=>rw[e]at h;have:=sN h;omega
theorem DT:∀(md:List Md) (k n:Nat),(KB k md n).Nodup
 |md,k,0=>Q0|md,k,n+1=>by
  have h:=DT md.tail (k+1) n;unfold KB;cases e:md.headD .uz with|chg=>exact Qh.mpr ⟨λz=>by have:=sN z;omega,h⟩|_=>exact h
theorem V7{b:PT}(F:Fun K x o st f p)(AB:kB n b N l st=true)(hc:zK (KB 0 R.md l.length) b=true)
  (fns:∀g∈n.fn,BG P w K mg base Ψ k g) (G:ValsOk P w K mg Ψ n.va) (nos:∀y∈n.no,mg y=none)
  (body:∀ts Q E,R.run ts Q E->ts.length=l.length/\pF Ψ b (rD R l.length Q) (oB N R.md ts)):FnOk P w K mg base y2 (k+1) f p l (lift K R):=by
 obtain⟨c12,c3⟩:=yA AB;obtain⟨c1,c2⟩:=yA c12;have S:=pT c1;refine F.ok S (λvs H Q E h=>?_) (λcdv A L s H vs Q E hr h=>?_);obtain⟨F',ts,M,Y,h1,h2,h3,h4,h5⟩:=h;rw[h2.length];exact(body ts _ _ h5).1;obtain⟨F',ts,M,Y,h1,h2,h3,h4,h5⟩:=h;have q:=(body ts _ _ h5).2;have hlen:=(body ts _ _ h5).1;have ok:OkS ((dW y2 P w K mg base N o (MA st) f cdv A L s H E).nox) ⟨N,MA st⟩ (EQ (gq K mg Ψ) n) E0:={
  N:=rfl
  sc:=rfl
  calm:=rfl
  un:=by have:=hr.un;show(A.deeper _).units+66<cLine;omega
  fn:=λg hg=>by obtain⟨a,gd,gps,g1,g2,g3,g4⟩:=fns g hg;exact⟨y2,k,a,gd,gps,g1,hr,g2,g3,g4,Fo,λ_ _ _ _ _ z=>z⟩
  val:=λy hy=>by obtain⟨u,v,e1,e2⟩:=G.has y hy;refine⟨u,e1,?_⟩;show rA (GU mg y) u;unfold GU;rw[e1];show rA ((XN u).getD .non) u;rw[e2];exact gX e2
  no:=λy hy=>nos y hy
  po:=PassesOwn.never
  nd:=S.nd
  cel:=λ_=>rfl }
 refine⟨_,(Nt b ok c2 (JZ b c3)).1,?_⟩;obtain⟨S0,I,hU⟩:=C3 (N:=N) h1 h2 h3 h4;have g:GOk K (gq K mg Ψ) Ψ:=⟨λ_ _ _ _ _ h=>h,λy d e F=>G.rep y d e F⟩
 have hvl:vs.length=l.length:=h2.length.trans hlen;have fin:∀v t W C B J m X,Stc (KB 0 R.md l.length) F' H S0 (oB N R.md ts) (vD N vs) C B J m X->Rl K C B J m X->Tr K C B true v t W->Held C B J m W->(∀b,W b->H b=none∨U (oB N R.md ts) S0 b) ->
   xV (FA (KB 0 R.md l.length) m) (λos=>∀v F3 H3 Z M',Frm M F' H F3 H3->Tr K F3 H3 true v t Z->Trs K F3 H3 true (pB R.md vs) os M'->(∀b,Z b->¬ M' b)->(∀b,Z b∨M' b->M b∨H b=none)->Q v H3)->Q v B:=by
  intro v t W C B J m X s I2 r hw fr q;cases eo:FA (KB 0 R.md l.length) m with
  |none=>rw[eo]at q;exact q.elim|some os =>
   rw[eo]at q;have hv:(pB R.md vs).map (λv=>some (some v))=(KB 0 R.md l.length).map λj=>X[j]?:=by rw[fP (md:=R.md) (k:=0) (n:=l.length) (vs:=vs) (σ:=vD N vs) hvl λi w hw=>?_];exact wJ λj O=>(s.sg j O).symm;unfold vD;rw[Wc,qK (by rw[QE];exact(Qg.mp hw).1),Qb,hw];rfl
   have trs:=I2.trs (DT _ _ _) eo hv;have own:∀j∈KB 0 R.md l.length,∃t,m[j]?=some (some (.own t)):=λj O=>by obtain⟨i,hi⟩:=Wj.mp O;obtain⟨t,_,e⟩:=(DD eo).2 i j hi;exact⟨t,e⟩
   have lk:∀b,U (oB N R.md ts) S0 b∨H b=none->M b∨H b=none:=λb hb=>hb.imp (hU b) id;refine q v C B W _ ⟨s.ff,I2.fh,λb u e n=>s.hh b u e λz=>n (hU b z),s.dm,λb e z=>lk b (s.fn b e z)⟩ r trs (λb hb ⟨j,O,z⟩=>?_) λb hb=>?_;obtain⟨t',e⟩:=own j O;exact hw.nw j _ e b hb z;rcases hb with hb|⟨j,O,z⟩
   ·exact lk b (fr b hb).symm
   obtain⟨t',e⟩:=own j O;exact lk b (s.uu b ⟨j,t',e,z⟩)
 refine BI g b hc I (λ_ _ _ _ _ _ _ _ _ z=>z.elim) q ⟨?_,?_,λ_ _ _ _ _ _ _ z=>z.elim,λ_ _ _ _ _ _ _ z=>z.elim⟩;intro C B J m X s I2 q;exact fin .non (.d .none) (λ_=>False) C B J m X s.c I2 (.d .non λ_ z=>z) .none (λ_ z=>z.elim) q;intro v t W C B J m X s I2 r hw fr q;exact fin v t W C B J m X s I2 r hw fr q
theorem i7{h:PEv}{b:PT}(F:Fun K x o st f p)(a:mg x=some (.ref f))(hb:XJ K p l [])(AB:kB n b N l st=true)(hc:zK (KB 0 R.md l.length) b=true)
  (v:∀g∈n.fn,BG P w K mg base Ψ k g) (z:ValsOk P w K mg Ψ n.va) (u:∀y∈n.no,mg y=none)
  (body:∀ts Q E,R.run ts Q E->ts.length=l.length/\pF Ψ b (rD R l.length Q) (oB N R.md ts)) (e:h.sp x=R):BG P w K mg base h (k+1) x :=
 ⟨f,p,l,by rw[e];exact V7 F AB hc v z u body,a,F.kp,hb⟩
end
end
noncomputable def cQ:PSp where
 md:=[.yz]
 run:=λy Q _=>∃x:LJ,x.length<=63/\(∀n∈x,W6 n<=1048576)/\y=[.lst ((x.map PyData.int).map T.d)]/\Q (.d (.bool true)) []
 mono:=λh _ ⟨x,v,u,z,q⟩=>⟨x,v,u,z,h _ _ q⟩
def um:PSp:=⟨[],λ_ _ _=>False,λ_ _ h=>h⟩
theorem GO{K:QA}{F:Hp}:∀(ns:LJ),Reps K F (ns.map V.int) (ns.map PyData.int)
 |[]=>.nil|n::r=>.cons (.int n) (GO r)
theorem pM{K:QA}{F:Hp}:∀(ns:LS),Reps K F (ns.map V.str) (ns.map PyData.str)
 |[]=>.nil|n::r=>.cons (.str n) (pM r)
theorem Dj(K:QA)(H:Hp)(a:Addr)(ns:LJ)(hl:ns.length<=63)(h:∀n∈ns,W6 n<=1048576)(x:pC K H a (ns.map V.int)):lift K cQ [.ref a] H (λv _=>v=.bl true) λ_ _ _=>False:=by
 refine⟨H,[.lst ((ns.map PyData.int).map T.d)],λ_=>False,λ_=>False,.refl _,.rd (Z:=λ_=>False) (by simp[cQ]) (.lstF x (GO ns) λ_ z=>z) (λ_ z=>z) .nil,.nil λ_ z=>z,λ_ z=>z.elim,ns,hl,h,rfl,λv w u Z y _ r _ _ _=>?_⟩;cases r with|d r _=>cases r;rfl
theorem DU{ns:LJ}:∀n∈ns,Wr (.int n)<=wf (ns.map Ww.int):=by
 induction ns with|nil=>intro n h;cases h|cons m ns x=>intro n h;show _<=Wr (.int m)+1+wf (ns.map Ww.int);rcases QL.mp h with rfl|h;omega;have:=x n h;omega
theorem Jd{ns:LJ}(h:Ww.layableAll [.list (ns.map .int)]=true):∀n∈ns,W6 n<=1048576:=by
 intro n z;have v:=(PySem.W.layableW_iff.mp (PySem.W.layableW_arg h _ QF)).2.2;have k:wf (ns.map Ww.int)<=2 ^ 20:=v;have y:=DU n z;have u:Wr (.int n)=if n==0 then 0 else n.natAbs.log2+1:=rfl
 rw[PySem.intBits_le_iff];by_cases x:n=0;subst x;exact Nat.pow_pos (by decide);have:(n==0)=false:=by simpa using x
 rw[u,this]at y;have w:n.natAbs.log2+1<=1048576:=by have:n.natAbs.log2+1<=wf (ns.map Ww.int):=y;omega
 exact(Nat.log2_lt (show n.natAbs≠0 by omega)).mp (by omega)
def KY(K:QA)(x:Str)(st:Stmt):Prop:=∃f h,qq K mainGlobals x=some (some (.ref f))/\Fun K x x st f h
def UN(K:QA)(x:Str)(d:D):Prop:=∃u v,qq K mainGlobals x=some (some u)/\XN u=some v/\∀F,Rep K F v d
theorem j3{K:QA}{x:Str}{f:Addr}{xs:LS}{v:Option Addr}{its:LW}{n:Nat}{z:Array (Option Value)}(a:qq K mainGlobals x=some (some (.ref f)))
  (l:K.lookup f=some ⟨.type "tuple",v,.seq its.toArray n,z⟩) (h:its.map XN=xs.map λy=>some (.str y)) (k:xs.length<=sizeLine):UN K x (.tuple (xs.map PyData.str)):=by
 refine⟨_,_,a,rfl,λF=>.tup (.inr ⟨_,its.toArray,n,l,rfl,rfl,?_,?_⟩) (pM xs)⟩;have:=congrArg qa h;simp at this;simp;omega;have key:∀(its:LW) (xs:LS),its.map XN=xs.map (λy=>some (.str y))->lA (xs.map V.str) its:=by
  intro its;induction its with
  |nil =>
   intro xs h;cases xs with|nil=>exact .nil|cons _ _=>simp at h
  |cons u its w =>
   intro xs h;cases xs with|nil=>simp at h|cons y xs=>simp only[QS,WQ]at h;exact .cons (gX h.1) (w xs h.2)
 simpa using key its xs h
section
variable{P:Program}{w:World}{K:QA}{mg:Str->Option Value}{base h:Heap}{Ψ:PEv}
section
variable{x:Str}{st:Stmt}{z:LS}{k:Nat}
theorem UN.inMg(X:K.In h)(G:h.Ns mainGlobals mg){d:D}(v:UN K x d):(∀F,Rep K F (GU mg x) d)/\∃u v,mg x=some u/\XN u=some v:=by
 obtain⟨u,v,b,y,a⟩:=v;have e:=WR X G b;refine⟨λF=>?_,u,v,e,y⟩;have:GU mg x=v:=by unfold GU;rw[e];show(XN u).getD .non=v;rw[y];rfl
 rw[this];exact a F
theorem J7{R:PSp}{u:PEv}{N:LS}{b:PT}{n:Need}(X:K.In h)(G:h.Ns mainGlobals mg)(D:KY K x st)(AB:kB n b N z st=true)(hc:zK (KB 0 R.md z.length) b=true)
  (hb:∀(kV j m:Value) (q:Option Addr) (l ct:Value) (us:LW),us.length=z.length->bindArgs (qr x x (RC st) (fC st) (MA st) .none kV j m q l ct) ⟨us,[]⟩=pure (z.zip us))
  (i:∀g∈n.fn,BG P w K mg base Ψ k g) (v:ValsOk P w K mg Ψ n.va) (e:∀y∈n.no,qq K mainGlobals y=some none)
  (body:∀ts Q E,R.run ts Q E->ts.length=z.length/\pF Ψ b (rD R z.length Q) (oB N R.md ts)) (p:u.sp x=R):BG P w K mg base u (k+1) x:=by
 obtain⟨f,r,a,F⟩:=D;exact i7 F (WR X G a) (F.binds hb) AB hc i v (λy o=>QAG X G (e y o)) body p
theorem Fj{j:Addr}(X:K.In h)(G:h.Ns mainGlobals mg)(D:KY K "law" st)(q:z=[x])(g:mg "law"=some (.ref j))(p:Ψ.sp "law"=cQ)
  (hb:∀(kV v i:Value) (l:Option Addr) (b ct:Value) (us:LW),us.length=z.length->bindArgs (qr "law" "law" (RC st) (fC st) (MA st) .none kV v i l b ct) ⟨us,[]⟩=pure (z.zip us))
  (H:∀base:Heap,K.In base->base.Ns mainGlobals mg->∀f y,Fun K "law" "law" st f y->mg "law"=some (.ref f)->FnOk P w K mg base y2 k f y z (lift K (Ψ.sp "law"))) :
  ∃y:FuncData,(∀(s:Shared) (u:Value),BindsTo s y ⟨[u],[]⟩ [(x,u)])/\∀base:Heap,K.In base->base.Ns mainGlobals mg->FnOk P w K mg base y2 k j y [x] (lift K cQ):=by
 obtain⟨f,y,a,F⟩:=D;have e:=g.symm.trans (WR X G a);cases e;subst q;refine⟨y,λs u=>?_,λbase o n=>?_⟩;obtain⟨Z,Y,kV,v,i,l,b,ct,m,rfl,lk,r⟩:=F.ex;exact .of_eq (hb kV v i l b ct [u] rfl);rw[<- p];exact H base o n j y F g
end
end
theorem rB{α:Type}{body:T->(Option T->Prop)->Prop}(g f:α->T):∀(l:List α) (h:LT) (Q:LT->Prop),(∀x∈l,∀R:Option T->Prop,R (some (f x))->body (g x) R)->h.length+l.length<=sizeLine->Q (h++l.map f)->MC body (l.map g) h Q
 |[],h,Q,_,hl,q=>by simp only[wn,MC];exact⟨by simpa using hl,by simpa using q⟩|x::r,h,Q,hb,hl,q=>by simp only[QS,MC];refine hb x QF _ ?_;simp only[QM]at hl;refine⟨by omega,rB g f r _ Q (λy z=>hb y (QD _ z)) (by simp;omega) (by simpa using q)⟩
theorem nA{α:Type}{body:T->(Option T->Prop)->Prop}(g f:α->T)(p:α->Bool):∀(l:List α) (h:LT) (Q:LT->Prop),(∀x∈l,∀R:Option T->Prop,R (if p x=true then some (f x) else none)->body (g x) R)->h.length+l.length<=sizeLine->Q (h++(l.filter p).map f)->MC body (l.map g) h Q
 |[],h,Q,_,hl,q=>by simp only[wn,MC];exact⟨by simpa using hl,by simpa using q⟩|x::r,h,Q,hb,hl,q=>by
  simp only[QS,MC];refine hb x QF _ ?_;simp only[QM]at hl;cases u:p x with|true=>refine⟨by omega,nA g f p r _ Q (λy z=>hb y (QD _ z)) (by simp;omega) ?_⟩;rw[WB,if_pos u]at q;simpa using q|false=>refine nA g f p r _ Q (λy z=>hb y (QD _ z)) (by omega) ?_;rw[WB,if_neg (by rw[u];simp)]at q;exact q
theorem GL{α:Type}{xs:List α}{i:Int}(y:0<=i)(x:i<xs.length):∃v,YD xs i=some v/\xs[i.toNat]?=some v:=by
 have h:i.toNat<xs.length:=by omega
 have e:((i.toNat:Nat):Int)=i:=by omega
 have q:=KF (Qm h);rw[e]at q;exact⟨xs[i.toNat],q,Qm h⟩
theorem VF{α h:Type}(f:α->h)(xs:List α)(i:Int):YD (xs.map f) i=(YD xs i).map f:=by
 unfold YD;rw[QE];cases XR xs.length i with|none=>rfl|some j=>exact Qb
theorem CA{Ψ:PEv}{E:XE}{α:Type}{body:PT}{u:Tg}{Z:PEnds}(g:α->T)(W:List α->kA->Prop)(k:∀ρ,W [] ρ->Z.nx ρ)
  (v:∀x xs ρ (N:kA->Prop),(∀y,W xs y->N y)->W (x::xs) ρ->gP u (g x) ρ λz=>aB Ψ E body { Z with nx:=N,ct:=N,bk:=Z.nx } z):∀(xs:List α) (ρ:kA),W xs ρ->IH (aB Ψ E body) u Z (xs.map g) ρ
 |[],ρ,w=>k ρ w|x::xs,ρ,w=>v x xs ρ (λh=>IH (aB Ψ E body) u Z (xs.map g) h) (λh a=>CA g W k v xs h a) w
def ye(y:List (Str×PSp))(h:List (Str×D)):PEv:=⟨λf=>(y.lookup f).getD um,λx=>h.lookup x⟩
theorem SW{P:Program}{w:World}{K:QA}{mg:Str->Option Value}{h:Heap}{v:List (Str×PSp)}{tbl:List (Str×D)}{z:LS}(X:K.In h)(G:h.Ns mainGlobals mg)(u:∀p∈tbl,UN K p.1 p.2)
  (y:(z.all λx=>(tbl.map qz).contains x)=true):ValsOk P w K mg (ye v tbl) z:=by
 refine⟨λx d e F=>((u (x,d) (qN e)).inMg X G).1 F,λx k=>?_⟩;have:=Q4.mp y x k;obtain⟨p,a,e⟩:=QV.mp (Qq.mp this);rw[<- e];exact((u p a).inMg X G).2
theorem GP{α:Type}[BEq α][LawfulBEq α]{l m:List α}(h:(l.all λx=>m.contains x)=true):∀x∈l,x∈m:=λx y=>Qq.mp (Q4.mp h x y)
section
variable{a b c:PX}{i:Nat}{n:Int}{x:Str}{m:Mt}{f:Str}{g:Bi}{u:Operator}{w:CmpOp}{is:List Bool}{h:LS}{z:Tg}{v:ItK}{y:String}
theorem RW:xH (.zz i)=[i]:=rfl
theorem JO:xH (.nz a b)=xH a++xH b:=rfl
theorem FR:xH .xz=[]:=rfl
end
def kF{α:Type}(o:Option α)(K:α->Prop):Prop:=∃a,o=some a/\K a
theorem kF.mk{α:Type}{o:Option α}{a:α}{K:α->Prop}(e:o=some a)(k:K a):kF o K:=⟨a,e,k⟩
theorem fB{α:Type}{a:α}{K:α->Prop}:kF (some a) K=K a:=propext ⟨λ⟨_,e,k⟩=>by cases e;exact k,λk=>⟨a,rfl,k⟩⟩
theorem zF{α h:Type}{o:Option α}{f:α->h}{K:h->Prop}:kF (o.map f) K=kF o λa=>K (f a):=by
 cases o with|none=>exact propext ⟨λ⟨_,e,_⟩=>(by cases e),λ⟨_,e,_⟩=>(by cases e)⟩|some a=>rw[Q6,fB,fB]
def cB(Ψ:PEv)(e:PX)(E:XE)(ρ:kA)(K:TK):Prop:=(pe Ψ e E).e ρ K
def AN(Ψ:PEv)(e:PX)(E:XE)(ρ:kA)(K:Bool->kA->Prop):Prop:=(pe Ψ e E).t ρ K
def FM(Ψ:PEv)(e:PX)(E:XE)(md:List Md)(ρ:kA)(K:List (T×Bool)->kA->Prop):Prop:=(pe Ψ e E).a md ρ K
def EA(p:PSp)(ts:LT)(K:T->LT->Prop)(E:XE):Prop:=p.run ts K E
def E8(x:T)(n:Bool)(Ψ:PEv)(b:PX)(E:XE)(ρ:kA)(K:TK):Prop:=sq (gA x n) ρ (cu (pe Ψ b E).e) λy h=>K y.1 y.2 h
def j9(x:T)(n:Bool)(Ψ:PEv)(b:PX)(E:XE)(md:List Md)(ρ:kA)(K:List (T×Bool)->kA->Prop):Prop:=sq (if n=true then .d .none else x) ρ ((pe Ψ b E).a md) K
def AH(i:Nat)(σ ρ:kA)(K:TK):Prop:=Lr σ[i]? λt=>K t false ρ
def C4(i:Nat)(σ:kA)(ρ:kA)(j:Nat)(R:T->kA->Prop):Prop:=fu ρ j R σ[i]?
def rL(Ψ:PEv)(E:XE)(r:PT)(Z:PEnds)(i:Nat)(x:T)(n:Bool)(ρ:kA):Prop:=YH x n=true/\aB Ψ E r Z (ρ.set i (bD x.er))
def Ho(Ψ:PEv)(E:XE)(r:PT)(Z:PEnds)(i:Nat)(x:T)(n:Bool)(ρ:kA):Prop:=YH x n=true/\aB Ψ E r Z (ρ.set i (some (.own x)))
def nC(x:T)(n:Bool)(P:Prop):Prop:=YH x n=true/\P
def lK(h:Operator)(x:T)(n:Bool)(y:T)(m:Bool)(Q:T->Bool->Prop):Prop:=binT h (gA x n).vw (gA y m).vw Q
def NB(h:CmpOp)(x y:T)(Q:Bool->Prop):Prop:=Ac h x.er y Q
def i9(x:T)(Q:Bool->Prop):Prop:=sI x.er Q
def Ow(x:T)(Q:Bool->Prop):Prop:=Ul x.er Q
def ec(c:PX)(x:T)(Q:Bool->Prop):Prop:=jk c x.er Q
def rP(f:Bi)(xs:List (T×Bool))(Q:T->Bool->Prop):Prop:=Y1 f (SB xs) Q
def VA(x:T)(n:Bool)(y:T)(m:Bool)(Q:T->Prop):Prop:=kO (gA x n).vw (gA y m).vw Q∨ZT (gA x n).vw y.er Q
def Sm(Ψ:PEv)(E:XE)(c:PX)(q:PT)(Z:PEnds)(ρ:kA):Prop:=aB Ψ E (.whl c q) Z ρ
def ue(t y x:T)(Q:T->Prop):Prop:=Mn t y.er x.er Q
def Gn(z t:T)(Q:T->(T->T)->Prop):Prop:=Hn z.er t Q
def An(y t:T)(Q:T->Prop):Prop:=Fh y.er t Q
def mL(x:T)(n:Bool)(l u:Option Int)(Q:T->Bool->Prop):Prop:=RJ (gA x n).vw l u Q
def yN(xs:List (T×Bool))(C:LT->Prop):Prop:=DE xs=true/\C (LF xs)
def vL(h:ItK)(xs:List (T×Bool))(R:LT->Prop):Prop:=DB h (SB xs) R
def iB(md:List Md)(xs:List (T×Bool))(C:LT->Prop):Prop:=kF (ZA md xs []) C
def mG(Ψ:PEv)(E:XE)(x:List Bool)(y:LS)(u:Tg)(h z:PX)(ρ:kA):T->(Option T->Prop)->Prop:=nG u (xO y.length x (lockA ρ)) (if isNop h=true then λρ R=>R true ρ else(pe Ψ h E).t) (pe Ψ z E).e
def tY(h:Tg)(x:T)(ρ:kA)(K:kA->Prop):Prop:=gP h x ρ K
section
variable{Ψ:PEv}{E:XE}{ρ:kA}{K:TK}{L:Bool->kA->Prop}{M:List (T×Bool)->kA->Prop}{a b c Y its U V:PX}{Z:T->kA->Prop}
section
variable{i j:Nat}{x:T}{v:CmpOp}{f t u:Str}{p:PSp}{md:List Md}{w m:List Bool}{g:LS}{o:Tg}{X:ItK}{R:Option T->Prop}{s:Option Sl}{σ:kA}{n:Bool}{ts:LT}
theorem Jr{i:Int}:cB Ψ (.ng i) E ρ K=K (.d (.int (-i))) false ρ:=rfl
theorem gw{b:PX}{x y:Str}{l:LN}(h:Q8 x y 0 x.length 1=i::l)(A:∀K,cB Ψ a E ρ K=K (.d (.str x)) false ρ)(hb:∀K,cB Ψ b E ρ K=K (.d (.str y)) false ρ)(q:K (.d (.int (i:Int))) false ρ):cB Ψ (.mt .index a %[b|1]) E ρ K:=by show cB Ψ a E ρ λx n e=>Y6 .index (gA x n).vw=true/\sq (gA x n) e ((pe Ψ %[b|1] E).a []) λW r=>Nr .index (gA x n).vw (SB W) λz k=>K z k r;rw[A];refine⟨rfl,?_⟩;show cB Ψ b E ρ λz n e=>sq (α:=List (T×Bool)) (if n=true then .d .none else z) e ((pe Ψ .xz E).a []) λW r=>_;rw[hb];exact⟨x,y,i,l,rfl,rfl,h,q⟩
theorem Fg:cB Ψ (.zz i) E ρ K=AH i ρ ρ K:=rfl
theorem yg:AN Ψ (.zz i) E ρ L=AH i ρ ρ λt _ ρ=>i9 t λb=>L b ρ:=rfl
theorem Pg{i:Int}:cB Ψ (.int i) E ρ K=K (.d (.int i)) false ρ:=rfl
theorem Hg{x:Str}:cB Ψ (.str x) E ρ K=K (.d (.str x)) false ρ:=rfl
theorem Yr{x:Bool}:cB Ψ (.bl x) E ρ K=K (.d (.bool x)) false ρ:=rfl
theorem Ng:cB Ψ .non E ρ K=K (.d .none) false ρ:=rfl
theorem CH{x:Str}{d:D}(h:Ψ.va x=some d):cB Ψ (.glo x) E ρ K=K (.d d) false ρ:=by show(match Ψ.va x with|some d=>K (.d d) false ρ|none=>False)=_;rw[h]
theorem R8{v:Operator}:cB Ψ (.bin v a b) E ρ K=cB Ψ a E ρ λx n e=>E8 x n Ψ b E e λy m h=>lK v x n y m λz k=>K z k h:=rfl
theorem kg:AN Ψ (.cmp v a b) E ρ L=cB Ψ a E ρ λx n z=>E8 x n Ψ b E z λy m h=>NB v x (gA y m) λk=>L k h:=rfl
theorem Ag:cB Ψ (.cmp v a b) E ρ K=AN Ψ (.cmp v a b) E ρ λk h=>K (.d (.bool k)) false h:=rfl
theorem Eg:cB Ψ (.and a b) E ρ K=cB Ψ a E ρ λx _ h=>Ow x λc=>if c=true then cB Ψ b E h K else K (.d (.bool false)) false h:=rfl
theorem vg:AN Ψ (.and a b) E ρ L=AN Ψ a E ρ λc h=>if c=true then AN Ψ b E h L else L false h:=rfl
theorem Nl:AN Ψ (.or a b) E ρ L=AN Ψ a E ρ λc h=>if c=true then L true h else AN Ψ b E h L:=rfl
theorem Mg:cB Ψ (.not a) E ρ K=cB Ψ a E ρ λx _ h=>i9 x λc=>K (.d (.bool (!c))) false h:=rfl
theorem zg:AN Ψ (.not a) E ρ L=AN Ψ a E ρ λc h=>L (!c) h:=rfl
theorem vA(h:Ψ.sp f=p)(F:p.md=md)(C:(md.all λm=>!m.isMut)=true):cB Ψ (.call f Y) E ρ K=FM Ψ Y E md ρ λxs y=>iB md xs λts=>EA p ts (λr l=>l=[]/\K r true y) E:=by
 have A:∀(md:List Md) (Y:PX),(md.all λm=>!m.isMut)=true->bA md Y=[]:=by
  intro md;induction md with
  |nil=>intro Y _;cases Y<;>rfl|cons m md B =>
   intro Y h;rw[qb,QW]at h;cases m with
   |chg=>cases h.1|_=>cases Y with|nz a Y=>exact B Y h.2|_=>rfl
 show(∃l,FA (bA (Ψ.sp f).md Y) ρ=some l/\(bA (Ψ.sp f).md Y).Nodup/\(pe Ψ Y E).a (Ψ.sp f).md (clear (bA (Ψ.sp f).md Y) ρ) λxs y=>∃ts,ZA (Ψ.sp f).md xs l=some ts/\(Ψ.sp f).run ts (λr q=>∃z,jC (bA (Ψ.sp f).md Y) q y=some z/\K r true z) E)=_;rw[h,F,A md Y C];have W:∀(r:T) (l:LT) (y:kA),(∃z,jC [] l y=some z/\K r true z)=(l=[]/\K r true y):=by
  intro r l y;cases l with|nil=>exact propext ⟨λ⟨_,e,k⟩=>by cases e;exact⟨rfl,k⟩,λk=>⟨_,rfl,k.2⟩⟩|cons _ _=>exact propext ⟨λ⟨_,e,k⟩=>(by cases e),λk=>(by cases k.1)⟩
 have:=λ(y:kA)=>funext λr=>funext λl=>W r l y;simp only[this];exact propext ⟨λ⟨_,e,_,k⟩=>by cases e;exact k,λk=>⟨_,rfl,Q0,k⟩⟩
theorem J8:AN Ψ (.call f Y) E ρ L=cB Ψ (.call f Y) E ρ λt _ h=>i9 t λb=>L b h:=rfl
theorem Oq:AN Ψ (.isi a c) E ρ L=cB Ψ a E ρ λx _ h=>ec c x λb=>L b h:=rfl
theorem Kr{f:Bi}:cB Ψ (.bi f Y) E ρ K=FM Ψ Y E [] ρ λxs h=>rP f xs λz k=>K z k h:=rfl
theorem Lg:cB Ψ (.mt .pop (.zz j) Y) E ρ K=OC ρ[j]? λt=>SI .pop t=true/\FM Ψ Y E [] (ρ.set j (some (.vz t))) λxs h=>DE xs=true/\h[j]?=some (some (.vz t))/\eL .pop t (LF xs) λr s'=>K r true (h.set j (some (.own s'))):=rfl
theorem O8{x:Bool}:cB Ψ (.dnew x) E ρ K=K (.dct x [] []) true ρ:=rfl
theorem Sg:cB Ψ (.dsp a b) E ρ K=cB Ψ a E ρ λy m z=>nC y m (cB Ψ b E z λx n h=>nC x n (UD true y.er/\K (.dct true [y.er] [x]) true h)):=rfl
theorem vH(h:Ψ.sp f=p)(O:p.md=.chg::md)(N:(md.all λm=>!m.isMut)=true):cB Ψ (.call f (.nz (.zz j) Y)) E ρ K=OC ρ[j]? λt=>FM Ψ Y E md (ρ.set j none) λxs y=>iB md xs λts=>EA p (t::ts) (λr l=>∃t',l=[t']/\K r true (y.set j (some (.own t')))) E:=by
 have I:∀(md:List Md) (Y:PX),(md.all λm=>!m.isMut)=true->bA md Y=[]:=by
  intro md;induction md with
  |nil=>intro Y _;cases Y<;>rfl|cons m md J =>
   intro Y h;rw[qb,QW]at h;cases m with
   |chg=>cases h.1|_=>cases Y with|nz a Y=>exact J Y h.2|_=>rfl
 show(∃l,FA (bA (Ψ.sp f).md (.nz (.zz j) Y)) ρ=some l/\(bA (Ψ.sp f).md (.nz (.zz j) Y)).Nodup/\(pe Ψ (.nz (.zz j) Y) E).a (Ψ.sp f).md (clear (bA (Ψ.sp f).md (.nz (.zz j) Y)) ρ) λxs y=>∃ts,ZA (Ψ.sp f).md xs l=some ts/\(Ψ.sp f).run ts (λr q=>∃W,jC (bA (Ψ.sp f).md (.nz (.zz j) Y)) q y=some W/\K r true W) E)=_;rw[h,O];have P:bA (.chg::md) (.nz (.zz j) Y)=[j]:=by show j::bA md Y=[j];rw[I md Y N]
 rw[P];have A:∀(r:T) (l:LT) (y:kA),(∃W,jC [j] l y=some W/\K r true W)=(∃t',l=[t']/\K r true (y.set j (some (.own t')))):=by
  intro r l y
  match l with
  |[]=>exact propext ⟨λ⟨_,e,k⟩=>(by cases e),λ⟨_,e,k⟩=>(by cases e)⟩|[t]=>exact propext ⟨λ⟨_,e,k⟩=>by cases e;exact⟨t,rfl,k⟩,λ⟨_,e,k⟩=>by cases e;exact⟨_,rfl,k⟩⟩|_::_::_=>exact propext ⟨λ⟨_,e,k⟩=>(by cases e),λ⟨_,e,k⟩=>(by cases e)⟩
 have B:=λ(y:kA)=>funext λr=>funext λl=>A r l y;simp only[B];have C:∀(t:T) (xs:List (T×Bool)) (G:LT->Prop),(∃ts,ZA (.chg::md) ((.d .none,true)::xs) [t]=some ts/\G ts)=iB md xs λts=>G (t::ts):=by
  intro t xs G;show(∃ts,(ZA md xs []).map (t::·)=some ts/\G ts)=kF (ZA md xs []) λts=>G (t::ts);cases ZA md xs []with|none=>exact propext ⟨λ⟨_,e,_⟩=>(by cases e),λ⟨_,e,_⟩=>(by cases e)⟩|some ts=>exact propext ⟨λ⟨_,e,k⟩=>by cases e;exact⟨_,rfl,k⟩,λ⟨_,e,k⟩=>by cases e;exact⟨_,rfl,k⟩⟩
 have F:∀t,ρ[j]?=some (some (.own t))->FA [j] ρ=some [t]:=λt e=>by unfold FA;rw[e];rfl
 have Q:∀(l:LT),((pe Ψ (.nz (.zz j) Y) E).a (.chg::md) (clear [j] ρ) λxs y=>∃ts,ZA (.chg::md) xs l=some ts/\p.run ts (λr q=>∃t',q=[t']/\K r true (y.set j (some (.own t')))) E)=(FM Ψ Y E md (ρ.set j none) λxs y=>∃ts,ZA (.chg::md) ((.d .none,true)::xs) l=some ts/\p.run ts (λr q=>∃t',q=[t']/\K r true (y.set j (some (.own t')))) E):=λl=>propext ⟨λh=>h.2,λh=>⟨rfl,h⟩⟩;simp only[Q]
 match e:ρ[j]? with
 |some (some (.own t))=>show _=(FM Ψ Y E md (ρ.set j none) λxs y=>iB md xs λts=>EA p (t::ts) (λr l=>∃t',l=[t']/\K r true (y.set j (some (.own t')))) E);rw[F t e];have:=λxs (y:kA)=>C t xs λts=>p.run ts (λr q=>∃t',q=[t']/\K r true (y.set j (some (.own t')))) E;refine propext ⟨λ⟨_,e,_,k⟩=>?_,λk=>⟨_,rfl,by simp,?_⟩⟩;cases e;simp only[this]at k;exact k;simp only[this];exact k|some (some (.vz t))=>exact propext ⟨λ⟨_,z,_⟩=>(by unfold FA at z;rw[e]at z;cases z),λk=>k.elim⟩|some none=>exact propext ⟨λ⟨_,z,_⟩=>(by unfold FA at z;rw[e]at z;cases z),λk=>k.elim⟩|none=>exact propext ⟨λ⟨_,z,_⟩=>(by unfold FA at z;rw[e]at z;cases z),λk=>k.elim⟩
theorem eU:cB Ψ (.mt .extend (.zz j) Y) E ρ K=OC ρ[j]? λt=>SI .extend t=true/\FM Ψ Y E [] (ρ.set j (some (.vz t))) λxs h=>DE xs=true/\h[j]?=some (some (.vz t))/\eL .extend t (LF xs) λr s'=>K r true (h.set j (some (.own s'))):=rfl
theorem iU:cB Ψ (.mt .append (.zz j) Y) E ρ K=OC ρ[j]? λt=>SI .append t=true/\FM Ψ Y E [] (ρ.set j (some (.vz t))) λxs h=>DE xs=true/\h[j]?=some (some (.vz t))/\eL .append t (LF xs) λr s'=>K r true (h.set j (some (.own s'))):=rfl
theorem Rg:cB Ψ (.idx a b) E ρ K=cB Ψ a E ρ λx n k=>E8 x n Ψ b E k λy m h=>VA x n y m λz=>K z false h:=rfl
theorem aU{i:Int}:cB Ψ (.slc a (.int i) .nop) E ρ K=cB Ψ a E ρ λx n h=>mL x n (some i) none λz k=>K z k h:=by
 show(pe Ψ a E).e ρ (λx n h=>sq (gA x n) h (λρ (R:Option Int->kA->Prop)=>R (some i) ρ) λl q=>sq (gA x n) q (λρ (R:Option Int->kA->Prop)=>R none ρ) λu y=>RJ (gA x n).vw l u λz k=>K z k y)=_;have:∀x n h,(sq (gA x n) h (λρ (R:Option Int->kA->Prop)=>R (some i) ρ) λl q=>sq (gA x n) q (λρ (R:Option Int->kA->Prop)=>R none ρ) λu y=>RJ (gA x n).vw l u λz k=>K z k y)=RJ (gA x n).vw (some i) none λz k=>K z k h:=by intro x n h;unfold sq;split<;>rfl
 simp only[this];rfl
theorem Og:cB Ψ (.lst Y) E ρ K=FM Ψ Y E [] ρ λxs y=>xs.length<=sizeLine/\yN xs λts=>K (.lst ts) true y:=by have:∀(xs:List (T×Bool)) y,(xs.length<=sizeLine/\yN xs λts=>K (.lst ts) true y)=(DE xs=true/\xs.length<=sizeLine/\K (.lst (LF xs)) true y):=λxs y=>propext ⟨λh=>⟨h.2.1,h.1,h.2.2⟩,λh=>⟨h.2.1,h.1,h.2.2⟩⟩;simp only[this];rfl
theorem Gg:cB Ψ (.tup Y) E ρ K=FM Ψ Y E [] ρ λxs y=>xs.length<=sizeLine/\yN xs λts=>K (ZE ts) true y:=by have:∀(xs:List (T×Bool)) y,(xs.length<=sizeLine/\yN xs λts=>K (ZE ts) true y)=(DE xs=true/\xs.length<=sizeLine/\K (ZE (LF xs)) true y):=λxs y=>propext ⟨λh=>⟨h.2.1,h.1,h.2.2⟩,λh=>⟨h.2.1,h.1,h.2.2⟩⟩;simp only[this];rfl
theorem P8:cB Ψ (.comp w g o X its V U) E ρ K=FM Ψ its E [] ρ λxs y=>vL X xs λh =>
   MC (mG Ψ (λ_=>False) w g o V U y) h [] λz=>K (.lst z) true y:=rfl
theorem Lf:mG Ψ E [] [t] (.nm 0) .nop U ρ x R=cB Ψ U E (some (.vz x)::lockA ρ) λy n _=>nC y n (R (some y)):=rfl
theorem i8{x y:D}:mG Ψ E [] [t,u] (.tp [0,1]) .nop U ρ (.d (.tuple [x,y])) R=cB Ψ U E (bD x::bD y::lockA ρ) λy n _=>nC y n (R (some y)):=fB
theorem Hq{b:Bool}:mG Ψ E (b::m) [t] (.nm 0) .nop U ρ x R=cB Ψ U E (some (.vz x)::uC (b::m) (lockA ρ)) λy n _=>nC y n (R (some y)):=rfl
theorem Gq{b:Bool}{x y:D}:mG Ψ E (b::m) [t,u] (.tp [0,1]) .nop U ρ (.d (.tuple [x,y])) R=cB Ψ U E (bD x::bD y::uC (b::m) (lockA ρ)) λy n _=>nC y n (R (some y)):=fB
theorem Mf:mG Ψ E [] [t] (.nm 0) (.cmp v a b) U ρ x R=AN Ψ (.cmp v a b) E (some (.vz x)::lockA ρ) λk h=>if k=true then cB Ψ U E h λy n _=>nC y n (R (some y)) else R none:=rfl
theorem Ig:FM Ψ .xz E md ρ M=M [] ρ:=rfl
theorem A8:FM Ψ (.nz a Y) E [] ρ M=cB Ψ a E ρ λx n y=>j9 x n Ψ Y E [] y λxs h=>M ((x,n)::xs) h:=rfl
theorem ZU:FM Ψ (.nz a Y) E (.yz::md) ρ M=cB Ψ a E ρ λx n y=>j9 x n Ψ Y E md y λxs h=>M ((x,n)::xs) h:=rfl
theorem KU:FM Ψ (.nz a Y) E (.vz::md) ρ M=cB Ψ a E ρ λx n y=>j9 x n Ψ Y E md y λxs h=>M ((x,n)::xs) h:=rfl
theorem eg:cH Ψ E Z (.zz i) ρ=C4 i ρ ρ i Z:=rfl
theorem Jg:cH Ψ E Z .non ρ=Z (.d .none) ρ:=propext ⟨λh=>h.2,λh=>⟨rfl,h⟩⟩
theorem Pq{x:Bool}:cH Ψ E Z (.bl x) ρ=Z (.d (.bool x)) ρ:=propext ⟨λh=>h.2,λh=>⟨rfl,h⟩⟩
theorem Yg{x:Int}:cH Ψ E Z (.int x) ρ=Z (.d (.int x)) ρ:=propext ⟨λh=>h.2,λh=>⟨rfl,h⟩⟩
theorem X8:cH Ψ E Z (.call f Y) ρ=cB Ψ (.call f Y) E ρ λx n h=>nC x n (Z x h):=rfl
theorem U8{v:Operator}:cH Ψ E Z (.bin v a b) ρ=cB Ψ (.bin v a b) E ρ λx n h=>nC x n (Z x h):=rfl
theorem Kg:cH Ψ E Z (.cmp v a b) ρ=cB Ψ (.cmp v a b) E ρ λx n h=>nC x n (Z x h):=rfl
theorem Vg:cH Ψ E Z (.and a b) ρ=cB Ψ (.and a b) E ρ λx n h=>nC x n (Z x h):=rfl
theorem Rq{f:Bi}:cH Ψ E Z (.bi f Y) ρ=cB Ψ (.bi f Y) E ρ λx n h=>nC x n (Z x h):=rfl
theorem Zg:cH Ψ E Z (.idx a b) ρ=cB Ψ (.idx a b) E ρ λx n h=>nC x n (Z x h):=rfl
theorem ig:cH Ψ E Z (.tup Y) ρ=cB Ψ (.tup Y) E ρ λx n h=>nC x n (Z x h):=rfl
theorem V8:cH Ψ E Z (.comp w g o X its V U) ρ=cB Ψ (.comp w g o X its V U) E ρ λx n h=>nC x n (Z x h):=rfl
theorem Sx:AH (i+1) (s::σ) ρ K=AH i σ ρ K:=rfl
theorem Ix{t:T}:AH 0 (some (.vz t)::σ) ρ K=K t false ρ:=rfl
theorem Tx{t:T}:AH 0 (some (.own t)::σ) ρ K=K t false ρ:=rfl
theorem Ex:AH i (lockA σ) ρ K=AH i σ ρ K:=by
 unfold AH lockA;rw[Qb];cases σ[i]? with
 |none=>rfl|some s=>cases s with|none=>rfl|some s=>cases s<;>rfl
theorem Ax{b:Bool}:AH (i+1) (uC (b::m) (lockA (s::σ))) ρ K=AH i (uC m (lockA σ)) ρ K:=rfl
theorem cr:AH 0 (uC (false::m) (lockA (s::σ))) ρ K=AH 0 (lockA (s::σ)) ρ K:=rfl
theorem br:AH i (uC [] (lockA σ)) ρ K=AH i (lockA σ) ρ K:=rfl
theorem Ox:C4 (i+1) (s::σ) ρ j Z=C4 i σ ρ j Z:=rfl
theorem Rx{x:D}:C4 0 (bD x::σ) ρ j Z=Z (.d x) ρ:=propext ⟨λh=>h.2,λh=>⟨rfl,h⟩⟩
theorem Px{t:T}:C4 0 (some (.own t)::σ) ρ j Z=Z t (ρ.set j none):=rfl
theorem Ew{x:D}:E8 (.d x) n Ψ b E ρ K=cB Ψ b E ρ K:=by cases n<;>rfl
theorem Tw:E8 x true Ψ b E ρ K=cB Ψ b E ρ K:=rfl
theorem Aw:E8 (.lst ts) false Ψ b E ρ K=cB Ψ b E (lockA ρ) λy m _=>K y m ρ:=rfl
theorem Dx{x:D}:j9 (.d x) n Ψ b E md ρ M=FM Ψ b E md ρ M:=by cases n<;>rfl
theorem Ux:j9 x true Ψ b E md ρ M=FM Ψ b E md ρ M:=rfl
theorem Bx:j9 (.lst ts) false Ψ b E md ρ M=FM Ψ b E md (lockA ρ) λxs _=>M xs ρ:=rfl
end
end
section
variable{Ψ:PEv}{E:XE}{ρ σ:kA}{Z:PEnds}{s r q:PT}{i:Nat}{e c its:PX}{o:Option Sl}{n:Bool}{v:D}{P:Prop}{ds:List D}{x:T}
section
variable{j:Nat}{A B:Prop}
theorem zA:aB Ψ E .nil Z ρ=Z.nx ρ:=rfl
theorem cg:aB Ψ E (.seq (.set i e) r) Z (o::σ)=cB Ψ e E (o::σ) λx n h=>rL Ψ E r Z i x n h:=rfl
theorem gg:aB Ψ E (.seq (.own i e) r) Z (o::σ)=cB Ψ e E (o::σ) λx n h=>Ho Ψ E r Z i x n h:=rfl
theorem K8:aB Ψ E (.seq (.expr e) r) Z (o::σ)=cB Ψ e E (o::σ) λ_ _ h=>aB Ψ E r Z h:=rfl
theorem fg:aB Ψ E (.seq (.ret e) r) Z (o::σ)=cH Ψ E Z.rt e (o::σ):=rfl
theorem lg:aB Ψ E (.seq (.ife c s .nil) r) Z (o::σ)=AN Ψ c E (o::σ) λk h=>if k=true then aB Ψ E s { Z with nx:=λy=>aB Ψ E r Z y } h else aB Ψ E r Z h:=rfl
theorem rg{u:Tg}{k:ItK}:aB Ψ E (.seq (.for_ u k its q) r) Z (o::σ)=FM Ψ its E [] (o::σ) λxs h=>vL k xs λy =>
   if sR xs=true then IH (aB Ψ E q) u { Z with nx:=λz=>aB Ψ E r Z (kill u.ix z) } y h
   else IH (aB Ψ E q) u { Z with nx:=λz=>HU u.ix (vC h (xH its)) h (λw=>aB Ψ E r Z w) (kill u.ix z) } y (lock (vC h (xH its)) h):=rfl
theorem ug{a:PX}:aB Ψ E (.seq (.six (.zz j) a e) r) Z (o::σ)=OC (o::σ)[j]? λt=>cB Ψ e E ((o::σ).set j (some (.vz t))) λx n z=>nC x n (cB Ψ a E z λy m h=>nC y m (h[j]?=some (some (.vz t))/\ue t y x λt'=>aB Ψ E r Z (h.set j (some (.own t'))))):=rfl
theorem Z8{a k:PX}:aB Ψ E (.seq (.six (.idx (.zz j) k) a e) r) Z (o::σ)=OC (o::σ)[j]? λt=>cB Ψ e E ((o::σ).set j (some (.vz t))) λx n w=>nC x n (cB Ψ k E w λz l u=>nC z l (Gn z t λs put=>cB Ψ a E u λy m h=>nC y m (h[j]?=some (some (.vz t))/\ue s y x λs'=>aB Ψ E r Z (h.set j (some (.own (put s'))))))):=rfl
theorem dg{k:PX}:aB Ψ E (.seq (.sdf j k) r) Z (o::σ)=OC (o::σ)[j]? λt=>Rc t=true/\cB Ψ k E ((o::σ).set j (some (.vz t))) λy m h=>nC y m (h[j]?=some (some (.vz t))/\An y t λt'=>aB Ψ E r Z (h.set j (some (.own t')))):=rfl
theorem og{h:LN}:aB Ψ E (.seq (.frz h s) r) Z (o::σ)=aB Ψ E (.seq s r) Z (frzAt h (o::σ)):=rfl
theorem xg:aB Ψ E (.seq (.whl c q) r) Z (o::σ)=Sm Ψ E c q { Z with nx:=λh=>aB Ψ E r Z h } (o::σ):=rfl
theorem Xx:rL Ψ E r Z i (.d v) n ρ=aB Ψ E r Z (ρ.set i (bD v)):=propext ⟨λh=>h.2,λh=>⟨by cases n<;>rfl,h⟩⟩
theorem Vs:rL Ψ E r Z i (.lst (ds.map T.d)) true ρ=aB Ψ E r Z (ρ.set i (bD (.list ds))):=by unfold rL T.er;rw[bB];exact propext ⟨λh=>h.2,λh=>⟨rfl,h⟩⟩
theorem xx:Ho Ψ E r Z i x true ρ=aB Ψ E r Z (ρ.set i (some (.own x))):=propext ⟨λh=>h.2,λh=>⟨rfl,h⟩⟩
theorem yy:nC (.d v) n P=P:=propext ⟨λh=>h.2,λh=>⟨by cases n<;>rfl,h⟩⟩
theorem jy:nC x true P=P:=propext ⟨λh=>h.2,λh=>⟨rfl,h⟩⟩
theorem FX:(([]:LT)=[]/\P)=P:=propext ⟨λh=>h.2,λh=>⟨rfl,h⟩⟩
theorem yq:(if(true:Bool)=true then A else B)=A:=rfl
theorem zq:(if(false:Bool)=true then A else B)=B:=rfl
theorem Kx{v h:Option Sl}:aB Ψ E r Z (WS (h::σ) 0 v)=aB Ψ E r Z (v::σ):=rfl
theorem Yx{v h y:Option Sl}:aB Ψ E r Z (WS (h::y::σ) 1 v)=aB Ψ E r Z (h::v::σ):=rfl
theorem Jx{v y h z:Option Sl}:aB Ψ E r Z (WS (y::h::z::σ) 2 v)=aB Ψ E r Z (y::h::v::σ):=rfl
theorem sx{v z y h u:Option Sl}:aB Ψ E r Z (WS (z::y::h::u::σ) 3 v)=aB Ψ E r Z (z::y::h::v::σ):=rfl
theorem ox{v u z y h w:Option Sl}:aB Ψ E r Z (WS (u::z::y::h::w::σ) 4 v)=aB Ψ E r Z (u::z::y::h::v::σ):=rfl
theorem lx{v w u z y h k:Option Sl}:aB Ψ E r Z (WS (w::u::z::y::h::k::σ) 5 v)=aB Ψ E r Z (w::u::z::y::h::v::σ):=rfl
theorem gx{v k w u z y h a:Option Sl}:aB Ψ E r Z (WS (k::w::u::z::y::h::a::σ) 6 v)=aB Ψ E r Z (k::w::u::z::y::h::v::σ):=rfl
theorem cx{v a k w u z y h b:Option Sl}:aB Ψ E r Z (WS (a::k::w::u::z::y::h::b::σ) 7 v)=aB Ψ E r Z (a::k::w::u::z::y::h::v::σ):=rfl
theorem bx{v b a k w u z y h f:Option Sl}:aB Ψ E r Z (WS (b::a::k::w::u::z::y::h::f::σ) 8 v)=aB Ψ E r Z (b::a::k::w::u::z::y::h::v::σ):=rfl
theorem ux{v f b a k w u z y h g:Option Sl}:aB Ψ E r Z (WS (f::b::a::k::w::u::z::y::h::g::σ) 9 v)=aB Ψ E r Z (f::b::a::k::w::u::z::y::h::v::σ):=rfl
theorem yr{v l g f b a k w u z y h:Option Sl}:aB Ψ E r Z (WS (l::g::f::b::a::k::w::u::z::y::h::σ) 10 v)=aB Ψ E r Z (l::g::f::b::a::k::w::u::z::y::v::σ):=rfl
theorem Iq{v m l g f b a k w u z h y:Option Sl}:aB Ψ E r Z (WS (m::l::g::f::b::a::k::w::u::z::h::y::σ) 11 v)=aB Ψ E r Z (m::l::g::f::b::a::k::w::u::z::h::v::σ):=rfl
end
end
section
variable{d:D}{n m:Bool}{i j:Int}{z y:Str}{b:Bool}{xs:List (T×Bool)}{ts:LT}{ds es:List D}{md:List Md}{t:T}{C:LT->Prop}{Q:T->Bool->Prop}{L:Bool->Prop}{R:T->Prop}{W:LT->Prop}
section
variable{ρ:kA}{P:kA->Prop}{e k:D}{v:CmpOp}{ks:List D}{x:Str}{kvs:List (D×D)}{l u:Option Int}
theorem Ht{i:Int}{x:D}{Q:T->Prop}(a:0<=i)(w:i<ds.length)(q:Q (.lst ((ds.set i.toNat x).map T.d))):ue (.lst (ds.map T.d)) (.d (.int i)) (.d x) Q:=by
 have h:i.toNat<ds.length:=by omega
 refine⟨i.toNat,?_,by rw[<- List.map_set];exact q⟩;unfold XR;rw[QE];rw[if_pos a,if_pos w]
theorem jg{J:LN}{w:kA}{N:kA->Prop}:HU J [] w N ρ=N ρ:=propext ⟨λh=>h.2,λh=>⟨λ_ z=>(nomatch z),h⟩⟩
theorem oA{α:Type}(f:α->D)(l:List α):l.map (λc=>T.d (f c))=(l.map f).map T.d:=by rw[Qa];rfl
theorem lD:(gA (.lst (ds.map T.d)) n).vw=.ls (ds.map T.d):=by cases n;rfl;show Vw.ls ((ersT (ds.map T.d)).map T.d)=_;rw[bB]
theorem Xg:iB md [] C=C []:=fB
theorem jx:iB [] ((.d d,n)::xs) C=iB [] xs λts=>C (.d d::ts):=by
 have e:ZA [] ((.d d,n)::xs) []=(ZA [] xs []).map (.d d::·):=by cases n<;>rfl
 unfold iB;rw[e,zF]
theorem Iw:iB [] ((.lst (ds.map T.d),true)::xs) C=iB [] xs λts=>C (.d (.list ds)::ts):=by have e:ZA [] ((.lst (ds.map T.d),true)::xs) []=(ZA [] xs []).map (.d (.list (ersT (ds.map T.d)))::·):=rfl;unfold iB;rw[e,zF,bB]
theorem yx:iB (.vz::md) ((t,false)::xs) C=iB md xs λts=>C (t::ts):=by have e:ZA (.vz::md) ((t,false)::xs) []=(ZA md xs []).map (t::·):=rfl;unfold iB;rw[e,zF]
theorem j4:UF (.lst (ds.map T.d))=some (.lst (ds.map T.d)):=by simp only[UF,T.vw,XA,Q6]
theorem Yy{u:T}(h:UF (gA t n)=some u):iB (.yz::md) ((t,n)::xs) C=iB md xs λts=>C (u::ts):=by
 have e:ZA (.yz::md) ((t,n)::xs) []=(ZA md xs []).map (u::·):=by show(match UF (gA t n) with|some t=>(ZA md xs []).map (t::·)|none=>none)=_;rw[h]
 unfold iB;rw[e,zF]
theorem Sq:iB (.yz::md) ((.lst (ds.map T.d),n)::xs) C=iB md xs λts=>C (.lst (ds.map T.d)::ts):=Yy (by cases n;exact j4;show UF (.d (.list (ersT (ds.map T.d))))=_;rw[bB];simp only[UF,T.vw,XA,Q6])
theorem Bg:yN [] C=C []:=propext ⟨λh=>h.2,λh=>⟨rfl,h⟩⟩
theorem kw:yN ((.lst (ds.map T.d),true)::xs) C=yN xs λts=>C (.lst (ds.map T.d)::ts):=by show((YH (.lst (ds.map T.d)) true&&DE xs)=true/\C (.lst (ds.map T.d)::LF xs))=(DE xs=true/\C (.lst (ds.map T.d)::LF xs));rw[show YH (.lst (ds.map T.d)) true=true from rfl,WI]
theorem Vx:yN ((.d d,n)::xs) C=yN xs λts=>C (.d d::ts):=by show((YH (.d d) n&&DE xs)=true/\C (.d d::LF xs))=(DE xs=true/\C (.d d::LF xs));rw[show YH (.d d) n=true by cases n<;>rfl,WI]
theorem XY{i j:Nat}{x y:D}:tY (.tp [i,j]) (.d (.tuple [x,y])) ρ P=P ((ρ.set i (bD x)).set j (bD y)):=fB
theorem Xr{i:Nat}:tY (.nm i) t ρ P=P (ρ.set i (some (.vz t))):=rfl
theorem d8{h:Tg}:gP h t ρ P=tY h t ρ P:=rfl
theorem Ef:lK .Add (.d (.int i)) n (.d (.int j)) m Q=Q (.d (.int (i+j))) false:=by unfold lK;rw[aA,aA];exact Zl i j
theorem Af:lK .Add (.d (.str z)) n (.d (.str y)) m Q=(z.length+y.length<=sizeLine/\Q (.d (.str (z++y))) false):=by unfold lK;rw[aA,aA];exact Yl z y
theorem Pf:lK .Sub (.d (.int i)) n (.d (.int j)) m Q=Q (.d (.int (i - j))) false:=by unfold lK;rw[aA,aA];exact Jl i j
theorem Rf:lK .Mult (.d (.int i)) n (.d (.int j)) m Q=(IntMulOk i j/\Q (.d (.int (i * j))) false):=by unfold lK;rw[aA,aA];exact il i j
theorem Tf:lK .FloorDiv (.d (.int i)) n (.d (.int j)) m Q=((0<j/\j<2 ^ 200)/\Q (.d (.int (i / j))) false):=by unfold lK;rw[aA,aA];exact ul i j
theorem Sf:lK .Mod (.d (.int i)) n (.d (.int j)) m Q=(0<j/\Q (.d (.int (i % j))) false):=by unfold lK;rw[aA,aA];exact xl i j
theorem Up:ZE [.d d,.d e]=.d (.tuple [d,e]):=rfl
theorem Xp{f g:D}:ZE [.d d,.d e,.d f,.d g]=.d (.tuple [d,e,f,g]):=rfl
theorem Cf:NB .Eq (.d (.int i)) (.d (.int j)) L=L (decide (i=j)):=rfl
theorem Bf:NB .Eq (.d (.str z)) (.d (.str y)) L=L (decide (z=y)):=rfl
theorem Zf:NB .NotEq (.d (.int i)) (.d (.int j)) L=L (!decide (i=j)):=rfl
theorem Jf:NB .NotEq (.d (.str z)) (.d (.str y)) L=L (!decide (z=y)):=rfl
theorem Jq:NB .Lt (.d (.int i)) (.d (.int j)) L=L (decide (i<j)):=rfl
theorem T7:NB v (.d d) (.lst (ds.map T.d)) L=mW v d (.list ds) L:=by show mW v d (.list (ersT (ds.map T.d))) L=_;rw[bB]
theorem Kq:NB .Gt (.d (.int i)) (.d (.int j)) L=L (decide (j<i)):=rfl
theorem Nw:NB v t (gA (.d d) m) L=NB v t (.d d) L:=by rw[aA]
theorem Xq{u:T}:NB v t (gA u false) L=NB v t u L:=rfl
theorem x8:NB .In (.d (.str z)) (.d (.list ds)) L=(((FB (.str z)=true/\ds.all FB=true)∨(NF (.str z)/\NF (.list ds)))/\L (ds.any λy=>Qv y (.str z))):=rfl
theorem v8:NB .NotIn (.d (.str z)) (.lst (ds.map T.d)) L=(((FB (.str z)=true/\ds.all FB=true)∨(NF (.str z)/\NF (.list ds)))/\L (!(ds.any λy=>Qv y (.str z)))):=by exact T7
theorem u8:NB .In (.d d) (.dct b ks ts) L=(UD b d/\L (cA ks d).isSome):=by show(UD b d/\((CmpOp.In=.In/\L (cA ks d).isSome)∨(CmpOp.In=.NotIn/\L (!(cA ks d).isSome))))=_;simp
theorem JN:NB .NotIn (.d d) (.dct b ks ts) L=(UD b d/\L (!(cA ks d).isSome)):=by show(UD b d/\((CmpOp.NotIn=.In/\L (cA ks d).isSome)∨(CmpOp.NotIn=.NotIn/\L (!(cA ks d).isSome))))=_;simp
theorem Vf:NB .In (.d (.str z)) (.d (.tuple ds)) L=(((FB (.str z)=true/\ds.all FB=true)∨(NF (.str z)/\NF (.list ds)))/\L (ds.any λy=>Qv y (.str z))):=rfl
theorem Xf:NB .In (.d (.str z)) (.lst (ds.map T.d)) L=(((FB (.str z)=true/\ds.all FB=true)∨(NF (.str z)/\NF (.list ds)))/\L (ds.any λy=>Qv y (.str z))):=by exact T7
theorem Yw:i9 (.d (.bool b)) L=L b:=rfl
theorem Pw:Ow (.d (.bool b)) L=L b:=rfl
theorem kq{k:String}(h:isD k d=some b)(hk:vP k=true):ec (.bty x k) (.d d) L=L b:=by show(∃b,isD k d=some b/\vP k=true/\L b)=_;exact propext ⟨λ⟨_,e,_,q⟩=>by rw[h]at e;cases e;exact q,λq=>⟨_,h,hk,q⟩⟩
theorem Hu:ec (.bty x "int") (.d (.int i)) L=L true:=kq rfl rfl
theorem Lu:ec (.bty x "bool") (.d (.int i)) L=L false:=kq rfl rfl
theorem Re:rP .min [(.d (.int i),n),(.d (.int j),m)] Q=Q (.d (.int (if j<i then j else i))) false:=by unfold rP SB SB SB;rw[aA,aA];exact Vl i j
theorem vp:rP .len [(.d (.list ds),n)] Q=Q (.d (.int ds.length)) false:=by unfold rP SB;rw[aA];refine(Hf _).trans ?_;rw[QE]
theorem zp:rP .len [(.lst (ds.map T.d),n)] Q=Q (.d (.int ds.length)) false:=by unfold rP SB;rw[lD];refine(Hf _).trans ?_;rw[QE]
theorem bp:rP .any [(.lst (ds.map T.d),n)] Q=∃bs:List Bool,ds=bs.map PyData.bool/\Q (.d (.bool (bs.any id))) false:=by unfold rP SB;rw[lD];refine(Cq _).trans ?_;simp only[XA,Qp]
theorem M7:ZT (.ls ts) k R=False:=propext ⟨λ⟨_,_,_,_,_,e,_⟩=>(by cases e),Qc⟩
theorem Bk:ZT (.tp ts) k R=False:=propext ⟨λ⟨_,_,_,_,_,e,_⟩=>(by cases e),Qc⟩
theorem Ck{x:D}:ZT (.sc x) k R=False:=propext ⟨λ⟨_,_,_,_,_,e,_⟩=>(by cases e),Qc⟩
theorem tw:VA (.lst (ds.map T.d)) n (.d (.int i)) m R=kF (YD ds i) λd=>R (.d d):=by unfold VA;rw[lD,aA,M7,or_false];refine(l7 _ _).trans ?_;show kF (YD (ds.map T.d) i) R=_;rw[VF,zF]
theorem d9:VA (.d (.list ds)) n (.d (.int i)) m R=kF (YD ds i) λd=>R (.d d):=by unfold VA;rw[aA,aA,show(T.d (.list ds)).vw=.ls (ds.map T.d) from rfl,M7,or_false];refine(l7 _ _).trans ?_;show kF (YD (ds.map T.d) i) R=_;rw[VF,zF]
theorem U2:VA (.d (.tuple ds)) n (.d (.int i)) m R=kF (YD ds i) λd=>R (.d d):=by unfold VA;rw[aA,aA,show(T.d (.tuple ds)).vw=.tp (ds.map T.d) from rfl,Bk,or_false];refine(vk _ _).trans ?_;show kF (YD (ds.map T.d) i) R=_;rw[VF,zF]
theorem Ls:VA (.d (.str z)) n (.d (.int i)) m R=(z.length<=sizeLine/\kF (YD z.cps.toList i) λc=>R (.d (.str ⟨#[c]⟩))):=by unfold VA;rw[aA,aA,show(T.d (.str z)).vw=.sc (.str z) from rfl,Ck,or_false];exact uk _ _
theorem Lm{f:D}:VA (.lst [.d d,.d e,.d f]) n t m R=VA (.lst ([d,e,f].map T.d)) n t m R:=rfl
theorem Mm{q:Bool}{l:Nat}(g:oD kvs=some q)(f:UD q k)(a:cA (kvs.map (·.1)) k=some l)(h:(kvs.map (·.2))[l]?=some e)(w:R (.d e)):VA (.d (.dict kvs)) n (.d k) m R:=by
 unfold VA;rw[aA];refine .inr ?_;show ZT (yC kvs) k R;unfold yC;rw[g];refine⟨q,_,_,l,.d e,rfl,f,a,?_,w⟩;rw[Qb]at h ⊢;cases z:kvs[l]? with|none=>rw[z]at h;cases h|some p=>rw[z]at h;cases h;rfl
theorem Xw:mL (.d (.str z)) n l u Q=(z.length<=sizeLine/\Q (.d (.str (wo z l u))) false):=by unfold mL;rw[aA];exact Bh z
theorem Uw:mL (.d (.list ds)) n l u Q=Q (.lst ((gJ ds l u).map T.d)) true:=by unfold mL;rw[aA];refine(T3 _).trans ?_;rw[XA];exact fB
theorem jo:mL (.lst (ds.map T.d)) n l u Q=Q (.lst ((gJ ds l u).map T.d)) true:=by unfold mL;rw[lD];refine(T3 _).trans ?_;rw[XA];exact fB
theorem iw:vL .val [(.d (.list ds),n)] W=W (ds.map T.d):=by unfold vL SB;rw[aA];exact kJ _
theorem aw:vL .val [(.d (.tuple ds),n)] W=W (ds.map T.d):=by unfold vL SB;rw[aA];exact v7 _
theorem vn:vL .val [(.lst (ds.map T.d),n)] W=W (ds.map T.d):=by unfold vL SB;rw[lD];exact kJ _
theorem Im:vL .rev [(.lst (ds.map T.d),n)] W=W (ds.reverse.map T.d):=by unfold vL SB;rw[lD,Wp];exact propext ⟨λ⟨_,e,h⟩=>by cases e;exact h,λh=>⟨_,rfl,h⟩⟩
theorem jn:vL .rng1 [(.d (.int j),n)] W=((-(2 ^ 62)<=j/\j<2 ^ 62)/\W ((Ql j.toNat).map λ(i:Nat)=>.d (.int (i:Int)))):=by unfold vL SB;rw[aA];exact k7 j
theorem cn:vL .enum [(.d (.list ds),n)] W=W (ds.zipIdx.map λp=>.d (.tuple [.int (p.2:Int),p.1])):=by unfold vL SB;rw[aA];refine(xT _).trans ?_;exact propext ⟨λ⟨_,_,w,h,k⟩=>by cases w;rw[XA]at h;cases h;exact k,λk=>⟨_,_,rfl,XA _,k⟩⟩
theorem Sd:vL .enum [(.lst (ds.map T.d),n)] W=W (ds.zipIdx.map λp=>.d (.tuple [.int (p.2:Int),p.1])):=by unfold vL SB;rw[lD];refine(xT _).trans ?_;exact propext ⟨λ⟨_,_,w,h,k⟩=>by cases w;rw[XA]at h;cases h;exact k,λk=>⟨_,_,rfl,XA _,k⟩⟩
theorem xn(h:kvs=[]∨oD kvs=some true):vL .itm [(.d (.dict kvs),n)] W=W (kvs.map λp=>.d (.tuple [p.1,p.2])):=by
 unfold vL SB;rw[aA];show DB .itm [yC kvs] W=_;rcases h with rfl|h;exact z7;unfold yC;rw[h];refine(vT _ _).trans ?_;have e:(kvs.map λp=>T.d p.2)=(kvs.map (·.2)).map T.d:=by rw[Qa];rfl
 have w:((kvs.map (·.1)).zip (kvs.map (·.2))).map (λp=>T.d (.tuple [p.1,p.2]))=kvs.map λp=>T.d (.tuple [p.1,p.2]):=by rw[List.zip_map',Qa];rfl
 refine propext ⟨λ⟨ds,a,k⟩=>?_,λk=>⟨kvs.map (·.2),by rw[e,XA],?_⟩⟩;rw[e,XA]at a;cases a;rw[w]at k;exact k;rw[w];exact k
def eZ(Q:T->LT->Prop):PEnds:={ nx:=λ_=>Q (.d .none) [],rt:=λt _=>Q t [] }
theorem tf{Q:T->LT->Prop}{t:T}:(eZ Q).rt t ρ=Q t []:=rfl
theorem uA{Ψ:PEv}{b:PT}{p:PSp}{N w:LS}{ds:LT}{Q:T->LT->Prop}(ρ:kA)(hl:ds.length=w.length)(hc:KB 0 p.md w.length=[])(a:oB N p.md ds=ρ)(h:pF Ψ b (eZ Q) ρ):ds.length=w.length/\pF Ψ b (rD p w.length Q) (oB N p.md ds):=by
 have e:rD p w.length Q=eZ Q:=by unfold rD;rw[hc];rfl
 rw[e,a];exact⟨hl,h⟩
end
end
end L2.L3
namespace L2.L3.K42
open PySem PySem.Spec PyProof.Rows L2 L2.L3
section
variable{p q:Pt}{r:Rm}{Q:T->Prop}{l:Inn}{v:Int}{a b n g:Str}{w:Wy}{e:Str×Str}
def top(i:Nat):Stmt:=Qy.main.body.getD i (.Pass ⟨0,0,0,0⟩)
def XG:LS:=["edges","starts","goal","rooms","came_from","firsts","chains"]
def FF:LS:=["edges","starts","goal"]
def AM:Need:=⟨["rooms_of","points_reached","lay_chain","chain_from","full_names"],["BEGIN"],["sorted"]⟩
noncomputable def JC:PT :=
  %[.expr (.call "lay_chain" %[.zz 3,.zz 4,.tup %[.zz 2,.str "to"|1]|1]),.set 4 (.call "points_reached" %[.zz 3|1])|2]
noncomputable def YG:PT :=
  %[.own 3 (.call "rooms_of" %[.zz 0,.zz 1,.zz 2|1]),.set 4 (.call "points_reached" %[.zz 3|1]),.whl (.cmp .In (.tup %[.zz 2,.str "to"|1]) (.zz 4)) JC,.set 5 (.comp [] ["point"] (.nm 0) .val %[.idx (.zz 3) (.glo "BEGIN")|1] (.cmp .Gt (.idx (.idx (.zz 4) (.zz 0)) (.glo "BEGIN")) (.int 0)) (.idx (.zz 0) (.int 0))),.set 6 (.comp [] ["first"] (.nm 0) .val %[.zz 5|1] .nop (.call "chain_from" %[.zz 4,.zz 0,.zz 3|1])),.ret (.tup %[.bi .sorted %[.zz 6|1],.call "full_names" %[.zz 4|1]|1])|2]
theorem KL:kB AM YG XG FF (top 3)=true:=by kernel_rfl
def GN:LS:=["edges","starts","goal","rooms","name","first","second"]
def MK:LS:=["edges","starts","goal"]
def eV:Need:=⟨["add_name","add_way"],["BEGIN","WIDE"],[]⟩
noncomputable def rF:PT :=
  %[.ife (.cmp .NotEq (.zz 4) (.zz 2)) %[.expr (.call "add_name" %[.zz 3,.zz 4|1]),.expr (.call "add_way" %[.zz 3,.glo "BEGIN",.tup %[.zz 4,.str "to"|1],.glo "WIDE"|1])|2] .nil|2]
noncomputable def oF:PT :=
  %[.ife (.and (.cmp .NotEq (.zz 5) (.zz 2)) (.cmp .NotEq (.zz 5) (.zz 6))) %[.expr (.call "add_name" %[.zz 3,.zz 5|1]),.expr (.call "add_name" %[.zz 3,.zz 6|1]),.expr (.call "add_way" %[.zz 3,.tup %[.zz 5,.str "from"|1],.tup %[.zz 6,.str "to"|1],.glo "WIDE"|1])|2] .nil|2]
noncomputable def ZN:PT :=
  %[.own 3 (.dsp (.glo "BEGIN") (.dnew true)),.for_ (.nm 4) .val %[.zz 1|1] rF,.for_ (.tp [5,6]) .val %[.zz 0|1] oF,.ret (.zz 3)|2]
theorem OT:kB eV ZN GN MK (top 4)=true:=by kernel_rfl
def SN:LS:=["rooms","name"]
def jL:LS:=["rooms","name"]
def UV:Need:=⟨["add_way"],[],[]⟩
noncomputable def dI:PT :=
  %[.expr (.call "add_way" %[.zz 0,.tup %[.zz 1,.str "to"|1],.tup %[.zz 1,.str "from"|1],.int 1|1])|2]
theorem zU:kB UV dI SN jL (top 5)=true:=by kernel_rfl
def CP:LS:=["rooms","here","there","room"]
def BM:LS:=["rooms","here","there","room"]
def DZ:Need:=⟨[],[],[]⟩
noncomputable def sP:PT :=
  %[.sdf 0 (.zz 1),.sdf 0 (.zz 2),.six (.idx (.zz 0) (.zz 1)) (.zz 2) (.zz 3),.six (.idx (.zz 0) (.zz 2)) (.zz 1) (.int 0)|2]
theorem YW:kB DZ sP CP BM (top 6)=true:=by kernel_rfl
def NE:LS:=["rooms","came_from","waiting","here","there","room"]
def CD:LS:=["rooms"]
def kK:Need:=⟨[],["BEGIN"],["len"]⟩
noncomputable def yB:PT :=
  %[.ife (.and (.cmp .Gt (.zz 5) (.int 0)) (.cmp .NotIn (.zz 4) (.zz 1))) %[.six (.zz 1) (.zz 4) (.zz 3),.expr (.mt .append (.zz 2) %[.zz 4|1])|2] .nil|2]
noncomputable def aD:PT :=
  %[.set 3 (.mt .pop (.zz 2) %[.int 0|1]),.for_ (.tp [4,5]) .itm %[.idx (.zz 0) (.zz 3)|1] yB|2]
noncomputable def GE:PT :=
  %[.own 1 (.dsp (.glo "BEGIN") .non),.own 2 (.lst %[.glo "BEGIN"|1]),.whl (.cmp .Gt (.bi .len %[.zz 2|1]) (.int 0)) aD,.ret (.zz 1)|2]
theorem lJ:kB kK GE NE CD (top 7)=true:=by kernel_rfl
def cL:LS:=["rooms","came_from","last","there","here"]
def CI:LS:=["rooms","came_from","last"]
def US:Need:=⟨[],["BEGIN"],[]⟩
noncomputable def dE:PT :=
  %[.set 4 (.idx (.zz 1) (.zz 3)),.six (.idx (.zz 0) (.zz 4)) (.zz 3) (.bin .Sub (.idx (.idx (.zz 0) (.zz 4)) (.zz 3)) (.int 1)),.six (.idx (.zz 0) (.zz 3)) (.zz 4) (.bin .Add (.idx (.idx (.zz 0) (.zz 3)) (.zz 4)) (.int 1)),.set 3 (.zz 4)|2]
def rG:PT :=
  %[.set 3 (.zz 2),.whl (.cmp .NotEq (.zz 3) (.glo "BEGIN")) dE|2]
theorem xR:kB US rG cL CI (top 8)=true:=by kernel_rfl
def KJ:LS:=["rooms","first","goal","chain","name"]
def JH:LS:=["rooms","first","goal"]
def CQ:Need:=⟨["name_behind"],[],[]⟩
noncomputable def JD:PT :=
  %[.expr (.mt .append (.zz 3) %[.zz 4|1]),.set 4 (.call "name_behind" %[.zz 0,.zz 4|1])|2]
def ZF:PT :=
  %[.own 3 (.lst .xz),.set 4 (.zz 1),.whl (.cmp .NotEq (.zz 4) (.zz 2)) JD,.ret (.zz 3)|2]
theorem mO:kB CQ ZF KJ JH (top 9)=true:=by kernel_rfl
def VH:LS:=["rooms","name","here"]
def jG:LS:=["rooms","name"]
def IN:Need:=⟨[],[],[]⟩
noncomputable def cE:PT :=
  %[.set 2 (.tup %[.zz 1,.str "from"|1]),.ret (.idx (.comp [] ["there"] (.nm 0) .val %[.idx (.zz 0) (.zz 2)|1] (.and (.cmp .NotEq (.idx (.zz 0) (.int 0)) (.zz 2)) (.cmp .Gt (.idx (.idx (.zz 1) (.zz 0)) (.zz 3)) (.int 0))) (.idx (.zz 0) (.int 0))) (.int 0))|2]
theorem aN:kB IN cE VH jG (top 10)=true:=by kernel_rfl
def ZJ:LS:=["came_from"]
def iH:LS:=["came_from"]
def BQ:Need:=⟨[],[],["sorted"]⟩
noncomputable def YF:PT :=
  %[.ret (.bi .sorted %[.comp [] ["point"] (.nm 0) .val %[.zz 0|1] (.and (.cmp .Eq (.idx (.zz 0) (.int 1)) (.str "to")) (.cmp .NotIn (.tup %[.idx (.zz 0) (.int 0),.str "from"|1]) (.zz 1))) (.idx (.zz 0) (.int 0))|1])|2]
theorem lO:kB BQ YF ZJ iH (top 11)=true:=by kernel_rfl
def VG:LS:=["edges","seers","needs","ground","found","grown","name","number","chains"]
def DF:LS:=["edges","seers","needs"]
def TM:Need:=⟨["told_through"],[],["len"]⟩
noncomputable def iC:PT :=
  %[.ife (.cmp .NotIn (.zz 6) (.zz 4)) %[.set 8 (.idx (.call "told_through" %[.zz 0,.zz 1,.zz 4,.zz 6|1]) (.int 0)),.ife (.cmp .GtE (.bi .len %[.zz 8|1]) (.zz 7)) %[.expr (.mt .append (.zz 3) %[.tup %[.zz 6,.slc (.zz 8) .nop (.zz 7)|1]|1]),.expr (.mt .append (.zz 4) %[.zz 6|1]),.set 5 (.bl true)|2] .nil|2] .nil|2]
def aC:PT :=
  %[.set 5 (.bl false),.for_ (.tp [6,7]) .val %[.zz 2|1] iC|2]
noncomputable def JG:PT :=
  %[.own 3 (.comp [false,false,false,false,false,false,true,true] ["name","number"] (.tp [0,1]) .val %[.zz 2|1] (.cmp .In (.zz 0) (.zz 3)) (.tup %[.zz 0,.lst .xz|1])),.own 4 (.comp [false,false,false,false,false,false,true,false,true] ["name","chains"] (.tp [0,1]) .val %[.zz 3|1] .nop (.zz 0)),.set 5 (.bl true),.whl (.zz 5) aC,.ret (.zz 3)|2]
theorem ZL:kB TM JG VG DF (top 13)=true:=by kernel_rfl
def KG:LS:=["edges","seers","people","goal"]
def BF:LS:=["edges","seers","people","goal"]
def SM:Need:=⟨["apart_chains"],[],[]⟩
noncomputable def sD:PT :=
  %[.ret (.call "apart_chains" %[.comp [] ["edge"] (.nm 0) .val %[.zz 0|1] (.cmp .In (.idx (.zz 0) (.int 0)) (.zz 3)) (.zz 0),.zz 1,.zz 3|1])|2]
theorem YL:kB SM sD KG BF (top 14)=true:=by kernel_rfl
def C8:LS:=["world","events","past","taken","wrong","held","known","steps","number","believed","live"]
def oX:LS:=["world"]
def ij:Need:=⟨["going_order","is_taken","wrong_among","live_among","held_among"],[],[]⟩
noncomputable def JK:PT :=
  %[.own 4 (.call "wrong_among" %[.zz 0,.zz 2|1]),.set 10 (.call "live_among" %[.zz 1,.zz 3,.zz 4|1]),.set 5 (.call "held_among" %[.zz 0,.zz 2,.zz 10,.zz 6|1]),.expr (.mt .append (.zz 7) %[.tup %[.zz 8,.zz 9,.zz 10,.zz 5|1]|1])|2]
noncomputable def KN:PT :=
  (.seq (.set 9 (.call "is_taken" %[.zz 0,.idx (.zz 1) (.zz 8),.zz 4,.zz 5|1]))
  (.seq (.expr (.mt .append (.zz 2) %[.zz 8|1]))
  (.seq (.ife (.and (.zz 9) (.cmp .Eq (.idx (.idx (.zz 1) (.zz 8)) (.int 0)) (.str "tell"))) %[.expr (.mt .append (.zz 3) %[.zz 8|1])|2] .nil)
  JK)))
noncomputable def UW:PT :=
  %[.set 1 (.idx (.zz 0) (.int 3)),.own 2 (.lst .xz),.own 3 (.lst .xz),.own 4 (.dnew true),.set 5 (.lst .xz),.own 6 (.dnew true),.own 7 (.lst .xz),.for_ (.nm 8) .val %[.call "going_order" %[.zz 1|1]|1] KN,.ret (.zz 7)|2]
theorem yd:kB ij UW C8 oX (top 17)=true:=by kernel_rfl
def ON:LS:=["world","event","wrong","held","teller","hearer","matter"]
def SK:LS:=["world","event","wrong","held"]
def ZV:Need:=⟨["has_against","rank_of","floor_of"],[],[]⟩
noncomputable def eF:PT :=
  %[.ife (.cmp .Eq (.idx (.zz 1) (.int 0)) (.str "see")) %[.ret (.bl true)|2] .nil,.set 4 (.idx (.zz 1) (.int 2)),.set 5 (.idx (.zz 1) (.int 3)),.set 6 (.idx (.zz 1) (.int 4)),.ife (.or (.cmp .NotIn (.tup %[.zz 4,.zz 6|1]) (.zz 3)) (.cmp .In (.tup %[.zz 4,.zz 5|1]) (.zz 2))) %[.ret (.bl false)|2] .nil,.ret (.and (.cmp .GtE (.call "rank_of" %[.zz 0,.zz 4|1]) (.call "floor_of" %[.zz 0,.zz 5|1])) (.not (.call "has_against" %[.zz 0,.zz 3,.zz 5,.zz 6|1])))|2]
theorem IT:kB ZV eF ON SK (top 18)=true:=by kernel_rfl
def eP:LS:=["world","name"]
def iM:LS:=["world","name"]
def YZ:Need:=⟨[],[],[]⟩
noncomputable def nK:PT :=
  %[.ret (.idx (.comp [] ["person"] (.nm 0) .val %[.idx (.zz 0) (.int 0)|1] (.cmp .Eq (.idx (.zz 0) (.int 0)) (.zz 2)) (.idx (.zz 0) (.int 1))) (.int 0))|2]
theorem pW:kB YZ nK eP iM (top 19)=true:=by kernel_rfl
def PN:LS:=["world","name"]
def AK:LS:=["world","name"]
def VV:Need:=⟨[],[],[]⟩
noncomputable def bI:PT :=
  %[.ret (.idx (.comp [] ["person"] (.nm 0) .val %[.idx (.zz 0) (.int 0)|1] (.cmp .Eq (.idx (.zz 0) (.int 0)) (.zz 2)) (.idx (.zz 0) (.int 2))) (.int 0))|2]
theorem jU:kB VV bI PN AK (top 20)=true:=by kernel_rfl
def UH:LS:=["world","pairs","name","matter","rivals"]
def zG:LS:=["world","pairs","name","matter"]
def yO:Need:=⟨[],[],["any"]⟩
noncomputable def mE:PT :=
  %[.own 4 (.comp [] ["first","second"] (.tp [0,1]) .val %[.idx (.zz 0) (.int 2)|1] (.cmp .Eq (.zz 0) (.zz 5)) (.zz 1)),.expr (.mt .extend (.zz 4) %[.comp [] ["first","second"] (.tp [0,1]) .val %[.idx (.zz 0) (.int 2)|1] (.cmp .Eq (.zz 1) (.zz 5)) (.zz 0)|1]),.ret (.bi .any %[.comp [] ["rival"] (.nm 0) .val %[.zz 4|1] .nop (.cmp .In (.tup %[.zz 3,.zz 0|1]) (.zz 2))|1])|2]
theorem iN:kB yO mE UH zG (top 21)=true:=by kernel_rfl
def KH:LS:=["world","past","seen","wrong","number","event"]
def IF:LS:=["world","past"]
def EN:Need:=⟨["seen_among","has_against"],[],[]⟩
noncomputable def HF:PT :=
  %[.set 5 (.idx (.idx (.zz 0) (.int 3)) (.zz 4)),.ife (.and (.cmp .Eq (.idx (.zz 5) (.int 0)) (.str "tell")) (.cmp .NotIn (.tup %[.idx (.zz 5) (.int 3),.idx (.zz 5) (.int 4)|1]) (.zz 2))) %[.ife (.call "has_against" %[.zz 0,.zz 2,.idx (.zz 5) (.int 3),.idx (.zz 5) (.int 4)|1]) %[.six (.zz 3) (.tup %[.idx (.zz 5) (.int 2),.idx (.zz 5) (.int 3)|1]) (.bl true)|2] .nil|2] .nil|2]
noncomputable def bE:PT :=
  %[.own 2 (.call "seen_among" %[.idx (.zz 0) (.int 3),.zz 1|1]),.own 3 (.dnew true),.for_ (.nm 4) .val %[.zz 1|1] HF,.ret (.zz 3)|2]
theorem tN:kB EN bE KH IF (top 22)=true:=by kernel_rfl
def eJ:LS:=["events","past","seen","number"]
def rH:LS:=["events","past"]
def KQ:Need:=⟨[],[],[]⟩
noncomputable def pG:PT :=
  %[.ife (.cmp .Eq (.idx (.idx (.zz 0) (.zz 3)) (.int 0)) (.str "see")) %[.six (.zz 2) (.tup %[.idx (.idx (.zz 0) (.zz 3)) (.int 2),.idx (.idx (.zz 0) (.zz 3)) (.int 3)|1]) (.bl true)|2] .nil|2]
def nF:PT :=
  %[.own 2 (.dnew true),.for_ (.nm 3) .val %[.zz 1|1] pG,.ret (.zz 2)|2]
theorem cO:kB KQ nF eJ rH (top 23)=true:=by kernel_rfl
def iJ:LS:=["events","taken","wrong"]
def sH:LS:=["events","taken","wrong"]
def VQ:Need:=⟨[],[],["sorted"]⟩
noncomputable def sF:PT :=
  %[.ret (.bi .sorted %[.comp [] ["number"] (.nm 0) .val %[.zz 1|1] (.cmp .NotIn (.tup %[.idx (.idx (.zz 1) (.zz 0)) (.int 2),.idx (.idx (.zz 1) (.zz 0)) (.int 3)|1]) (.zz 3)) (.zz 0)|1])|2]
theorem dO:kB VQ sF iJ sH (top 24)=true:=by kernel_rfl
def YJ:LS:=["world","past","live","known","seen","holders","matter","web","held","person"]
def aH:LS:=["world","past","live","known"]
def UQ:Need:=⟨["seen_among","edges_of","seers_of","holders_in"],[],[]⟩
def FC:PT :=
  %[.six (.zz 5) (.zz 6) (.idx (.zz 3) (.zz 7))|2]
noncomputable def iD:PT :=
  (.seq (.set 7 (.tup %[.call "seers_of" %[.zz 0,.zz 4,.zz 6|1],.call "edges_of" %[.idx (.zz 0) (.int 3),.zz 2,.zz 6|1]|1]))
  (.seq (.ife (.cmp .NotIn (.zz 7) (.zz 3)) %[.six (.zz 3) (.zz 7) (.call "holders_in" %[.zz 0,.zz 7|1])|2] .nil)
  FC))
noncomputable def eD:PT :=
  %[.expr (.mt .extend (.zz 8) %[.comp [false,false,false,false,false,false,true] ["matter"] (.nm 0) .val %[.idx (.zz 0) (.int 1)|1] (.cmp .In (.idx (.zz 10) (.int 0)) (.idx (.zz 6) (.zz 0))) (.tup %[.idx (.zz 10) (.int 0),.zz 0|1])|1])|2]
noncomputable def JF:PT :=
  %[.own 4 (.call "seen_among" %[.idx (.zz 0) (.int 3),.zz 1|1]),.own 5 (.dnew false),.for_ (.nm 6) .val %[.idx (.zz 0) (.int 1)|1] iD,.own 8 (.lst .xz),.for_ (.nm 9) .val %[.idx (.zz 0) (.int 0)|1] eD,.ret (.zz 8)|2]
theorem gO:kB UQ JF YJ aH (top 25)=true:=by kernel_rfl
def FN:LS:=["world","seen","matter"]
def LK:LS:=["world","seen","matter"]
def aV:Need:=⟨[],[],["tuple"]⟩
noncomputable def zI:PT :=
  %[.ret (.bi .tuple %[.comp [] ["person"] (.nm 0) .val %[.idx (.zz 0) (.int 0)|1] (.cmp .In (.tup %[.idx (.zz 0) (.int 0),.zz 3|1]) (.zz 2)) (.idx (.zz 0) (.int 0))|1])|2]
theorem NT:kB aV zI FN LK (top 26)=true:=by kernel_rfl
def RN:LS:=["events","live","matter","tells"]
def IK:LS:=["events","live","matter"]
def XV:Need:=⟨[],[],["tuple"]⟩
noncomputable def cI:PT :=
  %[.set 3 (.comp [] ["number"] (.nm 0) .val %[.zz 1|1] (.cmp .Eq (.idx (.idx (.zz 1) (.zz 0)) (.int 4)) (.zz 3)) (.idx (.zz 1) (.zz 0))),.ret (.bi .tuple %[.comp [] ["event"] (.nm 0) .val %[.zz 3|1] .nop (.tup %[.idx (.zz 0) (.int 2),.idx (.zz 0) (.int 3)|1])|1])|2]
theorem yU:kB XV cI RN IK (top 27)=true:=by kernel_rfl
def JJ:LS:=["world","web"]
def tH:LS:=["world","web"]
def XQ:Need:=⟨["ground_alone","needs_of"],[],[]⟩
noncomputable def iF:PT :=
  %[.ret (.comp [] ["name","chains"] (.tp [0,1]) .val %[.call "ground_alone" %[.idx (.zz 1) (.int 1),.idx (.zz 1) (.int 0),.call "needs_of" %[.zz 0|1]|1]|1] .nop (.zz 0))|2]
theorem fO:kB XQ iF JJ tH (top 28)=true:=by kernel_rfl
def HN:LS:=["world"]
def OK:LS:=["world"]
def iV:Need:=⟨[],[],[]⟩
noncomputable def kI:PT :=
  %[.ret (.comp [] ["person"] (.nm 0) .val %[.idx (.zz 0) (.int 0)|1] .nop (.tup %[.idx (.zz 0) (.int 0),.idx (.zz 0) (.int 3)|1]))|2]
theorem RT:kB iV kI HN OK (top 29)=true:=by kernel_rfl
def XH:LS:=["world"]
def yG:LS:=["world"]
def jO:Need:=⟨["gone"],[],[]⟩
def fE:PT :=
  %[.ret (.tup %[.zz 0,.call "gone" %[.zz 0|1]|1])|2]
theorem eN:kB jO fE XH yG (top 31)=true:=by kernel_rfl
def CN:LS:=["world","person","matter"]
def GK:LS:=["world","person","matter"]
def sV:Need:=⟨["since_in","last_moment"],[],[]⟩
def jI:PT :=
  %[.ret (.call "since_in" %[.call "last_moment" %[.zz 0|1],.zz 1,.zz 2|1])|2]
theorem GT:kB sV jI CN GK (top 33)=true:=by kernel_rfl
def DN:LS:=["moment","person","matter","since","number","taken","live","held"]
def HK:LS:=["moment","person","matter"]
def tV:Need:=⟨[],[],[]⟩
noncomputable def mF:PT :=
  %[.ife (.cmp .NotIn (.tup %[.zz 1,.zz 2|1]) (.zz 7)) %[.set 3 .non|2] %[.ife (.cmp .Is (.zz 3) .non) %[.set 3 (.idx (.idx (.idx (.idx (.zz 0) (.int 0)) (.int 3)) (.zz 4)) (.int 1))|2] .nil|2]|2]
def yI:PT :=
  %[.set 3 .non,.for_ (.tp [4,5,6,7]) .val %[.idx (.zz 0) (.int 1)|1] mF,.ret (.zz 3)|2]
theorem MT:kB tV yI DN HK (top 34)=true:=by kernel_rfl
def fL:LS:=["_law_script","_law_k"]
def FI:LS:=["_law_script","_law_k"]
def CS:Need:=⟨[],[],["len"]⟩
noncomputable def eG:PT :=
  %[.ife (.cmp .Lt (.zz 1) (.bi .len %[.zz 0|1])) %[.ret (.idx (.zz 0) (.zz 1))|2] .nil,.ret (.int 0)|2]
theorem bR:kB CS eG fL FI (top 36)=true:=by kernel_rfl
def UP:LS:=["_law_cell","_law_k","_law_number"]
def XM:LS:=["_law_cell","_law_k"]
def BZ:Need:=⟨[],[],[]⟩
noncomputable def aK:PT :=
  %[.set 2 (.bin .Mod (.bin .Mult (.bin .Mod (.zz 0) (.int 2147483647)) (.bin .Add (.int 69621) (.bin .Mult (.bin .Mult (.int 1511) (.zz 1)) (.zz 1)))) (.int 2147483629)),.ret (.bin .Mod (.bin .Mult (.bin .Add (.zz 2) (.zz 1)) (.bin .Add (.bin .Add (.zz 2) (.bin .Mult (.int 5) (.zz 1))) (.int 1))) (.int 2147483587))|2]
theorem iW:kB BZ aK UP XM (top 37)=true:=by kernel_rfl
def dL:LS:=["_law_number","_law_size","_law_some","_law_word","_law_k"]
def DI:LS:=["_law_number","_law_size"]
def BS:Need:=⟨[],[],["range"]⟩
noncomputable def ZH:PT :=
  %[.set 3 (.bin .Add (.zz 3) (.idx (.zz 2) (.bin .Mod (.zz 0) (.int 26)))),.set 0 (.bin .FloorDiv (.zz 0) (.int 26))|2]
noncomputable def aG:PT :=
  %[.set 2 (.str "abcdefghijklmnopqrstuvwxyz"),.set 3 (.str ""),.for_ (.nm 4) .rng1 %[.zz 1|1] ZH,.ret (.zz 3)|2]
theorem uR:kB BS aG dL DI (top 38)=true:=by kernel_rfl
def ZP:LS:=["_law_word","_law_some","_law_kept"]
def ZM:LS:=["_law_word"]
def VZ:Need:=⟨[],[],[]⟩
noncomputable def rK:PT :=
  %[.set 1 (.str "abcdefghijklmnopqrstuvwxyz"),.set 2 (.lst %[.str "person",.str "matter",.str "against",.str "see",.str "tell",.str "by",.str "at",.str "who",.str "what",.str "since",.str "tellers"|1]),.ife (.or (.cmp .In (.zz 0) (.zz 2)) (.cmp .In (.zz 0) (.lst %[.str "wordings",.str "apart",.str "leans",.str "hidden",.str "strike",.str "quote",.str "ground",.str "cut"|1]))) %[.ret (.bin .Add (.slc (.zz 0) .nop (.ng 1)) (.idx (.zz 1) (.bin .Mod (.bin .Add (.mt .index (.zz 1) %[.idx (.zz 0) (.ng 1)|1]) (.int 13)) (.int 26))))|2] .nil,.ret (.zz 0)|2]
theorem tW:kB VZ rK ZP ZM (top 39)=true:=by kernel_rfl
noncomputable def JP:LS:=["_law_cell","_law_many","_law_longest","_law_some","_law_number","_law_base","_law_size","_law_at","_law_words_here","_law_k","_law_sign","_law_word"]
def YM:LS:=["_law_cell","_law_many","_law_longest"]
def KZ:Need:=⟨["_law_mixed","_law_letters","_law_spelt"],[],["range","list","reversed"]⟩
def TC:PT :=
  %[.expr (.mt .append (.zz 8) %[.call "_law_spelt" %[.zz 11|1]|1])|2]
noncomputable def tG:PT :=
  (.seq (.set 10 (.idx (.zz 3) (.bin .Mod (.bin .Add (.bin .FloorDiv (.zz 4) (.int 192)) (.zz 9)) (.int 26))))
  (.seq (.ife (.cmp .Eq (.bin .Mod (.zz 4) (.int 3)) (.int 0)) %[.set 11 (.bin .Add (.bin .Add (.slc (.zz 5) .nop (.zz 7)) (.zz 10)) (.slc (.zz 5) (.bin .Add (.zz 7) (.int 1)) (.zz 6)))|2] %[.ife (.cmp .Eq (.bin .Mod (.zz 4) (.int 3)) (.int 1)) %[.set 11 (.slc (.zz 5) .nop (.bin .Add (.int 1) (.bin .Mod (.bin .Add (.bin .FloorDiv (.zz 4) (.int 24)) (.zz 9)) (.zz 2))))|2] %[.set 11 (.slc (.bin .Add (.zz 10) (.call "_law_letters" %[.call "_law_mixed" %[.zz 0,.bin .Add (.zz 9) (.int 2)|1],.int 7|1])) .nop (.bin .Add (.int 1) (.bin .Mod (.call "_law_mixed" %[.zz 0,.bin .Add (.zz 9) (.int 40)|1]) (.zz 2))))|2]|2])
  TC))
noncomputable def pK:PT :=
  %[.set 3 (.str "abcdefghijklmnopqrstuvwxyz"),.set 4 (.call "_law_mixed" %[.zz 0,.int 1|1]),.set 5 (.call "_law_letters" %[.bin .Add (.bin .Mult (.zz 4) (.zz 4)) (.zz 4),.int 8|1]),.set 6 (.bin .Add (.int 1) (.bin .Mod (.bin .FloorDiv (.zz 4) (.int 3)) (.zz 2))),.set 7 (.bin .Mod (.bin .FloorDiv (.zz 4) (.int 24)) (.zz 6)),.own 8 (.lst .xz),.for_ (.nm 9) .rng1 %[.zz 1|1] tG,.ife (.cmp .Eq (.bin .Mod (.bin .FloorDiv (.zz 4) (.int 5000)) (.int 2)) (.int 1)) %[.ret (.lrv (.zz 8))|2] .nil,.ret (.zz 8)|2]
theorem sW:kB KZ pK JP YM (top 40)=true:=by kernel_rfl
def MN:LS:=["_law_name","_law_m","_law_floor","_law_rank"]
def PK:LS:=["_law_name","_law_m"]
def JV:Need:=⟨[],[],[]⟩
noncomputable def vI:PT :=
  %[.set 2 (.idx (.lst %[.int 0,.int 0,.int 0,.int 20,.int 50,.int 99|1]) (.bin .Mod (.zz 1) (.int 6))),.set 3 (.idx (.lst %[.int 99,.int 50,.int 20,.int 99,.int 0,.int 50,.int 99,.int 21|1]) (.bin .Mod (.bin .FloorDiv (.zz 1) (.int 6)) (.int 8))),.ret (.tup %[.zz 0,.zz 3,.zz 2,.idx (.lst %[.int 1,.int 1,.int 1,.int 2,.int 2,.int 3|1]) (.bin .Mod (.bin .FloorDiv (.zz 1) (.int 48)) (.int 6))|1])|2]
theorem AT:kB JV vI MN PK (top 41)=true:=by kernel_rfl
def gL:LS:=["_law_matters","_law_m","_law_found","_law_j","_law_k"]
def HI:LS:=["_law_matters","_law_m"]
def DS:Need:=⟨[],[],["range","len"]⟩
noncomputable def lE:PT :=
  %[.set 1 (.bin .FloorDiv (.zz 1) (.int 3)),.ife (.cmp .Eq (.bin .Mod (.zz 1) (.int 3)) (.int 0)) %[.expr (.mt .append (.zz 2) %[.tup %[.idx (.zz 0) (.zz 3),.idx (.zz 0) (.zz 4)|1]|1])|2] %[.ife (.cmp .Eq (.bin .Mod (.zz 1) (.int 3)) (.int 1)) %[.expr (.mt .append (.zz 2) %[.tup %[.idx (.zz 0) (.zz 4),.idx (.zz 0) (.zz 3)|1]|1])|2] .nil|2]|2]
def gE:PT :=
  %[.for_ (.nm 4) .rng1 %[.zz 3|1] lE|2]
def iG:PT :=
  %[.own 2 (.lst .xz),.for_ (.nm 3) .rng1 %[.bi .len %[.zz 0|1]|1] gE,.ret (.zz 2)|2]
theorem cR:kB DS iG gL HI (top 42)=true:=by kernel_rfl
noncomputable def KP:LS:=["_law_events","_law_teller","_law_matter","_law_most","_law_told","_law_here","_law_event_here"]
def KM:LS:=["_law_events","_law_teller","_law_matter","_law_most"]
def XZ:Need:=⟨[],[],["reversed","len","tuple"]⟩
noncomputable def PD:PT :=
  %[.ife (.and (.cmp .Eq (.idx (.zz 6) (.int 0)) (.str "tell")) (.and (.cmp .Eq (.idx (.zz 6) (.int 3)) (.zz 5)) (.and (.cmp .Eq (.idx (.zz 6) (.int 4)) (.zz 2)) (.cmp .Lt (.bi .len %[.zz 4|1]) (.zz 3))))) %[.expr (.mt .append (.zz 4) %[.idx (.zz 6) (.int 2)|1]),.set 5 (.idx (.zz 6) (.int 2))|2] .nil|2]
noncomputable def sK:PT :=
  %[.own 4 (.lst .xz),.set 5 (.zz 1),.for_ (.nm 6) .rev %[.zz 0|1] PD,.ret (.bi .tuple %[.zz 4|1])|2]
theorem aW:kB XZ sK KP KM (top 43)=true:=by kernel_rfl
noncomputable def BP:LS:=["_law_events","_law_names","_law_matters","_law_m","_law_time","_law_rest","_law_one","_law_matter","_law_word","_law_other","_law_quote_here"]
def UM:LS:=["_law_events","_law_names","_law_matters","_law_m"]
def CZ:Need:=⟨["_law_letters","_law_quote"],[],["len","tuple","range"]⟩
noncomputable def aF:PT :=
  %[.ret (.tup %[.str "tell",.zz 4,.idx (.zz 1) (.zz 6),.idx (.zz 1) (.zz 9),.zz 7,.zz 8,.zz 10|1])|2]
noncomputable def eK:PT :=
  (.seq (.set 4 (.idx (.lst %[.bin .Mod (.bin .FloorDiv (.zz 3) (.int 3)) (.int 5),.bin .Mod (.bin .FloorDiv (.zz 3) (.int 3)) (.int 30),.bin .Sub (.int 999999999) (.bin .Mod (.bin .FloorDiv (.zz 3) (.int 3)) (.int 4))|1]) (.bin .Mod (.zz 3) (.int 3))))
  (.seq (.set 5 (.bin .FloorDiv (.zz 3) (.int 40)))
  (.seq (.set 6 (.bin .Mod (.zz 5) (.bi .len %[.zz 1|1])))
  (.seq (.set 7 (.idx (.zz 2) (.bin .Mod (.bin .FloorDiv (.zz 5) (.int 7)) (.bi .len %[.zz 2|1]))))
  (.seq (.set 8 (.call "_law_letters" %[.zz 5,.bin .Add (.int 1) (.bin .Mod (.bin .FloorDiv (.zz 5) (.int 11)) (.int 8))|1]))
  (.seq (.ife (.cmp .Eq (.bin .Mod (.bin .FloorDiv (.zz 5) (.int 90)) (.int 4)) (.int 0)) %[.ret (.tup %[.str "see",.zz 4,.idx (.zz 1) (.zz 6),.zz 7,.zz 8|1])|2] .nil)
  (.seq (.set 9 (.bin .Mod (.bin .Add (.bin .Add (.zz 6) (.int 1)) (.bin .Mod (.bin .FloorDiv (.zz 5) (.int 360)) (.bin .Sub (.bi .len %[.zz 1|1]) (.int 1)))) (.bi .len %[.zz 1|1])))
  (.seq (.set 10 (.call "_law_quote" %[.zz 0,.idx (.zz 1) (.zz 6),.zz 7,.bin .Mod (.bin .FloorDiv (.zz 5) (.int 2500)) (.int 4)|1]))
  (.seq (.ife (.cmp .Eq (.bin .Mod (.bin .FloorDiv (.zz 5) (.int 10000)) (.int 5)) (.int 0)) %[.set 10 (.bi .tuple %[.comp [] ["_law_k"] (.nm 0) .rng1 %[.bin .Add (.int 1) (.bin .Mod (.bin .FloorDiv (.zz 5) (.int 2500)) (.int 3))|1] .nop (.idx (.zz 2) (.bin .Mod (.bin .Add (.bin .FloorDiv (.zz 6) (.int 50000)) (.bin .Mult (.int 2) (.zz 0))) (.bi .len %[.zz 2|1])))|1])|2] .nil)
  aF)))))))))
theorem JW:kB CZ eK BP UM (top 44)=true:=by kernel_rfl
def NN:LS:=["_law_cells","_law_many","_law_sums","_law_k","_law_cell"]
def RK:LS:=["_law_cells","_law_many"]
def YV:Need:=⟨[],[],["range","min","len","enumerate"]⟩
noncomputable def tF:PT :=
  %[.six (.zz 2) (.bin .Mod (.zz 3) (.zz 1)) (.bin .Add (.idx (.zz 2) (.bin .Mod (.zz 3) (.zz 1))) (.zz 4))|2]
noncomputable def xI:PT :=
  %[.own 2 (.comp [false,false,false,true] ["_law_k"] (.nm 0) .rng1 %[.bi .min %[.zz 1,.bi .len %[.zz 0|1]|1]|1] .nop (.int 0)),.for_ (.tp [3,4]) .enum %[.zz 0|1] tF,.ret (.zz 2)|2]
theorem ET:kB YV xI NN RK (top 45)=true:=by kernel_rfl
noncomputable def iP:LS:=["_law_script","_law_first","_law_second","_law_names","_law_matters","_law_people","_law_events","_law_k","_law_cell"]
def JM:LS:=["_law_script"]
noncomputable def ZZ:Need:=⟨["_law_mixed","_law_cell_at","_law_words","_law_person","_law_folded","_law_event","_law_against"],[],["enumerate"]⟩
noncomputable def sG:PT :=
  %[.expr (.mt .append (.zz 6) %[.call "_law_event" %[.zz 6,.zz 3,.zz 4,.call "_law_mixed" %[.zz 8,.bin .Add (.zz 7) (.int 3)|1]|1]|1])|2]
noncomputable def oK:PT :=
  %[.set 1 (.call "_law_mixed" %[.call "_law_cell_at" %[.zz 0,.int 0|1],.int 1|1]),.set 2 (.call "_law_mixed" %[.call "_law_cell_at" %[.zz 0,.int 1|1],.int 2|1]),.set 3 (.call "_law_words" %[.call "_law_cell_at" %[.zz 0,.int 0|1],.bin .Add (.int 2) (.bin .Mod (.zz 1) (.int 5)),.int 8|1]),.set 4 (.call "_law_words" %[.call "_law_cell_at" %[.zz 0,.int 1|1],.bin .Add (.int 1) (.bin .Mod (.zz 2) (.int 3)),.int 8|1]),.set 5 (.comp [false,false,false,false,false,false,false,true] ["_law_k","_law_name"] (.tp [0,1]) .enum %[.zz 3|1] .nop (.call "_law_person" %[.zz 1,.call "_law_mixed" %[.call "_law_cell_at" %[.zz 2,.int 0|1],.bin .Add (.int 10) (.zz 0)|1]|1])),.own 6 (.lst .xz),.for_ (.tp [7,8]) .enum %[.call "_law_folded" %[.slc (.zz 0) (.int 2) .nop,.int 18|1]|1] sG,.frz [6] (.ret (.tup %[.zz 5,.zz 4,.call "_law_against" %[.zz 4,.bin .FloorDiv (.zz 2) (.int 3)|1],.zz 6|1]))|2]
theorem rW:kB ZZ oK iP JM (top 46)=true:=by kernel_rfl
def VP:LS:=["_law_world_here","_law_m","_law_pairs_here","_law_person_here"]
def VM:LS:=["_law_world_here","_law_m"]
def UZ:Need:=⟨[],[],["range","min","len"]⟩
noncomputable def bL:PT :=
  %[.expr (.mt .extend (.zz 2) %[.comp [] ["_law_matter"] (.nm 0) .val %[.idx (.zz 0) (.int 1)|1] .nop (.tup %[.idx (.zz 4) (.int 0),.zz 0|1])|1])|2]
noncomputable def tK:PT :=
  %[.own 2 (.lst .xz),.for_ (.nm 3) .val %[.idx (.zz 0) (.int 0)|1] bL,.ret (.comp [] ["_law_k"] (.nm 0) .rng1 %[.bi .min %[.int 3,.bi .len %[.zz 2|1]|1]|1] .nop (.idx (.zz 3) (.bin .Mod (.bin .Add (.zz 2) (.bin .Mult (.int 7) (.zz 0))) (.bi .len %[.zz 3|1]))))|2]
theorem eW:kB UZ tK VP VM (top 47)=true:=by kernel_rfl
noncomputable def ZY:LS:=["_law_world_here","_law_steps","_law_pair","_law_due_here","_law_before","_law_step","_law_now"]
def oS:LS:=["_law_world_here","_law_steps","_law_pair"]
def Tb:Need:=⟨[],[],[]⟩
def uI:PT :=
  %[.set 4 (.zz 6)|2]
noncomputable def iK:PT :=
  (.seq (.set 6 (.cmp .In (.zz 2) (.idx (.zz 5) (.int 3))))
  (.seq (.ife (.and (.zz 6) (.not (.zz 4))) %[.expr (.mt .append (.zz 3) %[.idx (.idx (.idx (.zz 0) (.int 3)) (.idx (.zz 5) (.int 0))) (.int 1)|1])|2] .nil)
  uI))
noncomputable def lR:PT :=
  %[.own 3 (.lst .xz),.set 4 (.bl false),.for_ (.nm 5) .val %[.zz 1|1] iK,.ife (.not (.zz 4)) %[.ret .non|2] .nil,.ret (.idx (.zz 3) (.ng 1))|2]
theorem j8:kB Tb lR ZY oS (top 48)=true:=by kernel_rfl
def Ug:LS:=["_law_script","_law_world_here","_law_steps","_law_pair","_law_due_here","_law_found"]
def E4:LS:=["_law_script"]
noncomputable def xp:Need:=⟨["_law_world","gone","_law_pairs","_law_mixed","_law_cell_at","_law_due","since_of"],[],["isinstance","bool","int"]⟩
noncomputable def gR:PT :=
  %[.set 4 (.call "_law_due" %[.zz 1,.zz 2,.zz 3|1]),.set 5 (.call "since_of" %[.zz 1,.idx (.zz 3) (.int 0),.idx (.zz 3) (.int 1)|1]),.ife (.and (.cmp .Is (.zz 4) .non) (.cmp .IsNot (.zz 5) .non)) %[.ret (.bl false)|2] .nil,.ife (.cmp .IsNot (.zz 4) .non) %[.ife (.or (.not (.isi (.zz 5) (.bty "int" "int"))) (.or (.isi (.zz 5) (.bty "bool" "bool")) (.cmp .NotEq (.zz 5) (.zz 4)))) %[.ret (.bl false)|2] .nil|2] .nil|2]
noncomputable def f8:PT :=
  %[.set 1 (.call "_law_world" %[.zz 0|1]),.set 2 (.call "gone" %[.zz 1|1]),.for_ (.nm 3) .val %[.call "_law_pairs" %[.zz 1,.call "_law_mixed" %[.call "_law_cell_at" %[.zz 0,.int 1|1],.int 92|1]|1]|1] gR,.ret (.cmp .Eq (.zz 1) (.call "_law_world" %[.zz 0|1]))|2]
theorem Hk:kB xp f8 Ug E4 (top 49)=true:=by kernel_rfl
theorem gK(a b:Str):Qv (.str a) (.str b)=decide (a=b):=by rw[qC,decide_eq_true_iff];simp[Qv]
theorem HL(l:LS)(z:Str):((l.map PyData.str).any λy=>Qv y (.str z))=decide (z∈l):=by rw[QB9,qC,w8,decide_eq_true_iff];constructor;rintro⟨x,u,e⟩;have e:Qv (.str x) (.str z)=true:=e;rw[gK,decide_eq_true_iff]at e;exact e▸u;intro h;exact⟨z,h,by show Qv (.str z) (.str z)=true;rw[gK];exact dT rfl⟩
theorem bJ(l:LS):(l.map PyData.str).all FB=true:=by rw[List.all_map,Q4];exact λ_ _=>rfl
def Bc(g:Str)(cut:LS)(s:Str):Bool:=!decide (s=g)&&!decide (s∈cut)
inductive Led(es:rC)(st:LS)(g:Str)(cut:LS):Str->Prop
 |st {s:Str}:s∈st->Bc g cut s=true->Led es st g cut s
 |ed {a b:Str}:Led es st g cut a->(a,b)∈es->Bc g cut b=true->Led es st g cut b
theorem YQ:∀{ks ns:LS},ks.Nodup->(∀s∈ks,s∈ns)->ks.length<=ns.length
 |[],_,_,_=>Qt _|s::r,ns,h,hs=>by obtain⟨k,u⟩:=Qh.mp h;have z:=hs s QF;have:=YQ (ks:=r) (ns:=ns.erase s) u λx y=>(QBF (λ(e:x=s)=>k (e▸y))).mpr (hs x (QD _ y));rw[QAX z]at this;have f:=QAu z;rw[QM];omega
def one(y:Str):Prop:=∃c,c<128/\y=⟨#[c]⟩
def pr(p:Str×Str):D:=.tuple [.str p.1,.str p.2]
theorem pY{α h:Type}(f:α->h)(l:List α)(a b:Option Int):gJ (l.map f) a b=(gJ l a b).map f:=by unfold gJ;rw[QE,List.map_take,List.map_drop]
noncomputable abbrev Pt:=Str×Str
theorem uQ(h:pr p=pr q):p=q:=by obtain⟨a,b⟩:=p;obtain⟨c,d⟩:=q;injection h with h;injection h with h1 h;injection h with h2 _;injection h1 with h1;injection h2 with h2;exact QCX h1 h2
theorem B7{x k:D}{r:List D}(h:x≠k):cA (x::r) k=(cA r k).map (·+1):=by unfold cA;rw[if_neg h];cases r<;>rfl
theorem df{x k:D}{r:List D}(h:x=k):cA (x::r) k=some 0:=by unfold cA;rw[if_pos h]
def look{α:Type}:List (Pt×α)->Pt->Option α
 |[],_=>none|e::l,p=>if e.1=p then some e.2 else look l p
noncomputable def put{α:Type}:List (Pt×α)->Pt->α->List (Pt×α)
 |[],p,v=>[(p,v)]|e::l,p,v=>if e.1=p then(e.1,v)::l else e::put l p v
def UC{α:Type}(l:List (Pt×α)):List D:=l.map λe=>pr e.1
theorem cK{α:Type}{p:Pt}:∀{l:List (Pt×α)},look l p=none->cA (UC l) (pr p)=none/\∀w,put l p w=l++[(p,w)]
 |[],_=>⟨rfl,λ_=>rfl⟩|e::l,h=>by unfold look at h;by_cases c:e.1=p;rw[if_pos c]at h;cases h;rw[if_neg c]at h;obtain⟨y,x⟩:=cK h;refine⟨?_,λw=>?_⟩;show cA (pr e.1::UC l) (pr p)=none;rw[B7 (λz=>c (uQ z)),y];rfl;show(if e.1=p then(e.1,w)::l else e::put l p w)=_;rw[if_neg c,x];rfl
theorem sC{α:Type}{p:Pt}{v:α}(f:α->T):∀{l:List (Pt×α)},look l p=some v->∃n,cA (UC l) (pr p)=some n/\(l.map λe=>f e.2)[n]?=some (f v)/\∀w,UC (put l p w)=UC l/\(l.map λe=>f e.2).set n (f w)=(put l p w).map λe=>f e.2
 |[],h=>by cases h|e::l,h=>by unfold look at h;by_cases c:e.1=p;rw[if_pos c]at h;injection h with h;refine⟨0,?_,?_,λw=>?_⟩;exact df (congrArg pr c);show some (f e.2)=_;rw[h];have:put (e::l) p w=(e.1,w)::l:=if_pos c;rw[this];exact⟨rfl,rfl⟩;rw[if_neg c]at h;obtain⟨n,i,k,u⟩:=sC f h;refine⟨n+1,?_,k,λw=>?_⟩;show cA (pr e.1::UC l) (pr p)=some (n+1);rw[B7 (λz=>c (uQ z)),i];rfl;have:put (e::l) p w=e::put l p w:=if_neg c;rw[this];obtain⟨y,x⟩:=u w;refine⟨?_,?_⟩;show pr e.1::UC (put l p w)=pr e.1::UC l;rw[y];show f e.2::(l.map λe=>f e.2).set n (f w)=f e.2::(put l p w).map λe=>f e.2;rw[x]
theorem mD{α:Type}{p q:Pt}{w:α}:∀{l:List (Pt×α)},look (put l p w) q=if p=q then some w else look l q
 |[]=>rfl|e::l=>by
  by_cases c:e.1=p;have h:put (e::l) p w=(e.1,w)::l:=if_pos c;rw[h];show(if e.1=q then some w else look l q)=if p=q then some w else(if e.1=q then some e.2 else look l q)
  rw[c];split<;>rfl;have h:put (e::l) p w=e::put l p w:=if_neg c;rw[h];show(if e.1=q then some e.2 else look (put l p w) q)=if p=q then some w else(if e.1=q then some e.2 else look l q)
  rw[mD];by_cases d:e.1=q;rw[if_pos d,if_pos d,if_neg (λz=>c (d.trans z.symm))];rw[if_neg d,if_neg d]
theorem mX{α:Type}{p:Pt}{w:α}:∀{l:List (Pt×α)},(put l p w).length<=l.length+1
 |[]=>QZ _|e::l=>by by_cases c:e.1=p;rw[show put (e::l) p w=(e.1,w)::l from if_pos c,QM,QM];omega;have:=mX (p:=p) (w:=w) (l:=l);rw[show put (e::l) p w=e::put l p w from if_neg c,QM,QM];omega
theorem TB(p:Pt):UD true (pr p):=⟨[.s p.1,.s p.2],rfl,by simp[c6,nkds]⟩
noncomputable abbrev Inn:=List (Pt×Int)
noncomputable abbrev Rm:=List (Pt×Inn)
def pD(l:Inn):T:=.dct true (UC l) (l.map λe=>T.d (.int e.2))
def KA(r:Rm):T:=.dct true (UC r) (r.map λe=>pD e.2)
def sdf(r:Rm)(p:Pt):Rm:=match look r p with
 |some _=>r|none=>r++[(p,[])]
theorem bX(hl:r.length<sizeLine)(q:Q (KA (sdf r p))):An (.d (pr p)) (KA r) Q:=by
 refine⟨UC r,_,rfl,TB p,by unfold UC;rw[QE];exact hl,?_⟩;unfold sdf at q;cases h:look r p with
 |some v=>rw[h]at q;obtain⟨n,x,_⟩:=sC pD h;exact .inl ⟨n,x,q⟩|none =>
  rw[h]at q;refine .inr ⟨(cK h).1,?_⟩;have e:KA (r++[(p,[])])=.dct true (UC r++[pr p]) ((r.map λe=>pD e.2)++[.dct true [] []]):=by unfold KA UC;rw[QO,QO];rfl
  show Q (T.dct true (UC r++[pr p]) ((r.map λe=>pD e.2)++[.dct true [] []]));rw[<- e];exact q
theorem MP(hl:l.length<sizeLine)(q:Q (pD (put l p v))):ue (pD l) (.d (pr p)) (.d (.int v)) Q:=by
 refine⟨TB p,by unfold UC;rw[QE];exact hl,?_⟩;have e:IJ true (UC l) (l.map λe=>T.d (.int e.2)) (pr p) (.d (.int v))=pD (put l p v):=by
  unfold IJ;cases h:look l p with|none=>obtain⟨x,y⟩:=cK h;rw[x,y];unfold pD UC;rw[QO,QO];rfl|some u=>obtain⟨n,x,y,f⟩:=sC (λi:Int=>T.d (.int i)) h;rw[x];obtain⟨k,z⟩:=f v;show T.dct true (UC l) ((l.map λe=>T.d (.int e.2)).set n (T.d (.int v)))=_;unfold pD;rw[k,z]
 show Q (IJ true (UC l) (l.map λe=>T.d (.int e.2)) (pr p) (.d (.int v)));rw[e];exact q
theorem aI{Q:T->(T->T)->Prop}(h:look r p=some l)(q:∀f:T->T,(∀x,f (pD x)=KA (put r p x))->Q (pD l) f):Gn (.d (pr p)) (KA r) Q:=by obtain⟨n,i,k,u⟩:=sC pD h;refine⟨true,UC r,_,n,pD l,rfl,TB p,i,k,q _ λx=>?_⟩;obtain⟨z,y⟩:=u x;show T.dct true (UC r) ((r.map λe=>pD e.2).set n (pD x))=_;unfold KA;rw[z,y]
def YA:Pt:=("","begin")
def tO(n:Str):Pt:=(n,"to")
def fR(n:Str):Pt:=(n,"from")
theorem ju:("begin":Str)≠"to":=by decide +kernel
theorem yu:("begin":Str)≠"from":=by decide +kernel
theorem Et:("to":Str)≠"from":=by decide +kernel
theorem PB:YA≠tO a:=λh=>ju (congrArg QCJ h)
theorem FE:YA≠fR a:=λh=>yu (congrArg QCJ h)
theorem LA:tO a≠fR b:=λh=>Et (congrArg QCJ h)
theorem BB(h:tO a=tO b):a=b:=congrArg qz h
theorem EH(h:fR a=fR b):a=b:=congrArg qz h
def A1(p q:Pt):Prop:=(p=YA/\∃n,q=tO n)∨(∃n,p=tO n/\q=fR n)∨(∃a b,a≠b/\p=fR a/\q=tO b)
theorem fF(h:A1 p q):¬ A1 q p:=by
 rintro k;rcases h with⟨rfl,n,rfl⟩| ⟨n,rfl,rfl⟩| ⟨a,b,u,rfl,rfl⟩<;>rcases k with⟨x,m,y⟩| ⟨m,x,y⟩| ⟨c,d,z,x,y⟩
 exact PB x.symm;exact FE y;exact LA x;exact FE x.symm;exact LA x.symm;exact z ((EH x).symm.trans (BB y));exact PB x.symm;exact u ((EH y).trans (BB x).symm);exact LA x
theorem uG(h:A1 p q):p≠q:=λe=>fF h (by rw[e]at h ⊢;exact h)
noncomputable abbrev Wy:=Pt×Pt×Int
def lk(r:Rm)(p:Pt):Inn:=(look r p).getD []
noncomputable def tB(r:Rm)(w:Wy):Rm:=put (put (sdf (sdf r w.1) w.2.1) w.1 (put (lk (sdf (sdf r w.1) w.2.1) w.1) w.2.1 w.2.2)) w.2.1 (put (lk (put (sdf (sdf r w.1) w.2.1) w.1 (put (lk (sdf (sdf r w.1) w.2.1) w.1) w.2.1 w.2.2)) w.2.1) w.1 0)
theorem MS{α:Type}{p q:Pt}{v:α}:∀{l:List (Pt×α)},look (l++[(p,v)]) q=(look l q).or (if p=q then some v else none)
 |[]=>rfl|e::l=>by show(if e.1=q then some e.2 else look (l++[(p,v)]) q)=(if e.1=q then some e.2 else look l q).or (if p=q then some v else none);by_cases c:e.1=q;rw[if_pos c,if_pos c];rfl;rw[if_neg c,if_neg c];exact MS
theorem HS:look (sdf r p) q=(look r q).or (if p=q then some [] else none):=by
 unfold sdf;cases h:look r p with
 |some v =>
  show look r q=_;cases y:look r q with
  |some x=>rfl|none =>
   show none=if p=q then some [] else none
   rw[if_neg];intro e;rw[e,y]at h;cases h
 |none=>show look (r++[(p,[])]) q=_;exact MS
theorem IP:(sdf r p).length<=r.length+1:=by unfold sdf;split;omega;rw[QI,qF];omega
theorem UI{α:Type}{p:Pt}{w:α}{e:Pt×α}:∀{l:List (Pt×α)},e∈put l p w->e=(p,w)∨e∈l
 |[],h=>.inl (QJ.mp h)|x::l,h=>by by_cases c:x.1=p;rw[show put (x::l) p w=(x.1,w)::l from if_pos c]at h;rcases QL.mp h with h|h;exact .inl (by rw[h,c]);exact .inr (QD _ h);rw[show put (x::l) p w=x::put l p w from if_neg c]at h;rcases QL.mp h with h|h;exact .inr (by rw[h];exact QF);exact(UI h).imp_right (QD _)
theorem kQ{α:Type}{p:Pt}{w:α}{q:Pt}:∀{l:List (Pt×α)},(∃v,(q,v)∈put l p w)↔q=p∨∃v,(q,v)∈l
 |[]=>by
  constructor;rintro⟨v,h⟩;exact .inl (congrArg qz (QJ.mp h));rintro(rfl|⟨v,h⟩)
  ·exact⟨w,QJ.mpr rfl⟩
  exact(nomatch h)
 |x::l=>by
  by_cases c:x.1=p;rw[show put (x::l) p w=(x.1,w)::l from if_pos c];constructor;rintro⟨v,h⟩;rcases QL.mp h with h|h;exact .inl ((congrArg qz h).trans c);exact .inr ⟨v,QD _ h⟩;rintro(rfl|⟨v,h⟩)
  ·exact⟨w,by rw[c];exact QF⟩
  rcases QL.mp h with h|h
  ·exact⟨w,by rw[<- h];exact QF⟩
  exact⟨v,QD _ h⟩;rw[show put (x::l) p w=x::put l p w from if_neg c];have y:=kQ (p:=p) (w:=w) (q:=q) (l:=l);constructor;rintro⟨v,h⟩;rcases QL.mp h with h|h;exact .inr ⟨v,by rw[h];exact QF⟩;exact(y.mp ⟨v,h⟩).imp_right λ⟨v,h⟩=>⟨v,QD _ h⟩
  rintro(h|⟨v,h⟩)
  ·obtain⟨v,h⟩:=y.mpr (.inl h)
   exact⟨v,QD _ h⟩
  rcases QL.mp h with h|h
  ·exact⟨v,by rw[h];exact QF⟩
  obtain⟨v,h⟩:=y.mpr (.inr ⟨v,h⟩);exact⟨v,QD _ h⟩
def E1(r:Rm)(p q:Pt):Prop:=∃v,(q,v)∈lk r p
def Key(r:Rm)(p:Pt):Prop:=∃l,look r p=some l
def Pos(r:Rm):Prop:=∀p,∀e∈lk r p,(0<e.2↔A1 p e.1)
def S8(r:Rm):Prop:=∀p q,E1 r p q->Key r q
def Sz(r:Rm)(n:Nat):Prop:=r.length<=n/\∀p,(lk r p).length<=n
theorem vE:lk (put r p l) q=if p=q then l else lk r q:=by unfold lk;rw[mD];split<;>rfl
theorem kE:lk (sdf r p) q=lk r q:=by
 unfold lk;rw[HS];cases look r q with|some x=>rfl|none=>show(if p=q then some [] else none).getD []=[];split<;>rfl
theorem zJ:Key (put r p l) q↔p=q∨Key r q:=by unfold Key;rw[mD];by_cases h:p=q;rw[if_pos h];exact⟨λ_=>.inl h,λ_=>⟨_,rfl⟩⟩;rw[if_neg h];exact⟨.inr,λz=>z.resolve_left h⟩
theorem HD:Key (sdf r p) q↔p=q∨Key r q:=by
 unfold Key;rw[HS];cases look r q with|some x=>exact⟨λ_=>.inr ⟨_,rfl⟩,λ_=>⟨_,rfl⟩⟩|none=>show(∃l,(if p=q then some [] else none)=some l)↔_;by_cases h:p=q;rw[if_pos h];exact⟨λ_=>.inl h,λ_=>⟨_,rfl⟩⟩;rw[if_neg h];exact⟨λ⟨_,e⟩=>(nomatch e),λz=>(z.resolve_left h)⟩
theorem yJ(h:w.1≠w.2.1)(p:Pt):lk (tB r w) p=if w.2.1=p then put (lk r p) w.1 0 else if w.1=p then put (lk r p) w.2.1 w.2.2 else lk r p:=by unfold tB;rw[vE,vE,vE,kE,kE,kE,kE,if_neg h,kE,kE];by_cases y:w.2.1=p;rw[if_pos y,if_pos y,y];rw[if_neg y,if_neg y];by_cases x:w.1=p;rw[if_pos x,if_pos x,x];rw[if_neg x,if_neg x]
theorem cG:Key (tB r w) p↔p=w.1∨p=w.2.1∨Key r p:=by
 unfold tB;rw[zJ,zJ,HD,HD];constructor;rintro(h|h|h|h|h)
 ·exact .inr (.inl h.symm)
 exact .inl h.symm;exact .inr (.inl h.symm);exact .inl h.symm;exact .inr (.inr h);rintro(h|h|h)
 ·exact .inr (.inl h.symm)
 exact .inl h.symm;exact .inr (.inr (.inr (.inr h)))
theorem dJ(h:w.1≠w.2.1):E1 (tB r w) p q↔E1 r p q∨(p=w.1/\q=w.2.1)∨(p=w.2.1/\q=w.1):=by
 unfold E1;rw[yJ h];by_cases x:w.2.1=p;rw[if_pos x,kQ];constructor;rintro(e|e)
 ·exact .inr (.inr ⟨x.symm,e⟩)
 exact .inl e;rintro(e|⟨u,y⟩| ⟨u,y⟩)
 ·exact .inr e
 exact absurd (u.symm.trans x.symm) h;exact .inl y;rw[if_neg x];by_cases k:w.1=p;rw[if_pos k,kQ];constructor;rintro(e|e)
 ·exact .inr (.inl ⟨k.symm,e⟩)
 exact .inl e;rintro(e|⟨u,y⟩| ⟨u,y⟩)
 ·exact .inr e
 exact .inl y;exact absurd u.symm x;rw[if_neg k];exact⟨.inl,λz=>z.elim id λz=>z.elim (λe=>absurd e.1.symm k) λe=>absurd e.1.symm x⟩
def CG(w:Wy):Prop:=A1 w.1 w.2.1/\0<w.2.2
theorem z5(g:CG w)(y:Pos r):Pos (tB r w):=by intro p e h;rw[yJ (uG g.1)]at h;by_cases k:w.2.1=p;rw[if_pos k]at h;rcases UI h with z|z;rw[z,<- k];exact⟨λx=>absurd x (wg 0),λx=>absurd x (fF g.1)⟩;exact y p e z;rw[if_neg k]at h;by_cases u:w.1=p;rw[if_pos u]at h;rcases UI h with z|z;rw[z,<- u];exact⟨λ_=>g.1,λ_=>g.2⟩;exact y p e z;rw[if_neg u]at h;exact y p e h
theorem L7(g:CG w)(x:S8 r):S8 (tB r w):=by
 intro p q h;rw[cG];rcases(dJ (uG g.1)).mp h with h|⟨_,h⟩| ⟨_,h⟩
 exact .inr (.inr (x p q h));exact .inr (.inl h);exact .inl h
theorem sM{α:Type}{w:α}{l:List (Pt×α)}{n:Nat}(h:l.length<=n):(put l p w).length<=n+1:=QU mX (by omega)
theorem vQ{α:Type}{p:Pt}{w:α}:∀{l:List (Pt×α)},(look l p).isSome=true->(put l p w).length=l.length
 |[],h=>by cases h|e::l,h=>by by_cases c:e.1=p;rw[show put (e::l) p w=(e.1,w)::l from if_pos c];rfl;rw[show put (e::l) p w=e::put l p w from if_neg c,QM,QM];rw[show look (e::l) p=look l p from if_neg c]at h;rw[vQ h]
theorem jT(h:Key r p):(look r p).isSome=true:=by obtain⟨l,e⟩:=h;rw[e];rfl
theorem F6:(tB r w).length<=r.length+2:=by have x:Key (sdf (sdf r w.1) w.2.1) w.1:=HD.mpr (.inr (HD.mpr (.inl rfl)));have h:Key (sdf (sdf r w.1) w.2.1) w.2.1:=HD.mpr (.inl rfl);unfold tB;rw[vQ (jT (zJ.mpr (.inr h))),vQ (jT x)];have:=IP (r:=r) (p:=w.1);have:=IP (r:=sdf r w.1) (p:=w.2.1);omega
theorem tI{n:Nat}(g:w.1≠w.2.1)(h:Sz r n):Sz (tB r w) (n+2):=by
 refine⟨QU F6 (by have:=h.1;omega),λp=>?_⟩;rw[yJ g];have x:=h.2 p;split;exact QU (sM x) (by omega);split
 ·exact QU (sM x) (by omega)
 omega
theorem lY:∀{ws:List Wy}{r:Rm},(∀w∈ws,CG w)->∀{p q:Pt},E1 (ws.foldl tB r) p q↔E1 r p q∨(∃v,(p,q,v)∈ws)∨∃v,(q,p,v)∈ws
 |[],r,_,p,q=>⟨.inl,λz=>z.elim id λz=>z.elim (λ⟨_,z⟩=>(nomatch z)) λ⟨_,z⟩=>(nomatch z)⟩
 |w::ws,r,h,p,q=>by
  rw[W7,lY (λw x=>h w (QD _ x)),dJ (uG (h w QF).1)];constructor;rintro((z|⟨rfl,rfl⟩| ⟨rfl,rfl⟩)|⟨v,z⟩| ⟨v,z⟩)
  ·exact .inl z
  exact .inr (.inl ⟨_,QF⟩);exact .inr (.inr ⟨_,QF⟩);exact .inr (.inl ⟨v,QD _ z⟩);exact .inr (.inr ⟨v,QD _ z⟩);rintro(z|⟨v,z⟩| ⟨v,z⟩)
  ·exact .inl (.inl z)
  rcases QL.mp z with z|z
  ·rw[<- z]
   exact .inl (.inr (.inl ⟨rfl,rfl⟩))
  exact .inr (.inl ⟨v,z⟩);rcases QL.mp z with z|z
  ·rw[<- z]
   exact .inl (.inr (.inr ⟨rfl,rfl⟩))
  exact .inr (.inr ⟨v,z⟩)
theorem mU:∀{ws:List Wy}{r:Rm}{n:Nat},(∀w∈ws,CG w)->Pos r->S8 r->Key r YA->Sz r n->Pos (ws.foldl tB r)/\S8 (ws.foldl tB r)/\Key (ws.foldl tB r) YA/\Sz (ws.foldl tB r) (n+2 * ws.length)
 |[],r,n,_,h1,h2,h3,h4=>⟨h1,h2,h3,h4⟩|w::ws,r,n,h,h1,h2,h3,h4=>by have g:=h w QF;have:=mU (ws:=ws) (r:=tB r w) (n:=n+2) (λw x=>h w (QD _ x)) (z5 g h1) (L7 g h2) (cG.mpr (.inr (.inr h3))) (tI (uG g.1) h4);rw[W7,QM,show n+2 * (ws.length+1)=n+2+2 * ws.length by omega];exact this
def YR(g:Str)(n:Str):List Wy:=if n=g then[] else[(tO n,fR n,1),(YA,tO n,2)]
noncomputable def VU(g:Str)(e:Str×Str):List Wy:=if e.1=g∨e.1=e.2 then[] else[(tO e.1,fR e.1,1),(tO e.2,fR e.2,1),(fR e.1,tO e.2,2)]
def pH:Rm:=[(YA,[])]
def jA(es:rC)(st:LS)(g:Str):Rm:=(es.flatMap (VU g)).foldl tB ((st.flatMap (YR g)).foldl tB pH)
theorem Us:(0:Int)<1:=by decide
theorem sw:(0:Int)<2:=by decide
theorem NW:(YR g n).length<=2:=by unfold YR;split;exact Qt _;exact QZ _
theorem OW:(VU g e).length<=3:=by unfold VU;split;exact Qt _;exact QZ _
theorem ML:∀w∈YR g n,CG w:=by
 intro w h;unfold YR at h;split at h;exact(nomatch h);rcases QL.mp h with rfl|h
 ·exact⟨.inr (.inl ⟨n,rfl,rfl⟩),Us⟩
 rw[QJ.mp h];exact⟨.inl ⟨rfl,n,rfl⟩,sw⟩
theorem NL:∀w∈VU g e,CG w:=by
 intro w x;unfold VU at x;split at x;exact(nomatch x);rename_i h;rcases QL.mp x with rfl|x;exact⟨.inr (.inl ⟨e.1,rfl,rfl⟩),Us⟩;rcases QL.mp x with rfl|x
 ·exact⟨.inr (.inl ⟨e.2,rfl,rfl⟩),Us⟩
 rw[QJ.mp x];exact⟨.inr (.inr ⟨e.1,e.2,λz=>h (.inr z),rfl,rfl⟩),sw⟩
theorem lN{α:Type}{f:α->List Wy}{k:Nat}(h:∀x,(f x).length<=k):∀(l:List α),(l.flatMap f).length<=k * l.length
 |[]=>QZ _|x::l=>by have:=lN h l;have:=h x;rw[QAY,QI,QM,Nat.mul_succ];omega
theorem kH{α:Type}{f:α->List Wy}(h:∀x,∀w∈f x,CG w)(l:List α):∀w∈l.flatMap f,CG w:=λw z=>by obtain⟨x,_,y⟩:=WC.mp z;exact h x w y
structure RmOk(r:Rm)(n:Nat):Prop where
 pos:Pos r
 dom:S8 r
 bg:Key r YA
 sz:Sz r n
theorem JE:RmOk pH 1:=by
 have e:∀p,lk pH p=[]:=λp=>by show(if YA=p then some [] else none).getD []=[];split<;>rfl
 refine⟨λp y x=>?_,λp q ⟨v,h⟩=>?_,⟨[],if_pos rfl⟩,QZ _,λp=>?_⟩;rw[e]at x;exact(nomatch x);rw[e]at h;exact(nomatch h);rw[e];exact Qt _
theorem RmOk.add{r:Rm}{n:Nat}(h:RmOk r n){ws:List Wy}(g:∀w∈ws,CG w):RmOk (ws.foldl tB r) (n+2 * ws.length):=by obtain⟨u,z,y,x⟩:=mU g h.pos h.dom h.bg h.sz;exact⟨u,z,y,x⟩
theorem iS{es:rC}{st:LS}(z:es.length<=126)(y:st.length<=11):RmOk (jA es st g) 1000:=by have a:=(JE.add (kH (f:=YR g) (λ_=>ML) st)).add (kH (f:=VU g) (λ_=>NL) es);have x:=lN (f:=YR g) (k:=2) (λ_=>NW) st;have h:=lN (f:=VU g) (k:=3) (λ_=>OW) es;exact⟨a.pos,a.dom,a.bg,QU a.sz.1 (by omega),λp=>QU (a.sz.2 p) (by omega)⟩
def Of(r:Rm)(p q:Pt):Prop:=∃v,(q,v)∈lk r p/\0<v
inductive Rch(r:Rm):Pt->Prop
 |bg:Rch r YA
 |go {p q:Pt}:Rch r p->Of r p q->Rch r q
theorem Ep:(p,q,v)∈YR g n↔n≠g/\((p,q,v)=(tO n,fR n,1)∨(p,q,v)=(YA,tO n,2)):=by unfold YR;split;rename_i h;exact⟨λz=>(nomatch z),λz=>absurd h z.1⟩;rename_i h;rw[QL,QJ];exact⟨λz=>⟨h,z⟩,λz=>z.2⟩
theorem Ip:(p,q,v)∈VU g e↔(e.1≠g/\e.1≠e.2)/\((p,q,v)=(tO e.1,fR e.1,1)∨(p,q,v)=(tO e.2,fR e.2,1)∨(p,q,v)=(fR e.1,tO e.2,2)):=by unfold VU;split;rename_i h;exact⟨λz=>(nomatch z),λz=>h.elim (λh=>absurd h z.1.1) λh=>absurd h z.1.2⟩;rename_i h;rw[QL,QL,QJ];exact⟨λz=>⟨⟨λe=>h (.inl e),λe=>h (.inr e)⟩,z⟩,λz=>z.2⟩
theorem UE{cut:LS}{s:Str}:Bc g cut s=true↔s≠g/\s∉cut:=by unfold Bc;rw[QW,Q5,Q5,decide_eq_false_iff_not,decide_eq_false_iff_not]
end
section
variable{es:rC}{st:LS}{g:Str}{x:LS}
theorem kN{s:Str}(h:Led es st g x s):s≠g/\s∉x:=by
 cases h with|st _ h=>exact UE.mp h|ed _ _ h=>exact UE.mp h
end
section
variable{r:Rm}{ks:List Pt}{vs:List D}
theorem U3:∀{ws:List Wy}{r:Rm}{n:Nat},(∀w∈ws,CG w)->Sz r n->Sz (ws.foldl tB r) (n+2 * ws.length)
 |[],r,n,_,h4=>h4|w::ws,r,n,h,h4=>by have:=U3 (ws:=ws) (r:=tB r w) (n:=n+2) (λw x=>h w (QD _ x)) (tI (uG (h w QF).1) h4);rw[W7,QM,show n+2 * (ws.length+1)=n+2+2 * ws.length by omega];exact this
inductive CF(r:Rm):List Pt->List D->Prop
 |bg:CF r [YA] [.none]
 |add {ks:List Pt}{vs:List D}{p q:Pt}:CF r ks vs->p∈ks->Of r p q->q∉ks->CF r (ks++[q]) (vs++[pr p])
theorem CF.len(h:CF r ks vs):vs.length=ks.length:=by
 induction h with|bg=>rfl|add _ _ _ _ x=>rw[QI,QI,x];rfl
theorem CF.hb(h:CF r ks vs):YA∈ks:=by
 induction h with|bg=>exact QF|add _ _ _ _ x=>exact Qn _ x
theorem CF.rch(h:CF r ks vs):∀k∈ks,Rch r k:=by
 induction h with|bg=>intro k hk;rw[QJ.mp hk];exact .bg|add _ y w _ x=>intro k hk;rcases Qf.mp hk with z|z;exact x k z;rw[QJ.mp z];exact .go (x _ y) w
theorem CF.nd(h:CF r ks vs):ks.Nodup:=by
 induction h with
 |bg=>exact Qh.mpr ⟨λz=>(nomatch z),Q0⟩
 |add _ _ _ n x=>refine ql.mpr ⟨x,Qh.mpr ⟨λz=>(nomatch z),Q0⟩,λa y b hb z=>?_⟩;rw[QJ.mp hb]at z;exact n (z▸y)
theorem KI(x:S8 r)(hb:Key r YA){p:Pt}(h:Rch r p):Key r p:=by
 cases h with|bg=>exact hb|go _ w=>obtain⟨v,m,_⟩:=w;exact x _ _ ⟨v,m⟩
theorem MQ{p:Pt}{l:Inn}:∀{r:Rm},look r p=some l->p∈r.map (·.1)
 |[],h=>by cases h|e::r,h=>by by_cases c:e.1=p;rw[<- c];exact QF;rw[show look (e::r) p=look r p from if_neg c]at h;exact QD _ (MQ (r:=r) h)
theorem EG:∀{ks ns:List Pt},ks.Nodup->(∀s∈ks,s∈ns)->ks.length<=ns.length
 |[],_,_,_=>Qt _|s::r,ns,h,hs=>by obtain⟨v,u⟩:=Qh.mp h;have z:=hs s QF;have:=EG (ks:=r) (ns:=ns.erase s) u λx y=>(QBF (λ(e:x=s)=>v (e▸y))).mpr (hs x (QD _ y));rw[QAX z]at this;have w:=QAu z;rw[QM];omega
theorem CF.le(y:S8 r)(hb:Key r YA)(h:CF r ks vs):ks.length<=r.length:=by
 have:=EG (ns:=r.map (·.1)) h.nd λs x=>by obtain⟨l,e⟩:=KI y hb (h.rch s x);exact MQ e
 rw[QE]at this;exact this
structure Srch(r:Rm)(ks:List Pt)(vs:List D)(ws:List Pt):Prop where
 cf:CF r ks vs
 sub:∀w∈ws,w∈ks
 clo:∀k∈ks,k∉ws->∀q,Of r k q->q∈ks
structure Srch1(r:Rm)(here:Pt)(ks:List Pt)(vs:List D)(ws:List Pt)(l:Inn):Prop where
 cf:CF r ks vs
 sub:∀w∈ws,w∈ks
 clo:∀k∈ks,k∉ws->k≠here->∀q,Of r k q->q∈ks
 her:here∈ks
 don:∀e∈lk r here,0<e.2->e.1∈ks∨e∈l
 all:∀e∈l,e∈lk r here
end
section
variable{r:Rm}{ks ws:List Pt}{vs:List D}
theorem Nn:Srch r [YA] [.none] [YA]:=⟨.bg,λ_ h=>h,λk h n=>absurd h n⟩
theorem Srch.pop{w:Pt}(h:Srch r ks vs (w::ws)):Srch1 r w ks vs ws (lk r w):=by refine⟨h.cf,λx v=>h.sub x (QD _ v),λk hk n u=>h.clo k hk λz=>?_,h.sub w QF,λe y _=>.inr y,λe y=>y⟩;rcases QL.mp z with z|z;exact u z;exact n z
theorem Srch1.skip{y:Pt}{e:Pt×Int}{l:Inn}(h:Srch1 r y ks vs ws (e::l))(c:0<e.2->e.1∈ks):Srch1 r y ks vs ws l:=by
 refine⟨h.cf,h.sub,h.clo,h.her,λx u p=>?_,λx u=>h.all x (QD _ u)⟩;rcases h.don x u p with z|z;exact .inl z;rcases QL.mp z with z|z
 ·rw[z]at p ⊢;exact .inl (c p)
 exact .inr z
theorem Srch1.add{u:Pt}{e:Pt×Int}{l:Inn}(h:Srch1 r u ks vs ws (e::l))(c:0<e.2)(n:e.1∉ks):Srch1 r u (ks++[e.1]) (vs++[pr u]) (ws++[e.1]) l:=by
 have f:=h.all e QF;refine⟨h.cf.add h.her ⟨e.2,f,c⟩ n,λx v=>?_,λk hk a b q w=>?_,Qn _ h.her,λx v p=>?_,λx v=>h.all x (QD _ v)⟩;rcases Qf.mp v with z|z
 ·exact Qn _ (h.sub x z)
 exact QX _ z;rcases Qf.mp hk with z|z
 ·exact Qn _ (h.clo k z (λy=>a (Qn _ y)) b q w)
 exact absurd (QX _ z) a;rcases h.don x v p with z|z
 ·exact .inl (Qn _ z)
 rcases QL.mp z with z|z
 ·rw[z];exact .inl (QX _ QF)
 exact .inr z
theorem Srch1.fin{x:Pt}(h:Srch1 r x ks vs ws []):Srch r ks vs ws:=by refine⟨h.cf,h.sub,λk hk n q w=>?_⟩;by_cases e:k=x;subst e;obtain⟨v,m,p⟩:=w;rcases h.don (q,v) m p with z|z;exact z;exact(nomatch z);exact h.clo k hk n e q w
theorem Srch.done(h:Srch r ks vs [])(p:Pt):p∈ks↔Rch r p:=by
 refine⟨h.cf.rch p,λz=>?_⟩;induction z with|bg=>exact h.cf.hb|go _ w x=>exact h.clo _ x (λz=>(nomatch z)) _ w
end
def eC(Q:T->LT->Prop):PEnds:={ nx:=λh=>xV (FA [0] h) (Q (.d .none)),rt:=λt h=>xV (FA [0] h) (Q t) }
theorem mK{Ψ:PEv}{b:PT}{p:PSp}{N x:LS}{ds:LT}{Q:T->LT->Prop}(ρ:kA)(hl:ds.length=x.length)(hc:KB 0 p.md x.length=[0])(y:oB N p.md ds=ρ)(h:pF Ψ b (eC Q) ρ):ds.length=x.length/\pF Ψ b (rD p x.length Q) (oB N p.md ds):=by
 have e:rD p x.length Q=eC Q:=by unfold rD;rw[hc];rfl
 rw[e,y];exact⟨hl,h⟩
def V1(r:Rm)(h t:Pt)(v:Int):kA:=[oW (KA r),bD (pr h),bD (pr t),bD (.int v)]
section
variable{Ψ:PEv}{Z:PEnds}{q:PT}{r:Rm}{h t:Pt}{v:Int}
theorem Bv(hl:r.length<sizeLine)(k:pF Ψ q Z (V1 (sdf r h) h t v)):pF Ψ (.seq (.sdf 0 (.zz 1)) q) Z (V1 r h t v):=by delta V1 at k ⊢;simp_arith[↓zA];refine⟨rfl,bX hl ?_⟩;exact k
theorem Uv(hl:r.length<sizeLine)(k:pF Ψ q Z (V1 (sdf r t) h t v)):pF Ψ (.seq (.sdf 0 (.zz 2)) q) Z (V1 r h t v):=by delta V1 at k ⊢;simp_arith[↓zA];refine⟨rfl,bX hl ?_⟩;exact k
theorem Xv{l:Inn}(e:look r h=some l)(hl:l.length<sizeLine)(k:pF Ψ q Z (V1 (put r h (put l t v)) h t v)):pF Ψ (.seq (.six (.idx (.zz 0) (.zz 1)) (.zz 2) (.zz 3)) q) Z (V1 r h t v):=by delta V1 at k ⊢;simp_arith[↓zA];refine aI e λf x=>MP hl ?_;rw[x];exact k
theorem Vv{l:Inn}(e:look r t=some l)(hl:l.length<sizeLine)(k:pF Ψ q Z (V1 (put r t (put l h 0)) h t v)):pF Ψ (.seq (.six (.idx (.zz 0) (.zz 2)) (.zz 1) (.int 0)) q) Z (V1 r h t v):=by delta V1 at k ⊢;simp_arith[↓zA];refine aI e λf x=>MP hl ?_;rw[x];exact k
end
section
variable{r:Rm}{K:T->LT->Prop}{Ψ:PEv}
theorem VE{p:Pt}(h:Key r p):look r p=some (lk r p):=by obtain⟨l,e⟩:=h;unfold lk;rw[e];rfl
noncomputable def BD:PSp where
 md:=[.chg]
 run:=λx Q _=>∃(r:Rm) (w:Wy),x=[KA r,.d (pr w.1),.d (pr w.2.1),.d (.int w.2.2)]/\(w.1≠w.2.1/\Sz r 5000)/\Q (.d .none) [KA (tB r w)]
 mono:=λh _ z=>by obtain⟨r,w,e,l,q⟩:=z;exact⟨r,w,e,l,h _ _ q⟩
theorem mM(w:Wy){E:XE}(h:w.1≠w.2.1)(s:Sz r 5000)(q:K (.d .none) [KA (tB r w)]):EA BD [KA r,.d (pr w.1),.d (pr w.2.1),.d (.int w.2.2)] K E:=⟨r,w,rfl,⟨h,s⟩,q⟩
theorem Fb(ds Q E)(h:BD.run ds Q E):ME Ψ sP BD CP BM ds Q:=by obtain⟨r,w,rfl,⟨u,x⟩,q⟩:=h;refine mK (V1 r w.1 w.2.1 w.2.2) rfl rfl rfl ?_;have b:=x.1;have a:=IP (r:=r) (p:=w.1);have z:Key (sdf (sdf r w.1) w.2.1) w.1:=HD.mpr (.inr (HD.mpr (.inl rfl)));have y:Key (sdf (sdf r w.1) w.2.1) w.2.1:=HD.mpr (.inl rfl);have k:=x.2 w.1;have v:=x.2 w.2.1;refine Bv (by omega) (Uv (by omega) (Xv (VE z) (by rw[kE,kE];omega) (Vv (VE (zJ.mpr (.inr y))) (by rw[vE,if_neg u,kE,kE];omega) ?_)));exact q
noncomputable def jF:PSp where
 md:=[.chg]
 run:=λx Q _=>∃(r:Rm) (n:Str),x=[KA r,.d (.str n)]/\Sz r 5000/\Q (.d .none) [KA (tB r (tO n,fR n,1))]
 mono:=λh _ z=>by obtain⟨r,w,e,l,q⟩:=z;exact⟨r,w,e,l,h _ _ q⟩
theorem oM{n:Str}{E:XE}(s:Sz r 5000)(q:K (.d .none) [KA (tB r (tO n,fR n,1))]):EA jF [KA r,.d (.str n)] K E:=⟨r,n,rfl,s,q⟩
theorem Gb(y:Ψ.sp "add_way"=BD)(ds Q E)(h:jF.run ds Q E):ME Ψ dI jF SN jL ds Q:=by obtain⟨r,n,rfl,x,q⟩:=h;refine mK [oW (KA r),bD (.str n)] rfl rfl rfl ?_;delta dI;simp_arith[↓vH (md:=[]) y rfl rfl];refine⟨by omega,by omega,?_⟩;exact mM (tO n,fR n,1) LA x ⟨_,rfl,q⟩
noncomputable def M1(es:rC)(st:LS)(g:Str)(r:Rm)(o4 o5 o6:Option Sl):kA:=[bD (.list (es.map pr)),bD (.tuple (st.map PyData.str)),bD (.str g),oW (KA r),o4,o5,o6]
end
section
variable{Ψ:PEv}{Z:PEnds}{es:rC}{st:LS}{g:Str}{r:Rm}
theorem du(h:Ψ.va "BEGIN"=some (pr YA)){q:PT}{o3 o4 o5 o6:Option Sl}(k:pF Ψ q Z (M1 es st g pH o4 o5 o6)) :
  pF Ψ (.seq (.own 3 (.dsp (.glo "BEGIN") (.dnew true))) q) Z [bD (.list (es.map pr)),bD (.tuple (st.map PyData.str)),bD (.str g),o3,o4,o5,o6]:=by
 simp_arith[↓CH h];exact⟨TB YA,k⟩
theorem bu(b:Ψ.sp "add_name"=jF)(a:Ψ.sp "add_way"=BD)(v:Ψ.va "BEGIN"=some (pr YA))(u:Ψ.va "WIDE"=some (.int 2)){n:Str}{o5 o6:Option Sl}(h:Sz r 4900)(k:Z.nx (M1 es st g ((YR g n).foldl tB r) (bD (.str n)) o5 o6)) :
  pF Ψ rF Z (M1 es st g r (bD (.str n)) o5 o6):=by
 delta M1 at k ⊢;delta rF;simp_arith[↓CH v,↓CH u,↓vH (md:=[]) b rfl rfl,↓vH (md:=[]) a rfl rfl];by_cases e:n=g;rw[dT e];unfold YR at k;rw[if_pos e]at k;exact k;rw[dF e];unfold YR at k;rw[if_neg e]at k;have z:Sz r 5000:=⟨QU h.1 (by omega),λp=>QU (h.2 p) (by omega)⟩
 have x:=tI (w:=(tO n,fR n,1)) LA h;have y:Sz (tB r (tO n,fR n,1)) 5000:=⟨QU x.1 (by omega),λp=>QU (x.2 p) (by omega)⟩
 refine oM z ⟨_,rfl,?_⟩;refine⟨by omega,?_⟩;exact mM (YA,tO n,2) PB y ⟨_,rfl,k⟩
theorem xu(j:Ψ.sp "add_name"=jF)(i:Ψ.sp "add_way"=BD)(f:Ψ.va "WIDE"=some (.int 2)){a b:Str}{o4:Option Sl}(y:Sz r 4900)(k:Z.nx (M1 es st g ((VU g (a,b)).foldl tB r) o4 (bD (.str a)) (bD (.str b)))) :
  pF Ψ oF Z (M1 es st g r o4 (bD (.str a)) (bD (.str b))):=by
 delta M1 at k ⊢;delta oF;simp_arith[↓CH f,↓vH (md:=[]) j rfl rfl,↓vH (md:=[]) i rfl rfl];unfold VU at k;by_cases e:a=g;rw[dT e];rw[if_pos (.inl e)]at k;exact k;rw[dF e];by_cases h:a=b;rw[dT h];rw[if_pos (.inr h)]at k;exact k;rw[dF h];rw[if_neg (λz=>z.elim e h)]at k;have v:Sz r 5000:=⟨QU y.1 (by omega),λp=>QU (y.2 p) (by omega)⟩
 have x:=tI (w:=(tO a,fR a,1)) LA y;have u:=tI (w:=(tO b,fR b,1)) LA x;refine oM v ⟨_,rfl,?_⟩;refine oM ⟨QU x.1 (by omega),λp=>QU (x.2 p) (by omega)⟩ ⟨_,rfl,?_⟩;refine⟨by omega,by omega,?_⟩;exact mM (fR a,tO b,2) LA.symm ⟨QU u.1 (by omega),λp=>QU (u.2 p) (by omega)⟩ ⟨_,rfl,k⟩
end
section
variable{E:XE}{Ψ:PEv}{r:Rm}{p q:Pt}{l:Inn}{n m:Bool}{R:T->Prop}{W:LT->Prop}{ρ:kA}{b:PX}{M:List (T×Bool)->kA->Prop}{md:List Md}{ks:List Pt}{vs:List D}
noncomputable def rE:PSp where
 md:=[]
 run:=λy Q _=>∃(x:rC) (st:LS) (g:Str),y=[.d (.list (x.map pr)),.d (.tuple (st.map PyData.str)),.d (.str g)]/\(x.length<=126/\st.length<=11)/\Q (KA (jA x st g)) []
 mono:=λh _ z=>by obtain⟨x,st,g,e,l,q⟩:=z;exact⟨x,st,g,e,l,h _ _ q⟩
theorem AY{es:rC}{st:LS}{g:Str}{K:T->LT->Prop}(x:es.length<=126)(h:st.length<=11)(q:K (KA (jA es st g)) []):EA rE [.d (.list (es.map pr)),.d (.tuple (st.map PyData.str)),.d (.str g)] K E:=⟨es,st,g,rfl,⟨x,h⟩,q⟩
theorem rZ(X:Ψ.sp "add_name"=jF)(o:Ψ.sp "add_way"=BD)(j:Ψ.va "BEGIN"=some (pr YA))(i:Ψ.va "WIDE"=some (.int 2))(ds Q E)(h:rE.run ds Q E):ME Ψ ZN rE GN MK ds Q:=by obtain⟨x,st,g,rfl,⟨Z,Y⟩,q⟩:=h;refine uA [bD (.list (x.map pr)),bD (.tuple (st.map PyData.str)),bD (.str g),none,none,none,none] rfl rfl rfl ?_;refine du j ?_;delta M1;simp_arith[↓zA];rw[<- oA];refine CA (λ(s:Str)=>T.d (.str s)) (λl ρ=>∃r u,RmOk r (1+4 * (11 - l.length))/\l.length<=11/\(l.flatMap (YR g)).foldl tB r=(st.flatMap (YR g)).foldl tB pH/\ρ=M1 x st g r u none none) ?_ ?_ _ _ ⟨pH,_,?_,Y,rfl,rfl⟩;rintro ρ ⟨r,u,ok,_,e,rfl⟩;have e:r=(st.flatMap (YR g)).foldl tB pH:=e;delta M1;simp_arith[↓zA];rw[<- oA];refine CA (λ(p:Str×Str)=>T.d (pr p)) (λl ρ=>∃r w v,Sz r (45+6 * (126 - l.length))/\l.length<=126/\(l.flatMap (VU g)).foldl tB r=jA x st g/\ρ=M1 x st g r (xN u) w v) ?_ ?_ _ _ ⟨r,_,_,?_,Z,by rw[e];rfl,rfl⟩;rintro ρ ⟨r,w,v,_,_,e,rfl⟩;have e:r=jA x st g:=e;subst e;delta M1;simp_arith[↓zA];exact q;rintro⟨a,b⟩ l ρ N f ⟨r,w,v,s,k,e,rfl⟩;rw[QM]at s k;rw[QAY,QAZ]at e;refine kF.mk rfl ?_;refine xu (a:=a) (b:=b) X o i ⟨QU s.1 (by omega),λp=>QU (s.2 p) (by omega)⟩ (f _ ⟨_,_,_,?_,by omega,e,rfl⟩);have z:Sz ((VU g (a,b)).foldl tB r) (45+6 * (126 - (l.length+1))+2 * (VU g (a,b)).length):=U3 NL s;have y:=OW (g:=g) (e:=(a,b));exact⟨QU z.1 (by omega),λp=>QU (z.2 p) (by omega)⟩;exact⟨QU ok.sz.1 (by rw[wR];omega),λp=>QU (ok.sz.2 p) (by rw[wR];omega)⟩;rintro s l ρ N f ⟨r,u,ok,k,e,rfl⟩;rw[QM]at ok k;rw[QAY,QAZ]at e;refine bu (n:=s) X o j i ⟨QU ok.sz.1 (by omega),λp=>QU (ok.sz.2 p) (by omega)⟩ (f _ ⟨_,_,?_,by omega,e,rfl⟩);have z:=ok.add (ws:=YR g s) ML;have y:=NW (g:=g) (n:=s);exact⟨z.pos,z.dom,z.bg,QU z.sz.1 (by omega),λp=>QU (z.sz.2 p) (by omega)⟩;exact⟨JE.pos,JE.dom,JE.bg,QU JE.sz.1 (by omega),λp=>QU (JE.sz.2 p) (by omega)⟩
def RV(l:Inn):D:=.dict (l.map λe=>(pr e.1,.int e.2))
def Gj(r:Rm):List (D×D):=r.map λe=>(pr e.1,RV e.2)
theorem TZ(h:look r p=some l):oD (Gj r)=some true:=by
 cases r with|nil=>cases h|cons e r=>rfl
theorem A6(l:Inn):(l.map λe=>(pr e.1,PyData.int e.2))=[]∨oD (l.map λe=>(pr e.1,PyData.int e.2))=some true:=by
 cases l with|nil=>exact .inl rfl|cons e r=>exact .inr rfl
theorem kh(h:Key r p)(k:R (.d (RV (lk r p)))):VA (.d (.dict (Gj r))) n (.d (pr p)) m R:=by
 have e:=VE h;obtain⟨i,u,y,_⟩:=sC (λl=>T.d (RV l)) e;have w:(Gj r).map (·.1)=UC r:=by unfold Gj UC;rw[Qa];rfl
 refine Mm (TZ e) (TB p) (by rw[w];exact u) ?_ k;have v:(Gj r).map (·.2)=r.map λe=>RV e.2:=by unfold Gj;rw[Qa];rfl
 rw[v];rw[Qb]at y ⊢;cases z:r[i]? with|none=>rw[z]at y;cases y|some x=>rw[z]at y;injection y with y;injection y with y;show some (RV x.2)=_;rw[y]
theorem bn:vL .itm [(.d (RV l),n)] W=W (l.map λe=>.d (.tuple [pr e.1,.int e.2])):=by unfold RV;rw[xn (A6 l),Qa];rfl
theorem fI{K:TK}:E8 (KA r) false Ψ b E ρ K=cB Ψ b E (lockA ρ) λy m _=>K y m ρ:=rfl
theorem JY{K:TK}:E8 (pD l) false Ψ b E ρ K=cB Ψ b E (lockA ρ) λy m _=>K y m ρ:=rfl
theorem aR:j9 (KA r) false Ψ b E md ρ M=FM Ψ b E md (lockA ρ) λxs _=>M xs ρ:=rfl
theorem G8:j9 (pD l) false Ψ b E md ρ M=FM Ψ b E md (lockA ρ) λxs _=>M xs ρ:=rfl
def Gd(t:T)(r:Rm):Prop:=t=KA r∨t=.d (.dict (Gj r))
theorem Nm{b:Bool}{ks:List D}{ts:LT}{n m:Bool}{k:D}{l:Nat}{t:T}(z:UD b k)(y:cA ks k=some l)(x:ts[l]?=some t)(h:R t):VA (.dct b ks ts) false (.d k) m R:=.inr ⟨b,ks,ts,l,t,rfl,z,y,x,h⟩
theorem SE(h:Key r p)(k:R (pD (lk r p))):VA (KA r) false (.d (pr p)) m R:=by obtain⟨i,y,x,_⟩:=sC pD (VE h);exact Nm (n:=false) (TB p) y x k
theorem DP{v:Int}(h:look l p=some v)(k:R (.d (.int v))):VA (pD l) false (.d (pr p)) m R:=by obtain⟨i,y,x,_⟩:=sC (λv:Int=>T.d (.int v)) h;exact Nm (n:=false) (TB p) y x k
theorem TW(l:Inn):oH (l.map λe=>T.d (.int e.2))=some (l.map λe=>.int e.2):=by rw[show(l.map λe=>T.d (.int e.2))=(l.map λe=>PyData.int e.2).map T.d by rw[Qa];rfl,XA]
theorem dh:vL .itm [(pD l,false)] W=W (l.map λe=>.d (.tuple [pr e.1,.int e.2])):=by
 refine(vT _ _).trans ?_;have e:((UC l).zip (l.map λe=>PyData.int e.2)).map (λp=>T.d (.tuple [p.1,p.2]))=l.map λe=>T.d (.tuple [pr e.1,.int e.2]):=by unfold UC;rw[List.zip_map',Qa];rfl
 refine propext ⟨λ⟨x,h,k⟩=>?_,λk=>⟨_,TW l,by rw[e];exact k⟩⟩;rw[TW]at h;cases h;rw[e]at k;exact k
theorem n9{a:PX}:xH (.idx a b)=xH a:=rfl
theorem Fl:sR [(pD l,false)]=false:=rfl
def v9(ks:List Pt)(vs:List D):T:=.dct true (ks.map pr) (vs.map T.d)
theorem xQ:pr q∈ks.map pr↔q∈ks:=by constructor;intro h;obtain⟨x,y,e⟩:=QV.mp h;rw[<- uQ e];exact y;exact QBS
theorem cJ(ks:List Pt)(q:Pt):(cA (ks.map pr) (pr q)).isSome=decide (q∈ks):=by rw[qC,xW,xQ,decide_eq_true_iff]
theorem eh{x:D}{Q:T->Prop}(n:q∉ks)(hl:ks.length<sizeLine)(k:Q (v9 (ks++[q]) (vs++[x]))):ue (v9 ks vs) (.d (pr q)) (.d x) Q:=by refine⟨TB q,by rw[QE];exact hl,?_⟩;show Q (IJ true (ks.map pr) (vs.map T.d) (pr q) (.d x));unfold IJ;rw[jB.mpr (λz=>n (xQ.mp z))];unfold v9 at k;rw[QO,QO]at k;exact k
theorem Tk{L:Bool->Prop}:NB .NotIn (.d (pr q)) (v9 ks vs) L=L (!decide (q∈ks)):=by unfold v9;rw[JN,cJ];exact propext ⟨λh=>h.2,λh=>⟨TB q,h⟩⟩
noncomputable def NO(h:T)(ks:List Pt)(vs:List D)(ws:List Pt)(o3 o4 o5:Option Sl):kA:=[some (.vz h),some (.own (v9 ks vs)),some (.own (.lst ((ws.map pr).map T.d))),o3,o4,o5]
end
section
variable{Ψ:PEv}{Z:PEnds}{x:T}{r:Rm}{ks ws:List Pt}{vs:List D}
section
variable{w:Pt}{o3 o4 o5:Option Sl}
theorem au{p q:Pt}{v:Int}(hl:ks.length<sizeLine)(a:ws.length<sizeLine)(u:(0<v->q∈ks)->Z.nx (NO x ks vs ws (bD (pr p)) (bD (pr q)) (bD (.int v))))
  (k:0<v->q∉ks->Z.nx (NO x (ks++[q]) (vs++[pr p]) (ws++[q]) (bD (pr p)) (bD (pr q)) (bD (.int v)))) :
  pF Ψ yB Z (NO x ks vs ws (bD (pr p)) (bD (pr q)) (bD (.int v))):=by
 delta NO at u k ⊢;delta yB;simp_arith[↓Tk];by_cases h:0<v;rw[dT h];by_cases y:q∈ks;rw[dT y];exact u λ_=>y;rw[dF y];simp only[wy,↓reduceIte];refine eh y hl ?_;refine⟨by rw[QE,QE];exact a,?_⟩;have:=k h y;rw[QO,QO]at this;exact this;rw[dF h];exact u λz=>absurd z h
theorem yi{q:PT}(k:pF Ψ q Z (NO x ks vs ws (bD (pr w)) o4 o5)) :
  pF Ψ (.seq (.set 3 (.mt .pop (.zz 2) %[.int 0|1])) q) Z (NO x ks vs (w::ws) o3 o4 o5):=by
 delta NO at k ⊢;simp_arith[↓zA];refine⟨0,.d (pr w),?_,rfl,rfl,k⟩;unfold XR;rw[if_pos (by decide),if_pos (by rw[QE,QE,QM];omega)];rfl
theorem zi(y:Gd x r)(hk:Key r w)
  (k:IH (pF Ψ yB) (.tp [4,5]) { Z with nx:=λh=>Z.nx (kill [4,5] h) } ((lk r w).map λe=>T.d (.tuple [pr e.1,.int e.2])) (NO x ks vs ws (bD (pr w)) o4 o5)) :
  pF Ψ %[.for_ (.tp [4,5]) .itm %[.idx (.zz 0) (.zz 3)|1] yB|2] Z (NO x ks vs ws (bD (pr w)) o4 o5):=by
 rcases y with rfl|rfl;delta NO at k ⊢;simp_arith[↓fI];refine SE hk ?_;simp_arith[↓G8,↓dh,Fl,n9];exact k;delta NO at k ⊢;simp_arith[↓zA];refine kh hk ?_;simp_arith[↓bn];exact k
theorem tu(m:Gd x r)(a:S8 r)(hb:Key r YA)(W:r.length<=1000)(h:Srch r ks vs (w::ws))(K:2 * (r.length - ks.length)+ws.length+1<=3000)
  (o:∀z u y o3 o4 o5,Srch r z u y->2 * (r.length - z.length)+y.length<=2 * (r.length - ks.length)+ws.length->Z.nx (NO x z u y o3 o4 o5)) :
  pF Ψ aD Z (NO x ks vs (w::ws) o3 o4 o5):=by
 have A:sizeLine=16777216:=Q2;refine yi ?_;have X:=h.pop;have hk:Key r w:=KI a hb (h.cf.rch w (h.sub w QF));refine zi m hk ?_;refine CA (λ(e:Pt×Int)=>T.d (.tuple [pr e.1,.int e.2])) (λl k=>∃z u y o4 o5,Srch1 r w z u y l/\2 * (r.length - z.length)+y.length<=2 * (r.length - ks.length)+ws.length/\k=NO x z u y (bD (pr w)) o4 o5) ?_ ?_ _ _ ⟨ks,vs,ws,_,_,X,QZ _,rfl⟩;rintro k ⟨z,u,y,g,f,s,l,rfl⟩;exact o z u y _ (xN g) (xN f) s.fin l;rintro⟨q,v⟩ l k N i ⟨z,u,y,g,f,s,e,rfl⟩;refine kF.mk rfl ?_;have Y:=s.cf.le a hb;refine au (p:=w) (q:=q) (v:=v) (by omega) (by omega) (λc=>i _ ⟨z,u,y,_,_,s.skip c,e,rfl⟩) λc n=>?_;have b:=s.add c n;have j:=b.cf.le a hb;rw[QI,qF]at j;exact i _ ⟨_,_,_,_,_,b,by rw[QI,QI,qF];omega,rfl⟩
theorem iu(h:Ψ.va "BEGIN"=some (pr YA)){q:PT}(k:pF Ψ q Z (NO x [YA] [.none] [YA] none none none)) :
  pF Ψ (.seq (.own 1 (.dsp (.glo "BEGIN") .non)) (.seq (.own 2 (.lst %[.glo "BEGIN"|1])) q)) Z [some (.vz x),none,none,none,none,none]:=by
 have y:sizeLine=16777216:=Q2;simp_arith[↓CH h];exact⟨TB YA,by omega,k⟩
end
end
theorem pI{Ψ:PEv}{E:XE}{c:PX}{q:PT}{Z:PEnds}{ρ:kA}(W:Nat->kA->Prop)(m:Nat)(u:W m ρ)(z:∀m ρ,W m ρ->AN Ψ c E ρ λb x=>if b=true then aB Ψ E q { Z with nx:=λh=>∃y,y < m/\W y h,ct:=λh=>∃y,y < m/\W y h,bk:=Z.nx } x else Z.nx x):Sm Ψ E c q Z ρ:=⟨W,⟨m,u⟩,z⟩
noncomputable def cD:PSp where
 md:=[.vz]
 run:=λv Q _=>∃(u:T) (r:Rm),v=[u]/\(Gd u r/\S8 r/\Key r YA/\r.length<=1000)/\∀x y,CF r x y->(∀p,p∈x↔Rch r p)->Q (v9 x y) []
 mono:=λh _ z=>by obtain⟨u,r,e,l,q⟩:=z;exact⟨u,r,e,l,λx y a b=>h _ _ (q x y a b)⟩
theorem FO{h:T}{r:Rm}{K:T->LT->Prop}{E:XE}(u:Gd h r)(z:S8 r)(y:Key r YA)(x:r.length<=1000)(q:∀ks vs,CF r ks vs->(∀p,p∈ks↔Rch r p)->K (v9 ks vs) []):EA cD [h] K E:=⟨h,r,rfl,⟨u,z,y,x⟩,q⟩
theorem N5{Ψ:PEv}(l:Ψ.va "BEGIN"=some (pr YA))(ds Q E)(h:cD.run ds Q E):ME Ψ GE cD NE CD ds Q:=by
 obtain⟨a,r,rfl,⟨n,j,hb,i⟩,q⟩:=h;refine uA [some (.vz a),none,none,none,none,none] rfl rfl rfl ?_;refine iu l ?_;delta NO;simp_arith[↓zA];refine pI (λm k=>m<=3000/\∃x y ws o3 o4 o5,Srch r x y ws/\m=2 * (r.length - x.length)+ws.length/\k=NO a x y ws o3 o4 o5) (2 * (r.length - 1)+1) ⟨by omega,[YA],[.none],[YA],none,none,none,Nn,rfl,rfl⟩ ?_;rintro m k ⟨p,x,y,ws,o3,o4,o5,s,e,rfl⟩;cases ws with|nil=>delta NO;simp_arith[QE];rw[dF (by omega)];simp_arith[↓zA];exact q x y s.cf s.done|cons w ws=>rw[QM]at e;have b:=λ(Z:PEnds) g=>tu (Ψ:=Ψ) (Z:=Z) (o3:=o3) (o4:=o4) (o5:=o5) n j hb i s (by omega) g;unfold NO at b;delta NO;simp_arith[QE];rw[dT (by omega)];refine b _ λv u z o3 o4 o5 f o=>⟨_,by omega,by omega,v,u,z,o3,o4,o5,f,rfl,rfl⟩
theorem Xl{α:Type}{x:α}{r:List α}:YD (x::r) 0=some x:=KF (j:=0) rfl
theorem Cv{α:Type}{x y:α}{r:List α}:YD (x::y::r) 1=some y:=KF (j:=1) rfl
def sm:List Pt->(Pt->Int)->Int
 |[],_=>0|x::l,f=>f x+sm l f
section
variable{f g:Pt->Int}
theorem AA:∀{l:List Pt},(∀x∈l,f x=g x)->sm l f=sm l g
 |[],_=>rfl|x::l,h=>by show f x+sm l f=g x+sm l g;rw[h x QF,AA λy z=>h y (QD _ z)]
theorem LH:∀(l:List Pt),sm l (λx=>f x+g x)=sm l f+sm l g
 |[]=>rfl|x::l=>by show f x+g x+sm l _=f x+sm l f+(g x+sm l g);rw[LH l];omega
theorem OJ:∀(l:List Pt),sm l (λx=>- f x)=- sm l f
 |[]=>rfl|x::l=>by show - f x+sm l _=- (f x+sm l f);rw[OJ l];omega
theorem MG:∀(l:List Pt),sm l (λ_=>0)=0
 |[]=>rfl|x::l=>by show 0+sm l _=0;rw[MG l];rfl
theorem UO:∀{l:List Pt},(∀x∈l,0<=f x)->0<=sm l f
 |[],_=>QCU _|x::l,h=>by have v:=h x QF;have u:=UO (l:=l) λy z=>h y (QD _ z);show 0<=f x+sm l f;omega
theorem HH:∀{l:List Pt},(∀x∈l,0<=f x)->∀{y:Pt},y∈l->f y<=sm l f
 |x::l,h,y,z=>by have w:=h x QF;have u:∀y∈l,0<=f y:=λy z=>h y (QD _ z);show f y<=f x+sm l f;rcases QL.mp z with e|e;have v:=UO u;rw[e];omega;have v:=HH u e;omega
theorem O3:∀{l:List Pt},(∀x∈l,0<=f x)->∀{y z:Pt},y∈l->z∈l->y≠z->f y+f z<=sm l f
 |x::l,h,y,z,v,hz,ne=>by
  have a:=h x QF;have w:∀y∈l,0<=f y:=λy v=>h y (QD _ v);show f y+f z<=f x+sm l f;rcases QL.mp v with e|e;rcases QL.mp hz with u|u
  ·exact absurd (e.trans u.symm) ne
  have k:=HH w u;rw[e];omega;rcases QL.mp hz with u|u
  ·have k:=HH w e
   rw[u];omega
  have k:=O3 w e u ne;omega
theorem P3:∀{l:List Pt},0<sm l f->∃x∈l,0<f x
 |[],h=>absurd h (wg 0)|x::l,h=>by by_cases c:0<f x;exact⟨x,QF,c⟩;have h:0<f x+sm l f:=h;obtain⟨y,z,p⟩:=P3 (l:=l) (by omega);exact⟨y,QD _ z,p⟩
theorem kX{k:Pt->Pt->Int}{m:List Pt}:∀(l:List Pt),sm l (λx=>sm m λy=>k x y)=sm m λy=>sm l λx=>k x y
 |[]=>(MG m).symm|x::l=>by show sm m (λy=>k x y)+sm l _=sm m λy=>k x y+sm l λx=>k x y;rw[kX l,LH]
theorem NP{u:Pt}{k:Int}:∀{l:List Pt},u∉l->sm l (λx=>if x=u then k else 0)=0
 |[],_=>rfl|x::l,h=>by show(if x=u then k else 0)+sm l _=0;rw[if_neg (λ(e:x=u)=>h (e▸QF)),NP λz=>h (QD _ z)];rfl
theorem PJ{u:Pt}{k:Int}:∀{l:List Pt},l.Nodup->u∈l->sm l (λx=>if x=u then k else 0)=k
 |x::l,nd,h=>by obtain⟨v,y⟩:=Qh.mp nd;show(if x=u then k else 0)+sm l _=k;by_cases e:x=u;rw[if_pos e,NP (by rw[<- e];exact v)];omega;rw[if_neg e,PJ y ((QL.mp h).resolve_left λz=>e z.symm)];omega
theorem IR(p:Pt->Bool):∀(l:List Pt),sm l f=sm (l.filter p) f+sm (l.filter λx=>!p x) f
 |[]=>rfl|x::l=>by
  show f x+sm l f=_;rw[WB,WB,IR p l];cases p x with|true=>show _=(f x+sm (l.filter p) f)+sm (l.filter λx=>!p x) f;omega|false=>show _=sm (l.filter p) f+(f x+sm (l.filter λx=>!p x) f);omega
theorem C9{a:Pt->Pt->Int}(l:List Pt)(h:∀x∈l,∀y∈l,a x y=- a y x):sm l (λx=>sm l λy=>a x y)=0:=by
 have w:sm l (λx=>sm l λy=>a x y)=sm l λy=>sm l λx=>a x y:=kX l;have v:(sm l λy=>sm l λx=>a x y)=- sm l (λy=>sm l λx=>a y x):=by rw[<- OJ];refine AA λy z=>?_;rw[<- OJ];exact AA λx u=>h x u y z
 omega
end
section
variable{p q u v:Pt}{r:Rm}{w:Wy}{es:rC}{st:LS}{g:Str}
def rm(r:Rm)(p q:Pt):Int:=(look (lk r p) q).getD 0
def lI(r:Rm)(p q:Pt):Prop:=∃v,look (lk r p) q=some v
def Fd(r:Rm):Prop:=∀p,((lk r p).map (·.1)).Nodup
theorem IG{α:Type}{q:Pt}{v:α}:∀{l:List (Pt×α)},look l q=some v->(q,v)∈l
 |[],h=>by cases h|e::l,h=>by by_cases c:e.1=q;rw[show look (e::l) q=some e.2 from if_pos c]at h;injection h with h;rw[<- c,<- h];exact QF;rw[show look (e::l) q=look l q from if_neg c]at h;exact QD _ (IG h)
theorem RQ{α:Type}{q:Pt}{v:α}:∀{l:List (Pt×α)},(l.map (·.1)).Nodup->(q,v)∈l->look l q=some v
 |e::l,nd,h=>by obtain⟨k,y⟩:=Qh.mp nd;rcases QL.mp h with c|c;rw[<- c];exact if_pos rfl;have x:e.1≠q:=λz=>k (QV.mpr ⟨(q,v),c,z.symm⟩);rw[show look (e::l) q=look l q from if_neg x];exact RQ y c
theorem put_keys{α:Type}{p:Pt}{w:α}:∀{l:List (Pt×α)},(put l p w).map (·.1)=if p∈l.map (·.1) then l.map (·.1) else l.map (·.1)++[p]
 |[]=>rfl|e::l=>by by_cases c:e.1=p;rw[show put (e::l) p w=(e.1,w)::l from if_pos c,if_pos (by rw[<- c];exact QF)];rfl;rw[show put (e::l) p w=e::put l p w from if_neg c];rw[QS,QS,put_keys];by_cases h:p∈l.map (·.1);rw[if_pos h,if_pos (QD _ h)];rw[if_neg h,if_neg (λz=>(QL.mp z).elim (λz=>c z.symm) h)];rfl
theorem OG{α:Type}{w:α}{l:List (Pt×α)}(h:(l.map (·.1)).Nodup):((put l p w).map (·.1)).Nodup:=by rw[put_keys];split;exact h;rename_i n;refine ql.mpr ⟨h,Qh.mpr ⟨λz=>(nomatch z),Q0⟩,λa x b hb z=>?_⟩;rw[QJ.mp hb]at z;exact n (z▸x)
theorem FU(nd:Fd r):Of r p q↔0<rm r p q:=by
 unfold Of rm;constructor;rintro⟨v,m,h⟩;rw[RQ (nd p) m];exact h;intro h;cases e:look (lk r p) q with|none=>rw[e]at h;exact absurd h (wg 0)|some v=>rw[e]at h;exact⟨v,IG e,h⟩
noncomputable def cZ(r:Rm)(u v:Pt):Rm:=put (put r u (put (lk r u) v (rm r u v - 1))) v (put (lk (put r u (put (lk r u) v (rm r u v - 1))) v) u (rm (put r u (put (lk r u) v (rm r u v - 1))) v u+1))
theorem CV(h:u≠v)(p:Pt):lk (cZ r u v) p=if v=p then put (lk r v) u (rm r v u+1) else if u=p then put (lk r u) v (rm r u v - 1) else lk r p:=by
 have e:rm (put r u (put (lk r u) v (rm r u v - 1))) v u=rm r v u:=by unfold rm;rw[vE,if_neg h]
 unfold cZ;rw[e,vE,vE,vE,if_neg h]
theorem EU(h:u≠v)(p q:Pt):rm (cZ r u v) p q=rm r p q+(if p=v/\q=u then 1 else 0) - (if p=u/\q=v then 1 else 0):=by show(look (lk (cZ r u v) p) q).getD 0=_;rw[CV h];by_cases y:v=p;rw[if_pos y,mD,if_neg (c:=p=u/\q=v) (λz=>h (z.1.symm.trans y.symm))];by_cases x:u=q;rw[if_pos x,if_pos ⟨y.symm,x.symm⟩,<- y,<- x];show rm r v u+1=rm r v u+1 - 0;omega;rw[if_neg x,if_neg (λz=>x z.2.symm),y];show rm r p q=rm r p q+0 - 0;omega;rw[if_neg y,if_neg (c:=p=v/\q=u) (λz=>y z.1.symm)];by_cases x:u=p;rw[if_pos x,mD];by_cases k:v=q;rw[if_pos k,if_pos ⟨x.symm,k.symm⟩,<- x,<- k];show rm r u v - 1=rm r u v+0 - 1;omega;rw[if_neg k,if_neg (λz=>k z.2.symm),x];show rm r p q=rm r p q+0 - 0;omega;rw[if_neg x,if_neg (λz=>x z.1.symm)];show rm r p q=rm r p q+0 - 0;omega
theorem mB:lI r p q↔E1 r p q:=by
 unfold lI E1;constructor;rintro⟨v,h⟩;exact⟨v,IG h⟩;rintro⟨v,h⟩;generalize lk r p=l at h;induction l with
 |nil=>exact(nomatch h)
 |cons e l x =>
  by_cases c:e.1=q;exact⟨e.2,if_pos c⟩;rcases QL.mp h with z|z
  ·exact absurd (by rw[<- z]) c
  obtain⟨w,y⟩:=x z;exact⟨w,(show look (e::l) q=look l q from if_neg c).trans y⟩
theorem Ud(h:u≠v)(a:lI r u v)(k:lI r v u):lI (cZ r u v) p q↔lI r p q:=by unfold lI;rw[CV h];by_cases y:v=p;rw[if_pos y,mD];by_cases x:u=q;rw[if_pos x,<- y,<- x];exact⟨λ_=>k,λ_=>⟨_,rfl⟩⟩;rw[if_neg x,y];rw[if_neg y];by_cases x:u=p;rw[if_pos x,mD];by_cases z:v=q;rw[if_pos z,<- x,<- z];exact⟨λ_=>a,λ_=>⟨_,rfl⟩⟩;rw[if_neg z,x];rw[if_neg x]
theorem Rb(h:u≠v)(nd:Fd r):Fd (cZ r u v):=by
 intro p;rw[CV h];split;exact OG (nd v);split
 ·exact OG (nd u)
 exact nd p
theorem yQ(h:¬ lI r p q):rm r p q=0:=by
 unfold rm;cases e:look (lk r p) q with|none=>rfl|some v=>exact absurd ⟨v,e⟩ h
def Vr(p q:Pt)(v:Int):Prop:=(∃n,p=tO n/\q=fR n/\v=1)∨(∃n,p=YA/\q=tO n/\v=2)∨(∃a b,a≠b/\p=fR a/\q=tO b/\v=2)∨(¬ A1 p q/\v=0)
def El(P:Pt->Pt->Int->Prop)(r:Rm):Prop:=∀p,∀e∈lk r p,P p e.1 e.2
theorem G0{P:Pt->Pt->Int->Prop}(a:w.1≠w.2.1)(f:P w.1 w.2.1 w.2.2)(b:P w.2.1 w.1 0)(h:El P r):El P (tB r w):=by intro p e x;rw[yJ a]at x;by_cases k:w.2.1=p;rw[if_pos k]at x;rcases UI x with z|z;rw[z,<- k];exact b;exact h p e z;rw[if_neg k]at x;by_cases y:w.1=p;rw[if_pos y]at x;rcases UI x with z|z;rw[z,<- y];exact f;exact h p e z;rw[if_neg y]at x;exact h p e x
theorem xS(h:(r.map (·.1)).Nodup):((sdf r p).map (·.1)).Nodup:=by
 unfold sdf;cases e:look r p with|some v=>exact h|none=>show(List.map (λe:Pt×Inn=>e.1) (r++[(p,[])])).Nodup;rw[QO];refine ql.mpr ⟨h,Qh.mpr ⟨λz=>(nomatch z),Q0⟩,λa y b hb z=>?_⟩;have hb:b=p:=QJ.mp hb;rw[z,hb]at y;obtain⟨x,k,f⟩:=QV.mp y;have:=RQ h (show(p,x.2)∈r by rw[<- f];exact k);rw[e]at this;cases this
theorem f6(x:w.1≠w.2.1)(h:Fd r):Fd (tB r w):=by
 intro p;rw[yJ x];split;exact OG (h p);split
 ·exact OG (h p)
 exact h p
theorem zB:Key r p↔p∈r.map (·.1):=by
 constructor;rintro⟨l,e⟩;exact MQ e;intro h;induction r with
 |nil=>exact(nomatch h)
 |cons e r x =>
  by_cases c:e.1=p;exact⟨e.2,if_pos c⟩;rcases QL.mp h with z|z
  ·exact absurd z.symm c
  obtain⟨l,hl⟩:=x z;exact⟨l,(show look (e::r) p=look r p from if_neg c).trans hl⟩
structure Tbl0(r:Rm):Prop where
 ndk:(r.map (·.1)).Nodup
 ndi:Fd r
 cap:El Vr r
 kind:∀p,Key r p->p=YA∨∃n,p=tO n∨p=fR n
 sym:∀p q,E1 r p q->E1 r q p/\Key r p
theorem IS(h:A1 p q):(p=YA∨∃n,p=tO n∨p=fR n)/\(q=YA∨∃n,q=tO n∨q=fR n):=by
 rcases h with⟨h,n,e⟩| ⟨n,h,e⟩| ⟨a,b,_,h,e⟩
 exact⟨.inl h,.inr ⟨n,.inl e⟩⟩;exact⟨.inr ⟨n,.inl h⟩,.inr ⟨n,.inr e⟩⟩;exact⟨.inr ⟨a,.inr h⟩,.inr ⟨b,.inl e⟩⟩
theorem Y9(k:A1 w.1 w.2.1)(f:Vr w.1 w.2.1 w.2.2)(t:Tbl0 r):Tbl0 (tB r w):=by
 have y:=uG k;refine⟨?_,f6 y t.ndi,G0 y f (.inr (.inr (.inr ⟨fF k,rfl⟩))) t.cap,λp h=>?_,λp q h=>?_⟩;unfold tB;exact OG (OG (xS (xS t.ndk)));rcases cG.mp h with z|z|z
 ·rw[z];exact(IS k).1
 rw[z];exact(IS k).2;exact t.kind p z;rw[dJ y,cG];rcases(dJ y).mp h with z|⟨x,a⟩| ⟨x,a⟩
 obtain⟨e,b⟩:=t.sym p q z;exact⟨.inl e,.inr (.inr b)⟩;exact⟨.inr (.inr ⟨a,x⟩),.inl x⟩;exact⟨.inr (.inl ⟨a,x⟩),.inr (.inl x)⟩
theorem jX:∀{ws:List Wy}{r:Rm},(∀w∈ws,A1 w.1 w.2.1/\Vr w.1 w.2.1 w.2.2)->Tbl0 r->Tbl0 (ws.foldl tB r)
 |[],_,_,t=>t|w::ws,r,h,t=>jX (ws:=ws) (λw x=>h w (QD _ x)) (Y9 (h w QF).1 (h w QF).2 t)
theorem BL{p:Pt}:∀{ws:List Wy}{r:Rm},Key (ws.foldl tB r) p↔Key r p∨∃w∈ws,p=w.1∨p=w.2.1
 |[],r=>⟨.inl,λz=>z.elim id λ⟨_,m,_⟩=>(nomatch m)⟩
 |w::ws,r=>by
  rw[W7,BL (ws:=ws),cG];constructor;rintro((z|z|z)|⟨x,m,z⟩)
  ·exact .inr ⟨w,QF,.inl z⟩
  exact .inr ⟨w,QF,.inr z⟩;exact .inl z;exact .inr ⟨x,QD _ m,z⟩;rintro(z|⟨x,m,z⟩)
  ·exact .inl (.inr (.inr z))
  rcases QL.mp m with rfl|m
  ·rcases z with z|z
   ·exact .inl (.inl z)
   exact .inl (.inr (.inl z))
  exact .inr ⟨x,m,z⟩
def G1(es:rC)(st:LS)(g:Str):List Wy:=st.flatMap (YR g)++es.flatMap (VU g)
theorem aE:jA es st g=(G1 es st g).foldl tB pH:=by unfold jA G1;rw[QAZ]
theorem uE{v:Int}:(p,q,v)∈G1 es st g↔(∃n∈st,n≠g/\((p,q,v)=(tO n,fR n,1)∨(p,q,v)=(YA,tO n,2)))∨(∃e∈es,(e.1≠g/\e.1≠e.2)/\((p,q,v)=(tO e.1,fR e.1,1)∨(p,q,v)=(tO e.2,fR e.2,1)∨(p,q,v)=(fR e.1,tO e.2,2))):=by
 unfold G1;rw[Qf,WC,WC];constructor;rintro(⟨n,m,h⟩| ⟨e,m,h⟩)
 ·exact .inl ⟨n,m,Ep.mp h⟩
 exact .inr ⟨e,m,Ip.mp h⟩;rintro(⟨n,m,h⟩| ⟨e,m,h⟩)
 ·exact .inl ⟨n,m,Ep.mpr h⟩
 exact .inr ⟨e,m,Ip.mpr h⟩
theorem IB:∀w∈G1 es st g,A1 w.1 w.2.1/\Vr w.1 w.2.1 w.2.2:=by
 rintro⟨p,q,v⟩ h;rcases uE.mp h with⟨n,_,_,e|e⟩| ⟨e,_,⟨_,x⟩,z|z|z⟩
 cases e;exact⟨.inr (.inl ⟨n,rfl,rfl⟩),.inl ⟨n,rfl,rfl,rfl⟩⟩;cases e;exact⟨.inl ⟨rfl,n,rfl⟩,.inr (.inl ⟨n,rfl,rfl,rfl⟩)⟩;cases z;exact⟨.inr (.inl ⟨_,rfl,rfl⟩),.inl ⟨_,rfl,rfl,rfl⟩⟩;cases z;exact⟨.inr (.inl ⟨_,rfl,rfl⟩),.inl ⟨_,rfl,rfl,rfl⟩⟩;cases z;exact⟨.inr (.inr ⟨_,_,x,rfl,rfl⟩),.inr (.inr (.inl ⟨_,_,x,rfl,rfl,rfl⟩))⟩
theorem jJ(p:Pt):lk pH p=[]:=by show(if YA=p then some [] else none).getD []=[];split<;>rfl
theorem on:Tbl0 pH:=by refine⟨Qh.mpr ⟨λz=>(nomatch z),Q0⟩,λp=>?_,λp e x=>?_,λp h=>?_,λp q h=>?_⟩;rw[jJ];exact Q0;rw[jJ]at x;exact(nomatch x);exact .inl (QJ.mp (zB.mp h));obtain⟨v,h⟩:=h;rw[jJ]at h;exact(nomatch h)
end
section
variable{es:rC}{st:LS}{g:Str}
section
variable{p q:Pt}{n:Str}
theorem EC:Tbl0 (jA es st g):=by rw[aE];exact jX IB on
theorem Y7:∀w∈G1 es st g,CG w:=λw h=>by unfold G1 at h;rcases Qf.mp h with z|z;exact kH (f:=YR g) (λ_=>ML) st w z;exact kH (f:=VU g) (λ_=>NL) es w z
theorem kC:E1 (jA es st g) p q↔(∃v,(p,q,v)∈G1 es st g)∨∃v,(q,p,v)∈G1 es st g:=by
 rw[aE,lY Y7];constructor;rintro(⟨v,h⟩| h)
 ·rw[jJ]at h;exact(nomatch h)
 exact h;exact .inr
theorem AO(h:Key (jA es st g) (tO n)):E1 (jA es st g) (tO n) (fR n):=by
 rw[aE]at h;rcases BL.mp h with z|⟨⟨p,q,v⟩,m,z⟩
 exact absurd (QJ.mp (zB.mp z)).symm PB;refine kC.mpr (.inl ⟨1,uE.mpr ?_⟩);have z:tO n=p∨tO n=q:=z;rcases uE.mp m with⟨k,mk,x,e|e⟩| ⟨e,u,x,y|y|y⟩
 cases e;rcases z with z|z;rw[BB z];exact .inl ⟨k,mk,x,.inl rfl⟩;exact absurd z LA;cases e;rcases z with z|z;exact absurd z.symm PB;rw[BB z];exact .inl ⟨k,mk,x,.inl rfl⟩;cases y;rcases z with z|z;rw[BB z];exact .inr ⟨e,u,x,.inl rfl⟩;exact absurd z LA;cases y;rcases z with z|z;rw[BB z];exact .inr ⟨e,u,x,.inr (.inl rfl)⟩;exact absurd z LA;cases y;rcases z with z|z;exact absurd z LA;rw[BB z];exact .inr ⟨e,u,x,.inr (.inl rfl)⟩
theorem A0:Vr p q (rm (jA es st g) p q)∨(¬ lI (jA es st g) p q/\rm (jA es st g) p q=0):=by by_cases h:lI (jA es st g) p q;obtain⟨v,e⟩:=h;have:=EC (es:=es) (st:=st) (g:=g) |>.cap p (q,v) (IG e);unfold rm;rw[e];exact .inl this;exact .inr ⟨h,yQ h⟩
theorem Yv:0<=rm (jA es st g) p q:=by rcases A0 (es:=es) (st:=st) (g:=g) (p:=p) (q:=q) with(⟨_,_,_,e⟩| ⟨_,_,_,e⟩| ⟨_,_,_,_,_,e⟩| ⟨_,e⟩)|⟨_,e⟩<;>rw[e]<;>decide
theorem pJ(h:¬ A1 p q):rm (jA es st g) p q=0:=by
 rcases A0 (es:=es) (st:=st) (g:=g) (p:=p) (q:=q) with(⟨n,y,x,_⟩| ⟨n,y,x,_⟩| ⟨a,b,z,y,x,_⟩| ⟨_,e⟩)|⟨_,e⟩
 exact absurd (.inr (.inl ⟨n,y,x⟩)) h;exact absurd (.inl ⟨y,n,x⟩) h;exact absurd (.inr (.inr ⟨a,b,z,y,x⟩)) h;exact e;exact e
theorem Nk(h:q≠fR n):rm (jA es st g) (tO n) q=0:=pJ λl=>by
 rcases l with⟨e,_⟩| ⟨m,y,x⟩| ⟨a,b,_,e,_⟩
 exact PB e.symm;exact h (by rw[x,BB y]);exact LA e
theorem iq:rm (jA es st g) (tO n) (fR n)<=1:=by
 rcases A0 (es:=es) (st:=st) (g:=g) (p:=tO n) (q:=fR n) with(⟨_,_,_,e⟩| ⟨m,h,_,_⟩| ⟨a,b,x,h,y,_⟩| ⟨_,e⟩)|⟨_,e⟩
 rw[e];decide;exact absurd h.symm PB;exact absurd h LA;rw[e];decide;rw[e];decide
theorem Pk(h:Key (jA es st g) (tO n)):rm (jA es st g) (tO n) (fR n)=1:=by
 have a:=mB.mpr (AO h);rcases A0 (es:=es) (st:=st) (g:=g) (p:=tO n) (q:=fR n) with(⟨_,_,_,e⟩| ⟨m,x,_,_⟩| ⟨a,b,y,x,u,_⟩| ⟨l,e⟩)|⟨z,e⟩
 exact e;exact absurd x.symm PB;exact absurd x LA;exact absurd (.inr (.inl ⟨n,rfl,rfl⟩)) l;exact absurd a z
theorem Zv(h:p≠tO n):rm (jA es st g) p (fR n)=0:=pJ λl=>by
 rcases l with⟨_,m,e⟩| ⟨m,y,x⟩| ⟨a,b,_,_,e⟩
 exact LA e.symm;exact h (by rw[y,EH x]);exact LA e.symm
theorem Kv:rm (jA es st g) p YA=0:=pJ λl=>by
 rcases l with⟨_,m,e⟩| ⟨m,x,h⟩| ⟨a,b,_,_,e⟩
 exact PB e;exact FE h;exact PB e
theorem aq(h:p≠fR n):rm (jA es st g) p (tO n)=0∨rm (jA es st g) p (tO n)=2:=by
 rcases A0 (es:=es) (st:=st) (g:=g) (p:=p) (q:=tO n) with(⟨_,_,e,_⟩| ⟨m,_,_,e⟩| ⟨a,b,_,_,_,e⟩| ⟨l,e⟩)|⟨_,e⟩
 exact absurd e LA;exact .inr e;exact .inr e;exact .inl e;exact .inl e
theorem Mk{v:Int}(h:(p,tO n,v)∈G1 es st g):rm (jA es st g) p (tO n)=2:=by
 have a:lI (jA es st g) p (tO n):=mB.mpr (kC.mpr (.inl ⟨v,h⟩));have l:A1 p (tO n):=(IB _ h).1;rcases A0 (es:=es) (st:=st) (g:=g) (p:=p) (q:=tO n) with(⟨_,_,e,_⟩| ⟨m,_,_,e⟩| ⟨a,b,_,_,_,e⟩| ⟨x,e⟩)|⟨z,e⟩
 exact absurd e LA;exact e;exact e;exact absurd l x;exact absurd a z
end
end
section
variable{es:rC}{st:LS}{g:Str}
def vs0(es:rC)(st:LS)(g:Str):List Pt:=(jA es st g).map (·.1)
def fl(es:rC)(st:LS)(g:Str)(r:Rm)(p q:Pt):Int:=rm (jA es st g) p q - rm r p q
def out(es:rC)(st:LS)(g:Str)(r:Rm)(p:Pt):Int:=sm (vs0 es st g) (fl es st g r p)
structure Base(es:rC)(st:LS)(g:Str)(r:Rm):Prop where
 ndi:Fd r
 adj:∀p q,lI r p q↔lI (jA es st g) p q
 keys:r.map (·.1)=vs0 es st g
 nn:∀p q,0<=rm r p q
 anti:∀p q,fl es st g r p q=- fl es st g r q p
structure Flow(es:rC)(st:LS)(g:Str)(r:Rm):Prop extends Base es st g r where
 cons:∀x,x≠YA->x≠tO g->out es st g r x=0
theorem OF:(vs0 es st g).Nodup:=EC.ndk
theorem bf:Flow es st g (jA es st g):=by
 have e:∀p q,fl es st g (jA es st g) p q=0:=λp q=>by unfold fl;omega
 refine⟨⟨EC.ndi,λp q=>WO,rfl,λp q=>Yv,λp q=>by rw[e,e];rfl⟩,λx _ _=>?_⟩;unfold out;rw[AA (g:=λ_=>0) λq _=>e x q];exact MG _
theorem VB{p q:Pt}(h:lI (jA es st g) p q):lI (jA es st g) q p:=mB.mpr (EC.sym p q (mB.mp h)).1
theorem lB{p q:Pt}(h:lI (jA es st g) p q):p∈vs0 es st g:=zB.mp (EC.sym p q (mB.mp h)).2
theorem tR{p q:Pt}(h:lI (jA es st g) p q):p≠q:=by
 rcases kC.mp (mB.mp h) with⟨v,m⟩| ⟨v,m⟩
 exact uG (IB _ m).1;exact(uG (IB _ m).1).symm
section
variable{r:Rm}
theorem Base.dom(b:Base es st g r):S8 r:=λp q h=>by have a:=(b.adj p q).mp (mB.mpr h);rw[zB,b.keys];exact lB (VB a)
theorem Base.bg(b:Base es st g r):Key r YA:=by rw[zB,b.keys];refine zB.mp ?_;show Key (jA es st g) YA;rw[aE];exact BL.mpr (.inl ⟨[],if_pos rfl⟩)
theorem Base.len(b:Base es st g r):r.length=(jA es st g).length:=by have:=congrArg qa b.keys;unfold vs0 at this;rw[QE,QE]at this;exact this
theorem Base.adjw(b:Base es st g r){p q:Pt}(h:0<rm r p q):lI (jA es st g) p q:=(b.adj p q).mp (by
 unfold rm at h;cases e:look (lk r p) q with|none=>rw[e]at h;exact absurd h (wg 0)|some v=>exact⟨v,e⟩)
theorem DQ{u:Pt}{l:Inn}(h:u∈r.map (·.1)):(put r u l).map (·.1)=r.map (·.1):=by rw[put_keys,if_pos h]
theorem Base.pushed(b:Base es st g r){u v:Pt}(h:0<rm r u v):Base es st g (cZ r u v):=by
 have a:=b.adjw h;have y:=tR a;have e:=EU (r:=r) y;refine⟨Rb y b.ndi,λp q=>?_,?_,λp q=>?_,λp q=>?_⟩;rw[Ud y ((b.adj u v).mpr a) ((b.adj v u).mpr (VB a))];exact b.adj p q;have k:u∈r.map (·.1):=by rw[b.keys];exact lB a
 have f:v∈r.map (·.1):=by rw[b.keys];exact lB (VB a)
 unfold cZ;rw[DQ (by rw[DQ k];exact f),DQ k];exact b.keys;rw[e];have:=b.nn p q;by_cases c:p=u/\q=v;rw[if_pos c,c.1,c.2];split<;>omega;rw[if_neg c];split<;>omega;unfold fl;rw[e,e];have:=b.anti p q;unfold fl at this;by_cases x:p=v/\q=u;rw[if_pos x,if_pos (c:=q=u/\p=v) ⟨x.2,x.1⟩,if_neg (c:=p=u/\q=v) (λz=>y (z.1.symm.trans x.1)),if_neg (c:=q=v/\p=u) (λz=>y (z.2.symm.trans x.1))];omega;rw[if_neg x,if_neg (c:=q=u/\p=v) (λz=>x ⟨z.2,z.1⟩)];by_cases w:p=u/\q=v;rw[if_pos w,if_pos (c:=q=v/\p=u) ⟨w.2,w.1⟩];omega;rw[if_neg w,if_neg (c:=q=v/\p=u) (λz=>w ⟨z.2,z.1⟩)];omega
theorem eX(b:Base es st g r){u v:Pt}(h:0<rm r u v)(x:Pt):out es st g (cZ r u v) x=out es st g r x+(if x=u then 1 else 0) - (if x=v then 1 else 0):=by
 have a:=b.adjw h;have f:=tR a;unfold out;have e:∀q,fl es st g (cZ r u v) x q=fl es st g r x q+((if q=v then(if x=u then 1 else 0) else 0)+-(if q=u then(if x=v then 1 else 0) else 0)):=λq=>by unfold fl;rw[EU f];by_cases k:x=u;have w:x≠v:=λz=>f (k.symm.trans z);rw[if_neg (c:=x=v/\q=u) (λz=>w z.1),if_pos k,if_neg w];by_cases y:q=v;rw[if_pos (c:=x=u/\q=v) ⟨k,y⟩,if_pos y];split<;>omega;rw[if_neg (c:=x=u/\q=v) (λz=>y z.2),if_neg y];split<;>omega;rw[if_neg (c:=x=u/\q=v) (λz=>k z.1),if_neg k];by_cases w:x=v;rw[if_pos w];by_cases y:q=u;rw[if_pos (c:=x=v/\q=u) ⟨w,y⟩,if_pos y];split<;>omega;rw[if_neg (c:=x=v/\q=u) (λz=>y z.2),if_neg y];split<;>omega;rw[if_neg (c:=x=v/\q=u) (λz=>w z.1),if_neg w];split<;>split<;>omega
 rw[AA λq _=>e q,LH,LH,OJ,PJ OF (lB (VB a)),PJ OF (lB a)];omega
end
section
variable{r y:Rm}{ks:List Pt}
theorem CF.find{vs:List D}(h:CF r ks vs){q:Pt}(m:q∈ks)(b:q≠YA):∃z u p k v,CF r z u/\p∈z/\Of r p q/\q∉z/\ks=z++q::k/\vs=u++pr p::v:=by
 induction h with|bg=>exact absurd (QJ.mp m) b|@add ks vs p x c i w n f=>by_cases e:q∈ks;obtain⟨z,u,a,k,v,Z,Y,X,s,o,l⟩:=f e;exact⟨z,u,a,k++[x],v++[pr p],Z,Y,X,s,by rw[o,qB];rfl,by rw[l,qB];rfl⟩;have j:q=x:=QJ.mp ((Qf.mp m).resolve_left e);subst j;exact⟨ks,vs,p,[],[],c,i,w,n,rfl,rfl⟩
structure LC(es:rC)(st:LS)(g:Str)(y r:Rm)(here:Pt)(ks:List Pt):Prop extends Base es st g r where
 cons:∀x,x≠YA->x≠tO g->out es st g r x=if x=here then 1 else 0
 val:out es st g r YA=out es st g y YA+if here=YA then 1 else 0
 fresh:∀p,∀q∈ks,rm y p q<=rm r p q
theorem G6(f:Flow es st g y)(ks:List Pt):LC es st g y y (tO g) ks:=by refine⟨f.toBase,λx u h=>?_,?_,λp q _=>QCU _⟩;rw[if_neg h];exact f.cons x u h;rw[if_neg (λz=>PB z.symm)];omega
theorem xc{h p:Pt}{u:List Pt}(nd:Fd y)(l:LC es st g y r h ks)(i:h∈ks)(hb:h≠YA)(w:Of y p h)(f:h∉u)(e:∀q∈u,q∈ks):0<rm r p h/\LC es st g y (cZ r p h) p u:=by have v:0<rm r p h:=Int.lt_of_lt_of_le ((FU nd).mp w) (l.fresh p h i);have b:=tR (l.adjw v);refine⟨v,l.toBase.pushed v,λx a j=>?_,?_,λx q k=>?_⟩;rw[eX l.toBase v,l.cons x a j];split<;>split<;>omega;rw[eX l.toBase v,l.val,if_neg hb,if_neg (c:=YA=h) (λz=>hb z.symm)];by_cases c:p=YA;rw[if_pos c,if_pos c.symm];omega;rw[if_neg c,if_neg (λz=>c z.symm)];omega;have a:=l.fresh x q (e q k);rw[EU b,if_neg (c:=x=p/\q=h) (λz=>f (z.2▸k))];split<;>omega
theorem Cj(l:LC es st g y r YA ks):Flow es st g r/\out es st g r YA=out es st g y YA+1:=by refine⟨⟨l.toBase,λx h z=>?_⟩,?_⟩;rw[l.cons x h z,if_neg h];rw[l.val,if_pos rfl]
end
end
section
variable{es:rC}{st:LS}{g:Str}{r:Rm}
section
variable{p q y:Pt}{n a:Str}{ks:List Pt}
theorem CL(b:Base es st g r)(h:rm (jA es st g) q p=0):fl es st g r p q=rm r q p:=by have:=b.anti p q;unfold fl at this ⊢;omega
def XU(r:Rm)(n:Str):Int:=rm r (fR n) (tO n)
theorem PU(b:Base es st g r)(n:Str):fl es st g r (tO n) (fR n)=XU r n:=CL b (pJ λl=>fF (.inr (.inl ⟨n,rfl,rfl⟩)) l)
theorem zM(b:Base es st g r)(n:Str):XU r n<=1:=by rw[<- PU b];have x:=iq (es:=es) (st:=st) (g:=g) (n:=n);have h:=b.nn (tO n) (fR n);unfold fl;omega
theorem U4(b:Base es st g r)(h:p∉vs0 es st g∨q∉vs0 es st g):rm r p q=0:=by refine yQ λa=>?_;have a:=(b.adj p q).mp a;rcases h with h|h;exact h (lB a);exact h (lB (VB a))
theorem be(l:List Pt)(nd:l.Nodup)(u:Pt)(k:Int)(h:u∉l->k=0):sm l (λx=>if x=u then k else 0)=k:=by by_cases m:u∈l;exact PJ nd m;rw[NP m,h m]
def inn(r:Rm)(n:Str)(y:Pt):Int:=if y=fR n then 0 else rm r (tO n) y
theorem PQ(f:Flow es st g r)(h:n≠g):sm (vs0 es st g) (inn r n)=XU r n:=by
 have c:=f.cons (tO n) (λz=>PB z.symm) (λz=>h (BB z));unfold out at c;have e:∀y,fl es st g r (tO n) y=(if y=fR n then XU r n else 0)+- inn r n y:=λy=>by unfold inn;by_cases e:y=fR n;rw[if_pos e,if_pos e,e,PU f.toBase];omega;rw[if_neg e,if_neg e];unfold fl;rw[Nk e];omega
 rw[AA λy _=>e y,LH,OJ,be _ OF (fR n) (XU r n) (λz=>U4 f.toBase (.inl z))]at c;omega
theorem OQ(b:Base es st g r)(n:Str)(y:Pt):0<=inn r n y:=by unfold inn;split;decide;exact b.nn _ _
def Sa(r:Rm)(n:Str)(y:Pt):Int:=if y=tO n then 0 else rm r y (fR n)
theorem aX(f:Flow es st g r)(n:Str):sm (vs0 es st g) (Sa r n)=XU r n:=by
 have c:=f.cons (fR n) (λz=>FE z.symm) (λz=>LA z.symm);unfold out at c;have e:∀y,fl es st g r (fR n) y=- (if y=tO n then XU r n else 0)+Sa r n y:=λy=>by unfold Sa;by_cases e:y=tO n;rw[if_pos e,if_pos e,e];have:=f.anti (fR n) (tO n);rw[PU f.toBase]at this;omega;rw[if_neg e,if_neg e,CL f.toBase (Zv e)];omega
 rw[AA λy _=>e y,LH,OJ,be _ OF (tO n) (XU r n) (λz=>U4 f.toBase (.inr z))]at c;omega
theorem Ci(b:Base es st g r)(n:Str)(y:Pt):0<=Sa r n y:=by unfold Sa;split;decide;exact b.nn _ _
def tU(r:Rm)(n:Str):Prop:=0<rm r (tO n) YA
def B8(r:Rm)(a b:Str):Prop:=a≠b/\0<rm r (tO b) (fR a)
theorem uK(b:Base es st g r)(h:tU r n):n∈st/\n≠g:=by
 rcases kC.mp (mB.mp (b.adjw h)) with⟨v,m⟩| ⟨v,m⟩
 exact absurd (IB _ m).1 λl=>by
  rcases l with⟨e,_⟩| ⟨_,_,e⟩| ⟨_,_,_,e,_⟩
  exact PB e.symm;exact FE e;exact LA e
 rcases uE.mp m with⟨k,mk,x,e|e⟩| ⟨e,_,_,y|y|y⟩
 ·exact absurd (congrArg qz e) PB
 have:=congrArg (λw:Wy=>w.2.1) e;rw[BB this];exact⟨mk,x⟩;exact absurd (congrArg qz y) PB;exact absurd (congrArg qz y) PB;exact absurd (congrArg qz y) FE
theorem mj(b:Base es st g r){c:Str}(h:B8 r a c):(a,c)∈es/\a≠g:=by
 rcases kC.mp (mB.mp (b.adjw h.2)) with⟨v,m⟩| ⟨v,m⟩
 exact absurd (IB _ m).1 λl=>by
  rcases l with⟨e,_⟩| ⟨k,z,x⟩| ⟨_,_,_,e,_⟩
  exact PB e.symm;exact h.1 ((EH x).trans (BB z).symm);exact LA e
 rcases uE.mp m with⟨k,mk,u,e|e⟩| ⟨e,f,u,y|y|y⟩
 ·exact absurd (congrArg qz e).symm LA
 exact absurd (congrArg qz e).symm FE;exact absurd (congrArg qz y).symm LA;exact absurd (congrArg qz y).symm LA;have z:a=e.1:=EH (congrArg qz y);have x:c=e.2:=BB (congrArg (λw:Wy=>w.2.1) y);rw[z,x];exact⟨f,u.1⟩
theorem EV:inn r n YA=rm r (tO n) YA:=by unfold inn;exact if_neg FE
theorem pQ(h:a≠n):inn r n (fR a)=rm r (tO n) (fR a):=by unfold inn;exact if_neg λz=>h (EH z)
theorem Mb(h:a≠n):Sa r a (tO n)=rm r (tO n) (fR a):=by unfold Sa;exact if_neg λz=>h (BB z).symm
theorem NI(b:Base es st g r)(h:0<rm r p q):p∈vs0 es st g/\q∈vs0 es st g:=⟨lB (b.adjw h),lB (VB (b.adjw h))⟩
theorem vY(f:Flow es st g r)(n:Str)(h:n≠g):rm r (tO n) YA<=1:=by by_cases c:0<rm r (tO n) YA;have z:=HH (λx _=>OQ f.toBase n x) (NI f.toBase c).2;rw[PQ f h,EV]at z;exact Wk z (zM f.toBase n);omega
theorem Fc(f:Flow es st g r)(h:tU r n):XU r n=1:=by have ng:=(uK f.toBase h).2;have z:=HH (λx _=>OQ f.toBase n x) (NI f.toBase h).2;rw[PQ f ng,EV]at z;have:=zM f.toBase n;unfold tU at h;omega
theorem Lb(f:Flow es st g r)(h:B8 r a n)(ng:n≠g):XU r n=1:=by have z:=HH (λx _=>OQ f.toBase n x) (NI f.toBase h.2).2;rw[PQ f ng,pQ h.1]at z;have:=zM f.toBase n;have:=h.2;omega
theorem v3(f:Flow es st g r)(ng:n≠g){x:Pt}(u:0<inn r n x)(h:0<inn r n y):x=y:=by
 have w:x∈vs0 es st g:=by unfold inn at u;split at u;exact absurd u (wg 0);exact(NI f.toBase u).2
 have v:y∈vs0 es st g:=by unfold inn at h;split at h;exact absurd h (wg 0);exact(NI f.toBase h).2
 by_cases e:x=y;exact e;have k:=O3 (λz _=>OQ f.toBase n z) w v e;rw[PQ f ng]at k;have:=zM f.toBase n;omega
theorem ZX(f:Flow es st g r){b:Str}(ng:n≠g)(x:B8 r a n)(h:B8 r b n):a=b :=
 EH (v3 f ng (by rw[pQ x.1];exact x.2) (by rw[pQ h.1];exact h.2))
theorem jR(f:Flow es st g r)(x:tU r n)(h:B8 r a n):False :=
 FE (v3 f (uK f.toBase x).2 (by rw[EV];exact x) (by rw[pQ h.1];exact h.2))
theorem E5(f:Flow es st g r)(h:XU r n=1):∃y,y≠tO n/\0<rm r y (fR n):=by obtain⟨y,_,x⟩:=P3 (f:=Sa r n) (l:=vs0 es st g) (by rw[aX f,h];decide);unfold Sa at x;split at x;exact absurd x (wg 0);rename_i ne;exact⟨y,ne,x⟩
theorem Me(b:Base es st g r)(h:lI r y (fR n)):∃m,y=tO m:=by
 rcases kC.mp (mB.mp ((b.adj _ _).mp h)) with⟨v,m⟩| ⟨v,m⟩
 rcases(IB _ m).1 with⟨_,k,e⟩| ⟨k,e,_⟩| ⟨_,k,_,_,e⟩
 ·exact absurd e.symm LA
 exact⟨k,e⟩;exact absurd e.symm LA;rcases(IB _ m).1 with⟨e,_⟩| ⟨k,e,_⟩| ⟨_,k,_,_,e⟩
 ·exact absurd e.symm FE
 exact absurd e.symm LA;exact⟨k,e⟩
theorem r6(b:Base es st g r)(h:lI r y YA):∃m,y=tO m:=by
 rcases kC.mp (mB.mp ((b.adj _ _).mp h)) with⟨v,m⟩| ⟨v,m⟩
 rcases(IB _ m).1 with⟨_,k,e⟩| ⟨k,_,e⟩| ⟨_,k,_,_,e⟩
 ·exact absurd e PB
 exact absurd e FE;exact absurd e PB;rcases(IB _ m).1 with⟨_,k,e⟩| ⟨k,e,_⟩| ⟨_,k,_,e,_⟩
 ·exact⟨k,e⟩
 exact absurd e PB;exact absurd e FE
theorem fj(f:Flow es st g r)(h:XU r n=1):∃m,B8 r n m:=by obtain⟨y,z,x⟩:=E5 f h;obtain⟨m,rfl⟩:=Me f.toBase ((f.adj _ _).mpr (f.toBase.adjw x));exact⟨m,λe=>z (by rw[e]),x⟩
theorem iO(f:Flow es st g r){v:Int}(m:(p,tO n,v)∈G1 es st g):0<rm r p (tO n):=by
 have c:=Mk m;have l:=(IB _ m).1;have h:fl es st g r p (tO n)=rm r (tO n) p:=CL f.toBase (pJ (fF l));unfold fl at h;rw[c]at h;have key:rm r (tO n) p<=1:=by
  rcases uE.mp m with⟨k,mk,z,e|e⟩| ⟨e,o,z,y|y|y⟩
  exact absurd (congrArg (λw:Wy=>w.2.1) e) LA;have b:p=YA:=congrArg qz e;have u:n=k:=BB (congrArg (λw:Wy=>w.2.1) e);rw[b];exact vY f n (by rw[u];exact z);exact absurd (congrArg (λw:Wy=>w.2.1) y) LA;exact absurd (congrArg (λw:Wy=>w.2.1) y) LA;have b:p=fR e.1:=congrArg qz y;have u:n=e.2:=BB (congrArg (λw:Wy=>w.2.1) y);rw[b];by_cases c:0<rm r (tO n) (fR e.1);have j:e.1≠n:=by rw[u];exact z.2
  have i:=HH (λx _=>Ci f.toBase e.1 x) (NI f.toBase c).1;rw[aX f,Mb j]at i;exact Wk i (zM f.toBase _);omega
 omega
theorem uS{l m:List Pt}(v:l.Nodup)(u:m.Nodup)(h:∀x,x∈l↔x∈m):l.length=m.length:=by have a:=EG v λx z=>(h x).mp z;have b:=EG u λx z=>(h x).mpr z;omega
def lG(ks:List Pt)(x:Pt):Bool:=decide (x.2="to")&&!decide (fR x.1∈ks)
theorem ND{x:Pt}:lG ks x=true↔∃n,x=tO n/\fR n∉ks:=by unfold lG;rw[QW,Q5,decide_eq_true_iff,decide_eq_false_iff_not];constructor;rintro⟨u,z⟩;exact⟨x.1,QCX rfl u,z⟩;rintro⟨n,rfl,h⟩;exact⟨rfl,h⟩
theorem OP(p:Pt->Bool):∀(l:List Pt),sm l (λx=>if p x=true then 1 else 0)=(l.filter p).length
 |[]=>rfl|x::l=>by show(if p x=true then 1 else 0)+sm l _=_;rw[OP p l,WB];by_cases c:p x=true;rw[if_pos c,if_pos c,QM];omega;rw[if_neg c,if_neg c];omega
theorem VT(f:Flow es st g r)(nd:ks.Nodup)(hk:∀p,p∈ks↔Rch r p)(M:tO g∉ks):out es st g r YA=(ks.filter (lG ks)).length:=by
 have sub:∀p∈ks,p∈vs0 es st g:=λp L=>by have:=zB.mp (KI f.toBase.dom f.toBase.bg ((hk p).mp L));rw[f.keys]at this;exact this
 have o:∀x∈ks,∀y,y∉ks->rm r x y=0:=λx w y u=>by have:=f.nn x y;by_cases c:0<rm r x y;exact absurd ((hk y).mpr (.go ((hk x).mp w) ((FU f.ndi).mpr c))) u;omega
 have I:sm ((vs0 es st g).filter λx=>decide (x∈ks)) (λx=>out es st g r x)=out es st g r YA:=by
  have hb:YA∈ks:=(hk YA).mpr .bg;have e:∀x∈(vs0 es st g).filter (λx=>decide (x∈ks)),out es st g r x=if x=YA then out es st g r YA else 0:=λx w=>by by_cases c:x=YA;rw[if_pos c,c];rw[if_neg c];exact f.cons x c λz=>M (z▸of_decide_eq_true (Qd.mp w).2)
  rw[AA e];exact PJ (OF.sublist Q9) (Qd.mpr ⟨sub _ hb,dT hb⟩)
 have G:∀x∈(vs0 es st g).filter (λx=>decide (x∈ks)),sm ((vs0 es st g).filter λy=>!decide (y∈ks)) (fl es st g r x)=if lG ks x=true then 1 else 0:=λx w=>by
  have W:x∈ks:=of_decide_eq_true (Qd.mp w).2;have Z:=(Qd.mp w).1;have k:∀y∈(vs0 es st g).filter (λy=>!decide (y∈ks)),y∉ks/\fl es st g r x y=rm (jA es st g) x y:=λy u=>by have:=(Qd.mp u).2;rw[Q5,decide_eq_false_iff_not]at this;refine⟨this,?_⟩;unfold fl;rw[o x W y this];omega
  have B:∀y∈(vs0 es st g).filter (λy=>!decide (y∈ks)),∀n,y=tO n->fl es st g r x y=0:=λy u n e=>by
   obtain⟨C,O⟩:=k y u;rw[O,e];by_cases A:x=fR n;rw[A];exact pJ λl=>fF (.inr (.inl ⟨n,rfl,rfl⟩)) l;rcases aq (es:=es) (st:=st) (g:=g) A with z|z
   ·exact z
   have a:lI (jA es st g) x (tO n):=by refine wP λJ=>?_;rw[yQ J]at z;exact absurd z (by decide)
   rcases kC.mp (mB.mp a) with⟨v,m⟩| ⟨v,m⟩
   have:=iO f m;rw[o x W (tO n) (e▸C)]at this;exact absurd this (wg 0);rw[pJ (fF (IB _ m).1)]
  rcases EC.kind x (zB.mpr Z) with e|⟨n,e|e⟩
  have i:¬ lG ks x=true:=λz=>by obtain⟨n,j,_⟩:=ND.mp z;exact PB (e.symm.trans j)
  rw[if_neg i];rw[AA (g:=λ_=>0),MG];intro y u;by_cases t:∃n,y=tO n;obtain⟨n,t⟩:=t;exact B y u n t;rw[(k y u).2,e];exact pJ λl=>by
   rcases l with⟨_,z⟩| ⟨n,z,_⟩| ⟨_,b,_,_,z⟩
   exact t z;exact PB z;exact t ⟨b,z⟩
  by_cases X:fR n∈ks
  ·have i:¬ lG ks x=true:=λz=>by
    obtain⟨m,j,h⟩:=ND.mp z;rw[<- BB (e.symm.trans j)]at h;exact h X
   rw[if_neg i,AA (g:=λ_=>0),MG];intro y u;rw[(k y u).2,e];exact Nk λz=>(k y u).1 (z▸X)
  rw[if_pos (ND.mpr ⟨n,e,X⟩)];have K:Key (jA es st g) (tO n):=by rw[<- e];exact zB.mpr Z
  have N:fR n∈vs0 es st g:=lB (VB (mB.mpr (AO K)));rw[AA (g:=λy=>if y=fR n then 1 else 0)];exact PJ (OF.sublist Q9) (Qd.mpr ⟨N,by rw[dF X];rfl⟩);intro y u;rw[(k y u).2,e];by_cases c:y=fR n;rw[if_pos c,c,Pk K];rw[if_neg c,Nk c];have i:¬ lG ks x=true:=λz=>by obtain⟨m,j,_⟩:=ND.mp z;exact LA (j.symm.trans e)
  rw[if_neg i,AA (g:=λ_=>0),MG];intro y u;by_cases t:∃n,y=tO n;obtain⟨n,t⟩:=t;exact B y u n t;rw[(k y u).2,e];exact pJ λl=>by
   rcases l with⟨z,_⟩| ⟨n,z,_⟩| ⟨_,b,_,_,z⟩
   exact FE z.symm;exact LA z.symm;exact t ⟨b,z⟩
 have F:∀x,out es st g r x=sm ((vs0 es st g).filter λy=>decide (y∈ks)) (fl es st g r x)+sm ((vs0 es st g).filter λy=>!decide (y∈ks)) (fl es st g r x):=λx=>IR _ _;have E:sm ((vs0 es st g).filter λx=>decide (x∈ks)) (λx=>out es st g r x)=sm ((vs0 es st g).filter λx=>decide (x∈ks)) (λx=>if lG ks x=true then 1 else 0):=by rw[AA λx _=>F x,LH,C9 _ λx _ y _=>f.anti x y,AA G];omega
 rw[<- I,E,OP];have:(((vs0 es st g).filter λx=>decide (x∈ks)).filter (lG ks)).length=(ks.filter (lG ks)).length:=by refine uS ((OF.sublist Q9).sublist Q9) (nd.sublist Q9) λx=>?_;rw[Qd,Qd,Qd,decide_eq_true_iff];exact⟨λ⟨⟨_,s⟩,Y⟩=>⟨s,Y⟩,λ⟨s,Y⟩=>⟨⟨sub x s,s⟩,Y⟩⟩
 rw[this]
theorem Gc(f:Flow es st g r):out es st g r YA=(((lk r YA).map (·.1)).filter λy=>decide (0<rm r y YA)).length:=by
 have e:∀y∈vs0 es st g,fl es st g r YA y=if decide (0<rm r y YA)=true then 1 else 0:=λy x=>by rw[CL f.toBase Kv];have z:=f.nn y YA;by_cases c:0<rm r y YA;rw[dT c,if_pos rfl];obtain⟨n,e⟩:=r6 f.toBase ((f.adj _ _).mpr (f.toBase.adjw c));rw[e]at c ⊢;have:=vY f n (uK f.toBase c).2;omega;rw[dF c,if_neg (by decide)];omega
 unfold out;rw[AA e,OP];have:((vs0 es st g).filter λy=>decide (0<rm r y YA)).length=(((lk r YA).map (·.1)).filter λy=>decide (0<rm r y YA)).length:=by refine uS (OF.sublist Q9) ((f.ndi YA).sublist Q9) λy=>?_;rw[Qd,Qd,decide_eq_true_iff];refine⟨λ⟨_,h⟩=>⟨?_,h⟩,λ⟨_,h⟩=>⟨(NI f.toBase h).1,h⟩⟩;obtain⟨v,hv⟩:=(f.adj YA y).mpr (VB (f.toBase.adjw h));exact QV.mpr ⟨(y,v),IG hv,rfl⟩
 rw[this]
theorem Sc(f:Flow es st g r)(hk:∀p,p∈ks↔Rch r p)(o:tO g∉ks){cut:LS}(hc:∀n,tO n∈ks->fR n∉ks->n∈cut):¬ ∃a,(a,g)∈es/\Led es st g cut a:=by
 have u:∀p∈ks,∀n v,(p,tO n,v)∈G1 es st g->tO n∈ks:=λp j n v m=>(hk _).mpr (.go ((hk _).mp j) ((FU f.ndi).mpr (iO f m)));have key:∀n,Led es st g cut n->fR n∈ks:=λn h=>by
  induction h with|@st s h k=>obtain⟨w,x⟩:=UE.mp k;have t:=u YA ((hk _).mpr .bg) s 2 (uE.mpr (.inl ⟨s,h,w,.inr rfl⟩));exact wP λz=>x (hc s t z)|@ed a b l m k i=>obtain⟨w,x⟩:=UE.mp k;by_cases e:a=b;rw[<- e];exact i;have t:=u (fR a) i b 2 (uE.mpr (.inr ⟨(a,b),m,⟨(kN l).1,e⟩,.inr (.inr rfl)⟩));exact wP λz=>x (hc b t z)
 rintro⟨a,m,l⟩;exact o (u (fR a) (key a l) g 2 (uE.mpr (.inr ⟨(a,g),m,⟨(kN l).1,(kN l).1⟩,.inr (.inr rfl)⟩)))
end
end
inductive Run(r:Rm)(g f:Str):LS->Str->Prop
 |nil:Run r g f [] f
 |go {c:LS}{n m:Str}:Run r g f c n->n≠g->B8 r n m->Run r g f (c++[n]) m
inductive Chn(es:rC)(st:LS)(g:Str):LS->Str->Prop
 |st {f:Str}:f∈st->f≠g->Chn es st g [] f
 |go {c:LS}{n m:Str}:Chn es st g c n->n≠g->(n,m)∈es->Chn es st g (c++[n]) m
section
variable{es:rC}{st:LS}{g:Str}{r:Rm}
section
variable{s n:Str}{c:LS}
theorem Run.chn(f:Flow es st g r)(x:tU r s)(h:Run r g s c n):Chn es st g c n:=by
 induction h with|nil=>exact .st (uK f.toBase x).1 (uK f.toBase x).2|go _ ng y z=>exact .go z ng (mj f.toBase y).1
theorem Run.thr1(f:Flow es st g r)(y:tU r s)(h:Run r g s c n)(ng:n≠g):XU r n=1:=by
 cases h with|nil=>exact Fc f y|go _ _ x=>exact Lb f x ng
theorem Run.pred(h:Run r g s c n):∀x,x∈c∨x=n->x=s∨∃y∈c,B8 r y x:=by
 induction h with
 |nil=>intro x u;exact u.elim (λz=>(nomatch z)) .inl
 |@go c n m _ _ v w =>
  intro x u;rcases u with u|rfl;have:x∈c∨x=n:=(Qf.mp u).imp_right QJ.mp;rcases w x this with z|⟨y,k,z⟩
  exact .inl z;exact .inr ⟨y,Qn _ k,z⟩;exact .inr ⟨n,QX _ QF,v⟩
theorem Run.ng(h:Run r g s c n):∀x∈c,x≠g:=by
 induction h with
 |nil=>exact λx y=>(nomatch y)
 |go _ k _ u=>intro x y;rcases Qf.mp y with z|z;exact u x z;rw[QJ.mp z];exact k
theorem Run.nd(f:Flow es st g r)(w:tU r s)(h:Run r g s c n):c.Nodup/\n∉c:=by
 induction h with
 |nil=>exact⟨Q0,λz=>(nomatch z)⟩
 |@go c n m h k x u =>
  have nd:(c++[n]).Nodup:=ql.mpr ⟨u.1,Qh.mpr ⟨λz=>(nomatch z),Q0⟩,λa i b hb z=>by rw[QJ.mp hb]at z;exact u.2 (z▸i)⟩;refine⟨nd,λz=>?_⟩;rcases Qf.mp z with z|z;rcases h.pred m (.inl z) with e|⟨y,v,e⟩
  ·rw[e]at x;exact jR f w x
  rw[ZX f (h.ng m z) e x]at v;exact u.2 v;exact x.1 (QJ.mp z).symm
theorem Run.apart(f:Flow es st g r){s':Str}(q:tU r s)(b:tU r s'){l:LS}{p:Str}(h:Run r g s c n)(h':Run r g s' l p):∀x∈c,x∈l->s=s':=by
 induction h with
 |nil=>exact λx a=>(nomatch a)
 |@go c n m h k X i =>
  intro x a v;rcases Qf.mp a with z|z;exact i x z v;have z:=QJ.mp z;subst z;rcases h.pred x (.inr rfl) with e|⟨y,j,e⟩<;>rcases h'.pred x (.inl v) with u|⟨o,w,u⟩
  exact e.symm.trans u;rw[e]at u;exact(jR f q u).elim;rw[u]at e;exact(jR f b e).elim;rw[ZX f k e u]at j;exact i o j w
end
end
section
variable{es:rC}{st:LS}{g:Str}
theorem Ec{cut:LS}{c:LS}{n:Str}(h:Chn es st g c n)(hc:∀x∈c,x∉cut)(ng:n≠g)(y:n∉cut):Led es st g cut n:=by
 induction h with|st h _=>exact .st h (UE.mpr ⟨ng,y⟩)|@go c n m _ k e z=>exact .ed (z (λx u=>hc x (Qn _ u)) k (hc n (QX _ QF))) e (UE.mpr ⟨ng,y⟩)
theorem E7{cut:LS}{c:LS}(h:Chn es st g c g)(hl:¬ ∃a,(a,g)∈es/\Led es st g cut a):∃x∈c,x∈cut:=by
 refine wP λz=>?_;have hc:∀x∈c,x∉cut:=λx y m=>z ⟨x,y,m⟩;cases h with|st _ e=>exact e rfl|@go c n _ h k e=>exact hl ⟨n,e,Ec h (λx y=>hc x (Qn _ y)) k (hc n (QX _ QF))⟩
def UJ:List (LS)->Prop
 |[]=>True|c::cs=>(∀d∈cs,∀x∈c,x∉d)/\UJ cs
theorem Ye{cut:LS}:∀{cs:List (LS)},UJ cs->(∀c∈cs,∃x∈c,x∈cut)->∃u:LS,u.length=cs.length/\u.Nodup/\(∀p∈u,p∈cut)/\∀p∈u,∃c∈cs,p∈c
 |[],_,_=>⟨[],rfl,Q0,λ_ z=>(nomatch z),λ_ z=>(nomatch z)⟩
 |c::cs,a,h=>by
  obtain⟨u,f,e,b,k⟩:=Ye (cs:=cs) a.2 λd v=>h d (QD _ v);obtain⟨x,w,hc⟩:=h c QF;refine⟨x::u,by rw[QM,QM,f],Qh.mpr ⟨λz=>?_,e⟩,λp y=>?_,λp y=>?_⟩;obtain⟨d,v,y⟩:=k x z;exact a.1 d v x w y;rcases QL.mp y with z|z
  ·rw[z];exact hc
  exact b p z;rcases QL.mp y with z|z
  ·exact⟨c,QF,by rw[z];exact w⟩
  obtain⟨d,v,y⟩:=k p z;exact⟨d,QD _ v,y⟩
theorem O0{cut:LS}{cs:List (LS)}(a:UJ cs)(h:∀c∈cs,Chn es st g c g)(hl:¬ ∃a,(a,g)∈es/\Led es st g cut a):cs.length<=cut.length:=by obtain⟨u,z,y,x,_⟩:=Ye a λc hc=>E7 (h c hc) hl;rw[<- z];exact YQ y x
end
section
variable{ks:List Pt}{vs:List D}{p:Pt}
def oC(ks:List Pt)(vs:List D):List (D×D):=(ks.map pr).zip vs
theorem Lk(ks:List Pt)(vs:List D):(v9 ks vs).er=.dict (oC ks vs):=by show PyData.dict ((ks.map pr).zip (ersT (vs.map T.d)))=_;rw[bB];rfl
theorem FL(h:vs.length=ks.length):(oC ks vs).map (·.1)=ks.map pr:=Wn (by rw[QE];omega)
theorem zd(h:vs.length=ks.length):(oC ks vs).map (·.2)=vs:=w6 (by rw[QE];omega)
theorem mJ(h:vs.length=ks.length)(m:p∈ks):oD (oC ks vs)=some true:=by
 cases ks with
 |nil=>exact(nomatch m)
 |cons x ks=>cases vs with|nil=>cases h|cons y vs=>rfl
theorem JT{q:Pt}{u:List Pt}:∀{y:List Pt},q∉y->cA ((y++q::u).map pr) (pr q)=some y.length
 |[],_=>df rfl|x::y,h=>by show cA (pr x::(y++q::u).map pr) (pr q)=_;rw[B7 (λz=>h (by rw[uQ z];exact QF)),JT λz=>h (QD _ z)];rfl
theorem Om{h z:List Pt}{y x:List D}{q:Pt}{n m:Bool}{R:T->Prop}(u:y.length=h.length)(w:x.length=z.length)(v:q∉h)(k:R (.d (pr p))):VA (.d (.dict (oC (h++q::z) (y++pr p::x)))) n (.d (pr q)) m R:=by
 have hl:(y++pr p::x).length=(h++q::z).length:=by rw[QI,QI,QM,QM,u,w]
 refine Mm (mJ hl (p:=q) (QX _ QF)) (TB q) (by rw[FL hl];exact JT v) ?_ k;rw[zd hl,<- u,Qu (QZ _),QA7];rfl
theorem uW(a b:Pt):Qv (pr a) (pr b)=decide (a=b):=by
 rw[qC,decide_eq_true_iff];have e:Qv (pr a) (pr b)=(Qv (.str a.1) (.str b.1)&&(Qv (.str a.2) (.str b.2)&&true)):=by simp[pr,Qv,PyData.eqvAll]
 rw[e,gK,gK,QBX,QW,decide_eq_true_iff,decide_eq_true_iff];exact⟨λh=>QCX h.1 h.2,λh=>by rw[h];exact⟨rfl,rfl⟩⟩
def ZG(es:rC)(st:LS):Prop:=(∀s∈st,qf s=true)/\∀e∈es,qf e.1=true/\qf e.2=true
theorem FD{a b:Str}(x:qf a=true)(h:qf b=true):NF (pr (a,b)):=by refine⟨?_,?_⟩;simp only[pr,QAN,qm,x,h,Bool.and_self];simp only[pr,QA3,wW];decide
theorem ER:qf "to"=true:=by decide +kernel
theorem zX:qf "from"=true:=by decide +kernel
theorem XO:qf ""=true/\qf "begin"=true:=by decide +kernel
theorem E6{es:rC}{st:LS}{g:Str}(h:ZG es st)(k:p∈vs0 es st g):NF (pr p):=by
 have k:Key (jA es st g) p:=zB.mpr k;rw[aE]at k;rcases BL.mp k with z|⟨⟨u,v,c⟩,m,z⟩
 rw[QJ.mp (zB.mp z)];exact FD XO.1 XO.2;have z:p=u∨p=v:=z;rcases uE.mp m with⟨n,w,_,e|e⟩| ⟨e,x,_,y|y|y⟩
 cases e;rcases z with z|z<;>subst z;exact FD (h.1 n w) ER;exact FD (h.1 n w) zX;cases e;rcases z with z|z<;>subst z;exact FD XO.1 XO.2;exact FD (h.1 n w) ER;cases y;rcases z with z|z<;>subst z;exact FD (h.2 e x).1 ER;exact FD (h.2 e x).1 zX;cases y;rcases z with z|z<;>subst z;exact FD (h.2 e x).2 ER;exact FD (h.2 e x).2 zX;cases y;rcases z with z|z<;>subst z;exact FD (h.2 e x).1 zX;exact FD (h.2 e x).2 ER
noncomputable def KR(r:Rm)(x:List (D×D))(last:D)(h:Pt)(o4:Option Sl):kA:=[oW (KA r),bD (.dict x),bD last,bD (pr h),o4]
end
section
variable{Ψ:PEv}{Z:PEnds}{q:PT}{r:Rm}{h:List (D×D)}{last:D}{u v:Pt}
theorem Xu(hk:Key r u)(w:lI r u v)(hl:(lk r u).length<sizeLine)(k:pF Ψ q Z (KR (put r u (put (lk r u) v (rm r u v - 1))) h last v (bD (pr u)))) :
  pF Ψ (.seq (.six (.idx (.zz 0) (.zz 4)) (.zz 3) (.bin .Sub (.idx (.idx (.zz 0) (.zz 4)) (.zz 3)) (.int 1))) q) Z (KR r h last v (bD (pr u))):=by
 obtain⟨x,y⟩:=w;have e:rm r u v=x:=by unfold rm;rw[y];rfl
 rw[e]at k;delta KR at k ⊢;simp_arith[↓fI];refine SE hk ?_;simp_arith[↓JY];refine DP y ?_;simp_arith[↓zA];refine aI (VE hk) λf z=>MP hl ?_;rw[z];exact k
theorem Vu(hk:Key r v)(w:lI r v u)(hl:(lk r v).length<sizeLine)(k:pF Ψ q Z (KR (put r v (put (lk r v) u (rm r v u+1))) h last v (bD (pr u)))) :
  pF Ψ (.seq (.six (.idx (.zz 0) (.zz 3)) (.zz 4) (.bin .Add (.idx (.idx (.zz 0) (.zz 3)) (.zz 4)) (.int 1))) q) Z (KR r h last v (bD (pr u))):=by
 obtain⟨x,y⟩:=w;have e:rm r v u=x:=by unfold rm;rw[y];rfl
 rw[e]at k;delta KR at k ⊢;simp_arith[↓fI];refine SE hk ?_;simp_arith[↓JY];refine DP y ?_;simp_arith[↓zA];refine aI (VE hk) λf z=>MP hl ?_;rw[z];exact k
end
theorem Base.inn{es:rC}{st:LS}{g:Str}{r:Rm}(b:Base es st g r)(p:Pt):(lk r p).length<=(jA es st g).length:=by
 have:=EG (ns:=vs0 es st g) (b.ndi p) λq h=>by obtain⟨e,x,z⟩:=QV.mp h;have a:lI r p q:=mB.mpr ⟨e.2,by rw[<- z];exact x⟩;exact lB (VB ((b.adj p q).mp a))
 unfold vs0 at this;rw[QE,QE]at this;exact this
section
variable{Ψ:PEv}{Z:PEnds}{es:rC}{st:LS}{g:Str}
theorem zc{m r:Rm}{ks:List Pt}{vs:List D}{x:Pt}{last:D}{o4:Option Sl}{z v:List Pt}{b u:List D}(hsz:(jA es st g).length<=1000)(R:Fd m)(I:CF m z b)(S:ks=z++v)(ev:vs=b++u)(h9:u.length=v.length)(F:x∈z)(hb:x≠YA)(i:LC es st g m r x z)
  (k:∀h y n l p A,CF m h y->ks=h++n->vs=y++l->l.length=n.length->h.length<z.length->p∈h->LC es st g m A p h->Z.nx (KR A (oC ks vs) last p (bD (pr p)))) :
  pF Ψ dE Z (KR r (oC ks vs) last x o4):=by
 obtain⟨h,y,p,j,e,J,Q,w,B,X,G⟩:=I.find F hb;have M:=I.len;have L:=J.len;have H:e.length=j.length:=by rw[X,G,QI,QI,QM,QM]at M;omega
 have s:ks=h++x::(j++v):=by rw[S,X,qB];rfl
 have o:vs=y++pr p::(e++u):=by rw[ev,G,qB];rfl
 obtain⟨W,K⟩:=xc R i F hb w B λq P=>by rw[X];exact Qn _ P
 have a:=i.adjw W;have C:=tR a;have O:Key r p:=by rw[zB,i.keys];exact lB a
 have N:Key r x:=by rw[zB,i.keys];exact lB (VB a)
 have E:=i.toBase.inn;have Y:pF Ψ %[.set 3 (.zz 4)|2] Z (KR (cZ r p x) (oC ks vs) last x (bD (pr p))):=by have:=k h y (x::(j++v)) (pr p::(e++u)) p (cZ r p x) J s o (by rw[QM,QM,QI,QI];omega) (by rw[X,QI,QM];omega) Q K;unfold KR at this;delta KR;simp_arith[↓zA];exact this
 have f:pF Ψ %[.six (.idx (.zz 0) (.zz 4)) (.zz 3) (.bin .Sub (.idx (.idx (.zz 0) (.zz 4)) (.zz 3)) (.int 1)),.six (.idx (.zz 0) (.zz 3)) (.zz 4) (.bin .Add (.idx (.idx (.zz 0) (.zz 3)) (.zz 4)) (.int 1)),.set 3 (.zz 4)|2] Z (KR r (oC ks vs) last x (bD (pr p))):=by have i1:=E p;have i2:=E x;refine Xu O ((i.adj _ _).mpr a) (by omega) (Vu ?_ ?_ ?_ Y);exact zJ.mpr (.inr N);show lI _ x p;have:=(i.adj x p).mpr (VB a);unfold lI at this ⊢;rw[vE,if_neg C];exact this;rw[vE,if_neg C];omega
 unfold KR at f;delta KR;delta dE;simp_arith[↓zA];rw[s,o]at f ⊢;refine Om L (by rw[QI,QI];omega) B ?_;simp_arith[↓zA];exact f
end
section
variable{es:rC}{st c:LS}{g a f:Str}{ks:List Pt}{vs:List D}{K:T->LT->Prop}{E:XE}{Ψ:PEv}{W:LT->Prop}{n m:Bool}{ρ:kA}{R:T->Prop}{r:Rm}{Z:PEnds}{L:Bool->Prop}{Q:T->Bool->Prop}{i:Nat}{cs:List (LS)}
noncomputable def FJ:PSp where
 md:=[.chg]
 run:=λu Q _=>∃(es:rC) (st:LS) (g:Str) (x:Rm) (ks:List Pt) (vs:List D),u=[KA x,.d (.dict (oC ks vs)),.d (pr (tO g))]/\((jA es st g).length<=1000/\ZG es st/\Flow es st g x/\CF x ks vs/\tO g∈ks)/\∀y,Flow es st g y->out es st g y YA=out es st g x YA+1->Q (.d .none) [KA y]
 mono:=λh _ z=>by obtain⟨es,st,g,x,ks,vs,e,l,q⟩:=z;exact⟨es,st,g,x,ks,vs,e,l,λy a b=>h _ _ (q y a b)⟩
theorem S9{h:Rm}(w:(jA es st g).length<=1000)(v:ZG es st)(u:Flow es st g h)(z:CF h ks vs)(y:tO g∈ks)(q:∀x,Flow es st g x->out es st g x YA=out es st g h YA+1->K (.d .none) [KA x]):EA FJ [KA h,.d (.dict (oC ks vs)),.d (pr (tO g))] K E:=⟨es,st,g,h,ks,vs,rfl,⟨w,v,u,z,y⟩,q⟩
theorem zj(F:Ψ.va "BEGIN"=some (pr YA))(ds Q E)(h:FJ.run ds Q E):ME Ψ rG FJ cL CI ds Q:=by
 obtain⟨es,st,g,b,ks,vs,rfl,⟨P,O,fl,cf,M⟩,q⟩:=h;refine mK [oW (KA b),bD (.dict (oC ks vs)),bD (pr (tO g)),none,none] rfl rfl rfl ?_;delta rG;simp_arith[↓zA];refine pI (λm ρ=>∃r x y w v z o4,m=x.length/\CF b x y/\ks=x++w/\vs=y++v/\v.length=w.length/\z∈x/\LC es st g b r z x/\ρ=KR r (oC ks vs) (pr (tO g)) z o4) ks.length ⟨b,ks,vs,[],[],tO g,_,rfl,cf,by rw[qM],by rw[qM],rfl,M,G6 fl ks,rfl⟩ ?_;rintro m ρ ⟨r,x,y,w,v,z,o4,em,G,ek,ev,N,B,A,rfl⟩;have s:NF (pr z):=E6 O (by have:=KI fl.toBase.dom fl.toBase.bg (G.rch z B);rw[zB,fl.keys]at this;exact this);have X:NF (pr YA):=FD XO.1 XO.2;have u:∀L:Bool->Prop,L (!decide (z=YA))->NB .NotEq (.d (pr z)) (.d (pr YA)) L:=λL l=>by show NF (pr z)/\NF (pr YA)/\L (!PyData.eqv (pr z) (pr YA));rw[uW];exact⟨s,X,l⟩
 by_cases e:z=YA;subst e;delta KR;simp_arith[↓CH F];refine u _ ?_;rw[dT rfl];obtain⟨H,S⟩:=Cj A;exact q r H S;have C:=λ(Z:PEnds) J=>zc (Ψ:=Ψ) (Z:=Z) (last:=pr (tO g)) (o4:=o4) P fl.ndi G ek ev N B e A J;unfold KR at C;delta KR;simp_arith[↓CH F];refine u _ ?_;rw[dF e];refine C _ λk o Y j p I a1 a2 a3 a4 a5 a6 a7=>⟨k.length,by omega,I,k,o,Y,j,p,_,rfl,a1,a2,a3,a4,a6,a7,rfl⟩
theorem O2{l:Inn}:vL .val [(pD l,false)] W=W ((l.map λe=>pr e.1).map T.d):=kT _ _
theorem bh{kvs:List (D×D)}(h:oD kvs=some true):vL .val [(.d (.dict kvs),n)] W=W ((kvs.map (·.1)).map T.d):=by unfold vL SB;rw[aA];show DB .val [yC kvs] W=_;unfold yC;rw[h];exact kT _ _
theorem Nf{a b h:PX}{t:Str}{x:T}{R:Option T->Prop}:mG Ψ E [] [t] (.nm 0) (.and a b) h ρ x R=AN Ψ (.and a b) E (some (.vz x)::lockA ρ) λk z=>if k=true then cB Ψ h E z λy n _=>nC y n (R (some y)) else R none:=rfl
theorem aO{p:Pt}:VA (.d (pr p)) n (.d (.int 0)) m R=R (.d (.str p.1)):=by delta pr;rw[U2,Xl,fB]
theorem Pd{p:Pt}:VA (.d (pr p)) n (.d (.int 1)) m R=R (.d (.str p.2)):=by delta pr;rw[U2,Cv,fB]
theorem Je:(T.d (.tuple [.str a,.str "from"]))=.d (pr (fR a)):=rfl
theorem j5:(T.d (.tuple [.str a,.str "to"]))=.d (pr (tO a)):=rfl
noncomputable def IC:PSp where
 md:=[.vz]
 run:=λx Q _=>∃(es:rC) (st:LS) (g:Str) (r:Rm) (n:Str),x=[KA r,.d (.str n)]/\((jA es st g).length<=1000/\Flow es st g r/\XU r n=1)/\∀m,B8 r n m->Q (.d (.str m)) []
 mono:=λh _ z=>by obtain⟨es,st,g,r,n,e,l,q⟩:=z;exact⟨es,st,g,r,n,e,l,λm a=>h _ _ (q m a)⟩
theorem AU{n:Str}(y:(jA es st g).length<=1000)(x:Flow es st g r)(h:XU r n=1)(q:∀m,B8 r n m->K (.d (.str m)) []):EA IC [KA r,.d (.str n)] K E:=⟨es,st,g,r,n,rfl,⟨y,x,h⟩,q⟩
theorem tZ(ds Q E)(h:IC.run ds Q E):ME Ψ cE IC VH jG ds Q:=by
 obtain⟨es,st,g,r,n,rfl,⟨O,fl,C⟩,q⟩:=h;have N:=fl.toBase.inn (fR n);obtain⟨j,b⟩:=fj fl C;have s:lI r (fR n) (tO j):=(fl.adj _ _).mpr (VB (fl.toBase.adjw b.2));have Y:Key r (fR n):=by rw[zB,fl.keys];exact lB ((fl.adj _ _).mp s)
 refine uA [some (.vz (KA r)),bD (.str n),none] rfl rfl rfl ?_;delta cE;simp_arith[Je,↓fI];refine⟨by omega,SE Y ?_⟩;simp_arith[↓G8,↓O2];have I:((lk r (fR n)).map λe=>pr e.1).map T.d=((lk r (fR n)).map (·.1)).map λp=>T.d (pr p):=by rw[Qa,Qa];rfl
 rw[I];refine nA (λp=>T.d (pr p)) (λ(p:Pt)=>T.d (.str p.1)) (λp=>!decide (p.1=n)&&decide (0<rm r p (fR n))) ((lk r (fR n)).map (·.1)) [] _ (λx B R w=>?_) (by show 0+((lk r (fR n)).map (·.1)).length<=_;rw[QE];omega) ?_;obtain⟨e,F,G⟩:=QV.mp B;have J:lI r (fR n) x:=mB.mpr ⟨e.2,by rw[<- G];exact F⟩;have k:lI r x (fR n):=(fl.adj _ _).mpr (VB ((fl.adj _ _).mp J));have X:Key r x:=by rw[zB,fl.keys];exact lB ((fl.adj _ _).mp k)
 obtain⟨v,hv⟩:=k;have ev:rm r x (fR n)=v:=by unfold rm;rw[hv];rfl
 rw[ev]at w;simp_arith[↓Nf,↓aO,↓fI];by_cases c:x.1=n;rw[dT c]at w ⊢;exact w;rw[dF c]at w ⊢;simp only[wy,↓reduceIte];refine SE X ?_;simp_arith[↓JY];refine DP hv ?_;simp_arith[↓aO];by_cases d:0<v;rw[dT d]at w ⊢;exact w;rw[dF d]at w ⊢;exact w;have l:tO j∈((lk r (fR n)).map (·.1)).filter λp=>!decide (p.1=n)&&decide (0<rm r p (fR n)):=by obtain⟨v,hv⟩:=s;refine Qd.mpr ⟨QV.mpr ⟨_,IG hv,rfl⟩,?_⟩;rw[dF (show ¬ (tO j).1=n from λz=>b.1 z.symm),dT b.2];rfl
 cases o:((lk r (fR n)).map (·.1)).filter λp=>!decide (p.1=n)&&decide (0<rm r p (fR n)) with
 |nil=>rw[o]at l;exact(nomatch l)
 |cons y M =>
  have A:y∈((lk r (fR n)).map (·.1)).filter λp=>!decide (p.1=n)&&decide (0<rm r p (fR n)):=by rw[o];exact QF
  have u:=(Qd.mp A).2;rw[QW,Q5,decide_eq_false_iff_not,decide_eq_true_iff]at u;obtain⟨m,rfl⟩:=Me fl.toBase ((fl.adj _ _).mpr (fl.toBase.adjw u.2));rw[Qi,oA (λp:Pt=>PyData.str p.1)];simp_arith[↓zA];rw[QS,Xl];simp_arith[↓zA];exact q m ⟨λz=>u.1 z.symm,u.2⟩
noncomputable def tE:PSp where
 md:=[.vz]
 run:=λx Q _=>∃(es:rC) (st:LS) (g:Str) (r:Rm) (f:Str),x=[KA r,.d (.str f),.d (.str g)]/\((jA es st g).length<=1000/\Flow es st g r/\tU r f)/\∀c,Run r g f c g->Q (.lst ((c.map PyData.str).map T.d)) []
 mono:=λh _ z=>by obtain⟨es,st,g,r,n,e,l,q⟩:=z;exact⟨es,st,g,r,n,e,l,λm a=>h _ _ (q m a)⟩
theorem yZ(y:(jA es st g).length<=1000)(x:Flow es st g r)(h:tU r f)(q:∀c,Run r g f c g->K (.lst ((c.map PyData.str).map T.d)) []):EA tE [KA r,.d (.str f),.d (.str g)] K E:=⟨es,st,g,r,f,rfl,⟨y,x,h⟩,q⟩
theorem Nh(fl:Flow es st g r)(w:tU r f){n:Str}(h:Run r g f c n):(∀x∈c,tO x∈vs0 es st g)/\tO n∈vs0 es st g:=by
 induction h with
 |nil=>exact⟨λx y=>(nomatch y),(NI fl.toBase w).1⟩
 |go _ _ v u=>refine⟨λx y=>?_,(NI fl.toBase v.2).1⟩;rcases Qf.mp y with z|z;exact u.1 x z;rw[QJ.mp z];exact u.2
theorem cX(fl:Flow es st g r)(y:tU r f){n:Str}(h:Run r g f c n):c.length<=(jA es st g).length:=by
 have nd:=(h.nd fl y).1;have:=EG (ks:=c.map tO) (ns:=vs0 es st g) (WZ tO (λa b u z=>u (BB z)) nd) λp w=>by obtain⟨x,v,e⟩:=QV.mp w;rw[<- e];exact(Nh fl y h).1 x v
 unfold vs0 at this;rw[QE,QE]at this;exact this
noncomputable def Gk(r:Rm)(f g:Str)(c:LS)(n:Str):kA:=[some (.vz (KA r)),bD (.str f),bD (.str g),oW (.lst ((c.map PyData.str).map T.d)),bD (.str n)]
theorem Ic(y:Ψ.sp "name_behind"=IC){n:Str}(x:(jA es st g).length<=1000)(fl:Flow es st g r)(h:XU r n=1)(hl:c.length<=1000)(k:∀m,B8 r n m->Z.nx (Gk r f g (c++[n]) m)) :
  pF Ψ JD Z (Gk r f g c n):=by
 delta Gk at k ⊢;delta JD;simp_arith[↓aR,↓vA (md:=[.vz]) y rfl rfl];refine⟨by rw[QE,QE];omega,AU x fl h λm nx=>?_⟩;have:=k m nx;rw[QO,QO]at this;simp_arith[↓zA];exact this
theorem S5(l:Ψ.sp "name_behind"=IC)(ds Q E)(h:tE.run ds Q E):ME Ψ ZF tE KJ JH ds Q:=by
 obtain⟨es,st,g,r,f,rfl,⟨j,fl,u⟩,q⟩:=h;have v:sizeLine=16777216:=Q2;refine uA [some (.vz (KA r)),bD (.str f),bD (.str g),none,none] rfl rfl rfl ?_;delta ZF
 simp_arith[↓zA];refine⟨Qt _,pI (λm ρ=>∃c n,m+c.length=1001/\Run r g f c n/\ρ=Gk r f g c n) 1001 ⟨[],f,rfl,.nil,rfl⟩ ?_⟩;rintro m ρ ⟨c,n,o,y,rfl⟩;have hl:=cX fl u y;by_cases e:n=g;subst e;delta Gk;simp_arith[↓zA];exact q c y;have w:=λ(Z:PEnds) v=>Ic (Ψ:=Ψ) (Z:=Z) (f:=f) (g:=g) (c:=c) l j fl (y.thr1 fl u e) (by omega) v;unfold Gk at w;delta Gk;simp_arith[↓zA];rw[dF e];refine w _ λb k=>?_;have x:=y.go e k;have z:=cX fl u x;rw[QI,qF]at z;exact⟨m - 1,by omega,c++[n],b,by rw[QI,qF];omega,x,rfl⟩
theorem Sk{q:Pt}(hv:vs.length=ks.length)(hb:YA∈ks):NB .NotIn (.d (pr q)) (.d (.dict (oC ks vs))) L=L (!decide (q∈ks)):=by show(∃b,oD (oC ks vs)=some b/\UD b (pr q)/\L (!(cA ((oC ks vs).map (·.1)) (pr q)).isSome))=_;rw[mJ hv hb,FL hv,cJ];exact propext ⟨λ⟨_,_,_,h⟩=>h,λh=>⟨true,rfl,TB q,h⟩⟩
theorem Uf{q:Pt}(hv:vs.length=ks.length)(hb:YA∈ks):NB .In (.d (pr q)) (.d (.dict (oC ks vs))) L=L (decide (q∈ks)):=by show(∃b,oD (oC ks vs)=some b/\UD b (pr q)/\L (cA ((oC ks vs).map (·.1)) (pr q)).isSome)=_;rw[mJ hv hb,FL hv,cJ];exact propext ⟨λ⟨_,_,_,h⟩=>h,λh=>⟨true,rfl,TB q,h⟩⟩
theorem Io{x:LS}(y:x.length<64)(q:∀h:LS,h.Perm x->sortedS h=true->Q (.lst ((h.map PyData.str).map T.d)) true):rP .sorted [(.lst ((x.map PyData.str).map T.d),n)] Q:=by unfold rP SB;rw[lD];exact .inl ⟨_,x,rfl,XA _,y,q⟩
theorem jp{ls:List (LS)}(x:ls.length<64)(q:∀h:List (LS),h.Perm ls->Q (.lst ((h.map HC).map T.d)) true):rP .sorted [(.d (.list (ls.map HC)),n)] Q:=by unfold rP SB;rw[aA];exact .inr (.inl ⟨_,ls,rfl,XA _,x,q⟩)
def JL(ks:List Pt):LS:=(ks.filter (lG ks)).map λp=>p.1
noncomputable def iI:PSp where
 md:=[]
 run:=λx Q _=>∃(ks:List Pt) (vs:List D),x=[.d (.dict (oC ks vs))]/\(vs.length=ks.length/\YA∈ks/\ks.length<=1000/\(ks.filter (lG ks)).length<64)/\∀cut:LS,cut.Perm (JL ks)->sortedS cut=true->Q (.lst ((cut.map PyData.str).map T.d)) []
 mono:=λh _ z=>by obtain⟨ks,vs,e,l,q⟩:=z;exact⟨ks,vs,e,l,λm a b=>h _ _ (q m a b)⟩
theorem Z4(z:vs.length=ks.length)(y:YA∈ks)(x:ks.length<=1000)(h:(ks.filter (lG ks)).length<64)(q:∀cut:LS,cut.Perm (JL ks)->sortedS cut=true->K (.lst ((cut.map PyData.str).map T.d)) []):EA iI [.d (.dict (oC ks vs))] K E:=⟨ks,vs,rfl,⟨z,y,x,h⟩,q⟩
theorem Bb(ds Q E)(h:iI.run ds Q E):ME Ψ YF iI ZJ iH ds Q:=by obtain⟨ks,vs,rfl,⟨hv,hb,b,w⟩,q⟩:=h;refine uA [bD (.dict (oC ks vs))] rfl rfl rfl ?_;delta YF;simp_arith[↓bh (mJ hv hb),FL hv];rw[<- oA];refine nA (λp=>T.d (pr p)) (λ(p:Pt)=>T.d (.str p.1)) (lG ks) ks [] _ (λx k R y=>?_) (by show 0+ks.length<=_;omega) ?_;have y:R (if(decide (x.2="to")&&!decide (fR x.1∈ks))=true then some (T.d (.str x.1)) else none):=y;simp_arith[↓Nf,↓aO,↓Pd,Je,↓Sk hv hb];by_cases c:x.2="to";rw[dT c]at y ⊢;refine⟨by omega,?_⟩;by_cases d:fR x.1∈ks;rw[dT d]at y ⊢;exact y;rw[dF d]at y ⊢;exact y;rw[dF c]at y ⊢;exact y;rw[Qi,oA (λp:Pt=>PyData.str p.1),show((ks.filter (lG ks)).map λp=>PyData.str p.1)=(JL ks).map PyData.str by unfold JL;rw[Qa];rfl];refine Io (by unfold JL;rw[QE];exact w) λz v u=>?_;simp_arith[↓zA];exact q z v u
theorem U0(f:Flow es st g r):(((lk r YA).map (·.1)).filter λy=>decide (0<rm r y YA)).length<=st.length:=by
 have u:∀y∈((lk r YA).map (·.1)).filter (λy=>decide (0<rm r y YA)),y=tO y.1/\tU r y.1:=λy x=>by have h:=of_decide_eq_true (Qd.mp x).2;obtain⟨n,rfl⟩:=r6 f.toBase ((f.adj _ _).mpr (f.toBase.adjw h));exact⟨rfl,h⟩
 have nd:(((lk r YA).map (·.1)).filter λy=>decide (0<rm r y YA)).Nodup:=(f.ndi YA).sublist Q9;have:=YQ (ks:=(((lk r YA).map (·.1)).filter λy=>decide (0<rm r y YA)).map (·.1)) (ns:=st) (by
  refine WZ _ (λa b h=>h) (wZ (λ{a b} k hb v z=>?_) nd);exact v (by rw[(u a k).1,(u b hb).1,z])) λs w=>by
  obtain⟨y,x,e⟩:=QV.mp w;rw[<- e];exact(uK f.toBase (u y x).2).1
 rw[QE]at this;exact this
theorem bP{α v:Type}{body:T->(Option T->Prop)->Prop}(P:α->v->Prop)(g:α->T)(f:v->T):∀(l:List α) (h:LT) (Q:LT->Prop),(∀x∈l,∀R:Option T->Prop,(∀y,P x y->R (some (f y)))->body (g x) R)->h.length+l.length<=sizeLine->(∀u,Paired P l u->Q (h++u.map f))->MC body (l.map g) h Q
 |[],h,Q,_,hl,q=>by have:=q [] .nil;rw[wn,qM]at this;exact⟨by rw[wR]at hl;omega,this⟩|x::r,h,Q,hb,hl,q=>by
  rw[QM]at hl;refine hb x QF _ λy k=>⟨by omega,?_⟩
  refine bP P g f r _ Q (λz w=>hb z (QD _ w)) (by rw[QI,qF];omega) λu b=>?_;have:=q (y::u) (.cons k b);rw[QS]at this;rw[qB];exact this
theorem Cg{r:PT}:rL Ψ E r Z i (v9 ks vs) true ρ=aB Ψ E r Z (ρ.set i (bD (.dict (oC ks vs)))):=by unfold rL;rw[Lk];exact propext ⟨λh=>h.2,λh=>⟨rfl,h⟩⟩
def pq(c:LS):T:=.lst ((c.map PyData.str).map T.d)
theorem Fk(cs:List (LS)):ersT (cs.map pq)=cs.map HC:=by rw[yR,Qa];congr 1;funext c;show PyData.list (ersT ((c.map PyData.str).map T.d))=_;rw[bB];rfl
theorem uw{r:PT}:rL Ψ E r Z i (.lst (cs.map pq)) true ρ=aB Ψ E r Z (ρ.set i (bD (.list (cs.map HC)))):=by
 have e:(T.lst (cs.map pq)).er=.list (cs.map HC):=by show PyData.list (ersT (cs.map pq))=_;rw[Fk]
 unfold rL;rw[e];exact propext ⟨λh=>h.2,λh=>⟨rfl,h⟩⟩
theorem Vp{a b:LT}:ZE [.lst a,.lst b]=.tup [.lst a,.lst b]:=rfl
theorem YK:∀{cs:List (LS)},UJ cs↔cs.Pairwise λc d=>∀x∈c,x∉d
 |[]=>⟨λ_=>.nil,λ_=>trivial⟩|c::cs=>by rw[List.pairwise_cons,<- YK];exact WO
theorem CW{ds:List (LS)}(h:ds.Perm cs)(a:UJ cs):UJ ds:=YK.mpr ((h.pairwise_iff (λ{a b} z x u y=>z x y u)).mpr (YK.mp a))
structure Good(es:rC)(st:LS)(g:Str)(cs:List (LS))(cut:LS):Prop where
 chn:∀c∈cs,Chn es st g c g/\c.Nodup/\∀x∈c,x≠g
 apart:UJ cs
 len:cs.length=cut.length
 few:cut.length<=11
 nd:cut.Nodup
 srt:sortedS cut=true
 ng:g∉cut
 led:¬ ∃a,(a,g)∈es/\Led es st g cut a
 okn:∀s∈cut,qf s=true
end
section
variable{es:rC}{st:LS}{g:Str}{r:Rm}
theorem gM(f:Flow es st g r):∀{fs:LS}{cs:List (LS)},fs.Nodup->(∀s∈fs,tU r s)->Paired (λs c=>Run r g s c g) fs cs->UJ cs/\(∀c∈cs,∃s∈fs,Run r g s c g)
 |_,_,_,_,.nil=>⟨trivial,λ_ h=>(nomatch h)⟩
 |s::fs,c::cs,nd,hf,.cons h t=>by
  obtain⟨b,a⟩:=Qh.mp nd;obtain⟨l,k⟩:=gM f a (λs j=>hf s (QD _ j)) t;refine⟨⟨λd w x i e=>?_,l⟩,λd w=>?_⟩;obtain⟨u,y,v⟩:=k d w;have:=Run.apart f (hf s QF) (hf u (QD _ y)) h v x i e;exact b (this▸y);rcases QL.mp w with z|z
  ·rw[z];exact⟨s,QF,h⟩
  obtain⟨u,y,v⟩:=k d z;exact⟨u,QD _ y,v⟩
def Ir(r:Rm):List Pt:=((lk r YA).map λe=>e.1).filter λy=>decide (0<rm r y YA)
def jW(r:Rm):LS:=(Ir r).map λp=>p.1
theorem Z7(f:Flow es st g r):∀y∈Ir r,y=tO y.1/\tU r y.1:=λy x=>by have h:=of_decide_eq_true (Qd.mp x).2;obtain⟨n,rfl⟩:=r6 f.toBase ((f.adj _ _).mpr (f.toBase.adjw h));exact⟨rfl,h⟩
theorem cq(f:Flow es st g r):(jW r).Nodup:=by have nd:(Ir r).Nodup:=(f.ndi YA).sublist Q9;refine WZ _ (λa b h=>h) (wZ (λ{a b} y hb x z=>?_) nd);exact x (by rw[(Z7 f a y).1,(Z7 f b hb).1,z])
theorem IV(f:Flow es st g r):∀s∈jW r,tU r s:=λs x=>by obtain⟨y,h,e⟩:=QV.mp x;rw[<- e];exact(Z7 f y h).2
theorem bK(f:Flow es st g r):out es st g r YA=(jW r).length/\(jW r).length<=st.length:=by have x:=Gc f;have h:=U0 f;unfold jW;rw[QE];exact⟨x,h⟩
theorem LM{α x:Type}{P:α->x->Prop}{l:List α}{m:List x}(h:Paired P l m):l.length=m.length:=qH h
theorem Uc(f:Flow es st g r)(C:ZG es st)(F:st.length<=11){ks:List Pt}{vs:List D}(W:CF r ks vs)(hk:∀p,p∈ks↔Rch r p)(q:tO g∉ks){cs ds:List (LS)}(Y:Paired (λs c=>Run r g s c g) (jW r) cs)(j:ds.Perm cs){cut:LS}(w:cut.Perm (JL ks))(sc:sortedS cut=true):Good es st g ds cut:=by
 obtain⟨J,I⟩:=gM f (cq f) (IV f) Y;obtain⟨P,O⟩:=bK f;have N:=VT f W.nd hk q;have M:(JL ks).length=(ks.filter (lG ks)).length:=by unfold JL;rw[QE]
 have L:=LM Y;have u:∀s,s∈JL ks↔tO s∈ks/\fR s∉ks:=λs=>by unfold JL;rw[QV];constructor;rintro⟨y,B,e⟩;obtain⟨v,x⟩:=Qd.mp B;obtain⟨n,X,k⟩:=ND.mp x;subst X;have e:n=s:=e;subst e;exact⟨v,k⟩;rintro⟨v,x⟩;exact⟨tO s,Qd.mpr ⟨v,ND.mpr ⟨s,rfl,x⟩⟩,rfl⟩
 have l:(JL ks).Nodup:=by unfold JL;refine WZ _ (λa b h=>h) (wZ (λ{a b} E hb A z=>?_) (W.nd.sublist (Q9 (p:=lG ks))));obtain⟨n,G,_⟩:=ND.mp (Qd.mp E).2;obtain⟨m,X,_⟩:=ND.mp (Qd.mp hb).2;subst G X;have z:n=m:=z;exact A (by rw[z])
 have K:=w.length_eq;refine⟨λc hc=>?_,CW j J,by rw[j.length_eq,K];omega,by omega,w.nodup_iff.mpr l,sc,λz=>q ((u g).mp (w.mem_iff.mp z)).1,?_,λs o=>?_⟩;obtain⟨s,o,i⟩:=I c (j.mem_iff.mp hc);have Z:=IV f s o;exact⟨i.chn f Z,(i.nd f Z).1,i.ng⟩;exact Sc f hk q λn v x=>w.mem_iff.mpr ((u n).mpr ⟨v,x⟩);have v:=((u s).mp (w.mem_iff.mp o)).1;have x:=zB.mp (KI f.toBase.dom f.toBase.bg ((hk _).mp v));rw[f.keys]at x;have k:=(E6 C x).1;simp only[pr,tO,QAN,qm,QW]at k;exact k.1
end
noncomputable def oR(es:rC)(st:LS)(g:Str)(r:Rm)(h:List (D×D))(o5 o6:Option Sl):kA:=[bD (.list (es.map pr)),bD (.tuple (st.map PyData.str)),bD (.str g),oW (KA r),bD (.dict h),o5,o6]
section
variable{Ψ:PEv}{Z:PEnds}{es:rC}{st:LS}{g:Str}{r:Rm}
section
variable{q:PT}{h:List (D×D)}{o6:Option Sl}
theorem Hv(u:Ψ.sp "rooms_of"=rE)(z:Ψ.sp "points_reached"=cD)(y:es.length<=126)(x:st.length<=11)(k:∀ks vs,CF (jA es st g) ks vs->(∀p,p∈ks↔Rch (jA es st g) p)->pF Ψ q Z (oR es st g (jA es st g) (oC ks vs) none none)) :
  pF Ψ (.seq (.own 3 (.call "rooms_of" %[.zz 0,.zz 1,.zz 2|1])) (.seq (.set 4 (.call "points_reached" %[.zz 3|1])) q)) Z [bD (.list (es.map pr)),bD (.tuple (st.map PyData.str)),bD (.str g),none,none,none,none]:=by
 have ok:=iS (g:=g) y x;delta oR at k;simp_arith[↓vA (md:=[]) u rfl rfl,↓vA (md:=[.vz]) z rfl rfl];refine AY y x ?_;simp_arith[↓aR,↓vA (md:=[.vz]) z rfl rfl];refine FO (.inl rfl) ok.dom ok.bg ok.sz.1 λks vs hc hk=>?_;simp_arith[↓Cg];exact k ks vs hc hk
theorem Gv(w:Ψ.sp "points_reached"=cD)(i:Ψ.sp "lay_chain"=FJ){ks:List Pt}{vs:List D}(v:(jA es st g).length<=1000)(a:ZG es st)(f:Flow es st g r)(j:CF r ks vs)(b:tO g∈ks)
  (k:∀z x y,Flow es st g z->out es st g z YA=out es st g r YA+1->CF z x y->(∀p,p∈x↔Rch z p)->Z.nx (oR es st g z (oC x y) none none)) :
  pF Ψ JC Z (oR es st g r (oC ks vs) none none):=by
 delta oR at k ⊢;delta JC;simp_arith[j5,↓vH (md:=[]) i rfl rfl,↓vA (md:=[.vz]) w rfl rfl];refine⟨by omega,S9 v a f j b λz u e=>⟨_,rfl,?_⟩⟩;simp_arith[↓aR,↓vA (md:=[.vz]) w rfl rfl];refine FO (.inl rfl) u.toBase.dom u.toBase.bg (by rw[u.toBase.len];exact v) λx y hc hk=>?_;simp_arith[↓Cg];exact k z x y u e hc hk
theorem Fv(w:Ψ.va "BEGIN"=some (pr YA)){o5:Option Sl}(o:(jA es st g).length<=1000)(f:Flow es st g r)(k:pF Ψ q Z (oR es st g r h (bD (.list ((jW r).map PyData.str))) o6)) :
  pF Ψ (.seq (.set 5 (.comp [] ["point"] (.nm 0) .val %[.idx (.zz 3) (.glo "BEGIN")|1] (.cmp .Gt (.idx (.idx (.zz 4) (.zz 0)) (.glo "BEGIN")) (.int 0)) (.idx (.zz 0) (.int 0)))) q) Z (oR es st g r h o5 o6):=by
 have s:=f.toBase.inn YA;delta oR at k ⊢;simp_arith[↓fI,↓CH w];refine SE f.toBase.bg ?_;simp_arith[↓G8,↓O2];have m:((lk r YA).map λe=>pr e.1).map T.d=((lk r YA).map λe=>e.1).map λp=>T.d (pr p):=by rw[Qa,Qa];rfl
 rw[m];refine nA (λp=>T.d (pr p)) (λ(p:Pt)=>T.d (.str p.1)) (λy=>decide (0<rm r y YA)) ((lk r YA).map λe=>e.1) [] _ (λx b R z=>?_) (by show 0+((lk r YA).map λe=>e.1).length<=_;rw[QE];omega) ?_;obtain⟨e,i,j⟩:=QV.mp b;have n:lI r YA x:=mB.mpr ⟨e.2,by rw[<- j];exact i⟩;have u:lI r x YA:=(f.adj _ _).mpr (VB ((f.adj _ _).mp n));have a:Key r x:=by rw[zB,f.keys];exact lB ((f.adj _ _).mp u)
 obtain⟨v,hv⟩:=u;have ev:rm r x YA=v:=by unfold rm;rw[hv];rfl
 rw[ev]at z;simp_arith[↓fI,↓CH w];refine SE a ?_;simp_arith[↓JY,↓CH w];refine DP hv ?_;simp_arith[↓aO];by_cases d:0<v;rw[dT d]at z ⊢;exact z;rw[dF d]at z ⊢;exact z;rw[Qi,oA (λp:Pt=>PyData.str p.1)];have l:((((lk r YA).map λe=>e.1).filter λy=>decide (0<rm r y YA)).map λp=>PyData.str p.1)=(jW r).map PyData.str:=by unfold jW Ir;rw[Qa];rfl
 rw[l];simp_arith[↓zA];exact k
theorem Dv(a:Ψ.sp "chain_from"=tE)(u:(jA es st g).length<=1000)(b:st.length<=11)(f:Flow es st g r)(k:∀cs,Paired (λs c=>Run r g s c g) (jW r) cs->pF Ψ q Z (oR es st g r h (bD (.list ((jW r).map PyData.str))) (bD (.list (cs.map HC))))) :
  pF Ψ (.seq (.set 6 (.comp [] ["first"] (.nm 0) .val %[.zz 5|1] .nop (.call "chain_from" %[.zz 4,.zz 0,.zz 3|1]))) q) Z (oR es st g r h (bD (.list ((jW r).map PyData.str))) o6):=by
 have hl:=(bK f).2;delta oR at k ⊢;simp_arith[↓zA];rw[<- oA PyData.str (jW r)];refine bP (λs c=>Run r g s c g) (λs=>T.d (.str s)) pq (jW r) [] _ (λx z R w=>?_) (by show 0+(jW r).length<=_;omega) λcs v=>?_;simp_arith[↓aR,↓vA (md:=[.vz]) a rfl rfl];refine yZ u f (IV f x z) λc y=>?_;simp_arith[↓zA];exact w c y;rw[Qi];simp_arith[↓uw];exact k cs v
end
end
section
variable{es v:rC}{g x:Str}{F sr u:LS}{n:Int}
noncomputable def TF:PSp where
 md:=[]
 run:=λw Q _=>∃(es:rC) (st:LS) (g:Str),w=[.d (.list (es.map pr)),.d (.tuple (st.map PyData.str)),.d (.str g)]/\(es.length<=126/\st.length<=11/\ZG es st)/\∀y cut,Good es st g y cut->Q (.tup [.lst ((y.map HC).map T.d),.lst ((cut.map PyData.str).map T.d)]) []
 mono:=λh _ z=>by obtain⟨es,st,g,e,l,q⟩:=z;exact⟨es,st,g,e,l,λy cut a=>h _ _ (q y cut a)⟩
theorem zZ{st:LS}{K:T->LT->Prop}{E:XE}(z:es.length<=126)(y:st.length<=11)(h:ZG es st)(q:∀cs cut,Good es st g cs cut->K (.tup [.lst ((cs.map HC).map T.d),.lst ((cut.map PyData.str).map T.d)]) []):EA TF [.d (.list (es.map pr)),.d (.tuple (st.map PyData.str)),.d (.str g)] K E:=⟨es,st,g,rfl,⟨z,y,h⟩,q⟩
theorem T5{Ψ:PEv}(S:Ψ.sp "rooms_of"=rE)(G:Ψ.sp "points_reached"=cD)(R:Ψ.sp "lay_chain"=FJ)(P:Ψ.sp "chain_from"=tE)(C:Ψ.sp "full_names"=iI)(O:Ψ.va "BEGIN"=some (pr YA))(ds Q E)(h:TF.run ds Q E):ME Ψ YG TF XG FF ds Q:=by
 obtain⟨es,st,g,rfl,⟨W,i,B⟩,q⟩:=h;have K:sizeLine=16777216:=Q2;have j:(jA es st g).length<=1000:=(iS (g:=g) W i).sz.1;refine uA [bD (.list (es.map pr)),bD (.tuple (st.map PyData.str)),bD (.str g),none,none,none,none] rfl rfl rfl ?_;refine Hv S G W i λo w H M=>?_;have b0:=bK (bf (es:=es) (st:=st) (g:=g));delta oR;simp_arith[↓zA];refine pI (λm Y=>∃r z b,(m:Int)+out es st g r YA=12/\Flow es st g r/\CF r z b/\(∀p,p∈z↔Rch r p)/\Y=oR es st g r (oC z b) none none) (12 - out es st g (jA es st g) YA).toNat ⟨jA es st g,o,w,by omega,bf,H,M,rfl⟩ ?_;rintro m Y ⟨r,z,b,em,f,y,hk,rfl⟩;have bd:=bK f;by_cases a:tO g∈z;have k:=λ(Z:PEnds) K=>Gv (Ψ:=Ψ) (Z:=Z) G R j B f y a K;unfold oR at k;delta oR;simp_arith[j5,↓Uf y.len y.hb];refine⟨by omega,?_⟩;rw[dT a];refine k _ λI s l X e c' N=>⟨m - 1,?_,I,s,l,?_,X,c',N,rfl⟩
 have:=bK X;omega;have:=bK X;omega;have A:pF Ψ %[.set 5 (.comp [] ["point"] (.nm 0) .val %[.idx (.zz 3) (.glo "BEGIN")|1] (.cmp .Gt (.idx (.idx (.zz 4) (.zz 0)) (.glo "BEGIN")) (.int 0)) (.idx (.zz 0) (.int 0))),.set 6 (.comp [] ["first"] (.nm 0) .val %[.zz 5|1] .nop (.call "chain_from" %[.zz 4,.zz 0,.zz 3|1])),.ret (.tup %[.bi .sorted %[.zz 6|1],.call "full_names" %[.zz 4|1]|1])|2] (eZ Q) (oR es st g r (oC z b) none none):=by refine Fv O j f (Dv P j i f λcs k=>?_);have lc:=LM k;have l3:=VT f y.nd hk a;delta oR;simp_arith[↓vA (md:=[]) C rfl rfl];refine jp (by omega) λds J=>?_;simp_arith[↓vA (md:=[]) C rfl rfl];refine Z4 y.len y.hb (QU (y.le f.toBase.dom f.toBase.bg) (by rw[f.toBase.len];exact j)) (by omega) λcut L sc=>?_;simp_arith[Vp];exact⟨by omega,q ds cut (Uc f B i y hk a k J L sc)⟩
 unfold oR at A;delta oR;simp_arith[j5,↓Uf y.len y.hb];refine⟨by omega,?_⟩;rw[dF a];exact A
def YT(es:rC)(F:LS):rC:=es.filter λe=>decide (e.1∈F)
theorem SQ{e:Str×Str}:e∈YT es F↔e∈es/\e.1∈F:=by unfold YT;rw[Qd,decide_eq_true_iff]
def VL(es:rC)(sr:LS)(x:Str)(F:LS)(n:Int):Prop:=∃h:List (LS),UJ h/\(∀c∈h,Chn (YT es F) sr x c x)/\n<=(h.length:Int)
theorem Chn.sub(w:∀e∈es,e∈v)(z:∀s∈sr,s∈u){c:LS}{n:Str}(h:Chn es sr g c n):Chn v u g c n:=by
 induction h with|st a b=>exact .st (z _ a) b|go _ b c y=>exact .go y b (w _ c)
theorem VL.sub{w:LS}{z:Int}(m:∀e∈es,e∈v)(j:∀s∈sr,s∈u)(i:∀y∈F,y∈w)(k:z<=n)(h:VL es sr x F n):VL v u x w z:=by obtain⟨q,a,c,l⟩:=h;refine⟨q,a,λd f=>Chn.sub (λe b=>?_) j (c d f),Wk k l⟩;obtain⟨p,o⟩:=SQ.mp b;exact SQ.mpr ⟨m e p,i _ o⟩
theorem K6{cs:List (LS)}{cut:LS}(h:Good (YT es F) sr x cs cut):VL es sr x F n↔n<=(cs.length:Int):=by constructor;rintro⟨y,a,c,l⟩;have:=O0 a c h.led;rw[<- h.len]at this;exact Wk l (Int.ofNat_le.mpr this);exact λl=>⟨cs,h.apart,λc hc=>(h.chn c hc).1,l⟩
inductive Held(es:rC)(sr:LS)(nd:List (Str×Int)):Str->Prop
 |see {x:Str}{n:Int}:(x,n)∈nd->x∈sr->Held es sr nd x
 |tell {x:Str}{n:Int}(F:LS):(x,n)∈nd->(∀y∈F,Held es sr nd y)->VL es sr x F n->Held es sr nd x
end
section
variable{es v:rC}{sr y:LS}{nd u:List (Str×Int)}
theorem e7{S:LS}(f:∀x∈S,Held es sr nd x)(e:∀x n,(x,n)∈nd->x∈sr->x∈S)(k:∀x n,(x,n)∈nd->x∉S->¬ VL es sr x S n)(x:Str):x∈S↔Held es sr nd x:=by
 refine⟨f x,λh=>?_⟩;induction h with|see a b=>exact e _ _ a b|@tell x n F a _ m w=>by_cases z:x∈S;exact z;exact absurd (m.sub (λ_ h=>h) (λ_ h=>h) w (QCU _)) (k x n a z)
theorem Kc{x:Str}(h:Held es sr nd x):∃n,(x,n)∈nd:=by
 cases h with|see a _=>exact⟨_,a⟩|tell _ a=>exact⟨_,a⟩
end
noncomputable def AE:PSp where
 md:=[.uz,.uz,.yz]
 run:=λv Q _=>∃(y:rC) (x F:LS) (g:Str),v=[.d (.tuple (y.map pr)),.d (.tuple (x.map PyData.str)),.lst ((F.map PyData.str).map T.d),.d (.str g)]/\(y.length<=126/\x.length<=11/\ZG y x)/\∀u cut,Good (YT y F) x g u cut->Q (.tup [.lst ((u.map HC).map T.d),.lst ((cut.map PyData.str).map T.d)]) []
 mono:=λh _ z=>by obtain⟨y,x,F,g,e,l,q⟩:=z;exact⟨y,x,F,g,e,l,λu cut a=>h _ _ (q u cut a)⟩
theorem m4{es:rC}{sr F:LS}{g:Str}{K:T->LT->Prop}{E:XE}(y:es.length<=126)(x:sr.length<=11)(h:ZG es sr)(q:∀cs cut,Good (YT es F) sr g cs cut->K (.tup [.lst ((cs.map HC).map T.d),.lst ((cut.map PyData.str).map T.d)]) []):EA AE [.d (.tuple (es.map pr)),.d (.tuple (sr.map PyData.str)),.lst ((F.map PyData.str).map T.d),.d (.str g)] K E:=⟨es,sr,F,g,rfl,⟨y,x,h⟩,q⟩
theorem gb{Ψ:PEv}(k:Ψ.sp "apart_chains"=TF)(ds Q E)(h:AE.run ds Q E):ME Ψ sD AE KG BF ds Q:=by
 obtain⟨y,v,F,g,rfl,⟨f,b,w⟩,q⟩:=h;have a:(YT y F).length<=126:=QU (qG _ _) f;have u:ZG (YT y F) v:=⟨w.1,λe i=>w.2 e (SQ.mp i).1⟩
 refine uA [bD (.tuple (y.map pr)),bD (.tuple (v.map PyData.str)),some (.vz (.lst ((F.map PyData.str).map T.d))),bD (.str g)] rfl rfl rfl ?_;delta sD;simp_arith[↓vA (md:=[]) k rfl rfl];rw[<- oA pr y];refine nA (λp=>T.d (pr p)) (λ(p:Str×Str)=>T.d (pr p)) (λp=>decide (p.1∈F)) y [] _ (λx m R z=>?_) (by show 0+y.length<=_;omega) ?_;simp_arith[↓aO,HL,bJ,FB,true_or];by_cases d:x.1∈F;rw[dT d]at z ⊢;exact z;rw[dF d]at z ⊢;exact z;rw[Qi,oA pr];simp_arith[↓vA (md:=[]) k rfl rfl];refine zZ a b u λl cut j=>?_;simp_arith[↓zA];exact q l cut j
section
variable{Ψ:PEv}{E:XE}{ρ:kA}{K:TK}{a b c h:PX}{ds:List D}{n m:Bool}{L:Bool->Prop}
def Sn(x:T)(n:Bool)(Ψ:PEv)(b:PX)(E:XE)(ρ:kA)(K:TK):Prop:=sq (α:=Option Int) (gA x n) ρ (λρ R=>(pe Ψ b E).e ρ λu _ y=>kG u.er λo=>R o y) λu y=>RJ (gA x n).vw none u λz k=>K z k y
def OO(x:T)(Q:Option Int->Prop):Prop:=kG x.er Q
theorem ga{i:Int}{Q:Option Int->Prop}:OO (.d (.int i)) Q=Q (some i):=rfl
theorem Vh{x:T}{R:Option Int->kA->Prop}:sq (α:=Option Int) x ρ (λρ (R:Option Int->kA->Prop)=>R none ρ) R=R none ρ:=by unfold sq;split<;>rfl
theorem Il{j:Nat}:cB Ψ (.slc a .nop (.zz j)) E ρ K=cB Ψ a E ρ λx n v=>Sn x n Ψ (.zz j) E v K:=by show(pe Ψ a E).e ρ (λx n v=>sq (α:=Option Int) (gA x n) v (λρ (R:Option Int->kA->Prop)=>R none ρ) λl w=>sq (α:=Option Int) (gA x n) w (λρ R=>(pe Ψ (.zz j) E).e ρ λu _ y=>kG u.er λo=>R o y) λu y=>RJ (gA x n).vw l u λz k=>K z k y)=_;simp only[Vh];rfl
theorem fw{x:D}:Sn (.d x) n Ψ b E ρ K=cB Ψ b E ρ λu _ y=>OO u λo=>mL (.d x) n none o λz k=>K z k y:=by cases n<;>rfl
theorem Mc(a b:List D):(T.tup [.lst (a.map T.d),.lst (b.map T.d)]).er=.tuple [.list a,.list b]:=by show PyData.tuple [.list (ersT (a.map T.d)),.list (ersT (b.map T.d))]=_;rw[bB,bB]
theorem Cs{a b:List D}{m:Bool}{t:T}{R:T->Prop}:VA (.tup [.lst (a.map T.d),.lst (b.map T.d)]) true t m R=VA (.d (.tuple [.list a,.list b])) false t m R:=by
 have e:gA (.tup [.lst (a.map T.d),.lst (b.map T.d)]) true=.d (.tuple [.list a,.list b]):=by show T.d (T.tup [.lst (a.map T.d),.lst (b.map T.d)]).er=_;rw[Mc]
 unfold VA;rw[e];rfl
end
section
variable{Ψ:PEv}{E:XE}{ρ:kA}{a c h:PX}{W:LT->Prop}{R:Option T->Prop}{C:LT->Prop}{xs:List (T×Bool)}{ds:List D}{n m:Bool}
section
variable{md:List Md}{ts:LT}{b:Bool}{t u:Str}
theorem mC{v:PX}{M:List (T×Bool)->kA->Prop}:FM Ψ (.nz a v) E (.uz::md) ρ M=cB Ψ a E ρ λx n z=>j9 x n Ψ v E md z λxs y=>M ((x,n)::xs) y:=rfl
theorem Cd{d:D}:iB (.uz::md) ((.d d,n)::xs) C=iB md xs λts=>C (.d d::ts):=by
 have e:ZA (.uz::md) ((.d d,n)::xs) []=(ZA md xs []).map (.d d::·):=by cases n<;>rfl
 unfold iB;rw[e,zF]
theorem zn:vL .val [(.lst ts,false)] W=W ts:=by unfold vL SB;exact kJ ts
theorem Fq{m:List Bool}{x y:D}{v:CmpOp}:mG Ψ E (b::m) [t,u] (.tp [0,1]) (.cmp v a c) h ρ (.d (.tuple [x,y])) R=AN Ψ (.cmp v a c) E (bD x::bD y::uC (b::m) (lockA ρ)) λk z=>if k=true then cB Ψ h E z λy n _=>nC y n (R (some y)) else R none:=fB
theorem Ov{m:List Bool}{x y:T}:mG Ψ E (b::m) [t,u] (.tp [0,1]) .nop h ρ (.tup [x,y]) R=cB Ψ h E (some (.vz x)::some (.vz y)::uC (b::m) (lockA ρ)) λy n _=>nC y n (R (some y)):=fB
theorem Ky:yN ((.lst [],true)::xs) C=yN xs λts=>C (.lst []::ts):=kw (ds:=[])
theorem Zp{d:D}:ZE [.d d,.lst ts]=.tup [.d d,.lst ts]:=rfl
theorem Vq{i j:Int}{L:Bool->Prop}:NB .GtE (.d (.int i)) (.d (.int j)) L=L (decide (j<=i)):=rfl
end
end
noncomputable abbrev Rw:=Str×List (LS)
def SJ(r:Rw):T:=.tup [.d (.str r.1),.lst ((r.2.map HC).map T.d)]
def ZQ(p:Str×Int):D:=.tuple [.str p.1,.int p.2]
noncomputable def V0(es:rC)(sr:LS)(nd:List (Str×Int))(h:List Rw)(F:LS)(b:Bool)(o6 o7 o8:Option Sl):kA:=[bD (.tuple (es.map pr)),bD (.tuple (sr.map PyData.str)),bD (.list (nd.map ZQ)),oW (.lst (h.map SJ)),oW (.lst ((F.map PyData.str).map T.d)),bD (.bool b),o6,o7,o8]
section
variable{Ψ:PEv}{Z:PEnds}{es:rC}{sr:LS}{nd:List (Str×Int)}{q:PT}
section
variable{o5 o6 o7 o8:Option Sl}{h:List Rw}
def vS(sr:LS)(nd:List (Str×Int)):List Rw:=(nd.filter λp=>decide (p.1∈sr)).map λp=>(p.1,[])
theorem Iu(hl:nd.length<=100){o4:Option Sl}(k:pF Ψ q Z [bD (.tuple (es.map pr)),bD (.tuple (sr.map PyData.str)),bD (.list (nd.map ZQ)),oW (.lst ((vS sr nd).map SJ)),o4,o5,o6,o7,o8]) :
  pF Ψ (.seq (.own 3 (.comp [false,false,false,false,false,false,true,true] ["name","number"] (.tp [0,1]) .val %[.zz 2|1] (.cmp .In (.zz 0) (.zz 3)) (.tup %[.zz 0,.lst .xz|1]))) q) Z [bD (.tuple (es.map pr)),bD (.tuple (sr.map PyData.str)),bD (.list (nd.map ZQ)),none,o4,o5,o6,o7,o8]:=by
 simp_arith[↓zA];rw[<- oA ZQ nd];refine nA (λp=>T.d (ZQ p)) (λ(p:Str×Int)=>SJ (p.1,[])) (λp=>decide (p.1∈sr)) nd [] _ (λx z R y=>?_) (by show 0+nd.length<=_;omega) ?_;obtain⟨x,n⟩:=x;delta ZQ;simp_arith[↓Fq,HL,bJ,FB,true_or];by_cases d:x∈sr;rw[dT d]at y ⊢;simp_arith[↓Ky,↓Zp];exact⟨by omega,by omega,y⟩;rw[dF d]at y ⊢;exact y;rw[Qi];have e:(nd.filter λp=>decide (p.1∈sr)).map (λp=>SJ (p.1,[]))=(vS sr nd).map SJ:=by unfold vS;rw[Qa];rfl
 rw[e];exact k
theorem Eu(hl:h.length<=100)(k:pF Ψ q Z [bD (.tuple (es.map pr)),bD (.tuple (sr.map PyData.str)),bD (.list (nd.map ZQ)),oW (.lst (h.map SJ)),oW (.lst (((h.map λr=>r.1).map PyData.str).map T.d)),o5,o6,o7,o8]) :
  pF Ψ (.seq (.own 4 (.comp [false,false,false,false,false,false,true,false,true] ["name","chains"] (.tp [0,1]) .val %[.zz 3|1] .nop (.zz 0))) q) Z [bD (.tuple (es.map pr)),bD (.tuple (sr.map PyData.str)),bD (.list (nd.map ZQ)),oW (.lst (h.map SJ)),none,o5,o6,o7,o8]:=by
 simp_arith[↓zn];refine rB SJ (λr=>T.d (.str r.1)) h [] _ (λx z R y=>?_) (by show 0+h.length<=_;omega) ?_;delta SJ;simp_arith[↓Ov];exact y;rw[Qi,oA (λr:Rw=>PyData.str r.1)];have e:(h.map λr=>PyData.str r.1)=(h.map λr=>r.1).map PyData.str:=by rw[Qa];rfl
 rw[e];exact k
theorem Au(f:Ψ.sp "told_through"=AE){F:LS}{b:Bool}{x:Str}{n:Int}(a:es.length<=126)(k:sr.length<=11)(e:ZG es sr)(j:h.length<=100)(i:F.length<=100)
  (w:x∈F->∀o8,Z.nx (V0 es sr nd h F b (bD (.str x)) (bD (.int n)) o8))
  (v:x∉F->¬ VL es sr x F n->∀o8,Z.nx (V0 es sr nd h F b (bD (.str x)) (bD (.int n)) o8))
  (u:x∉F->VL es sr x F n->∀cs o8,Z.nx (V0 es sr nd (h++[(x,cs)]) (F++[x]) true (bD (.str x)) (bD (.int n)) o8)) :
  pF Ψ iC Z (V0 es sr nd h F b (bD (.str x)) (bD (.int n)) o8):=by
 delta V0 at w v u ⊢;delta iC;simp_arith[HL,bJ,FB,true_or];by_cases d:x∈F;rw[dT d];exact w d _;rw[dF d];simp_arith[↓mC,↓Cd,↓vA (md:=[.uz,.uz,.yz]) f rfl rfl];refine m4 a k e λcs cut g=>?_;have y:=K6 (n:=n) g;simp_arith[↓Cs,↓Xl,↓Vq,QE];by_cases c:n<=(cs.length:Int);rw[dT c];simp_arith[↓Il,↓fw,↓ga,↓Zp];rw[pY];refine⟨by omega,by omega,by rw[QE,QE];omega,?_⟩;have:=u d (y.mpr c) (gJ cs none (some n)) (bD (.list (cs.map HC)));rw[QO,QO,QO]at this;exact this;rw[dF c];exact v d (λz=>c (y.mp z)) _
end
end
structure GI(es:rC)(sr:LS)(nd:List (Str×Int))(rs:List Rw)(F:LS):Prop where
 e:F=rs.map λr=>r.1
 ndp:F.Nodup
 held:∀x∈F,Held es sr nd x
 see:∀x n,(x,n)∈nd->x∈sr->x∈F
 non:∀r∈rs,r.1∈sr->r.2=[]
section
variable{es:rC}{sr:LS}{nd:List (Str×Int)}{u:List Rw}{F:LS}
theorem GI.len(g:GI es sr nd u F):F.length<=nd.length:=by
 have:=YQ (ns:=nd.map λp=>p.1) g.ndp λs x=>by obtain⟨n,h⟩:=Kc (g.held s x);exact QV.mpr ⟨_,h,rfl⟩
 rw[QE]at this;exact this
theorem GI.rlen(g:GI es sr nd u F):u.length=F.length:=by rw[g.e,QE]
theorem Su(h:(nd.map λp=>p.1).Nodup):GI es sr nd (vS sr nd) ((vS sr nd).map λr=>r.1):=by
 have e:((vS sr nd).map λr=>r.1)=(nd.filter λp=>decide (p.1∈sr)).map λp=>p.1:=by unfold vS;rw[Qa];rfl
 refine⟨rfl,?_,λx y=>?_,λx n y v=>?_,λr z _=>?_⟩;rw[e];exact h.sublist (Q9.map _);rw[e]at y;obtain⟨p,w,rfl⟩:=QV.mp y;obtain⟨a,k⟩:=Qd.mp w;exact .see (n:=p.2) a (of_decide_eq_true k);rw[e];exact QV.mpr ⟨(x,n),Qd.mpr ⟨y,dT v⟩,rfl⟩;unfold vS at z;obtain⟨p,_,rfl⟩:=QV.mp z;rfl
theorem GI.add(g:GI es sr nd u F){x:Str}{n:Int}(w:(x,n)∈nd)(f:x∉F)(m:VL es sr x F n)(cs:List (LS)):GI es sr nd (u++[(x,cs)]) (F++[x]):=by
 refine⟨by rw[QO,<- g.e];rfl,ql.mpr ⟨g.ndp,Qh.mpr ⟨λz=>(nomatch z),Q0⟩,λa j b hb e=>?_⟩,λy v=>?_,λy k v h=>Qn _ (g.see y k v h),λr i h=>?_⟩;rw[QJ.mp hb]at e;exact f (e▸j);rcases Qf.mp v with z|z
 ·exact g.held y z
 rw[QJ.mp z];exact .tell F w g.held m;rcases Qf.mp i with z|z
 ·exact g.non r z h
 rw[QJ.mp z]at h;exact absurd (g.see x n w h) f
end
noncomputable def AF:PSp where
 md:=[]
 run:=λw Q _=>∃(u:rC) (y:LS) (nd:List (Str×Int)),w=[.d (.tuple (u.map pr)),.d (.tuple (y.map PyData.str)),.d (.list (nd.map ZQ))]/\(u.length<=126/\y.length<=11/\ZG u y/\nd.length<=90/\(nd.map λp=>p.1).Nodup)/\∀v F,GI u y nd v F->(∀x,x∈F↔Held u y nd x)->Q (.lst (v.map SJ)) []
 mono:=λh _ z=>by obtain⟨u,y,nd,e,l,q⟩:=z;exact⟨u,y,nd,e,l,λv F a b=>h _ _ (q v F a b)⟩
theorem kZ{es:rC}{sr:LS}{nd:List (Str×Int)}{K:T->LT->Prop}{E:XE}(l:es.length<=126/\sr.length<=11/\ZG es sr/\nd.length<=90/\(nd.map λp=>p.1).Nodup)(q:∀h F,GI es sr nd h F->(∀x,x∈F↔Held es sr nd x)->K (.lst (h.map SJ)) []):EA AF [.d (.tuple (es.map pr)),.d (.tuple (sr.map PyData.str)),.d (.list (nd.map ZQ))] K E:=⟨es,sr,nd,rfl,l,q⟩
section
variable{Ψ:PEv}{Z:PEnds}{es:rC}{sr:LS}{nd:List (Str×Int)}{u:List Rw}{F:LS}
theorem Tu(L:Ψ.sp "told_through"=AE)(G:es.length<=126)(E:sr.length<=11)(J:ZG es sr)(O:nd.length<=90){b:Bool}{o6 o7 o8:Option Sl}(g:GI es sr nd u F)
  (k:∀v w a o6 o7 o8,GI es sr nd v w->F.length<=w.length->(a=true->F.length<w.length)->(a=false->∀x n,(x,n)∈nd->x∉w->¬ VL es sr x w n)->Z.nx (V0 es sr nd v w a o6 o7 o8)) :
  pF Ψ aC Z (V0 es sr nd u F b o6 o7 o8):=by
 delta V0;delta aC;simp_arith[↓zA];rw[<- oA ZQ nd];refine CA (λ(p:Str×Int)=>T.d (ZQ p)) (λl r=>∃v w a o6 o7 o8,GI es sr nd v w/\(∀p∈l,p∈nd)/\F.length<=w.length/\(a=true->F.length<w.length)/\(a=false->∀x n,(x,n)∈nd->(x,n)∈l∨x∈w∨¬ VL es sr x w n)/\r=V0 es sr nd v w a o6 o7 o8) ?_ ?_ _ _ ⟨u,F,false,_,_,_,g,λ_ z=>z,QZ _,λz=>(nomatch z),λ_ x n h=>.inl h,rfl⟩;rintro r ⟨v,w,a,B,A,K,f,_,q,o,j,rfl⟩;exact k v w a _ _ _ f q o λhb x n Y i=>((j hb x n Y).resolve_left λz=>(nomatch z)).resolve_left i;rintro⟨x,n⟩ l r N W ⟨v,w,a,B,A,K,f,m,q,o,j,rfl⟩;have Y:=m _ QF;have s:∀p∈l,p∈nd:=λp I=>m p (QD _ I);have Q:=f.len;have P:=f.rlen;refine kF.mk rfl ?_;refine Au (x:=x) (n:=n) L G E J (by omega) (by omega) (λi o8=>W _ ⟨v,w,a,_,_,_,f,s,q,o,λhb y k X=>?_,rfl⟩) (λi nm o8=>W _ ⟨v,w,a,_,_,_,f,s,q,o,λhb y k X=>?_,rfl⟩) λi C M o8=>W _ ⟨_,_,true,_,_,_,f.add Y i C M,s,?_,λ_=>?_,λz=>(nomatch z),rfl⟩;rcases j hb y k X with z|z
 ·rcases QL.mp z with e|z
  ·cases e
   exact .inr (.inl i)
  exact .inl z
 exact .inr z;rcases j hb y k X with z|z
 ·rcases QL.mp z with e|z
  ·cases e
   exact .inr (.inr nm)
  exact .inl z
 exact .inr z;rw[QI,qF];omega;rw[QI,qF];omega
end
theorem A5{Ψ:PEv}(s:Ψ.sp "told_through"=AE)(ds Q E)(h:AF.run ds Q E):ME Ψ JG AF VG DF ds Q:=by
 obtain⟨es,sr,nd,rfl,⟨l,j,p,i,r⟩,q⟩:=h;refine uA [bD (.tuple (es.map pr)),bD (.tuple (sr.map PyData.str)),bD (.list (nd.map ZQ)),none,none,none,none,none,none] rfl rfl rfl ?_;have v:=Su (es:=es) (sr:=sr) r;have B:=v.len;have A:=v.rlen;refine Iu (by omega) (Eu (by omega) ?_);simp_arith[↓zA];refine pI (λm w=>∃y F b o6 o7 o8,m=2 * (nd.length - F.length)+(if b=true then 1 else 0)/\GI es sr nd y F/\(b=false->∀x n,(x,n)∈nd->x∉F->¬ VL es sr x F n)/\w=V0 es sr nd y F b o6 o7 o8) _ ⟨_,_,true,none,none,none,rfl,v,λz=>(nomatch z),rfl⟩ ?_;rintro m w ⟨y,F,b,o6,o7,o8,e,g,X,rfl⟩;cases b with
 |true =>
  have k:=λ(Z:PEnds) o=>Tu (Ψ:=Ψ) (Z:=Z) (b:=true) (o6:=o6) (o7:=o7) (o8:=o8) s l j p i g o;unfold V0 at k;delta V0;simp_arith[↓zA];refine k _ λu K f o6 o7 o8 a C W Y=>⟨_,?_,u,K,f,o6,o7,o8,rfl,a,Y,rfl⟩
  have:=a.len;cases f with|true=>have:=W rfl;rw[e,if_pos rfl];omega|false=>rw[e,if_pos rfl,if_neg QG];omega
 |false=>delta V0;simp_arith[↓zA];exact q y F g λx=>e7 g.held g.see (X rfl) x
def mI(p:Str×Int×Int×Int):D:=.tuple [.str p.1,.int p.2.1,.int p.2.2.1,.int p.2.2.2]
inductive Evt where
 |see (t:Int) (p m w:Str)|tell (t:Int) (a b m w:Str) (by_:LS)
noncomputable def jD:Evt->D
 | .see t p m w=>.tuple [.str "see",.int t,.str p,.str m,.str w]|.tell t a b m w q=>.tuple [.str "tell",.int t,.str a,.str b,.str m,.str w,.tuple (q.map PyData.str)]
structure Wd where
 ps:List (Str×Int×Int×Int)
 ms:LS
 ag:rC
 es:List Evt
noncomputable def wD(w:Wd):D:=.tuple [.list (w.ps.map mI),.list (w.ms.map PyData.str),.list (w.ag.map pr),.list (w.es.map jD)]
section
variable{w:Wd}{p:Str×Int×Int×Int}{n m:Bool}{R:T->Prop}
theorem GA{ds:List D}{i:Nat}{d:D}(h:ds[i]?=some d):VA (.d (.tuple ds)) n (.d (.int (i:Int))) m R=R (.d d):=by rw[U2,show YD ds (i:Int)=some d from KF h,fB]
theorem UY:VA (.d (wD w)) n (.d (.int 0)) m R=R (.d (.list (w.ps.map mI))):=GA (i:=0) rfl
theorem c9:VA (.d (wD w)) n (.d (.int 1)) m R=R (.d (.list (w.ms.map PyData.str))):=GA (i:=1) rfl
theorem Bs:VA (.d (wD w)) n (.d (.int 2)) m R=R (.d (.list (w.ag.map pr))):=GA (i:=2) rfl
theorem BU:VA (.d (wD w)) n (.d (.int 3)) m R=R (.d (.list (w.es.map jD))):=GA (i:=3) rfl
theorem BY:VA (.d (mI p)) n (.d (.int 0)) m R=R (.d (.str p.1)):=GA (i:=0) rfl
theorem Ps:VA (.d (mI p)) n (.d (.int 1)) m R=R (.d (.int p.2.1)):=GA (i:=1) rfl
theorem Os:VA (.d (mI p)) n (.d (.int 2)) m R=R (.d (.int p.2.2.1)):=GA (i:=2) rfl
theorem Ms:VA (.d (mI p)) n (.d (.int 3)) m R=R (.d (.int p.2.2.2)):=GA (i:=3) rfl
end
def aL(w:Wd):List (Str×Int):=w.ps.map λp=>(p.1,p.2.2.2)
noncomputable def uM:PSp where
 md:=[]
 run:=λx Q _=>∃w:Wd,x=[.d (wD w)]/\w.ps.length<=90/\Q (.lst (((aL w).map ZQ).map T.d)) []
 mono:=λh _ z=>by obtain⟨w,e,l,q⟩:=z;exact⟨w,e,l,h _ _ q⟩
theorem P9{w:Wd}{K:T->LT->Prop}{E:XE}(l:w.ps.length<=90)(q:K (.lst (((aL w).map ZQ).map T.d)) []):EA uM [.d (wD w)] K E:=⟨w,rfl,l,q⟩
theorem Ai{Ψ:PEv}(ds Q E)(h:uM.run ds Q E):ME Ψ kI uM HN OK ds Q:=by
 obtain⟨w,rfl,l,q⟩:=h;refine uA [bD (wD w)] rfl rfl rfl ?_;delta kI;simp_arith[↓UY];rw[<- oA mI];refine rB (λp=>T.d (mI p)) (λp=>T.d (ZQ (p.1,p.2.2.2))) w.ps [] _ (λx z R y=>?_) (by show 0+w.ps.length<=_;omega) ?_;simp_arith[↓BY,↓Ms];exact⟨by omega,y⟩;rw[Qi,oA λp:Str×Int×Int×Int=>ZQ (p.1,p.2.2.2)];have e:(w.ps.map λp=>ZQ (p.1,p.2.2.2))=(aL w).map ZQ:=by unfold aL;rw[Qa];rfl
 rw[e];exact q
def AD(es:rC)(sr:LS):D:=.tuple [.tuple (sr.map PyData.str),.tuple (es.map pr)]
section
variable{es:rC}{sr:LS}{n m:Bool}{R:T->Prop}
theorem jt:VA (.d (AD es sr)) n (.d (.int 0)) m R=R (.d (.tuple (sr.map PyData.str))):=GA (i:=0) rfl
theorem Es:VA (.d (AD es sr)) n (.d (.int 1)) m R=R (.d (.tuple (es.map pr))):=GA (i:=1) rfl
end
noncomputable def GG:PSp where
 md:=[]
 run:=λv Q _=>∃(w:Wd) (u:rC) (y:LS),v=[.d (wD w),.d (AD u y)]/\(u.length<=126/\y.length<=11/\ZG u y/\w.ps.length<=90/\(w.ps.map λp=>p.1).Nodup)/\∀l:LS,(∀x,x∈l↔Held u y (aL w) x)->l.length<=90->Q (.lst ((l.map PyData.str).map T.d)) []
 mono:=λh _ z=>by obtain⟨w,u,y,e,l,q⟩:=z;exact⟨w,u,y,e,l,λl a b=>h _ _ (q l a b)⟩
theorem yn{ts:LT}{W:LT->Prop}:vL .val [(.lst ts,true)] W=W ((ersT ts).map T.d):=kJ _
theorem Yk(r:Rw):(SJ r).er=.tuple [.str r.1,.list (ersT ((r.2.map HC).map T.d))]:=rfl
theorem J4{w:Wd}{es:rC}{sr:LS}{K:T->LT->Prop}{E:XE}(l:es.length<=126/\sr.length<=11/\ZG es sr/\w.ps.length<=90/\(w.ps.map λp=>p.1).Nodup)(q:∀l:LS,(∀x,x∈l↔Held es sr (aL w) x)->l.length<=90->K (.lst ((l.map PyData.str).map T.d)) []):EA GG [.d (wD w),.d (AD es sr)] K E:=⟨w,es,sr,rfl,l,q⟩
theorem Vb{Ψ:PEv}(m:Ψ.sp "ground_alone"=AF)(l:Ψ.sp "needs_of"=uM)(ds Q E)(h:GG.run ds Q E):ME Ψ iF GG JJ tH ds Q:=by
 obtain⟨w,n,u,rfl,⟨b,a,f,z,nd⟩,q⟩:=h;have k:(aL w).length<=90:=by unfold aL;rw[QE];exact z
 have v:((aL w).map λp=>p.1).Nodup:=by unfold aL;rw[Qa];exact nd
 refine uA [bD (wD w),bD (AD n u)] rfl rfl rfl ?_;delta iF;simp_arith[↓jt,↓Es,↓vA (md:=[]) m rfl rfl,↓vA (md:=[]) l rfl rfl];refine P9 z ?_;simp_arith[↓zA];refine kZ ⟨b,a,f,k,v⟩ λy F g j=>?_;rw[yn];have fl:=g.len;have rl:y.length=F.length:=by rw[g.e,QE]
 rw[yR,Qa,Qa];refine⟨rfl,?_⟩;refine rB (λr=>T.d (SJ r).er) (λr=>T.d (.str r.1)) y [] _ (λx o R i=>?_) (by show 0+y.length<=_;omega) ?_;rw[Yk];simp_arith[↓zA];exact i;rw[Qi,oA (λr:Rw=>PyData.str r.1)];have e:(y.map λr=>PyData.str r.1)=F.map PyData.str:=by rw[g.e,Qa];rfl
 rw[e];exact q F j (by omega)
def uB(evs:List Evt)(n:Nat):Evt:=(evs[n]?).getD (.see 0 "" "" "")
def GC(e:Evt):Prop:=∃t a b m w q,e=.tell t a b m w q
def Bp:Evt->Str
 | .see _ _ m _=>m|.tell _ _ _ m _ _=>m
def aJ:Evt->Str×Str
 | .see _ p m _=>(p,m)|.tell _ a b _ _ _=>(a,b)
def nD(n:Nat):D:=.int (n:Int)
theorem FP{evs:List Evt}{i:Nat}{n m:Bool}{R:T->Prop}(h:i<evs.length):VA (.d (.list (evs.map jD))) n (.d (nD i)) m R=R (.d (jD (uB evs i))):=by delta nD;rw[d9,show YD (evs.map jD) (i:Int)=some (jD (uB evs i)) from KF (by rw[Qb,Qm h];unfold uB;rw[Qm h];rfl),fB]
section
variable{e:Evt}{n m:Bool}{R:T->Prop}
theorem Nd(h:GC e):VA (.d (jD e)) n (.d (.int 2)) m R=R (.d (.str (aJ e).1)):=by obtain⟨t,a,b,x,w,q,rfl⟩:=h;exact GA (i:=2) rfl
theorem Ld(h:GC e):VA (.d (jD e)) n (.d (.int 3)) m R=R (.d (.str (aJ e).2)):=by obtain⟨t,a,b,x,w,q,rfl⟩:=h;exact GA (i:=3) rfl
theorem Cm(h:GC e):VA (.d (jD e)) n (.d (.int 4)) m R=R (.d (.str (Bp e))):=by obtain⟨t,a,b,x,w,q,rfl⟩:=h;exact GA (i:=4) rfl
end
section
variable{Ψ:PEv}{x:Str}{r:Int}{K:T->LT->Prop}{ks:List Pt}{L:Bool->Prop}
theorem Oe{ds:List D}{Q:T->Bool->Prop}:rP .tuple [(.lst (ds.map T.d),true)] Q=Q (.d (.tuple ds)) false:=by unfold rP SB;show Y1 .tuple [.ls ((ersT (ds.map T.d)).map T.d)] Q=_;rw[bB,Gf];exact propext ⟨λ⟨_,e,q⟩=>by rw[XA]at e;cases e;exact q,λq=>⟨_,XA _,q⟩⟩
def lH(evs:List Evt)(h:LN)(m:Str):rC:=(h.filter λn=>decide (Bp (uB evs n)=m)).map λn=>aJ (uB evs n)
noncomputable def HJ:PSp where
 md:=[]
 run:=λv Q _=>∃(y:List Evt) (u:LN) (m:Str),v=[.d (.list (y.map jD)),.d (.list (u.map nD)),.d (.str m)]/\u.length<=100/\(∀n∈u,n<y.length/\GC (uB y n))/\Q (.d (.tuple ((lH y u m).map pr))) []
 mono:=λh _ z=>by obtain⟨y,u,m,e,l,a,q⟩:=z;exact⟨y,u,m,e,l,a,h _ _ q⟩
theorem xj(ds Q E)(h:HJ.run ds Q E):ME Ψ cI HJ RN IK ds Q:=by
 obtain⟨y,z,m,rfl,l,a,q⟩:=h;refine uA [bD (.list (y.map jD)),bD (.list (z.map nD)),bD (.str m),none] rfl rfl rfl ?_;delta cI;simp_arith[↓zA];rw[<- oA nD];refine nA (λn=>T.d (nD n)) (λn=>T.d (jD (uB y n))) (λn=>decide (Bp (uB y n)=m)) z [] _ (λx w R v=>?_) (by show 0+z.length<=_;omega) ?_;simp_arith[↓FP (a x w).1,↓Cm (a x w).2];split at v;rename_i c;rw[if_pos c];exact v;rename_i c;rw[if_neg c];exact v;rw[Qi,oA λn=>jD (uB y n)];simp_arith[↓zA];rw[<- oA λn=>jD (uB y n)];refine rB (λn=>T.d (jD (uB y n))) (λn=>T.d (pr (aJ (uB y n)))) _ [] _ (λx w R v=>?_) (by show 0+(List.filter _ z).length<=_;have:=qG (λn=>decide (Bp (uB y n)=m)) z;omega) ?_;have u:=(Qd.mp w).1;simp_arith[↓Nd (a x u).2,↓Ld (a x u).2];exact⟨by omega,v⟩;rw[Qi,oA λn=>pr (aJ (uB y n)),Oe];have e:((z.filter λn=>decide (Bp (uB y n)=m)).map λn=>pr (aJ (uB y n)))=(lH y z m).map pr:=by unfold lH;rw[Qa];rfl
 rw[e];simp_arith[↓zA];exact q
def VI(w:Wd)(x:Str):LJ:=(w.ps.filter λp=>decide (p.1=x)).map λp=>p.2.1
noncomputable def eI:PSp where
 md:=[]
 run:=λy Q _=>∃(w:Wd) (x:Str) (r:Int),y=[.d (wD w),.d (.str x)]/\w.ps.length<=90/\(VI w x)[0]?=some r/\Q (.d (.int r)) []
 mono:=λh _ z=>by obtain⟨w,x,r,e,l,a,q⟩:=z;exact⟨w,x,r,e,l,a,h _ _ q⟩
theorem t4{w:Wd}{E:XE}(l:w.ps.length<=90)(a:(VI w x)[0]?=some r)(q:K (.d (.int r)) []):EA eI [.d (wD w),.d (.str x)] K E:=⟨w,x,r,rfl,l,a,q⟩
theorem Yb(ds Q E)(h:eI.run ds Q E):ME Ψ nK eI eP iM ds Q:=by
 obtain⟨w,x,r,rfl,l,a,q⟩:=h;refine uA [bD (wD w),bD (.str x)] rfl rfl rfl ?_;delta nK;simp_arith[↓UY];rw[<- oA mI];refine nA (λp=>T.d (mI p)) (λp=>T.d (.int p.2.1)) (λp=>decide (p.1=x)) w.ps [] _ (λp u R y=>?_) (by show 0+w.ps.length<=_;omega) ?_;simp_arith[↓BY,↓Ps];split at y;rename_i c;rw[if_pos c];exact y;rename_i c;rw[if_neg c];exact y;rw[Qi,oA λp:Str×Int×Int×Int=>PyData.int p.2.1];have e:((w.ps.filter λp=>decide (p.1=x)).map λp=>PyData.int p.2.1)=(VI w x).map PyData.int:=by unfold VI;rw[Qa];rfl
 rw[e];have z:YD ((VI w x).map PyData.int) 0=some (.int r):=KF (j:=0) (by rw[Qb,a];rfl);simp_arith[z];exact q
def lF(w:Wd)(x:Str):LJ:=(w.ps.filter λp=>decide (p.1=x)).map λp=>p.2.2.1
noncomputable def SF:PSp where
 md:=[]
 run:=λy Q _=>∃(w:Wd) (x:Str) (r:Int),y=[.d (wD w),.d (.str x)]/\w.ps.length<=90/\(lF w x)[0]?=some r/\Q (.d (.int r)) []
 mono:=λh _ z=>by obtain⟨w,x,r,e,l,a,q⟩:=z;exact⟨w,x,r,e,l,a,h _ _ q⟩
theorem jZ{w:Wd}{E:XE}(l:w.ps.length<=90)(a:(lF w x)[0]?=some r)(q:K (.d (.int r)) []):EA SF [.d (wD w),.d (.str x)] K E:=⟨w,x,r,rfl,l,a,q⟩
theorem R5(ds Q E)(h:SF.run ds Q E):ME Ψ bI SF PN AK ds Q:=by
 obtain⟨w,x,r,rfl,l,a,q⟩:=h;refine uA [bD (wD w),bD (.str x)] rfl rfl rfl ?_;delta bI;simp_arith[↓UY];rw[<- oA mI];refine nA (λp=>T.d (mI p)) (λp=>T.d (.int p.2.2.1)) (λp=>decide (p.1=x)) w.ps [] _ (λp u R y=>?_) (by show 0+w.ps.length<=_;omega) ?_;simp_arith[↓BY,↓Os];split at y;rename_i c;rw[if_pos c];exact y;rename_i c;rw[if_neg c];exact y;rw[Qi,oA λp:Str×Int×Int×Int=>PyData.int p.2.2.1];have e:((w.ps.filter λp=>decide (p.1=x)).map λp=>PyData.int p.2.2.1)=(lF w x).map PyData.int:=by unfold lF;rw[Qa];rfl
 rw[e];have z:YD ((lF w x).map PyData.int) 0=some (.int r):=KF (j:=0) (by rw[Qb,a];rfl);simp_arith[z];exact q
def AI(ks:List Pt):T:=.dct true (ks.map pr) (ks.map λ_=>T.d (.bool true))
def oU(ks:List Pt)(p:Pt):List Pt:=if p∈ks then ks else ks++[p]
theorem nU(ks:List Pt)(p:Pt):(oU ks p).length<=ks.length+1:=by unfold oU;split;omega;simp
theorem BO{α h:Type}(c:h):∀(l:List α) (n:Nat),(l.map λ_=>c).set n c=l.map λ_=>c
 |[],_=>rfl|_::_,0=>rfl|x::l,n+1=>by show c::(l.map λ_=>c).set n c=_;rw[BO c l n];rfl
theorem ke{p:Pt}{Q:T->Prop}(hl:ks.length<sizeLine)(q:Q (AI (oU ks p))):ue (AI ks) (.d (pr p)) (.d (.bool true)) Q:=by
 refine⟨TB p,by rw[QE];exact hl,?_⟩;show Q (IJ true (ks.map pr) (ks.map λ_=>T.d (.bool true)) (pr p) (.d (.bool true)));unfold oU at q;unfold IJ;by_cases c:p∈ks;rw[if_pos c]at q;cases e:cA (ks.map pr) (pr p) with|none=>exact absurd (xQ.mpr c) (jB.mp e)|some n=>show Q (.dct true (ks.map pr) ((ks.map λ_=>T.d (.bool true)).set n (.d (.bool true))));rw[BO];exact q
 rw[if_neg c]at q;rw[jB.mpr λz=>c (xQ.mp z)];unfold AI at q;rw[QO,QO]at q;exact q
theorem Zq{q:Pt}:NB .In (.d (pr q)) (AI ks) L=L (decide (q∈ks)):=by unfold AI;rw[u8,cJ];exact propext ⟨λh=>h.2,λh=>⟨TB q,h⟩⟩
theorem Rk{q:Pt}:NB .NotIn (.d (pr q)) (AI ks) L=L (!decide (q∈ks)):=by unfold AI;rw[JN,cJ];exact propext ⟨λh=>h.2,λh=>⟨TB q,h⟩⟩
def EF(evs:List Evt)(ks:List Pt)(n:Nat):List Pt:=match uB evs n with
 | .see _ p m _=>oU ks (p,m)|_=>ks
def JB(evs:List Evt)(l:LN):List Pt:=l.foldl (EF evs) []
def z9:Evt->Str
 | .see _ _ _ _=>"see"|.tell _ _ _ _ _ _=>"tell"
end
section
variable{e:Evt}{n m:Bool}{R:T->Prop}{t:Int}{p h w:Str}
theorem CU:VA (.d (jD e)) n (.d (.int 0)) m R=R (.d (.str (z9 e))):=by cases e;exact GA (i:=0) rfl;exact GA (i:=0) rfl
theorem Fm:VA (.d (jD (.see t p h w))) n (.d (.int 2)) m R=R (.d (.str p)):=GA (i:=2) rfl
theorem Od:VA (.d (jD (.see t p h w))) n (.d (.int 3)) m R=R (.d (.str h)):=GA (i:=3) rfl
end
section
variable{Ψ:PEv}{ks v:List Pt}{a b x:Str}{L:Bool->Prop}{E:XE}{ns:LJ}{K:T->LT->Prop}{w:Wd}
theorem bN{c a b:Prop}[Decidable c](h:¬ c)(q:b):if c then a else b:=by rw[if_neg h];exact q
noncomputable def At(evs:List Evt)(l:LN)(ks:List Pt)(o3:Option Sl):kA:=[bD (.list (evs.map jD)),some (.vz (.lst (l.map λn=>T.d (nD n)))),oW (AI ks),o3]
noncomputable def FG:PSp where
 md:=[.uz,.yz]
 run:=λu Q _=>∃(y:List Evt) (l:LN),u=[.d (.list (y.map jD)),.lst ((l.map nD).map T.d)]/\l.length<=100/\(∀n∈l,n<y.length)/\Q (AI (JB y l)) []
 mono:=λh _ z=>by obtain⟨y,l,e,a,b,q⟩:=z;exact⟨y,l,e,a,b,h _ _ q⟩
theorem Jb(ds Q E)(h:FG.run ds Q E):ME Ψ nF FG eJ rH ds Q:=by
 obtain⟨y,l,rfl,hl,o,q⟩:=h;refine uA [bD (.list (y.map jD)),some (.vz (.lst ((l.map nD).map T.d))),none,none] rfl rfl rfl ?_;delta nF;simp_arith[↓zA];rw[<- oA nD];refine CA (λn=>T.d (nD n)) (λr z=>∃ks u,r.foldl (EF y) ks=JB y l/\ks.length+r.length<=100/\(∀n∈r,n<y.length)/\z=At y l ks u) ?_ ?_ l _ ⟨[],none,rfl,by simpa using hl,o,rfl⟩;rintro z ⟨ks,u,e,_,_,rfl⟩;have e:ks=JB y l:=e;subst e;delta At;simp_arith[↓zA];exact q;rintro n r z N j ⟨ks,u,e,hk,f,rfl⟩;have i:ks.length+(r.length+1)<=100:=hk;have g:=f n QF;delta At;delta pG;simp_arith[↓FP g,↓CU];have e:r.foldl (EF y) (EF y ks n)=JB y l:=e;unfold EF at e;cases ev:uB y n with|see t p m w=>rw[ev]at e;simp_arith[z9,↓Fm,↓Od];rw[FP g,ev];simp_arith[↓Od];exact⟨by omega,ke (p:=(p,m)) (by omega) (j _ ⟨oU ks (p,m),_,e,by have:=nU ks (p,m);omega,λx k=>f x (QD _ k),rfl⟩)⟩|tell t a b m w s=>rw[ev]at e;refine bN (show decide ((QY "tell")=(QY "see"))≠true by decide) ?_;exact j _ ⟨ks,_,e,by omega,λx k=>f x (QD _ k),rfl⟩
theorem VW:NB .In (.d (.tuple [.str a,.str b])) (AI ks) L=L (decide ((a,b)∈ks)):=Zq (q:=(a,b))
theorem sY:NB .NotIn (.d (.tuple [.str a,.str b])) (AI ks) L=L (!decide ((a,b)∈ks)):=Rk (q:=(a,b))
def bH(w:Wd)(ks:List Pt)(m:Str):LS:=(w.ps.filter λp=>decide ((p.1,m)∈ks)).map λp=>p.1
noncomputable def CJ:PSp where
 md:=[.uz,.vz]
 run:=λy Q _=>∃(w:Wd) (ks:List Pt) (m:Str),y=[.d (wD w),AI ks,.d (.str m)]/\w.ps.length<=90/\Q (.d (.tuple ((bH w ks m).map PyData.str))) []
 mono:=λh _ z=>by obtain⟨w,ks,m,e,l,q⟩:=z;exact⟨w,ks,m,e,l,h _ _ q⟩
theorem Oi(ds Q E)(h:CJ.run ds Q E):ME Ψ zI CJ FN LK ds Q:=by
 obtain⟨w,ks,m,rfl,l,q⟩:=h;refine uA [bD (wD w),some (.vz (AI ks)),bD (.str m)] rfl rfl rfl ?_;delta zI;simp_arith[↓UY];rw[<- oA mI];refine nA (λp=>T.d (mI p)) (λp=>T.d (.str p.1)) (λp=>decide ((p.1,m)∈ks)) w.ps [] _ (λp z R y=>?_) (by show 0+w.ps.length<=_;omega) ?_;simp_arith[↓BY,↓VW];refine⟨by omega,?_⟩;split at y;rename_i c;rw[if_pos c];exact y;rename_i c;rw[if_neg c];exact y;rw[Qi,oA λp:Str×Int×Int×Int=>PyData.str p.1,Oe];have e:((w.ps.filter λp=>decide ((p.1,m)∈ks)).map λp=>PyData.str p.1)=(bH w ks m).map PyData.str:=by unfold bH;rw[Qa];rfl
 rw[e];simp_arith[↓zA];exact q
theorem Lq{ρ:kA}{a c h:PX}{t u:Str}{x y:D}{e:CmpOp}{R:Option T->Prop}:mG Ψ E [] [t,u] (.tp [0,1]) (.cmp e a c) h ρ (.d (.tuple [x,y])) R=AN Ψ (.cmp e a c) E (bD x::bD y::lockA ρ) λk z=>if k=true then cB Ψ h E z λy n _=>nC y n (R (some y)) else R none:=fB
theorem HX:∀{l:List D},(∀x∈l,x.canLay0=true/\x.depth<=1)->qm l=true/\wW l<=1
 |[],_=>by simp[qm,wW]|x::l,h=>by obtain⟨k,f⟩:=h x QF;obtain⟨z,e⟩:=HX (l:=l) λy u=>h y (QD _ u);simp only[qm,wW,k,z,Bool.and_self,true_and];omega
theorem jj{l:List D}(h:∀x∈l,x.canLay0=true/\x.depth<=1):NF (.list l):=by obtain⟨y,z⟩:=HX h;refine⟨?_,?_⟩;simp only[QAN];exact y;simp only[QA3];omega
def AJ(w:Wd)(m:Str):LS:=(w.ag.filter λp=>decide (p.1=m)).map λp=>p.2
def TJ(w:Wd)(m:Str):LS:=(w.ag.filter λp=>decide (p.2=m)).map λp=>p.1
def OkS(a:Str):Prop:=qf a=true
def Hd(h:T)(f:Pt->Bool):Prop:=∀a b (L:Bool->Prop),OkS a->OkS b->L (f (a,b))->NB .In (.d (.tuple [.str a,.str b])) h L
theorem Ap(ks:List Pt):Hd (AI ks) λq=>decide (q∈ks):=λa b L _ _ h=>by rw[VW];exact h
theorem Si(h:∀p∈v,OkS p.1/\OkS p.2):NF (.list (v.map pr)):=jj λx z=>by obtain⟨p,y,rfl⟩:=QV.mp z;have q:=FD (h p y).1 (h p y).2;exact⟨q.1,by simp[pr,QA3,wW]⟩
theorem TV(h:∀p∈v,OkS p.1/\OkS p.2):Hd (.d (.list (v.map pr))) λq=>decide (q∈v):=λa b L u hb q=>by
 refine⟨.inr ⟨FD u hb,Si h⟩,?_⟩;have e:((v.map pr).any λy=>Qv y (.tuple [.str a,.str b]))=decide ((a,b)∈v):=by rw[QB9,qC,w8,decide_eq_true_iff];constructor;rintro⟨p,z,e⟩;have e:Qv (pr p) (pr (a,b))=true:=e;rw[uW,decide_eq_true_iff]at e;exact e▸z;intro z;refine⟨(a,b),z,?_⟩;show Qv (pr (a,b)) (pr (a,b))=true;rw[uW];exact dT rfl
 show L ((v.map pr).any λy=>Qv y (.tuple [.str a,.str b]));rw[e];exact q
noncomputable def NJ:PSp where
 md:=[.uz,.vz]
 run:=λu Q _=>∃(w:Wd) (y:T) (f:Pt->Bool) (x m:Str),u=[.d (wD w),y,.d (.str x),.d (.str m)]/\(Hd y f/\OkS x/\∀p∈w.ag,OkS p.1/\OkS p.2)/\w.ag.length<=100/\Q (.d (.bool ((AJ w m++TJ w m).any λr=>f (x,r)))) []
 mono:=λh _ z=>by obtain⟨w,y,f,x,m,e,a,l,q⟩:=z;exact⟨w,y,f,x,m,e,a,l,h _ _ q⟩
theorem cj(ds Q E)(h:NJ.run ds Q E):ME Ψ mE NJ UH zG ds Q:=by
 obtain⟨w,u,f,x,m,rfl,⟨i,k,z⟩,l,q⟩:=h;have Y:=qG (λp:Str×Str=>decide (p.1=m)) w.ag;have X:=qG (λp:Str×Str=>decide (p.2=m)) w.ag;have s:(AJ w m).length<=100:=by unfold AJ;rw[QE];omega
 have o:(TJ w m).length<=100:=by unfold TJ;rw[QE];omega
 refine uA [bD (wD w),some (.vz u),bD (.str x),bD (.str m),none] rfl rfl rfl ?_;delta mE;simp_arith[↓Bs];rw[<- oA pr w.ag];refine nA (λp=>T.d (pr p)) (λ(p:Str×Str)=>T.d (.str p.2)) (λp=>decide (p.1=m)) w.ag [] _ (λp e R y=>?_) (by show 0+w.ag.length<=_;omega) ?_;delta pr;simp_arith[↓Lq];split at y;rename_i c;rw[if_pos c];exact y;rename_i c;rw[if_neg c];exact y;rw[Qi,oA λp:Str×Str=>PyData.str p.2];have n:((w.ag.filter λp=>decide (p.1=m)).map λp=>PyData.str p.2)=(AJ w m).map PyData.str:=by unfold AJ;rw[Qa];rfl
 rw[n];refine nA (λp=>T.d (pr p)) (λ(p:Str×Str)=>T.d (.str p.1)) (λp=>decide (p.2=m)) w.ag [] _ (λp e R y=>?_) (by show 0+w.ag.length<=_;omega) ?_;delta pr;simp_arith[↓Lq];split at y;rename_i c;rw[if_pos c];exact y;rename_i c;rw[if_neg c];exact y;rw[Qi,oA λp:Str×Str=>PyData.str p.1];have j:((w.ag.filter λp=>decide (p.2=m)).map λp=>PyData.str p.1)=(TJ w m).map PyData.str:=by unfold TJ;rw[Qa];rfl
 rw[j,<- QO,<- QO];refine⟨by rw[QE,QE,QE,QE];omega,?_⟩;simp_arith[↓zA];rw[<- oA PyData.str];refine rB (λr=>T.d (.str r)) (λr=>T.d (.bool (f (x,r)))) (AJ w m++TJ w m) [] _ (λr e R y=>?_) (by show 0+(AJ w m++TJ w m).length<=_;rw[QI];omega) ?_;simp_arith[↓zA];refine⟨by omega,i _ _ _ k ?_ y⟩;rcases Qf.mp e with h|h;obtain⟨p,g,rfl⟩:=QV.mp h;exact(z p (Qd.mp g).1).2;obtain⟨p,g,rfl⟩:=QV.mp h;exact(z p (Qd.mp g).1).1;rw[Qi,oA λr=>PyData.bool (f (x,r)),bp];refine⟨(AJ w m++TJ w m).map λr=>f (x,r),by rw[Qa];rfl,?_⟩;rw[QB9];simp_arith[↓zA];exact q
theorem yp{n:Bool}{Q:T->Bool->Prop}(y:ns.length<64)(q:∀h:LJ,h.Perm ns->h.Pairwise (·<=·)->Q (.lst ((h.map PyData.int).map T.d)) true):rP .sorted [(.lst ((ns.map PyData.int).map T.d),n)] Q:=by unfold rP SB;rw[lD];exact .inr (.inr ⟨_,ns,rfl,XA _,y,q⟩)
theorem Sb{l:LN}(h:ns.Perm (l.map λ(n:Nat)=>(n:Int)))(z:ns.Pairwise (·<=·)):∃y:LN,ns=y.map (λ(n:Nat)=>(n:Int))/\y.Perm l/\y.Pairwise (·<=·):=by
 have e:ns=(ns.map QCV).map λ(n:Nat)=>(n:Int):=by rw[Qa];refine(QCT ns).symm.trans (wJ λx u=>?_);obtain⟨n,_,rfl⟩:=QV.mp (h.mem_iff.mp u);rfl
 refine⟨ns.map QCV,e,?_,?_⟩;have:=h.map QCV;rw[Qa]at this;refine this.trans (QCS.of_eq ?_);exact(wJ λn _=>rfl).trans (QCT l);rw[e]at z;exact(QB0.mp z).imp λh=>by omega
noncomputable def II(evs:List Evt)(h:LN)(ks:List Pt):LN:=h.filter λn=>!decide (((aJ (uB evs n)).1,(aJ (uB evs n)).2)∈ks)
noncomputable def IE:PSp where
 md:=[.uz,.yz,.vz]
 run:=λf Q _=>∃(y:List Evt) (u:LN) (ks:List Pt),f=[.d (.list (y.map jD)),.lst ((u.map nD).map T.d),AI ks]/\u.length<64/\(∀n∈u,n<y.length/\GC (uB y n))/\∀k:LN,k.Perm (II y u ks)->k.Pairwise (·<=·)->Q (.lst ((k.map nD).map T.d)) []
 mono:=λh _ z=>by obtain⟨y,u,ks,e,l,a,q⟩:=z;exact⟨y,u,ks,e,l,a,λk b c=>h _ _ (q k b c)⟩
theorem Kb(ds Q E)(h:IE.run ds Q E):ME Ψ sF IE iJ sH ds Q:=by
 obtain⟨y,z,ks,rfl,l,a,q⟩:=h;refine uA [bD (.list (y.map jD)),some (.vz (.lst ((z.map nD).map T.d))),some (.vz (AI ks))] rfl rfl rfl ?_;delta sF;simp_arith[↓zA];rw[<- oA nD];refine nA (λn=>T.d (nD n)) (λn=>T.d (nD n)) (λn=>!decide (((aJ (uB y n)).1,(aJ (uB y n)).2)∈ks)) z [] _ (λn k R f=>?_) (by show 0+z.length<=_;omega) ?_;simp_arith[↓FP (a n k).1,↓Nd (a n k).2,↓Ld (a n k).2,↓sY];refine⟨by omega,?_⟩;split at f;rename_i c;rw[if_pos c];exact f;rename_i c;rw[if_neg c];exact f;rw[Qi,oA nD];have e:(II y z ks).map nD=((II y z ks).map λ(n:Nat)=>(n:Int)).map PyData.int:=by rw[Qa];rfl
 have fl:=qG (λn=>!decide (((aJ (uB y n)).1,(aJ (uB y n)).2)∈ks)) z;show rP .sorted [(.lst (((II y z ks).map nD).map T.d),true)] _;rw[e];refine yp (by rw[QE];unfold II;omega) λj i g=>?_;obtain⟨u,rfl,o,m⟩:=Sb i g;have p:(u.map λ(n:Nat)=>(n:Int)).map PyData.int=u.map nD:=by rw[Qa];rfl
 rw[p];simp_arith[↓zA];exact q u o m
theorem bS{evs:List Evt}{l:LN}(a:l.length<=100)(b:∀n∈l,n<evs.length)(q:K (AI (JB evs l)) []):EA FG [.d (.list (evs.map jD)),.lst ((l.map nD).map T.d)] K E:=⟨evs,l,rfl,a,b,q⟩
theorem dX{h:T}{f:Pt->Bool}{m:Str}(a:Hd h f/\OkS x/\∀p∈w.ag,OkS p.1/\OkS p.2)(l:w.ag.length<=100)(q:K (.d (.bool ((AJ w m++TJ w m).any λr=>f (x,r)))) []):EA NJ [.d (wD w),h,.d (.str x),.d (.str m)] K E:=⟨w,h,f,x,m,rfl,a,l,q⟩
def C2(w:Wd)(h:List Pt)(b m:Str):Bool:=!decide ((b,m)∈h)&&(AJ w m++TJ w m).any λr=>decide ((b,r)∈h)
noncomputable def OL(w:Wd)(h ks:List Pt)(n:Nat):List Pt:=match uB w.es n with
 | .tell _ a b m _ _=>if C2 w h b m=true then oU ks (a,b) else ks|_=>ks
def eO(w:Wd)(l:LN):List Pt:=l.foldl (OL w (JB w.es l)) []
def Dg(w:Wd)(x:Str):Prop:=∃p∈w.ps,p.1=x
noncomputable def N8(w:Wd):Evt->Prop
 | .see _ p m h=>Dg w p/\m∈w.ms/\OkS h|.tell _ a b m h q=>Dg w a/\Dg w b/\m∈w.ms/\a≠b/\OkS h/\∀x∈q,Dg w x
structure WOk(w:Wd):Prop where
 ag:∀p∈w.ag,OkS p.1/\OkS p.2
 al:w.ag.length<=100
 pl:w.ps.length<=11
 pn:(w.ps.map λp=>p.1).Nodup
 po:∀p∈w.ps,OkS p.1
 ml:w.ms.length<=10
 mo:∀m∈w.ms,OkS m
 mn:w.ms.Nodup
 el:w.es.length<=60
 eo:∀e∈w.es,N8 w e
theorem WOk.ev(h:WOk w){n:Nat}(y:n<w.es.length):N8 w (uB w.es n):=by unfold uB;rw[Qm y];exact h.eo _ (w9 y)
theorem WOk.nm(h:WOk w)(y:Dg w x):OkS x:=by obtain⟨p,z,rfl⟩:=y;exact h.po p z
end
section
variable{Ψ:PEv}{E:XE}{ρ:kA}{M:List (T×Bool)->kA->Prop}{a z:PX}{md:List Md}{d:D}{n m:Bool}{xs:List (T×Bool)}{C:LT->Prop}{R:T->Prop}{t:Int}{x b h y:Str}{q:LS}
theorem vr{ks:List Pt}:j9 (AI ks) false Ψ z E md ρ M=FM Ψ z E md (lockA ρ) λxs _=>M xs ρ:=rfl
theorem V2:VA (.d (jD (.tell t x b h y q))) n (.d (.int 2)) m R=R (.d (.str x)):=GA (i:=2) rfl
theorem K2:VA (.d (jD (.tell t x b h y q))) n (.d (.int 3)) m R=R (.d (.str b)):=GA (i:=3) rfl
theorem Y2:VA (.d (jD (.tell t x b h y q))) n (.d (.int 4)) m R=R (.d (.str h)):=GA (i:=4) rfl
end
section
variable{w:Wd}{K:T->LT->Prop}{Ψ:PEv}{u es:List Pt}{x:Str}{sr:LS}{f:Kn}
noncomputable def vt(w:Wd)(l:LN)(ks:List Pt)(o4 o5:Option Sl):kA:=[bD (wD w),some (.vz (.lst (l.map λn=>T.d (nD n)))),oW (AI (JB w.es l)),oW (AI ks),o4,o5]
noncomputable def xD:PSp where
 md:=[.uz,.yz]
 run:=λy Q _=>∃(w:Wd) (l:LN),y=[.d (wD w),.lst ((l.map nD).map T.d)]/\WOk w/\l.length<=100/\(∀n∈l,n<w.es.length)/\Q (AI (eO w l)) []
 mono:=λh _ z=>by obtain⟨w,l,e,a,b,c,q⟩:=z;exact⟨w,l,e,a,b,c,h _ _ q⟩
theorem RY{l:LN}{E:XE}(h:WOk w)(a:l.length<=100)(b:∀n∈l,n<w.es.length)(q:K (AI (eO w l)) []):EA xD [.d (wD w),.lst ((l.map nD).map T.d)] K E:=⟨w,l,rfl,h,a,b,q⟩
theorem F5(C:Ψ.sp "seen_among"=FG)(B:Ψ.sp "has_against"=NJ)(ds Q E)(h:xD.run ds Q E):ME Ψ bE xD KH IF ds Q:=by
 obtain⟨w,l,rfl,g,hl,Z,q⟩:=h;refine uA [bD (wD w),some (.vz (.lst ((l.map nD).map T.d))),none,none,none,none] rfl rfl rfl ?_;delta bE;simp_arith[↓BU,↓vA (md:=[.uz,.yz]) C rfl rfl,↓mC,↓Cd];refine bS hl Z ?_;simp_arith[↓zA];rw[<- oA nD];refine CA (λn=>T.d (nD n)) (λr o=>∃y X s,r.foldl (OL w (JB w.es l)) y=eO w l/\y.length+r.length<=100/\(∀n∈r,n<w.es.length)/\o=vt w l y X s) ?_ ?_ l _ ⟨[],none,none,rfl,by simpa using hl,Z,rfl⟩;rintro o ⟨y,X,s,e,_,_,rfl⟩;have e:y=eO w l:=e;subst e;delta vt;simp_arith[↓zA];exact q;rintro n r o N i ⟨y,X,s,e,hk,v,rfl⟩;have W:y.length+(r.length+1)<=100:=hk;have Y:=v n QF;have k:=g.ev Y;have e:r.foldl (OL w (JB w.es l)) (OL w (JB w.es l) y n)=eO w l:=e;unfold OL at e;delta vt;delta HF;simp_arith[↓BU,↓FP Y,↓CU];cases ev:uB w.es n with|see t p m A=>rw[ev]at e;refine bN (show decide ((QY "see")=(QY "tell"))≠true by decide) ?_;exact i _ ⟨y,_,_,e,by omega,λx z=>v x (QD _ z),rfl⟩|tell t a b m A F=>rw[ev]at e k;obtain⟨I,hb,G,_⟩:=k;simp_arith[z9,↓V2,↓K2,↓Y2,↓sY,↓vA (md:=[.uz,.vz]) B rfl rfl,↓mC,↓Cd,↓vr];refine⟨by omega,?_⟩;unfold C2 at e;by_cases c:(b,m)∈JB w.es l;simp_arith[dT c];simp only[dT c,Wt,QAI,Qs,if_false]at e;exact i _ ⟨y,_,_,e,by omega,λx z=>v x (QD _ z),rfl⟩;simp_arith[dF c];refine dX ⟨Ap _,g.nm hb,g.ag⟩ g.al ?_;simp_arith[↓zA];by_cases j:((AJ w m++TJ w m).any λr=>decide ((b,r)∈JB w.es l))=true;simp_arith[j];simp only[dF c,j,wy,WI,if_true]at e;exact⟨by omega,ke (p:=(a,b)) (by omega) (i _ ⟨oU y (a,b),_,_,e,by have:=nU y (a,b);omega,λx z=>v x (QD _ z),rfl⟩)⟩;rw[if_neg j];simp only[dF c,wy,WI]at e;rw[if_neg j]at e;exact i _ ⟨y,_,_,e,by omega,λx z=>v x (QD _ z),rfl⟩
theorem BX(h:∀p∈u,OkS p.1/\OkS p.2){a b:Str}{L:Bool->Prop}(y:OkS a)(hb:OkS b)(q:L (!decide ((a,b)∈u))):NB .NotIn (.d (.tuple [.str a,.str b])) (.d (.list (u.map pr))) L:=TV h a b (λc=>L (!c)) y hb q
def gS(w:Wd)(x:Str):Int:=((VI w x)[0]?).getD 0
def gN(w:Wd)(x:Str):Int:=((lF w x)[0]?).getD 0
theorem xa(h:Dg w x):(VI w x)[0]?=some (gS w x):=by
 obtain⟨p,z,rfl⟩:=h;have y:p.2.1∈VI w p.1:=QV.mpr ⟨p,Qd.mpr ⟨z,dT rfl⟩,rfl⟩;unfold gS;cases e:VI w p.1 with|nil=>rw[e]at y;cases y|cons x r=>rfl
theorem X7(h:Dg w x):(lF w x)[0]?=some (gN w x):=by
 obtain⟨p,z,rfl⟩:=h;have y:p.2.2.1∈lF w p.1:=QV.mpr ⟨p,Qd.mpr ⟨z,dT rfl⟩,rfl⟩;unfold gN;cases e:lF w p.1 with|nil=>rw[e]at y;cases y|cons x r=>rfl
noncomputable def Gr(w:Wd)(wr u:List Pt):Evt->Bool
 | .see _ _ _ _=>true|.tell _ a b m _ _=>decide ((a,m)∈u)&&!decide ((a,b)∈wr)&&decide (gN w b<=gS w a)&&!((AJ w m++TJ w m).any λr=>decide ((b,r)∈u))
def M8(u:List Pt):Prop:=∀p∈u,OkS p.1/\OkS p.2
noncomputable def VO:PSp where
 md:=[.uz,.uz,.vz,.uz]
 run:=λv Q _=>∃(w:Wd) (e:Evt) (y u:List Pt),v=[.d (wD w),.d (jD e),AI y,.d (.list (u.map pr))]/\WOk w/\N8 w e/\M8 u/\Q (.d (.bool (Gr w y u e))) []
 mono:=λh _ z=>by obtain⟨w,e,y,u,a,b,c,d,q⟩:=z;exact⟨w,e,y,u,a,b,c,d,h _ _ q⟩
theorem Mh{e:Evt}{wr:List Pt}{E:XE}(h:WOk w)(z:N8 w e)(y:M8 u)(q:K (.d (.bool (Gr w wr u e))) []):EA VO [.d (wD w),.d (jD e),AI wr,.d (.list (u.map pr))] K E:=⟨w,e,wr,u,rfl,h,z,y,q⟩
theorem So(Z:Ψ.sp "rank_of"=eI)(Y:Ψ.sp "floor_of"=SF)(X:Ψ.sp "has_against"=NJ)(ds Q E)(h:VO.run ds Q E):ME Ψ eF VO ON SK ds Q:=by
 obtain⟨w,e,g,u,rfl,y,s,j,q⟩:=h;refine uA [bD (wD w),bD (jD e),some (.vz (AI g)),bD (.list (u.map pr)),none,none,none] rfl rfl rfl ?_;cases e with|see t p m n=>delta eF;simp_arith[↓CU,z9];exact q|tell t a b m n W=>obtain⟨l,hb,o,_⟩:=s;delta eF;simp_arith[↓CU,z9];refine bN (show decide ((QY "tell")=(QY "see"))≠true by decide) ?_;simp_arith[↓V2,↓K2,↓Y2,↓Nl];refine⟨by omega,BX j (y.nm l) (y.mo _ o) ?_⟩;have q:Q (.d (.bool (decide ((a,m)∈u)&&!decide ((a,b)∈g)&&decide (gN w b<=gS w a)&&!((AJ w m++TJ w m).any λr=>decide ((b,r)∈u))))) []:=q;by_cases k:(a,m)∈u;simp_arith[dT k,↓VW];rw[dT k]at q;refine⟨by omega,?_⟩;by_cases v:(a,b)∈g;simp_arith[dT v];rw[dT v]at q;exact q;simp_arith[dF v,↓vA (md:=[]) Z rfl rfl,↓vA (md:=[]) Y rfl rfl];rw[dF v]at q;have i:w.ps.length<=90:=QU y.pl (by decide);refine t4 i (xa l) ?_;simp_arith[↓zA];refine jZ i (X7 hb) ?_;simp_arith[↓Vq];by_cases z:gN w b<=gS w a;simp_arith[dT z,↓vA (md:=[.uz,.vz]) X rfl rfl,↓mC,↓Cd];rw[dT z]at q;refine dX ⟨TV j,y.nm hb,y.ag⟩ y.al ?_;simp_arith[↓zA];exact q;simp_arith[dF z];rw[dF z]at q;exact q;simp_arith[dF k];rw[dF k]at q;exact q
noncomputable abbrev Kn:=List ((List Pt×LS)×LS)
def SZ(f:Kn):List D:=f.map λx=>AD x.1.1 x.1.2
def Lj(f:Kn):LT:=f.map λx=>T.d (.list (x.2.map PyData.str))
def NX(f:Kn):T:=.dct true (SZ f) (Lj f)
def BK(w:Wd)(f:Kn):Prop:=∀x∈f,∀y,y∈x.2↔Held x.1.1 x.1.2 (aL w) y
theorem Ed:∀l:LS,tDs (l.map NK.s)=l.map PyData.str
 |[]=>rfl|x::l=>by show PyData.str x::tDs (l.map NK.s)=_;rw[Ed l];rfl
theorem je:∀l:List Pt,tDs (l.map λp=>NK.t [.s p.1,.s p.2])=l.map pr
 |[]=>rfl|x::l=>by show pr x::tDs (l.map λp=>NK.t [.s p.1,.s p.2])=_;rw[je l];rfl
theorem Ao:∀l:LS,nkds (l.map NK.s)=0
 |[]=>rfl|x::l=>by show max 0 (nkds (l.map NK.s))=0;rw[Ao l];rfl
theorem Eo:∀l:List Pt,nkds (l.map λp=>NK.t [.s p.1,.s p.2])<=1
 |[]=>Qt _|x::l=>by show max 1 (nkds (l.map λp=>NK.t [.s p.1,.s p.2]))<=1;have:=Eo l;omega
theorem HQ(es:List Pt)(sr:LS):UD true (AD es sr):=by refine⟨[.t (sr.map NK.s),.t (es.map λp=>NK.t [.s p.1,.s p.2])],?_,?_⟩;show _=PyData.tuple [.tuple (tDs (sr.map NK.s)),.tuple (tDs (es.map λp=>NK.t [.s p.1,.s p.2]))];rw[Ed,je];rfl;show max (nkds (sr.map NK.s)+1) (max (nkds (es.map λp=>NK.t [.s p.1,.s p.2])+1) 0)+1<=6;rw[Ao];have:=Eo es;omega
theorem l9{v:List Pt}{z:LS}(h:AD es sr=AD v z):es=v/\sr=z:=by injection h with h;injection h with h1 h2;injection h2 with h2 _;injection h1 with h1;injection h2 with h2;refine⟨(WT λx y e=>?_).mp h2,(WT λx y e=>?_).mp h1⟩;injection e with e;injection e with e1 e2;injection e2 with e2 _;injection e1 with e1;injection e2 with e2;exact QCX e1 e2;injection e
theorem Hj{v:LS}{Q:T->Prop}(hl:f.length<sizeLine)(h:cA (SZ f) (AD es sr)=none)(q:Q (NX (f++[((es,sr),v)]))):ue (NX f) (.d (AD es sr)) (.lst ((v.map PyData.str).map T.d)) Q:=by refine⟨HQ es sr,by unfold SZ;rw[QE];exact hl,?_⟩;show Q (IJ true (SZ f) (Lj f) (AD es sr) (.d (.list (ersT ((v.map PyData.str).map T.d)))));unfold IJ;rw[h,bB];unfold NX SZ Lj at q;rw[QO,QO]at q;exact q
theorem Ee{k:Nat}(h:cA (SZ f) (AD es sr)=some k):∃v,((es,sr),v)∈f/\(Lj f)[k]?=some (T.d (.list (v.map PyData.str))):=by
 have e:=BC h;unfold SZ at e;unfold Lj;rw[Qb]at e ⊢;cases z:f[k]? with|none=>rw[z]at e;cases e|some x=>rw[z]at e;obtain⟨g,y⟩:=l9 (Qk e);obtain⟨⟨a,b⟩,v⟩:=x;cases g;cases y;exact⟨v,qU z,rfl⟩
end
section
variable{Ψ:PEv}{E:XE}{ρ:kA}{K:TK}{M:List (T×Bool)->kA->Prop}{a b c i g:PX}{md:List Md}{m:Bool}{f:Kn}{es:List Pt}{sr:LS}{L:Bool->Prop}{R:T->Prop}
section
variable{u:List (Str×LS)}{w:Str}
theorem ud:NB .NotIn (.d (.tuple [.tuple (sr.map PyData.str),.tuple (es.map pr)])) (NX f) L=L (!(cA (SZ f) (AD es sr)).isSome):=by unfold NX;rw[JN];exact propext ⟨λh=>h.2,λh=>⟨HQ es sr,h⟩⟩
theorem As{v:LS}{k:Nat}(h:cA (SZ f) (AD es sr)=some k)(hv:(Lj f)[k]?=some (T.d (.list (v.map PyData.str))))(q:R (.d (.list (v.map PyData.str)))):VA (NX f) false (.d (.tuple [.tuple (sr.map PyData.str),.tuple (es.map pr)])) m R:=.inr ⟨true,_,_,k,_,rfl,HQ es sr,h,hv,q⟩
theorem iy:E8 (NX f) false Ψ b E ρ K=cB Ψ b E (lockA ρ) λy m _=>K y m ρ:=rfl
def Y0(u:List (Str×LS)):T:=.dct false (u.map λx=>.str x.1) (u.map λx=>T.d (.list (x.2.map PyData.str)))
theorem vq{v:LS}{Q:T->Prop}(hl:u.length<sizeLine)(h:w∉u.map λx=>x.1)(q:Q (Y0 (u++[(w,v)]))):ue (Y0 u) (.d (.str w)) (.d (.list (v.map PyData.str))) Q:=by refine⟨⟨w,rfl⟩,by rw[QE];exact hl,?_⟩;show Q (IJ false (u.map λx=>.str x.1) (u.map λx=>T.d (.list (x.2.map PyData.str))) (.str w) (.d (.list (v.map PyData.str))));unfold IJ;rw[jB.mpr λz=>h (by obtain⟨x,y,e⟩:=QV.mp z;injection e with e;exact QV.mpr ⟨x,y,e⟩)];unfold Y0 at q;rw[QO,QO]at q;exact q
theorem xq(h:w∈u.map λx=>x.1)(q:∀v,(w,v)∈u->R (.d (.list (v.map PyData.str)))):VA (Y0 u) false (.d (.str w)) m R:=by
 cases e:cA (u.map λx=>PyData.str x.1) (.str w) with
 |none=>obtain⟨x,l,j⟩:=QV.mp h;exact absurd (QV.mpr ⟨x,l,congrArg PyData.str j⟩) (jB.mp e)|some k =>
  have j:=BC e;rw[Qb]at j;cases z:u[k]? with|none=>rw[z]at j;cases j|some x=>rw[z]at j;have j:PyData.str x.1=.str w:=Qk j;injection j with j;obtain⟨y,v⟩:=x;cases j;exact .inr ⟨false,_,_,k,T.d (.list (v.map PyData.str)),rfl,⟨_,rfl⟩,e,by rw[Qb,z];rfl,q v (qU z)⟩
theorem Jy:E8 (Y0 u) false Ψ b E ρ K=cB Ψ b E (lockA ρ) λy m _=>K y m ρ:=rfl
theorem Nv{v:Bool}{mk:List Bool}{t:Str}{x:T}{z:CmpOp}{R:Option T->Prop}:mG Ψ E (v::mk) [t] (.nm 0) (.cmp z a c) g ρ x R=AN Ψ (.cmp z a c) E (some (.vz x)::uC (v::mk) (lockA ρ)) λk h=>if k=true then cB Ψ g E h λy n _=>nC y n (R (some y)) else R none:=rfl
end
end
section
variable{m:Str}{K:T->LT->Prop}
theorem gc{c a b:Prop}[Decidable c](h:c)(q:a):if c then a else b:=by rw[if_pos h];exact q
theorem L9{w:Wd}{ks:List Pt}{E:XE}(l:w.ps.length<=90)(q:K (.d (.tuple ((bH w ks m).map PyData.str))) []):EA CJ [.d (wD w),AI ks,.d (.str m)] K E:=⟨w,ks,m,rfl,l,q⟩
theorem A9{evs:List Evt}{h:LN}{E:XE}(l:h.length<=100)(a:∀n∈h,n<evs.length/\GC (uB evs n))(q:K (.d (.tuple ((lH evs h m).map pr))) []):EA HJ [.d (.list (evs.map jD)),.d (.list (h.map nD)),.d (.str m)] K E:=⟨evs,h,m,rfl,l,a,q⟩
def sU(w:Wd)(l h:LN)(m x:Str):Prop:=Held (lH w.es h m) (bH w (JB w.es l) m) (aL w) x
end
open Classical in
def im(w:Wd)(l h:LN)(x m:Str):Bool:=decide (sU w l h m x)
open Classical in
section
variable{Ψ:PEv}{Z:PEnds}{w:Wd}{l f:LN}{g:Kn}{i:List (Str×LS)}{m:Str}{o8 j o7:Option Sl}
theorem Vc(w:Wd)(l f:LN)(x m:Str):im w l f x m=true↔sU w l f m x:=by unfold im;exact decide_eq_true_iff
def zf(w:Wd)(l f:LN)(x:Str):List Pt:=(w.ms.filter (im w l f x)).map λm=>(x,m)
def xL(w:Wd)(l f:LN):List Pt:=w.ps.flatMap λp=>zf w l f p.1
def F8(w:Wd)(f:LN):Prop:=f.length<=100/\∀n∈f,n<w.es.length/\GC (uB w.es n)
def Mw(Q:T->LT->Prop):PEnds:={ nx:=λh=>xV (FA [3] h) (Q (.d .none)),rt:=λt h=>xV (FA [3] h) (Q t) }
noncomputable def K0(w:Wd)(l f:LN)(g:Kn)(i:List (Str×LS))(o6 o7 o8 j:Option Sl):kA:=[bD (wD w),some (.vz (.lst ((l.map nD).map T.d))),bD (.list (f.map nD)),oW (NX g),oW (AI (JB w.es l)),oW (Y0 i),o6,o7,o8,j]
def m9(w:Wd)(l f:LN)(m:Str):T:=.d (AD (lH w.es f m) (bH w (JB w.es l) m))
theorem yf{k:Nat}{v:LS}(hl:i.length<sizeLine)(y:m∉i.map λx=>x.1)(h:cA (SZ g) (AD (lH w.es f m) (bH w (JB w.es l) m))=some k)(hv:(Lj g)[k]?=some (T.d (.list (v.map PyData.str))))(q:Z.nx (K0 w l f g (i++[(m,v)]) (bD (.str m)) (some (.vz (m9 w l f m))) o8 j)):pF Ψ FC Z (K0 w l f g i (bD (.str m)) (some (.vz (m9 w l f m))) o8 j):=by delta K0 m9 AD;delta FC;simp_arith[↓iy];refine As h hv ?_;simp_arith[↓zA];exact vq hl y q
theorem Kh(w:Wd)(ks:List Pt)(m:Str):(bH w ks m).length<=w.ps.length:=by unfold bH;rw[QE];exact qG _ _
theorem Vk(evs:List Evt)(f:LN)(m:Str):(lH evs f m).length<=f.length:=by unfold lH;rw[QE];exact qG _ _
theorem uh(h:WOk w)(hv:F8 w f)(m:Str):ZG (lH w.es f m) (bH w (JB w.es l) m):=by constructor;intro s z;obtain⟨p,u,rfl⟩:=QV.mp z;exact h.po p (Qd.mp u).1;intro e v;obtain⟨n,y,rfl⟩:=QV.mp v;have y:=(Qd.mp y).1;obtain⟨a,t,x,b,o,k,q,e⟩:=hv.2 n y;have:=h.ev a;rw[e]at this ⊢;exact⟨h.nm this.1,h.nm this.2.1⟩
theorem Nu(F:Ψ.sp "seers_of"=CJ)(E:Ψ.sp "edges_of"=HJ)(r:Ψ.sp "holders_in"=GG)(a:WOk w)(hv:F8 w f)(hk:BK w g)(C:g.length<=20000)(hl:i.length<1000)(p:m∉i.map λx=>x.1)(q:∀h v,BK w h->h.length<=g.length+1->(∀y,y∈v↔sU w l f m y)->Z.nx (K0 w l f h (i++[(m,v)]) (bD (.str m)) (some (.vz (m9 w l f m))) o8 j)):pF Ψ iD Z (K0 w l f g i (bD (.str m)) o7 o8 j):=by
 have L:=a.pl;have J:=Kh w (JB w.es l) m;have I:=Vk w.es f m;have G:=hv.1;delta K0;delta iD;simp_arith[↓BU,↓vA (md:=[.uz,.vz]) F rfl rfl,↓vA (md:=[]) E rfl rfl,↓vA (md:=[]) r rfl rfl,↓mC,↓Cd,↓vr];refine L9 (by omega) ?_;simp_arith[↓zA];refine A9 hv.1 hv.2 ?_;simp_arith[↓ud];refine⟨by omega,?_⟩;cases e:cA (SZ g) (AD (lH w.es f m) (bH w (JB w.es l) m)) with
 |some k=>obtain⟨v,X,s⟩:=Ee e;refine bN (λz=>by cases z) ?_;exact yf (by omega) p e s (q g v hk (by omega) (hk _ X))|none =>
  refine gc rfl ?_;simp_arith[↓vA (md:=[]) r rfl rfl];refine J4 ⟨by omega,by omega,uh a hv m,by omega,a.pn⟩ λv b B=>?_;simp_arith[↓zA];refine Hj (by omega) e ?_;have A:cA (SZ (g++[((lH w.es f m,bH w (JB w.es l) m),v)])) (AD (lH w.es f m) (bH w (JB w.es l) m))≠none:=λz=>jB.mp z (QV.mpr ⟨_,QX _ (QJ.mpr rfl),rfl⟩);have o:BK w (g++[((lH w.es f m,bH w (JB w.es l) m),v)]):=λx u=>by rcases Qf.mp u with u|u;exact hk x u;rw[QJ.mp u];exact b
  cases n:cA (SZ (g++[((lH w.es f m,bH w (JB w.es l) m),v)])) (AD (lH w.es f m) (bH w (JB w.es l) m)) with|none=>exact absurd n A|some k=>obtain⟨Y,K,W⟩:=Ee n;exact yf (by omega) p n W (q _ Y o (by rw[QI];exact QZ _) (o _ K))
theorem K1{b:PT}{p:PSp}{N x:LS}{ds:LT}{Q:T->LT->Prop}(ρ:kA)(hl:ds.length=x.length)(hc:KB 0 p.md x.length=[3])(y:oB N p.md ds=ρ)(h:pF Ψ b (Mw Q) ρ):ds.length=x.length/\pF Ψ b (rD p x.length Q) (oB N p.md ds):=by
 have e:rD p x.length Q=Mw Q:=by unfold rD;rw[hc];rfl
 rw[e,y];exact⟨hl,h⟩
noncomputable def ZC:PSp where
 md:=[.uz,.yz,.uz,.chg]
 run:=λy Q _=>∃(w:Wd) (l f:LN) (g:Kn),y=[.d (wD w),.lst ((l.map nD).map T.d),.d (.list (f.map nD)),NX g]/\(WOk w/\l.length<=100/\∀n∈l,n<w.es.length)/\F8 w f/\(BK w g/\g.length<=10000)/\∀x,BK w x->x.length<=g.length+10->Q (.lst (((xL w l f).map pr).map T.d)) [NX x]
 mono:=λh _ z=>by obtain⟨w,l,f,g,e,a,b,c,q⟩:=z;exact⟨w,l,f,g,e,a,b,c,λx u v=>h _ _ (q x u v)⟩
theorem jY(h:WOk w)(l f:LN)(x:Str):(zf w l f x).length<=10:=by unfold zf;rw[QE];exact QU (qG _ _) h.ml
theorem Mu{h:List Pt}{o6:Option Sl}{p:Str×Int×Int×Int}(u:WOk w)(n:i.map (λx=>x.1)=w.ms)(b:∀x∈i,∀y,y∈x.2↔sU w l f x.1 y)(hl:h.length<=1000)(q:Z.nx (K0 w l f g i o6 o7 (oW (.lst (((h++zf w l f p.1).map pr).map T.d))) (bD (mI p)))):pF Ψ eD Z (K0 w l f g i o6 o7 (oW (.lst ((h.map pr).map T.d))) (bD (mI p))):=by
 have o:=u.ml;have k:=jY u l f p.1;delta K0;delta eD;simp_arith[↓c9];rw[<- oA PyData.str];refine nA (λm=>T.d (.str m)) (λm=>T.d (pr (p.1,m))) (im w l f p.1) w.ms [] _ (λm a R z=>?_) (by show 0+w.ms.length<=_;omega) ?_;simp_arith[↓Nv,↓BY,↓Jy];refine xq (n▸a) λv hv=>?_;have e:decide (p.1∈v)=im w l f p.1 m:=by rw[qC,decide_eq_true_iff];exact(b _ hv p.1).trans (Vc w l f p.1 m).symm
 simp_arith[HL,bJ,FB,true_or,e];split at z;rename_i c;rw[if_pos c];exact⟨by omega,z⟩;rename_i c;rw[if_neg c];exact z;rw[Qi,oA λm=>pr (p.1,m)];have e:((w.ms.filter (im w l f p.1)).map λm=>pr (p.1,m))=(zf w l f p.1).map pr:=by unfold zf;rw[Qa];rfl
 rw[e,<- QO,<- QO];exact⟨by rw[QE,QE,QE,QE];omega,q⟩
theorem Xb(O:Ψ.sp "seen_among"=FG)(M:Ψ.sp "seers_of"=CJ)(L:Ψ.sp "edges_of"=HJ)(J:Ψ.sp "holders_in"=GG)(ds Q E)(h:ZC.run ds Q E):ME Ψ JF ZC YJ aH ds Q:=by
 obtain⟨w,l,f,g,rfl,⟨o,hl,G⟩,hv,⟨hk,I⟩,q⟩:=h;have H:=o.ml;have S:=o.pl;refine K1 [bD (wD w),some (.vz (.lst ((l.map nD).map T.d))),bD (.list (f.map nD)),oW (NX g),none,none,none,none,none,none] rfl rfl rfl ?_;delta JF;simp_arith[↓BU,↓c9,↓vA (md:=[.uz,.yz]) O rfl rfl,↓mC,↓Cd];refine bS hl G ?_;simp_arith[↓c9];rw[<- oA PyData.str];refine CA (λm=>T.d (.str m)) (λr b=>∃u i a o7,i.map (λx=>x.1)++r=w.ms/\(BK w u/\u.length+r.length<=g.length+w.ms.length)/\(∀x∈i,∀y,y∈x.2↔sU w l f x.1 y)/\b=K0 w l f u i a o7 none none) ?_ ?_ w.ms _ ⟨g,[],none,none,rfl,⟨hk,QZ _⟩,(λx n=>by cases n),rfl⟩;rintro b ⟨u,i,a,o7,e,⟨W,s⟩,A,rfl⟩;have e:i.map (λx=>x.1)=w.ms:=by rw[<- e,qM]
 have s:u.length<=g.length+w.ms.length:=s;delta K0;simp_arith[↓UY];rw[<- oA mI];refine⟨by omega,?_⟩;refine CA (λp=>T.d (mI p)) (λr b=>∃k a o7 j,k++r.flatMap (λp=>zf w l f p.1)=xL w l f/\k.length+10 * r.length<=200/\b=K0 w l f u i a o7 (oW (.lst ((k.map pr).map T.d))) j) ?_ ?_ w.ps _ ⟨[],_,_,none,rfl,by show 0+10 * w.ps.length<=200;omega,rfl⟩;rintro b ⟨k,a,o7,j,X,_,rfl⟩;have X:k=xL w l f:=by rw[<- X];exact(qM k).symm
 subst X;delta K0;simp_arith[↓zA];exact q u W (by omega);rintro p r b N K ⟨k,a,o7,j,X,B,rfl⟩;have B:k.length+10 * (r.length+1)<=200:=B;have C:=jY o l f p.1;refine Mu o e A (by omega) (K _ ⟨k++zf w l f p.1,a,o7,_,?_,by rw[QI];omega,rfl⟩);rw[qB];exact X;rintro m r b N K ⟨u,i,a,o7,e,⟨W,s⟩,A,rfl⟩;have s:u.length+(r.length+1)<=g.length+w.ms.length:=s;have F:i.length+(r.length+1)=w.ms.length:=by rw[<- e,QI,QE];rfl
 have nd:=o.mn;rw[<- e]at nd;refine Nu M L J o hv W (by omega) (by omega) (λz=>(ql.mp nd).2.2 m z m QF rfl) λY v R g2 P=>K _ ⟨Y,i++[(m,v)],_,_,?_,⟨R,by omega⟩,?_,rfl⟩;rw[QO,qB];exact e;intro x n;rcases Qf.mp n with n|n;exact A x n;rw[QJ.mp n];exact P
end
end L2.L3.K42
namespace L2.L3
open PySem PySem.Spec PyProof.Rows PySem.W PySem.SeqAt
noncomputable def Gw(ks:List (Int×Int))(i j:Nat):Bool:=decide ((ks.getD i (0,0)).1<(ks.getD j (0,0)).1∨(ks.getD i (0,0)).1=(ks.getD j (0,0)).1/\(ks.getD i (0,0)).2<(ks.getD j (0,0)).2)
def Js{α:Type}(lt:Nat->Nat->Bool):KasT α->α
 | .ret a=>a|.ask i j k=>Js lt (k (lt i j))
def SR(ks:List (Int×Int))(n:Nat):Array Nat:=if n<2 then qA (Ql n) else Js (Gw ks) (kas_sort n)
theorem EB.ev{α:Type}{n:Nat}{P:α->Prop}(lt:Nat->Nat->Bool):∀{t:KasT α},EB n P t->P (Js lt t)
 | .ret _,h=>h|.ask i j k,⟨_,_,h⟩=>EB.ev (t:=k (lt i j)) lt (h _)
theorem EB.wpE{α:Type}{n:Nat}{P:α->Prop}{lt:Nat->Nat->Bool}{x:Nat->Nat->(Bool->Shared->Prop)->Shared->Prop}{Q:α->Shared->Prop}{s:Shared}(y:∀i j,i<n->j<n->∀C:Bool->Shared->Prop,C (lt i j) s->x i j C s):∀{t:KasT α},EB n P t->Q (Js lt t) s->t.kasWp x Q s
 | .ret _,_,q=>q|.ask i j _,⟨h1,h2,h⟩,q=>y i j h1 h2 _ (EB.wpE y (h _) q)
def ZD(h:Heap)(v:Value)(p:Int×Int):Prop:=∃a o n t u,v=.ref a/\h.get? a=some o/\o.cls=.type "tuple"/\o.data=.seq (qA [Value.int p.1 t,Value.int p.2 u]) n
theorem ZD.keep{h h':Heap}{v:Value}{x:Int×Int}{c:Addr}{u:Obj}(e:h.get? c=some u)(hc:u.cls≠.type "tuple")(k:∀b o,b≠c->h.get? b=some o->h'.get? b=some o)(t:ZD h v x):ZD h' v x:=by obtain⟨a,o,n,t,r,f,y,w,d⟩:=t;exact⟨a,o,n,t,r,f,k _ _ (λz=>by rw[z,e]at y;cases y;exact hc w) y,w,d⟩
section
variable{prog:Program}{w:World}{A:Around}{E:gC}{s:Shared}
section
variable{vs:LW}{r f:Addr}{a b c:Int}{t u v:Tok}{n:Nat}{kz:List (Int×Int)}
theorem Vj{v u:Value}{x y:Int×Int}{Q:Bool->Shared->Prop}(hv:ZD s.heap v x)(z:ZD s.heap u y)(q:Q (decide (x.1<y.1∨x.1=y.1/\x.2<y.2)) s):wpAny (model prog w) A (keyLt' (tuples' true) v u) Q E s:=by obtain⟨a,o,n,t,r,rfl,g,_,j⟩:=hv;obtain⟨b,p,X,l,m,rfl,k,_,i⟩:=z;refine kat_lt g j k i (kat_cons (QAn ?_));by_cases e:x.1=y.1;rw[e,beq_self_eq_true];refine kat_yes (kat_cons (QAn ?_));by_cases h:x.2=y.2;rw[h,beq_self_eq_true];refine kat_yes (kat_nil ?_);rw[show decide (x.1<y.1∨x.1=y.1/\x.2<y.2)=false from dF (by omega)]at q;exact q;rw[beq_false_of_ne h];refine kat_no (kat_one _ _ (PyProof.Rows.lt_int ?_));rw[show decide (x.1<y.1∨x.1=y.1/\x.2<y.2)=decide (x.2<y.2) from decide_eq_decide.mpr (by omega)]at q;exact q;rw[beq_false_of_ne e];refine kat_no (oneLt_int ?_);rw[show decide (x.1<y.1∨x.1=y.1/\x.2<y.2)=decide (x.1<y.1) from decide_eq_decide.mpr (by omega)]at q;exact q
theorem T6{ns:List (Int×Int)}{Q:SortKind->Shared->Prop}(l:Paired (ZD s.heap) vs ns)(K:2<=vs.length)(q:Q (tuples' true) s):wpAny (model prog w) A (keyKind' vs.toArray) Q E s:=by
 have key:∀{vs:LW}{ns:List (Int×Int)},Paired (ZD s.heap) vs ns->∃fs,KatTups s.heap vs fs/\fs.length=vs.length/\∀f∈fs,∃x t,f=.int x t:=by
  intro vs ns h;induction h with
  |nil=>exact⟨[],.nil,rfl,λ_ z=>(nomatch z)⟩
  |@cons v x Z Y h _ e=>obtain⟨fs,j,i,g⟩:=e;obtain⟨a,o,n,t,r,rfl,p,hc,X⟩:=h;refine⟨.int x.1 t::fs,.cons (f:=.int x.1 t) p hc X (by simp) j,by rw[QM,QM,i],λf m=>?_⟩;rcases QL.mp m with rfl|z;exact⟨_,_,rfl⟩;exact g f z
 obtain⟨fs,k,W,y⟩:=key l;exact kat_kind (T:=.type "int") k (by omega) (λv hv=>by obtain⟨x,t,rfl⟩:=y v hv;exact .of_pure rfl) (by decide) q
theorem NH{α x:Type}{R:α->x->Prop}{d:α}{e:x}:∀{l:List α}{m:List x},Paired R l m->∀i,i<l.length->R (l.getD i d) (m.getD i e)
 |_,_,.nil,i,h=>absurd h (Nat.not_lt_zero _)|_,_,.cons r _,0,_=>r|_,_,.cons _ t,i+1,h=>NH t i (wk h)
theorem yL{α x:Type}{R:α->x->Prop}:∀{l z:List α}{m y:List x},Paired R l m->Paired R z y->Paired R (l++z) (m++y)
 |_,_,_,_,.nil,h=>h|_,_,_,_,.cons r t,h=>.cons r (yL t h)
theorem uO{Q:LW->Shared->Prop}(Y:A.handled=none)(q:IsRange s.heap r a b c t u v)(x:QBT a b c=true)
  (X:WK a b c=n) (z:n<=2 ^ 24)
  (h:∀h' g y,(∀b o,s.heap.get? b=some o->h'.get? b=some o)->s.heap.objs.size<h'.objs.size->ItemsOf (λi v=>∃t,v=.int (a+i * c) t) y n->Q y.toList { s with heap:=h',toks:=g }) :
  wpAny (model prog w) A (collect (.ref r)) Q E s:=by
 unfold collect;refine QC (wpAny_runValue (W4 F.entry_proto_collect ?_));rw[wx F.plain_proto_collect _];show wpAny _ A.in1 (newList [] >>= λl=>again (.builtin "list.__iadd__" ⟨[l,.ref r],[]⟩)) _ _ s;refine QC (qL ?_);refine QK ⟨QAg QB1 _,W4 F.entry_list_iadd ?_⟩;rw[wx QB1 _];have Z:(s.heap.push { cls:=.type "list",data:=.seq ([]:LW).toArray }).get? s.heap.objs.size=some { cls:=.type "list",data:=.seq #[] }:=QR _ rfl;show wpAny _ A.in1 (wt (.ref s.heap.objs.size) (.ref r) (.ref s.heap.objs.size)) _ _ _;refine wpAny_extend_range (R:=λr j=>match r with | .ok (.ret v)=>wpAny (model prog w) A (match v with | .ref a=>(do let o <- load a;match o.data with | .seq m _=>pure m.toList|_=>unsupported "internal:collect")|_=>unsupported "internal:collect") Q E j | .ok _=>False | .error e=>E e j) (s:={ s with heap:=s.heap.push { cls:=.type "list",data:=.seq ([]:LW).toArray } }) Y (QH _ q) x X z _ _ _ Z λh' g y W p k it=>?_;show wpAny _ A (load s.heap.objs.size >>= _) _ _ _;refine QC (wpAny_load k ?_);exact QK (h h' g y (λb o e=>p b o (Qj (QT e)) (QH _ e)) (QT k) it)
theorem Uj{a:Addr}{P:PySem.Fin->Shared->Prop}(ho:s.heap.get? a=some (seqObj "list" vs.toArray n))(h64:vs.length<64)(hl:kz.length=vs.length)
  (hf:∀(h:Heap) (g:Nat),(∀b o,b≠a->s.heap.get? b=some o->h.get? b=some o)->∀(i:Nat) (x:Value) (p:Int×Int),vs[i]?=some x->kz[i]?=some p->∀C:Value->Shared->Prop,
   (∀Z m k,(∀b o,h.get? b=some o->Z.get? b=some o)->ZD Z k p->C k { s with heap:=Z,toks:=m })->wpAny (model prog w) A (call (.ref f) [x]) C (λ_ _=>False) { s with heap:=h,toks:=g })
  (k:∀(p:Array Nat) (h':Heap) (g c:Nat),Pm vs.length p->p=SR kz vs.length->(∀b o,b≠a->s.heap.get? b=some o->h'.get? b=some o)->h'.get? a=some (seqObj "list" (p.toList.map λi=>vs.getD i Value.none).toArray c)->P (.done (.ret .none)) { s with heap:=h',toks:=g }) :
  wpAny (model prog w) A (ksk_tree a (.ref f) false) P E s:=by
 have ha:a<s.heap.objs.size:=QT ho;have s1:=Q1 s.heap a (Qz λ_=>(#[]:Array Value));obtain⟨G,ho1⟩:∃G,(s.heap.update a (Qz λ_=>(#[]:Array Value))).get? a=some (seqObj "list" #[] G):=⟨_,W5 ho λ_=>#[]⟩
 generalize hH:((s.heap.update a (Qz λ_=>(#[]:Array Value))).push (seqObj "tuple" vs.toArray 0))=hT;have S:hT.objs.size=s.heap.objs.size+1:=by rw[<- hH,size_push',QCH]
 have kS0:(hT.push (seqObj "list" #[] 0)).get? hT.objs.size=some (seqObj "list" #[] 0):=QR _ rfl;have a0:(hT.push (seqObj "list" #[] 0)).get? a=some (seqObj "list" #[] G):=QH _ (by rw[<- hH];exact QH _ ho1);have kp0:∀b o,b≠a->s.heap.get? b=some o->(hT.push (seqObj "list" #[] 0)).get? b=some o:=λb o hb e=>QH _ (by rw[<- hH];exact QH _ ((s1.2 b hb).trans e));have naK:a≠hT.objs.size:=by rw[S];exact Qj (ww ha)
 unfold ksk_tree;refine QC (QB7 ho rfl (QC (WN ho rfl ?_ (by rw[QN];omega) (Qt _))));refine QC (QBR ho1 rfl (QC (QBK ?_ (by show vs.length<=_;omega))));refine QC (QAh (qp ?_) (Qt _));rw[hH];generalize hK:hT.objs.size=kS at *;have fin:∀(y:LW) (e:Nat) (h:Heap) (g:Nat) (st:SortSt) (p:Array Nat),y.length=vs.length->h.get? kS=some (seqObj "list" (qA y) e)->h.get? a=some (seqObj "list" #[] G)->(∀b o,b≠a->s.heap.get? b=some o->h.get? b=some o)->Pm vs.length p->p=SR kz vs.length ->
   (arrOf st).map (·.2)=qA (p.toList.map λi=>vs.getD i Value.none)->failedOf st=none->wpAny (model prog w) A (ksk_tail a false G (.ref kS) st) P E { s with heap:=h,toks:=g }:=by
  intro y e h g st p Y hk l I pm H hout N;have t1:=Q1 h kS (Qz λ_=>(#[]:Array Value));have R:=(t1.2 a naK).trans l;have t2:=Q1 (h.update kS (Qz λ_=>(#[]:Array Value))) a (Qz λ_=>qA (p.toList.map λi=>vs.getD i Value.none));have hps:(p.toList.map λi=>vs.getD i Value.none).length=vs.length:=by rw[QE,(qS.mp pm).length_eq];simp
  unfold ksk_tail;dsimp only;rw[hout];refine QC (WN hk rfl ?_ (by rw[QN,Q2];omega) (Qt _));refine QC (QCO (QC (QBR R rfl (QC (WN R rfl ?_ (Qt _) (by simp only[Qs,if_false];rw[QN,Q2];omega))))));rw[N];simp only[bne_self_eq_false,Qs,if_false];refine QK (k p _ g _ pm H (λb o hb e=>?_) (W5 R λ_=>qA (p.toList.map λi=>vs.getD i Value.none)));have O:b≠kS:=λz=>by have:=QT e;rw[z,S]at this;exact absurd this (Nat.not_lt.mpr (wH _))
  exact(t2.2 b hb).trans ((t1.2 b O).trans (I b o hb e))
 have L:∀(y:LW) (e:Nat) (h:Heap) (g:Nat),Paired (ZD h) y kz->h.get? kS=some (seqObj "list" (qA y) e)->h.get? a=some (seqObj "list" #[] G)->(∀b o,b≠a->s.heap.get? b=some o->h.get? b=some o) ->
   wpAny (model prog w) A (ksk_end a false vs.toArray G (.ref kS) (qA y)) P E { s with heap:=h,toks:=g }:=by
  intro y e h g B hk l I;have Y:y.length=vs.length:=(qH B).trans hl;unfold ksk_end;dsimp only;simp only[Qs,if_false];by_cases h2:vs.length<2;have F:vs.toArray.size<2:=by rw[QN];exact h2
  rw[if_pos F,if_pos F];refine QC (QK ?_);rw[QCR];refine QC (QK ?_);refine fin y e h g _ (qA (Ql vs.length)) Y hk l I (QCQ _) (if_pos h2).symm ?_ rfl;show((qA y).zip vs.toArray).map (·.2)=_;rw[MO];apply w4.mp;simp[w6,Y];have F:¬ vs.toArray.size<2:=by rw[QN];exact h2
  rw[if_neg F,if_neg F];refine QC (T6 (s:={ s with heap:=h,toks:=g }) B (by omega) ?_);have tree:(kas_sort vs.length).kasWp (kas_ask prog w A (tuples' true) y) (λp W=>W={ s with heap:=h,toks:=g }/\Pm vs.length p/\p=SR kz vs.length) { s with heap:=h,toks:=g } :=
   EB.wpE (lt:=Gw kz) (λi j hi hj C hC=>Vj (s:={ s with heap:=h,toks:=g }) (NH B i (by omega)) (NH B j (by omega)) hC) (VN (by omega)) ⟨rfl,(VN (by omega)).ev _,(if_neg h2).symm⟩
  refine QC (qw (kat_run (Q:=λK W=>∃p:Array Nat,arrOf K=p.map (kas_item ((qA y).zip vs.toArray))/\failedOf K=none/\W={ s with heap:=h,toks:=g }/\Pm vs.length p/\p=SR kz vs.length) Y (by omega) h64 (λp K W _ a2 a3 a4=>⟨p,a2,a3,a4⟩) tree) ?_ λ_ _ x=>x);rintro⟨⟨⟩,K⟩ W ⟨p,har,N,rfl,pm,H⟩;exact fin y e h g K p Y hk l I pm H (kat_snds Y har) N
 unfold ksk_rest;refine QC (QBv ?_);rw[List.forIn_toArray];refine QC (ksk_fold (λj W=>∃(y:LW) (e:Nat) (h:Heap) (g:Nat),W={ s with heap:=h,toks:=g }/\Paired (ZD h) y (kz.take j)/\h.get? kS=some (seqObj "list" (qA y) e)/\h.get? a=some (seqObj "list" #[] G)/\(∀b o,b≠a->s.heap.get? b=some o->h.get? b=some o)/\j<=vs.length) vs 0 _ ⟨[],0,_,s.toks,rfl,.nil,kS0,a0,kp0,Qt _⟩ (λj x W hx hI=>?_) λW hI=>?_);obtain⟨y,e,h,g,rfl,B,hk,l,I,jl⟩:=hI;rw[Wc]at B jl ⊢;have jv:j<vs.length:=(Qg.mp hx).1;have hkl:y.length=j:=by rw[qH B,qJ];omega
 have hzj:kz[j]?=some (kz[j]'(by omega)):=Qm _;refine QC (Wv (qw (hf h g I j x _ hx hzj (λJ W=>∃Z m,W={ s with heap:=Z,toks:=m }/\(∀b o,h.get? b=some o->Z.get? b=some o)/\ZD Z J (kz[j]'(by omega))) λZ m J X ka=>⟨Z,m,rfl,X,ka⟩) (λJ W hc=>?_) λ_ _ z=>z.elim));obtain⟨Z,m,rfl,X,ka⟩:=hc;have ea:(qA y).push J=qA (y++[J]):=by simp
 have s5:=Q1 Z kS (Qz (·.push J));have M:=X _ _ hk;dsimp only;refine QC (WN M rfl ?_ (by rw[QN,Q2];omega) (QU (wa (Array.size_push ..)) (by rw[QN,Q2];omega)));refine QK ⟨rfl,y++[J],_,_,m,rfl,?_,by rw[<- ea];exact W5 M (·.push J),(s5.2 a naK).trans (X _ _ l),λb o hb q=>?_,jv⟩;have H:∀{v:Value}{x:Int×Int},ZD Z v x->ZD (Z.update kS (Qz (·.push J))) v x:=λt=>t.keep M (by show Value.type "list"≠Value.type "tuple";decide) λb o hb q=>(s5.2 b hb).trans q;rw[List.take_succ,hzj];exact yL (L2.Paired.mapP B λ_ _ ⟨a1,o1,n1,t1,r1,G,g1,c1,d1⟩=>H ⟨a1,o1,n1,t1,r1,G,X _ _ g1,c1,d1⟩) (.cons (H ka) .nil);have O:b≠kS:=λz=>by have:=QT q;rw[z,S]at this;exact absurd this (Nat.not_lt.mpr (wH _))
 exact(s5.2 b O).trans (X _ _ (I b o hb q));obtain⟨y,e,h,g,rfl,B,hk,l,I,_⟩:=hI;rw[Wc,<- hl,List.take_length]at B;exact QC (QB7 hk rfl (L y e h g B hk l I))
theorem U9{Q:gC}(S:A.handled=none)(N:IsRange s.heap r a b c t u v)(y:QBT a b c=true)
  (R:WK a b c=n) (h64:n<64) (hl:kz.length=n)
  (H:∀(Y:Heap) (z:Nat),(∀b o,s.heap.get? b=some o->Y.get? b=some o)->∀(i:Nat) (Z:Tok) (p:Int×Int),kz[i]?=some p->∀C:Value->Shared->Prop,
   (∀I W k,(∀b o,Y.get? b=some o->I.get? b=some o)->ZD I k p->C k { s with heap:=I,toks:=W })->wpAny (model prog w) A.in1.in1 (call (.ref f) [Value.int (a+i * c) Z]) C (λ_ _=>False) { s with heap:=Y,toks:=z })
  (k:∀(p:Array Nat) (vs:LW) (D:Addr) (h':Heap) (z e:Nat),Pm n p->p=SR kz n->(∀b o,s.heap.get? b=some o->h'.get? b=some o)->s.heap.objs.size<=D->vs.length=n->(∀(i:Nat) x,vs[i]?=some x->∃t,x=Value.int (a+i * c) t) ->
   h'.get? D=some (seqObj "list" (p.toList.map λi=>vs.getD i Value.none).toArray e)->Q (.ref D) { s with heap:=h',toks:=z }) :
  wpAny (model prog w) A (call (.builtin "sorted") [.ref r] [(QY "key",.ref f)]) Q E s:=by
 refine call_function_entry_kw kind_sorted plain_sorted entry_sorted (ksk_s1 _ _) ?_;unfold Builtin.«sorted»;refine QC (m:=checkCount "sorted" 1 1 _) (QK ?_);refine QC (uO S N y R (by omega) λg K h l G it=>?_);have M:h.toList.length=n:=by rw[Qx];exact it.1
 refine QC (QAh ?_ (by rw[Q2];omega));have X:(g.push (seqObj "list" h.toList.toArray 0)).get? g.objs.size=some (seqObj "list" h.toList.toArray 0):=QR _ rfl;have j:∀b o,s.heap.get? b=some o->(g.push (seqObj "list" h.toList.toArray 0)).get? b=some o:=λb o q=>QH _ (l b o q);refine QC (qp (wpAny_call_entry_kw slot_list_sort ⟨_,X,rfl⟩ entry_list_sort ?body (ksk_l1 _ _)))
 case body =>
  show wpAny (model prog w) A.in1.in1 (Builtin.«list.sort» ⟨[.ref g.objs.size],[(QY "key",.ref f)]⟩) _ _ _;rw[ksk_t1];have nD:∀b o,s.heap.get? b=some o->b≠g.objs.size:=λb o q=>Qj (QT (l b o q));refine Uj (s:={ s with heap:=g.push (seqObj "list" h.toList.toArray 0),toks:=K }) (kz:=kz) X (by omega) (by omega) (λY z B i x p F O C hC=>?_) λp h' z c L J B P=>⟨_,rfl,QK ⟨_,rfl,?_⟩⟩
  obtain⟨Z,rfl⟩:=it.2 i x (by rw[<- F,We]);exact H Y z (λb o q=>B b o (nD b o q) (j b o q)) i Z p O C hC;rw[M]at L J;exact k p h.toList _ h' z c L J (λb o q=>B b o (nD b o q) (j b o q)) (QA0 G) M (λi x F=>it.2 i x (by rw[<- F,We])) P
end
end
section
variable{U Z p2 W V Y X K:Pos}
noncomputable abbrev P6(U Z p2 W V Y X:Pos):Expr:=.Tuple [.Subscript (.Subscript (.Name "events" U) (.Name "number" Z) p2) (.Constant (.int 1) 0 W) V,.Name "number" Y] 0 X
noncomputable abbrev uc(K:Pos):Arguments:={ posonlyargs:=[],args:=[{ arg:="number",annotation:=none,pos:=K }],vararg:=none,kwonlyargs:=[],kw_defaults:=[],kwarg:=none,defaults:=[] }
noncomputable abbrev FV:Scope:={ kind:=.function,names:=[(QY "number",.local),(QY "events",.free)],isGenerator:=false,isCoroutine:=false,more:=[] }
variable{prog:Program}{w:World}{A:Around}{E:gC}{s:Shared}
section
variable{h h':Heap}{y n:Addr}{i:Nat}{g:Int}{l:Tok}
def rO(h:Heap)(y:Addr)(i:Nat)(g:Int):Prop:=∃(x z:Array Value) (t:Addr) (u:Tok),(h.IsList y x∨IsTup h y x)/\x[i]?=some (.ref t)/\i<2 ^ 62/\x.size<2 ^ 62/\IsTup h t z/\z[1]?=some (.int g u)/\z.size<2 ^ 62
theorem rO.keepB{P:Addr}{m:Array Value}(p:h.get? P=some (tabObj m))(k:∀b o,b≠P->h.get? b=some o->h'.get? b=some o)(x:rO h y i g):rO h' y i g:=by
 obtain⟨f,j,t,u,a,b,c,q,⟨o,d⟩,e⟩:=x;have v:∀{b:Addr}{o:Obj}{T:String},h.get? b=some o->o.cls=.type T->b≠P:=λe c z=>by rw[z,p]at e;cases e;cases c
 refine⟨f,j,t,u,?_,b,c,q,⟨o,k _ _ (v d.1 d.2.1) d.1,d.2⟩,e⟩;rcases a with⟨o,a⟩| ⟨o,a⟩
 exact .inl ⟨o,k _ _ (v a.1 a.2.1) a.1,a.2⟩;exact .inr ⟨o,k _ _ (v a.1 a.2.1) a.1,a.2⟩
theorem rO.keep(z:∀b o,h.get? b=some o->h'.get? b=some o)(x:rO h y i g):rO h' y i g:=by
 obtain⟨v,k,t,u,a,b,c,f,⟨o,d⟩,e⟩:=x;refine⟨v,k,t,u,?_,b,c,f,⟨o,z _ _ d.1,d.2⟩,e⟩;rcases a with⟨o,a⟩| ⟨o,a⟩
 exact .inl ⟨o,z _ _ a.1,a.2⟩;exact .inr ⟨o,z _ _ a.1,a.2⟩
theorem N6{env:Env}{L:Addr}{m:Str->Option Value}{Q:gC}(hk:env.scope=FV)(G:env.cells.lookup (QY "events")=some n)(hc:s.heap.IsCell n (some (.ref y)))
  (S:env.locals=L) (P:s.heap.Ns L m) (R:m "number"=some (.int i l)) (F:rO s.heap y i g)
  (q:∀J u,Q (.ref s.heap.objs.size) { s with heap:=s.heap.push { cls:=.type "tuple",data:=.seq (qA [Value.int g u,Value.int i l]) },toks:=J }) :
  wpAny (model prog w) A (eval (P6 U Z p2 W V Y X) env) Q E s:=by
 have N:env.kindOf "number"=some .local:=by show env.scope.names.lookup _=_;rw[hk];rfl
 have O:env.kindOf "events"=some .free:=by show env.scope.names.lookup _=_;rw[hk];rfl
 have k:env.scope.kind=.function:=by rw[hk]
 obtain⟨C,B,t,u,a,b,c,c2,d,e,c3⟩:=F;subst S;have v:∀{p:Pos}{Q:gC}(z:Shared),z.heap=s.heap->Q (.int i l) z->wpAny (model prog w) A (eval (.Name "number" p) env) Q E z:=λz I q=>QA9 (QBA k N (by rw[I];exact P) R q) (by decide);refine QBO ?_;show wpAny _ _ (spliced ((false,eval (.Subscript (.Subscript (.Name "events" U) (.Name "number" Z) p2) (.Constant (.int 1) 0 W) V) env)::backTo X (starEach [.Name "number" Y] env))) _ _ s;refine wK (QBr (QBr (QA9 (QBN k O G hc (v _ rfl ?_) (by decide)) (by decide))));have o:(0:Int)<=(i:Int):=QBm i;have f:(i:Int)<2 ^ 63:=by omega (config:={})
 have M:∀{Q:gC},Q (.ref t) s->wpAny (model prog w) A (subscriptTail (.Name "events" U) (.Name "number" Z) (.ref y) (.int i l)) Q E s:=λ{Q} q=>by rcases a with a|a;exact item_listR a o f (by simpa using b) q;have I:i<C.size:=(QAC.mp b).1;exact qi (x:=.ref t) a.typeIs QAD.lookup (QBg (j:=i) (Q:=λr z=>r=.ref t/\Q r z) a (by omega (config:={})) f (by rw[QAe o (by omega (config:={}))];simp) b ⟨rfl,q⟩)
 refine M (QBc ?_);have H:1<B.size:=(QAC.mp e).1;refine qi (x:=.int g u) (s:={ s with toks:=s.toks+1 }) (show IsTup s.heap t B from d).typeIs QAD.lookup (QBg (j:=1) (show IsTup s.heap t B from d) (by decide) (by decide) (by rw[QAe (by decide) (by omega (config:={}))];rfl) e ⟨rfl,?_⟩);show wpAny _ _ (spliced ((false,eval (.Name "number" Y) env)::backTo X (starEach [] env))) _ _ _;exact wK (v _ rfl (wu ⟨by rw[Q2];show 2<=_;decide,q _ _⟩))
theorem O6{f L:Addr}{z:Str}{N I:Value}{C:gC}(j:A.depth<recursionLimit)(P:s.heap.get? f=some (kla_obj "<lambda>" z (uc K) (P6 U Z p2 W V Y X) FV [(QY "events",n)] N L I))
  (F:s.heap.CodeRec (.ref L) z) (r:s.heap.NoLimit) (hc:s.heap.IsCell n (some (.ref y))) (B:rO s.heap y i g)
  (k:∀G p v,(∀b o,s.heap.get? b=some o->G.get? b=some o)->ZD G v (g,(i:Int))->C v { s with heap:=G,toks:=p }) :
  wpAny (model prog w) A (call (.ref f) [.int i l]) C E s:=by
 refine wpAny_call (kla_callFunE j P rfl rfl rfl rfl F ?_);show wpAny _ _ (pure [(QY "number",Value.int i l)]) _ _ _;refine QK (QBB (show ∀x∈FV.names,x.2≠NameKind.cell by decide) (by intro x O;rcases QJ.mp O with rfl;rfl) (λJ q m=>⟨r.fresh _ m,kla_codeExpr ?_⟩) rfl);have a:∀b o,s.heap.get? b=some o->J.get? b=some o:=λb o e=>m.extBut b o (Qj (QT e)) (QH _ e);refine N6 (s:={ s with heap:=J,toks:=s.toks+1 }) rfl rfl (hc.keeps a) rfl q rfl (B.keep a) λM u=>?_;exact k _ M _ (λb o e=>QH _ (a b o e)) ⟨_,_,_,_,_,rfl,QR _ rfl,rfl,rfl⟩
end
end
theorem DW{pos:Pos}{a b:Int}{c y:Value}(l:LW)(h:TriplesOk l)(g:codeAmong pos (l++[rawInt a,rawInt b,c])=some y):codeAmong pos l=some y∨y=c:=by
 fun_induction TriplesOk l with
 |case1=>right;have g:codeAmong pos [rawInt a,rawInt b,c]=some y:=g;unfold rawInt codeAmong at g;split at g;exact(Qk g).symm;cases g|case2 i t f u x v w=>simp only[QAk,codeAmong]at g ⊢;split at g;rename_i z;rw[if_pos z];exact .inl g;rename_i z;rw[if_neg z];exact w h g|case3 l e k=>exact h.elim
section
variable{X:Cx}{h:OB}{σ:St}{H:Hp}{s:Shared}
theorem _root_.L2.Inv.tabbed{P x:Addr}{q:Str}{y:Array Value}{K W:Int}{h':Heap}{t':Nat}(I:Inv X h σ H s)(m:H P=some (.tbl q))(N:s.heap.get? P=some (tabObj y))(A:TriplesOk y.toList)(p:∀pos l,codeAmong pos y.toList=some l->∃c,l=.ref c/\H c=some (.own P)/\s.heap.CodeRec l q)
  (a:W0 P s.heap h') (i:s.heap.objs.size<=x) (B:h'.CodeRec (.ref x) q) (f:h'.get? P=some (tabObj (y++#[rawInt K,rawInt W,.ref x]))):H x=none/\Inv X h σ (DA H x (.own P)) { s with heap:=h',toks:=t' }:=by
 have C:H x=none:=I.hok.fresh i;have w:∀b o,H b=some o->b≠x:=λb o e z=>by rw[z,C]at e;cases e
 have Z:∀b,H b=none->b≠P:=λb e z=>by rw[z,m]at e;cases e
 refine⟨C,I.un ⟨λb o e n _ _=>a b o (Z b n) e,λb o e n _ _=>⟨o.slots,a b o (Z b n) e⟩,λb o e n _=>?_,λb o e _=>?_,λb F e=>?_,λb o u e=>?_,λb q e=>?_⟩ λb u e=>?_⟩;rw[xA (Qj (Qo (QT e) i))];exact n;by_cases hb:b=P
 ·exact⟨_,hb▸f⟩
 exact⟨o,a b o hb e⟩;rw[xA (w b _ e)];exact e;rw[xA (w b _ e)];exact e;rw[xA (w b _ e)];exact e;by_cases hb:b=x
 ·subst hb
  rw[iA]at e;cases e;obtain⟨c,o,Y,t,M,L,_⟩:=B;cases M;exact⟨o,L⟩
 rw[xA hb]at e;by_cases j:b=P;subst j;rw[m]at e;cases e;refine⟨_,f,?_,λpos l g=>?_⟩;simpa using TriplesOk_snoc K W _ y.toList A;rcases DW y.toList A (by simpa using g) with g|rfl
 ·obtain⟨c,rfl,o,O,ob,Y,G,E,J,r⟩:=p pos l g
  cases E;refine⟨c,rfl,by rw[xA (w c _ o)];exact o,c,ob,Y,G,rfl,a _ _ (λz=>?_) J,r⟩;rw[z,m]at o;cases o
 exact⟨x,rfl,iA,B⟩;refine(I.hok b u e).stay (λd v k g=>a d v (λz=>?_) g) (λd g=>by rw[xA (w d _ g)];exact g) λd F g=>by rw[xA (w d _ g)];exact g
 rcases k with k|k;exact j (k.symm.trans z);rw[z,m]at k;cases k
end
def Bw(K:QA)(H:Hp)(xs:LV)(kz:List (Int×Int)):Prop:=kz.length=xs.length/\∀(j:Nat) p,kz[j]?=some p->p.2=j/\∃t h,xs[j]?=some (.ref t)/\nE K H t h/\h[1]?=some (.int p.1)
noncomputable def Zw(K:QA)(P:Addr)(i:Nat):TE:=λz H Q=>∃ev h y,z[i]?=some (some (.ref ev))/\(pC K H ev h∨nE K H ev h)/\Bw K H h y/\h.length<64 /\
 ∀(p:Array Nat) x l,Pm h.length p->p=SR y h.length->(x=H∨∃c,H c=none/\x=DA H c (.own P))->x l=none->Q (.ref l) (DA x l (.lst (p.toList.map λ(i:Nat)=>V.int i)))
section
variable{X:Cx}{J G p2 F E B W U Z S M Y g d a O L:Pos}
section
variable{x:OB}{σ:St}{H:Hp}{s:Shared}{y:Addr}{kz:List (Int×Int)}{i:Nat}{q:Str}
theorem fq{xs:LV}(I:Inv X x σ H s)(k:pC X.K H y xs∨nE X.K H y xs)(C:Bw X.K H xs kz):∀(j:Nat) p,kz[j]?=some p->rO s.heap y j p.1:=λj p N=>by obtain⟨_,t,ys,f,Q,P⟩:=C.2 j p N;have hz:=Q2;obtain⟨h,n,w,R⟩:=I.tuple Q;obtain⟨u2,o,A⟩:=n.get P;obtain⟨m,rfl⟩:=A;have l2:=n.length;have jl:j<xs.length:=(Qg.mp f).1;rcases k with k|k;obtain⟨v,r,b,z⟩:=I.list k;obtain⟨u,e,q⟩:=r.get f;cases q;have l:=r.length;exact⟨v.toArray,h.toArray,t,m,.inl b.isList,by simpa using e,by omega,by rw[QN];omega,w,by simpa using o,by rw[QN];omega⟩;obtain⟨v,r,b,z⟩:=I.tuple k;obtain⟨u,e,q⟩:=r.get f;cases q;have l:=r.length;exact⟨v.toArray,h.toArray,t,m,.inr b,by simpa using e,by omega,by rw[QN];omega,w,by simpa using o,by rw[QN];omega⟩
theorem jd(I:Inv X x σ H s)(w:X.N[i]?=some (QY "events"))(h:X.env.scope.names.lookup (QY "events")=some .cell)(hv:σ[i]?=some (some (.ref y))):∃v,X.env.cells.lookup (QY "events")=some v/\s.heap.IsCell v (some (.ref y)):=by
 obtain⟨m,_,hl⟩:=I.loc;obtain⟨u,r,l⟩:=hl i "events" _ w hv (.inr (.inl h));cases r;rcases l with⟨k,_⟩| ⟨_,c,e,z⟩
 have k:X.env.scope.names.lookup (QY "events")=some .local:=k;rw[h]at k;cases k;exact⟨c,e,z⟩
theorem DK{n:Nat}{vs:LW}(hv:∀i,i<n->∃t,vs.getD i Value.none=.int (i:Int) t):∀l:LN,(∀i∈l,i<n)->lA (l.map λ(i:Nat)=>V.int i) (l.map λi=>vs.getD i Value.none)
 |[],_=>.nil|i::l,h=>.cons (hv i (h i QF)) (DK hv l λj z=>h j (QD _ z))
theorem lT{R f ce c':Addr}{b ctv:Value}{t u v:Tok}{Q:VK}{n:Nat}(I:Inv X x σ H s)(hh:X.A.handled=none)(z:X.A.in1.in1.depth<recursionLimit)
  (ho:s.heap.get? f=some (kla_obj "<lambda>" q (uc U) (P6 J G p2 F E B W) FV [(QY "events",ce)] b c' ctv)) (m:s.heap.CodeRec (.ref c') q) (hc:s.heap.IsCell ce (some (.ref y))) (hev:∀(j:Nat) p,kz[j]?=some p->p.2=j/\rO s.heap y j p.1)
  (hl:kz.length=n) (h64:n<64) (hr:IsRange s.heap R 0 n 1 t u v) (k:∀(p:Array Nat) l,Pm n p->p=SR kz n->H l=none->Q (.ref l) (DA H l (.lst (p.toList.map λ(i:Nat)=>V.int i)))) :
  wpAny (model X.prog X.w) X.A (call (.builtin "sorted") [.ref R] [(QY "key",.ref f)]) (EP X x σ Q) X.xe s:=by
 refine U9 (n:=n) hh hr (small_one (by decide) (by decide) (by omega) (by omega)) (by rw[rangeSize_one];split<;>omega) h64 hl (λh3 P h j tx p hj C hC=>?_) λp K D h' P e b up h r vl hvs ho'=>?_;obtain⟨e2,ev'⟩:=hev j p hj;have e3:(0:Int)+(j:Int) * 1=(j:Int):=by omega
 rw[e3];refine O6 (s:={ s with heap:=h3,toks:=P }) z (h _ _ ho) (m.keeps h) (I.nolimit.keeps h) (hc.keeps h) (ev'.keep h) λh4 N v kp4 ka=>hC h4 N v kp4 ?_;rw[<- e2]at ka;exact ka;have pl:∀i∈p.toList,i<n:=λi hi=>by simpa using(qS.mp b).mem_iff.mp hi
 have ps:p.toList.length=n:=by rw[(qS.mp b).length_eq];simp
 refine⟨.ref D,DA H D (.lst (p.toList.map λ(i:Nat)=>V.int i)),I.laid (t':=P) h r ⟨by rw[QE,ps,Q2];omega,_,e,DK (λi hi=>?_) p.toList pl,ho'⟩,rfl,k p D b up (I.hok.fresh r)⟩;have o:i<K.length:=by omega
 obtain⟨t,e⟩:=hvs i (K[i]) (Qm o);refine⟨t,?_⟩;have:K.getD i Value.none=K[i]:=by simp[o]
 rw[this,e,show(0:Int)+(i:Int) * 1=(i:Int) by omega]
theorem Fa{c P:Addr}(hN:X.N[i]?=some (QY "events"))(hs:X.env.scope.names.lookup (QY "events")=some .cell)(n:X.env.code=.ref c)(hC:CodeHd X.base c P)(hT:aP X.mg X.base P q)(hq:q=X.env.qual++"<lambda>")(hb:X.base.BuiltinsAt X.mg P)(hgP:mainGlobals≠P)
  (g1:Gl X "sorted") (m1:X.mg "sorted"=none) (g2:Gl X "range") (m2:X.mg "range"=none) (g3:Gl X "len") (m3:X.mg "len"=none) (hh:X.A.handled=none) (f:X.A.in1.in1.depth<recursionLimit) :
  PE X (.Call (.Name "sorted" S) [.Call (.Name "range" M) [.Call (.Name "len" Y) [.Name "events" g] [] d] [] a] [⟨some "key",.Lambda (uc U) (P6 J G p2 F E B W) FV Z,O⟩] L) (Zw X.K P i):=by
 rintro x s σ H Q I ⟨y,xs,kz,hv,hsq,m,h64,k⟩;refine qy (xE I g1 m1 boot_sorted ?_);refine callWith_kw ?_;show wpAny _ _ (spliced ((false,eval (.Call (.Name "range" M) [.Call (.Name "len" Y) [.Name "events" g] [] d] [] a) X.env)::backTo L (starEach [] X.env))) _ _ s;have paL:PA X [.Call (.Name "len" Y) [.Name "events" g] [] d] _:=MI (DM nJ g3 m3 boot_len (MI (x5 hN (.inr (.inl hs))) bQ)) bQ;refine wK (Call_ (xE I g2 m2 boot_range (callWith_type1 (HB (paL a x s σ H (λvs H1=>vs=[.int xs.length]/\H1=H) I ?_) λus h ⟨vs,H1,I1,r1,q1⟩=>?_) rfl rfl)));exact⟨_,hv,y,xs,rfl,hsq,rfl,rfl⟩;obtain⟨rfl,rfl⟩:=q1;cases r1 with
 |cons r rr =>
 cases rr;obtain⟨t,rfl⟩:=r;refine call_range_1 (wu (kws_cons (kla_eval rfl ?_)));have w:Inv X x σ H1 { h with heap:=h.heap.push { cls:=.type "range",data:=.fields #[.int 0 h.toks,.int xs.length t,.int 1 (h.toks+1)] },toks:=h.toks+1+1 }:=I1.kept λb o e=>QH _ e;have hr2:IsRange (h.heap.push { cls:=.type "range",data:=.fields #[.int 0 h.toks,.int xs.length t,.int 1 (h.toks+1)] }) h.heap.objs.size 0 xs.length 1 h.toks t (h.toks+1):=QR _ rfl;have hP:=w.tb P q hT;obtain⟨ps,hp,ht,hps⟩:=w.hok P _ hP;obtain⟨ce,hce,hcl⟩:=jd w hN hs hv;have R:closureFor FV X.env=pure [(QY "events",ce)]:=by unfold closureFor cellOf;simp[hce]
 obtain⟨bm,ob,b1,b2,b3,b4,b5,b6⟩:=hb;have hb2:=And.intro b1 (And.intro b2 (And.intro b3 (And.intro b4 (And.intro (w.bk _ _ b5) b6))));have evs:=fq w hsq m;subst hq;cases e:codeAmong Z ps.toList with|none=>refine kla_makeFunction (mg:=X.mg) R I.ok.glob (w.mod.glob.keeps w.bk) n (hC.keeps w.bk) hp ht e hgP ⟨bm,ob,hb2⟩ λc' ctv h' tk hx hge hlt v htb=>evalAll_nil ?_;obtain⟨hn,I3⟩:=w.tabbed (t':=tk) hP hp ht hps hx hge v htb;have C:∀{oN:Obj}(b:Addr) (o:Obj),h'.get? b=some o->(h'.push oN).get? b=some o:=λb o e=>QH _ e;obtain⟨oc,c1,c2⟩:=hcl;show wpAny _ _ (call (.builtin "sorted") [.ref h.heap.objs.size] [(QY "key",.ref h'.objs.size)]) _ _ _;refine lT (I3.kept C) hh f (QR _ rfl) (v.push _) ⟨oc,C _ _ (hx _ _ (λz=>?_) c1),c2⟩ (λj p hj=>⟨(m.2 j p hj).1,((evs j p hj).keepB hp hx).keep C⟩) m.1 h64 (C _ _ (hx _ _ (λz=>?_) hr2)) λp l pm u hl=>k p _ l pm u (.inr ⟨c',hn,rfl⟩) hl;rw[z,hp]at c1;cases c1;cases c2;have z2:=hp.symm.trans (z▸hr2);cases z2|some cv=>obtain⟨c',rfl,_,v⟩:=hps _ _ e;refine kla_makeFunctionHit (mg:=X.mg) R I.ok.glob (w.mod.glob.keeps w.bk) n (hC.keeps w.bk) hp ht e ⟨bm,ob,hb2⟩ λctv h' tk kp hge=>evalAll_nil ?_;have C:∀{oN:Obj}(b:Addr) (o:Obj),(h.heap.push { cls:=.type "range",data:=.fields #[.int 0 h.toks,.int xs.length t,.int 1 (h.toks+1)] }).get? b=some o->(h'.push oN).get? b=some o:=λb o e=>QH _ (kp b o e);show wpAny _ _ (call (.builtin "sorted") [.ref h.heap.objs.size] [(QY "key",.ref h'.objs.size)]) _ _ _;exact lT (w.kept C) hh f (QR _ rfl) (v.keeps C) (hcl.keeps C) (λj p hj=>⟨(m.2 j p hj).1,(evs j p hj).keep C⟩) m.1 h64 (C _ _ hr2) λp l pm u hl=>k p _ l pm u (.inl rfl) hl
end
end
def nN:D->Option Int
 | .tuple h=>(match h[1]? with|some (PyData.int t)=>some t|_=>none)
 |_=>none
def fK(evs:List D):List (Int×Int):=(Ql evs.length).map λ(i:Nat)=>(((evs[i]?).bind nN).getD 0,(i:Int))
theorem B0{evs:List D}{j:Nat}{p:Int×Int}(h:(fK evs)[j]?=some p):j<evs.length/\p=(((evs[j]?).bind nN).getD 0,(j:Int)):=by unfold fK at h;rw[Qb]at h;by_cases c:j<evs.length;rw[WF c]at h;exact⟨c,(Qk h).symm⟩;rw[Q7 (by simpa using c)]at h;cases h
def ur(evs:List D)(ns:LN):Prop:=ns.Perm (Ql evs.length)/\ns=(SR (fK evs) evs.length).toList
noncomputable def Go:PSp where
 md:=[]
 run:=λz Q _=>∃x:List D,z=[.d (.list x)]/\x.length<64/\(∀e∈x,∃t,nN e=some t)/\∀y,ur x y->Q (.lst (y.map λ(i:Nat)=>.d (.int i))) []
 mono:=λh _ ⟨x,a,b,c,d⟩=>⟨x,a,b,c,λy q=>h _ _ (d y q)⟩
theorem u4{K:QA}{H x:Hp}{a:Addr}{xs:LV}(e:Same H x)(h:nE K H a xs):nE K x a xs:=by rcases h with(h|⟨o,h⟩)|h;exact .inl (.inl (e _ _ h));exact .inl (.inr ⟨o,e _ _ h⟩);exact .inr h
section
variable{P:Program}{w:World}{K:QA}{mg:Str->Option Value}{base:Heap}{Ψ:PEv}{D C p2 B W U n m g a0 a1 R O N L J I y:Pos}
noncomputable abbrev Pu:Scope:={ kind:=.function,names:=[(QY "events",.cell),(QY "sorted",.globalImplicit),(QY "range",.globalImplicit),(QY "len",.globalImplicit)],isGenerator:=false,isCoroutine:=false,more:=[] }
noncomputable abbrev Hw(D C p2 B W U n m g a0 a1 R O N L J I y:Pos):List Stmt:=[.Return (some (.Call (.Name "sorted" a0) [.Call (.Name "range" a1) [.Call (.Name "len" R) [.Name "events" O] [] N] [] L] [⟨some "key",.Lambda (uc m) (P6 D C p2 B W U n) FV g,J⟩] I)) y]
theorem zY{H F:Hp}{vs:LV}{Q:VK}{E:XK}{T:Addr}(h:lift K Go vs H Q E):vs.length=1/\Zw K T 0 (vD [QY "events"] vs) H λv H'=>Q v H':=by
 obtain⟨F,ts,M,Y,h1,h2,h3,h4,x,rfl,h64,he,q⟩:=h;cases h2 with
 |chg hm=>cases hm|@rd _ v vs' _ _ Z _ hr _ r =>
 cases r;refine⟨rfl,?_⟩;cases hr with
 |d rp hz =>
 cases rp with
 |@lst a xs _ hq rs =>
 have A:xs.length=x.length:=rs.length;have kl:(fK x).length=xs.length:=by unfold fK;rw[QE,Qw,A]
 refine⟨a,xs,fK x,rfl,.inl (h1.seq hq),⟨kl,λj p hj=>?_⟩,by rw[A];exact h64,λp H1 l pm up hH hl=>?_⟩;obtain⟨jl,rfl⟩:=B0 hj;have G:x[j]?=some (x[j]'jl):=Qm jl;obtain⟨t,k⟩:=he _ (w9 jl);obtain⟨v,v1,v2⟩:=rs.get G;refine⟨rfl,?_⟩;rw[G];show ∃t ys,_/\_/\ys[1]?=some (V.int ((nN x[j]).getD 0));rw[k];generalize x[j]=e at *;cases v2 with
 |@tup b ys ds sq rs2 =>
  have k:(match ds[1]? with|some (PyData.int t)=>some t|_=>none)=some t:=k;cases hd:ds[1]? with
  |none=>rw[hd]at k;cases k|some d =>
   rw[hd]at k;obtain⟨u,u1,u2⟩:=rs2.get hd;cases u2 with|int i=>cases k;exact⟨b,ys,v1,u4 h1 sq,u1⟩|_=>cases k
 |_=>cases k
 have pn:p.size=x.length:=by have:=pm.size_eq;simpa[A]using this
 have f:H l=none:=by
  rcases hH with rfl|⟨c,hc,rfl⟩
  exact hl;by_cases z:l=c
  ·rw[z];exact hc
  rw[xA z]at hl;exact hl
 have hs:Same H H1:=by
  rcases hH with rfl|⟨c,hc,rfl⟩
  exact λ_ _ e=>e;exact λb o e=>by rw[xA (sA e hc)];exact e
 have s:Same H (DA H1 l (.lst (p.toList.map λ(i:Nat)=>V.int i))):=λb o e=>by rw[xA (sA e f)];exact hs b o e
 have fl:F l=none:=by
  cases z:F l with|none=>rfl|some o=>rw[h1 l o z]at f;cases f
 have X:∀S:LN,Trs K F (DA H1 l (.lst (p.toList.map λ(i:Nat)=>V.int i))) true (S.map λ(i:Nat)=>V.int i) (S.map λ(i:Nat)=>.d (.int i)) λ_=>False:=λS=>by
  induction S with|nil=>exact .nil λ_ z=>z|cons i r ih=>exact .cons (.d (.int _) λ_ (z:False)=>z) ih (λ_ z=>z.elim) λb=>⟨Qc,λz=>z.elim id id⟩
 refine q p.toList ⟨?_,?_⟩ (.ref l) F (DA H1 l (.lst (p.toList.map λ(i:Nat)=>V.int i))) (λb=>b=l) (λ_=>False) ⟨λ_ _ e=>e,λb o e=>s b o (h1 b o e),λb u e _=>s b u e,λb e=>?_,λb e z=>absurd e z⟩ (.lst iA fl (X _) (λz=>z) λb=>⟨.inl,λz=>z.elim id Qc⟩) (.nil λ_ z=>z) (λ_ _ z=>z) λb z=>.inr (z.elim (λz=>z▸f) Qc);rw[A]at pm;exact qS.mp pm;rw[up,A];cases z:H b with|none=>rfl|some o=>rw[s b o z]at e;cases e
theorem Xc{f c T:Addr}{oc kV v l ct:Value}{M Y:Option Addr}{b:Array (Option Value)}{z:Arguments}{k:Nat}(X:K.In base)(G:base.Ns mainGlobals mg)(p:mg "going_order"=some (.ref f))
  (lk:K.lookup f=some ⟨oc,M,.func (fnOf "going_order" "going_order" z (Hw D C p2 B W U n m g a0 a1 R O N L J I y) Pu .none kV v l Y (.ref c) ct),b⟩)
  (j:codeIn K (.ref c) "going_order"=true) (e:keepIn K (.ref f)=true) (r:CodeHd base c T) (hb:base.BuiltinsAt mg T) (i:mainGlobals≠T) (m1:mg "sorted"=none) (m2:mg "range"=none) (m3:mg "len"=none)
  (u:∀us:LW,us.length=1->bindArgs (fnOf "going_order" "going_order" z (Hw D C p2 B W U n m g a0 a1 R O N L J I y) Pu .none kV v l Y (.ref c) ct) ⟨us,[]⟩=pure ([QY "events"].zip us)) (hR:Ψ.sp "going_order"=Go):BG P w K mg base Ψ (k+1) "going_order":=by
 have S:FnScope [QY "events"] [QY "events"] Pu:=⟨rfl,rfl,rfl,by decide,rfl,by intro x hx;rcases QJ.mp hx with rfl;exact .inr rfl,by decide⟩
 refine⟨f,_,[QY "events"],?_,p,e,.all u⟩;rw[hR];refine uf lk j S (λZ H Q E h=>(zY (T:=T) (F:=H) h).1) λA a s H Z Q E o h=>⟨_,nX (A4 (Fa (q:=(QY "going_order")++(QY ".<locals>.<lambda>")) rfl rfl rfl r ?_ ?_ hb i rfl m1 rfl m2 rfl m3 o.hd ?_)),(zY (F:=H) h).2⟩
 exact⟨f,_,_,c,p,X _ _ lk,rfl,rfl,r,rfl⟩;show QY "going_order"++QY ".<locals>.<lambda>"=(QY "going_order"++QY ".<locals>.")++QY "<lambda>";decide;exact WJ (QU (QAp _ (3 * k)) (QAp _ 5)) o.dp
end
end L2.L3
namespace L2.L3.K42
open PySem PySem.Spec PyProof.Rows L2 L2.L3
def zO(a b:Nat):Bool:=decide (a<=b)
def srt(l:LN):LN:=l.mergeSort zO
theorem Lp(a b c:Nat)(x:zO a b=true)(y:zO b c=true):zO a c=true:=dT (QU (of_decide_eq_true x) (of_decide_eq_true y))
theorem Mp(a b:Nat):(zO a b||zO b a)=true:=by rcases Nat.le_total a b with z|z;rw[show zO a b=true from dT z];rfl;rw[show zO b a=true from dT z,QB2]
theorem Yh(l:LN):(srt l).Pairwise λa b=>a<=b:=(List.pairwise_mergeSort Lp Mp l).imp λz=>of_decide_eq_true z
theorem Zh{z l:LN}(h:z.Perm l)(u:z.Pairwise (·<=·)):z=srt l:=QCS.eq_of_pairwise (λa b _ _ x y=>Nat.le_antisymm x y) u (Yh l) (h.trans (QBU l zO).symm)
theorem M3(l:LN):(srt l).Perm l:=QBU l zO
noncomputable abbrev Stp:=Nat×Bool×LN×List Pt
structure Gs where
 past:LN
 taken:LN
 held:List Pt
 steps:List Stp
def gn(w:Wd)(g:Gs)(n:Nat):Bool:=Gr w (eO w g.past) g.held (uB w.es n)
noncomputable def Y3(w:Wd)(g:Gs)(n:Nat):LN:=if(gn w g n&&decide (z9 (uB w.es n)="tell"))=true then g.taken++[n] else g.taken
def Fw(w:Wd)(g:Gs)(n:Nat):LN:=srt (II w.es (Y3 w g n) (eO w (g.past++[n])))
def Ou(w:Wd)(g:Gs)(n:Nat):List Pt:=xL w (g.past++[n]) (Fw w g n)
def dG(w:Wd)(g:Gs)(n:Nat):Gs:=⟨g.past++[n],Y3 w g n,Ou w g n,g.steps++[(n,gn w g n,Fw w g n,Ou w g n)]⟩
def LD(w:Wd)(ns:LN):Gs:=ns.foldl (dG w) ⟨[],[],[],[]⟩
def lL(s:Stp):D:=.tuple [nD s.1,.bool s.2.1,.list (s.2.2.1.map nD),.list (s.2.2.2.map pr)]
def y9(l:LN):T:=.lst ((l.map nD).map T.d)
noncomputable def Dc(w:Wd)(past taken:LN)(wr held:List Pt)(x:Kn)(st:List Stp)(o8 h o10:Option Sl):kA:=[bD (wD w),bD (.list (w.es.map jD)),oW (y9 past),oW (y9 taken),oW (AI wr),bD (.list (held.map pr)),oW (NX x),oW (.lst ((st.map lL).map T.d)),o8,h,o10]
theorem n6(l:LN)(n:Nat):y9 (l++[n])=.lst ((l.map nD).map T.d++[T.d (nD n)]):=by unfold y9;rw[QO,QO];rfl
theorem Jh(l:List Stp)(n:Stp):((l++[n]).map lL).map T.d=(l.map lL).map T.d++[T.d (lL n)]:=by rw[QO,QO];rfl
theorem i4{evs:List Evt}{h:LN}{ks:List Pt}{K:T->LT->Prop}{E:XE}(l:h.length<64)(a:∀n∈h,n<evs.length/\GC (uB evs n))(q:K (.lst (((srt (II evs h ks)).map nD).map T.d)) []):EA IE [.d (.list (evs.map jD)),.lst ((h.map nD).map T.d),AI ks] K E:=⟨evs,h,ks,rfl,l,a,λz y x=>by rw[Zh y x];exact q⟩
theorem Y4{w:Wd}{l y:LN}{x:Kn}{K:T->LT->Prop}{E:XE}(z:WOk w)(a:l.length<=100)(b:∀n∈l,n<w.es.length)(c:F8 w y)(d:BK w x)(e:x.length<=10000)(q:∀h,BK w h->h.length<=x.length+10->K (.lst (((xL w l y).map pr).map T.d)) [NX h]):EA ZC [.d (wD w),.lst ((l.map nD).map T.d),.d (.list (y.map nD)),NX x] K E:=⟨w,l,y,x,rfl,⟨z,a,b⟩,c,⟨d,e⟩,q⟩
section
variable{Ψ:PEv}{E:XE}{K:TK}{y x:D}{u:List D}{k:T}{g f e c b w v:Option Sl}
theorem Cc(h:Ψ.sp "held_among"=ZC)(q:EA ZC [.d y,.lst (u.map T.d),.d x,k] (λr j=>∃n,j=[n]/\K r true [bD y,g,oW (.lst (u.map T.d)),f,e,c,oW n,b,w,v,bD x]) E):cB Ψ (.call "held_among" %[.zz 0,.zz 2,.zz 10,.zz 6|1]) E [bD y,g,oW (.lst (u.map T.d)),f,e,c,oW k,b,w,v,bD x] K:=by show ∃j,FA (bA (Ψ.sp "held_among").md %[.zz 0,.zz 2,.zz 10,.zz 6|1]) [bD y,g,oW (.lst (u.map T.d)),f,e,c,oW k,b,w,v,bD x]=some j/\(bA (Ψ.sp "held_among").md %[.zz 0,.zz 2,.zz 10,.zz 6|1]).Nodup/\(pe Ψ %[.zz 0,.zz 2,.zz 10,.zz 6|1] E).a (Ψ.sp "held_among").md (clear (bA (Ψ.sp "held_among").md %[.zz 0,.zz 2,.zz 10,.zz 6|1]) [bD y,g,oW (.lst (u.map T.d)),f,e,c,oW k,b,w,v,bD x]) λp l=>∃o,ZA (Ψ.sp "held_among").md p j=some o/\(Ψ.sp "held_among").run o (λr m=>∃i,jC (bA (Ψ.sp "held_among").md %[.zz 0,.zz 2,.zz 10,.zz 6|1]) m l=some i/\K r true i) E;rw[h];refine⟨[k],rfl,Qh.mpr ⟨WA,Q0⟩,?_⟩;refine⟨rfl,?_⟩;refine⟨[.d y,.lst (u.map T.d),.d x,k],?_,?_⟩;show(match UF (T.lst (u.map T.d)) with|some t=>(some [T.d x,k]).map (t::·)|none=>none).map (T.d y::·)=_;rw[j4];rfl;refine ZC.mono (λr j z=>?_) (λ_ z=>z) q;obtain⟨n,rfl,z⟩:=z;exact⟨_,rfl,z⟩
end
section
variable{Ψ:PEv}{Z:PEnds}{w:Wd}{u:Kn}{n:Nat}{o10:Option Sl}{e:Evt}{g:Gs}{ns:LN}{K:T->LT->Prop}{E:XE}{l:List D}{x:D}
theorem uq(r:Ψ.sp "wrong_among"=xD)(a:Ψ.sp "live_among"=IE)(p:Ψ.sp "held_among"=ZC){past taken:LN}{wr held:List Pt}{st:List Stp}{b:Bool}(z:WOk w)(Y:past.length<=60)(k:∀n∈past,n<w.es.length)(s:taken.length<=60)(v:∀n∈taken,n<w.es.length/\GC (uB w.es n))(hk:BK w u)(i:u.length<=10000)(X:st.length<=60)
  (q:∀h,BK w h->h.length<=u.length+10->Z.nx (Dc w past taken (eO w past) (xL w past (srt (II w.es taken (eO w past)))) h (st++[(n,b,srt (II w.es taken (eO w past)),xL w past (srt (II w.es taken (eO w past))))]) (bD (nD n)) (bD (.bool b)) (bD (.list ((srt (II w.es taken (eO w past))).map nD))))) :
  pF Ψ JK Z (Dc w past taken wr held u st (bD (nD n)) (bD (.bool b)) o10):=by
 have y:=M3 (II w.es taken (eO w past));have fl:=qG (λn=>!decide (((aJ (uB w.es n)).1,(aJ (uB w.es n)).2)∈eO w past)) taken;have f:F8 w (srt (II w.es taken (eO w past))):=⟨by rw[y.length_eq];unfold II;omega,λn o=>v n (Qd.mp (y.mem_iff.mp o)).1⟩
 delta Dc y9;delta JK;simp_arith[↓vA (md:=[.uz,.yz]) r rfl rfl,↓vA (md:=[.uz,.yz,.vz]) a rfl rfl,↓mC,↓Cd,↓vr];refine RY z (by omega) k ?_;simp_arith[↓vA (md:=[.uz,.yz,.vz]) a rfl rfl,↓mC,↓Cd,↓vr];refine i4 (by omega) v ?_;simp_arith[↓zA];refine Cc p (Y4 z (by omega) k f hk i λh m j=>⟨_,rfl,?_⟩);simp_arith[↓zA];rw[QE,QE];refine⟨by omega,by omega,?_⟩;have q:=q h m j;unfold Dc y9 at q;rw[Jh]at q;exact q
structure GsOk(w:Wd)(g:Gs):Prop where
 p:∀n∈g.past,n<w.es.length
 tl:g.taken.length<=g.past.length
 t:∀n∈g.taken,n<w.es.length/\GC (uB w.es n)
 h:M8 g.held
 s:g.steps.length=g.past.length
theorem IX(y:WOk w)(l z:LN):M8 (xL w l z):=by intro p h;obtain⟨x,v,h⟩:=WC.mp h;obtain⟨m,k,rfl⟩:=QV.mp h;exact⟨y.po x v,y.mo m (Qd.mp k).1⟩
theorem J9(h:z9 e="tell"):GC e:=by
 cases e with|see t p m y=>exact absurd (show QY "see"=QY "tell" from h) (by decide)|tell t a b m y q=>exact⟨t,a,b,m,y,q,rfl⟩
theorem Ad(h:GsOk w g)(y:n<w.es.length):(Y3 w g n).length<=g.past.length+1/\∀k∈Y3 w g n,k<w.es.length/\GC (uB w.es k):=by have:=h.tl;unfold Y3;split;rename_i c;rw[QW,decide_eq_true_iff]at c;refine⟨by rw[QI];exact Wm this,λk hk=>?_⟩;rcases Qf.mp hk with hk|hk;exact h.t k hk;rw[QJ.mp hk];exact⟨y,J9 c.2⟩;exact⟨by omega,h.t⟩
theorem AQ(a:WOk w)(h:GsOk w g)(y:n<w.es.length):GsOk w (dG w g n):=by
 obtain⟨v,z⟩:=Ad h y;refine⟨λk hk=>?_,?_,z,IX a _ _,?_⟩;rcases Qf.mp hk with hk|hk
 ·exact h.p k hk
 rw[QJ.mp hk];exact y;show(Y3 w g n).length<=(g.past++[n]).length;rw[QI];exact v;show(g.steps++_).length=(g.past++[n]).length;rw[QI,QI,h.s];rfl
theorem Ru(I:Ψ.sp "is_taken"=VO)(G:Ψ.sp "wrong_among"=xD)(F:Ψ.sp "live_among"=IE)(C:Ψ.sp "held_among"=ZC){m:Option Sl}(j:WOk w)(f:GsOk w g)(J:g.past.length<60)(a:n<w.es.length)(hk:BK w u)(W:u.length<=10000)
  (q:∀y m o10,BK w y->y.length<=u.length+10->Z.nx (Dc w (g.past++[n]) (Y3 w g n) (eO w (g.past++[n])) (Ou w g n) y (dG w g n).steps (bD (nD n)) m o10)) :
  pF Ψ KN Z (Dc w g.past g.taken (eO w g.past) g.held u g.steps (bD (nD n)) m o10):=by
 have L:=f.tl;have N:=f.s;obtain⟨M,X⟩:=Ad f a;have Y:∀k∈g.past++[n],k<w.es.length:=(AQ j f a).p;have r:=λ{o10}=>uq (Z:=Z) (wr:=eO w g.past) (held:=g.held) (st:=g.steps) (n:=n) (b:=gn w g n) (o10:=o10) G F C j (past:=g.past++[n]) (by rw[QI];exact J) Y (taken:=Y3 w g n) (by omega) X hk W (by omega) λy B A=>q y _ _ B A;delta Dc y9;delta KN;simp_arith[↓FP a,↓vA (md:=[.uz,.uz,.vz,.uz]) I rfl rfl,↓mC,↓Cd,↓vr];refine Mh j (j.ev a) f.h ?_;simp_arith[↓FP a,↓CU];rw[QE,QE,<- n6];refine⟨by omega,?_⟩;have e:Gr w (eO w g.past) g.held (uB w.es n)=gn w g n:=rfl;rw[e];cases v:gn w g n with
 |false=>have i:Y3 w g n=g.taken:=if_neg (by rw[v];exact λz=>by cases z);rw[i,v]at r;exact r|true =>
  cases o:decide (z9 (uB w.es n)="tell") with|false=>have i:Y3 w g n=g.taken:=if_neg (by rw[v,o];exact λz=>by cases z);rw[i,v]at r;exact r|true=>have i:Y3 w g n=g.taken++[n]:=if_pos (by rw[v,o];rfl);rw[i,v]at r;simp_arith[↓zA];rw[QE,QE,<- n6];exact⟨by omega,r⟩
theorem Lc(e:Evt):∃t,nN (jD e)=some t:=by
 cases e with|see t p m h=>exact⟨t,rfl⟩|tell t a b m h q=>exact⟨t,rfl⟩
def UK(w:Wd)(ns:LN):Prop:=ur (w.es.map jD) ns
theorem Ge(h:UK w ns):∀n∈ns,n<w.es.length:=λn y=>by
 have:=qP.mp (h.1.mem_iff.mp y)
 rwa [QE]at this
theorem z6(h:UK w ns):ns.length=w.es.length:=by rw[h.1.length_eq,Qw,QE]
theorem Oh(y:WOk w)(q:∀ns,UK w ns->K (y9 ns) []):EA Go [.d (.list (w.es.map jD))] K E:=⟨_,rfl,by rw[QE];exact WJ y.el (by decide),λe z=>by
 obtain⟨v,_,rfl⟩:=QV.mp z;exact Lc v,λns h=>by
 have:=q ns h;unfold y9 at this;rw[Qa]at this;exact this⟩
noncomputable def HG:PSp where
 md:=[]
 run:=λy Q _=>∃w:Wd,y=[.d (wD w)]/\WOk w/\∀ns,UK w ns->Q (.lst (((LD w ns).steps.map lL).map T.d)) []
 mono:=λh _ z=>by obtain⟨w,e,a,q⟩:=z;exact⟨w,e,a,λns b=>h _ _ (q ns b)⟩
theorem cS(h:WOk w)(q:∀ns,UK w ns->K (.lst (((LD w ns).steps.map lL).map T.d)) []):EA HG [.d (wD w)] K E:=⟨w,rfl,h,q⟩
theorem bw{r:PT}{i:Nat}{ρ:kA}:rL Ψ E r Z i (.lst []) true ρ=aB Ψ E r Z (ρ.set i (bD (.list []))):=Vs (ds:=[])
theorem Ub(o:Ψ.sp "going_order"=Go)(I:Ψ.sp "is_taken"=VO)(G:Ψ.sp "wrong_among"=xD)(F:Ψ.sp "live_among"=IE)(C:Ψ.sp "held_among"=ZC)(ds Q E)(h:HG.run ds Q E):ME Ψ UW HG C8 oX ds Q:=by obtain⟨w,rfl,a,q⟩:=h;have O:=a.el;refine uA [bD (wD w),none,none,none,none,none,none,none,none,none,none] rfl rfl rfl ?_;delta UW;simp_arith[↓BU,↓vA (md:=[]) o rfl rfl];refine⟨by omega,by omega,by omega,?_⟩;simp_arith[↓bw,↓vA (md:=[]) o rfl rfl];refine⟨by omega,Oh a λns v=>?_⟩;delta y9;simp_arith[↓zA];rw[<- oA nD];have J:=z6 v;refine CA (λn=>T.d (nD n)) (λr b=>∃g u j i o10,r.foldl (dG w) g=LD w ns/\(GsOk w g/\g.past.length+r.length<=60/\∀n∈r,n<w.es.length)/\(BK w u/\u.length<=10 * g.past.length)/\b=Dc w g.past g.taken (eO w g.past) g.held u g.steps j i o10) ?_ ?_ ns _ ⟨⟨[],[],[],[]⟩,[],none,none,none,rfl,⟨⟨λ_ z=>(by cases z),QZ _,λ_ z=>(by cases z),λ_ z=>(by cases z),rfl⟩,by show 0+ns.length<=60;omega,Ge v⟩,⟨λ_ z=>(by cases z),QZ _⟩,rfl⟩;rintro b ⟨g,u,j,i,o10,e,_,_,rfl⟩;have e:g=LD w ns:=e;subst e;delta Dc;simp_arith[↓zA];exact q ns v;rintro n r b N B ⟨g,u,j,i,o10,e,⟨X,s,p⟩,⟨Y,L⟩,rfl⟩;have s:g.past.length+(r.length+1)<=60:=s;have m:=p n QF;refine Ru I G F C a X (by omega) m Y (by omega) λy f k W M=>B _ ⟨dG w g n,y,_,f,k,e,⟨AQ a X m,?_,λx A=>p x (QD _ A)⟩,⟨W,?_⟩,rfl⟩;show(g.past++[n]).length+r.length<=60;rw[QI];show g.past.length+1+r.length<=60;omega;show y.length<=10 * (g.past++[n]).length;rw[QI];show y.length<=10 * (g.past.length+1);omega
def FQ(n:Nat)(x:D):Prop:=x.canLay0=true/\x.depth<=n
theorem jN{n:Nat}:∀{l:List D},(∀x∈l,FQ n x)->qm l=true/\wW l<=n
 |[],_=>⟨rfl,Qt _⟩|x::l,h=>by obtain⟨b,a⟩:=h x QF;obtain⟨v,z⟩:=jN (l:=l) λy k=>h y (QD _ k);exact⟨by show(x.canLay0&&qm l)=true;rw[b,v];rfl,Nat.max_le.mpr ⟨a,z⟩⟩
theorem yc(h:∀x∈l,FQ n x):FQ (n+1) (.list l):=⟨(jN h).1,Wm (jN h).2⟩
theorem MZ(h:∀x∈l,FQ n x):FQ (n+1) (.tuple l):=⟨(jN h).1,Wm (jN h).2⟩
theorem EI{s:Str}(h:OkS s):FQ n (.str s):=⟨h,Qt _⟩
theorem B6{i:Int}:FQ n (.int i):=⟨rfl,Qt _⟩
theorem Fp(h:FQ n x)(y:n<=64):NF x:=⟨h.1,QU h.2 y⟩
theorem V6{m:Nat}(h:FQ n x)(y:n<=m):FQ m x:=⟨h.1,QU h.2 y⟩
theorem VD(h:FQ n x)(v:∀y∈l,FQ n y):∀y∈x::l,FQ n y:=λy z=>by rcases QL.mp z with rfl|z;exact h;exact v y z
theorem X6:∀y∈([]:List D),FQ n y:=λy h=>by cases h
theorem U6{α:Type}{f:α->D}{l:List α}(h:∀a∈l,FQ n (f a)):∀y∈l.map f,FQ n y:=λy z=>by obtain⟨a,v,rfl⟩:=QV.mp z;exact h a v
theorem Dp{p:Pt}(h:OkS p.1/\OkS p.2):FQ 1 (pr p):=MZ (VD (EI h.1) (VD (EI h.2) X6))
theorem Cp{p:Str×Int×Int×Int}(h:OkS p.1):FQ 1 (mI p):=MZ (VD (EI h) (VD B6 (VD B6 (VD B6 X6))))
theorem Xh:OkS "see":=(by decide +kernel:qf "see"=true)
theorem B9:OkS "tell":=(by decide +kernel:qf "tell"=true)
theorem Gp(y:WOk w)(h:N8 w e):FQ 2 (jD e):=by
 cases e with|see t p m z=>exact MZ (VD (EI Xh) (VD B6 (VD (EI (y.nm h.1)) (VD (EI (y.mo _ h.2.1)) (VD (EI h.2.2) X6)))))|tell t a b m z q=>exact MZ (VD (EI B9) (VD B6 (VD (EI (y.nm h.1)) (VD (EI (y.nm h.2.1)) (VD (EI (y.mo _ h.2.2.1)) (VD (EI h.2.2.2.2.1) (VD (MZ (U6 λx v=>EI (y.nm (h.2.2.2.2.2 x v)))) X6)))))))
theorem Ro(h:WOk w):NF (wD w):=Fp (n:=4) (MZ (VD (V6 (yc (U6 λp y=>Cp (h.po p y))) (by decide)) (VD (V6 (yc (n:=0) (U6 λm z=>EI (h.mo m z))) (by decide)) (VD (V6 (yc (U6 λp y=>Dp (h.ag p y))) (by decide)) (VD (yc (U6 λe v=>Gp h (h.eo e v))) X6))))) (by decide)
end
section
variable{ds es:List D}{L:Bool->Prop}{x:D}{y:CmpOp}
theorem D7(h:NF (.tuple ds))(q:L true):mW .Eq (.tuple ds) (.tuple ds) L:=⟨h,h,by rw[PySem.SeqAt.eqv_refl _ h.1];exact q⟩
end
def Hr:Evt->Int
 | .see t _ _ _=>t|.tell t _ _ _ _ _=>t
theorem Dm{e:Evt}{n m:Bool}{R:T->Prop}:VA (.d (jD e)) n (.d (.int 1)) m R=R (.d (.int (Hr e))):=by
 cases e with|see t p h w=>exact GA (i:=1) rfl|tell t a b h w q=>exact GA (i:=1) rfl
theorem rj{w:Wd}{ns x:LN}(h:UK w ns)(h':UK w x):ns=x:=h.2.trans h'.2.symm
def Y8(w:Wd)(s:Stp):Prop:=s.1<w.es.length/\M8 s.2.2.2
theorem ve{w:Wd}(z:WOk w):∀(ns:LN) (g:Gs),GsOk w g->(∀n∈ns,n<w.es.length)->(∀s∈g.steps,Y8 w s)->((∀s∈(ns.foldl (dG w) g).steps,Y8 w s)/\(ns.foldl (dG w) g).steps.length=g.steps.length+ns.length)
 |[],g,_,_,h=>⟨h,rfl⟩|n::r,g,hg,hn,h=>by
  have u:=hn n QF;obtain⟨a,b⟩:=ve z r (dG w g n) (AQ z hg u) (λx v=>hn x (QD _ v)) λs y=>by rcases Qf.mp y with y|y;exact h s y;rw[QJ.mp y];exact⟨u,IX z _ _⟩
  refine⟨a,b.trans ?_⟩;show(g.steps++[_]).length+r.length=g.steps.length+(r.length+1);rw[QI];show g.steps.length+1+r.length=_;omega
theorem yY{w:Wd}(x:WOk w){ns:LN}(h:UK w ns):(∀s∈(LD w ns).steps,Y8 w s)/\(LD w ns).steps.length<=60:=by
 obtain⟨a,b⟩:=ve x ns ⟨[],[],[],[]⟩ ⟨λ_ z=>(by cases z),QZ _,λ_ z=>(by cases z),λ_ z=>(by cases z),rfl⟩ (Ge h) λ_ z=>by cases z
 have y:=z6 h;have u:=x.el;exact⟨a,QU (wa b) (by show 0+_<=_;omega)⟩
def Te(w:Wd)(st:List Stp):D:=.tuple [wD w,.list (st.map lL)]
def lm(w:Wd)(st:List Stp):T:=.tup [.d (wD w),.lst ((st.map lL).map T.d)]
theorem mq(w:Wd)(st:List Stp):(lm w st).er=Te w st:=by show PyData.tuple [wD w,.list (ersT ((st.map lL).map T.d))]=_;rw[bB];rfl
noncomputable def bM:PSp where
 md:=[]
 run:=λy Q _=>∃w:Wd,y=[.d (wD w)]/\WOk w/\∀x,UK w x->Q (lm w (LD w x).steps) []
 mono:=λh _ z=>by obtain⟨w,e,a,q⟩:=z;exact⟨w,e,a,λx b=>h _ _ (q x b)⟩
theorem R9{w:Wd}{K:T->LT->Prop}{E:XE}(h:WOk w)(q:∀ns,UK w ns->K (lm w (LD w ns).steps) []):EA bM [.d (wD w)] K E:=⟨w,rfl,h,q⟩
theorem Kp{a:D}{l:LT}:ZE [.d a,.lst l]=.tup [.d a,.lst l]:=rfl
theorem Ei{Ψ:PEv}(u:Ψ.sp "gone"=HG)(ds Q E)(h:bM.run ds Q E):ME Ψ fE bM XH yG ds Q:=by obtain⟨w,rfl,y,q⟩:=h;refine uA [bD (wD w)] rfl rfl rfl ?_;delta fE;simp_arith[↓vA (md:=[]) u rfl rfl];refine cS y λx z=>?_;simp_arith[↓Kp];exact⟨by omega,q x z⟩
section
variable{w:Wd}{st:List Stp}{n m:Bool}{R:T->Prop}{xs:List (T×Bool)}{C:LT->Prop}
theorem Hm:VA (.d (Te w st)) n (.d (.int 0)) m R=R (.d (wD w)):=GA (i:=0) rfl
theorem Gm:VA (.d (Te w st)) n (.d (.int 1)) m R=R (.d (.list (st.map lL))):=GA (i:=1) rfl
theorem Av:iB [] ((lm w st,true)::xs) C=iB [] xs λts=>C (.d (Te w st)::ts):=by have e:ZA [] ((lm w st,true)::xs) []=(ZA [] xs []).map (.d (lm w st).er::·):=rfl;unfold iB;rw[e,mq,zF]
end
theorem mw{s:Stp}{ρ:kA}{i j k l:Nat}{P:kA->Prop}:tY (.tp [i,j,k,l]) (.d (lL s)) ρ P=P ((((ρ.set i (bD (nD s.1))).set j (bD (.bool s.2.1))).set k (bD (.list (s.2.2.1.map nD)))).set l (bD (.list (s.2.2.2.map pr)))):=fB
section
variable{s:Stp}{n m:Bool}{R:T->Prop}
theorem Hs:VA (.d (lL s)) n (.d (.int 0)) m R=R (.d (nD s.1)):=GA (i:=0) rfl
theorem Ds:VA (.d (lL s)) n (.d (.int 3)) m R=R (.d (.list (s.2.2.2.map pr))):=GA (i:=3) rfl
end
def gI{α:Type}(l:List α)(i:Int)(d:α):α:=(YD l i).getD d
theorem yH{α:Type}{l:List α}{i:Int}{d:α}(z:0<=i)(y:i<l.length):YD l i=some (gI l i d)/\gI l i d∈l:=by obtain⟨v,x,h⟩:=GL z y;unfold gI;rw[x];exact⟨rfl,qU h⟩
theorem yE{α:Type}{f:α->D}{l:List α}{i:Int}(d:α){K:D->Prop}(x:0<=i)(h:i<l.length)(q:K (f (gI l i d))):kF (YD (l.map f) i) K:=by rw[VF,(yH (d:=d) x h).1];exact⟨_,rfl,q⟩
theorem UA(a:Int){m:Int}(h:0<m):0<=a % m/\a % m<m:=⟨Int.emod_nonneg _ (by omega),Int.emod_lt_of_pos _ h⟩
def Kk{α:Type}(f:α->D)(p:α×Nat):T:=.d (.tuple [.int (p.2:Int),f p.1])
theorem cW{α:Type}(f:α->D)(l:List α):((l.map f).zipIdx.map λp=>T.d (.tuple [.int (p.2:Int),p.1]))=l.zipIdx.map (Kk f):=by rw[List.zipIdx_map,Qa];rfl
theorem GW{Ψ:PEv}{E:XE}{c:PX}{s y r:PT}{Z:PEnds}{o:Option Sl}{σ:kA}:aB Ψ E (.seq (.ife c s y) r) Z (o::σ)=AN Ψ c E (o::σ) λk x=>if k=true then aB Ψ E s { Z with nx:=λh=>aB Ψ E r Z h } x else aB Ψ E y { Z with nx:=λh=>aB Ψ E r Z h } x:=rfl
section
variable{Ψ:PEv}{E:XE}{ρ:kA}{K:TK}{a h y g b c d:PX}{x:D}{n:Bool}{f:Str}{w:Operator}{i:Int}{j:Nat}
def A3(x:T)(n:Bool)(Ψ:PEv)(h y:PX)(E:XE)(p:kA)(K:TK):Prop:=sq (α:=Option Int) (gA x n) p (if isNop h=true then λρ (R:Option Int->kA->Prop)=>R none ρ else λρ R=>(pe Ψ h E).e ρ λl _ m=>kG l.er λo=>R o m) λl m =>
   sq (α:=Option Int) (gA x n) m (if isNop y=true then λρ (R:Option Int->kA->Prop)=>R none ρ else λρ R=>(pe Ψ y E).e ρ λu _ v=>kG u.er λo=>R o v) λu v=>RJ (gA x n).vw l u λz k=>K z k v
theorem eR:cB Ψ (.slc a h y) E ρ K=cB Ψ a E ρ λx n z=>A3 x n Ψ h y E z K:=rfl
theorem bq:A3 (.d x) n Ψ .nop (.bin w a b) E ρ K=cB Ψ (.bin w a b) E ρ λu _ v=>OO u λo=>mL (.d x) n none o λz k=>K z k v:=by cases n<;>rfl
theorem vv:A3 (.d x) n Ψ .nop (.zz j) E ρ K=cB Ψ (.zz j) E ρ λu _ v=>OO u λo=>mL (.d x) n none o λz k=>K z k v:=by cases n<;>rfl
theorem uv:A3 (.d x) n Ψ .nop (.ng i) E ρ K=mL (.d x) n none (some (-i)) λz k=>K z k ρ:=by cases n<;>rfl
theorem bv:A3 (.d x) n Ψ (.bin w a b) (.zz j) E ρ K=cB Ψ (.bin w a b) E ρ λu _ l=>OO u λo=>cB Ψ (.zz j) E l λv _ e=>OO v λp=>mL (.d x) n o p λz k=>K z k e:=by cases n<;>rfl
end
section
variable{k c m j:Int}{K:T->LT->Prop}{E:XE}{Ψ:PEv}{a b l:LN}{n:Bool}{Z:PEnds}{ws:LS}{o10:Option Sl}
def sB(h:LJ)(k:Int):Int:=if k<h.length then gI h k 0 else 0
noncomputable def LG:PSp where
 md:=[.yz]
 run:=λy Q _=>∃(x:LJ) (k:Int),y=[.lst ((x.map PyData.int).map T.d),.d (.int k)]/\0<=k/\Q (.d (.int (sB x k))) []
 mono:=λh _ z=>by obtain⟨x,k,e,a,q⟩:=z;exact⟨x,k,e,a,h _ _ q⟩
theorem d7{a b:LJ}(h:(a.map PyData.int).map T.d=(b.map PyData.int).map T.d):a=b:=(WT λx y e=>by injection e).mp ((WT λx y e=>by injection e).mp h)
theorem ZI{h:LJ}:EA LG [.lst ((h.map PyData.int).map T.d),.d (.int k)] K E=(0<=k/\K (.d (.int (sB h k))) []):=propext ⟨λ⟨x,_,e,a,q⟩=>by injection e with e1 e2;injection e1 with e1;cases d7 e1;cases e2;exact⟨a,q⟩,λq=>⟨h,k,rfl,q⟩⟩
theorem Cb(ds Q E)(h:LG.run ds Q E):ME Ψ eG LG fL FI ds Q:=by obtain⟨x,k,rfl,y,q⟩:=h;refine uA [some (.vz (.lst ((x.map PyData.int).map T.d))),bD (.int k)] rfl rfl rfl ?_;delta eG;simp_arith[QE];unfold sB at q;by_cases c:k<x.length;rw[if_pos c]at q;rw[if_pos (dT c)];exact yE 0 y c q;rw[if_neg c]at q;rw[if_neg (λz=>c (of_decide_eq_true z))];exact q
def nI(c k:Int):Int:=c % 2147483647 * (69621+1511 * k * k) % 2147483629
def fA(c k:Int):Int:=(nI c k+k) * (nI c k+5 * k+1) % 2147483587
theorem Kj(c k:Int):0<=fA c k/\fA c k<2147483587:=UA _ (by decide)
noncomputable def EE:PSp where
 md:=[]
 run:=λx Q _=>∃c k:Int,x=[.d (.int c),.d (.int k)]/\(0<=k/\k<=1000)/\Q (.d (.int (fA c k))) []
 mono:=λh _ z=>by obtain⟨c,k,e,a,q⟩:=z;exact⟨c,k,e,a,h _ _ q⟩
theorem NG:EA EE [.d (.int c),.d (.int k)] K E=((0<=k/\k<=1000)/\K (.d (.int (fA c k))) []):=propext ⟨λ⟨_,_,e,a,q⟩=>by cases e;exact⟨a,q⟩,λq=>⟨c,k,rfl,q⟩⟩
theorem Ii(ds Q E)(h:EE.run ds Q E):ME Ψ aK EE UP XM ds Q:=by obtain⟨c,k,rfl,⟨y,x⟩,q⟩:=h;refine uA [bD (.int c),bD (.int k),none] rfl rfl rfl ?_;delta aK;simp_arith[↓zA];have a:=UA c (show(0:Int)<2147483647 by decide);have b:0<=nI c k/\nI c k<2147483629:=UA _ (by decide);unfold nI at b;exact⟨sO.ok (.inl ⟨by decide,by decide⟩),sO.ok (.inr ⟨by omega,by omega⟩),sO.ok (.inl ⟨by omega,by omega⟩),sO.ok (.inl ⟨by decide,by decide⟩),sO.ok (.inl ⟨by omega,by omega⟩),q⟩
def sS(l:LN):Str:=⟨l.toArray⟩
theorem fM(a b:LN):sS a++sS b=sS (a++b):=by show(⟨a.toArray++b.toArray⟩:Str)=⟨(a++b).toArray⟩;rw[List.append_toArray]
theorem ID(l:LN):(sS l).length=l.length:=QN
theorem SU(l:LN):(sS l).cps.toList=l:=rfl
theorem Lh(h:sS a=sS b):a=b:=congrArg (λs:Str=>s.cps.toList) h
def UU(l:LN):Prop:=∀c∈l,c<128
theorem Fe(h:UU l):OkS (sS l):=by show(l.toArray).all _=true;rw[<- Array.all_toList,Q4];intro c hc;exact dT (QAE (h c hc) (by decide))
noncomputable abbrev dH:Str:="abcdefghijklmnopqrstuvwxyz"
def MB(n:Int):Nat:=97+(n % 26).toNat
theorem zN:dH.cps.toList=(Ql 26).map (·+97):=by decide +kernel
theorem DV(n:Int):MB n<128:=by have:=UA n (show(0:Int)<26 by decide);unfold MB;omega
theorem vc(n:Int):YD dH.cps.toList (n % 26)=some (MB n):=by
 have m:=UA n (show(0:Int)<26 by decide);have hl:dH.cps.toList.length=26:=by rw[zN];rfl
 obtain⟨v,x,h⟩:=GL (xs:=dH.cps.toList) m.1 (by rw[hl];exact m.2);rw[x];rw[zN,Qb,WF (by omega)]at h;have h:(n % 26).toNat+97=v:=Qk h;unfold MB;rw[<- h,Nat.add_comm]
theorem D6{P:Nat->Prop}(q:P (MB m)):dH.length<=sizeLine/\kF (YD dH.cps.toList (m % 26)) P:=by rw[vc,fB];exact⟨by rw[show dH.length=26 from rfl];omega,q⟩
theorem kU{P:Str->Prop}(h:a.length+b.length<=1000)(q:P (sS (a++b))):(sS a).length+(sS b).length<=sizeLine/\P (sS a++sS b):=by rw[ID,ID,fM];exact⟨by omega,q⟩
def fH:Int->Nat->LN
 |_,0=>[]|n,k+1=>MB n::fH (n / 26) k
theorem bC:∀(n:Int) (k:Nat),(fH n k).length=k
 |_,0=>rfl|n,k+1=>congrArg (·+1) (bC _ k)
theorem jH:∀(n:Int) (k:Nat),UU (fH n k)
 |_,0,c,h=>by cases h|n,k+1,c,h=>by rcases QL.mp h with rfl|h;exact DV n;exact jH _ k c h
noncomputable def GH:PSp where
 md:=[]
 run:=λx Q _=>∃n k:Int,x=[.d (.int n),.d (.int k)]/\(0<=k/\k<=100)/\Q (.d (.str (sS (fH n k.toNat)))) []
 mono:=λh _ z=>by obtain⟨n,k,e,a,q⟩:=z;exact⟨n,k,e,a,h _ _ q⟩
theorem jQ{n:Int}:EA GH [.d (.int n),.d (.int k)] K E=((0<=k/\k<=100)/\K (.d (.str (sS (fH n k.toNat)))) []):=propext ⟨λ⟨_,_,e,a,q⟩=>by cases e;exact⟨a,q⟩,λq=>⟨n,k,rfl,q⟩⟩
theorem yj(ds Q E)(h:GH.run ds Q E):ME Ψ aG GH dL DI ds Q:=by
 obtain⟨n,k,rfl,⟨v,u⟩,q⟩:=h;refine uA [bD (.int n),bD (.int k),none,none,none] rfl rfl rfl ?_;delta aG;simp_arith[↓zA];refine⟨by omega,by omega,?_⟩;refine CA (λ(i:Nat)=>T.d (.int (i:Int))) (λr x=>∃m l y,l++fH m r.length=fH n k.toNat/\x=[bD (.int m),bD (.int k),bD (.str dH),bD (.str (sS l)),y]) ?_ ?_ _ _ ⟨n,[],none,by rw[Qw];rfl,rfl⟩;rintro x ⟨m,l,y,e,rfl⟩;have e:l=fH n k.toNat:=by rw[<- e];exact(qM _).symm
 subst e;simp_arith[↓zA];exact q;rintro i r x N z ⟨m,l,y,e,rfl⟩;have hl:=congrArg qa e;rw[QI,bC,bC]at hl;delta ZH;simp_arith[↓zA];refine D6 (kU (a:=l) (b:=[MB m]) (P:=λs=>N [bD (.int (m / 26)),bD (.int k),bD (.str dH),bD (.str s),bD (.int (i:Int))]) (by show _+1<=_;omega) (z _ ⟨m / 26,l++[MB m],_,?_,rfl⟩));rw[qB];exact e
def Pp:LS:=["person","matter","against","see","tell","by","at","who","what","since","tellers"]
def Op:LS:=["wordings","apart","leans","hidden","strike","quote","ground","cut"]
def lst(z:Str):Nat:=z.cps.toList.getLast?.getD 0
noncomputable def Bu(z:Str):Bool:=decide (1<=z.length)&&decide (z.length<=10)&&decide (97<=lst z)&&decide (lst z<=122)&&(Q8 dH (sS [lst z]) 0 dH.length 1).head?==some (lst z - 97)
theorem S6:((Pp++Op).all Bu)=true:=by decide +kernel
def kM(l:LN):LN:=if sS l∈Pp++Op then l.dropLast++[MB ((lst (sS l) - 97:Nat)+13)] else l
theorem rh(h:UU l):UU (kM l):=by unfold kM;split;intro c hc;rcases Qf.mp hc with hc|hc;exact h c (List.dropLast_subset l hc);rw[QJ.mp hc];exact DV _;exact h
theorem yX(l:LN):(kM l).length=l.length:=by unfold kM;split;rename_i c;have k:=Q4.mp S6 _ c;unfold Bu at k;rw[QW,QW,QW,QW,decide_eq_true_iff,ID]at k;have:=k.1.1.1.1;rw[QI,wQ];show l.length - 1+1=_;omega;rfl
theorem B3{p:Nat}(h:l[p]?=some (MB m)):(kM l)[p]?=some (MB m)∨(kM l)[p]?=some (MB (m+13)):=by
 unfold kM;split;have y:p<l.length:=(Qg.mp h).1;by_cases c:p<l.length - 1;left;rw[qK (by rw[wQ];exact c),List.getElem?_dropLast,if_pos c];exact h;right;have e:p=l.length - 1:=by omega
 rw[Qu (by rw[wQ];omega),wQ,e,QA7];have x:lst (sS l)=MB m:=by unfold lst;rw[SU,QAS,<- e,h];rfl
 rw[x];show some (MB _)=_;have a:=UA m (show(0:Int)<26 by decide);unfold MB;congr 2;omega;exact .inl h
noncomputable def uD:PSp where
 md:=[]
 run:=λx Q _=>∃l:LN,x=[.d (.str (sS l))]/\l.length<=100/\Q (.d (.str (sS (kM l)))) []
 mono:=λh _ z=>by obtain⟨l,e,a,q⟩:=z;exact⟨l,e,a,h _ _ q⟩
theorem TY(h:l.length<=100)(q:K (.d (.str (sS (kM l)))) []):EA uD [.d (.str (sS l))] K E:=⟨l,rfl,h,q⟩
theorem MX(ks:LS):(ks.map PyData.str).all FB=true:=by rw[Q4];intro y h;obtain⟨x,_,rfl⟩:=QV.mp h;rfl
theorem R6(ks:LS)(z:Str):((ks.map PyData.str).any λy=>Qv y (.str z))=decide (z∈ks):=by rw[qC,w8,decide_eq_true_iff];constructor;rintro⟨y,u,h⟩;obtain⟨x,v,rfl⟩:=QV.mp u;rw[gK,decide_eq_true_iff]at h;exact h▸v;exact λh=>⟨_,QV.mpr ⟨z,h,rfl⟩,by rw[gK];exact dT rfl⟩
theorem R3(h:1<=l.length):wo (sS l) none (some (-1))=sS l.dropLast:=by show QAa (sS l) none (some (-1))=_;rw[StrLaws.sliceText_to_neg (by decide) (by rw[ID];omega),List.drop_zero,ID,SU,List.dropLast_eq_take];unfold sS;congr 3;omega
theorem Rs{m:Bool}{R:T->Prop}(h:1<=l.length)(y:l.length<=10):VA (.d (.str (sS l))) n (.d (.int (-1))) m R=R (.d (.str (sS [lst (sS l)]))):=by
 have x:YD (sS l).cps.toList (-1)=some (lst (sS l)):=by unfold lst YD XR;rw[SU,if_neg (by decide),if_pos (by omega)];show l[_]?=_;rw[show((-1:Int)+l.length).toNat=l.length - 1 by omega,QAS,Qm (by omega)];rfl
 rw[Ls,x,fB,ID];exact propext ⟨λh=>h.2,λh=>⟨by omega,h⟩⟩
theorem N3{Q:T->LT->Prop}{z:Str}{w:Option Sl}(hk:z∈Pp++Op)(q:Q (.d (.str (sS (kM z.cps.toList)))) []):cH Ψ (λ_=>False) (eZ Q).rt (.bin .Add (.slc (.zz 0) .nop (.ng 1)) (.idx (.zz 1) (.bin .Mod (.bin .Add (.mt .index (.zz 1) %[.idx (.zz 0) (.ng 1)|1]) (.int 13)) (.int 26)))) [bD (.str z),bD (.str dH),w]:=by
 have k:=Q4.mp S6 z hk;unfold Bu at k;rw[QW,QW,QW,QW,decide_eq_true_iff,decide_eq_true_iff,decide_eq_true_iff,decide_eq_true_iff,beq_iff_eq]at k;obtain⟨⟨⟨⟨x,v⟩,g⟩,f⟩,h⟩:=k;have e:z=sS z.cps.toList:=rfl;generalize hl:z.cps.toList=l at *;subst e;rw[ID]at x v;cases y:Q8 dH (sS [lst (sS l)]) 0 dH.length 1 with|nil=>rw[y]at h;cases h|cons i u=>rw[y]at h;have h:i=lst (sS l) - 97:=Qk h;unfold kM at q;rw[if_pos hk,<- h]at q;rw[U8,R8,eR];simp_arith[↓uv];refine⟨by rw[ID];omega,?_⟩;rw[R3 x];refine gw y (λK=>rfl) (λK=>?_) ?_;exact Rs x v;simp_arith[↓zA];exact D6 (kU (a:=l.dropLast) (b:=[MB ((i:Int)+13)]) (P:=λs=>Q (.d (.str s)) []) (by rw[wQ];show _+1<=_;omega) q)
theorem M5(ds Q E)(h:uD.run ds Q E):ME Ψ rK uD ZP ZM ds Q:=by obtain⟨l,rfl,hl,q⟩:=h;refine uA [bD (.str (sS l)),none,none] rfl rfl rfl ?_;delta rK;simp?[↓zA];refine⟨by omega,?_⟩;show rL Ψ (λ_=>False) _ (eZ Q) 2 (.lst ((Pp.map PyData.str).map T.d)) true [bD (.str (sS l)),bD (.str dH),none];rw[Vs];simp_arith[↓Nl];rw[R6];refine⟨.inl ⟨rfl,MX _⟩,?_⟩;by_cases y:sS l∈Pp;rw[dT y];exact N3 (Qn _ y) q;rw[dF y];refine⟨by omega,?_⟩;show NB .In (.d (.str (sS l))) (.d (.list (Op.map PyData.str))) _;rw[x8,R6];refine⟨.inl ⟨rfl,MX _⟩,?_⟩;by_cases x:sS l∈Op;rw[dT x];exact N3 (QX _ x) q;rw[dF x];unfold kM at q;rw[if_neg λz=>(Qf.mp z).elim y x]at q;exact q
def XF(n:Int):LN:=fH (n * n+n) 8
def nH(n:Int):Int:=1+n / 3 % 8
def T2(n:Int):Int:=n / 24 % nH n
noncomputable def XB(c:Int)(k:Nat):LN :=
 if fA c 1 % 3=0 then(XF (fA c 1)).take (T2 (fA c 1)).toNat++[MB (fA c 1 / 192+k)]++((XF (fA c 1)).drop (T2 (fA c 1)+1).toNat).take (nH (fA c 1) - (T2 (fA c 1)+1)).toNat
 else if fA c 1 % 3=1 then(XF (fA c 1)).take (1+(fA c 1 / 24+k) % 8).toNat
 else([MB (fA c 1 / 192+k)]++fH (fA c (k+2)) 7).take (1+fA c (k+40) % 8).toNat
theorem B2(n:Int):(1<=nH n/\nH n<=8)/\0<=T2 n/\T2 n<nH n:=by
 have a:=UA (n / 3) (show(0:Int)<8 by decide);have b:1<=nH n/\nH n<=8:=by unfold nH;omega
 exact⟨b,UA _ (by omega)⟩
theorem UU.take(h:UU l)(n:Nat):UU (l.take n):=λc hc=>h c (List.mem_of_mem_take hc)
theorem UU.drop(h:UU l)(n:Nat):UU (l.drop n):=λc hc=>h c (List.mem_of_mem_drop hc)
theorem UU.app(h:UU a)(g:UU b):UU (a++b):=λc hc=>(Qf.mp hc).elim (h c) (g c)
theorem C6(n:Int):UU [MB n]:=λc hc=>by rw[QJ.mp hc];exact DV n
theorem g9(c:Int)(k:Nat):UU (XB c k):=by
 unfold XB;split;exact(((jH _ _).take _).app (C6 _)).app (((jH _ _).drop _).take _);split
 ·exact(jH _ _).take _
 exact((C6 _).app (jH _ _)).take _
theorem G2(c:Int)(k:Nat):(XB c k).length<=20:=by
 have b:(XF (fA c 1)).length=8:=bC _ _;unfold XB;split;rw[QI,QI,qJ,qJ,QAo,b];show _+1+_<=20;omega;split
 ·rw[qJ,b];omega
 rw[qJ,QI,bC];show min _ (1+7)<=20;omega
theorem f9{i j:Nat}(o:i<6)(g:j<6)(h:kM (XB c i)=kM (XB c j)):i=j:=by
 have key:∀(p:Nat) (a:Int),(∀k,(XB c k)[p]?=some (MB (a+k)))->i=j:=λp a e=>by
  have z:=B3 (e i);have u:=B3 (e j);rw[h]at z;have l:∀{x y:Int},MB x=MB y->x % 26=y % 26:=λ{x y} e=>by have:=UA x (show(0:Int)<26 by decide);have:=UA y (show(0:Int)<26 by decide);unfold MB at e;omega
  rcases z with z|z<;>rcases u with u|u<;>have:=l (Qk (z.symm.trans u))<;>omega
 have b:(XF (fA c 1)).length=8:=bC _ _;have ws:=B2 (fA c 1);by_cases v:fA c 1 % 3=0;refine key (T2 (fA c 1)).toNat (fA c 1 / 192) λk=>?_;unfold XB;have f:((XF (fA c 1)).take (T2 (fA c 1)).toNat).length=(T2 (fA c 1)).toNat:=by rw[qJ,b];omega
 rw[if_pos v,qB,Qu (by omega),f,QA7];rfl;by_cases w:fA c 1 % 3=1
 ·have e:=congrArg qa h
  rw[yX,yX]at e;have a:∀k,(XB c k).length=(1+(fA c 1 / 24+k) % 8).toNat:=λk=>by have:=UA (fA c 1 / 24+k) (show(0:Int)<8 by decide);unfold XB;rw[if_neg v,if_pos w,qJ,b];omega
  rw[a,a]at e;have:=UA (fA c 1 / 24+i) (show(0:Int)<8 by decide);have:=UA (fA c 1 / 24+j) (show(0:Int)<8 by decide);omega
 refine key 0 (fA c 1 / 192) λk=>?_;have m:=UA (fA c (k+40)) (show(0:Int)<8 by decide);unfold XB;rw[if_neg v,if_neg w];obtain⟨t,e⟩:∃t,(1+fA c (k+40) % 8).toNat=t+1:=⟨(fA c (k+40) % 8).toNat,by omega⟩
 rw[e];rfl
noncomputable def TD(c:Int)(m:Nat):LS:=if fA c 1 / 5000 % 2=1 then((Ql m).map λk=>sS (kM (XB c k))).reverse else(Ql m).map λk=>sS (kM (XB c k))
theorem BR(c:Int){m:Nat}(h:m<=6):(TD c m).Nodup/\(TD c m).length=m/\∀x∈TD c m,OkS x:=by
 have nd:((Ql m).map λk=>sS (kM (XB c k))).Nodup:=by refine QB0.mpr (wZ (λ{i j} v u z e=>z ?_) List.nodup_range);have:=qP.mp v;have:=qP.mp u;exact f9 (by omega) (by omega) (Lh e)
 have ok:∀x∈(Ql m).map λk=>sS (kM (XB c k)),OkS x:=λx y=>by obtain⟨k,_,rfl⟩:=QV.mp y;exact Fe (rh (g9 c k))
 unfold TD;split;exact⟨(List.reverse_perm _).nodup_iff.mpr nd,by rw[we,QE,Qw],λx y=>ok x (QCI.mp y)⟩;exact⟨nd,by rw[QE,Qw],ok⟩
noncomputable def pE:PSp where
 md:=[]
 run:=λx Q _=>∃(c:Int) (m:Nat),x=[.d (.int c),.d (.int (m:Int)),.d (.int 8)]/\m<=10/\Q (.lst (((TD c m).map PyData.str).map T.d)) []
 mono:=λh _ z=>by obtain⟨c,m,e,a,q⟩:=z;exact⟨c,m,e,a,h _ _ q⟩
theorem SY{m:Nat}(h:m<=10)(q:K (.lst (((TD c m).map PyData.str).map T.d)) []):EA pE [.d (.int c),.d (.int (m:Int)),.d (.int 8)] K E:=⟨c,m,rfl,h,q⟩
theorem cM(x:0<=j)(h:j<=l.length):wo (sS l) none (some j)=sS (l.take j.toNat):=by show QAa (sS l) none (some j)=_;rw[StrLaws.sliceText_to ⟨x,h⟩,List.drop_zero,Int.sub_zero];rfl
theorem NY{i:Int}(y:0<=i)(x:i<=j)(h:j<=l.length):wo (sS l) (some i) (some j)=sS ((l.drop i.toNat).take (j - i).toNat):=by show QAa (sS l) (some i) (some j)=_;rw[StrLaws.sliceText_plain ⟨y,x,h⟩];rfl
noncomputable def N2(c:Int)(m:Int)(ws:LS)(x o10 h:Option Sl):kA:=[bD (.int c),bD (.int m),bD (.int 8),bD (.str dH),bD (.int (fA c 1)),bD (.str (sS (XF (fA c 1)))),bD (.int (nH (fA c 1))),bD (.int (T2 (fA c 1))),oW (.lst ((ws.map PyData.str).map T.d)),x,o10,h]
theorem Am(x:Ψ.sp "_law_spelt"=uD){h:Option Sl}(hl:l.length<=20)(y:ws.length<=100)(q:Z.nx (N2 c m (ws++[sS (kM l)]) h o10 (bD (.str (sS l))))):pF Ψ TC Z (N2 c m ws h o10 (bD (.str (sS l)))):=by unfold N2 at q;rw[QO,QO]at q;delta N2;delta TC;simp_arith[↓vA (md:=[]) x rfl rfl];refine TY (by omega) ?_;simp_arith[QE];exact⟨by omega,q⟩
theorem zt(X:Ψ.sp "_law_spelt"=uD)(s:Ψ.sp "_law_mixed"=EE)(p:Ψ.sp "_law_letters"=GH){k:Nat}{h:Option Sl}(hk:k<=100)(f:ws.length<=100)(q:∀o10 h,Z.nx (N2 c m (ws++[sS (kM (XB c k))]) (bD (.int (k:Int))) o10 h)):pF Ψ tG Z (N2 c m ws (bD (.int (k:Int))) o10 h):=by
 have v:(XF (fA c 1)).length=8:=bC _ _;have g:=B2 (fA c 1);have r:∀(l:LN) (o10:Option Sl),l=XB c k->pF Ψ TC Z (N2 c m ws (bD (.int (k:Int))) o10 (bD (.str (sS l)))):=by rintro l o10 rfl;exact Am X (G2 c k) f (q _ _)
 delta N2;delta tG;simp_arith[↓GW];refine D6 ?_;have w:(sS (XF (fA c 1))).length<=sizeLine:=by rw[ID,v];omega
 by_cases y:fA c 1 % 3=0;have x:wo (sS (XF (fA c 1))) none (some (T2 (fA c 1)))=_:=cM g.2.1 (by omega);have i:wo (sS (XF (fA c 1))) (some (T2 (fA c 1)+1)) (some (nH (fA c 1)))=_:=NY (by omega) (by omega) (by omega);have r:=r _ (bD (.str (sS [MB (fA c 1 / 192+k)]))) (show _=XB c k from(if_pos y).symm);rw[<- fM,<- fM]at r;rw[if_pos (dT y)];simp_arith[↓eR,↓vv,↓bv,↓ga,x,i];refine⟨w,(kU (P:=λ_=>True) (b:=[MB (fA c 1 / 192+k)]) (by rw[qJ,v];show _+1<=_;omega) trivial).1,w,?_,r⟩;rw[show(⟨#[MB (fA c 1 / 192+k)]⟩:Str)=sS [MB (fA c 1 / 192+k)] from rfl,fM];refine(kU (P:=λ_=>True) ?_ trivial).1;rw[QI,qJ,qJ,QAo,v];show _+1+_<=_;omega;rw[if_neg λz=>y (of_decide_eq_true z)];by_cases u:fA c 1 % 3=1;have m:=UA (fA c 1 / 24+k) (show(0:Int)<8 by decide);have x:wo (sS (XF (fA c 1))) none (some (1+(fA c 1 / 24+k) % 8))=_:=cM (by omega) (by omega);have r:=r _ (bD (.str (sS [MB (fA c 1 / 192+k)]))) (show _=XB c k from((if_neg y).trans (if_pos u)).symm);rw[if_pos (dT u)];simp_arith[↓eR,↓bq,↓ga,x];exact⟨w,r⟩;have m:=UA (fA c (k+40)) (show(0:Int)<8 by decide);have o:([MB (fA c 1 / 192+k)]++fH (fA c (k+2)) 7).length=8:=by rw[QI,bC];rfl
 have x:wo (sS ([MB (fA c 1 / 192+k)]++fH (fA c (k+2)) 7)) none (some (1+fA c (k+40) % 8))=_:=cM (by omega) (by omega);have r:=r _ (bD (.str (sS [MB (fA c 1 / 192+k)]))) (show _=XB c k from((if_neg y).trans (if_neg u)).symm);rw[if_neg λz=>u (of_decide_eq_true z)];simp?[↓eR,↓bq,↓ga,↓vA (md:=[]) s rfl rfl,↓vA (md:=[]) p rfl rfl,↓NG,↓jQ];have e:(⟨#[MB (fA c 1 / 192+k)]⟩:Str)++sS (fH (fA c (k+2)) (QCV 7))=sS ([MB (fA c 1 / 192+k)]++fH (fA c (k+2)) 7):=fM _ _;rw[e,x];refine⟨by omega,by omega,(kU (a:=[MB (fA c 1 / 192+k)]) (b:=fH (fA c (k+2)) 7) (P:=λ_=>True) (by rw[bC];show 1+7<=_;omega) trivial).1,by omega,by omega,by rw[ID,o];omega,r⟩
theorem zu{ds:List D}{Q:T->Bool->Prop}(q:Q (.lst (ds.reverse.map T.d)) true):ja (gA (.lst (ds.map T.d)) n).vw Q:=by rw[lD];exact⟨_,ds,rfl,XA ds,q⟩
theorem L5(X:Ψ.sp "_law_spelt"=uD)(o:Ψ.sp "_law_mixed"=EE)(f:Ψ.sp "_law_letters"=GH)(ds Q E)(h:pE.run ds Q E):ME Ψ pK pE JP YM ds Q:=by obtain⟨c,m,rfl,A,q⟩:=h;have Y:=B2 (fA c 1);have W:=Kj c 1;refine uA [bD (.int c),bD (.int (m:Int)),bD (.int 8),none,none,none,none,none,none,none,none,none] rfl rfl rfl ?_;delta pK;simp_arith[↓vA (md:=[]) o rfl rfl,↓vA (md:=[]) f rfl rfl,↓NG,↓jQ];refine⟨sO.ok (.inl ⟨by omega,by omega⟩),by omega,by omega,by omega,by omega,?_⟩;rw[qY];refine CA (λ(i:Nat)=>T.d (.int (i:Int))) (λr v=>∃ws w o10 y,ws++r.map (λk=>sS (kM (XB c k)))=(Ql m).map (λk=>sS (kM (XB c k)))/\(∀k∈r,k<=100)/\v=N2 c m ws w o10 y) ?_ ?_ _ _ ⟨[],none,none,none,rfl,λk hk=>by have:=qP.mp hk;omega,rfl⟩;rintro v ⟨ws,w,o10,y,e,_,rfl⟩;rw[wn,qM]at e;subst e;delta N2;unfold TD at q;simp_arith[↓zA];by_cases u:fA c 1 / 5000 % 2=1;rw[if_pos u]at q;rw[if_pos (dT u)];show ja (gA (T.lst ((((Ql m).map λk=>sS (kM (XB c k))).map PyData.str).map T.d)) false).vw λz k=>YH z k=true/\Q z [];refine zu ?_;rw[<- Wp];exact⟨rfl,q⟩;rw[if_neg u]at q;rw[if_neg λz=>u (of_decide_eq_true z)];exact q;rintro k r v N s ⟨ws,w,o10,y,e,g,rfl⟩;have hl:=congrArg qa e;rw[QI,QE,QE,Qw]at hl;delta N2;refine zt X o f (g k QF) (by omega) λo10 y=>s _ ⟨_,_,o10,y,?_,λx p=>g x (QD _ p),rfl⟩;rw[qB];exact e
noncomputable def gZ(x:Str)(m:Int):Str×Int×Int×Int:=(x,gI [99,50,20,99,0,50,99,21] (m / 6 % 8) 0,gI [0,0,0,20,50,99] (m % 6) 0,gI [1,1,1,2,2,3] (m / 48 % 6) 0)
noncomputable def xM:PSp where
 md:=[]
 run:=λy Q _=>∃(x:Str) (m:Int),y=[.d (.str x),.d (.int m)]/\Q (.d (mI (gZ x m))) []
 mono:=λh _ z=>by obtain⟨x,m,e,q⟩:=z;exact⟨x,m,e,h _ _ q⟩
theorem O9{x:Str}(q:K (.d (mI (gZ x m))) []):EA xM [.d (.str x),.d (.int m)] K E:=⟨x,m,rfl,q⟩
end
section
variable{a b c d e f g h:D}{n m:Bool}{t:T}{R:T->Prop}
theorem Ts:VA (.lst [.d a,.d b,.d c,.d d,.d e,.d f]) n t m R=VA (.lst ([a,b,c,d,e,f].map T.d)) n t m R:=rfl
theorem Ss:VA (.lst [.d a,.d b,.d c,.d d,.d e,.d f,.d g,.d h]) n t m R=VA (.lst ([a,b,c,d,e,f,g,h].map T.d)) n t m R:=rfl
end
section
variable{Ψ:PEv}{k j:Nat}{ms ns:LS}{m X i:Int}{K:T->LT->Prop}{E:XE}{Z:PEnds}{s:Int×List Pt}{Y x:Str}{evs:List Evt}{n:Bool}{cs is:LJ}{w:Wd}{st:List Stp}{p:Pt}{o:Option Int}{o6:Option Sl}{d:Bool×LJ}
theorem Ti(ds Q E)(h:xM.run ds Q E):ME Ψ vI xM MN PK ds Q:=by obtain⟨x,m,rfl,q⟩:=h;have u:=UA m (show(0:Int)<6 by decide);have z:=UA (m / 6) (show(0:Int)<8 by decide);have y:=UA (m / 48) (show(0:Int)<6 by decide);refine uA [bD (.str x),bD (.int m),none,none] rfl rfl rfl ?_;delta vI;simp?[↓Ts,↓Ss];refine⟨by omega,yE (f:=PyData.int) (l:=[0,0,0,20,50,99]) 0 u.1 u.2 ?_⟩;refine⟨by omega,yE (f:=PyData.int) (l:=[99,50,20,99,0,50,99,21]) 0 z.1 z.2 ?_⟩;refine⟨by omega,yE (f:=PyData.int) (l:=[1,1,1,2,2,3]) 0 y.1 y.2 ?_⟩;exact⟨by omega,q⟩
noncomputable def Hl(ms:LS)(m:Int)(j k:Nat):List Pt:=if m % 3=0 then[(gI ms (j:Int) "",gI ms (k:Int) "")] else if m % 3=1 then[(gI ms (k:Int) "",gI ms (j:Int) "")] else[]
def Vd(ms:LS)(j:Nat)(s:Int×List Pt)(k:Nat):Int×List Pt:=(s.1 / 3,s.2++Hl ms (s.1 / 3) j k)
def Xd(ms:LS)(s:Int×List Pt)(j:Nat):Int×List Pt:=(Ql j).foldl (Vd ms j) s
def Xm(ms:LS)(m:Int):List Pt:=((Ql ms.length).foldl (Xd ms) (m,[])).2
theorem IQ{α:Type}{l:List α}{d:α}(h:k<l.length):YD l (k:Int)=some (gI l (k:Int) d)/\gI l (k:Int) d∈l:=yH (QBm k) (by omega)
def YU(ms:LS)(l:List Pt):Prop:=∀p∈l,p.1∈ms/\p.2∈ms
theorem t8(y:j<ms.length)(hk:k<ms.length):YU ms (Hl ms m j k)/\(Hl ms m j k).length<=1:=by
 have a:=(IQ (d:=("":Str)) y).2;have b:=(IQ (d:=("":Str)) hk).2;unfold Hl;split;exact⟨λp h=>by rw[QJ.mp h];exact⟨a,b⟩,QZ _⟩;split
 ·exact⟨λp h=>by rw[QJ.mp h];exact⟨b,a⟩,QZ _⟩
 exact⟨λp h=>(by cases h),Qt _⟩
theorem FW{ms:LS}{j:Nat}(y:j<ms.length):∀(l:LN) (s:Int×List Pt),(∀k∈l,k<ms.length)->YU ms s.2->YU ms (l.foldl (Vd ms j) s).2/\(l.foldl (Vd ms j) s).2.length<=s.2.length+l.length
 |[],s,_,h=>⟨h,QZ _⟩|k::l,s,hl,h=>by obtain⟨a,b⟩:=t8 (m:=s.1 / 3) y (hl k QF);obtain⟨c,d⟩:=FW y l (Vd ms j s k) (λx z=>hl x (QD _ z)) λp u=>(Qf.mp u).elim (h p) (a p);refine⟨c,QU d ?_⟩;show(s.2++Hl ms (s.1 / 3) j k).length+l.length<=s.2.length+(l.length+1);rw[QI];omega
theorem e8{ms:LS}(u:ms.length<=10):∀(l:LN) (s:Int×List Pt),(∀k∈l,k<ms.length)->YU ms s.2->YU ms (l.foldl (Xd ms) s).2/\(l.foldl (Xd ms) s).2.length<=s.2.length+10 * l.length
 |[],s,_,h=>⟨h,QZ _⟩|j::l,s,hl,h=>by have y:=hl j QF;obtain⟨a,b⟩:=FW y (Ql j) s (λk hk=>QAE (qP.mp hk) y) h;obtain⟨c,d⟩:=e8 u l (Xd ms s j) (λx z=>hl x (QD _ z)) a;rw[Qw]at b;refine⟨c,QU d ?_⟩;show((Ql j).foldl (Vd ms j) s).2.length+_<=s.2.length+10 * (l.length+1);omega
theorem Ll(y:ms.length<=10)(m:Int):YU ms (Xm ms m)/\(Xm ms m).length<=100:=by
 obtain⟨a,b⟩:=e8 y (Ql ms.length) (m,[]) (λk hk=>qP.mp hk) λp h=>by cases h
 rw[Qw]at b;exact⟨a,QU b (by show 0+_<=_;omega)⟩
noncomputable def JI:PSp where
 md:=[]
 run:=λy Q _=>∃(ms:LS) (m:Int),y=[.d (.list (ms.map PyData.str)),.d (.int m)]/\ms.length<=10/\Q (.lst (((Xm ms m).map pr).map T.d)) []
 mono:=λh _ z=>by obtain⟨ms,m,e,a,q⟩:=z;exact⟨ms,m,e,a,h _ _ q⟩
theorem V4(h:ms.length<=10)(q:K (.lst (((Xm ms m).map pr).map T.d)) []):EA JI [.d (.list (ms.map PyData.str)),.d (.int m)] K E:=⟨ms,m,rfl,h,q⟩
noncomputable def r8(ms:LS)(s:Int×List Pt)(o3 o4:Option Sl):kA:=[bD (.list (ms.map PyData.str)),bD (.int s.1),oW (.lst ((s.2.map pr).map T.d)),o3,o4]
theorem Mv(a:j<ms.length)(hk:k<ms.length)(b:s.2.length<=1000)(q:Z.nx (r8 ms (Vd ms j s k) (bD (.int (j:Int))) (bD (.int (k:Int))))):pF Ψ lE Z (r8 ms s (bD (.int (j:Int))) (bD (.int (k:Int)))):=by
 have u:YD (ms.map PyData.str) (k:Int)=some (.str (gI ms (k:Int) "")):=by rw[VF,(IQ (d:=("":Str)) hk).1];rfl
 have v:YD (ms.map PyData.str) (j:Int)=some (.str (gI ms (j:Int) "")):=by rw[VF,(IQ (d:=("":Str)) a).1];rfl
 unfold r8 Vd Hl at q;delta r8;delta lE;simp_arith[↓GW];by_cases y:s.1 / 3 % 3=0;rw[if_pos y,QO,QO]at q;rw[if_pos (dT y)];simp_arith[u,v,QE];exact⟨by omega,by omega,q⟩;rw[if_neg y]at q;rw[if_neg λz=>y (of_decide_eq_true z)];by_cases h:s.1 / 3 % 3=1;rw[if_pos h,QO,QO]at q;rw[if_pos (dT h)];simp_arith[u,v,QE];exact⟨by omega,by omega,q⟩;rw[if_neg h,qM]at q;rw[if_neg λz=>h (of_decide_eq_true z)];exact q
theorem Lv{o4:Option Sl}(z:j<ms.length)(l:ms.length<=10)(g:YU ms s.2)(f:s.2.length<=100)(q:∀o4,Z.nx (r8 ms (Xd ms s j) (bD (.int (j:Int))) o4)):pF Ψ gE Z (r8 ms s (bD (.int (j:Int))) o4):=by delta r8;delta gE;simp_arith[qY];refine⟨by omega,by omega,?_⟩;refine CA (λ(i:Nat)=>T.d (.int (i:Int))) (λr y=>∃h o4,r.foldl (Vd ms j) h=Xd ms s j/\(h.2.length+r.length<=200/\∀k∈r,k<ms.length)/\y=r8 ms h (bD (.int (j:Int))) o4) ?_ ?_ _ _ ⟨s,o4,rfl,⟨by rw[Qw];omega,λk hk=>QAE (qP.mp hk) z⟩,rfl⟩;rintro y ⟨h,o4,e,_,rfl⟩;have e:h=Xd ms s j:=e;subst e;delta r8;simp_arith[↓zA];exact q _;rintro k r y N b ⟨h,o4,e,⟨v,u⟩,rfl⟩;have v:h.2.length+(r.length+1)<=200:=v;have hk:=u k QF;refine Mv z hk (by omega) (b _ ⟨_,_,e,⟨?_,λx a=>u x (QD _ a)⟩,rfl⟩);have:=(t8 (ms:=ms) (m:=h.1 / 3) z hk).2;show(h.2++Hl ms (h.1 / 3) j k).length+r.length<=200;rw[QI];omega
theorem Db(ds Q E)(h:JI.run ds Q E):ME Ψ iG JI gL HI ds Q:=by obtain⟨ms,m,rfl,C,q⟩:=h;refine uA [bD (.list (ms.map PyData.str)),bD (.int m),none,none,none] rfl rfl rfl ?_;delta iG;simp_arith[QE,qY];refine⟨by omega,by omega,by omega,?_⟩;refine CA (λ(i:Nat)=>T.d (.int (i:Int))) (λr u=>∃y v z,r.foldl (Xd ms) y=(Ql ms.length).foldl (Xd ms) (m,[])/\(y.2.length+10 * r.length<=100/\YU ms y.2/\∀k∈r,k<ms.length)/\u=r8 ms y v z) ?_ ?_ _ _ ⟨(m,[]),none,none,rfl,⟨by rw[Qw];show 0+_<=_;omega,(λp B=>by cases B),λk hk=>qP.mp hk⟩,rfl⟩;rintro u ⟨y,v,z,e,_,rfl⟩;have e:y.2=Xm ms m:=congrArg QCJ e;delta r8;simp_arith[↓zA];rw[e];exact q;rintro j r u N F ⟨y,v,z,e,⟨W,l,g⟩,rfl⟩;have W:y.2.length+10 * (r.length+1)<=100:=W;have f:=g j QF;obtain⟨a,b⟩:=FW f (Ql j) y (λk hk=>QAE (qP.mp hk) f) l;rw[Qw]at b;refine Lv f C l (by omega) λz=>F _ ⟨_,_,z,e,⟨?_,a,λx A=>g x (QD _ A)⟩,rfl⟩;show((Ql j).foldl (Vd ms j) y).2.length+10 * r.length<=100;omega
noncomputable def re(Y:Str)(X:Int)(s:Str×LS):Evt->Str×LS
 | .see _ _ _ _=>s|.tell _ a b m _ _=>if b=s.1/\m=Y/\(s.2.length:Int)<X then(a,s.2++[a]) else s
theorem N4{s:Str×LS}{t:Int}{a b m w:Str}{q:LS}:re Y X s (.tell t a b m w q)=if b=s.1/\m=Y/\(s.2.length:Int)<X then(a,s.2++[a]) else s:=rfl
def Mr(evs:List Evt)(x Y:Str)(X:Int):LS:=(evs.reverse.foldl (re Y X) (x,[])).2
def gH(evs:List Evt):T:=.lst ((evs.map jD).map T.d)
noncomputable def PF:PSp where
 md:=[.yz]
 run:=λy Q _=>∃(evs:List Evt) (x Y:Str) (X:Int),y=[gH evs,.d (.str x),.d (.str Y),.d (.int X)]/\evs.length<=1000/\Q (.d (.tuple ((Mr evs x Y X).map PyData.str))) []
 mono:=λh _ z=>by obtain⟨evs,x,Y,X,e,a,q⟩:=z;exact⟨evs,x,Y,X,e,a,h _ _ q⟩
theorem EY(h:evs.length<=1000)(q:K (.d (.tuple ((Mr evs x Y X).map PyData.str))) []):EA PF [gH evs,.d (.str x),.d (.str Y),.d (.int X)] K E:=⟨evs,x,Y,X,rfl,h,q⟩
noncomputable def xm(evs:List Evt)(x Y:Str)(X:Int)(s:Str×LS)(o6:Option Sl):kA:=[some (.vz (gH evs)),bD (.str x),bD (.str Y),bD (.int X),oW (.lst ((s.2.map PyData.str).map T.d)),bD (.str s.1),o6]
theorem Pe{ds:List D}{Q:T->Bool->Prop}:rP .tuple [(.lst (ds.map T.d),n)] Q=Q (.d (.tuple ds)) false:=by unfold rP SB;rw[lD];show Y1 .tuple [.ls (ds.map T.d)] Q=_;rw[Gf];exact propext ⟨λ⟨_,e,q⟩=>by rw[XA]at e;cases e;exact q,λq=>⟨_,XA _,q⟩⟩
theorem ou{s:Str×LS}{e:Evt}(hl:s.2.length<=10000)(q:Z.nx (xm evs x Y X (re Y X s e) (bD (jD e)))):pF Ψ PD Z (xm evs x Y X s (bD (jD e))):=by
 delta xm;cases e with|see t p m v=>delta PD;simp_arith[↓CU,z9];exact bN (show decide ((QY "see")=(QY "tell"))≠true by decide) q|tell t a b m v f=>rw[N4]at q;delta PD;simp_arith[↓CU,z9,↓V2,↓K2,↓Y2,QE];by_cases u:b=s.1;rw[if_pos (dT u)];by_cases y:m=Y;rw[if_pos (dT y)];by_cases h:(s.2.length:Int)<X;rw[if_pos ⟨u,y,h⟩]at q;unfold xm at q;rw[QO,QO]at q;rw[if_pos (dT h)];exact⟨by omega,q⟩;rw[if_neg λz=>h z.2.2]at q;rw[if_neg λz=>h (of_decide_eq_true z)];exact q;rw[if_neg λz=>y z.2.1]at q;rw[if_neg λz=>y (of_decide_eq_true z)];exact q;rw[if_neg λz=>u z.1]at q;rw[if_neg λz=>u (of_decide_eq_true z)];exact q
theorem ca(Y:Str)(X:Int)(s:Str×LS)(e:Evt):(re Y X s e).2.length<=s.2.length+1:=by
 cases e with|see t p m h=>exact wH _|tell t a b m h q=>rw[N4];split;show(s.2++[a]).length<=_;rw[QI];exact QZ _;exact wH _
theorem O5(ds Q E)(h:PF.run ds Q E):ME Ψ sK PF KP KM ds Q:=by obtain⟨evs,x,Y,X,rfl,hl,q⟩:=h;refine uA [some (.vz (gH evs)),bD (.str x),bD (.str Y),bD (.int X),none,none,none] rfl rfl rfl ?_;delta gH;delta sK;simp_arith[↓zA];refine⟨by omega,?_⟩;rw[<- Wp,<- oA jD];refine CA (λe=>T.d (jD e)) (λr y=>∃s o6,r.foldl (re Y X) s=evs.reverse.foldl (re Y X) (x,[])/\s.2.length+r.length<=1000/\y=xm evs x Y X s o6) ?_ ?_ _ _ ⟨(x,[]),none,rfl,by rw[we];show 0+_<=_;omega,rfl⟩;rintro y ⟨s,o6,e,_,rfl⟩;have e:s.2=Mr evs x Y X:=congrArg QCJ e;delta xm;simp_arith[↓Pe];rw[e];exact q;rintro ev r y N z ⟨s,o6,e,g,rfl⟩;have g:s.2.length+(r.length+1)<=1000:=g;have:=ca Y X s ev;exact ou (by omega) (z _ ⟨_,_,e,by omega,rfl⟩)
noncomputable def nr(ns ms:LS):Evt->Prop
 | .see _ p m h=>p∈ns/\m∈ms/\OkS h|.tell _ a b m h q=>a∈ns/\b∈ns/\m∈ms/\a≠b/\OkS h/\∀x∈q,x∈ns
theorem O4{ns ms:LS}{Y:Str}{X:Int}:∀(l:List Evt) (s:Str×LS),(∀e∈l,nr ns ms e)->(∀x∈s.2,x∈ns)->∀x∈(l.foldl (re Y X) s).2,x∈ns
 |[],s,_,h=>h|e::l,s,hl,h=>by
  refine O4 l (re Y X s e) (λx y=>hl x (QD _ y)) λx y=>?_;have u:=hl e QF;cases e with
  |see t p m z=>exact h x y|tell t a b m z q =>
   rw[N4]at y;split at y;rcases Qf.mp y with y|y
   ·exact h x y
   rw[QJ.mp y];exact u.1;exact h x y
def tL(ns:LS)(r:Int):Int:=r % (ns.length:Int)
def Ta(ns:LS)(r:Int):Int:=(tL ns r+1+r / 360 % ((ns.length:Int) - 1)) % (ns.length:Int)
def XX(ns:LS)(i:Int):Str:=gI ns i ""
def gm(ms:LS)(r:Int):Str:=gI ms (r / 7 % (ms.length:Int)) ""
def Dr(m:Int):Int:=gI [m / 3 % 5,m / 3 % 30,999999999 - m / 3 % 4] (m % 3) 0
def Em(r:Int):Str:=sS (fH r (1+r / 11 % 8).toNat)
noncomputable def su(evs:List Evt)(ns ms:LS)(r:Int):LS:=if r / 10000 % 5=0 then(Ql (1+r / 2500 % 3).toNat).map λ(k:Nat)=>XX ns ((r / 50000+2 * (k:Int)) % (ns.length:Int)) else Mr evs (XX ns (tL ns r)) (gm ms r) (r / 2500 % 4)
noncomputable def Km(evs:List Evt)(ns ms:LS)(m:Int):Evt:=if m / 40 / 90 % 4=0 then .see (Dr m) (XX ns (tL ns (m / 40))) (gm ms (m / 40)) (Em (m / 40)) else .tell (Dr m) (XX ns (tL ns (m / 40))) (XX ns (Ta ns (m / 40))) (gm ms (m / 40)) (Em (m / 40)) (su evs ns ms (m / 40))
structure NsB(ns ms:LS):Prop where
 n2:2<=ns.length
 nl:ns.length<=11
 nd:ns.Nodup
 m1:1<=ms.length
 ml:ms.length<=10
theorem VX(y:0<=i)(h:i<ns.length):XX ns i∈ns:=(yH y h).2
theorem To(nd:ns.Nodup){j:Int}(a:0<=i)(z:i<ns.length)(y:0<=j)(h:j<ns.length)(q:i≠j):XX ns i≠XX ns j:=λe=>by obtain⟨v,l,g⟩:=GL a z;obtain⟨u,f,b⟩:=GL y h;unfold XX gI at e;rw[l,f]at e;have e:v=u:=e;subst e;have:=(List.getElem?_inj (i:=i.toNat) (by omega) nd).mp (g.trans b.symm);omega
theorem Z5(h:2<=ns.length)(r:Int):(0<=tL ns r/\tL ns r<ns.length)/\(0<=Ta ns r/\Ta ns r<ns.length)/\tL ns r≠Ta ns r:=by
 have a:0<=tL ns r/\tL ns r<ns.length:=UA r (by omega);have b:=UA (r / 360) (show(0:Int)<(ns.length:Int) - 1 by omega);have c:0<=Ta ns r/\Ta ns r<ns.length:=UA _ (by omega);refine⟨a,c,λe=>?_⟩;unfold Ta at e;generalize r / 360 % ((ns.length:Int) - 1)=y at *;generalize tL ns r=o at *;have d:(o+1+y) % (ns.length:Int)=o+1+y∨(o+1+y) % (ns.length:Int)=o+1+y - ns.length:=by by_cases z:o+1+y<ns.length;left;exact QAb (by omega) z;right;rw[<- Int.sub_emod_right];exact QAb (by omega) (by omega)
 omega
theorem dq(hb:NsB ns ms)(f:∀e∈evs,nr ns ms e)(m:Int):nr ns ms (Km evs ns ms m):=by
 have v:=hb.n2;have g:=hb.m1;obtain⟨a,b,c⟩:=Z5 v (m / 40);have u:gm ms (m / 40)∈ms:=by have:=UA (m / 40 / 7) (show(0:Int)<(ms.length:Int) by omega);exact(yH this.1 this.2).2
 have z:OkS (Em (m / 40)):=Fe (jH _ _);unfold Km;split;exact⟨VX a.1 a.2,u,z⟩;refine⟨VX a.1 a.2,VX b.1 b.2,u,To hb.nd a.1 a.2 b.1 b.2 c,z,?_⟩;unfold su;split;intro x y;obtain⟨k,_,rfl⟩:=QV.mp y;have:=UA (m / 40 / 50000+2 * (k:Int)) (show(0:Int)<(ns.length:Int) by omega);exact VX this.1 this.2;exact O4 evs.reverse _ (λe h=>f e (QCI.mp h)) λx y=>by cases y
noncomputable def GJ:PSp where
 md:=[.yz]
 run:=λy Q _=>∃(evs:List Evt) (ns ms:LS) (m:Int),y=[gH evs,.d (.list (ns.map PyData.str)),.d (.list (ms.map PyData.str)),.d (.int m)]/\(evs.length<=1000/\NsB ns ms)/\Q (.d (jD (Km evs ns ms m))) []
 mono:=λh _ z=>by obtain⟨evs,ns,ms,m,e,a,q⟩:=z;exact⟨evs,ns,ms,m,e,a,h _ _ q⟩
theorem T9(h:evs.length<=1000)(hb:NsB ns ms)(q:K (.d (jD (Km evs ns ms m))) []):EA GJ [gH evs,.d (.list (ns.map PyData.str)),.d (.list (ms.map PyData.str)),.d (.int m)] K E:=⟨evs,ns,ms,m,rfl,⟨h,hb⟩,q⟩
theorem Ku{a b c d e f g:D}:ZE [.d a,.d b,.d c,.d d,.d e,.d f,.d g]=.d (.tuple [a,b,c,d,e,f,g]):=rfl
noncomputable def Lw(evs:List Evt)(ns ms:LS)(m:Int)(h o10:Option Sl):kA:=[some (.vz (gH evs)),bD (.list (ns.map PyData.str)),bD (.list (ms.map PyData.str)),bD (.int m),bD (.int (Dr m)),bD (.int (m / 40)),bD (.int (tL ns (m / 40))),bD (.str (gm ms (m / 40))),bD (.str (Em (m / 40))),h,o10]
theorem vh{m:Bool}{R:T->Prop}(y:0<=i)(h:i<ns.length):VA (.d (.list (ns.map PyData.str))) n (.d (.int i)) m R=R (.d (.str (XX ns i))):=by rw[d9,VF,(yH (d:=("":Str)) y h).1];exact fB
theorem lq{Q:T->LT->Prop}{l:LS}(h:2<=ns.length)(q:Q (.d (jD (.tell (Dr m) (XX ns (tL ns (m / 40))) (XX ns (Ta ns (m / 40))) (gm ms (m / 40)) (Em (m / 40)) l))) []):pF Ψ aF (eZ Q) (Lw evs ns ms m (bD (.int (Ta ns (m / 40)))) (bD (.tuple (l.map PyData.str)))):=by obtain⟨a,b,c⟩:=Z5 h (m / 40);delta Lw;delta aF;simp_arith[↓vh a.1 a.2,↓vh b.1 b.2,↓Ku];exact⟨by omega,q⟩
theorem vj(C:Ψ.sp "_law_letters"=GH)(B:Ψ.sp "_law_quote"=PF)(ds Q E)(h:GJ.run ds Q E):ME Ψ eK GJ BP UM ds Q:=by obtain⟨evs,ns,ms,m,rfl,⟨hl,hb⟩,q⟩:=h;have v:=hb.n2;have F:=hb.m1;obtain⟨a,b,c⟩:=Z5 v (m / 40);have r:=UA m (show(0:Int)<3 by decide);have J:=UA (m / 40 / 11) (show(0:Int)<8 by decide);have g:=UA (m / 40 / 7) (show(0:Int)<(ms.length:Int) by omega);refine uA [some (.vz (gH evs)),bD (.list (ns.map PyData.str)),bD (.list (ms.map PyData.str)),bD (.int m),none,none,none,none,none,none,none] rfl rfl rfl ?_;delta eK;simp?[QE,↓vA (md:=[]) C rfl rfl,↓jQ];refine⟨by omega,yE (f:=PyData.int) (l:=[m / 3 % 5,m / 3 % 30,999999999 - m / 3 % 4]) 0 r.1 r.2 ?_⟩;refine⟨by omega,by omega,yE (f:=PyData.str) (l:=ms) "" g.1 g.2 ⟨by omega,by omega,?_⟩⟩;unfold Km at q;by_cases u:m / 40 / 90 % 4=0;rw[if_pos u]at q;rw[if_pos (dT u)];exact yE (f:=PyData.str) (l:=ns) "" a.1 a.2 ⟨by omega,q⟩;rw[if_neg u]at q;rw[if_neg λz=>u (of_decide_eq_true z)];refine⟨by omega,by omega,?_⟩;have W:0<=m / 40 % (ns.length:Int)/\m / 40 % (ns.length:Int)<ns.length:=a;delta gH;simp?[↓vA (md:=[.yz]) B rfl rfl,↓vh W.1 W.2];refine EY hl ?_;unfold su at q;simp?[↓zA];by_cases y:m / 40 / 10000 % 5=0;rw[if_pos y]at q;rw[if_pos (dT y)];have I:=UA (m / 40 / 2500) (show(0:Int)<3 by decide);refine⟨by omega,by omega,?_⟩;refine rB (λ(i:Nat)=>T.d (.int (i:Int))) (λi=>T.d (.str (XX ns ((m / 40 / 50000+2 * (i:Int)) % (ns.length:Int))))) _ [] _ (λi G R A=>?_) (by rw[Qw];show 0+_<=_;omega) ?_;have e:=UA (m / 40 / 50000+2 * (i:Int)) (show(0:Int)<(ns.length:Int) by omega);simp_arith[QE];exact⟨sO.ok (.inl ⟨by decide,by decide⟩),by omega,yE (f:=PyData.str) (l:=ns) "" e.1 e.2 A⟩;rw[Qi,oA λ(i:Nat)=>PyData.str (XX ns ((m / 40 / 50000+2 * (i:Int)) % (ns.length:Int)))];simp_arith[↓Pe];have q:=lq (Ψ:=Ψ) (evs:=evs) v q;rw[Qa]at q;exact q;rw[if_neg y]at q;rw[if_neg λz=>y (of_decide_eq_true z)];exact lq v q
def Ym(m:Int)(s:LJ)(p:Int×Nat):LJ:=s.set ((p.2:Int) % m).toNat (gI s ((p.2:Int) % m) 0+p.1)
def Jm(m:Int)(cs:LJ):LJ:=(Ql (if(cs.length:Int)<m then(cs.length:Int) else m).toNat).map λ_=>0
def xf(m:Int)(cs:LJ):LJ:=cs.zipIdx.foldl (Ym m) (Jm m cs)
theorem cY(m:Int)(cs:LJ):(Jm m cs).length=(if(cs.length:Int)<m then(cs.length:Int) else m).toNat:=by unfold Jm;rw[QE,Qw]
theorem K7(m:Int):∀(l:List (Int×Nat)) (s:LJ),(l.foldl (Ym m) s).length=s.length
 |[],s=>rfl|p::l,s=>(K7 m l (Ym m s p)).trans wG
theorem dY(cs:LJ)(h:0<m):(xf m cs).length<=m.toNat:=by unfold xf;rw[K7,cY];split<;>omega
noncomputable def sE:PSp where
 md:=[.yz]
 run:=λy Q _=>∃(cs:LJ) (m:Int),y=[.lst ((cs.map PyData.int).map T.d),.d (.int m)]/\(0<m/\m<=100)/\Q (.lst (((xf m cs).map PyData.int).map T.d)) []
 mono:=λh _ z=>by obtain⟨cs,m,e,a,q⟩:=z;exact⟨cs,m,e,a,h _ _ q⟩
theorem TU(h:0<m/\m<=100)(q:K (.lst (((xf m cs).map PyData.int).map T.d)) []):EA sE [.lst ((cs.map PyData.int).map T.d),.d (.int m)] K E:=⟨cs,m,rfl,h,q⟩
noncomputable def pk(cs:LJ)(m:Int)(s:LJ)(o3 o4:Option Sl):kA:=[some (.vz (.lst ((cs.map PyData.int).map T.d))),bD (.int m),oW (.lst ((s.map PyData.int).map T.d)),o3,o4]
theorem sv{s:LJ}{x:Int}(h:0<m)(hk:(k:Int) % m<s.length)(q:Z.nx (pk cs m (Ym m s (x,k)) (bD (.int (k:Int))) (bD (.int x)))):pF Ψ tF Z (pk cs m s (bD (.int (k:Int))) (bD (.int x))):=by have y:=(UA (k:Int) h).1;unfold pk Ym at q;rw[List.map_set]at q;delta pk;delta tF;simp_arith[↓zA];refine⟨h,yE (f:=PyData.int) (l:=s) 0 y hk ?_⟩;simp_arith[↓zA];exact⟨h,Ht y (by rw[QE];exact hk) q⟩
theorem sZ(ds Q E)(h:sE.run ds Q E):ME Ψ xI sE NN RK ds Q:=by
 obtain⟨cs,m,rfl,⟨b,I⟩,q⟩:=h;refine uA [some (.vz (.lst ((cs.map PyData.int).map T.d))),bD (.int m),none,none,none] rfl rfl rfl ?_;have l:=cY m cs;have a:0<=(if(cs.length:Int)<m then(cs.length:Int) else m)/\(if(cs.length:Int)<m then(cs.length:Int) else m)<=100:=by split<;>omega
 delta xI;simp_arith[QE];refine⟨Wk (by decide) a.1,QBn a.2 (by decide),?_⟩;refine rB (λ(i:Nat)=>T.d (.int (i:Int))) (λ_=>T.d (.int 0)) _ [] _ (λi F R W=>?_) (by rw[Qw];show 0+_<=_;omega) ?_;simp_arith[↓zA];exact W;rw[Qi,oA λ(_:Nat)=>PyData.int 0];have e:((Ql (if(cs.length:Int)<m then(cs.length:Int) else m).toNat).map λ_=>PyData.int 0)=(Jm m cs).map PyData.int:=by unfold Jm;rw[Qa];rfl
 rw[e,cW];refine CA (Kk PyData.int) (λr y=>∃s u z,r.foldl (Ym m) s=xf m cs/\(s.length=(Jm m cs).length/\∀p∈r,p.2<cs.length)/\y=pk cs m s u z) ?_ ?_ _ _ ⟨_,none,none,rfl,⟨rfl,λp v=>by obtain⟨_,G,_⟩:=QA8 v;omega⟩,rfl⟩;rintro y ⟨s,u,z,e,_,rfl⟩;have e:s=xf m cs:=e;subst e;delta pk;simp_arith[↓zA];exact q;rintro⟨x,k⟩ r y N A ⟨s,u,z,e,⟨g,f⟩,rfl⟩;have C:k<cs.length:=f (x,k) QF;have B:=UA (k:Int) b;delta pk Kk;rw[d8,XY];refine sv b ?_ (A _ ⟨_,_,_,e,⟨wG.trans g,λp v=>f p (QD _ v)⟩,rfl⟩);show(k:Int) % m<(s.length:Int);rw[g,l];by_cases c:(cs.length:Int)<m;rw[if_pos c,QAb (by omega) (by omega)];omega;rw[if_neg c];omega
def ZR(is:LJ):LS:=TD (sB is 0) (2+fA (sB is 0) 1 % 5).toNat
def N1(is:LJ):LS:=TD (sB is 1) (1+fA (sB is 1) 2 % 3).toNat
def ae(c:Int)(ns:LS):List (Str×Int×Int×Int):=ns.zipIdx.map λp=>gZ p.1 (fA c (10+(p.2:Int)))
def Jk(ns ms:LS)(evs:List Evt)(p:Int×Nat):List Evt:=evs++[Km evs ns ms (fA p.1 ((p.2:Int)+3))]
def Ys(is:LJ)(ns ms:LS):List Evt:=(xf 18 (gJ is (some 2) none)).zipIdx.foldl (Jk ns ms) []
def wF(is:LJ):Wd:=⟨ae (sB is 0) (ZR is),N1 is,Xm (N1 is) (fA (sB is 1) 2 / 3),Ys is (ZR is) (N1 is)⟩
theorem gf{ns ms:LS}(hb:NsB ns ms):∀(l:List (Int×Nat)) (evs:List Evt),(∀e∈evs,nr ns ms e)->(∀e∈l.foldl (Jk ns ms) evs,nr ns ms e)/\(l.foldl (Jk ns ms) evs).length=evs.length+l.length
 |[],evs,h=>⟨h,rfl⟩|p::l,evs,h=>by
  obtain⟨a,b⟩:=gf hb l (Jk ns ms evs p) λe y=>by rcases Qf.mp y with y|y;exact h e y;rw[QJ.mp y];exact dq hb h _
  refine⟨a,b.trans ?_⟩;show(evs++[_]).length+l.length=evs.length+(l.length+1);rw[QI];show evs.length+1+l.length=_;omega
theorem nS(c:Int)(ns:LS):((ae c ns).map λp=>p.1)=ns:=by unfold ae;rw[Qa];exact List.zipIdx_map_fst 0 ns
theorem Dw(is:LJ):NsB (ZR is) (N1 is)/\(∀x∈ZR is,OkS x)/\(∀x∈N1 is,OkS x)/\(N1 is).Nodup:=by have a:=UA (fA (sB is 0) 1) (show(0:Int)<5 by decide);have b:=UA (fA (sB is 1) 2) (show(0:Int)<3 by decide);obtain⟨u,h,z⟩:=BR (sB is 0) (m:=(2+fA (sB is 0) 1 % 5).toNat) (by omega);obtain⟨e,y,v⟩:=BR (sB is 1) (m:=(1+fA (sB is 1) 2 % 3).toNat) (by omega);have h:(ZR is).length=_:=h;have y:(N1 is).length=_:=y;exact⟨⟨by omega,by omega,u,by omega,by omega⟩,z,v,e⟩
theorem D2(is:LJ):WOk (wF is):=by
 obtain⟨hb,A,f,B⟩:=Dw is;obtain⟨l,G⟩:=Ll hb.ml (fA (sB is 1) 2 / 3);obtain⟨F,g⟩:=gf hb (xf 18 (gJ is (some 2) none)).zipIdx [] λ_ z=>by cases z
 have u:=nS (sB is 0) (ZR is);have W:=congrArg qa u;have h:∀x∈ZR is,Dg (wF is) x:=λx v=>by rw[<- u]at v;obtain⟨p,y,e⟩:=QV.mp v;exact⟨p,y,e⟩
 rw[QE]at W;rw[QAH]at g;have fl:=dY (gJ is (some 2) none) (show(0:Int)<18 by decide);refine⟨λp y=>⟨f _ (l p y).1,f _ (l p y).2⟩,G,by show(ae _ _).length<=11;have:=hb.nl;omega,by show((ae _ _).map _).Nodup;rw[u];exact hb.nd,λp y=>A _ ?_,hb.ml,f,B,?_,λe C=>?_⟩;rw[<- u];exact QV.mpr ⟨p,y,rfl⟩;show(Ys is (ZR is) (N1 is)).length<=60;exact QU (wa g) (by show 0+_<=60;omega);have:=F e C;cases e with|see t p m r=>exact⟨h _ this.1,this.2⟩|tell t a b m r q=>exact⟨h _ this.1,h _ this.2.1,this.2.2.1,this.2.2.2.1,this.2.2.2.2.1,λx v=>h x (this.2.2.2.2.2 x v)⟩
theorem lM{c:Int}(y:0<=m)(h:m<=10)(q:K (.lst (((TD c m.toNat).map PyData.str).map T.d)) []):EA pE [.d (.int c),.d (.int m),.d (.int 8)] K E:=by obtain⟨k,rfl⟩:=Int.eq_ofNat_of_zero_le y;exact SY (by omega) q
noncomputable def ym(w:Wd):T:=.tup [.d (.list (w.ps.map mI)),.d (.list (w.ms.map PyData.str)),.lst ((w.ag.map pr).map T.d),.d (.list (w.es.map jD))]
theorem rf(ds:List D):(T.lst (ds.map T.d)).er=.list ds:=by show PyData.list (ersT (ds.map T.d))=_;rw[bB]
theorem mf(w:Wd):(ym w).er=wD w:=by show PyData.tuple [.list (w.ps.map mI),.list (w.ms.map PyData.str),(T.lst _).er,.list (w.es.map jD)]=_;rw[rf];rfl
theorem xw{r:PT}{i:Nat}{ρ:kA}:rL Ψ E r Z i (ym w) true ρ=aB Ψ E r Z (ρ.set i (bD (wD w))):=by unfold rL;rw[mf];exact propext ⟨λh=>h.2,λh=>⟨rfl,h⟩⟩
noncomputable def oE:PSp where
 md:=[.yz]
 run:=λy Q _=>∃is:LJ,y=[.lst ((is.map PyData.int).map T.d)]/\Q (ym (wF is)) []
 mono:=λh _ z=>by obtain⟨is,e,q⟩:=z;exact⟨is,e,h _ _ q⟩
theorem DO(q:K (ym (wF is)) []):EA oE [.lst ((is.map PyData.int).map T.d)] K E:=⟨is,rfl,q⟩
noncomputable def xh(is:LJ)(f s:Int)(ns ms:LS)(h:List (Str×Int×Int×Int))(o6 o7 o8:Option Sl):kA:=[some (.vz (.lst ((is.map PyData.int).map T.d))),bD (.int f),bD (.int s),bD (.list (ns.map PyData.str)),bD (.list (ms.map PyData.str)),bD (.list (h.map mI)),o6,o7,o8]
theorem yt(z:Ψ.sp "_law_mixed"=EE)(y:Ψ.sp "_law_event"=GJ){f s:Int}{h:List (Str×Int×Int×Int)}{x:Int}(hb:NsB ns ms)(hk:k<=100)(u:evs.length<=900)(q:Z.nx (xh is f s ns ms h (oW (gH (Jk ns ms evs (x,k)))) (bD (.int (k:Int))) (bD (.int x)))):pF Ψ sG Z (xh is f s ns ms h (oW (gH evs)) (bD (.int (k:Int))) (bD (.int x))):=by unfold xh gH Jk at q;rw[QO,QO]at q;delta xh gH;delta sG;simp_arith[↓vA (md:=[]) z rfl rfl,↓vA (md:=[.yz]) y rfl rfl,↓NG];refine⟨by omega,by omega,T9 (by omega) hb ?_⟩;simp_arith[QE];exact⟨by omega,q⟩
theorem Yp{a b c:D}{l:LT}:ZE [.d a,.d b,.lst l,.d c]=.tup [.d a,.d b,.lst l,.d c]:=rfl
theorem G5(l:Ψ.sp "_law_mixed"=EE)(g:Ψ.sp "_law_cell_at"=LG)(W:Ψ.sp "_law_words"=pE)(O:Ψ.sp "_law_person"=xM)(M:Ψ.sp "_law_folded"=sE)(L:Ψ.sp "_law_event"=GJ)(J:Ψ.sp "_law_against"=JI)(ds Q E)(h:oE.run ds Q E):ME Ψ oK oE iP JM ds Q:=by
 obtain⟨is,rfl,q⟩:=h;have a:=UA (fA (sB is 0) 1) (show(0:Int)<5 by decide);have b:=UA (fA (sB is 1) 2) (show(0:Int)<3 by decide);obtain⟨hb,_⟩:=Dw is;have P:=hb.nl;have F:=hb.ml;refine uA [some (.vz (.lst ((is.map PyData.int).map T.d))),none,none,none,none,none,none,none,none] rfl rfl rfl ?_;delta oK;simp_arith[↓vA (md:=[]) l rfl rfl,↓vA (md:=[.yz]) g rfl rfl,↓vA (md:=[]) W rfl rfl,↓NG,↓ZI];refine lM (by omega) (by omega) ?_;simp_arith[↓vA (md:=[.yz]) g rfl rfl,↓vA (md:=[]) W rfl rfl,↓ZI];refine lM (by omega) (by omega) ?_;simp_arith[↓zA];show MC _ ((((ZR is).map PyData.str).zipIdx.map λp=>T.d (.tuple [.int (p.2:Int),p.1]))) [] _;rw[cW];have C:=congrArg qa (nS (sB is 0) (ZR is));rw[QE]at C;refine rB (Kk PyData.str) (λp=>T.d (mI (gZ p.1 (fA (sB is 0) (10+(p.2:Int)))))) (ZR is).zipIdx [] _ (λp y R G=>?_) (by rw[QAH];show 0+_<=_;omega) ?_;obtain⟨x,k⟩:=p;obtain⟨_,f,_⟩:=QA8 y;delta Kk;simp_arith[↓vA (md:=[]) l rfl rfl,↓vA (md:=[.yz]) g rfl rfl,↓vA (md:=[]) O rfl rfl,↓NG,↓ZI];refine⟨by omega,by omega,O9 ?_⟩;simp_arith[↓zA];exact G;rw[Qi,oA λp:Str×Nat=>mI (gZ p.1 (fA (sB is 0) (10+(p.2:Int))))];have e:((ZR is).zipIdx.map λp=>mI (gZ p.1 (fA (sB is 0) (10+(p.2:Int)))))=(ae (sB is 0) (ZR is)).map mI:=by unfold ae;rw[Qa];rfl
 rw[e];simp_arith[↓vA (md:=[.yz]) M rfl rfl,pY];refine⟨by omega,TU (by decide) ?_⟩;have fl:=dY (gJ is (some 2) none) (show(0:Int)<18 by decide);simp_arith[↓zA];rw[cW];refine CA (Kk PyData.int) (λr z=>∃evs v u,r.foldl (Jk (ZR is) (N1 is)) evs=Ys is (ZR is) (N1 is)/\(evs.length+r.length<=100/\∀p∈r,p.2<=100)/\z=xh is (fA (sB is 0) 1) (fA (sB is 1) 2) (ZR is) (N1 is) (ae (sB is 0) (ZR is)) (some (.own (gH evs))) v u) ?_ ?_ _ _ ⟨[],none,none,rfl,⟨by rw[QAH];show 0+_<=_;omega,λp y=>by obtain⟨_,f,_⟩:=QA8 y;omega⟩,rfl⟩;rintro z ⟨evs,v,u,e,_,rfl⟩;have e:evs=Ys is (ZR is) (N1 is):=e;subst e;delta xh gH;simp_arith[↓vA (md:=[]) J rfl rfl];rw[rf];refine V4 F ?_;simp_arith[↓Yp];exact⟨by omega,q⟩;rintro⟨x,k⟩ r z N I ⟨evs,v,u,e,⟨B,A⟩,rfl⟩;have B:evs.length+(r.length+1)<=100:=B;delta xh Kk;rw[d8,XY];refine yt l L hb (A (x,k) QF) (by omega) (I _ ⟨_,_,_,e,⟨?_,λp y=>A p (QD _ y)⟩,rfl⟩);show(evs++[_]).length+r.length<=100;rw[QI];show evs.length+1+r.length<=100;omega
def oI:Option Int->D
 |none=>.none|some t=>.int t
noncomputable def Dh(w:Wd)(p:Pt)(o:Option Int)(s:Stp):Option Int:=if p∈s.2.2.2 then(if o=none then some (Hr (uB w.es s.1)) else o) else none
def E3(w:Wd)(st:List Stp)(p:Pt):Option Int:=st.foldl (Dh w p) none
noncomputable def vM:PSp where
 md:=[]
 run:=λy Q _=>∃(w:Wd) (st:List Stp) (p:Pt),y=[.d (Te w st),.d (.str p.1),.d (.str p.2)]/\((∀s∈st,Y8 w s)/\OkS p.1/\OkS p.2)/\Q (.d (oI (E3 w st p))) []
 mono:=λh _ z=>by obtain⟨w,st,p,e,a,q⟩:=z;exact⟨w,st,p,e,a,h _ _ q⟩
theorem N9(h:∀s∈st,Y8 w s)(y:OkS p.1/\OkS p.2)(q:K (.d (oI (E3 w st p))) []):EA vM [.d (Te w st),.d (.str p.1),.d (.str p.2)] K E:=⟨w,st,p,rfl,⟨h,y⟩,q⟩
noncomputable def vm(w:Wd)(st:List Stp)(p:Pt)(o:Option Int)(o4 o5 o6 o7:Option Sl):kA:=[bD (Te w st),bD (.str p.1),bD (.str p.2),bD (oI o),o4,o5,o6,o7]
theorem Kf{L:Bool->Prop}:NB .Is (.d (oI o)) (.d .none) L=L o.isNone:=by cases o<;>rfl
theorem Ot{s:Stp}{o5:Option Sl}(h:Y8 w s)(y:OkS p.1/\OkS p.2)(q:Z.nx (vm w st p (Dh w p o s) (bD (nD s.1)) o5 o6 (bD (.list (s.2.2.2.map pr))))):pF Ψ mF Z (vm w st p o (bD (nD s.1)) o5 o6 (bD (.list (s.2.2.2.map pr)))):=by
 unfold Dh at q;delta vm;delta mF;simp_arith[↓GW];refine⟨by omega,BX h.2 y.1 y.2 ?_⟩;by_cases c:p∈s.2.2.2;rw[if_pos c]at q;rw[dT c];simp_arith[↓Kf,↓Hm,↓BU,↓FP h.1,↓Dm];cases o with|none=>exact q|some t=>exact q
 rw[if_neg c]at q;rw[dF c];exact q
theorem Ri(ds Q E)(h:vM.run ds Q E):ME Ψ yI vM DN HK ds Q:=by obtain⟨w,st,p,rfl,⟨b,f⟩,q⟩:=h;refine uA [bD (Te w st),bD (.str p.1),bD (.str p.2),none,none,none,none,none] rfl rfl rfl ?_;delta yI;simp_arith[↓Gm];rw[<- oA lL];refine CA (λs=>T.d (lL s)) (λr y=>∃o v u o6 z,r.foldl (Dh w p) o=E3 w st p/\(∀s∈r,Y8 w s)/\y=vm w st p o v u o6 z) ?_ ?_ _ _ ⟨none,none,none,none,none,rfl,b,rfl⟩;rintro y ⟨o,v,u,o6,z,e,_,rfl⟩;have e:o=E3 w st p:=e;subst e;delta vm;simp_arith[↓zA];exact q;rintro s r y N l ⟨o,v,u,o6,z,e,g,rfl⟩;delta vm;rw[d8,mw];exact Ot (g s QF) f (l _ ⟨_,_,_,_,_,e,λx a=>g x (QD _ a),rfl⟩)
noncomputable def DJ:PSp where
 md:=[]
 run:=λy Q _=>∃(w:Wd) (p:Pt),y=[.d (wD w),.d (.str p.1),.d (.str p.2)]/\(WOk w/\OkS p.1/\OkS p.2)/\∀ns,UK w ns->Q (.d (oI (E3 w (LD w ns).steps p))) []
 mono:=λh _ z=>by obtain⟨w,p,e,a,q⟩:=z;exact⟨w,p,e,a,λns b=>h _ _ (q ns b)⟩
theorem M9(h:WOk w)(y:OkS p.1/\OkS p.2)(q:∀ns,UK w ns->K (.d (oI (E3 w (LD w ns).steps p))) []):EA DJ [.d (wD w),.d (.str p.1),.d (.str p.2)] K E:=⟨w,p,rfl,⟨h,y⟩,q⟩
theorem Pi(a:Ψ.sp "since_in"=vM)(v:Ψ.sp "last_moment"=bM)(ds Q E)(h:DJ.run ds Q E):ME Ψ jI DJ CN GK ds Q:=by obtain⟨w,p,rfl,⟨y,u⟩,q⟩:=h;refine uA [bD (wD w),bD (.str p.1),bD (.str p.2)] rfl rfl rfl ?_;delta jI;simp_arith[↓vA (md:=[]) a rfl rfl,↓vA (md:=[]) v rfl rfl];refine R9 y λns z=>?_;simp_arith[↓Av];refine N9 (yY y z).1 u ?_;simp_arith[↓zA];exact q ns z
noncomputable def Vm(w:Wd)(p:Pt)(d:Bool×LJ)(s:Stp):Bool×LJ:=(decide (p∈s.2.2.2),if(decide (p∈s.2.2.2)&&!d.1)=true then d.2++[Hr (uB w.es s.1)] else d.2)
def lw(d:Bool×LJ)(o:Option Int):Prop:=d.1=o.isSome/\∀t,o=some t->∃l,d.2=l++[t]
theorem Pc(s:Stp)(h:lw d o):lw (Vm w p d s) (Dh w p o s):=by
 obtain⟨y,z⟩:=h;unfold Vm Dh;by_cases c:p∈s.2.2.2;rw[dT c,if_pos c];cases o with|none=>have y:d.1=false:=y;rw[y];exact⟨rfl,λt e=>⟨d.2,by cases e;rfl⟩⟩|some t=>have y:d.1=true:=y;rw[y];exact⟨rfl,z⟩
 rw[dF c,if_neg c];exact⟨rfl,λt e=>by cases e⟩
noncomputable def MJ:PSp where
 md:=[]
 run:=λy Q _=>∃(w:Wd) (st:List Stp) (p:Pt),y=[.d (wD w),.d (.list (st.map lL)),.d (pr p)]/\((∀s∈st,Y8 w s)/\st.length<=60/\OkS p.1/\OkS p.2)/\Q (.d (oI (E3 w st p))) []
 mono:=λh _ z=>by obtain⟨w,st,p,e,a,q⟩:=z;exact⟨w,st,p,e,a,h _ _ q⟩
theorem E9(h:∀s∈st,Y8 w s)(hl:st.length<=60)(y:OkS p.1/\OkS p.2)(q:K (.d (oI (E3 w st p))) []):EA MJ [.d (wD w),.d (.list (st.map lL)),.d (pr p)] K E:=⟨w,st,p,rfl,⟨h,hl,y⟩,q⟩
noncomputable def k9(w:Wd)(st:List Stp)(p:Pt)(d:Bool×LJ)(o5 o6:Option Sl):kA:=[bD (wD w),bD (.list (st.map lL)),bD (pr p),oW (.lst ((d.2.map PyData.int).map T.d)),bD (.bool d.1),o5,o6]
theorem Jv{s:Stp}(h:Y8 w s)(y:OkS p.1/\OkS p.2)(v:d.2.length<=100)(q:∀o6,Z.nx (k9 w st p (Vm w p d s) (bD (lL s)) o6)):pF Ψ iK Z (k9 w st p d (bD (lL s)) o6):=by
 have r:∀l,l=(Vm w p d s).2->pF Ψ uI Z (k9 w st p (d.1,l) (bD (lL s)) (bD (.bool (decide (p∈s.2.2.2))))):=by rintro l rfl;delta k9;delta uI;simp_arith[↓zA];exact q _
 delta k9;delta iK;simp_arith[↓Ds];refine TV h.2 p.1 p.2 _ y.1 y.2 ?_;unfold Vm at r;simp_arith[↓zA];by_cases c:p∈s.2.2.2;rw[dT c]at r;rw[if_pos (dT c)];cases u:d.1 with|true=>rw[u]at r;have r:=r d.2 rfl;unfold k9 at r;rw[dT (show(p.1,p.2)∈s.2.2.2 from c)];exact r|false=>rw[u]at r;have r:=r (d.2++[Hr (uB w.es s.1)]) rfl;unfold k9 at r;rw[QO,QO]at r;simp_arith[↓BU,↓Hs,↓FP h.1,↓Dm,QE];rw[dT (show(p.1,p.2)∈s.2.2.2 from c)];exact⟨by omega,r⟩
 rw[dF c]at r;rw[if_neg λz=>c (of_decide_eq_true z)];have r:=r d.2 rfl;unfold k9 at r;rw[dF (show ¬ (p.1,p.2)∈s.2.2.2 from c)];exact r
theorem Zd{α:Type}(l:List α)(x:α):YD (l++[x]) (-1)=some x:=by unfold YD XR;rw[if_neg (by decide),QI,if_pos (by show -(((l.length+1:Nat)):Int)<=-1;omega)];show(l++[x])[((-1:Int)+((l.length+1:Nat):Int)).toNat]?=_;rw[show((-1:Int)+((l.length+1:Nat):Int)).toNat=l.length by omega,Qu (QZ _),QA7];rfl
theorem bj(ds Q E)(h:MJ.run ds Q E):ME Ψ lR MJ ZY oS ds Q:=by
 obtain⟨w,st,p,rfl,⟨g,hl,W⟩,q⟩:=h;refine uA [bD (wD w),bD (.list (st.map lL)),bD (pr p),none,none,none,none] rfl rfl rfl ?_;delta lR;simp_arith[↓zA];refine⟨by omega,?_⟩;rw[<- oA lL];refine CA (λs=>T.d (lL s)) (λr v=>∃d o a o6,r.foldl (Dh w p) o=E3 w st p/\(lw d o/\d.2.length+r.length<=60/\∀s∈r,Y8 w s)/\v=k9 w st p d a o6) ?_ ?_ _ _ ⟨(false,[]),none,none,none,rfl,⟨⟨rfl,λ_ z=>(by cases z)⟩,by show 0+_<=_;omega,g⟩,rfl⟩;rintro v ⟨d,o,a,o6,e,⟨⟨y,u⟩,_⟩,rfl⟩;have e:o=E3 w st p:=e;rw[<- e]at q;delta k9;simp_arith[↓zA];cases o with|none=>have y:d.1=false:=y;rw[y];exact q|some t=>have y:d.1=true:=y;obtain⟨l,u⟩:=u t rfl;rw[y,u];simp_arith[↓zA];rw[QO];exact⟨_,Zd _ _,q⟩
 rintro s r v N A ⟨d,o,a,o6,e,⟨y,u,b⟩,rfl⟩;have u:d.2.length+(r.length+1)<=60:=u;refine Jv (b s QF) W (by omega) λo6=>A _ ⟨_,_,_,o6,e,⟨Pc s y,?_,λx f=>b x (QD _ f)⟩,rfl⟩;unfold Vm;split;show(d.2++[_]).length+_<=_;rw[QI];show d.2.length+1+r.length<=60;omega;show d.2.length+_<=_;omega
def ki(w:Wd)(p:Str×Int×Int×Int):List Pt:=w.ms.map λm=>(p.1,m)
def pS(w:Wd):List Pt:=w.ps.flatMap (ki w)
def Vo(w:Wd)(m:Int)(k:Nat):Pt:=gI (pS w) ((m+7 * (k:Int)) % ((pS w).length:Int)) ("","")
noncomputable def Xo(w:Wd)(m:Int):List Pt:=(Ql (if((pS w).length:Int)<3 then((pS w).length:Int) else 3).toNat).map (Vo w m)
theorem vi(z:WOk w)(m:Int):∀p∈Xo w m,OkS p.1/\OkS p.2:=λp a=>by
 obtain⟨k,hk,rfl⟩:=QV.mp a;have hk:=qP.mp hk;have b:0<((pS w).length:Int):=by split at hk<;>omega
 have d:=UA (m+7 * (k:Int)) b;have:Vo w m k∈pS w:=(yH d.1 d.2).2;obtain⟨x,v,h⟩:=WC.mp this;obtain⟨y,u,e⟩:=QV.mp h;rw[<- e];exact⟨z.po x v,z.mo y u⟩
noncomputable def RF:PSp where
 md:=[]
 run:=λy Q _=>∃(w:Wd) (m:Int),y=[.d (wD w),.d (.int m)]/\WOk w/\Q (.lst (((Xo w m).map pr).map T.d)) []
 mono:=λh _ z=>by obtain⟨w,m,e,a,q⟩:=z;exact⟨w,m,e,a,h _ _ q⟩
theorem IY(h:WOk w)(q:K (.lst (((Xo w m).map pr).map T.d)) []):EA RF [.d (wD w),.d (.int m)] K E:=⟨w,m,rfl,h,q⟩
noncomputable def Ju(w:Wd)(m:Int)(l:List Pt)(o3:Option Sl):kA:=[bD (wD w),bD (.int m),oW (.lst ((l.map pr).map T.d)),o3]
theorem P5(ds Q E)(h:RF.run ds Q E):ME Ψ tK RF VP VM ds Q:=by
 obtain⟨w,m,rfl,W,q⟩:=h;have B:=W.pl;have C:=W.ml;refine uA [bD (wD w),bD (.int m),none,none] rfl rfl rfl ?_;delta tK;simp_arith[↓UY];refine⟨by omega,?_⟩;rw[<- oA mI];refine CA (λp=>T.d (mI p)) (λr z=>∃l u,l++r.flatMap (ki w)=pS w/\l.length+10 * r.length<=110/\z=Ju w m l u) ?_ ?_ _ _ ⟨[],none,rfl,by show 0+_<=_;omega,rfl⟩;rintro z ⟨l,u,e,g,rfl⟩;have e:l=pS w:=by rw[<- e];exact(qM _).symm
 subst e;have g:(pS w).length+0<=110:=g;have b:0<=(if((pS w).length:Int)<3 then((pS w).length:Int) else 3)/\(if((pS w).length:Int)<3 then((pS w).length:Int) else 3)<=3:=by split<;>omega
 delta Ju;simp_arith[QE];refine⟨Wk (by decide) b.1,QBn b.2 (by decide),?_⟩;refine rB (λ(i:Nat)=>T.d (.int (i:Int))) (λi=>T.d (pr (Vo w m i))) _ [] _ (λi v R a=>?_) (by rw[Qw];show 0+_<=_;omega) ?_;have v:=qP.mp v;have A:0<((pS w).length:Int):=by split at v<;>omega
 have d:=UA (m+7 * (i:Int)) A;simp_arith[QE];exact⟨sO.ok (.inl ⟨by decide,by decide⟩),A,yE (f:=pr) (l:=pS w) ("","") d.1 d.2 a⟩;rw[Qi,oA λi=>pr (Vo w m i)];have e:((Ql (if((pS w).length:Int)<3 then((pS w).length:Int) else 3).toNat).map λi=>pr (Vo w m i))=(Xo w m).map pr:=by unfold Xo;rw[Qa];rfl
 rw[e];exact q;rintro p r z N F ⟨l,u,e,g,rfl⟩;have g:l.length+10 * (r.length+1)<=110:=g;delta Ju;delta bL;simp_arith[↓c9];rw[<- oA PyData.str];refine rB (λy=>T.d (.str y)) (λy=>T.d (pr (p.1,y))) w.ms [] _ (λy I R a=>?_) (by show 0+w.ms.length<=_;omega) ?_;simp_arith[↓BY];exact⟨by omega,a⟩;rw[Qi,oA λy=>pr (p.1,y)];have G:(w.ms.map λy=>pr (p.1,y))=(ki w p).map pr:=by unfold ki;rw[Qa];rfl
 have B:(ki w p).length<=10:=by unfold ki;rw[QE];exact C
 rw[G,<- QO,<- QO];refine⟨by rw[QE,QE,QE,QE];omega,F _ ⟨l++ki w p,_,?_,by rw[QI];omega,rfl⟩⟩;rw[qB];exact e
noncomputable def lS(is:LJ)(w:Wd)(st:List Stp)(o3 o4 o5:Option Sl):kA:=[some (.vz (.lst ((is.map PyData.int).map T.d))),bD (wD w),bD (.list (st.map lL)),o3,o4,o5]
end
section
variable{L:Bool->Prop}{o:Option Int}{n m:Bool}{R:T->Prop}{p:Pt}
theorem Yq:NB .IsNot (.d (oI o)) (.d .none) L=L (!o.isNone):=by cases o<;>rfl
end
theorem Uu{Ψ:PEv}(a:Ψ.sp "_law_due"=MJ)(v:Ψ.sp "since_of"=DJ){Z:PEnds}{x:LJ}{w:Wd}{ns:LN}{p:Pt}{o4 o5:Option Sl}(y:WOk w)(u:UK w ns)(z:OkS p.1/\OkS p.2)(q:∀o4 o5,Z.nx (lS x w (LD w ns).steps (bD (pr p)) o4 o5)):pF Ψ gR Z (lS x w (LD w ns).steps (bD (pr p)) o4 o5):=by
 obtain⟨e,b⟩:=yY y u;delta lS;delta gR;simp_arith[↓vA (md:=[]) a rfl rfl,↓vA (md:=[]) v rfl rfl];refine E9 e b z ?_;simp_arith[↓aO,↓Pd,↓vA (md:=[]) v rfl rfl];refine M9 y z λk h=>?_;cases rj u h;generalize E3 w (LD w ns).steps p=o;simp_arith[↓Kf,↓Yq,↓Nl,↓Oq];cases o with|none=>exact q _ _|some t=>have q:=q (bD (oI (some t))) (bD (oI (some t)));simp_arith[show oI (some t)=PyData.int t from rfl,Option.isNone_some,↓Hu,↓Lu];exact q
theorem kj{Ψ:PEv}(Z:Ψ.sp "_law_due"=MJ)(Y:Ψ.sp "since_of"=DJ)(f:Ψ.sp "_law_world"=oE)(X:Ψ.sp "gone"=HG)(s:Ψ.sp "_law_pairs"=RF)(o:Ψ.sp "_law_mixed"=EE)(n:Ψ.sp "_law_cell_at"=LG)(ds Q E)(h:cQ.run ds Q E):ME Ψ f8 cQ Ug E4 ds Q:=by obtain⟨y,hl,hb,rfl,q⟩:=h;refine uA [some (.vz (.lst ((y.map PyData.int).map T.d))),none,none,none,none,none] rfl rfl rfl ?_;have v:=D2 y;delta f8;simp_arith[↓vA (md:=[.yz]) f rfl rfl];refine DO ?_;have b:∀{K:T->LT->Prop}{E:XE},K (ym (wF y)) []->EA oE [.lst ((y.map PyData.int).map T.d)] K E:=λq=>DO q;generalize wF y=w at *;simp_arith[↓xw,↓vA (md:=[]) X rfl rfl];refine cS v λi l=>?_;simp_arith[↓vA (md:=[]) s rfl rfl,↓vA (md:=[]) o rfl rfl,↓vA (md:=[.yz]) n rfl rfl,↓NG,↓ZI];refine IY v ?_;simp_arith[↓zA];rw[<- oA pr];refine CA (λp=>T.d (pr p)) (λr a=>∃e u z,(∀p∈r,OkS p.1/\OkS p.2)/\a=lS y w (LD w i).steps e u z) ?_ ?_ _ _ ⟨none,none,none,vi v _,rfl⟩;rintro a ⟨e,u,z,_,rfl⟩;delta lS;simp_arith[↓vA (md:=[.yz]) f rfl rfl];refine b ⟨rfl,?_⟩;show NB .Eq (.d (wD w)) (.d (ym w).er) λk=>Q (.d (.bool k)) [];rw[mf];exact D7 (L:=λk=>Q (.d (.bool k)) []) (Ro v) q;rintro p r a N m ⟨e,u,z,g,rfl⟩;exact Uu Z Y v l (g p QF) λu z=>m _ ⟨_,u,z,λx j=>g x (QD _ j),rfl⟩
end L2.L3.K42
namespace L2.L3
open PySem PySem.Spec PyProof.Rows L2.L3.Q
section
variable{K:QA}{x:Str}{st:Stmt}
theorem zW{h:Heap}:∀(y:List Addr),(js y h).In h
 |[],a,o,e=>nomatch e
 |b::y,a,o,e=>by
  unfold js at e;rw[WD]at e;cases c:h.get? b with
  |none=>rw[c]at e;exact zW y a o e|some z =>
   rw[c]at e;have e:QCK a ((b,z)::js y h)=some o:=e;rw[wj]at e;cases d:a==b with|true=>rw[d]at e;cases e;rw[beq_iff_eq.mp d];exact c|false=>rw[d]at e;exact zW y a o e
theorem gk{q:Str}{f:Addr}{y:FuncData}{w:Value}{v:Option Addr}{z:Array (Option Value)}(hl:K.lookup f=some ⟨w,v,.func y,z⟩)(h:Zm y (Wb K y.code q&&wN K (.ref f))=Zm (qr x q (RC st) (fC st) (MA st) .none .none .none .none none .none .none) true):∃y,Fun K x q st f y:=by obtain⟨Y,X,s,r,p,o,n,m,l,j,i,g,e,b,a⟩:=y;unfold Zm at h;injection h with h1 h2;injection h2 with h2 h3;injection h1 with b1 h1;injection h1 with b2 h1;injection h1 with b3 h1;injection h1 with b4 b5;injection h2 with c1 h2;injection h2 with c2 h2;injection h2 with c3 c4;obtain⟨u,k⟩:=Ws.mp h3;simp only at b1 b2 b3 b4 b5 c1 c2 c3 c4 u;subst b1 b2 b3 b4 b5 c1 c2 c3 c4;exact⟨_,nk hl u k⟩
theorem x4(h:kW K x=rT x st)(y:(rT x st).isSome=true):KY K x st:=by
 have z:rT x st=some (Zm (qr x x (RC st) (fC st) (MA st) .none .none .none .none none .none .none) true):=by cases st<;>first|rfl|cases y
 rw[z]at h;unfold kW at h;split at h;rename_i f hf;split at h;rename_i hl;obtain⟨u,F⟩:=gk hl (Qk h);exact⟨f,u,hf,F⟩;cases h;cases h
theorem F9(h:pV K x=true):qq K mainGlobals x=some none:=by unfold pV at h;split at h;assumption;cases h
theorem v4{i:Int}(h:lh K x=some i):UN K x (.int i):=by
 unfold lh at h;split at h;rename_i u hu;cases u with|int j t=>cases h;exact⟨_,_,hu,rfl,λ_=>.int i⟩|_=>cases h
 cases h
theorem OR:∀{us:LW}{xs:LS},us.map Ln=xs.map some->us.map XN=xs.map λy=>some (.str y)
 |[],[],_=>rfl|[],_::_,h=>by cases h|_::_,[],h=>by cases h|u::us,x::xs,h=>by
  injection h with h1 h2;rw[QS,QS,OR h2];cases u with|str z t=>cases h1;rfl|_=>cases h1
theorem PY{xs:LS}(h:oh K x=some (xs.map some))(y:xs.length<=sizeLine):UN K x (.tuple (xs.map PyData.str)):=by unfold oh at h;split at h;rename_i f hf;split at h;rename_i t od its n osl hl;split at h;rename_i et;subst et;injection h with h;exact j3 (its:=its.toList) hf (by simpa using hl) (OR h) y;cases h;cases h;cases h
theorem go_of(e:seen K=due):fG K tA=true:=(W8 (W8 (W8 (W8 e).2).2).2).2
end
section
variable{K:QA}{h:Heap}{mg:Str->Option Value}{T:Addr}
theorem mT(e:fG K T=true)(X:K.In h)(G:h.Ns mainGlobals mg):(∃f k w v z c,mg "going_order"=some (.ref f)/\K.lookup f=some ⟨k,w,.func v,z⟩/\v.code=.ref c/\QAl K c T=true)/\(∀y:Heap,K.In y->y.BuiltinsAt mg T)/\K.lookup T=none/\mainGlobals≠T:=by
 obtain⟨u,e⟩:=yA e;obtain⟨x,e⟩:=yA e;obtain⟨g,a⟩:=yA e;refine⟨?_,?_,QAR.mp g,bne_iff_ne.mp a⟩;split at u
 ·rename_i f hf
  split at u;rename_i k w v z hl;split at u;rename_i c hc;exact⟨f,k,w,v,z,c,WR X G hf,hl,hc,u⟩;cases u;cases u
 cases u;intro y Y;split at x;rename_i b hb;split at x;rename_i t d z hl;obtain⟨n,x⟩:=yA x;obtain⟨m,x⟩:=yA x;obtain⟨l,x⟩:=yA x;obtain⟨j,i⟩:=yA x;exact⟨b,_,WR X G hb,bne_iff_ne.mp l,bne_iff_ne.mp j,bne_iff_ne.mp i,Y _ _ hl,by rw[beq_iff_eq.mp n],by rw[beq_iff_eq.mp m],rfl⟩;cases x;cases x
theorem ck(e:fG K T=true)(X:K.In h)(G:h.Ns mainGlobals mg):∃v c,(∀x:Heap,K.In x->∀P q,aP mg x P q->P=T/\q=v)/\QAl K c T=true/\K.lookup T=none:=by obtain⟨⟨f,I,F,C,w,c,p,n,m,y⟩,_,l,_⟩:=mT e X G;refine⟨C.qualname++".<locals>.<lambda>",c,λx Y P q t=>?_,y,l⟩;obtain⟨M,o,B,N,A,W,Z,s,⟨L,E,_,_,_,_,_,_,_,j,_,i,g,_⟩,r⟩:=t;cases p.symm.trans A;have z:=W.symm.trans (Y _ _ n);cases z;cases Z;cases m.symm.trans s;obtain⟨J,u,_,_,_,_,_,_,_,b,_,a,k,_⟩:=W9 Y y;cases j.symm.trans b;cases i.symm.trans a;cases g.symm.trans k;exact⟨rfl,r⟩
end
theorem walk_seen{l:PySem.W.OpenLaw}{k:Nat}{q:Program}{loose:LS}{XP:(Str->Option Value)->Heap->Prop}{YP:World->Heap->Prop}{d:DefRec}{x:Str}{Fs:QA->Prop}{T:Addr}
  (hn:l.most=some 63) (C:d.params.defaults=[]) (S:Room k callerA) (hY:∀(w:World) (h:Heap),YP w h->∃K:QA,K.In h/\Fs K/\h.get? T=some (QBM #[])) (B:∀K,Fs K->fG K T=true)
  (F:∀(w:World) (mg:Str->Option Value) (p:Addr) (h:Heap) (K:QA),K.In h->Fs K->fG K T=true->h.Ns mainGlobals mg->mg d.name=some (.ref p) ->
   ∃E:FuncData,(∀(s:Shared) (u:Value),BindsTo s E ⟨[u],[]⟩ [(x,u)]) /\
    ∀y:Heap,K.In y->y.Ns mainGlobals mg->FnOk l.prog w K mg y y2 k p E [x] (lift K cQ)) :
  PySem.W.WalkO q loose XP YP l.row.toRowW d [] (λf vs=>PySem.call f vs):=by
 intro w L J mg mb G Y p o pm cd doc dV kV ho hd hcd M A hg args I as j n R Z hlo;obtain rfl:dV=.none:=PySem.W.Dflts.none M C;obtain rfl:kV=.none:=PySem.W.Dflts.noKw M;obtain⟨a,vs,P,rfl,rfl,m,i,v⟩:=Att.script_of hn j Z;obtain⟨K,X,fs,Q⟩:=hY w _ Y;have N:=B K fs;obtain⟨tq,c,g1,g2,g3⟩:=ck N X G.T.g;obtain⟨E,hb,hF⟩:=F w mg p _ K X fs N G.T.g A;refine PySem.W.enter_call (QB4 (M6 g1 ((W9 X g2).tab Q) g3 X G.T.g G.T.b G.T.builtins G.T.nolimit hg m i (QU v (by decide)) S hF hb (λH hO hS=>Dj _ H a P v (Jd n) hS) λH e O=>λz=>z) λr O hq=>?_);obtain⟨rfl,h2,h3,h4⟩:=hq;exact⟨.inl ⟨.bool true,.bool true,[],rfl,λ_=>rfl,.bool true,Att.post_true l _,λ_=>⟨List.Pairwise.nil,λ_ hm=>(nomatch hm)⟩⟩,h2,h3,h4⟩
end L2.L3
namespace L2.L3.K42
open PySem PySem.Spec PyProof.Rows L2 L2.L3 L2.L3.Q
def Pv:Nat->(LW->Prop)->Prop
 |0,p=>p []|n+1,p=>∀u,Pv n λh=>p (u::h)
theorem Jw:∀{n:Nat}{p:LW->Prop},Pv n p->∀us:LW,us.length=n->p us
 |0,_,h,us,e=>by rw[List.length_eq_zero_iff.mp e];exact h|_+1,_,_,[],e=>nomatch e
 |_+1,_,h,u::us,e=>Jw (h u) us (Nat.succ.inj e)
def Vy(x q:Str)(st:Stmt)(u:LS):Prop:=∀(kV h v:Value) (k:Option Addr) (y w:Value),Pv u.length λz=>bindArgs (qr x q (RC st) (fC st) (MA st) .none kV h v k y w) ⟨z,[]⟩=pure (u.zip z)
def zm:List (Str×D):=tT.map (λp=>(p.1,.tuple (p.2.map PyData.str)))++sT.map λp=>(p.1,.int p.2)
structure Cx(K:QA)(h:Heap)(mg:Str->Option Value):Prop where
 X:K.In h
 G:h.Ns mainGlobals mg
 V:∀p∈zm,UN K p.1 p.2
 N:∀y∈nT,qq K mainGlobals y=some none
 D:∀p∈fT,KY K p.1 (top p.2)
theorem BE{α:Type}{d:α}:∀{l:List α}{i:Nat},QCY i l.length=true->l.getD i d∈l
 |[],_,h=>nomatch h
 |_::_,0,_=>.head _|_::_,_+1,h=>.tail _ (BE (Nat.blt_eq.mpr (wk (Nat.blt_eq.mp h))))
theorem Ae{α:Type}{l:List (Str×α)}{p:Str×α}(nd:(l.map qz).Nodup)(h:p∈l):l.lookup p.1=some p.2:=by
 induction l with|nil=>cases h|cons a l y=>obtain⟨x,s⟩:=a;rw[QS,Qh]at nd;rw[wj];rcases QL.mp h with rfl|h;rw[beq_self_eq_true];have v:p.1∈l.map qz:=QBS h;have u:(p.1==x)=false:=beq_eq_false_iff_ne.mpr λz=>nd.1 (by rw[<- z];exact v);rw[u];exact y nd.2 h
def He:LS:=fT.map qz
def fx(i:Nat):Str×Nat:=fT.getD i ("",0)
def tbl(r:List PSp):PEv:=ye (He.zip r) zm
theorem MR{r:List PSp}(i:Nat)(h:QCY i zm.length=true:=by rfl):(tbl r).va (zm.getD i ("",.none)).1=some (zm.getD i ("",.none)).2:=Ae (YE (by kernel_rfl)) (BE h)
theorem Rn{r:List PSp}(nd:yK ((He.zip r).map qz)=true)(i:Nat)(h:QCY i (He.zip r).length=true):(tbl r).sp ((He.zip r).getD i ("",um)).1=((He.zip r).getD i ("",um)).2:=by show(QCK _ _).getD um=_;rw[Ae (YE nd) (BE h)];rfl
noncomputable def nB(n:Need)(fs:LS):Bool:=n.fn.all (λx=>fs.contains x)&&((n.va.all λx=>(zm.map qz).contains x)&&n.no.all (λx=>nT.contains x))
section
variable{P:Program}{w:World}{K:QA}{h base:Heap}{mg:Str->Option Value}{r v:List PSp}{R:PSp}{u:LS}{k:Nat}{b:PT}{n:Need}{N z:LS}
theorem hv(C:Cx K h mg)(A:∀g∈u,BG P w K mg base (tbl r) k g)(i:Nat)(AB:kB n b N z (top (fx i).2)=true)
  (body:∀ts Q E,R.run ts Q E->ts.length=z.length/\aB (tbl r) (λ_=>False) b (rD R z.length Q) (oB N R.md ts)) (o:(tbl v).sp (fx i).1=R) (hc:zK (KB 0 R.md z.length) b=true:=by kernel_rfl)
  (hb:Vy (fx i).1 (fx i).1 (top (fx i).2) z:=by(repeat intro _);rfl)
  (x:nB n u=true:=by kernel_rfl) (l:QCY i fT.length=true:=by rfl):BG P w K mg base (tbl v) (k+1) (fx i).1:=by
 obtain⟨s,x⟩:=yA x;obtain⟨q,p⟩:=yA x;exact J7 C.X C.G (C.D _ (BE l)) AB hc (λa b c d e f=>Jw (hb a b c d e f)) (λg m=>A g (GP s g m)) (SW C.X C.G C.V q) (λy j=>C.N y (GP p y j)) body o
theorem hc(A:∀g∈u,BG P w K mg base (tbl r) k g){x:Str}(Z:BG P w K mg base (tbl r) (k+1) x):∀g∈x::u,BG P w K mg base (tbl r) (k+1) g:=by intro g y;rcases QL.mp y with rfl|y;exact Z;exact(A g y).mono (wH _)
theorem hl(C:Cx K h mg)(A:∀g∈u,BG P w K mg base (tbl r) k g){x q:Str}{st:Stmt}{f:Addr}{e:FuncData}(F:Fun K x q st f e)(AB:kB n b N z st=true)
  (body:∀ts Q E,R.run ts Q E->ts.length=z.length/\aB (tbl r) (λ_=>False) b (rD R z.length Q) (oB N R.md ts)) (hc:zK (KB 0 R.md z.length) b=true:=by kernel_rfl) (a:nB n u=true:=by kernel_rfl):FnOk P w K mg base y2 (k+1) f e z (lift K R):=by
 obtain⟨o,a⟩:=yA a;obtain⟨m,l⟩:=yA a;exact V7 F AB hc (λg j=>A g (GP o g j)) (SW C.X C.G C.V m) (λy i=>QAG C.X C.G (C.N y (GP l y i))) body
theorem cx_of(X:K.In h)(G:h.Ns mainGlobals mg)(e:seen K=due)(o:(fT.all λp=>(rT p.1 (top p.2)).isSome)=true)(m:(tT.all λp=>decide (p.2.length<=1000))=true):Cx K h mg:=by injection e with j e;injection e with i e;injection e with g e;injection e with f _;have j:=Wa.mp j;have i:=Wa.mp i;have g:=Wa.mp g;have f:=Wa.mp f;refine⟨X,G,λp x=>?_,λy l=>F9 (f y l),λp x=>x4 (j p x) (Q4.mp o p x)⟩;rcases Qf.mp x with x|x;obtain⟨q,a,rfl⟩:=QV.mp x;have:=of_decide_eq_true (Q4.mp m q a);exact PY (i q a) (by omega);obtain⟨q,a,rfl⟩:=QV.mp x;exact v4 (g q a)
end
section
variable{P:Program}{w:World}{h:Heap}{mg:Str->Option Value}
noncomputable def km:List PSp:=[EE,LG,GH,uD,pE,xM,sE,PF,GJ,JI,oE,Go,NJ,eI,SF,VO,FG,xD,IE,HJ,CJ,BD,jF,rE,cD,FJ,IC,tE,iI,TF,AE,AF,uM,GG,ZC,HG,RF,MJ,vM,bM,DJ,cQ]
theorem eA(i:Nat)(h:QCY i (He.zip km).length=true:=by rfl):(tbl km).sp ((He.zip km).getD i ("",um)).1=((He.zip km).getD i ("",um)).2:=Rn (by kernel_rfl) i h
theorem ay{K:QA}{x:Heap}{k:Nat}(C:Cx K h mg)(q:fG K tA=true)(v:K.In x)(m:x.Ns mainGlobals mg):BG P w K mg x (tbl km) (k+1) "going_order":=by obtain⟨f,M,p,⟨⟨J,I,kV,B,F,R,b,Q,i,rfl,lk,a⟩,n⟩⟩:=C.D (fx 11) (BE rfl);obtain⟨⟨O,l,j,A,e,c,g,W,Z,Y⟩,s,L,r⟩:=mT q C.X C.G;cases(WR C.X C.G p).symm.trans g;cases lk.symm.trans W;cases(show b=.ref c from Z);have z:=λy (o:nT.contains y=true)=>QAG C.X C.G (C.N y (Qq.mp o));exact Xc v m g lk a n (W9 v Y) (s x v) r (z _ (by kernel_rfl)) (z _ (by kernel_rfl)) (z _ (by kernel_rfl)) (λE hl=>by obtain⟨u,rfl⟩:=QAv.mp hl;rfl) (eA 11)
theorem all{K:QA}{v:Addr}(C:Cx K h mg)(b:fG K tA=true)(y:mg "law"=some (.ref v)) :
  ∃z:FuncData,(∀(s:Shared) (u:Value),BindsTo s z ⟨[u],[]⟩ [("_law_script",u)])/\∀x:Heap,K.In x->x.Ns mainGlobals mg->FnOk P w K mg x y2 42 v z ["_law_script"] (lift K cQ):=by
 refine Fj C.X C.G (C.D (fx 41) (BE rfl)) rfl y (eA 41) (λ_ _ _ _ _ _ e hl=>by obtain⟨u,rfl⟩:=QAv.mp hl;rfl) λx a k f z F _=>?_;have A:∀g∈([]:LS),BG P w K mg x (tbl km) 0 g:=nofun;have A:=hc A (hv C A 0 iW Ii (eA 0));have A:=hc A (hv C A 1 bR Cb (eA 1));have A:=hc A (hv C A 2 uR yj (eA 2));have A:=hc A (hv C A 3 tW M5 (eA 3));have A:=hc A (hv C A 4 sW (L5 (eA 3) (eA 0) (eA 2)) (eA 4));have A:=hc A (hv C A 5 AT Ti (eA 5));have A:=hc A (hv C A 6 ET sZ (eA 6));have A:=hc A (hv C A 7 aW O5 (eA 7));have A:=hc A (hv C A 8 JW (vj (eA 2) (eA 7)) (eA 8));have A:=hc A (hv C A 9 cR Db (eA 9));have A:=hc A (hv C A 10 rW (G5 (eA 0) (eA 1) (eA 4) (eA 5) (eA 6) (eA 8) (eA 9)) (eA 10));have A:=hc A (ay C b a k);have A:=hc A (hv C A 12 iN cj (eA 12));have A:=hc A (hv C A 13 pW Yb (eA 13));have A:=hc A (hv C A 14 jU R5 (eA 14));have A:=hc A (hv C A 15 IT (So (eA 13) (eA 14) (eA 12)) (eA 15));have A:=hc A (hv C A 16 cO Jb (eA 16));have A:=hc A (hv C A 17 tN (F5 (eA 16) (eA 12)) (eA 17));have A:=hc A (hv C A 18 dO Kb (eA 18));have A:=hc A (hv C A 19 yU xj (eA 19));have A:=hc A (hv C A 20 NT Oi (eA 20));have A:=hc A (hv C A 21 YW Fb (eA 21));have A:=hc A (hv C A 22 zU (Gb (eA 21)) (eA 22));have A:=hc A (hv C A 23 OT (rZ (eA 22) (eA 21) (MR 0) (MR 1)) (eA 23));have A:=hc A (hv C A 24 lJ (N5 (MR 0)) (eA 24));have A:=hc A (hv C A 25 xR (zj (MR 0)) (eA 25));have A:=hc A (hv C A 26 aN tZ (eA 26));have A:=hc A (hv C A 27 mO (S5 (eA 26)) (eA 27));have A:=hc A (hv C A 28 lO Bb (eA 28));have A:=hc A (hv C A 29 KL (T5 (eA 23) (eA 24) (eA 25) (eA 27) (eA 28) (MR 0)) (eA 29));have A:=hc A (hv C A 30 YL (gb (eA 29)) (eA 30));have A:=hc A (hv C A 31 ZL (A5 (eA 30)) (eA 31));have A:=hc A (hv C A 32 RT Ai (eA 32));have A:=hc A (hv C A 33 fO (Vb (eA 31) (eA 32)) (eA 33));have A:=hc A (hv C A 34 gO (Xb (eA 16) (eA 20) (eA 19) (eA 33)) (eA 34));have A:=hc A (hv C A 35 yd (Ub (eA 11) (eA 15) (eA 17) (eA 18) (eA 34)) (eA 35));have A:=hc A (hv C A 36 eW P5 (eA 36));have A:=hc A (hv C A 37 j8 bj (eA 37));have A:=hc A (hv C A 38 MT Ri (eA 38));have A:=hc A (hv C A 39 eN (Ei (eA 35)) (eA 39));have A:=hc A (hv C A 40 GT (Pi (eA 38) (eA 39)) (eA 40));exact hl C A F Hk (kj (eA 37) (eA 40) (eA 10) (eA 35) (eA 36) (eA 0) (eA 1))
noncomputable def hk:PySem.W.Hook:=⟨iY×Option Obj,ob,λ_=>(due,some (QBM #[])),λ_ h=>∃K:QA,K.In h/\seen K=due/\h.get? tA=some (QBM #[]),λ_ _ e=>⟨_,zW _,(W8 e).1,(W8 e).2⟩,λ_ _ _ ⟨K,X,e,t⟩ k=>⟨K,X.keeps k,e,k _ _ t⟩⟩
end
end L2.L3.K42
open PySem PySem.W PyProof.Rows
set_option maxRecDepth 100000 in
set_option maxHeartbeats 0 in
theorem PySem.Challenge.cw_quoteweave_k42_since_when_holds : PySem.Challenge.rw_quoteweave_k42_since_when.Holds := by
 refine holds_law L2.L3.Q.ws λy=>?_;refine holds_open (q:=L2.L3.Q.qv) (loose:=[]) (Xt:=L2.L3.Q.xt) (XP:=XL L2.L3.Q.qv []) (Yf:=Hook.obs L2.L3.K42.hk) (Ya:=Hook.val L2.L3.K42.hk) (YP:=Hook.says L2.L3.K42.hk) (N:=2806) L2.L3.Q.lf (Hook.of L2.L3.K42.hk) (Hook.keeps L2.L3.K42.hk) (λs e=>xl_of s (Ws.mp e).1) XL.keeps (by rfl) (by rfl) (by rfl) (λs e=>recFacts_of (Ws.mp e).2) (by rfl) (by first|assumption|decide +kernel) (by decide +kernel) ⟨rfl,rfl,rfl,rfl,rfl,by decide +kernel⟩ ?hw ?hc
 case hw=>w_witness2
 case hc=>exact L2.L3.walk_seen (l:=qE) (k:=42) (x:="_law_script") (Fs:=λK=>L2.L3.Q.seen K=L2.L3.Q.due) rfl rfl ⟨rfl,by decide,by decide⟩ (λw h Y=>Y) (λK e=>L2.L3.go_of e) λw u v h K X e z G m=>L2.L3.K42.all (L2.L3.K42.cx_of X G e (by kernel_rfl) (by kernel_rfl)) z m
