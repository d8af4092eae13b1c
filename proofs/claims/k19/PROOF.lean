import PyProof.Rows.All
import Wide.All
import OpenK.AllK
import Wide.FinOn
import Lean
import PyProof.EqAt
import PyProof.EqKinds
import PyProof.TupleCall
import PySem.Challenge.RW_quoteweave_k19_whole_holders_by_both_pap
noncomputable section
set_option Elab.async false
set_option linter.all false
set_option genInjectivity false
set_option genSizeOf false
set_option maxRecDepth 100000
set_option maxHeartbeats 4000000
open PySem renaming wpAny_bind->QA,wpAny_pure->QK,sizeLine_eq->QS,wpAny_newObj_type->Qu,wpAny_call_entry->Q2,wpAny_callSpecial?_slot->qF,wpAny_loadPart'->qI,wpAny_holding->qO,mem_of_lookup->qX,wpAny_Call_Name_kw->qp,codeAny_builtin->qt,wpAny_setField->wE,wpAny_typeNameOfWhole_itemiter->wJ,wpAny_typeNameOfWhole_keyiter->wK,wpAny_mono->wN,wpAny_truthy_bool->wO,wpAny_dictEntries->wQ,Spec->wV,wpAny_setField_rec->wY,wpAny_field->wa,wpAny_passesOwn->wg,wpAny_pyIter_list->wl,wpAny_setState_of->wo,plainId_quiet->wz,wpAny_askSetting->WA,tupleKind_room_in1->WF,wpAny_dictEpoch->WJ,wpAny_notOrdered_dict->WK,wpAny_fieldsOf->WW,wpAny_of_eq->Wd,wpAny_typeOf->Wf,wpAny_attempt->Wl,wpAny_isOneOf_itemiter->Wr,wpAny_pyIter_slot->Ww,wpAny_isInstance->QAC,call_meets->QAM,wpAny_rule->QAN,wpAny_execs_nil->QAO,wpAny_setEntries_of->QAP,codeAny_mono->QAZ,wpAny_seqItems->QAe,wpAny_Call_method0_late->QAs,wpAny_handled->QAu,wpAny_isOneOf_keyiter->QBB,builtinLookup_eq_fast->QBE,wpAny_newTuple->QBP,isSubtype_type->QBQ,evalArgs_none->QBS,wpAny_setItem_pairs->QBT,wpAny_throw->QBV,wpAny_standAt->QBc,wpAny_pyIter_tuple->QBf,wpAny_newList->QBg,wpAny_assign_Name->QBn,slot_list_getitem->QBq,wpAny_pyIter_enum->QBv,wpAny_storeSet_of->QBy,concat_meets->QB2,seqIndex_neg->QB3,wpAny_execs_cons->QB9,noFill_tuple_add->QCB,wpAny_pyIter_zip->QCE,entryFor_of_tree->QCH,seqIndex_of->QCM,storedH_new->QCP,wpAny_Name->QCU,typeIs_str->QCV,typeIs_int->QCW,Fin->QCb
open PySem.W renaming Frag->QC,nsIn->Q5,kia_one->qQ,fnOf->wX,keepIn->WB,WData->QAL,codeIn->QAc,methodObj->QAg,kitx_list->QAi,cellsFrom_some->QAz,instObj->QA5,lookIn->QBM,kitOne->QBN,kitx_tuple->QBe,mg_of->QBj,mg_none_of->QBk,kitx_dict->QBo,plainGet->QCA
open List renaming mem_cons_self->QD,mem_cons_of_mem->QE,length_map->QG,mem_singleton->QI,mem_cons->QJ,length_append->QL,length_cons->QM,map_cons->QO,size_toArray->QT,map_append->QU,mem_append_right->QW,getElem?_map->Qa,map_map->Qb,getElem?_eq_some_iff->Qd,mem_map->Qe,mem_append->Qg,not_mem_nil->Qh,mem_filter->Qj,nodup_cons->Qk,length_singleton->Qm,nil_append->Qo,contains_iff_mem->Qp,isEmpty_iff->Qs,mem_append_left->Qt,getElem?_eq_getElem->Qw,getElem?_append_left->Qx,length_nil->Qy,replicate->Qz,nodup_nil->Q0,getElem?_append_right->Q1,mem_of_getElem?->qB,range->qC,filter_sublist->qG,all_eq_true->qH,nodup_append->qJ,getElem?_eq_none->qM,append_assoc->qR,length_range->qS,getElem?_set_ne->qT,getElem?_set_self->qd,length_replicate->qh,map_nil->qj,length->qq,all_cons->qr,length_eq_zero_iff->qu,replicate_succ->wB,flatten_cons->wC,append_nil->wG,length_set->wH,getElem?_set->wR,find?_cons->wT,length_take->wW,ext_getElem?->wn,getElem?_cons_succ->wv,filterMap_cons->ww,getElem?_replicate->wy,drop_eq_nil_of_le->WE,zip_cons_cons->WG,foldl_cons->WH,length_filter_le->WM,any_cons->WN,set->WQ,mem_range->WS,drop_eq_getElem_cons->WX,lookup_cons->WZ,any_eq_true->Wa,filter_cons->Wc,map_congr_left->We,length_pos_of_mem->Ws,reverse_cons->Wu,mem_iff_getElem?->W6,length_drop->W7,map_fst_zip->W9,map_snd_zip->QAA,getElem_mem->QAB,getElem?_modify->QAF,mem_of_mem_take->QAH,mem_map_of_mem->QAR,map_eq_nil_iff->QAS,length_eraseIdx_of_lt->QAX,pairwise_cons->QAb,any_eq_false->QAh,length_erase_of_mem->QAm,flatMap_cons->QAn,foldl_append->QAo,getElem?_cons_zero->QAp,mem_flatMap->QAy,of_mem_zip->QA6,forIn_cons->QA7,getD->QBA,toArray->QBC,take_append_drop->QBD,mem_erase_of_ne->QBK,forIn_nil->QBO,getElem_of_mem->QBU,getElem?_range->QBW,mem_filterMap->QBd,zip_map'->QBl,length_zipIdx->QBm,take_sublist->QBp,mapM_toArray->QBt,all_map->QB4,map_set->QB6,any_map->QB7,cons_append->QB8,take_length->QCG,drop_length->QCI,append_inj'->QCJ,mem_flatten->QCK,length_zip->QCS,foldl->QCX
open Bool renaming false_ne_true->QF,and_eq_true->Qf,not_eq_true'->Q8,eq_iff_iff->qW,false_eq_true->qa,or_eq_true->wU,not_false->WR,and_eq_true_iff->QAI,false_or->QAq,true_and->QBY
open PySem.Heap renaming get?_push_of_some->QH,get?_push_size->QN,lt_size->QR,get?_update_self->Q4,get?_update_other->qA,SameBut->qV,size_push->wb,dictOf_iff->wq,get?_push_cases->QAE,ExtBut->QAt,IsList->QCO
open Nat renaming le_refl->QV,le_trans->QY,ne_of_lt->QZ,lt_of_lt_of_le->Qq,zero_le->Q9,lt_succ_of_lt->qk,ne_of_gt->qy,le_succ->wD,lt_irrefl->wM,lt_succ_self->WY,le_add_right->Wb,le_of_eq->Wx,le_of_lt->QAY,zero_add->QA4,lt_or_ge->QA8,lt_trans->QA9,sub_self->QBH,lt_of_le_of_lt->QBZ,sub_zero->QB5
open Array renaming length_toList->QX,getElem?_toList->wI,getElem?_eq_getElem->WV,toList_inj->W8,perm_iff_toList_perm->QAW,getElem?_eq_none->QA2,mem_toList_iff->QBI,toList_append->QBX,toList_push->QBx,toList->QB1
open False renaming elim->Qc
open Int renaming emod_lt_of_pos->Qi,emod_nonneg->Qn,toNat_natCast->wm,lt_irrefl->w9,le_trans->QBG,le_refl->QCT
open PySem.Str renaming ofString->Ql,join->QCL
open Option.some renaming injEq->Qr,inj->qE
open PySem.PyData renaming eqv->Q3,strOk->qb,canLayAll0->wP,depthAll->WI,canLay0->WU,depth->QAa
open Ne renaming symm->Q6
open PySem.Obj renaming data_mapFields->Q7,mapSeq->qN,mapFields->qg,isFreed_of_fields->ql,cls_mapFields->WO,data_mapDictKeys->QBJ,putSet->QBw
open Option renaming map_some->qD,map_none->wr,isSome_map->QAk,getD_none->QCC,getD_some->QCD
open PySem.Challenge renaming pw_quoteweave_k19_whole_holders_by_both_pap->qK,rw_quoteweave_k19_whole_holders_by_both_pap->qL
open PySem.Heap.SameBut renaming update->qP,refl->QBr
open PySem.Around renaming under_plainId->qU
open PyProof.Rows renaming callWith_type1->qY,slot_tuple_getitem->wj,callWith_builtin1->wu,subscriptTail_builtinR->WD,boot_sorted->QAl
open PySem.Paired renaming length->qZ
open PySem.Builtin.SmallTypes renaming nextOf->qe
open PySem.F renaming slot_dict_itemiterator_next->qf,slot_dict_keyiterator_next->qm,slot_tuple_iterator_next->qz,called_set->WL,slot_list_getattribute->Wh,args_tuple_iterator_next_1->Wi,entry_tuple_iterator_next->Wk,plainAttrs_list->Wo,args_dict_itemiterator_next_1->Wv,entry_dict_itemiterator_next->Wz,args_dict_keyiterator_next_1->W4,entry_dict_keyiterator_next->QAD,slot_dict_getitem->QAd,args_tuple_add_2->QAj,entry_tuple_add->QAr,plainAttrs_dict->QAx,slot_tuple_add->QA0,slot_dict_items_iter->QA1,plain_list_iadd->QB0,slot_dict_iter->QCF,slot_int_rmul->QCN,plain_set_new->QCQ,slot_set_iter->QCR
open LawfulBEq renaming eq_of_beq->qi
open Prod renaming fst->qw,ext->QCZ
open PySem.SeqAt renaming EqAt->wA,eqv_refl->QBL
open Classical renaming byContradiction->wF
open Lean.Parser.Tactic renaming tacticSeq->wL
open PySem.Builtin.Slice renaming slicePlaces->wZ,sliceAdjust->WT,sliceApplied->QAV
open PySem.Builtin.Dict_items renaming addrOf->wc,ownsTuple->QAJ
open List.Perm renaming refl->we
open PySem.SetTable renaming below->wf,grown->WC,orStandIn->QBh
open PySem.Builtin.Tuple renaming tupleExact->wk
open List.Pairwise renaming imp_of_mem->wt,map->WP
open PySem.Builtin.Str renaming occurrences->wx
open PySem.W.WData renaming weightAll->w8,weight->QAG
open PySem.Builtin.List renaming listTooLong->Wg,listExtendWith->QAQ
open PySem.Calls renaming spliced_cons->Wj,callWith_builtin->Wq,spliced_nil->Wt,Name_function_global->QAU,call_function_entry->QAf
open PyProof.Rows.F renaming plain_set_update_loop->Wm,entry_set_update_loop->QAv
open Iff renaming rfl->Wn
open List.cons renaming injEq->Wp
open PySem.Builtin.Dict renaming showsAll->W0,updateFrom->QAw,pairItems->QA3
open Nat.succ renaming inj->W5
open PySem.Txt renaming join->QAK,slice->QCa
open PySem.Builtin.Int renaming intBits->QAT
open PySem.StrLaws renaming glued_eq_join->QBF
open PySem.Value renaming isStrOf_shape->QBR
open PySem.SeqAt.EqAt renaming int_str->QBa,str_int->QBb
open PySem.Shared renaming TypeIs->QBi
open PySem.Walks renaming list->QBs
open PyProof.Rows.SortSt renaming mk'->QBu
open PySem.SetTable.below renaming go->QBz
open Eq renaming mpr->QCY
theorem dF{p:Prop}[Decidable p](h:¬p):decide p=false:=_root_.decide_eq_false h
theorem dT{p:Prop}[Decidable p](h:p):decide p=true:=_root_.decide_eq_true h
abbrev TB:=List (PySem.Addr×PySem.Obj)
abbrev zC:=PySem.Value -> PySem.Shared -> Prop
abbrev nB:=PySem.Addr -> Prop
abbrev rB:=List (PySem.Str×PySem.Str)
set_option hygiene false in
local macro_rules | `(tactic| omega)=>do
 let f:=λ(s:String)=>(s.splitOn " ").toArray.map λx=>Lean.mkIdent x.toName
 let a<-(f "L2.szA L2.szB L2.szC L2.unA Nat.le_trans Nat.lt_of_le_of_lt").mapM λx=>`(wL| exact $x (by assumption) (by decide))
 let b<-(f "Nat.lt_of_lt_of_le Nat.lt_of_le_of_lt Nat.le_trans").mapM λx=>`(wL| exact $x (by assumption) (by assumption))
 let c<-(f "Nat.le_of_lt Nat.ne_of_lt Nat.ne_of_gt Nat.lt_succ_of_lt Nat.le_of_lt_succ L2.prA").mapM λx=>`(wL| exact $x (by assumption))
 let d<-(f "Nat.le_refl Nat.le_succ Nat.zero_le Nat.succ_pos").mapM λx=>`(wL| exact $x _)
 `(tactic| first|decide|assumption|exact L2.szL (by decide) $[| $a]* $[| $b]* $[| $c]* $[| $d]*|omega (config:={}))
set_option hygiene false in
local macro_rules | `(tactic| simp? [$ls,*])=>do
 let a<-("zA Dh Hh Gd Gh Lh Oh Ch Fd Fh Dd Nh Bh ui Kh Xi ai Nn Zi Fi Vh Di Gi Uh tI M1 On Td Yi U2 Ad Ci Ui Y2 Ki si Ed dh Vd Em Am T8 Li ye G2 N2 Rh xn Ld Eh Ah bn Th Sh Hd Tp jq Ap Ip Ep Ln Op Rp Pp jp ko Io Np Lp Mp Cp Gp mo xp zq yq y6 Ml Nl Bp Up Xp Vp Kp Zp Yp Jp gp bp Zn Yn Jn Ih zp yp vp cn zi Fp fo Pn Km Yh oh rh ph Jh eh Im Xk Vk Eg Ag Og Mg bm cm am Rg Mc Pg Lc Ng N8 J1 Do Eo Yk ak Jk vg Uo bj f9 fj cj Xo Po Lj Bk Uk Bo oj mj pj Ce Zh Bg xC reduceIte".splitOn " ").toArray.mapM λx=>`(Lean.Parser.Tactic.simpLemma| ↓ $(Lean.mkIdent x.toName):ident)
 let b<-("JH fF XF aR T.isD lockA SG lock kill aF Tg.ix UC x3 eV hX isMut VZ frzAt CW Vc ID.eq_1 ID.eq_2 cS.eq_1 cS.eq_2 cS.eq_3 cS.eq_4 Vb Kb YJ.eq_1 List.modify_succ_cons List.modify_zero_cons Option.map_some List.length_cons List.length_nil List.getElem?_cons_zero List.getElem?_cons_succ List.cons_append List.nil_append List.set_cons_zero List.set_cons_succ Nat.reduceAdd Nat.reduceSub Nat.zero_add Bool.and_true Bool.true_and Bool.not_true Bool.not_false Bool.or_true Bool.true_or Bool.or_false Bool.false_or Bool.and_false Bool.false_and if_true if_false Bool.false_eq_true true_and and_true false_implies ne_eq reduceCtorEq not_false_eq_true not_true_eq_false implies_true forall_const Int.reduceLT Int.reduceLE Int.reducePow Int.reduceNeg Nat.reducePow and_self eq_self Option.some.injEq Sl.own.injEq Sl.nv.injEq and_assoc decide_true decide_false".splitOn " ").toArray.mapM λx=>`(Lean.Parser.Tactic.simpLemma| $(Lean.mkIdent x.toName):ident)
 `(tactic| simp -implicitDefEqProofs only [$ls,*,$a,*,$b,*])
namespace L2
open PySem PySem.Spec PyProof.Rows
section
variable{n m:Nat}{H:Hp}{a b:Addr}{o:HO}
theorem szL(h:n<=16777216):n<=sizeLine:=by rw[QS];exact h
theorem Mo(h:n<16777216):n<sizeLine:=by rw[QS];exact h
theorem No(h:n<=m)(k:m<=16777216):n<=sizeLine:=szL (QY h k)
theorem xq(h:n<=m)(k:m<16777216):n<sizeLine:=Mo (QBZ h k)
theorem vq(h:n<=m)(k:m<=16777216):0+n<=sizeLine:=by rw[QA4];exact No h k
theorem kq{k c:Nat}(h:n+k<c)(l:m<=k):n+m<c:=QBZ (Nat.add_le_add_left l n) h
theorem uq(h:m<n):n - 1<n:=by cases n with|zero=>exact(nomatch h)|succ n=>exact WY n
noncomputable abbrev Key:=Sum Int Str
def EM:Key->Value->Bool
 | .inl k,v=>Value.isInt k v|.inr x,v=>Value.isStrOf x v
def Bl(w:World):Key->Int
 | .inl k=>hashInt k|.inr x=>hashStr w x
theorem yB:∀{k:Key}{v:Value},EM k v=true->(∃i t,k=Sum.inl i/\v=Value.int i t)∨(∃x t,k=Sum.inr x/\v=Value.str x t)
 | .inl i,v,h=>by obtain⟨t,e⟩:=Value.isInt_shape (k:=i) (v:=v) h;exact .inl ⟨i,t,rfl,e⟩|.inr x,v,h=>by obtain⟨t,e⟩:=QBR (x:=x) (v:=v) h;exact .inr ⟨x,t,rfl,e⟩
theorem YW(i:Int)(t:Tok):EM (.inl i) (.int i t)=true:=by simp[EM,Value.isInt]
theorem AM(x:Str)(t:Tok):EM (.inr x) (.str x t)=true:=by simp[EM,Value.isStrOf]
theorem Ab(a b:Int):decide ((Sum.inl a:Key)=Sum.inl b)=(a==b):=by by_cases e:a=b;subst e;simp;have h:¬ (Sum.inl a:Key)=Sum.inl b:=λq=>e (Sum.inl.inj q);rw[dF h];exact(beq_eq_false_iff_ne.mpr e).symm
theorem Rb(a b:Str):decide ((Sum.inr a:Key)=Sum.inr b)=decide (a=b):=by by_cases e:a=b;subst e;simp;have h:¬ (Sum.inr a:Key)=Sum.inr b:=λq=>e (Sum.inr.inj q);rw[dF h,dF e]
theorem Tb(a:Int)(b:Str):decide ((Sum.inl a:Key)=Sum.inr b)=false:=dF (λq=>nomatch q)
theorem Sb(a:Str)(b:Int):decide ((Sum.inr a:Key)=Sum.inl b)=false:=dF (λq=>nomatch q)
noncomputable def IA(prog:Program)(w:World):PySem.KeyKind prog w Key where
 is:=EM
 hash:=Bl w
 inj:=λv a b g hb=>by
  rcases yB g with⟨i,t,rfl,rfl⟩| ⟨x,t,rfl,rfl⟩
  rcases yB hb with⟨j,u,rfl,e⟩| ⟨y,u,rfl,e⟩
  ·injection e with e1 _;rw[e1]
  exact nomatch e;rcases yB hb with⟨j,u,rfl,e⟩| ⟨y,u,rfl,e⟩
  ·exact nomatch e
  injection e with e1 _;rw[e1]
 byValue:=λk v h=>by rcases yB h with⟨i,t,rfl,rfl⟩| ⟨x,t,rfl,rfl⟩<;>rfl
 pyHash:=λz h=>by
  rcases yB z with⟨i,t,rfl,rfl⟩| ⟨x,t,rfl,rfl⟩
  exact wpAny_pyHash_int h;exact wpAny_pyHash_str h
 eqBool:=λf z h=>by
  rcases yB f with⟨i,t,rfl,rfl⟩| ⟨x,t,rfl,rfl⟩
  rcases yB z with⟨j,u,rfl,rfl⟩| ⟨y,u,rfl,rfl⟩
  ·rw[Ab]at h;exact wpAny_eqBool_int h
  rw[Tb]at h;exact QBa i t y u _ _ _ _ h;rcases yB z with⟨j,u,rfl,rfl⟩| ⟨y,u,rfl,rfl⟩
  ·rw[Sb]at h;exact QBb x t j u _ _ _ _ h
  rw[Rb]at h;exact wpAny_eqBool_str h
 «strs»:=λk x t v h=>by
  rcases yB h with⟨i,u,rfl,e⟩| ⟨y,u,rfl,e⟩
  exact nomatch e;injection e with e1 _;subst e1;cases v<;>rfl
theorem sQ(prog:Program)(w:World)(i:Int)(t:Tok):(IA prog w).is (.inl i) (.int i t)=true:=YW i t
theorem rQ(prog:Program)(w:World)(x:Str)(t:Tok):(IA prog w).is (.inr x) (.str x t)=true:=AM x t
set_option genInjectivity true in
inductive V where
 |non|bl (b:Bool)|int (i:Int)|str (x:Str)|byt (b:Array UInt8)|flt (b:UInt64)|ref (a:Addr)|ty (n:String)
 deriving DecidableEq
noncomputable def sA:V->Value->Prop
 | .non,u=>u=Value.none|.bl b,u=>u=Value.bool b|.int i,u=>∃t,u=Value.int i t|.str x,u=>∃t,u=Value.str x t|.byt b,u=>∃t,u=Value.bytes b t|.flt b,u=>∃t,u=Value.float b t|.ref a,u=>u=Value.ref a|.ty n,u=>u=Value.type n
noncomputable abbrev bA:List V->List Value->Prop:=Paired sA
theorem bA.length{xs:List V}{us:List Value}(r:bA xs us):xs.length=us.length:=qZ r
theorem bA.get:∀{xs:List V}{us:List Value}{i:Nat}{x:V},bA xs us->xs[i]?=some x->∃u,us[i]?=some u/\sA x u
 |_,_,_,_,.nil,e=>by simp at e|_,_,0,_,.cons r _,e=>by simp at e;subst e;exact⟨_,rfl,r⟩|_,_,i+1,x,.cons _ t,e=>by obtain⟨u,y,h⟩:=bA.get (i:=i) (x:=x) t (by simpa using e);exact⟨u,by simpa using y,h⟩
theorem bA.set{x:V}{u:Value}(r:sA x u):∀{xs:List V}{us:List Value}(i:Nat),bA xs us->bA (xs.set i x) (us.set i u)
 |_,_,_,.nil=>.nil|_,_,0,.cons _ t=>.cons r t|_,_,i+1,.cons q t=>.cons q (bA.set r i t)
theorem bA.append:∀{xs h:List V}{us ws:List Value},bA xs us->bA h ws->bA (xs++h) (us++ws)
 |_,_,_,_,.nil,s=>s|_,_,_,_,.cons r t,s=>.cons r (bA.append t s)
theorem bA.take:∀{xs:List V}{us:List Value}(n:Nat),bA xs us->bA (xs.take n) (us.take n)
 |_,_,0,_=>.nil|_,_,_+1,.nil=>.nil|_,_,n+1,.cons r t=>.cons r (bA.take n t)
theorem bA.drop:∀{xs:List V}{us:List Value}(n:Nat),bA xs us->bA (xs.drop n) (us.drop n)
 |_,_,0,r=>r|_,_,_+1,.nil=>.nil|_,_,n+1,.cons _ t=>bA.drop n t
def JR:Option V->Option Value->Prop
 |some v,some u=>sA v u|none,none=>True|_,_=>False
def KV{h:Type}:List (h×V)->List (h×Value)->Prop:=Paired λ(p:h×V) (q:h×Value)=>p.1=q.1/\sA p.2 q.2
def kV:Key->V
 | .inl i=>.int i|.inr x=>.str x
inductive HO where
 |lst (xs:List V)
 |tup (xs:List V)
 |dK (kvs:List (Key×V))|dT (ep:Nat) (kvs:List (List Key×Addr×V))
 |set (S:Int->Bool) (n:Nat)
 |ins (C dx:Addr) (fs:List (Str×V))
 |own (x:Addr)
 |xd (fs:List (Str×V))
 |met (f x:Addr)
 |rng (lo hi:Int)
 |frz (o:Obj) (u:HO)
 |tbl (ps:Array Value)
 |ext (φ:Heap->Prop)
noncomputable abbrev Hp:=Addr->Option HO
def OA(H:Hp)(a:Addr)(o:HO):Hp:=λb=>if b=a then some o else H b
theorem DA:OA H a o a=some o:=by unfold OA;rw[if_pos rfl]
theorem xA(h:b≠a):OA H a o b=H b:=by unfold OA;rw[if_neg h]
theorem JT{u:HO}:OA (OA H a o) a u=OA H a u:=by funext b;unfold OA;split<;>rfl
theorem VA(h:H a=some o)(h':H b=none):a≠b:=by intro e;subst e;rw[h]at h';cases h'
end
section
variable(P:Program)(w:World)
noncomputable def NA(H:Hp)(h:Heap)(a:Addr):HO->Prop
 | .lst k=>k.length<=sizeLine/\∃(z:List Value) (n:Nat),bA k z/\h.get? a=some { cls:=.type "list",data:=.seq z.toArray n }|.tup k=>k.length<=sizeLine/\∃z:List Value,bA k z/\IsTup h a z.toArray|.dK y=>y.length<=sizeLine/\(a==sysModules)=false/\∃i,KV y i/\h.DictOf (IA P w) a i|.dT Y y=>y.length<=sizeLine/\(a==sysModules)=false/\∃k:List (List Key×Addr×Value),
   Paired (λ(p:List Key×Addr×V) (q:List Key×Addr×Value)=>p.1=q.1/\p.2.1=q.2.1/\sA p.2.2 q.2.2) y k /\
   ∃o m,h.get? a=some o/\o.ExactDict/\o.data=.dict m Y/\m.toList=k.map (entryOfKey (tupleKind (IA P w)))/\(k.map (·.1)).Nodup
 | .set S n=>h.SetOf (intKind P w) a S n|.ins C e fs=>H e=some (.own a)/\fs.length<=1000/\e≠a/\h.get? a=some (QA5 C e) /\
   ∃b,h.Ns1 e b/\(∀f,JR (fs.lookup f) (b f))/\PySem.Within b (fs.map (·.1))
 | .own _=>∃o,h.get? a=some o|.xd fs=>∃b,h.Ns1 a b/\∀f,JR (fs.lookup f) (b f)|.rng s X=>∃t u v,h.get? a=some { cls:=.type "range",data:=.fields #[.int s t,.int X u,.int 1 v] }|.frz o u=>h.get? a=some o/\NA H h a u|.tbl r=>h.get? a=some { cls:=.none,data:=.fields r }|.met f x=>h.get? a=some (QAg (.ref f) (.ref x))|.ext g=>g h/\(∃o,h.get? a=some o)/\∀l j:Heap,g l->(∀o,l.get? a=some o->j.get? a=some o)->g j
def uK(H:Hp)(h:Heap):Prop:=∀a o,H a=some o->NA P w H h a o
end
section
variable{P:Program}{w:World}{H g:Hp}{h h':Heap}{a:Addr}{o:HO}
theorem NA.lt(x:NA P w H h a o):a<h.objs.size:=by
 cases o with|lst v=>obtain⟨_,_,_,_,e⟩:=x;exact QR e|tup v=>obtain⟨_,_,_,p⟩:=x;exact p.lt|dK z=>obtain⟨_,_,_,_,o,_,_,e,_⟩:=x;exact QR e|dT m z=>obtain⟨_,_,_,_,o,_,e,_⟩:=x;exact QR e|set S n=>obtain⟨o,_,_,_,e,_⟩:=x;exact QR e|ins C q fs=>obtain⟨_,_,_,e,_⟩:=x;exact QR e|own y=>obtain⟨_,e⟩:=x;exact QR e|xd fs=>obtain⟨_,⟨_,_,_,e,_⟩,_⟩:=x;exact QR e|rng j l=>obtain⟨_,_,_,e⟩:=x;exact QR e|frz i u=>obtain⟨e,_⟩:=x;exact QR e|tbl b=>exact QR (show h.get? a=some _ from x)|met f y=>exact QR (show h.get? a=some _ from x)|ext k=>obtain⟨_,⟨_,e⟩,_⟩:=x;exact QR e
theorem NA.stay(x:NA P w H h a o)(k:∀b u,(b=a∨H b=some (.own a))->h.get? b=some u->h'.get? b=some u)
  (B:∀b,H b=some (.own a)->g b=some (.own a)) (I:∀b xs,H b=some (.tup xs)->g b=some (.tup xs)):NA P w g h' a o:=by
 induction o with|lst xs=>obtain⟨z,m,n,r,e⟩:=x;exact⟨z,m,n,r,k _ _ (.inl rfl) e⟩|tup xs=>obtain⟨z,m,r,i,e,c⟩:=x;exact⟨z,m,r,i,k _ _ (.inl rfl) e,c⟩|dK Y=>obtain⟨z,y,W,r,i,j,l,e,c⟩:=x;exact⟨z,y,W,r,i,j,l,k _ _ (.inl rfl) e,c⟩|dT l Y=>obtain⟨z,y,xs,r,i,j,e,c⟩:=x;exact⟨z,y,xs,r,i,j,k _ _ (.inl rfl) e,c⟩|set S n=>obtain⟨i,j,l,t,e,c⟩:=x;exact⟨i,j,l,t,k _ _ (.inl rfl) e,c⟩|ins C L fs=>obtain⟨d,z,K,e,X,⟨s,j,l,E,c⟩,r⟩:=x;exact⟨B _ d,z,K,k _ _ (.inl rfl) e,X,⟨s,j,l,k _ _ (.inr d) E,c⟩,r⟩|own y=>obtain⟨i,e⟩:=x;exact⟨i,k _ _ (.inl rfl) e⟩|xd fs=>obtain⟨X,⟨s,j,l,e,c⟩,r⟩:=x;exact⟨X,⟨s,j,l,k _ _ (.inl rfl) e,c⟩,r⟩|rng G J=>obtain⟨t,u,v,e⟩:=x;exact⟨t,u,v,k _ _ (.inl rfl) e⟩|frz i u A=>obtain⟨e,q⟩:=x;exact⟨k _ _ (.inl rfl) e,A q⟩|tbl Z=>have e:h.get? a=some { cls:=.none,data:=.fields Z }:=x;show h'.get? a=some { cls:=.none,data:=.fields Z };exact k a _ (.inl rfl) e|met f y=>have e:h.get? a=some (QAg (.ref f) (.ref y)):=x;show h'.get? a=some (QAg (.ref f) (.ref y));exact k a _ (.inl rfl) e|ext F=>obtain⟨p,⟨o,e⟩,st⟩:=x;exact⟨st _ _ p λo q=>k _ _ (.inl rfl) q,⟨o,k _ _ (.inl rfl) e⟩,st⟩
theorem uK.lt(x:uK P w H h)(e:H a=some o):a<h.objs.size:=(x a o e).lt
theorem uK.fresh(x:uK P w H h)(e:h.objs.size<=a):H a=none:=by
 cases q:H a with|none=>rfl|some u=>exact absurd (Qq (x.lt q) e) (wM _)
theorem uK.kept(x:uK P w H h)(k:∀b u,h.get? b=some u->h'.get? b=some u):uK P w H h':=λa o e =>
 (x a o e).stay (λb u _ q=>k b u q) (λ_ q=>q) λ_ _ q=>q
theorem uK.laid(x:uK P w H h)(k:∀b u,h.get? b=some u->h'.get? b=some u)(z:h.objs.size<=a)(new:NA P w (OA H a o) h' a o):uK P w (OA H a o) h':=λb u e=>by have y:=x.fresh z;by_cases hb:b=a;subst hb;rw[DA]at e;cases e;exact new;rw[xA hb]at e;exact(x b u e).stay (λc v _ q=>k c v q) (λc q=>by rw[xA (VA q y)];exact q) λc f q=>by rw[xA (VA q y)];exact q
end
def Rd(H:Hp)(a:Addr)(u:HO):Prop:=H a=some u∨∃o,H a=some (.frz o u)
theorem Rd.ok{P:Program}{w:World}{H:Hp}{h:Heap}{a:Addr}{u:HO}(r:Rd H a u)(x:uK P w H h):NA P w H h a u:=by
 rcases r with r|⟨o,r⟩
 exact x a u r;obtain⟨_,q⟩:=x a _ r;exact q
def ce:Option HO->Prop
 |some (.lst _)=>True|some (.dK _)=>True|some (.dT _ _)=>True|some (.set _ _)=>True|some (.ins _ _ _)=>True|some (.ext _)=>True|_=>False
section
variable{P:Program}{w:World}{H:Hp}{h h':Heap}{x e:Addr}{a:HO}
theorem uK.write(ok:uK P w H h)(l:ce (H x))(p:e=x∨H e=some (.own x))(k:∀b u,b≠e->h.get? b=some u->h'.get? b=some u)(n:∃u,h'.get? e=some u)
  (new:NA P w (OA H x a) h' x a):uK P w (OA H x a) h':=λb u q=>by
 have g:∀c y,H c=some (.own y)->c≠x:=λc y r z=>by subst z;rw[r]at l;exact l
 have i:∀c j,H c=some (.tup j)->c≠x:=λc j r z=>by subst z;rw[r]at l;exact l
 by_cases hb:b=x;subst hb;rw[DA]at q;cases q;exact new;rw[xA hb]at q;by_cases f:b=e;have o:H b=some (.own x):=by rcases p with z|z;exact absurd (f.trans z) hb;rw[f];exact z
 rw[q]at o;cases o;obtain⟨v,s⟩:=n;exact⟨v,by rw[f];exact s⟩;refine(ok b u q).stay (λc v m r=>k c v ?_ r) (λc r=>by rw[xA (g c b r)];exact r) λc j r=>by rw[xA (i c j r)];exact r
 rcases m with rfl|m;exact f;rintro rfl;rcases p with z|z;exact g c b m z;rw[m]at z;cases z;exact hb rfl
end
structure Un(fs ex:List Addr)(H H':Hp)(h h':Heap):Prop where
 keep:∀b o,h.get? b=some o->H b=none->b∉fs->b∉ex->h'.get? b=some o
 slot:∀b o,h.get? b=some o->H b=none->b∈fs->b∉ex->∃sl,h'.get? b=some { o with slots:=sl }
 free:∀b o,h.get? b=some o->H b=none->b∉ex->H' b=none
 there:∀b o,h.get? b=some o->b∉ex->∃o',h'.get? b=some o'
 tups:∀b xs,H b=some (.tup xs)->H' b=some (.tup xs)
 frzs:∀b o u,H b=some (.frz o u)->H' b=some (.frz o u)
 tbls:∀b ps,H b=some (.tbl ps)->∃more,H' b=some (.tbl (ps++more))
section
variable{y w ex c:List Addr}{H d g:Hp}{h v f h':Heap}{a x e:Addr}{o:HO}
theorem Un.any(u:Un y ex H d h v){b:Addr}{z:Obj}(q:h.get? b=some z)(n:H b=none)(k:b∉ex):∃i,v.get? b=some { z with slots:=i }:=by by_cases hb:b∈y;exact u.slot b z q n hb k;exact⟨z.slots,u.keep b z q n hb k⟩
theorem Un.kept(k:∀b u,h.get? b=some u->h'.get? b=some u):Un y ex H H h h' :=
 ⟨λb z q _ _ _=>k b z q,λb z q _ _ _=>⟨z.slots,k b z q⟩,λ_ _ _ n _=>n,λb z q _=>⟨z,k b z q⟩,λ_ _ q=>q,λ_ _ _ q=>q,λ_ i q=>⟨#[],by rw[q];simp⟩⟩
theorem Un.refl:Un y ex H H h h:=Un.kept λ_ _ q=>q
theorem Un.laid(k:∀b u,h.get? b=some u->h'.get? b=some u)(j:h.objs.size<=a)(z:H a=none):Un y ex H (OA H a o) h h' where
 keep:=λb u q _ _ _=>k b u q
 slot:=λb u q _ _ _=>⟨u.slots,k b u q⟩
 free:=λb u q n _=>by rw[xA (QZ (Qq (QR q) j))];exact n
 there:=λb u q _=>⟨u,k b u q⟩
 tups:=λb i q=>by rw[xA (VA q z)];exact q
 frzs:=λb u i q=>by rw[xA (VA q z)];exact q
 tbls:=λb l q=>⟨#[],by rw[xA (VA q z),q];simp⟩
theorem Un.write(j:ce (H x))(X:e=x∨H e=some (.own x))(k:∀b u,b≠e->h.get? b=some u->h'.get? b=some u)(m:∃u,h'.get? e=some u):Un y ex H (OA H x o) h h':=by
 have p:∀b,H b=none->b≠x:=λb n z=>by subst z;rw[n]at j;exact j
 have hb:∀b,H b=none->b≠e:=λb n z=>by subst z;rcases X with r|r;exact p b n r;rw[n]at r;cases r
 have l:∀b u,H b=some u->¬ ce (some u)->b≠x:=λb u q nm z=>by subst z;rw[q]at j;exact nm j
 refine⟨λb u q n _ _=>k b u (hb b n) q,λb u q n _ _=>⟨u.slots,k b u (hb b n) q⟩,λb u q n _=>by rw[xA (p b n)];exact n,λb u q _=>?_,
  λb s q=>by rw[xA (l b _ q λz=>z)];exact q,λb u s q=>by rw[xA (l b _ q λz=>z)];exact q,λb Y q=>⟨#[],by rw[xA (l b _ q λz=>z),q];simp⟩⟩
 by_cases i:b=e;subst i;exact m;exact⟨u,k b u i q⟩
end
section
variable{h:Heap}{b:Addr}{o:Obj}
def Oi(h:Heap)(H:Hp):List Addr:=(qC h.objs.size).filter λa=>(H a).isSome
def VO(h:Heap)(H:Hp):Heap:=PySem.W.hideAll h (Oi h H)
theorem XW(h:Heap)(H:Hp):(VO h H).objs.size=h.objs.size:=PySem.W.hideAll_size _ _
theorem CZ{H:Hp}(e:h.get? b=some o)(n:H b=none):(VO h H).get? b=some o :=
 PySem.W.hideAll_get _ e λx=>by have q:(H b).isSome=true:=(Qj.mp x).2;rw[n]at q;simp at q
theorem P5{H:Hp}(e:(VO h H).get? b=some o):h.get? b=some o/\H b=none:=by
 have y:h.get? b=some o:=PySem.W.of_hideAll (Oi h H) e;refine⟨y,?_⟩;cases q:H b with|none=>rfl|some x=>have u:b∈Oi h H:=Qj.mpr ⟨WS.mpr (QR y),by simp[q]⟩;have z:(VO h H).get? b=none:=PySem.W.hideAll_none (Oi h H) u;rw[z]at e;cases e
structure Mod(K:QC)(mg:Str->Option Value)(base:Heap):Prop where
 kin:K.In base
 glob:base.Ns mainGlobals mg
 blt:∃mb,base.Ns builtinsNs mb/\∀x:Str,x≠"__name__"->mb x=bootBuiltins x
 nolimit:base.NoLimit
structure Cx where
 prog:Program
 w:World
 K:QC
 mg:Str->Option Value
 base:Heap
 A:Around
 N:List Str
 s₀:Shared
 H₀:Hp
 env:Env
 outer:List Env
 stack:List Env
 ex:List Addr
 fn:Str->Bool
 calm:Bool
 pn:TB
 xe:Value->Shared->Prop
def DW(l:List Env):List Addr:=l.filterMap (·.frame)
noncomputable abbrev Cx.fs(X:Cx):List Addr:=DW X.outer
def nh(sc:Scope)(x:Str):Prop:=sc.names.lookup x=some .local∨sc.names.lookup x=some .cell∨sc.names.lookup x=some .free
def fe(sc:Scope)(x:Str):Prop:=sc.names.lookup x=some .local∨sc.names.lookup x=some .cell
def Vn(env:Env)(h:Heap)(m:Str->Option Value)(x:Str)(u:Value):Prop :=
 (env.kindOf x=some .local/\m x=some u)∨((env.kindOf x=some .cell∨env.kindOf x=some .free)/\∃c,env.cells.lookup x=some c/\h.IsCell c (some u))
structure Cx.Ok(X:Cx):Prop where
 mod:Mod X.K X.mg X.base
 kind:X.env.scope.kind=.function
 glob:X.env.globals=mainGlobals
 blt:X.env.builtins=builtinsNs
 above:X.s₀.heap.objs.size<=X.env.locals
 inj:∀x y c,X.env.cells.lookup x=some c->X.env.cells.lookup y=some c->x=y
 has:∀x,(X.env.kindOf x=some .cell∨X.env.kindOf x=some .free)->∃c,X.env.cells.lookup x=some c
 cab:∀x c,X.fn x=true->X.env.cells.lookup x=some c->X.s₀.heap.objs.size<=c
 hd:X.calm=true->X.A.handled=none
 frames:X.A.frames=some X.stack
 stk:X.stack=X.outer∨(X.stack=X.env::X.outer/\X.env.frame=some X.env.locals)
 exf:∀b∈X.ex,b≠X.env.locals/\∀x c,X.env.cells.lookup x=some c->c≠b
 bs:∀b o,X.base.get? b=some o->X.s₀.heap.get? b=some o/\X.H₀ b=none
 bsz:X.base.objs.size<=X.s₀.heap.objs.size
 noex:∀b o,X.base.get? b=some o->b∉X.ex
 exfs:∀b∈X.ex,b∉X.fs
 funs:X.s₀.heap.FunFrames X.base X.outer
 frf:∀b∈X.fs,X.H₀ b=none
structure Inv(X:Cx)(pins:TB)(σ:List (Option V))(H:Hp)(s:Shared):Prop where
 ok:X.Ok
 os:s.os=X.s₀.os
 bare:AllBare s.gens
 base:Un X.fs X.ex X.H₀ H X.s₀.heap s.heap
 loc:∃m,s.heap.Ns X.env.locals m/\∀(i:Nat) (x:Str) (v:V),X.N[i]?=some x->σ[i]?=some (some v)->nh X.env.scope x->∃u,sA v u/\Vn X.env s.heap m x u
 cell:∀x c,X.env.cells.lookup x=some c->∃v,s.heap.IsCell c v
 free:H X.env.locals=none
 freeC:∀x c,X.env.cells.lookup x=some c->H c=none
 pin:∀p∈X.pn++pins,s.heap.get? p.1=some p.2/\H p.1=none/\p.1≠X.env.locals/\p.1∉X.fs/\∀v,p.2.data≠.cell v
 hok:uK X.prog X.w H s.heap
 len:σ.length=X.N.length
end
section
variable{X:Cx}{f:TB}{σ:List (Option V)}{H g:Hp}{s:Shared}{h':Heap}
section
variable{a:Addr}{g':Array GenState}{ch:List Addr}{i:Nat}{x:Str}{M:Model}{A:Around}{E:zC}{u:Value}{Q:Unit->Shared->Prop}
theorem Cx.Ok.nofr(ok:X.Ok){b:Addr}{o:Obj}(e:X.base.get? b=some o):b∉X.fs:=λhb=>by have:=(ok.funs.mem hb).1;rw[e]at this;cases this
theorem Inv.bs(I:Inv X f σ H s):∀b o,X.base.get? b=some o->s.heap.get? b=some o/\H b=none:=λb o e =>
 ⟨I.base.keep b o (I.ok.bs b o e).1 (I.ok.bs b o e).2 (I.ok.nofr e) (I.ok.noex b o e),I.base.free b o (I.ok.bs b o e).1 (I.ok.bs b o e).2 (I.ok.noex b o e)⟩
theorem Inv.bk(I:Inv X f σ H s):∀b o,X.base.get? b=some o->s.heap.get? b=some o:=λb o e=>(I.bs b o e).1
theorem Inv.mod(I:Inv X f σ H s):Mod X.K X.mg X.base:=I.ok.mod
theorem Inv.kIn(I:Inv X f σ H s):X.K.In s.heap:=I.ok.mod.kin.keeps I.bk
theorem Inv.lt(I:Inv X f σ H s):X.env.locals<s.heap.objs.size:=let⟨_,h,_⟩:=I.loc;h.lt
theorem Inv.sz(I:Inv X f σ H s):X.s₀.heap.objs.size<=s.heap.objs.size:=QY I.ok.above (QAY I.lt)
theorem Inv.nofs(I:Inv X f σ H s)(h:s.heap.objs.size<=a):a∉X.fs:=λhb=>by obtain⟨_,o,y,_⟩:=I.ok.funs.mem hb;exact absurd (Qq (QR y) (QY I.sz h)) (wM _)
theorem Inv.cne(I:Inv X f σ H s):∀x c,X.env.cells.lookup x=some c->c≠X.env.locals:=λx c e z=>by obtain⟨v,o,w,k⟩:=I.cell x c e;obtain⟨m,⟨b,j,l,h,y,_⟩,_⟩:=I.loc;rw[z,h]at w;cases w;rw[y]at k;cases k
theorem Inv.funs(I:Inv X f σ H s):s.heap.FunFrames X.base X.outer:=by
 have all:∀(l:List Env),(∀b∈DW l,b∈X.fs)->X.s₀.heap.FunFrames X.base l->s.heap.FunFrames X.base l:=by
  intro l;induction l with|nil=>intro _ _;trivial|cons q r w=>intro v n;obtain⟨hk,⟨L,o,h,m,j,p⟩,k⟩:=n;have y:L∈X.fs:=v L (by unfold DW;rw[ww,h];exact QD);obtain⟨Y,e⟩:=I.base.slot L o j (I.ok.frf L y) y λz=>I.ok.exfs L z y;exact⟨hk,⟨L,_,h,m,e,p⟩,w (λb hb=>v b (by unfold DW;rw[ww,h];exact QE _ hb)) k⟩
 exact all X.outer (λ_ hb=>hb) I.ok.funs
theorem Inv.stack(I:Inv X f σ H s):s.heap.FunFrames X.base X.stack:=by
 rcases I.ok.stk with e|⟨e,y⟩
 rw[e];exact I.funs;rw[e];obtain⟨m,h,_⟩:=I.loc;refine .cons (by rw[I.ok.kind];decide) y h ?_ I.funs;exact Heap.get?_none_of_le (QY I.ok.bsz I.ok.above)
theorem Inv.stkSub(I:Inv X f σ H s):∀b∈DW X.stack,b∈X.env.locals::X.fs:=λb hb=>by
 rcases I.ok.stk with e|⟨e,h⟩
 rw[e]at hb;exact QE _ hb;rw[e]at hb;unfold DW at hb;rw[ww,h]at hb;exact hb
theorem Inv.stkFree(I:Inv X f σ H s):∀b∈DW X.stack,H b=none:=λb hb=>by rcases QJ.mp (I.stkSub b hb) with e|hb;rw[e];exact I.free;obtain⟨_,o,h,_⟩:=I.ok.funs.mem hb;exact I.base.free b o h (I.ok.frf b hb) λz=>I.ok.exfs b z hb
theorem Inv.step{t':Nat}{d':Drawn}(I:Inv X f σ H s)
  (j:∀b∈ch,(b∈X.ex∨X.s₀.heap.objs.size<=b)/\b≠X.env.locals/\(∀x c,X.env.cells.lookup x=some c->c≠b)/\∀p∈X.pn++f,p.1≠b)
  (keep:∀b o,b≠X.env.locals->b∉X.fs->b∉ch->s.heap.get? b=some o->H b=none->h'.get? b=some o)
  (K:∀b o,b≠X.env.locals->b∈X.fs->b∉ch->s.heap.get? b=some o->H b=none->∃sl,h'.get? b=some { o with slots:=sl }) (free:∀b o,b∉ch->s.heap.get? b=some o->H b=none->g b=none)
  (B:∀b o,b∉ch->s.heap.get? b=some o->∃J,h'.get? b=some J)
  (F:∀b xs,H b=some (.tup xs)->g b=some (.tup xs)) (O:∀b o u,H b=some (.frz o u)->g b=some (.frz o u)) (G:∀b R,H b=some (.tbl R)->∃N,g b=some (.tbl (R++N)))
  (ns:∀m,s.heap.Ns X.env.locals m->h'.Ns X.env.locals m) (hok:uK X.prog X.w g h') (hg:AllBare g') :
  Inv X f σ g { s with heap:=h',gens:=g',drawn:=d',toks:=t' }:=by
 have L:∀b o,X.s₀.heap.get? b=some o->b≠X.env.locals:=λb o e=>QZ (Qq (QR e) I.ok.above);have Z:∀b o,X.s₀.heap.get? b=some o->b∉X.ex->b∉ch:=λb o e h hb=>by rcases(j b hb).1 with z|z;exact h z;exact absurd (Qq (QR e) z) (wM _)
 have Y:∀x c,X.env.cells.lookup x=some c->∀v,s.heap.IsCell c v->h'.IsCell c v:=λx c e v ⟨o,C,hd⟩=>by have y:c∉ch:=λz=>(j c z).2.2.1 x c e rfl;by_cases hc:c∈X.fs;obtain⟨sl,q⟩:=K c o (I.cne x c e) hc y C (I.freeC x c e);exact⟨_,q,hd⟩;exact⟨o,keep c o (I.cne x c e) hc y C (I.freeC x c e),hd⟩
 refine⟨I.ok,I.os,hg,⟨λb o e n hb h=>?_,λb o e n hb h=>?_,λb o e n h=>?_,λb o e h=>?_,λb xs e=>F b xs (I.base.tups b xs e),λb o xs e=>O b o xs (I.base.frzs b o xs e),λb R e=>?_⟩,?_,λx c e=>?_,?_,λx c e=>?_,λp hp=>?_,hok,I.len⟩;exact keep b o (L b o e) hb (Z b o e h) (I.base.keep b o e n hb h) (I.base.free b o e n h);obtain⟨sl,W⟩:=I.base.slot b o e n hb h;obtain⟨S,P⟩:=K b _ (L b o e) hb (Z b o e h) W (I.base.free b o e n h);exact⟨S,P⟩;obtain⟨J,W⟩:=I.base.there b o e h;exact free b J (Z b o e h) W (I.base.free b o e n h);obtain⟨J,W⟩:=I.base.there b o e h;exact B b J (Z b o e h) W;obtain⟨m1,W⟩:=I.base.tbls b R e;obtain⟨m2,P⟩:=G b _ W;exact⟨m1++m2,by rw[P,Array.append_assoc]⟩;obtain⟨m,hn,hl⟩:=I.loc;refine⟨m,ns m hn,λi x v W P e3=>?_⟩;obtain⟨u,r,l⟩:=hl i x v W P e3;refine⟨u,r,?_⟩;rcases l with l|⟨k,c,e,z⟩
 exact .inl l;exact .inr ⟨k,c,e,Y x c e _ z⟩;obtain⟨v,z⟩:=I.cell x c e;exact⟨v,Y x c e v z⟩;obtain⟨m,⟨o,_,_,C,_⟩,_⟩:=I.loc;exact free _ o (λz=>(j _ z).2.1 rfl) C I.free;obtain⟨v,o,C,hd⟩:=I.cell x c e;exact free c o (λz=>(j c z).2.2.1 x c e rfl) C (I.freeC x c e);obtain⟨e,n,ne,nf,d⟩:=I.pin p hp;have y:p.1∉ch:=λz=>(j p.1 z).2.2.2 p hp rfl;exact⟨keep p.1 p.2 ne nf y e n,free p.1 p.2 y e n,ne,nf,d⟩
theorem Inv.un{t':Nat}(I:Inv X f σ H s)(u:Un X.fs [] H g s.heap h')(y:uK X.prog X.w g h'):Inv X f σ g { s with heap:=h',toks:=t' }:=by obtain⟨m,⟨o,K,B,j,r⟩,_⟩:=id I.loc;obtain⟨Y,q⟩:=u.any j I.free (by simp);exact I.step (g':=s.gens) (d':=s.drawn) (ch:=[]) (λ_ z=>nomatch z) (λb o _ hb _ e n=>u.keep b o e n hb (by simp)) (λb o _ hb _ e n=>u.slot b o e n hb (by simp)) (λb o _ e n=>u.free b o e n (by simp)) (λb o _ e=>u.there b o e (by simp)) u.tups u.frzs u.tbls (λW p=>by obtain⟨Z,v,k,h,l⟩:=p;rw[j]at h;cases h;exact⟨_,v,k,q,l⟩) y I.bare
theorem Inv.call{t':Nat}{d':Drawn}(I:Inv X f σ H s)(u:Un (DW X.stack) ch H g s.heap h')(k:uK X.prog X.w g h')(K:AllBare g')
  (v:∀b∈ch,(b∈X.ex∨X.s₀.heap.objs.size<=b)/\b≠X.env.locals/\(∀x c,X.env.cells.lookup x=some c->c≠b)/\∀p∈X.pn++f,p.1≠b) :
  Inv X f σ g { s with heap:=h',gens:=g',drawn:=d',toks:=t' }:=by
 obtain⟨m,⟨o,G,J,Y,r⟩,_⟩:=id I.loc;obtain⟨B,j⟩:=u.any Y I.free λz=>(v _ z).2.1 rfl;exact I.step (ch:=ch) v (λb o j hb h e n=>u.keep b o e n (λz=>(QJ.mp (I.stkSub b z)).elim j hb) h) (λb o _ _ h e n=>u.any e n h) (λb o h e n=>u.free b o e n h) (λb o h e=>u.there b o e h) u.tups u.frzs u.tbls (λF W=>by obtain⟨C,l,q,y,Z⟩:=W;rw[Y]at y;cases y;exact⟨_,l,q,j,Z⟩) k K
theorem Inv.turned{t':Nat}{it:Addr}(I:Inv X f σ H s)(k:∀b o,b≠it->s.heap.get? b=some o->h'.get? b=some o)(l:H it=none)(w:it≠X.env.locals)
  (K:it∈X.ex∨X.s₀.heap.objs.size<=it) (W:∀x c,X.env.cells.lookup x=some c->c≠it) (Z:∀p∈X.pn++f,p.1≠it):Inv X f σ H { s with heap:=h',toks:=t' }:=by
 have y:∀b u,H b=some u->b≠it:=λb u e z=>by rw[z,l]at e;cases e
 refine I.step (g':=s.gens) (d':=s.drawn) (ch:=[it]) (λb hb=>?_) (λb o _ _ h e _=>k b o (λz=>h (by simp[z])) e) (λb o _ _ h e _=>⟨o.slots,k b o (λz=>h (by simp[z])) e⟩) (λ_ _ _ _ n=>n)
  (λb o h e=>⟨o,k b o (λz=>h (by simp[z])) e⟩) (λ_ _ e=>e) (λ_ _ _ e=>e) (λb F e=>⟨#[],by rw[e];simp⟩) (λm Y=>?_) (λb u e=>?_) I.bare
 have e:b=it:=by simpa using hb
 subst e;exact⟨K,w,W,Z⟩;obtain⟨o,B,C,j,r⟩:=Y;exact⟨o,B,C,k _ o (Q6 w) j,r⟩;refine(I.hok b u e).stay (λc v h q=>k c v ?_ q) (λ_ q=>q) λ_ _ q=>q;rcases h with z|z;rw[z];exact y b u e;exact y c _ z
theorem Inv.tok(I:Inv X f σ H s)(t:Nat):Inv X f σ H { s with toks:=t }:=I.un (h':=s.heap) (t':=t) Un.refl I.hok
theorem Inv.kept{t':Nat}(I:Inv X f σ H s)(k:∀b u,s.heap.get? b=some u->h'.get? b=some u):Inv X f σ H { s with heap:=h',toks:=t' }:=I.un (Un.kept k) (I.hok.kept k)
theorem Inv.laid{o:HO}{t':Nat}(I:Inv X f σ H s)(k:∀b u,s.heap.get? b=some u->h'.get? b=some u)(h:s.heap.objs.size<=a)(new:NA X.prog X.w (OA H a o) h' a o) :
  Inv X f σ (OA H a o) { s with heap:=h',toks:=t' }:=I.un (Un.laid k h (I.hok.fresh h)) (I.hok.laid k h new)
theorem Inv.write{x e:Addr}{o:HO}{t':Nat}(I:Inv X f σ H s)(y:ce (H x))(z:e=x∨H e=some (.own x))(k:∀b u,b≠e->s.heap.get? b=some u->h'.get? b=some u)(h:∃u,h'.get? e=some u)
  (new:NA X.prog X.w (OA H x o) h' x o):Inv X f σ (OA H x o) { s with heap:=h',toks:=t' }:=I.un (Un.write y z k h) (I.hok.write y z k h new)
theorem Inv.pins_of{y:TB}(I:Inv X f σ H s)(h:∀p∈y,s.heap.get? p.1=some p.2/\H p.1=none/\p.1≠X.env.locals/\p.1∉X.fs/\∀v,p.2.data≠.cell v):Inv X y σ H s :=
 ⟨I.ok,I.os,I.bare,I.base,I.loc,I.cell,I.free,I.freeC,λp w=>(Qg.mp w).elim (λz=>I.pin p (Qt _ z)) (h p),I.hok,I.len⟩
theorem lQ{N:List Str}(h:N.Nodup){j:Nat}(a:N[i]?=some x)(b:N[j]?=some x):i=j:=by obtain⟨w,z⟩:=Qd.mp a;obtain⟨v,y⟩:=Qd.mp b;exact(List.getElem_inj h).mp (z.trans y.symm)
theorem YM{v:V}(I:Inv X f σ H s)(hN:X.N.Nodup)(P:X.N[i]?=some x)(K:fe X.env.scope x)(r:sA v u)
  (h:∀s',Inv X f (σ.set i (some v)) H s'->(∃a,qV a s.heap s'.heap/\(a=X.env.locals∨X.env.cells.lookup x=some a))->Q () s') (hf:X.fn x=true∨X.env.scope.names.lookup x=some .local):wpAny M A (storeName X.env x u) Q E s:=by
 obtain⟨m,hn,hl⟩:=id I.loc;have R:(X.env.scope.kind==.class||(X.env.scope.kind==.module&&X.env.locals != X.env.globals))=false:=by rw[I.ok.kind];rfl
 have F:i<σ.length:=by rw[I.len];exact(Qd.mp P).1
 have cne:=I.cne;have Y:∀{a:Addr}{h':Heap},(∃o,s.heap.get? a=some o/\H a=none)->qV a s.heap h'->uK X.prog X.w H h':=λ{a h'} ha l b ob e=>by obtain⟨_,_,B⟩:=ha;refine(I.hok b ob e).stay (λc w' W q=>(l.2 c ?_).trans q) (λ_ q=>q) λ_ _ q=>q;rintro rfl;rcases W with rfl|W;rw[B]at e;cases e;rw[B]at W;cases W
 rcases K with hk|hk;refine wpAny_storeName_local hk hn (λh' hn' l=>?_) R;obtain⟨oL,_,_,hoL,_⟩:=id hn;refine h _ ⟨I.ok,I.os,I.bare,⟨λb o e n hb K=>?_,λb o e n hb K=>?_,I.base.free,λb o e K=>?_,I.base.tups,I.base.frzs,I.base.tbls⟩,⟨_,hn',λj y v' Z C e3=>?_⟩,λy c e=>?_,I.free,I.freeC,λp hp=>?_,Y ⟨oL,hoL,I.free⟩ l,by simpa using I.len⟩ ⟨_,l,.inl rfl⟩;exact(l.2 b (QZ (Qq (QR e) I.ok.above))).trans (I.base.keep b o e n hb K);obtain⟨sl,Z⟩:=I.base.slot b o e n hb K;exact⟨sl,(l.2 b (QZ (Qq (QR e) I.ok.above))).trans Z⟩;obtain⟨o',Z⟩:=I.base.there b o e K;exact⟨o',(l.2 b (QZ (Qq (QR e) I.ok.above))).trans Z⟩;by_cases G:j=i
 ·subst G
  rw[P]at Z;cases Z;rw[qd F]at C;cases C;exact⟨u,r,.inl ⟨hk,by simp⟩⟩
 rw[qT (Q6 G)]at C;obtain⟨u',r',q⟩:=hl j y v' Z C e3;refine⟨u',r',?_⟩;rcases q with⟨k,e⟩| ⟨k,c,e,z⟩
 refine .inl ⟨k,?_⟩;have:y≠x:=λe=>G (lQ hN Z (e▸P));simp[this,e];exact .inr ⟨k,c,e,z.sameBut l (cne y c e)⟩;obtain⟨w',z⟩:=I.cell y c e;exact⟨w',z.sameBut l (cne y c e)⟩;obtain⟨e,n,ne,nf,d⟩:=I.pin p hp;exact⟨(l.2 p.1 ne).trans e,n,ne,nf,d⟩;have J:X.fn x=true:=by rcases hf with z|z;exact z;rw[z]at hk;cases hk
 obtain⟨c,W⟩:=I.ok.has x (.inl hk);obtain⟨w',z⟩:=I.cell x c W;refine wpAny_storeName_cell I.ok.kind hk W z (λh' hc' l=>?_);obtain⟨oc,O,L⟩:=id z;refine h { s with heap:=h' } ⟨I.ok,I.os,I.bare,⟨λb o e n hb K=>?_,λb o e n hb K=>?_,I.base.free,λb o e K=>?_,I.base.tups,I.base.frzs,I.base.tbls⟩,⟨m,hn.sameBut l (Q6 (cne x c W)),λj y v' Z C e3=>?_⟩,λy c' e=>?_,I.free,I.freeC,λp hp=>?_,Y ⟨oc,O,I.freeC x c W⟩ l,by simpa using I.len⟩ ⟨c,l,.inr W⟩;exact(l.2 b (QZ (Qq (QR e) (I.ok.cab x c J W)))).trans (I.base.keep b o e n hb K);obtain⟨sl,Z⟩:=I.base.slot b o e n hb K;exact⟨sl,(l.2 b (QZ (Qq (QR e) (I.ok.cab x c J W)))).trans Z⟩;obtain⟨o',Z⟩:=I.base.there b o e K;exact⟨o',(l.2 b (QZ (Qq (QR e) (I.ok.cab x c J W)))).trans Z⟩;by_cases G:j=i
 ·subst G
  rw[P]at Z;cases Z;rw[qd F]at C;cases C;exact⟨u,r,.inr ⟨.inl hk,c,W,hc'⟩⟩
 rw[qT (Q6 G)]at C;obtain⟨u',r',q⟩:=hl j y v' Z C e3;refine⟨u',r',?_⟩;rcases q with q|⟨k,c',e,z'⟩
 exact .inl q;refine .inr ⟨k,c',e,z'.sameBut l ?_⟩;rintro rfl;exact G (lQ hN Z (I.ok.inj _ _ _ e W▸P));by_cases S:c'=c
 ·subst S;exact⟨_,hc'⟩
 obtain⟨w2,z2⟩:=I.cell y c' e;exact⟨w2,z2.sameBut l S⟩;obtain⟨e,n,ne,nf,d⟩:=I.pin p hp;refine⟨(l.2 p.1 ?_).trans e,n,ne,nf,d⟩;intro q;rw[q,O]at e;have q':oc=p.2:=qE e;exact d w' (by rw[<- q'];exact L)
theorem ZP{v:V}(I:Inv X f σ H s)(k:X.N.Nodup)(z:X.N[i]?=some x)(y:fe X.env.scope x)(r:sA v u)
  (h:∀s',Inv X f (σ.set i (some v)) H s'->Q () s') (w:X.fn x=true∨X.env.scope.names.lookup x=some .local):wpAny M A (storeName X.env x u) Q E s :=
 YM I k z y r (λs' b _=>h s' b) w
theorem Inv.call'{s':Shared}(I:Inv X f σ H s)(v:s'.os=s.os)(u:Un (DW X.stack) ch H g s.heap s'.heap)(h:uK X.prog X.w g s'.heap)(k:AllBare s'.gens)
  (y:∀b∈ch,(b∈X.ex∨X.s₀.heap.objs.size<=b)/\b≠X.env.locals/\(∀x c,X.env.cells.lookup x=some c->c≠b)/\∀p∈X.pn++f,p.1≠b):Inv X f σ g s':=by
 obtain⟨h',g',d',t',z⟩:=s';have e:z=s.os:=v;subst e;exact I.call (g':=g') (t':=t') (d':=d') u h k y
end
end
noncomputable abbrev XK:=Value->Option Addr->Hp->Prop
noncomputable abbrev St:=List (Option V)
noncomputable abbrev VK:=V->Hp->Prop
noncomputable abbrev TE:=St->Hp->VK->Prop
noncomputable abbrev TT:=St->Hp->(Bool->Hp->Prop)->Prop
noncomputable abbrev TA:=St->Hp->(List V->Hp->Prop)->Prop
structure Ends where
 nx:St->Hp->Prop
 rt:VK
 bk:St->Hp->Prop:=λ_ _=>False
 ct:St->Hp->Prop:=λ_ _=>False
noncomputable abbrev TS:=Ends->St->Hp->Prop
def EP(X:Cx)(h:TB)(σ:St)(Q:VK)(u:Value)(s':Shared):Prop:=∃v x,Inv X h σ x s'/\sA v u/\Q v x
def TP(X:Cx)(h:TB)(σ:St)(Q:Bool->Hp->Prop)(b:Bool)(s':Shared):Prop:=∃x,Inv X h σ x s'/\Q b x
def AP(X:Cx)(h:TB)(σ:St)(Q:List V->Hp->Prop)(us:List Value)(s':Shared):Prop:=∃x y,Inv X h σ y s'/\bA x us/\Q x y
def SP(X:Cx)(x:TB)(D:Ends)(f:Flow)(s':Shared):Prop :=
 match f with
 | .next=>∃h y,Inv X x h y s'/\D.nx h y|.brk=>∃h y,Inv X x h y s'/\D.bk h y|.cont=>∃h y,Inv X x h y s'/\D.ct h y|.ret u=>∃v h y,Inv X x h y s'/\sA v u/\D.rt v y
def PE(X:Cx)(e:Expr)(t:TE):Prop :=
 ∀(h:TB) (s:Shared) (x:St) (H:Hp) (Q:VK),Inv X h x H s->t x H Q->wpAny (model X.prog X.w) X.A (eval e X.env) (EP X h x Q) X.xe s
def PT(X:Cx)(e:Expr)(t:TT):Prop :=
 ∀(h:TB) (s:Shared) (x:St) (H:Hp) (Q:Bool->Hp->Prop),Inv X h x H s->t x H Q->wpAny (model X.prog X.w) X.A (isTrue e X.env (eval e X.env)) (TP X h x Q) X.xe s
def PW(X:Cx)(e:Expr)(t:TT):Prop :=
 ∀(x:Sem Value) (h:TB) (s:Shared) (y:St) (H:Hp) (Q:Bool->Hp->Prop),Inv X h y H s->t y H Q->wpAny (model X.prog X.w) X.A (isTrue e X.env x) (TP X h y Q) X.xe s
theorem PW.pt{X:Cx}{e:Expr}{t:TT}(h:PW X e t):PT X e t:=h _
def PA(X:Cx)(es:List Expr)(t:TA):Prop :=
 ∀(y:Pos) (h:TB) (s:Shared) (x:St) (H:Hp) (Q:List V->Hp->Prop),Inv X h x H s->t x H Q->wpAny (model X.prog X.w) X.A (spliced (backTo y (starEach es X.env))) (AP X h x Q) X.xe s
def PS(X:Cx)(st:Stmt)(t:TS):Prop :=
 ∀(h:TB) (s:Shared) (x:St) (H:Hp) (D:Ends),Inv X h x H s->t D x H->wpAny (model X.prog X.w) X.A (exec st X.env) (SP X h D) X.xe s
def tT(X:Cx)(st:List Stmt)(t:TS):Prop :=
 ∀(h:TB) (s:Shared) (x:St) (H:Hp) (D:Ends),Inv X h x H s->t D x H->wpAny (model X.prog X.w) X.A (execs st X.env) (SP X h D) X.xe s
theorem OB{α:Type}{t:Sem α}{Q y:α->Shared->Prop}{M:Model}{A:Around}{E:zC}{s:Shared}(h:wpAny M A t Q E s)(z:∀a s,Q a s->y a s):wpAny M A t y E s:=wN h z λ_ _ x=>x
section
variable{X:Cx}
section
variable{z:TB}{s:Shared}{σ:St}{H:Hp}{x:Str}{pos:Pos}{E Q:zC}{u:Value}
theorem bin{a b:Expr}{ta d:TE}(r:PE X a ta)(hb:PE X b d){R:V->V->Hp->Prop}(I:Inv X z σ H s)(h:ta σ H λx j=>d σ j λy k=>R x y k)
  {α:Type}{Q:α->Shared->Prop}{f:Value->Value->Sem α}
  (q:∀v u i x y k,Inv X z σ k i->sA x v->sA y u->R x y k->wpAny (model X.prog X.w) X.A (f v u) Q X.xe i) :
  wpAny (model X.prog X.w) X.A (eval a X.env) (λv g=>wpAny (model X.prog X.w) X.A (eval b X.env) (λu e=>wpAny (model X.prog X.w) X.A (f v u) Q X.xe e) X.xe g) X.xe s:=by
 refine OB (r z s σ H _ I h) λv l ⟨x,j,Z,n,p⟩=>?_;refine OB (hb z l σ j _ Z p) λu i ⟨y,k,Y,m,o⟩=>?_;exact q v u i x y k Y n m o
def ij(i:Nat):TE:=λσ H Q=>∃v,σ[i]?=some (some v)/\Q v H
def tC(v:V):TE:=λ_ H Q=>Q v H
theorem Va{i:Nat}(n:X.N[i]?=some x)(b:nh X.env.scope x)(w:(x==("__debug__":Str))=false:=by decide)(k:(x==("__classdict__":Str))=false:=by decide):PE X (.Name x pos) (ij i):=by
 intro z s σ H Q I h;obtain⟨v,e,h⟩:=h;obtain⟨m,f,j⟩:=I.loc;obtain⟨u,r,l⟩:=j i x v n e b;have fin:EP X z σ Q u s:=⟨v,H,I,r,h⟩
 rcases l with⟨hk,g⟩| ⟨hk,c,a,y⟩
 exact QCU (wpAny_loadName_local I.ok.kind hk f g fin) w;rcases hk with hk|hk
 ·exact QCU (wpAny_loadName_cell I.ok.kind hk a y fin) w
 exact QCU (wpAny_loadName_free I.ok.kind hk a y fin k) w
theorem aY{i j pos}:PE X (.Constant (.int i) j pos) (tC (.int i)):=λ_ _ _ H _ I h=>wpAny_Constant_int ⟨.int i,H,I.tok _,⟨_,rfl⟩,h⟩
theorem b8{b j pos}:PE X (.Constant (.bool b) j pos) (tC (.bl b)):=λ_ _ _ H _ I h=>Constant_bool ⟨.bl b,H,I,rfl,h⟩
theorem sY{j pos}:PE X (.Constant .none j pos) (tC .non):=λ_ _ _ H _ I h=>Constant_none ⟨.non,H,I,rfl,h⟩
theorem Ua{x j pos}:PE X (.Constant (.str x) j pos) (tC (.str x)):=λ_ _ _ H _ I h=>Calls.Constant_str ⟨.str x,H,I.tok _,⟨_,rfl⟩,h⟩
def Gl(X:Cx)(x:Str):Prop:=X.env.kindOf x=some .globalImplicit
theorem aO(I:Inv X z σ H s)(v:Gl X x)(y:X.mg x=some u)(h:Q u s)
  (k:(x==("__debug__":Str))=false:=by decide):wpAny (model X.prog X.w) X.A (eval (.Name x pos) X.env) Q E s :=
 QAU I.ok.kind v (Calls.loadGlobal_global (by rw[I.ok.glob];exact I.mod.glob.keeps I.bk) y h) k
theorem oE(I:Inv X z σ H s)(a:Gl X x)(k:X.mg x=none)(y:bootBuiltins x=some u)(h:Q u s)
  (v:x≠"__name__":=by decide) (b:(x==("__debug__":Str))=false:=by decide):wpAny (model X.prog X.w) X.A (eval (.Name x pos) X.env) Q E s:=by
 obtain⟨g,f,e⟩:=I.mod.blt;exact QAU I.ok.kind a (Calls.loadGlobal_builtin (by rw[I.ok.glob];exact I.mod.glob.keeps I.bk) k (by rw[I.ok.blt];exact f.keeps I.bk) ((e x v).trans y) h) b
theorem A4{v:V}(w:Gl X x)(y:X.mg x=some u)(r:sA v u)(k:(x==("__debug__":Str))=false:=by decide):PE X (.Name x pos) (tC v) :=
 λ_ _ _ H _ I h=>aO I w y ⟨v,H,I,r,h⟩ k
theorem u5{v:V}(a:Gl X x)(k:X.mg x=none)(y:bootBuiltins x=some u)(r:sA v u)(w:x≠"__name__":=by decide)(b:(x==("__debug__":Str))=false:=by decide):PE X (.Name x pos) (tC v) :=
 λ_ _ _ H _ I h=>oE I a k y ⟨v,H,I,r,h⟩ w b
end
variable{a b:Expr}{ta d:TE}{pos:Pos}
variable{g n:TT}{k:List Expr}
def Dj(t u:TT):TT:=λh H Q=>t h H λc x=>if c=true then u h x Q else Q false x
def Ho(t u:TT):TT:=λh H Q=>t h H λc x=>if c=true then Q true x else u h x Q
def Vj(t:TT):TT:=λh H Q=>t h H λc x=>Q (!c) x
theorem K4(z:PT X a g):PW X (.BoolOp .And [a] pos) g:=by
 intro u x s y H Q I h;refine isTrue_and (OB (z x s y H Q I h) λc v e=>?_);cases c with|true=>exact isTrue_and_nil e|false=>exact e
theorem ya(z:PT X a g):PW X (.BoolOp .Or [a] pos) g:=by
 intro u x s y H Q I h;refine isTrue_or (OB (z x s y H Q I h) λc v e=>?_);cases c with|false=>exact isTrue_or_nil e|true=>exact e
theorem xY(f:PT X a g)(hb:PW X (.BoolOp .And (b::k) pos) n):PW X (.BoolOp .And (a::b::k) pos) (Dj g n):=by
 intro w x s y H Q I h;refine isTrue_and (OB (f x s y H _ I h) λc e ⟨v,u,z⟩=>?_);cases c with|true=>exact hb w x e y v Q u z|false=>exact⟨v,u,z⟩
theorem k8(f:PT X a g)(hb:PW X (.BoolOp .Or (b::k) pos) n):PW X (.BoolOp .Or (a::b::k) pos) (Ho g n):=by
 intro w x s y H Q I h;refine isTrue_or (OB (f x s y H _ I h) λc e ⟨v,u,z⟩=>?_);cases c with|true=>exact⟨v,u,z⟩|false=>exact hb w x e y v Q u z
theorem ka(z:PT X a g):PT X (.UnaryOp .Not a pos) (Vj g):=by intro x s y H Q I h;exact isTrue_not (z x s y H (λc u=>Q (!c) u) I h)
def Te(ta d:TE):TE:=λh H Q=>ta h H λx y=>∃c,x=.bl c/\if c=true then d h y Q else Q (.bl false) y
def Kj(ta d:TE):TE:=λh H Q=>ta h H λx y=>∃c,x=.bl c/\if c=true then Q (.bl true) y else d h y Q
theorem rY{op}{t:TE}(h:PE X a t):PE X (.BoolOp op [a] pos) t:=λx s y H Q I z=>BoolOp_one (h x s y H Q I z)
theorem iY(j:PE X a ta)(hb:PE X (.BoolOp .And (b::k) pos) d):PE X (.BoolOp .And (a::b::k) pos) (Te ta d):=by
 intro y s u H Q I h;refine BoolOp_and (OB (j y s u H _ I h) λv f ⟨x,e,w,i,z⟩=>?_);obtain⟨c,rfl,z⟩:=z;cases i;refine wO ?_;cases c with|true=>exact hb y f u e Q w z|false=>exact⟨.bl false,e,w,rfl,z⟩
theorem u8(j:PE X a ta)(hb:PE X (.BoolOp .Or (b::k) pos) d):PE X (.BoolOp .Or (a::b::k) pos) (Kj ta d):=by
 intro y s u H Q I h;refine BoolOp_or (OB (j y s u H _ I h) λv f ⟨x,e,w,i,z⟩=>?_);obtain⟨c,rfl,z⟩:=z;cases i;refine wO ?_;cases c with|false=>exact hb y f u e Q w z|true=>exact⟨.bl true,e,w,rfl,z⟩
end
def XC(K:QC)(H:Hp)(a:Addr)(xs:List V):Prop :=
 Rd H a (.lst xs) ∨
  ∃(o:Obj) (h:Array Value) (n:Nat),K.lookup a=some o/\o.cls=.type "list"/\o.dict=none/\o.data=.seq h n/\h.size<=sizeLine/\bA xs h.toList
def mD(K:QC)(H:Hp)(a:Addr)(xs:List V):Prop :=
 Rd H a (.tup xs) ∨
  ∃(o:Obj) (h:Array Value) (n:Nat),K.lookup a=some o/\o.cls=.type "tuple"/\o.data=.seq h n/\h.size<=sizeLine/\bA xs h.toList
def AJ:Value->Option V
 | .none=>some .non|.bool b=>some (.bl b)|.int i _=>some (.int i)|.str x _=>some (.str x)|.bytes b _=>some (.byt b)|.float b _=>some (.flt b)|.ref a=>some (.ref a)|.type n=>some (.ty n)|_=>none
theorem sA.abs{x:V}{u:Value}(r:sA x u):AJ u=some x:=by
 cases x with|non=>cases r;rfl|bl _=>cases r;rfl|int _=>obtain⟨t,rfl⟩:=r;rfl|str _=>obtain⟨t,rfl⟩:=r;rfl|byt _=>obtain⟨t,rfl⟩:=r;rfl|flt _=>obtain⟨t,rfl⟩:=r;rfl|ref _=>cases r;rfl|ty _=>cases r;rfl
theorem sA.inj{x y:V}{u:Value}(r:sA x u)(q:sA y u):x=y:=qE (r.abs.symm.trans q.abs)
theorem bA.inj:∀{xs h:List V}{us:List Value},bA xs us->bA h us->xs=h
 |_,_,_,.nil,.nil=>rfl|_,_,_,.cons r t,.cons r' t'=>by rw[r.inj r',bA.inj t t']
section
variable{X:Cx}{x:TB}{σ:St}{H:Hp}{s:Shared}{a:Addr}{xs y:List V}
theorem XC.of{K:QC}(h:H a=some (.lst xs)):XC K H a xs:=.inl (.inl h)
theorem mD.of{K:QC}(h:H a=some (.tup xs)):mD K H a xs:=.inl (.inl h)
theorem Inv.list(I:Inv X x σ H s)(h:XC X.K H a xs):∃its:List Value,bA xs its/\PlainL s.heap a its.toArray/\xs.length<=sizeLine:=by
 rcases h with h|⟨o,its,n,hk,w,v,u,k,r⟩
 obtain⟨z,its,n,r,e⟩:=h.ok I.hok;exact⟨its,r,⟨_,n,e,rfl,rfl,rfl⟩,z⟩;refine⟨its.toList,r,⟨o,n,I.kIn a o hk,w,v,by simpa using u⟩,?_⟩;have e:=r.length;simp only[QX]at e;omega
theorem Inv.tuple(I:Inv X x σ H s)(h:mD X.K H a xs):∃its:List Value,bA xs its/\IsTup s.heap a its.toArray/\xs.length<=sizeLine:=by
 rcases h with h|⟨o,its,n,hk,v,u,w,r⟩
 obtain⟨z,its,r,p⟩:=h.ok I.hok;exact⟨its,r,p,z⟩;refine⟨its.toList,r,⟨o,I.kIn a o hk,v,n,by simpa using u⟩,?_⟩;have e:=r.length;simp only[QX]at e;omega
theorem Inv.list_inj(I:Inv X x σ H s)(h:XC X.K H a xs)(h':XC X.K H a y):xs=y:=by
 obtain⟨u,r,⟨o,n,e,_,_,d⟩,_⟩:=I.list h;obtain⟨z,k,⟨b,f,v,_,_,w⟩,_⟩:=I.list h';rw[e]at v;cases v;rw[d]at w;injection w with d1 _;have:u=z:=by simpa using congrArg QB1 d1
 subst this;exact r.inj k
theorem Inv.tuple_inj(I:Inv X x σ H s)(h:mD X.K H a xs)(h':mD X.K H a y):xs=y:=by
 obtain⟨u,r,⟨o,e,_,n,d⟩,_⟩:=I.tuple h;obtain⟨z,k,⟨b,v,_,f,w⟩,_⟩:=I.tuple h';rw[e]at v;cases v;rw[d]at w;injection w with d1 _;have:u=z:=by simpa using congrArg QB1 d1
 subst this;exact r.inj k
end
noncomputable abbrev Cx.wish(X:Cx)(E:zC):Cx:={ X with xe:=E }
noncomputable abbrev Cx.nox(X:Cx):Cx:=X.wish λ_ _=>False
theorem Cx.Ok.wish{X:Cx}(ok:X.Ok)(E:zC):(X.wish E).Ok :=
 ⟨ok.mod,ok.kind,ok.glob,ok.blt,ok.above,ok.inj,ok.has,ok.cab,ok.hd,ok.frames,ok.stk,ok.exf,ok.bs,ok.bsz,ok.noex,ok.exfs,ok.funs,ok.frf⟩
theorem Cx.Ok.unwish{X:Cx}{E:zC}(ok:(X.wish E).Ok):X.Ok :=
 ⟨ok.mod,ok.kind,ok.glob,ok.blt,ok.above,ok.inj,ok.has,ok.cab,ok.hd,ok.frames,ok.stk,ok.exf,ok.bs,ok.bsz,ok.noex,ok.exfs,ok.funs,ok.frf⟩
section
variable{X:Cx}{x:TB}{σ:St}{H:Hp}{s:Shared}{E:zC}
theorem Inv.wish(I:Inv X x σ H s)(E:zC):Inv (X.wish E) x σ H s:=⟨I.ok.wish E,I.os,I.bare,I.base,I.loc,I.cell,I.free,I.freeC,I.pin,I.hok,I.len⟩
theorem Inv.unwish(I:Inv (X.wish E) x σ H s):Inv X x σ H s:=⟨I.ok.unwish,I.os,I.bare,I.base,I.loc,I.cell,I.free,I.freeC,I.pin,I.hok,I.len⟩
theorem SP.unwish{D:Ends}{f:Flow}{s':Shared}(h:SP (X.wish E) x D f s'):SP X x D f s':=by
 cases f with|next=>obtain⟨y,z,I,q⟩:=h;exact⟨y,z,I.unwish,q⟩|brk=>obtain⟨y,z,I,q⟩:=h;exact⟨y,z,I.unwish,q⟩|cont=>obtain⟨y,z,I,q⟩:=h;exact⟨y,z,I.unwish,q⟩|ret u=>obtain⟨v,y,z,I,r,q⟩:=h;exact⟨v,y,z,I.unwish,r,q⟩
theorem tT.nox{st:List Stmt}{t:TS}(h:tT X.nox st t):tT X st t:=λx s σ H D I y =>
 wN (h x s σ H D (I.wish _) y) (λ_ _ q=>q.unwish) λ_ _ z=>Qc z
end
section
variable{X:Cx}{st:Stmt}{y:List Stmt}{t u:TS}{e:Expr}{te:TE}{pos:Pos}
def Pe:TS:=λD h H=>D.nx h H
def Yj(t u:TS):TS:=λD h H=>t { D with nx:=u D } h H
theorem B4:tT X [] Pe:=λ_ _ x H _ I h=>QAO ⟨x,H,I,h⟩
theorem bY(b:PS X st t)(a:tT X y u):tT X (st::y) (Yj t u):=by
 intro x s w H D I h;refine QB9 (OB (b x s w H { D with nx:=u D } I h) λf k q=>?_);cases f with|next=>obtain⟨z,i,g,q⟩:=q;exact a x k z i D g q|ret v=>exact q|brk=>exact q|cont=>exact q
theorem U4(w:PS X st t):tT X [st] t:=by
 intro x s z H D I h;refine QB9 (OB (w x s z H D I h) λf k q=>?_);cases f with|next=>exact QAO q|ret v=>exact q|brk=>exact q|cont=>exact q
theorem Inv.quiet{h:TB}{σ:St}{H:Hp}{s:Shared}(I:Inv X h σ H s):interactive X.env=false:=by simp[interactive,I.ok.kind]
def Re(te:TE):TS:=λD h H=>te h H λ_ x=>D.nx h x
theorem uU(b:PE X e te)(a:swapsWith e none pos.line X.env=pure false:=by rfl):PS X (.Expr e pos) (Re te):=by intro z s w H D I h;exact wpAny_Expr_any (OB (b z s w H _ I h) λv i ⟨x,g,f,j,k⟩=>⟨w,g,f,k⟩) I.quiet a
def Zj(te:TE):TS:=λD h H=>te h H D.rt
theorem ua(b:PE X e te):PS X (.Return (some e) pos) (Zj te):=by intro z s w H D I h;exact wpAny_Return_some (OB (b z s w H _ I h) λv i ⟨x,g,f,k,a⟩=>⟨x,w,g,f,k,a⟩)
def Uj(c:TT)(t u:TS):TS:=λD h H=>c h H λb x=>if b=true then t D h x else u D h x
theorem Ff{c:Expr}{a b:List Stmt}{tc:TT}(g:PT X c tc)(i:tT X a t)(hb:tT X b u):PS X (.If c a b pos) (Uj tc t u):=by
 intro x s z H D I h;refine wpAny_If (OB (g x s z H _ I h) λd v ⟨f,k,w⟩=>?_);cases d with|true=>exact i x v z f D k w|false=>exact hb x v z f D k w
end
noncomputable abbrev TG:=V->St->Hp->(St->Hp->Prop)->Prop
noncomputable abbrev vn:=List V->St->Hp->(St->Hp->Prop)->Prop
def PG(X:Cx)(h:Expr)(t:TG):Prop :=
 ∀(x:TB) (s:Shared) (z:St) (H:Hp) (v:V) (u:Value) (Q:St->Hp->Prop),Inv X x z H s->sA v u->t v z H Q ->
  wpAny (model X.prog X.w) X.A (assign h X.env u) (λ_ a=>∃y k,Inv X x y k a/\Q y k) X.xe s
def uo(X:Cx)(ts:List Expr)(t:vn):Prop :=
 ∀(h:TB) (s:Shared) (y:St) (H:Hp) (z:List V) (u:List Value) (Q:St->Hp->Prop),Inv X h y H s->bA z u->t z y H Q ->
  wpAny (model X.prog X.w) X.A (assignInOrder ((assignEach ts X.env).map (·.2)) u) (λ_ k=>∃x v,Inv X h x v k/\Q x v) X.xe s
noncomputable abbrev Cd:=V->V->V->Hp->(Hp->Prop)->Prop
def B7(X:Cx)(t:Cd):Prop :=
 ∀(h:TB) (s:Shared) (x:St) (H:Hp) (o i v:V) (y z u:Value) (Q:Hp->Prop),Inv X h x H s->sA o y->sA i z->sA v u->t o i v H Q ->
  wpAny (model X.prog X.w) X.A (setItem y z u) (λ_ a=>∃k,Inv X h x k a/\Q k) X.xe s
section
variable{X:Cx}{pos:Pos}
section
variable{i:Nat}{x:Str}{e:Expr}{te:TE}
def OU(i:Nat):TG:=λv h H Q=>Q (h.set i (some v)) H
theorem gU(a:X.N.Nodup)(w:X.N[i]?=some x)(z:fe X.env.scope x)(k:X.fn x=true∨X.env.scope.names.lookup x=some .local):PG X (.Name x pos) (OU i):=by intro y s f H v u Q I r h;exact QBn (ZP I a w z r (λg b=>⟨_,H,b,h⟩) k)
def Il(K:QC)(n:Nat)(t:vn):TG:=λv y H Q=>∃a h,v=.ref a/\mD K H a h/\h.length=n/\t h y H Q
theorem Ja{es:List Expr}{k:Nat}{t:vn}{n:Nat}(W:X.calm=true)(h:uo X es t)
  (Y:(assignEach es X.env).length=n:=by rfl) (w:(assignEach es X.env).findIdx? (·.1)=none:=by rfl):PG X (.Tuple es k pos) (Il X.K n t):=by
 intro y s f H v u Q I r z;obtain⟨a,j,B,q,Z,z⟩:=z;subst B;cases r;obtain⟨l,g,p,E⟩:=I.tuple q;refine assign_Tuple_tuple (I.ok.hd W) p (by simp[Y,<- Z,g.length]) w λA m=>?_;have C:Inv X y f H { s with heap:=A }:=I.kept (t':=s.toks) λb o e=>m b o (QZ (QR e)) e;exact h y _ f H j _ Q C (by simpa using g) z
def jm(y z:TE)(t:Cd):TG:=λv h H Q=>y h H λo k=>z h k λi w=>t o i v w λu=>Q h u
theorem Ka{o i:Expr}{b f:TE}{t:Cd}(Z:PE X o b)(W:PE X i f)(Y:B7 X t)
  (K:∀v,assign (.Subscript o i pos) X.env v=(do
   let w <- holding [v] (eval o X.env)
   let k <- holding [v,w] (eval i X.env)
   standAt pos
   holding [v,w,k] (setItem w k v)
   release [v,w,k] []):=by intro _;rfl):PG X (.Subscript o i pos) (jm b f t):=by
 intro z s a H v u Q I r h;rw[K];refine QA (qO (OB (Z z s a H _ I h) λw j ⟨x,G,C,m,q⟩=>?_));refine QA (qO (OB (W z j a G _ C q) λk g ⟨y,F,B,l,p⟩=>?_));refine QA (QBc (QA (qO (OB (Y z g a F x y v w k u _ B m l r p) λ_ J ⟨E,A,n⟩=>?_))));exact wpAny_release ⟨a,E,A,n⟩
def V9(te:TE)(g:TG):TS:=λD h H=>te h H λx y=>g x h y D.nx
theorem dY{z:Expr}{g:TG}(l:PE X e te)(j:PG X z g)(f:swapsWithSole [z] e pos.line X.env=pure false:=by rfl)(b:swappedStores [z] e X.env=pure none:=by rfl)
  (m:(assignEach [z] X.env).map (·.2)=[assign z X.env]:=by rfl):PS X (.Assign [z] e pos) (V9 te g):=by
 intro y s u H D I h;refine wpAny_Assign_stores (OB (l y s u H _ I h) λv w ⟨x,o,n,k,a⟩=>?_) f b;rw[m];exact OB (j y w u o x v _ n k a) λ_ p q=>q
theorem xa{pos':Pos}(l:X.N.Nodup)(f:X.N[i]?=some x)(a:fe X.env.scope x)(j:PE X e te)(b:swapsWith e (some (.Name x pos')) pos.line X.env=pure false:=by rfl)(g:X.fn x=true∨X.env.scope.names.lookup x=some .local) :
  PS X (.Assign [.Name x pos'] e pos) (V9 te (OU i)):=by
 intro z s u H D I h;refine wpAny_Assign_Name (OB (j z s u H _ I h) λv q ⟨y,o,n,w,k⟩=>?_) b;exact ZP n l f a w (λp m=>⟨_,o,m,k⟩) g
end
end
section
variable{X:Cx}{pos:Pos}
def aX(c:TT)(v:TS):TS:=λD h H=>∃W:Nat->St->Hp->Prop,(∃m,W m h H)/\∀m h H,W m h H ->
 c h H λb z=>if b=true then ∃N:St->Hp->Prop,(∀x u,N x u->∃y,y < m/\W y x u)/\v { D with nx:=N,ct:=N,bk:=D.nx } h z else D.nx h z
theorem cY{c:Expr}{body:List Stmt}{tc:TT}{p:TS}(q:PassesOwn (model X.prog X.w) X.A X.env X.xe)(O:PT X c tc)(hb:tT X body p):PS X (.While c body [] pos) (aX tc p):=by
 intro y s C H D I h;obtain⟨W,⟨M,F⟩,k⟩:=h;refine wpAny_While (codeAny_whileLoop (λn L=>∃u B,Inv X y u B L/\W n u B) ?_ M ⟨C,H,I,F⟩);rintro n J ⟨z,K,P,E⟩;refine wg q (OB (O y J z K _ P (k n z K E)) λb G ⟨Z,Y,g⟩=>?_);cases b with
 |true =>
  obtain⟨N,r,g⟩:=g;rw[if_pos rfl];refine wg q (OB (hb y G z Z _ Y g) λf Q e=>?_);cases f with|next=>obtain⟨x,a,o,j⟩:=e;obtain⟨l,m,i⟩:=r x a j;exact⟨l,m,x,a,o,i⟩|cont=>obtain⟨x,a,o,j⟩:=e;obtain⟨l,m,i⟩:=r x a j;exact⟨l,m,x,a,o,i⟩|brk=>exact e|ret v=>exact e
 |false=>rw[if_neg QF];exact QAO ⟨z,Z,Y,g⟩
end
section
variable{s:Shared}{y:Expr}{P:Program}{w:World}{K:QC}
structure It where
 go:Nat->Hp->Prop
 yld:Nat->Hp->V->Hp->Prop
 stop:Nat->Hp->Prop
def JI(X:Cx)(h:TB)(H:Hp)(b:Addr):Prop :=
 H b=none/\b≠X.env.locals/\b∉X.fs/\(b∈X.ex∨X.s₀.heap.objs.size<=b)/\(∀x c,X.env.cells.lookup x=some c->c≠b)/\∀p∈X.pn++h,p.1≠b
theorem Inv.fpOk{X:Cx}{h:TB}{σ:St}{H u:Hp}{b:Addr}(I:Inv X h σ H s)(hb:s.heap.objs.size<=b)(a:u b=none):JI X h u b:=by refine⟨a,qy (Qq I.lt hb),I.nofs hb,.inr (QY I.sz hb),λx c e z=>?_,λp k z=>?_⟩;obtain⟨v,q⟩:=I.cell x c e;exact absurd (Qq q.lt (by rw[z];exact hb)) (wM _);exact absurd (Qq (QR (I.pin p k).1) (by rw[z];exact hb)) (wM _)
structure Turn0(P:Program)(w:World)(K:QC)(y:Expr)(J:It)(fp:List Addr)(it:Addr)(tn:Nat->Heap->Prop):Prop where
 mem:it∈fp
 obj:∀i h,tn i h->∀b∈fp,∃o,h.get? b=some o/\∀v,o.data≠.cell v
 keep:∀i h h',tn i h->(∀b∈fp,∀o,h.get? b=some o->h'.get? b=some o)->tn i h'
 item:∀(X:Cx),X.prog=P->X.w=w->X.K=K->X.calm=true->∀(i:Nat) (pins:TB) (s:Shared) (σ:St) (H:Hp) (E:zC),Inv X pins σ H s->(∀b∈fp,JI X pins H b)->tn i s.heap->J.go i H ->
  wpAny (model P w) X.A (pyNext (.ref it)) (λr s1=>∃u,r=some u /\
   wpAny (model P w) X.A (letOwnedTupleGo y (.ref it) u) (λ_ s2=>∃x H',Inv X pins σ H' s2/\sA x u/\J.yld i H x H'/\tn (i+1) s2.heap/\∀b∈fp,H' b=none) E s1) E s
 done:∀(X:Cx),X.prog=P->X.w=w->X.K=K->X.calm=true->∀(i:Nat) (pins:TB) (s:Shared) (σ:St) (H:Hp) (E:zC),Inv X pins σ H s->(∀b∈fp,JI X pins H b)->tn i s.heap->J.stop i H ->
  wpAny (model P w) X.A (pyNext (.ref it)) (λr s1=>r=none/\Inv X pins σ H s1) E s
structure Turn(P:Program)(w:World)(K:QC)(y:Expr)(J:It)(fp:List Addr)(it:Addr)(tn:Nat->Heap->Prop):Prop extends Turn0 P w K y J fp it tn where
 self:∀(A:Around) (i:Nat) (s:Shared) (Q:zC) (E:zC),tn i s.heap->Q (.ref it) s->wpAny (model P w) A (pyIter (.ref it)) Q E s
noncomputable abbrev TI:=St->Hp->(It->Hp->Prop)->Prop
def on(X:Cx)(h:TB)(σ:St)(y:Expr)(R:It->Hp->Prop)(x:Value)(u:Shared):Prop :=
 ∃(it:Addr) (v:List Addr) (tn:Nat->Heap->Prop) (J:It) (z:Hp),x=.ref it/\Inv X h σ z u/\Turn X.prog X.w X.K y J v it tn/\tn 0 u.heap/\(∀b∈v,JI X h z b)/\R J z
def PI(X:Cx)(y x:Expr)(u:TI):Prop :=
 ∀(h:TB) (s:Shared) (z:St) (H:Hp) (R:It->Hp->Prop),Inv X h z H s->u z H R ->
  wpAny (model X.prog X.w) X.A (eval x X.env) (λv k=>wpAny (model X.prog X.w) X.A (pyIter v) (on X h z y R) X.xe k) X.xe s
def gn(X:Cx)(h:TB)(σ:St)(y:Expr)(R:It->Hp->Prop)(x:Value)(u:Shared):Prop :=
 ∃(it:Addr) (v:List Addr) (tn:Nat->Heap->Prop) (J:It) (z:Hp),x=.ref it/\Inv X h σ z u/\Turn0 X.prog X.w X.K y J v it tn/\tn 0 u.heap/\(∀b∈v,JI X h z b)/\R J z
def kj(X:Cx)(y x:Expr)(u:TI):Prop :=
 ∀(h:TB) (s:Shared) (z:St) (H:Hp) (R:It->Hp->Prop),Inv X h z H s->u z H R ->
  wpAny (model X.prog X.w) X.A (eval x X.env) (λv k=>wpAny (model X.prog X.w) X.A (pyIter v) (gn X h z y R) X.xe k) X.xe s
theorem PI.to0{X:Cx}{z:Expr}{k:TI}(h:PI X y z k):kj X y z k:=λu s a H R I q =>
 wN (h u s a H R I q) (λv m f=>wN f (λb l ⟨it,g,tn,J,j,e,i,T,r⟩=>⟨it,g,tn,J,j,e,i,T.toTurn0,r⟩) λ_ _ x=>x) λ_ _ x=>x
theorem LQ{M:Model}{A:Around}{E:zC}{it:Addr}{u:Value}{o:Obj}{n:String}{vs:Array Value}{Q:Unit->Shared->Prop}(z:s.heap.get? it=some o)(a:o.cls=.type n)(k:o.data=.fields vs)
    (v:["enumerate","zip","dict_itemiterator","dict_reverseitemiterator","odict_iterator","itertools.zip_longest","itertools.pairwise"].contains n=false) (x:Q () s):wpAny M A (letOwnedTupleGo y (.ref it) u) Q E s:=by
  unfold letOwnedTupleGo;cases y<;>first
    |exact QK x
    | (cases u<;>first
        |exact QK x
        | (refine QA (wpAny_load z ?_)
           rw[a,k];show wpAny M A (if(["enumerate","zip","dict_itemiterator","dict_reverseitemiterator","odict_iterator","itertools.zip_longest","itertools.pairwise"].contains n&&vs[0]?==some (rawInt _))=true then _ else _) Q E s;rw[if_neg (by intro h;rw[v,Bool.false_and]at h;cases h)];exact QK x))
def Zo(K:QC)(a:Addr):It :=
 ⟨λi H=>∃h x,XC K H a h/\h[i]?=some x,λi H x z=>z=H/\∀h,XC K H a h->h[i]?=some x,λi H=>∃h,XC K H a h/\h.length<=i⟩
def Jo(K:QC)(a:Addr):It :=
 ⟨λi H=>∃h x,mD K H a h/\h[i]?=some x,λi H x z=>z=H/\∀h,mD K H a h->h[i]?=some x,λi H=>∃h,mD K H a h/\h.length<=i⟩
def Fn(h:Int)(n:Nat):It:=⟨λi _=>i<n,λi H x z=>z=H/\x=.int (h+i),λi _=>n<=i⟩
theorem YV(a it:Addr):Turn P w K y (Zo K a) [it] it (λi h=>h.IsListIter it a i) where
 mem:=by simp
 obj:=λi h st b hb=>by
  have e:b=it:=by simpa using hb
  subst e;obtain⟨o,e,c,d⟩:=st;exact⟨o,e,λv z=>by rw[d]at z;cases z⟩
 keep:=λi h m st k=>st.at λo e=>k it (by simp) o e
 item:=by intro X W Y A M i f s L H E I l st Z;subst W Y A;obtain⟨N,x,j,r⟩:=Z;obtain⟨q,n,p,R⟩:=I.list j;obtain⟨u,hu,Q⟩:=n.get r;obtain⟨J,G,f2,F,C,B⟩:=l it (by simp);refine wpAny_pyNext_list_item st p.isList (x:=u) (by simpa using hu) λm g O=>?_;have I1:Inv X f L H { s with heap:=m }:=I.turned (t':=s.toks) (λb o hb e=>(O.2 b hb).trans e) J G F C B;obtain⟨o,e,c,d⟩:=id g;exact⟨u,rfl,LQ (s:={ s with heap:=m }) e c d (by decide) ⟨x,H,I1,Q,⟨rfl,λys S=>by rw[I.list_inj S j];exact r⟩,g,λb hb=>(l b hb).1⟩⟩
 done:=by intro X W Y A M i f s L H E I l st Z;subst W Y A;obtain⟨N,j,r⟩:=Z;obtain⟨q,n,p,R⟩:=I.list j;obtain⟨J,G,f2,F,C,B⟩:=l it (by simp);have hl:=n.length;exact wpAny_pyNext_list_end (I.ok.hd M) st p.isList (by simp;omega) λm eb=>⟨rfl,I.turned (t':=s.toks) (λb o hb e=>eb b o hb e) J G F C B⟩
 self:=λ_ _ _ _ _ st h=>wpAny_pyIter_listiter st h
theorem NR(a it:Addr):Turn P w K y (Jo K a) [it] it (λi h=>h.IsTupleIter it a i) where
 mem:=by simp
 obj:=λi h st b hb=>by
  have e:b=it:=by simpa using hb
  subst e;obtain⟨o,e,c,d⟩:=st;exact⟨o,e,λv z=>by rw[d]at z;cases z⟩
 keep:=λi h n st k=>st.at λo e=>k it (by simp) o e
 item:=by intro X W Y A M i f s L H E I m st Z;subst W Y A;obtain⟨N,x,l,r⟩:=Z;obtain⟨g,q,p,R⟩:=I.tuple l;obtain⟨u,hu,Q⟩:=q.get r;obtain⟨J,G,f2,F,C,B⟩:=m it (by simp);refine wpAny_pyNext_tuple_item st (show s.heap.IsTuple a g.toArray from p) (x:=u) (by simpa using hu) λn j O=>?_;have I1:Inv X f L H { s with heap:=n }:=I.turned (t':=s.toks) (λb o hb e=>(O.2 b hb).trans e) J G F C B;obtain⟨o,e,c,d⟩:=id j;exact⟨u,rfl,LQ (s:={ s with heap:=n }) e c d (by decide) ⟨x,H,I1,Q,⟨rfl,λys S=>by rw[I.tuple_inj S l];exact r⟩,j,λb hb=>(m b hb).1⟩⟩
 done:=by intro X W Y A M i f s L H E I m st Z;subst W Y A;obtain⟨N,l,r⟩:=Z;obtain⟨g,q,p,R⟩:=I.tuple l;obtain⟨J,G,f2,F,C,B⟩:=m it (by simp);have hl:=q.length;exact wpAny_pyNext_tuple_end (I.ok.hd M) st (show s.heap.IsTuple a g.toArray from p) (by simp;omega) λn eb=>⟨rfl,I.turned (t':=s.toks) (λb o hb e=>eb b o hb e) J G F C B⟩
 self:=λ_ _ _ _ _ st h=>wpAny_pyIter_tupleiter st h
theorem OR(it:Addr)(a:Int)(n:Nat):Turn P w K y (Fn a n) [it] it (λi h=>IsRangeIter h it (a+(i:Nat) * 1) ((n:Int) - (i:Nat)) 1) where
 mem:=by simp
 obj:=λi h st b hb=>by
  have e:b=it:=by simpa using hb
  subst e;exact⟨_,st,λv z=>by have G:Data.fields _=Data.cell v:=z;cases G⟩
 keep:=λi h g st k=>k it (by simp) _ st
 item:=by intro X p j q m i x s C H E I f st l;subst p j q;obtain⟨B,A,M,Z,Y,r⟩:=f it (by simp);have W:=Walks.range (prog:=X.prog) (w:=X.w) (I.ok.hd m) it a 1 n;refine W.item i s _ _ l st λv g F L u J=>?_;obtain⟨t,rfl⟩:=L;have O:Inv X x C H { s with heap:=g,toks:=F }:=I.turned (λb o hb e=>J b o (by simpa using hb) e) B A Z Y r;refine⟨_,rfl,LQ (s:={ s with heap:=g,toks:=F }) (n:="range_iterator") u rfl rfl (by decide) ⟨.int (a+i),H,O,⟨t,?_⟩,⟨rfl,rfl⟩,u,λb hb=>(f b hb).1⟩⟩;rw[Int.mul_one]
 done:=by intro X p j q m i x s C H E I f st l;subst p j q;obtain⟨B,A,M,Z,Y,r⟩:=f it (by simp);exact wpAny_pyNext_range_end (I.ok.hd m) st (by have:n<=i:=l;omega) λg N=>⟨rfl,I.turned (t':=s.toks) (λb o hb e=>N b o hb e) B A Z Y r⟩
 self:=λ_ _ _ _ _ st h=>wpAny_pyIter_rangeiter st h
end
section
variable{X:Cx}{a:Expr}
section
variable{y:TB}{σ:St}{H:Hp}{s:Shared}{k:List Addr}{h:Heap}
theorem zY{R:It->Hp->Prop}{E:zC}{x z:Int}{t u v:Tok}{f:Nat}(I:Inv X y σ H s)(m:-(2 ^ 62)<=x)(l:x<2 ^ 62)(j:-(2 ^ 62)<=z)(i:z<2 ^ 62)
  (q:R (Fn x (z - x).toNat) H):wpAny (model X.prog X.w) X.A (pyIter (.ref s.heap.objs.size)) (on X y σ a R) E { s with heap:=s.heap.push { cls:=.type "range",data:=.fields #[.int x t,.int z u,.int 1 v] },toks:=f }:=by
 refine wpAny_pyIter_range (IsRange.new ..) (small_one m l j i) ?_;have g:Inv X y σ H { s with heap:=s.heap.push { cls:=.type "range",data:=.fields #[.int x t,.int z u,.int 1 v] },toks:=f }:=I.kept λb o e=>QH _ e;refine⟨(s.heap.push { cls:=.type "range",data:=.fields #[.int x t,.int z u,.int 1 v] }).objs.size,[(s.heap.push { cls:=.type "range",data:=.fields #[.int x t,.int z u,.int 1 v] }).objs.size],_,_,H,rfl,
  g.kept (t':=f) λb o e=>QH _ e,OR _ x (z - x).toNat,?_,λb hb=>?_,q⟩
 have p:x+((0:Nat):Int) * 1=x:=by simp
 have n:(((z - x).toNat:Nat):Int) - ((0:Nat):Int)=Builtin.Range.rangeSize x z 1:=by rw[rangeSize_one];split<;>omega
 show IsRangeIter _ _ (x+((0:Nat):Int) * 1) ((((z - x).toNat:Nat):Int) - ((0:Nat):Int)) 1;rw[p,n];exact QN _ rfl;have e:b=(s.heap.push { cls:=.type "range",data:=.fields #[.int x t,.int z u,.int 1 v] }).objs.size:=by simpa using hb
 subst e;exact g.fpOk (QV _) (g.hok.fresh (QV _))
noncomputable def Bj(b:TI)(g:TG)(e:TS):TS:=λD σ H=>b σ H λJ j=>∃W:Nat->Nat->St->Hp->Prop,(∃m,W 0 m σ j)/\∀i m σ H,W i m σ H ->
 (J.stop i H/\D.nx σ H)∨(J.go i H/\∃N:St->Hp->Prop,(∀z u,N z u->∃w,w < m/\W (i+1) w z u)/\∀x u,J.yld i H x u->g x σ u λv f=>e { D with nx:=N,ct:=N,bk:=D.nx } v f)
def NK(k:List Addr)(h:Heap):TB:=k.filterMap λb=>(h.get? b).map λo=>(b,o)
theorem xF{b:Addr}{o:Obj}(hb:b∈k)(e:h.get? b=some o):(b,o)∈NK k h:=QBd.mpr ⟨b,hb,by rw[e];rfl⟩
theorem cW{p:Addr×Obj}(x:p∈NK k h):p.1∈k/\h.get? p.1=some p.2:=by
 obtain⟨b,hb,e⟩:=QBd.mp x;cases q:h.get? b with|none=>rw[q]at e;cases e|some o=>rw[q]at e;have z:(b,o)=p:=qE e;subst z;exact⟨hb,q⟩
theorem Inv.pinned(I:Inv X y σ H s)(f:∀b∈k,JI X y H b)(w:∀b∈k,∃o,s.heap.get? b=some o/\∀v,o.data≠.cell v):Inv X (y++NK k s.heap) σ H s :=
 I.pins_of λp u=>(Qg.mp u).elim (λz=>I.pin p (QW _ z)) λz=>by obtain⟨hb,e⟩:=cW z;obtain⟨j,i,g,_⟩:=f p.1 hb;obtain⟨o,x,d⟩:=w p.1 hb;rw[e]at x;cases x;exact⟨e,j,i,g,d⟩
theorem Inv.unpinned{x:TB}(I:Inv X (y++x) σ H s):Inv X y σ H s:=I.pins_of λp z=>I.pin p (QW _ (Qt _ z))
theorem ba{q:Expr}{body:List Stmt}{wi:TI}{g:TG}{tb:TS}{pos:Pos}(O:PassesOwn (model X.prog X.w) X.A X.env X.xe)(hc:X.calm=true)(hi:kj X a q wi)(hg:PG X a g)(hb:tT X body tb)
  (hs:∀x,foldedSetIterable q X.env x=pure x:=by intro _;rfl):PS X (.For a q body [] pos) (Bj wi g tb):=by
 intro y s σ H D I h;refine wpAny_For (OB (hi y s σ H _ I h) λv s1 h1=>OB h1 λitv s2 h2=>?_) hs;obtain⟨it,k,tn,J,H2,e,I2,T,S,f2,W,⟨m0,w0⟩,F⟩:=h2;subst e;have p:∀{B:Hp},(∀b∈k,B b=none)->∀b∈k,JI X y B b:=λhn b hb=>⟨hn b hb,(f2 b hb).2⟩
 refine codeAny_forLoop_any (λn s'=>∃i l B,Inv X y l B s'/\tn i s'.heap/\(∀b∈k,B b=none)/\W i n l B) ?_ m0 ⟨0,σ,H2,I2,S,λb hb=>(f2 b hb).1,w0⟩;rintro n s3 ⟨i,j,Q,I3,L,P,w3⟩;rcases F i n j Q w3 with⟨G,qn⟩| ⟨go,N,hN,step⟩
 refine wg O (OB (T.done X rfl rfl rfl hc i y s3 j Q X.xe I3 (p P) L G) λr s4 ⟨hr,I4⟩=>?_);subst hr;exact QAO ⟨j,Q,I4,qn⟩;refine wg O (OB (T.item X rfl rfl rfl hc i y s3 j Q X.xe I3 (p P) L go) λr s4 ⟨u,hr,h4⟩=>?_);subst hr;refine wg O (OB h4 λ_ s5 ⟨x,H5,I5,r5,y5,E,fr5⟩=>?_);have I5':=I5.pinned (p fr5) (T.obj _ _ E);refine wg O (OB (hg _ s5 j H5 x u _ I5' r5 (step x H5 y5)) λ_ s6 ⟨R,H6,I6,q6⟩=>?_);refine wg O (OB (hb _ s6 R H6 _ I6 q6) λf s7 C=>?_);have Y:∀{z:St}{K:Hp},Inv X (y++NK k s5.heap) z K s7->N z K->∃m,m<n/\∃i l B,Inv X y l B s7/\tn i s7.heap/\(∀b∈k,B b=none)/\W i m l B:=λ{z K} Z M=>by obtain⟨m',hm,w7⟩:=hN z K M;refine⟨m',hm,i+1,z,K,Z.unpinned,T.keep _ _ _ E λb hb o e=>(Z.pin (b,o) (QW _ (QW _ (xF hb e)))).1,λb hb=>?_,w7⟩;obtain⟨o,e,d⟩:=T.obj _ _ E b hb;exact(Z.pin (b,o) (QW _ (QW _ (xF hb e)))).2.1
 cases f with|next=>obtain⟨z,K,Z,M⟩:=C;exact Y Z M|cont=>obtain⟨z,K,Z,M⟩:=C;exact Y Z M|brk=>obtain⟨z,K,Z,C⟩:=C;exact⟨z,K,Z.unpinned,C⟩|ret v=>obtain⟨x7,z,K,Z,r7,C⟩:=C;exact⟨x7,z,K,Z.unpinned,r7,C⟩
end
end
noncomputable abbrev R2:=V->V->Hp->VK->Prop
def KF(X:Cx)(f:Value->Value->Sem Value)(r:R2):Prop :=
 ∀(h:TB) (s:Shared) (z:St) (H:Hp) (x y:V) (v u:Value) (Q:VK),Inv X h z H s->sA x v->sA y u->r x y H Q ->
  wpAny (model X.prog X.w) X.A (f v u) (EP X h z Q) X.xe s
def yn(X:Cx)(f:Value->Sem Value)(r:V->Hp->VK->Prop):Prop :=
 ∀(h:TB) (s:Shared) (y:St) (H:Hp) (x:V) (v:Value) (Q:VK),Inv X h y H s->sA x v->r x H Q ->
  wpAny (model X.prog X.w) X.A (f v) (EP X h y Q) X.xe s
def eF(X:Cx)(f:Value)(r:List V->Hp->VK->Prop):Prop :=
 ∀(h:TB) (s:Shared) (x:St) (H:Hp) (y:List V) (z:List Value) (Q:VK),Inv X h x H s->bA y z->r y H Q ->
  wpAny (model X.prog X.w) X.A (call f z) (EP X h x Q) X.xe s
def zn(X:Cx)(r:V->Hp->(Bool->Hp->Prop)->Prop):Prop :=
 ∀(h:TB) (s:Shared) (y:St) (H:Hp) (x:V) (v:Value) (Q:Bool->Hp->Prop),Inv X h y H s->sA x v->r x H Q ->
  wpAny (model X.prog X.w) X.A (truthy v) (TP X h y Q) X.xe s
def Me(r:R2)(ta z:TE):TE:=λh H Q=>ta h H λx v=>z h v λy u=>r x y u Q
def Fo(r:V->Hp->VK->Prop)(ta:TE):TE:=λh H Q=>ta h H λx y=>r x y Q
def rI(C:Int->Int->Prop)(g:Int->Int->V):R2:=λx y H Q=>∃i j,x=.int i/\y=.int j/\C i j/\Q (g i j) H
def Z4(g:Int->Int->V):R2:=λx y H Q=>∃i j,x=.int i/\y=.int j/\Q (g i j) H
def rU(g:Int->V):V->Hp->VK->Prop:=λx H Q=>∃i,x=.int i/\Q (g i) H
section
variable{X:Cx}{a b c:Expr}{ta z tc:TE}{pos:Pos}
section
variable{f:Value->Value->Sem Value}{g:Int->Int->Int}
theorem binT(Z:PE X a ta)(hb:PE X b z){k:TB}{s:Shared}{σ:St}{H:Hp}{R:V->V->Hp->Prop}(I:Inv X k σ H s)
  (h:ta σ H λx m=>z σ m λy e=>R x y e) {Q:zC}
  (Y:∀v u l x y e,Inv X k σ e l->sA x v->sA y u->R x y e->wpAny (model X.prog X.w) X.A (f v u) Q X.xe l) :
  wpAny (model X.prog X.w) X.A (eval a X.env) (λv j=>wpAny (model X.prog X.w) X.A (eval b X.env) (λu i=>wpAny (model X.prog X.w) X.A (f v u) Q X.xe i) X.xe j) X.xe s:=by
 refine OB (Z k s σ H _ I h) λv n ⟨x,m,K,p,r⟩=>?_;refine OB (hb k n σ m _ K r) λu l ⟨y,e,W,o,q⟩=>?_;exact Y v u l x y e W p o q
theorem Hf{k:Operator}{r:R2}(m:KF X (binaryOp k) r)(n:PE X a ta)(hb:PE X b z):PE X (.BinOp a k b pos) (Me r ta z):=by intro w s e H Q I h;exact wpAny_BinOp (binT n hb I h λv u i x y p o l j q=>m w i e p x y v u Q o l j q)
theorem Gf{w:UnaryOp}{r:V->Hp->VK->Prop}(j:yn X (unaryOp w) r)(l:PE X a ta):PE X (.UnaryOp w a pos) (Fo r ta):=by intro y s u H Q I h;exact UnaryOp_ (OB (l y s u H _ I h) λv k ⟨x,n,m,e,i⟩=>j y k u n x v Q m e i)
theorem Ao{C:Int->Int->Prop}
  (k:∀(i j:Int) (t u:Tok) (s:Shared) (Q:zC) (E:zC),C i j->Q (.int (g i j) s.toks) { s with toks:=s.toks+1 }->wpAny (model X.prog X.w) X.A (f (.int i t) (.int j u)) Q E s) :
  KF X f (rI C λi j=>.int (g i j)):=by
 intro e s p H x y v u Q I n m h;obtain⟨i,j,rfl,rfl,o,q⟩:=h;obtain⟨t,rfl⟩:=n;obtain⟨l,rfl⟩:=m;exact k i j t l s _ _ o ⟨.int (g i j),H,I.tok _,⟨_,rfl⟩,q⟩
theorem Rf
  (k:∀(i j:Int) (t u:Tok) (s:Shared) (Q:zC) (E:zC),Q (.int (g i j) s.toks) { s with toks:=s.toks+1 }->wpAny (model X.prog X.w) X.A (f (.int i t) (.int j u)) Q E s) :
  KF X f (Z4 λi j=>.int (g i j)):=by
 intro e s o H x y v u Q I n m h;obtain⟨i,j,rfl,rfl,q⟩:=h;obtain⟨t,rfl⟩:=n;obtain⟨l,rfl⟩:=m;exact k i j t l s _ _ ⟨.int (g i j),H,I.tok _,⟨_,rfl⟩,q⟩
theorem Y5{g:Int->Int->Bool}
  (k:∀(i j:Int) (t u:Tok) (s:Shared) (Q:zC) (E:zC),Q (.bool (g i j)) s->wpAny (model X.prog X.w) X.A (f (.int i t) (.int j u)) Q E s) :
  KF X f (Z4 λi j=>.bl (g i j)):=by
 intro e s o H x y v u Q I n m h;obtain⟨i,j,rfl,rfl,q⟩:=h;obtain⟨t,rfl⟩:=n;obtain⟨l,rfl⟩:=m;exact k i j t l s _ _ ⟨.bl (g i j),H,I,rfl,q⟩
def eM(i j:Int):Prop:=(-(2 ^ 64)<i/\i<2 ^ 64)∨(-(2 ^ 64)<j/\j<2 ^ 64)
theorem eM.ok{i j:Int}(h:eM i j):IntMulOk i j:=by
 rcases h with⟨y,x⟩| ⟨y,x⟩
 exact .of_left (intBits_le_64 y x);exact .of_right (intBits_le_64 y x)
theorem op_add:KF X (binaryOp .Add) (Z4 λi j=>.int (i+j)):=Rf λ_ _ _ _ _ _ _ q=>add_int q
theorem op_sub:KF X (binaryOp .Sub) (Z4 λi j=>.int (i - j)):=Rf λ_ _ _ _ _ _ _ q=>sub_int q
theorem op_mod:KF X (binaryOp .Mod) (rI (λ_ j=>0<j) λi j=>.int (i % j)):=Ao λi j _ _ _ _ _ h q=>by have x:(0:Int)<j:=h;exact mod_int' (by omega) (by rw[Int.fmod_eq_emod_of_nonneg i (by omega)];exact q)
theorem Co{f:Value->Sem Value}{g:Int->Int}
  (y:∀(i:Int) (t:Tok) (s:Shared) (Q:zC) (E:zC),Q (.int (g i) s.toks) { s with toks:=s.toks+1 }->wpAny (model X.prog X.w) X.A (f (.int i t)) Q E s) :
  yn X f (rU λi=>.int (g i)):=by
 intro u s e H x v Q I k h;obtain⟨i,rfl,q⟩:=h;obtain⟨t,rfl⟩:=k;exact y i t s _ _ ⟨.int (g i),H,I.tok _,⟨_,rfl⟩,q⟩
theorem Z9:yn X (unaryOp .USub) (rU λi=>.int (-i)):=Co λ_ _ _ _ _ q=>neg_int q
end
end
noncomputable def E3:V->V->Bool
 | .non,.non=>true | .non,.int _=>true | .int _,.non=>true | .non,.bl _=>true | .bl _,.non=>true | .non,.str _=>true | .str _,.non=>true
 | .int _,.int _=>true | .bl _,.bl _=>true | .str _,.str _=>true | .byt _,.byt _=>true
 | .int _,.str _=>true | .str _,.int _=>true | .bl _,.str _=>true | .str _,.bl _=>true
 |_,_=>false
def rEq:R2:=λx y H Q=>E3 x y=true/\Q (.bl (decide (x=y))) H
def Ro:R2:=λx y H Q=>E3 x y=true/\Q (.bl (!decide (x=y))) H
theorem vV{i j:Int}:decide (V.int i=V.int j)=(i==j):=by rw[qW];simp
theorem x0{i j:Bool}:decide (V.bl i=V.bl j)=(i==j):=by rw[qW];simp
theorem zV{i j:Str}:decide (V.str i=V.str j)=(i==j):=by rw[qW];simp
theorem xV{i j:Array UInt8}:decide (V.byt i=V.byt j)=(i.toList==j.toList):=by rw[qW];cases i;cases j;simp
section
variable{X:Cx}{a b c:Expr}{ta f tc:TE}{pos:Pos}
section
variable{d:CmpOp}{us:List Value}
theorem eA{h:TB}{σ:St}{H:Hp}{s:Shared}{Q:VK}{k x:Bool}(I:Inv X h σ H s)(q:Q (.bl k) H)(e:k=x):EP X h σ Q (.bool x) s:=by subst e;exact⟨.bl k,H,I,rfl,q⟩
theorem op_eq:KF X (compareOp .Eq) rEq:=by
 intro g s l H x y v u Q I e z h;obtain⟨k,q⟩:=h;cases x with
 |non =>
  cases e;cases y with|non=>cases z;exact PySem.EqNone.eq_none_none (eA I q (by simp))|bl j=>cases z;exact PySem.EqNone.eq_none_bool (eA I q (by simp))|int j=>obtain⟨w,rfl⟩:=z;exact PySem.EqNone.eq_none_int (eA I q (by simp))|str j=>obtain⟨w,rfl⟩:=z;exact PySem.EqNone.eq_none_str (eA I q (by simp))|_=>exact absurd (show false=true from k) QF
 |bl i =>
  cases e;cases y with|non=>cases z;exact PySem.EqNone.eq_bool_none (eA I q (by simp))|bl j=>cases z;exact eq_bool (eA I q x0)|str j=>obtain⟨w,rfl⟩:=z;exact PySem.EqMixed.eq_bool_str (eA I q (by simp))|_=>exact absurd (show false=true from k) QF
 |int i =>
  obtain⟨t,rfl⟩:=e;cases y with|non=>cases z;exact PySem.EqNone.eq_int_none (eA I q (by simp))|int j=>obtain⟨w,rfl⟩:=z;exact eq_int (eA I q vV)|str j=>obtain⟨w,rfl⟩:=z;exact PySem.EqMixed.eq_int_str (eA I q (by simp))|_=>exact absurd (show false=true from k) QF
 |str i =>
  obtain⟨t,rfl⟩:=e;cases y with|non=>cases z;exact PySem.EqNone.eq_str_none (eA I q (by simp))|bl j=>cases z;exact PySem.EqMixed.eq_str_bool (eA I q (by simp))|int j=>obtain⟨w,rfl⟩:=z;exact PySem.EqMixed.eq_str_int (eA I q (by simp))|str j=>obtain⟨w,rfl⟩:=z;exact eq_str (eA I q zV)|_=>exact absurd (show false=true from k) QF
 |byt i =>
  obtain⟨t,rfl⟩:=e;cases y with|byt j=>obtain⟨w,rfl⟩:=z;exact PySem.W.eq_bytes (eA I q xV)|_=>exact absurd (show false=true from k) QF
 |_=>cases y<;>exact absurd (show false=true from k) QF
theorem op_ne:KF X (compareOp .NotEq) Ro:=by
 intro g s l H x y v u Q I e z h;obtain⟨k,q⟩:=h;cases x with
 |non =>
  cases e;cases y with|non=>cases z;exact PySem.EqNone.ne_none_none (eA I q (by simp))|bl j=>cases z;exact PySem.EqNone.ne_none_bool (eA I q (by simp))|int j=>obtain⟨w,rfl⟩:=z;exact PySem.EqNone.ne_none_int (eA I q (by simp))|str j=>obtain⟨w,rfl⟩:=z;exact PySem.EqNone.ne_none_str (eA I q (by simp))|_=>exact absurd (show false=true from k) QF
 |bl i =>
  cases e;cases y with|non=>cases z;exact PySem.EqNone.ne_bool_none (eA I q (by simp))|bl j=>cases z;exact ne_bool (eA I q (congrArg not x0))|str j=>obtain⟨w,rfl⟩:=z;exact PySem.EqMixed.ne_bool_str (eA I q (by simp))|_=>exact absurd (show false=true from k) QF
 |int i =>
  obtain⟨t,rfl⟩:=e;cases y with|non=>cases z;exact PySem.EqNone.ne_int_none (eA I q (by simp))|int j=>obtain⟨w,rfl⟩:=z;exact ne_int (eA I q (congrArg not vV))|str j=>obtain⟨w,rfl⟩:=z;exact PySem.EqMixed.ne_int_str (eA I q (by simp))|_=>exact absurd (show false=true from k) QF
 |str i =>
  obtain⟨t,rfl⟩:=e;cases y with|non=>cases z;exact PySem.EqNone.ne_str_none (eA I q (by simp))|bl j=>cases z;exact PySem.EqMixed.ne_str_bool (eA I q (by simp))|int j=>obtain⟨w,rfl⟩:=z;exact PySem.EqMixed.ne_str_int (eA I q (by simp))|str j=>obtain⟨w,rfl⟩:=z;exact ne_str (eA I q (congrArg not zV))|_=>exact absurd (show false=true from k) QF
 |byt i =>
  obtain⟨t,rfl⟩:=e;cases y with|byt j=>obtain⟨w,rfl⟩:=z;exact PySem.W.ne_bytes (eA I q (congrArg not xV))|_=>exact absurd (show false=true from k) QF
 |_=>cases y<;>exact absurd (show false=true from k) QF
theorem op_lt:KF X (compareOp .Lt) (Z4 λi j=>.bl (decide (i<j))):=Y5 λ_ _ _ _ _ _ _ q=>lt_int q
theorem op_le:KF X (compareOp .LtE) (Z4 λi j=>.bl (decide (i<=j))):=Y5 λ_ _ _ _ _ _ _ q=>le_int q
theorem op_gt:KF X (compareOp .Gt) (Z4 λi j=>.bl (decide (j<i))):=Y5 λ_ _ _ _ _ _ _ q=>gt_int q
theorem op_ge:KF X (compareOp .GtE) (Z4 λi j=>.bl (decide (j<=i))):=Y5 λ_ _ _ _ _ _ _ q=>ge_int q
theorem kW:KF X (compareOp .In) (λx y H Q=>∃i j,x=.str i/\y=.str j/\Q (.bl (!(wx j i 0 j.length 1).isEmpty)) H):=by intro z s e H x y v u Q I k w h;obtain⟨i,j,rfl,rfl,q⟩:=h;obtain⟨t,rfl⟩:=k;obtain⟨g,rfl⟩:=w;exact in_str (eA I q rfl)
theorem uO:KF X (compareOp .NotIn) (λx y H Q=>∃i j,x=.str i/\y=.str j/\Q (.bl (!(!(wx j i 0 j.length 1).isEmpty))) H):=by intro z s e H x y v u Q I k w h;obtain⟨i,j,rfl,rfl,q⟩:=h;obtain⟨t,rfl⟩:=k;obtain⟨g,rfl⟩:=w;exact notIn_str (eA I q rfl)
theorem v5{r:R2}(i:KF X (compareOp d) r)(l:PE X a ta)(hb:PE X b f)(j:behindInMarks d b=false):PE X (.Compare a [d] [b] pos) (Me r ta f):=by intro z s w H Q I h;exact wpAny_Compare1 (binT l hb I h λv u k x y n m g e q=>i z k w n x y v u Q m g e q) j
def He(t:TE):TT:=λh H Q=>t h H λx y=>∃k,x=.bl k/\Q k y
theorem X4{r:R2}(Y:KF X (compareOp d) r)(W:PE X a ta)(hb:PE X b f)(Z:behindInMarks d b=false):PT X (.Compare a [d] [b] pos) (He (Me r ta f)):=by
 intro w s g H Q I h;refine wpAny_isTrue_Compare1 (OB (W w s g H _ I h) λv j ⟨x,F,B,n,q⟩=>OB (hb w j g F _ B q) λu i ⟨y,E,A,m,p⟩ =>
  OB (Y w i g E x y v u _ A n m p) λc G ⟨z,C,K,l,k,e,o⟩=>?_) Z
 subst e;cases l;exact wO ⟨C,K,o⟩
def Ud(K:QC)(x:V)(H:Hp)(k:Bool):Prop :=
 match x with
 | .non=>k=false|.bl b=>k=b|.int i=>k=(i != 0)|.str y=>y.length<=sizeLine/\k=((y.length:Int) != 0)|.byt y=>y.size<=sizeLine/\k=((y.size:Int) != 0)|.ref p=>(∃h,XC K H p h/\k=!h.isEmpty)∨(∃h,mD K H p h/\k=!h.isEmpty)∨∃z,H p=some (.dK z)/\k=!z.isEmpty|_=>False
theorem CS{h:Type}{kvs:List (h×V)}{vs:List (h×Value)}(r:KV kvs vs):(!vs.isEmpty)=!kvs.isEmpty:=by cases r<;>rfl
theorem tL{xs:List V}{its:List Value}(r:bA xs its):(!its.toArray.isEmpty)=!xs.isEmpty:=by cases r<;>simp
theorem sH:(sizeLine:Nat)<2 ^ 63:=by rw[QS];decide
theorem tX:zn X (λx H Q=>∃k,Ud X.K x H k/\Q k H):=by
 intro A s F H x v Q I l h;obtain⟨k,e,q⟩:=h;have J:=sH;have G:sizeLine=16777216:=QS;cases x with
 |non=>cases l;have z:k=false:=e;subst z;exact truthy_none ⟨H,I,q⟩|bl b=>cases l;have z:k=b:=e;subst z;exact wO ⟨H,I,q⟩|int i=>obtain⟨t,rfl⟩:=l;have z:k=(i != 0):=e;subst z;exact PySem.P.truthy_int ⟨H,I,q⟩|str y=>obtain⟨t,rfl⟩:=l;obtain⟨C,z⟩:y.length<=sizeLine/\k=((y.length:Int) != 0):=e;subst z;exact PySem.P.truthy_str (by omega) ⟨H,I.tok _,q⟩|byt y=>obtain⟨t,rfl⟩:=l;obtain⟨C,z⟩:y.size<=sizeLine/\k=((y.size:Int) != 0):=e;subst z;exact PySem.W.truthy_bytes (by omega) ⟨H,I.tok _,q⟩|ref p =>
  cases l;have z:(∃j,XC X.K H p j/\k=!j.isEmpty)∨(∃j,mD X.K H p j/\k=!j.isEmpty)∨∃u,H p=some (.dK u)/\k=!u.isEmpty:=e;rcases z with⟨j,n,z⟩| ⟨j,n,z⟩| ⟨u,n,z⟩
  subst z;obtain⟨Z,r,Y,B⟩:=I.list n;have g:=r.length;exact wpAny_truthy_list Y.isList (by simp only[QT];omega) ⟨H,I.tok _,by rw[tL r];exact q⟩;subst z;obtain⟨Z,r,Y,B⟩:=I.tuple n;have g:=r.length;exact truthy_tuple Y (by simp only[QT];omega) ⟨H,I.tok _,by rw[tL r];exact q⟩;subst z;obtain⟨B,E,o,r,m⟩:u.length<=sizeLine/\(p==sysModules)=false/\∃o,KV u o/\s.heap.DictOf (IA X.prog X.w) p o:=I.hok p _ n;have g:u.length=o.length:=qZ r;exact wpAny_truthy_dict E m (by omega) ⟨H,I.tok _,by rw[CS r];exact q⟩
 |_=>exact(show False from e).elim
theorem dS:KF X (binaryOp .Add) (λx y H Q=>∃i j,x=.str i/\y=.str j/\i.length+j.length<=sizeLine/\Q (.str (i++j)) H):=by intro z s l H x y v u Q I e k h;obtain⟨i,j,rfl,rfl,g,q⟩:=h;obtain⟨t,rfl⟩:=e;obtain⟨w,rfl⟩:=k;exact add_str (λw m=>⟨.str (i++j),H,I.tok _,⟨_,rfl⟩,q⟩) g
theorem aJ{x:V}(r:bA [x] us):∃u,us=[u]/\sA x u:=by
 cases r with|cons y h=>cases h;exact⟨_,rfl,y⟩
theorem L7{x y:V}(r:bA [x,y] us):∃u h,us=[u,h]/\sA x u/\sA y h:=by
 cases r with
 |cons k w =>
  cases w with|cons v z=>cases z;exact⟨_,_,rfl,k,v⟩
end
end
section
variable{h:Heap}{u:Addr}{v:Str->Option Value}
structure ObjM(h:Heap)(x u C:Addr)(v:Str->Option Value):Prop where
 obj:h.get? x=some (QA5 C u)
 ns:h.Ns1 u v
 ne:u≠x
theorem tW(n:h.Ns1 u v):∃w,h.get? u=some w/\∀name,QBM name w=some (v name):=by
 obtain⟨o,k,l,f,i,hk,_,g⟩:=n;refine⟨o,f,λname=>?_⟩;have e:=g name;unfold nsFind findBy at e;rw[<- Array.find?_toList]at e;unfold QBM;rw[i];dsimp only;split;rename_i y q;rw[q]at e;exact congrArg some e;rename_i q;rw[q]at e;have a:k.toList.any (·.refKey)=false:=by rw[QAh];intro y b;obtain⟨z,t,x⟩:=hk y (QBI.mp b);simp[DictEntry.refKey,x]
 have j:¬ k.toList.any (·.refKey)=true:=by rw[a];exact QF
 rw[if_neg j];exact congrArg some e
theorem ObjM.look{x C:Addr}(I:ObjM h x u C v):∃y,PySem.W.InstAt h x (QA5 C u) C (some y)/\∀name,QBM name y=some (v name) :=
 let⟨y,z,w⟩:=tW I.ns
 ⟨y,⟨I.obj,rfl,rfl,z⟩,w⟩
end
section
variable{P:Program}{w:World}{H v:Hp}{h h':Heap}{a C y:Addr}{x u:List (Str×V)}
theorem L6(b:uK P w H h)(e:H a=some (.ins C y x)):∃k,ObjM h a y C k/\(∀f,JR (x.lookup f) (k f))/\PySem.Within k (x.map (·.1))/\x.length<=1000/\H y=some (.own a):=by
 obtain⟨d,z,i,g,k,n,r,q⟩:=(show NA P w H h a (.ins C y x) from b a _ e)
 exact⟨k,⟨g,n,i⟩,r,q,z,d⟩
end
structure Cls(K:QC)(C:Addr):Prop where
 pg:QCA K C Str.empty=true
 hd:PySem.W.hasDictIn K C=true
 po:PySem.W.plainOver K C=true
 sa:PySem.W.findIn K (.ref C) "__setattr__"=some (some (.builtin "object.__setattr__"))
theorem Cls.get{K:QC}{C:Addr}(c:Cls K C)(f:Str):QCA K C f=true:=c.pg
section
variable{X:Cx}{v:TB}{σ:St}{H:Hp}{s:Shared}{A:Around}{E:zC}{Q:zC}{c:Value}{b:Bool}
inductive TyOf(K:QC)(H:Hp):V->Value->Prop where
 |non:TyOf K H .non (.type "NoneType")
 |bl (x:Bool):TyOf K H (.bl x) (.type "bool")
 |int (i:Int):TyOf K H (.int i) (.type "int")
 |str (x:Str):TyOf K H (.str x) (.type "str")
 |flt (x:UInt64):TyOf K H (.flt x) (.type "float")
 |lst {a:Addr}{xs:List V}(e:H a=some (.lst xs)):TyOf K H (.ref a) (.type "list")
 |frz {a:Addr}{o:Obj}{xs:List V}(e:H a=some (.frz o (.lst xs))):TyOf K H (.ref a) (.type "list")
 |tup {a:Addr}{xs:List V}(e:H a=some (.tup xs)):TyOf K H (.ref a) (.type "tuple")
 |dK {a:Addr}{kvs:List (Key×V)}(e:H a=some (.dK kvs)):TyOf K H (.ref a) (.type "dict")
 |dT {a:Addr}{ep:Nat}{kvs:List (List Key×Addr×V)}(e:H a=some (.dT ep kvs)):TyOf K H (.ref a) (.type "dict")
 |ins {a C dx:Addr}{fs:List (Str×V)}(e:H a=some (.ins C dx fs)) (cl:Cls K C) (ha:PySem.W.findIn K (.ref C) "__class__"=some (some (.builtin "object.__class__")))
   (hn:PySem.W.specialIn K (.builtin "object.__class__") "__get__"=some (some (.builtin "getset_descriptor.__get__"))) (htk:PySem.W.takesIn K (.builtin "object.__class__")=some true)
   (hm:PySem.W.mroIn K C (.type "object")=some true):TyOf K H (.ref a) (.ref C)
theorem KW{x:V}{u t:Value}(I:Inv X v σ H s)(k:sA x u)(ty:TyOf X.K H x t)(e:QBN X.K t c=some b)(h:∀B,Q (.bool b) { s with toks:=B }) :
  wpAny (model X.prog X.w) A (call (.builtin "isinstance") [u,c]) Q E s:=by
 cases ty with
 |non=>cases(show u=Value.none from k);exact qQ PySem.W.kitx_none I.kIn True.intro e (λz=>nomatch z) h
 |bl y=>cases(show u=Value.bool y from k);exact qQ PySem.W.kitx_bool I.kIn True.intro e (λz=>nomatch z) h
 |int i=>obtain⟨t,q⟩:=(show ∃t,u=Value.int i t from k);cases q;exact qQ PySem.W.kitx_int I.kIn True.intro e (λz=>nomatch z) h
 |str y=>obtain⟨t,q⟩:=(show ∃t,u=Value.str y t from k);cases q;exact qQ PySem.W.kitx_str I.kIn True.intro e (λz=>nomatch z) h
 |flt y=>obtain⟨t,q⟩:=(show ∃t,u=Value.float y t from k);cases q;exact qQ PySem.W.kitx_float I.kIn True.intro e (λz=>nomatch z) h
 |@lst a l f =>
  cases(show u=Value.ref a from k);obtain⟨_,_,n,_,g⟩:=(show NA X.prog X.w H s.heap a (.lst l) from I.hok a _ f)
  exact qQ QAi I.kIn ⟨_,g,rfl⟩ e (λz=>nomatch z) h
 |@frz a F l f =>
  cases(show u=Value.ref a from k);obtain⟨_,_,_,n,_,g⟩:=(show NA X.prog X.w H s.heap a (.frz F (.lst l)) from I.hok a _ f)
  exact qQ QAi I.kIn ⟨_,g,rfl⟩ e (λz=>nomatch z) h
 |@tup a l f =>
  cases(show u=Value.ref a from k);obtain⟨_,_,_,p⟩:=(show NA X.prog X.w H s.heap a (.tup l) from I.hok a _ f)
  obtain⟨o,g,m,_⟩:=p;exact qQ QBe I.kIn ⟨o,g,m⟩ e (λz=>nomatch z) h
 |@dK a j f =>
  cases(show u=Value.ref a from k);obtain⟨_,_,P,_,p⟩:=(show NA X.prog X.w H s.heap a (.dK j) from I.hok a _ f)
  obtain⟨o,N,Y,g,m,_⟩:=p;exact qQ QBo I.kIn ⟨o,g,m.1⟩ e (λz=>nomatch z) h
 |@dT a Y j f =>
  cases(show u=Value.ref a from k);obtain⟨_,_,l,_,o,N,g,m,_⟩:=(show NA X.prog X.w H s.heap a (.dT Y j) from I.hok a _ f)
  exact qQ QBo I.kIn ⟨o,g,m.1⟩ e (λz=>nomatch z) h
 |@ins a C dx fs f Z M G r L=>cases(show u=Value.ref a from k);obtain⟨S,O,_⟩:=L6 I.hok f;obtain⟨R,J,_⟩:=O.look;exact qQ (PySem.W.kitx_own (Z.get _) Z.hd M G r L) I.kIn J e (λz=>nomatch z) h
end
section
variable{k:Nat}{A:Around}
structure Room(k:Nat)(A:Around):Prop where
 hd:A.handled=none
 dp:A.depth+3 * k+5<recursionLimit
 un:A.units+16 * k+200<cLine
theorem Room.mono{j:Nat}(r:Room k A)(h:j<=k):Room j A:=⟨r.hd,by have:=r.dp;omega,by have:=r.un;omega⟩
theorem Room.deeper(r:Room (k+1) A)(env:Env):Room k (A.deeper env) :=
 ⟨r.hd,by have:=r.dp;show A.depth+1+3 * k+5<_;omega,by have:=r.un;show A.units+3+16 * k+200<_;omega⟩
theorem Room.depth(r:Room k A):A.depth<recursionLimit:=by have:=r.dp;omega
def Oe:TA:=λ_ H Q=>Q [] H
def Se(ta:TE)(z:TA):TA:=λh H Q=>ta h H λx v=>z h v λy u=>Q (x::y) u
end
section
variable{X:Cx}{e:Expr}{es:List Expr}{te:TE}{t:TA}{pos:Pos}
theorem ZY:PA X [] Oe:=λ_ _ _ _ H Q I h=>Wt ⟨[],H,I,.nil,h⟩
theorem zO(j:PE X e te)(i:PA X es t)(g:starEach (e::es) X.env=(false,eval e X.env)::starEach es X.env:=by rfl):PA X (e::es) (Se te t):=by intro pos y s z H Q I h;rw[g];show wpAny _ _ (spliced ((false,eval e X.env)::backTo pos (starEach es X.env))) _ _ s;refine Wj (OB (j y s z H _ I h) λu w ⟨x,o,m,a,f⟩=>?_);exact OB (i pos y w z o _ m f) λp q ⟨v,n,l,k,b⟩=>⟨x::v,n,l,.cons a k,b⟩
def Jj(t:TA):TE:=λy H Q=>t y H λh x=>h.length<=sizeLine/\∀p,x p=none->Q (.ref p) (OA x p (.tup h))
def Xj(t:TA):TE:=λy H Q=>t y H λh x=>h.length<=sizeLine/\∀p,x p=none->Q (.ref p) (OA x p (.lst h))
theorem Xa{x1}(h:PA X es t):PE X (.Tuple es x1 pos) (Jj t):=by intro x s k H Q I g;refine wpAny_Tuple_spliced (OB (h pos x s k H _ I g) λf y ⟨a,w,v,r,z,q⟩=>⟨by rw[<- r.length];exact z,?_⟩);have i:w y.heap.objs.size=none:=v.hok.fresh (QV _);refine⟨.ref y.heap.objs.size,OA w y.heap.objs.size (.tup a),v.laid (t':=y.toks) (λb u e=>QH _ e) (QV _) ?_,rfl,q _ i⟩;exact⟨z,f,r,⟨_,QN _ rfl,rfl,_,rfl⟩⟩
theorem Ba(h:PA X es t):PE X (.List es pos) (Xj t):=by intro x s k H Q I g;refine wpAny_List_spliced (OB (h pos x s k H _ I g) λf y ⟨a,w,v,r,z,q⟩=>⟨by rw[<- r.length];exact z,?_⟩);have i:w y.heap.objs.size=none:=v.hok.fresh (QV _);refine⟨.ref y.heap.objs.size,OA w y.heap.objs.size (.lst a),v.laid (t':=y.toks) (λb u e=>QH _ e) (QV _) ?_,rfl,q _ i⟩;exact⟨z,f,0,r,QN _ rfl⟩
end
noncomputable abbrev Sp:=List V->Hp->VK->XK->Prop
noncomputable abbrev C2:=List Env->Hp->Shared->XK->Value->Shared->Prop
structure Env0(P:Program)(w:World)(K:QC)(mg:Str->Option Value)(base:Heap)(A:Around)(outer:List Env)(s:Shared)(H:Hp):Prop where
 frames:A.frames=some outer
 mod:Mod K mg base
 bs:∀b o,base.get? b=some o->s.heap.get? b=some o/\H b=none
 bsz:base.objs.size<=s.heap.objs.size
 funs:s.heap.FunFrames base outer
 frf:∀b∈DW outer,H b=none
 hok:uK P w H s.heap
 bare:AllBare s.gens
def CE(outer:List Env)(P:Program)(w:World)(H:Hp)(s:Shared)(Q:VK)(u:Value)(s':Shared):Prop :=
 ∃v h,s'.os=s.os/\AllBare s'.gens/\Un (DW outer) [] H h s.heap s'.heap/\uK P w h s'.heap/\sA v u/\Q v h
def CR(h:C2)(outer:List Env)(P:Program)(w:World)(H:Hp)(s:Shared)(Q:VK)(E:XK)(r:Result)(s':Shared):Prop :=
 match r with
 | .ok (.ret u)=>CE outer P w H s Q u s'|.ok _=>False|.error e=>h outer H s E e s'
structure FnOk(P:Program)(w:World)(K:QC)(mg:Str->Option Value)(base:Heap)(CX:C2)(k:Nat)(f:Addr)(fd:FuncData)(ps:List Str)(sp:Sp):Prop where
 len:∀vs H Q E,sp vs H Q E->vs.length=ps.length
 run:∀(A:Around) (outer:List Env) (s:Shared) (H:Hp) (args:Args) (us:List Value) (vs:List V) (Q:VK) (E:XK),Room k A->Env0 P w K mg base A outer s H->BindsTo s fd args (ps.zip us)->bA vs us->sp vs H Q E ->
  codeAny (model P w) A (.call (.ref f) args) (CR CX outer P w H s Q E) s
theorem FnOk.mono{P:Program}{w:World}{K:QC}{v:Str->Option Value}{x:Heap}{b:C2}{j k:Nat}{f:Addr}{a:FuncData}{u:List Str}{z:Sp}(F:FnOk P w K v x b j f a u z)(h:j<=k) :
  FnOk P w K v x b k f a u z:=⟨F.len,λA y s H args g e Q E i=>F.run A y s H args g e Q E (i.mono h)⟩
section
variable{X:Cx}{x:TB}{σ:St}{H:Hp}{s s':Shared}
theorem Inv.env0(I:Inv X x σ H s):Env0 X.prog X.w X.K X.mg X.base X.A X.stack s H :=
 ⟨I.ok.frames,I.ok.mod,I.bs,QY I.ok.bsz I.sz,I.stack,I.stkFree,I.hok,I.bare⟩
theorem Inv.after{Q:VK}{u:Value}(I:Inv X x σ H s)(h:CE X.stack X.prog X.w H s Q u s'):EP X x σ Q u s':=by obtain⟨v,f,a,bare,un,k,r,q⟩:=h;obtain⟨e,g,d,t,y⟩:=s';obtain rfl:y=s.os:=a;exact⟨v,f,I.call (h':=e) (g':=g) (d':=d) (t':=t) (ch:=[]) un k bare (λb z=>absurd z (by simp)),r,q⟩
end
def N7(z:Sp)(h:List V)(E:XK)(t:TA):TE:=λx H Q=>t x H λy u=>z (y++h) u Q E
def ZI(K:QC)(y:FuncData)(x:List Str)(ds:List Value):Prop :=
 ∀(s:Shared) (h:List Value),K.In s.heap->(h++ds).length=x.length->BindsTo s y ⟨h,[]⟩ (x.zip (h++ds))
theorem ZI.all{K:QC}{z:FuncData}{x:List Str}(h:∀us:List Value,us.length=x.length->bindArgs z ⟨us,[]⟩=pure (x.zip us)):ZI K z x []:=λs us _ y=>by rw[wG]at y ⊢;exact .of_eq (h us y)
def jM(z:C2)(X:Cx)(E:XK):Prop:=∀(h:TB) (y:St) (H:Hp) (s:Shared) (e:Value) (x:Shared),Inv X h y H s->z X.stack H s E e x->X.xe e x
section
variable{X:Cx}{b:C2}{k:Nat}{f C:Addr}{a:FuncData}{z:List Str}{v:Sp}{y:List V}{ds:List Value}{E:XK}{x m:Str}{p pos apos:Pos}{e o:Expr}{es:List Expr}{ta:TE}{t:TA}
theorem TX{g:TB}{σ:St}{H:Hp}{s:Shared}{Q:VK}{us:List Value}{vs:List V}(F:FnOk X.prog X.w X.K X.mg X.base b k f a z v)(q:Room k X.A)(hb:ZI X.K a z ds)(Z:bA y ds)(n:jM b X E)
  (I:Inv X g σ H s) (r:bA vs us) (h:v (vs++y) H Q E):wpAny (model X.prog X.w) X.A (call (.ref f) us) (EP X g σ Q) X.xe s:=by
 have j:bA (vs++y) (us++ds):=r.append Z;have Y:(us++ds).length=z.length:=by rw[<- j.length];exact F.len _ _ _ _ h
 refine wpAny_call (QAZ (F.run X.A X.stack s H ⟨us,[]⟩ (us++ds) (vs++y) Q E q I.env0 (hb s us I.kIn Y) j h) λr l i=>?_);cases r with
 |error e=>exact n g σ H s e l I i|ok fl =>
  cases fl with|ret u=>exact I.after i|next=>exact Qc i|brk=>exact Qc i|cont=>exact Qc i
theorem x5(F:FnOk X.prog X.w X.K X.mg X.base b k f a z v)(Y:Room k X.A)(B:Gl X x)(Z:X.mg x=some (.ref f))(hk:WB X.K (.ref f)=true)(hb:ZI X.K a z ds)(J:bA y ds)(n:jM b X E)
  (L:PA X (e::es) t) (i:(x==("__debug__":Str))=false:=by decide) (G:starEach (e::es) X.env=(false,eval e X.env)::starEach es X.env:=by rfl) (g:(backTo pos (starEach es X.env)).any (·.1)=false:=by rfl) :
  PE X (.Call (.Name x p) (e::es) [] pos) (N7 v y E t):=by
 intro u s l H Q I h;refine qp (aO I B Z ?_ i);refine PySem.W.callWith_K (h₀:=X.base) I.ok.mod.kin hk (OB (L pos u s l H _ I h) λN O ⟨M,P,j,r,q⟩=>⟨j.kIn,?_⟩) G g;exact TX F Y hb J n j r q
theorem eY(F:FnOk X.prog X.w X.K X.mg X.base b k f a z v)(j:Room k X.A)(n:Gl X x)(l:X.mg x=some (.ref f))(hk:WB X.K (.ref f)=true)(hb:ZI X.K a z ds)(q:bA y ds)(i:jM b X E)
  (u:(x==("__debug__":Str))=false:=by decide):PE X (.Call (.Name x p) [] [] pos) (N7 v y E Oe):=by
 intro g s r H Q I h;refine qp (aO I n l ?_ u);exact PySem.W.callWith_K0 I.kIn hk (TX (us:=[]) F j hb q i I .nil h)
end
section
variable{X:Cx}{c:C2}{k:Nat}{f C:Addr}{b:FuncData}{v ks:List Str}{u:Sp}{E:XK}{x m:Str}{p pos apos h:Pos}{e o:Expr}{es:List Expr}{y:List Keyword}{te ta:TE}{t z:TA}{w:Option Str}
variable{g:List Value->List Value->List Value}{a:List V->List V->List V}
end
section
variable{l:C2}{P:Program}{w:World}{mg:Str->Option Value}{base:Heap}{N j:List Str}{g:Str}{d:Scope}{f:Addr}
structure FnScope(N P:List Str)(sc:Scope):Prop where
 kind:sc.kind=.function
 co:sc.isCoroutine=false
 gen:sc.isGenerator=false
 nd:N.Nodup
 pre:N.take P.length=P
 par:∀x∈P,sc.names.lookup x=some .local∨sc.names.lookup x=some .cell
 nofree:∀y∈sc.names,y.2≠.free
theorem mN{y:Str->Option NameKind}{x:Str}:∀{binds:List (Str×Value)}{m:Str->Option Value},(∀v,(x,v)∉binds)->bindL y binds m x=m x
 |[],_,_=>rfl|(n,v)::r,m,h=>by
  unfold bindL;rw[mN λw z=>h w (QE _ z)];split;have:x≠n:=by rintro rfl;exact h v QD
  simp[this];rfl
theorem oN{y:Str->Option NameKind}{x:Str}:∀{binds:List (Str×Value)}{m:Str->Option Value},(∀v,(x,v)∉binds)->bindC y binds m x=m x
 |[],_,_=>rfl|(n,v)::r,m,h=>by
  unfold bindC;rw[oN λw z=>h w (QE _ z)];split;rfl;have:x≠n:=by rintro rfl;exact h v QD
  simp[this]
theorem nN{y:Str->Option NameKind}{x:Str}{v:Value}:∀{P:List Str}{vs:List Value}{i:Nat}{m:Str->Option Value},P.Nodup->P[i]?=some x->vs[i]?=some v->y x=some .local ->
  bindL y (P.zip vs) m x=some v
 |[],_,_,_,_,h,_,_=>by simp at h|_::_,[],_,_,_,_,h,_=>by simp at h|p::P,w::vs,0,m,nd,h1,h2,hk=>by simp at h1 h2;subst h1;subst h2;show bindL y ((p,w)::P.zip vs) m p=_;unfold bindL;rw[mN λv z=>(Qk.mp nd).1 (QA6 z).1,if_pos hk];simp|p::P,w::vs,i+1,m,nd,h1,h2,hk=>by show bindL y ((p,w)::P.zip vs) m x=_;unfold bindL;exact nN (i:=i) (Qk.mp nd).2 (by simpa using h1) (by simpa using h2) hk
theorem pN{y:Str->Option NameKind}{x:Str}{v:Value}:∀{P:List Str}{vs:List Value}{i:Nat}{m:Str->Option Value},P.Nodup->P[i]?=some x->vs[i]?=some v->y x≠some .local ->
  bindC y (P.zip vs) m x=some v
 |[],_,_,_,_,h,_,_=>by simp at h|_::_,[],_,_,_,_,h,_=>by simp at h|p::P,w::vs,0,m,nd,h1,h2,hk=>by simp at h1 h2;subst h1;subst h2;show bindC y ((p,w)::P.zip vs) m p=_;unfold bindC;rw[oN λv z=>(Qk.mp nd).1 (QA6 z).1,if_neg hk];simp|p::P,w::vs,i+1,m,nd,h1,h2,hk=>by show bindC y ((p,w)::P.zip vs) m x=_;unfold bindC;exact pN (i:=i) (Qk.mp nd).2 (by simpa using h1) (by simpa using h2) hk
def jE(N:List Str)(vs:List V):St:=vs.map some++Qz (N.length - vs.length) none
noncomputable def ES(l:C2)(P:Program)(w:World)(K:QC)(mg:Str->Option Value)(base:Heap)(N:List Str)(g:Str)(d:Scope)(f:Addr)(x:Value)(A:Around)(outer:List Env)(s:Shared)(H:Hp)(E:XK):Cx where
 prog:=P
 w:=w
 K:=K
 mg:=mg
 base:=base
 A:=A.deeper (envOfC g d s.heap.objs.size f x)
 N:=N
 s₀:=s
 H₀:=H
 env:=envOfC g d s.heap.objs.size f x
 outer:=outer
 stack:=envOfC g d s.heap.objs.size f x::outer
 ex:=[]
 calm:=true
 fn:=λ_=>true
 pn:=[]
 xe:=λe y=>wpAny (model P w) (A.deeper (envOfC g d s.heap.objs.size f x)) (leaving (envOfC g d s.heap.objs.size f x) e) (λ_ h=>l outer H s E e h) (λz h=>l outer H s E z h) y
theorem uR{sc:Scope}{n:Nat}{x:Str}(h:sc.names.lookup x=some .cell):∃c,(cellsFrom n sc.names []).lookup x=some c:=by have q:=QAz sc.names n [] (.inl h);exact Option.isSome_iff_exists.mp q
theorem VW{K:QC}{F:Value}{A:Around}{outer:List Env}{s G:Shared}{H:Hp}{E:XK}{us:List Value}{vs:List V}
  (S:FnScope N j d) (M:A.handled=none) (o:Env0 P w K mg base A outer s H) (R:vs.length=j.length) (r:bA vs us)
  (x:InCallC s s.heap.objs.size (bindL (envOfC g d s.heap.objs.size f F).kindOf (j.zip us) λ_=>none) (cellsFrom (s.heap.objs.size+1) d.names []) (bindC (envOfC g d s.heap.objs.size f F).kindOf (j.zip us) λ_=>none) G) :
  Inv (ES l P w K mg base N g d f F A outer s H E) [] (jE N vs) H G:=by
 have L:j.length<=N.length:=by have:=congrArg qq S.pre;rw[wW]at this;omega
 obtain⟨C,Q,rfl,hk⟩:=x.done;have X:∀b:Addr,b∉(ES l P w K mg base N g d f F A outer s H E).ex:=λb z=>absurd (show b∈([]:List Addr) from z) (by simp);refine⟨⟨o.mod,S.kind,rfl,rfl,QV _,λy z c C m=>?_,λy Y=>?_,λy c _ h=>?_,λ_=>M,Around.frames_deeper o.frames,.inr ⟨rfl,rfl⟩,λb z=>absurd z (X b),o.bs,o.bsz,λb _ _=>X b,λb z=>absurd z (X b),o.funs,o.frf⟩,
  rfl,o.bare,Un.kept hk,⟨_,x.toInCall.ns,λi y v C m h3=>?_⟩,λy c h=>⟨_,x.cell y c h⟩,o.hok.fresh (QV _),λy c h=>?_,λp W=>absurd (show p∈([]:TB) from W) (by simp),o.hok.kept hk,?_⟩
 exact name_of_addr x.apart (qX C) (qX m);have Y:d.names.lookup y=some .cell∨d.names.lookup y=some .free:=Y;rcases Y with Y|Y;exact uR Y;exact absurd rfl (S.nofree _ (qX Y));exact QAY (x.above y c (qX h));have B:i<vs.length:=by unfold jE at m;by_cases B:i<vs.length;exact B;rw[Q1 (by simpa using B)]at m;rw[wy]at m;split at m<;>cases m
 have O:vs[i]?=some v:=by
  unfold jE at m;rw[Qx (by simpa using B),Qa]at m;cases e:vs[i]? with|none=>rw[e]at m;cases m|some a=>rw[e]at m;cases m;rfl
 obtain⟨u,I,J⟩:=r.get O;have W:j[i]?=some y:=by rw[<- S.pre,List.getElem?_take_of_lt (by omega)];exact C
 have Z:j.Nodup:=by rw[<- S.pre];exact S.nd.sublist (QBp _ _)
 refine⟨u,J,?_⟩;rcases S.par y (qB W) with k|k;exact .inl ⟨k,nN Z W I k⟩;obtain⟨c,e⟩:=uR (n:=s.heap.objs.size+1) k;refine .inr ⟨.inl k,c,e,?_⟩;have q:=x.cell y c e;rw[pN Z W I (by show d.names.lookup y≠_;rw[k];decide)]at q;exact q;exact o.hok.fresh (QAY (x.above y c (qX h)));unfold jE;show _=N.length;rw[QL,QG,qh];omega
theorem Xg{K:QC}{k:Nat}{name:Str}{z:Arguments}{body:List Stmt}{dV kV B pm h ct oc:Value}{an od:Option Addr}
  {L:Array (Option Value)}{C:Sp}(lk:K.lookup f=some ⟨oc,od,.func (wX name g z body d dV kV B pm an h ct),L⟩) (R:QAc K h g=true) (S:FnScope N j d)
  (len:∀vs H Q E,C vs H Q E->vs.length=j.length)
  (p:∀(A:Around) (outer:List Env) (s:Shared) (H:Hp) (vs:List V) (Q:VK) (E:XK),Room k (A.deeper (envOfC g d s.heap.objs.size f h))->C vs H Q E ->
   ∃t,tT (ES l P w K mg base N g d f h A outer s H E) body t/\t { nx:=λ_ i=>Q .non i,rt:=Q } (jE N vs) H) :
  FnOk P w K mg base l (k+1) f (wX name g z body d dV kV B pm an h ct) j C:=by
 refine⟨len,λA outer s H args us vs Q E O Z hb r Y=>?_⟩;have hl:=len _ _ _ _ Y;have KX:K.In s.heap:=Z.mod.kin.keeps λb o e=>(Z.bs b o e).1;have M:s.heap.NoLimit:=Z.mod.nolimit.keeps λb o e=>(Z.bs b o e).1;have m:∀y∈j.zip us,d.names.lookup y.1=some .local∨(d.names.lookup y.1=some .cell/\((cellsFrom (s.heap.objs.size+1) d.names []).lookup y.1).isSome=true):=λ⟨n,v⟩ hy=>by rcases S.par n (QA6 hy).1 with q|q;exact .inl q;exact .inr ⟨q,QAz _ _ _ (.inl q)⟩
 refine codeAny_call_function O.depth (KX _ _ lk) rfl S.co S.gen rfl (PySem.W.codeRec_of KX R) (hb _ _ _ _ ?_);refine wpAny_newFunctionEnv_cells S.kind m λenv he s1 x=>?_;subst he;refine⟨M.keeps x.toInCall.keep,codeAny_func ?_⟩;obtain⟨t,ht,hq⟩:=p A outer s H vs Q E (O.deeper _) Y;have I:Inv (ES l P w K mg base N g d f h A outer s H E) [] (jE N vs) H s1:=VW S O.hd Z hl r x;refine wN (ht [] s1 (jE N vs) H _ I hq) (λfl F X=>?_) λe F X=>X;have fin:∀{a:St}{i:Hp}{v:V}{u:Value},Inv (ES l P w K mg base N g d f h A outer s H E) [] a i F->sA v u->Q v i->CE outer P w H s Q u F :=
  λ{a i v u} J G q=>⟨v,i,J.os,J.bare,J.base,J.hok,G,q⟩
 cases fl with|ret u=>obtain⟨v,a,i,J,G,q⟩:=X;exact fin J G q|next=>obtain⟨a,i,J,q⟩:=X;exact fin (v:=V.non) (u:=Value.none) J rfl q|brk=>obtain⟨_,_,_,q⟩:=X;exact Qc q|cont=>obtain⟨_,_,_,q⟩:=X;exact Qc q
end
section
variable{X:Cx}{x:Str}{p pos:Pos}{e:Expr}{es:List Expr}{t:TA}{id T:String}{r:List V->Hp->VK->Prop}
def Sn(r:List V->Hp->VK->Prop)(t:TA):TE:=λh H Q=>t h H λy z=>r y z Q
theorem zQ(n:eF X (.builtin id) r)(l:Gl X x)(j:X.mg x=none)(g:bootBuiltins x=some (.builtin id))(o:PA X (e::es) t)(i:x≠"__name__":=by decide)(u:(x==("__debug__":Str))=false:=by decide)
  (m:starEach (e::es) X.env=(false,eval e X.env)::starEach es X.env:=by rfl) (z:(backTo pos (starEach es X.env)).any (·.1)=false:=by rfl):PE X (.Call (.Name x p) (e::es) [] pos) (Sn r t):=by
 intro y s v H Q I h;refine qp (oE I l j g ?_ i u);exact wu (OB (o pos y s v H _ I h) λk a ⟨w,Y,q,b,f⟩=>n y a v Y w k Q q b f) m z
theorem yW(n:eF X (.type T) r)(l:Gl X x)(j:X.mg x=none)(g:bootBuiltins x=some (.type T))(o:PA X (e::es) t)(i:x≠"__name__":=by decide)(u:(x==("__debug__":Str))=false:=by decide)
  (m:starEach (e::es) X.env=(false,eval e X.env)::starEach es X.env:=by rfl) (z:(backTo pos (starEach es X.env)).any (·.1)=false:=by rfl):PE X (.Call (.Name x p) (e::es) [] pos) (Sn r t):=by
 intro y s v H Q I h;refine qp (oE I l j g ?_ i u);exact qY (OB (o pos y s v H _ I h) λk a ⟨w,Y,q,b,f⟩=>n y a v Y w k Q q b f) m z
end
end L2
namespace HT
open PySem PyProof.Rows
section
open PySem.SeqAt
open PySem.AutoSeq1 (wpAny_loadPart')
open PySem.MeetsSeq PySem.MeetsSeq2 PySem.MeetsSeq3
end
section
variable{prog:Program}{w:World}{A:Around}{E:zC}{s:Shared}
section
variable{t sl:Addr}{Q:zC}{a u:Value}{y z:Option Int}
theorem cat_tup{b:Addr}{vs ws:List Value}(X:IsTup s.heap t vs.toArray)(hb:IsTup s.heap b ws.toArray)(m:vs≠[])
  (Z:ws=[]->Q (.ref t) s) (Y:ws≠[]->Q (.ref s.heap.objs.size) { s with heap:=s.heap.push { cls:=.type "tuple",data:=.seq (vs++ws).toArray } })
  (hsz:vs.length+ws.length<=sizeLine):wpAny (model prog w) A (binaryOp .Add (.ref t) (.ref b)) Q E s:=by
 obtain⟨⟨cls,q,data,sl⟩,i,p,n,o⟩:=id X;obtain⟨⟨r,f,j,x⟩,h,k,l,v⟩:=id hb;simp only at p o k v;subst p o k v;have e:vs.toArray++ws.toArray=(vs++ws).toArray:=by simp
 by_cases g:ws=[];exact QB2 ⟨_,i,rfl⟩ ⟨_,h,rfl⟩ QCB seq_tuple_add QA0 QAr (QAj _ _)
  (tuple_addW1 t b vs.toArray ws.toArray n l q f sl x (by simpa using m) (by simp[g])) ⟨i,h,Z g⟩
 refine QB2 ⟨_,i,rfl⟩ ⟨_,h,rfl⟩ QCB seq_tuple_add QA0 QAr (QAj _ _)
  (tuple_addW2 t b vs.toArray ws.toArray n l q f sl x (by simpa using m) (by simpa using g) (by rw[QT,QT];exact hsz)) ⟨i,h,?_⟩
 rw[e];exact Y g
def sIx(n d:Nat):Option Int->Nat
 |none=>d|some v=>if v<0 then(v+(n:Int)).toNat else min v.toNat n
theorem O9(n d:Nat)(x:d<=n)(o:Option Int):sIx n d o<=n:=by
 cases o with|none=>exact x|some v=>show(if v<0 then(v+(n:Int)).toNat else min v.toNat n)<=n;by_cases h:v<0;rw[if_pos h];omega;rw[if_neg h];exact Nat.min_le_right _ _
theorem bV(v:Int)(n d:Nat):(if v<0 then max (v+(n:Int)) 0 else min v (n:Int))=((sIx n d (some v):Nat):Int):=by show(if v<0 then max (v+(n:Int)) 0 else min v (n:Int))=(((if v<0 then(v+(n:Int)).toNat else min v.toNat n):Nat):Int);by_cases h:v<0;simp only[if_pos h];omega;simp only[if_neg h];omega
theorem rT(y z:Option Int)(n:Nat):WT y z 1 (n:Int)=(((sIx n 0 y:Nat):Int),((sIx n n z:Nat):Int)):=by
 have h:¬ ((1:Int)<0):=by omega
 unfold WT;simp only[h,if_false];refine QCZ ?_ ?_;cases y with|none=>rfl|some v=>exact bV v n 0
 cases z with|none=>rfl|some v=>exact bV v n n
theorem uS(i j:Nat):wZ (i:Int) (j:Int) 1=j - i:=by
 unfold wZ;have h:(1:Int) > 0:=by omega
 simp only[h,if_true,Int.ediv_one];split<;>omega
theorem aK{v:Value}{o:Option Int}{Q:Option Int->Shared->Prop}(p:IsPart v o)(h:Q o s):wpAny (model prog w) A (Builtin.Slice.slicePartIndex v) Q E s:=by
 cases p with|none=>exact slicePart_none h|int i t=>exact slicePart_int h
theorem CI{n:Nat}{Q:Int×Int×Nat->Shared->Prop}(f:s.heap.IsSliceOf sl a u .none)(e:IsPart a y)(b:IsPart u z)
  (h:Q (((sIx n 0 y:Nat):Int),1,sIx n n z - sIx n 0 y) s):wpAny (model prog w) A (QAV (.ref sl) (pure (n:Int))) Q E s:=by
 obtain⟨i,v,g,k⟩:=id f;unfold QAV Builtin.Slice.sliceFields;refine QA (QA (wa v k (x:=a) rfl (QA (wa v k (x:=u) rfl (QA (wa v k (x:=.none) rfl (QK ?_)))))));refine QA (slicePart_none ?_);show wpAny _ _ (if((1:Int)==0)=true then _ else _) _ _ s;rw[if_neg (by decide)];refine QA (aK e (QA (aK b (QA (QK ?_)))));show wpAny _ _ (match WT y z 1 (n:Int) with | (y,z)=>pure (y,(1:Int),wZ y z 1)) _ _ s;rw[rT y z n];show wpAny _ _ (pure (((sIx n 0 y:Nat):Int),(1:Int),wZ ((sIx n 0 y:Nat):Int) ((sIx n n z:Nat):Int) 1)) _ _ s;rw[uS];exact QK h
theorem oY(xs:Array Value)(i k:Nat):((qC k).filterMap λ(m:Nat)=>xs[((i:Int)+(m:Int) * 1).toNat]?).toArray=((xs.toList.drop i).take k).toArray:=by
 have e:(λ(m:Nat)=>xs[((i:Int)+(m:Int) * 1).toNat]?)=λm=>xs[i+m]?:=by
  funext m;have:((i:Int)+(m:Int) * 1).toNat=i+m:=by omega
  rw[this]
 rw[e];have:=pick_run xs i k;rw[List.filterMap_map]at this;have h:((λx=>xs[x]?)∘λx=>i+x)=λm=>xs[i+m]?:=rfl;rw[h]at this;rw[this]
theorem getItem_tuple_cut{x:Array Value}(k:IsTup s.heap t x)(i:s.heap.IsSliceOf sl a u .none)(l:IsPart a y)(j:IsPart u z)
  (o:¬ (sIx x.size 0 y=0/\sIx x.size x.size z=x.size))
  (h:Q (.ref s.heap.objs.size) { s with heap:=s.heap.push { cls:=.type "tuple",data:=.seq ((x.toList.drop (sIx x.size 0 y)).take (sIx x.size x.size z - sIx x.size 0 y)).toArray } })
  (hsz:x.size<=sizeLine):wpAny (model prog w) A (getItem (.ref t) (.ref sl)) Q E s:=by
 have v:sizeOk (.seq ((x.toList.drop (sIx x.size 0 y)).take (sIx x.size x.size z - sIx x.size 0 y)).toArray):=by show((x.toList.drop (sIx x.size 0 y)).take (sIx x.size x.size z - sIx x.size 0 y)).toArray.size<=sizeLine;rw[QT,wW,W7,QX];omega
 have Y:sIx x.size x.size z<=x.size:=O9 _ _ (QV _) z;obtain⟨n,b,f,p⟩:=id i;have g:s.TypeIs (.ref sl) "slice":=⟨n,b,f⟩
 unfold getItem
 try with_reducible refine qO ?_
 first|refine QA (QK ?_)|skip
 refine QA (wpAny_sequenceKey k.typeIs (by decide) ?_);refine QA (qF (name:=Ql "__getitem__") k.typeIs wj
  (Q2 wj k.typeIs entry_tuple_getitem ?_ (args_tuple_getitem _ _)))
 show wpAny _ _ (Builtin.Tuple.tupleItemsOf (.ref t) >>= _) _ _ s;refine QA (tupleItemsOf_ k ?_);refine QA (Wf g ?_);rw[if_pos (by decide)];refine QA (CI i l j ?_);have e:¬ ((((sIx x.size 0 y:Nat):Int)==0&&(1:Int)==1&&(sIx x.size x.size z - sIx x.size 0 y)==x.size)=true):=by intro q;rw[Qf,Qf]at q;have X:((sIx x.size 0 y:Nat):Int)=0:=qi q.1.1;have r:sIx x.size x.size z - sIx x.size 0 y=x.size:=qi q.2;exact o ⟨by omega,by omega⟩
 show wpAny _ _ (if(((sIx x.size 0 y:Nat):Int)==0&&(1:Int)==1&&(sIx x.size x.size z - sIx x.size 0 y)==x.size)=true then _ else _) _ _ s;rw[if_neg e,oY];first
  |exact QA (m:=wk _) (Qu (QK ⟨_,rfl,QK h⟩) v)
  |exact QA (m:=wk _) (Qu (QA (QK (QK ⟨_,rfl,QK h⟩))) v)
  |exact QA (QA (m:=wk _) (Qu (QK (QK ⟨_,rfl,QK h⟩)) v))
  |exact QA (QA (m:=wk _) (Qu (QK ⟨_,rfl,QK h⟩) v))
end
end
end HT
namespace L2
open PySem PySem.Spec PyProof.Rows
noncomputable abbrev TO:=St->Hp->(Option Int->Hp->Prop)->Prop
def PO(X:Cx)(e:Option Expr)(t:TO):Prop :=
 ∀(h:TB) (s:Shared) (x:St) (H:Hp) (Q:Option Int->Hp->Prop),Inv X h x H s->t x H Q ->
  wpAny (model X.prog X.w) X.A (evalPart e X.env) (λu z=>∃o y,Inv X h x y z/\IsPart u o/\Q o y) X.xe s
def B3:TO:=λ_ H Q=>Q none H
def Le(t:TE):TO:=λh H Q=>t h H λx y=>∃i,x=.int i/\Q (some i) y
section
variable{X:Cx}{e:Expr}{te:TE}{k c:Option Expr}{d f:TO}{pos p2:Pos}
theorem G4:PO X none B3:=by intro x s y H Q I h;rw[evalPart_none];exact QK ⟨none,H,I,.none,h⟩
theorem D4(h:PE X e te):PO X (some e) (Le te):=by intro y s z H Q I a;rw[evalPart_some];refine OB (h y s z H _ I a) λu j ⟨x,g,b,v,w⟩=>?_;obtain⟨i,rfl,q⟩:=w;obtain⟨t,rfl⟩:=v;exact⟨some i,g,b,.int i t,q⟩
def zj(X:Cx)(r:V->Option Int->Option Int->Hp->VK->Prop):Prop :=
 ∀(h:TB) (s:Shared) (y:St) (H:Hp) (x:V) (v u z:Value) (k c:Option Int) (a:Addr) (Q:VK),Inv X h y H s->sA x v->s.heap.IsSliceOf a u z .none->IsPart u k->IsPart z c->r x k c H Q ->
  ∃T id,typeLookup (.type T) "__getitem__"=pure (some (.builtin id))/\s.TypeIs v T/\wpAny (model X.prog X.w) X.A (getItem v (.ref a)) (EP X h y Q) X.xe s
def Go(r:V->Option Int->Option Int->Hp->VK->Prop)(te:TE)(d f:TO):TE:=λh H Q=>te h H λx v=>d h v λl z=>f h z λu y=>r x l u y Q
theorem pY{r:V->Option Int->Option Int->Hp->VK->Prop}(E:zj X r)(J:PE X e te)(F:PO X k d)(B:PO X c f):PE X (.Subscript e (.Slice k c none p2) pos) (Go r te d f):=by intro y s a H Q I h;refine Subscript_ (OB (J y s a H _ I h) λv n ⟨x,S,P,o,Z⟩=>?_);refine wpAny_Slice (OB (F y n a S _ P Z) λi m ⟨l,R,O,K,Y⟩=>OB (B y m a R _ O Y) λg z ⟨u,j,N,W,p⟩=>?_);rw[evalPart_none];refine QK ?_;have M:Inv X y a j { z with heap:=z.heap.push { cls:=.type "slice",data:=.fields #[i,g,.none] } }:=N.kept (t':=z.toks) λb ob q=>QH _ q;obtain⟨T,id,L,C,G⟩:=E y { z with heap:=z.heap.push { cls:=.type "slice",data:=.fields #[i,g,.none] } } a j x v i g l u z.heap.objs.size Q M o (Heap.IsSliceOf.new ..) K W p;show wpAny (model X.prog X.w) X.A (subscriptTail e (.Slice k c none p2) v (.ref z.heap.objs.size)) (EP X y a Q) X.xe { z with heap:=z.heap.push { cls:=.type "slice",data:=.fields #[i,g,.none] } };exact tail_any (ops:=[.ref z.heap.objs.size,v]) C L G (by with_unfolding_all rfl)
def jR(xs:List V)(k c:Option Int):List V:=(xs.drop (HT.sIx xs.length 0 k)).take (HT.sIx xs.length xs.length c - HT.sIx xs.length 0 k)
theorem BJ(xs:List V)(k c:Option Int):(jR xs k c).length<=xs.length:=by unfold jR;rw[wW,W7];omega
def mf(K:QC):V->Option Int->Option Int->Hp->VK->Prop:=λx k c H Q=>∃a h,x=.ref a/\mD K H a h /\
 ¬ (HT.sIx h.length 0 k=0/\HT.sIx h.length h.length c=h.length)/\∀p,H p=none->Q (.ref p) (OA H p (.tup (jR h k c)))
theorem D9:zj X (mf X.K):=by
 intro w s Z H x v A W k c B Q I j Y m l h;obtain⟨a,z,rfl,n,p,q⟩:=h;cases j;obtain⟨u,r,i,g⟩:=I.tuple n;have y:u.toArray.size=z.length:=by rw[QT];exact r.length.symm
 refine⟨"tuple",_,wj.lookup,i.typeIs,?_⟩;refine HT.getItem_tuple_cut i Y m l (by rw[y];exact p) ?_ (by rw[y];exact g);rw[y];refine⟨.ref s.heap.objs.size,_,I.laid (t':=s.toks) (o:=.tup (jR z k c)) (λb C q=>QH _ q) (QV _) ?_,rfl,q _ (I.hok.fresh (QV _))⟩;exact⟨QY (BJ z k c) g,_,(r.drop (HT.sIx z.length 0 k)).take (HT.sIx z.length z.length c - HT.sIx z.length 0 k),IsTup.new _ _⟩
def y8(K:QC):R2:=λx y H Q=>∃a b z h,x=.ref a/\y=.ref b/\mD K H a z/\mD K H b h/\z≠[]/\z.length+h.length<=sizeLine /\
 (h=[]->Q (.ref a) H)/\(h≠[]->∀p,H p=none->Q (.ref p) (OA H p (.tup (z++h))))
theorem bA.nil_iff{xs:List V}{us:List Value}(r:bA xs us):us=[]↔xs=[]:=by
 cases r with|nil=>simp|cons _ _=>simp
theorem J5:KF X (binaryOp .Add) (y8 X.K):=by intro j s F H x y v u Q I Y r h;obtain⟨a,b,p,n,rfl,rfl,E,hb,C,m,W,Z⟩:=h;cases Y;cases r;obtain⟨B,i,A,_⟩:=I.tuple E;obtain⟨l,g,p2,_⟩:=I.tuple hb;refine HT.cat_tup A p2 (λz=>C (i.nil_iff.mp z)) (λz=>⟨.ref a,H,I,rfl,W (g.nil_iff.mp z)⟩) (λz=>?_) (by rw[<- i.length,<- g.length];exact m);refine⟨.ref s.heap.objs.size,_,I.laid (t':=s.toks) (o:=.tup (p++n)) (λb G q=>QH _ q) (QV _) ?_,rfl,Z (λw=>z (g.nil_iff.mpr w)) _ (I.hok.fresh (QV _))⟩;exact⟨by rw[QL];exact m,_,i.append g,IsTup.new _ _⟩
end
def BQ(n:Nat)(i:Int):Option Nat:=if 0<=i then(if i<n then some i.toNat else none) else if -(n:Int)<=i then some (i+n).toNat else none
def eE{α:Type}(xs:List α)(i:Int):Option α:=(BQ xs.length i).bind λj=>xs[j]?
theorem iO{n:Nat}{i:Int}{j:Nat}(h:BQ n i=some j):seqIndex? i n=some j/\j<n/\-(n:Int)<=i/\i<n:=by unfold BQ at h;by_cases y:0<=i;rw[if_pos y]at h;by_cases x:i<n;rw[if_pos x]at h;have e:i.toNat=j:=qE h;exact⟨by rw[QCM y x,e],by omega,by omega,x⟩;rw[if_neg x]at h;cases h;rw[if_neg y]at h;by_cases x:-(n:Int)<=i;rw[if_pos x]at h;have e:(i+n).toNat=j:=qE h;exact⟨by rw[QB3 (by omega) x,e],by omega,x,by omega⟩;rw[if_neg x]at h;cases h
theorem vP{α:Type}{xs:List α}{i:Int}{v:α}(h:eE xs i=some v):∃j,seqIndex? i xs.length=some j/\xs[j]?=some v/\j<xs.length/\-(xs.length:Int)<=i/\i<xs.length:=by
 unfold eE at h;cases e:BQ xs.length i with|none=>rw[e]at h;cases h|some j=>rw[e]at h;obtain⟨u,z,y,x⟩:=iO e;exact⟨j,u,h,z,y,x⟩
theorem GG{α:Type}{xs:List α}{j:Nat}{v:α}(h:xs[j]?=some v):eE xs (j:Int)=some v:=by
 have x:j<xs.length:=(Qd.mp h).1;have e:BQ xs.length (j:Int)=some j:=by unfold BQ;rw[if_pos (by omega),if_pos (by omega)];simp
 unfold eE;rw[e];exact h
def nV(b:Expr):Prop:=∀o i,subscripted b false o i=operate [o,i] (getItem o i)
def A1(X:Cx)(r:R2):Prop :=
 ∀(k h:Expr) (z:TB) (s:Shared) (a:St) (H:Hp) (x y:V) (v u:Value) (Q:VK),Inv X z a H s->sA x v->sA y u->r x y H Q ->
  subscripted h false v u=operate [v,u] (getItem v u)->wpAny (model X.prog X.w) X.A (subscriptTail k h v u) (EP X z a Q) X.xe s
def de(X:Cx)(id:String)(r:V->List V->Hp->VK->Prop):Prop :=
 ∀(h:TB) (s:Shared) (y:St) (H:Hp) (x:V) (z:List V) (v:Value) (u:List Value) (Q:VK),Inv X h y H s->sA x v->bA z u->r x z H Q ->
  wpAny (model X.prog X.w) X.A (call (.builtin id) (v::u)) (EP X h y Q) X.xe s
section
variable{X:Cx}{a b:Expr}{ta m:TE}{pos:Pos}
section
variable{d:TB}{s:Shared}{x:V}{u v:Value}
theorem A1.or{r g:R2}(h:A1 X r)(h':A1 X g):A1 X (λx y H Q=>r x y H Q∨g x y H Q):=by intro z w d s k H x y v u Q I f e q i;rcases q with q|q;exact h z w d s k H x y v u Q I f e q i;exact h' z w d s k H x y v u Q I f e q i
theorem Lf{r:R2}(g:A1 X r)(i:PE X a ta)(hb:PE X b m)(f:nV b):PE X (.Subscript a b pos) (Me r ta m):=by intro d s z H Q I h;exact Subscript_ (binT i hb I h λv u w x y l j e k q=>g a b d w z l x y v u Q j e k q (f _ _))
def Xf(K:QC):R2:=λx y H Q=>∃p h i v,x=.ref p/\y=.int i/\XC K H p h/\eE h i=some v/\Q v H
def Kf(K:QC):R2:=λx y H Q=>∃p h i v,x=.ref p/\y=.int i/\mD K H p h/\eE h i=some v/\Q v H
def Vf:R2:=λx y H Q=>∃z i c,x=.str z/\y=.int i/\z.length<=sizeLine/\eE z.cps.toList i=some c/\Q (.str ⟨#[c]⟩) H
theorem U6:A1 X (Xf X.K):=by
 intro e f d s Y H x y v u Q I E C h Z;obtain⟨p,O,i,z,rfl,rfl,F,J,q⟩:=h;cases E;obtain⟨t,rfl⟩:=C;obtain⟨n,r,l,P⟩:=I.list F;obtain⟨j,k,N,S,M,L⟩:=vP J;obtain⟨w,A,g⟩:=r.get N;have G:=r.length;have R:=sH;have fin:EP X d Y Q w s:=⟨z,H,I,g,q⟩
 by_cases W:0<=i;have o:i.toNat=j:=by rw[QCM W L]at k;exact qE k
 exact item_listR l.isList W (by omega) (by rw[o];simpa using A) fin Z;have o:(i+(n.toArray.size:Int)).toNat=j:=by rw[QB3 (by omega) M]at k;rw[QT,<- G];exact qE k
 exact WD (x:=w) l.isList.typeIs QBq.lookup
  (wpAny_getItem_list_neg (Q:=λr B=>r=w/\EP X d Y Q r B) l.isList (by omega) (by rw[QT]<;>omega) (by omega) (by rw[o];simpa using A) ⟨rfl,fin⟩) Z
theorem Eb:A1 X (Kf X.K):=by
 intro k e d s g H x y v u Q I Y o h W;obtain⟨p,J,i,z,rfl,rfl,A,C,q⟩:=h;cases Y;obtain⟨t,rfl⟩:=o;obtain⟨Z,r,l,L⟩:=I.tuple A;obtain⟨j,F,E,P,O,N⟩:=vP C;obtain⟨w,G,f⟩:=r.get E;have B:=r.length;have M:=sH;have fin:EP X d g Q w s:=⟨z,H,I,f,q⟩
 exact WD (x:=w) l.typeIs slot_tuple_getitem.lookup
  (getItem_tuple (j:=j) (Q:=λr n=>r=w/\EP X d g Q r n) l (by omega) (by omega) (by rw[QT,<- B];exact F) (by simpa using G) ⟨rfl,fin⟩) W
theorem Ib:A1 X Vf:=by
 intro w k d s K H x y v u Q I g f h l;obtain⟨z,i,c,rfl,rfl,B,o,q⟩:=h;obtain⟨t,rfl⟩:=g;obtain⟨A,rfl⟩:=f;obtain⟨j,e,Y,E,r,p⟩:=vP o;have n:z.cps.toList.length=z.length:=by simp[Str.length]
 rw[n]at e r p;have C:=sH;exact tail_any (QCV s z t) slot_str_getitem.lookup (getItem_str (c:=c) (by have W:decide (i < -(2 ^ 63:Int))=false:=dF (by omega);have Z:decide (i ≥ 2 ^ 63)=false:=dF (by omega);rw[W,Z,Bool.or_false]) (by rw[e];simpa using Y) ⟨.str ⟨#[c]⟩,H,I.tok _,⟨_,rfl⟩,q⟩) l
def So(K:QC):R2:=λx y H Q=>Xf K x y H Q∨Kf K x y H Q∨Vf x y H Q
theorem jc:A1 X (So X.K):=U6.or (Eb.or Ib)
theorem YS(its:List Value)(n j:Nat)(u:Value):qN (·.setIfInBounds j u) { cls:=.type "list",data:=.seq its.toArray n }={ cls:=.type "list",data:=.seq (its.set j u).toArray n }:=by simp[qN]
theorem Inv.lst{d:TB}{σ:St}{H:Hp}{s:Shared}{p:Addr}{xs:List V}(I:Inv X d σ H s)(h:H p=some (.lst xs)) :
  ∃(its:List Value) (n:Nat),bA xs its/\s.heap.get? p=some { cls:=.type "list",data:=.seq its.toArray n }/\xs.length<=sizeLine:=by
 obtain⟨z,its,n,r,e⟩:=I.hok p _ h;exact⟨its,n,r,e,z⟩
theorem Inv.lstUpd{σ:St}{H:Hp}{p:Addr}{xs y:List V}{its its':List Value}{n z:Nat}{f:Obj->Obj}(I:Inv X d σ H s)(h:H p=some (.lst xs))
  (k:s.heap.get? p=some { cls:=.type "list",data:=.seq its.toArray n }) (w:f { cls:=.type "list",data:=.seq its.toArray n }={ cls:=.type "list",data:=.seq its'.toArray z }) (r:bA y its') (hz:y.length<=sizeLine) (t:Nat) :
  Inv X d σ (OA H p (.lst y)) { s with heap:=s.heap.update p f,toks:=t }:=by
 have e:(s.heap.update p f).get? p=some { cls:=.type "list",data:=.seq its'.toArray z }:=by rw[Q4 f k (by rw[w]<;>rfl),w]
 refine I.write (x:=p) (e:=p) (by rw[h];trivial) (.inl rfl) (λb u hb q=>(qA _ _ (Q6 hb)).trans q) ⟨_,e⟩ ?_;exact⟨hz,its',z,r,e⟩
def sf:V->V->V->Hp->(Hp->Prop)->Prop:=λo i v H Q=>∃p h k j,o=.ref p/\i=.int k/\H p=some (.lst h)/\BQ h.length k=some j/\Q (OA H p (.lst (h.set j v)))
theorem RX:B7 X sf:=by
 intro d s K H o i v J L u Q I C E B h;obtain⟨p,A,k,j,rfl,rfl,f,G,q⟩:=h;cases C;obtain⟨t,rfl⟩:=E;obtain⟨y,n,r,w,F⟩:=I.lst f;obtain⟨z,N,l,g⟩:=iO G;have e:=r.length;have M:=sH;have Z:Inv X d K (OA H p (.lst (A.set j v))) { s with heap:=s.heap.update p (qN (·.setIfInBounds j u)) } :=
  I.lstUpd f w (YS y n j u) (r.set B j) (by rw[wH];exact F) s.toks
 by_cases Y:0<=k;have hk:k.toNat=j:=by rw[QCM Y g]at z;exact qE z
 exact PySem.W.ki_setAt w Y (by omega) (by rw[QT,<- e];exact g) (by rw[hk];exact⟨_,Z,q⟩);have hk:(k+(y.toArray.size:Int)).toNat=j:=by rw[QB3 (by omega) l]at z;rw[QT,<- e];exact qE z
 exact PySem.W.ki_setBack w (by omega) (by rw[QT,<- e];exact l) (by omega) (by rw[hk];exact⟨_,Z,q⟩)
theorem RN(y z:Option Int)(n:Nat):(sliceBounds y z none n).1=((HT.sIx n 0 y:Nat):Int)/\(sliceBounds y z none n).2.1=((HT.sIx n n z:Nat):Int)/\(sliceBounds y z none n).2.2=1:=by
 refine⟨?_,?_,rfl⟩;cases y with|none=>simp[sliceBounds,HT.sIx]|some i=>simp only[sliceBounds,HT.sIx,QCC,show(1:Int) > 0 by decide,if_true];by_cases h:i<0;simp only[h,if_true]<;>omega;simp only[h,if_false]<;>omega
 cases z with|none=>simp[sliceBounds,HT.sIx]|some i=>simp only[sliceBounds,HT.sIx,QCC,show(1:Int) > 0 by decide,if_true];by_cases h:i<0;simp only[h,if_true]<;>omega;simp only[h,if_false]<;>omega
theorem uM(its:List Value)(h y:Option Int):slicePick its.toArray h y none=((its.drop (HT.sIx its.length 0 h)).take (HT.sIx its.length its.length y - HT.sIx its.length 0 h)).toArray:=by obtain⟨k,w,z⟩:=RN h y its.toArray.size;unfold slicePick;rw[k,w,z];simp only[sliceRange_one,pick_run,QT]<;>rfl
def rf(K:QC):V->Option Int->Option Int->Hp->VK->Prop:=λx y z H Q=>∃a h,x=.ref a/\XC K H a h/\∀p,H p=none->Q (.ref p) (OA H p (.lst (jR h y z)))
theorem T3:zj X (rf X.K):=by intro d s Y H x v W Z w k A Q I f p i g h;obtain⟨a,y,rfl,n,q⟩:=h;cases f;obtain⟨j,r,e,l⟩:=I.list n;have z:=r.length;refine⟨"list",_,QBq.lookup,e.isList.typeIs,?_⟩;refine wpAny_getItem_list_slice e.isList p i g .none (by simp) ?_ (by rw[QT]<;>omega);rw[uM,<- z];refine⟨.ref s.heap.objs.size,_,I.laid (t':=s.toks) (o:=.lst (jR y w k)) (λb B q=>QH _ q) (QV _) ?_,rfl,q _ (I.hok.fresh (QV _))⟩;exact⟨QY (BJ y w k) l,_,0,(r.drop (HT.sIx y.length 0 w)).take (HT.sIx y.length y.length k - HT.sIx y.length 0 w),QN _ rfl⟩
def zG:V->Bool
 | .non=>true|.bl _=>true|.int _=>true|.str _=>true|_=>false
def j7:V->V->Bool
 | .non,.non=>true|.bl a,.bl b=>a==b|.bl a,.int b=>(if a then 1 else 0)==b|.int a,.bl b=>a==(if b then 1 else 0)|.int a,.int b=>a==b|.str a,.str b=>a==b|_,_=>false
theorem rc{A:Around}{y:V}(w:sA y u)(h:sA x v)(e:zG y=true)(k:zG x=true):wA A s u v (j7 y x):=by
 cases y with
 |non =>
  cases w;cases x with|non=>cases h;exact wA.same _|bl b=>cases h;exact wA.none_bool b|int b=>obtain⟨t,rfl⟩:=h;exact wA.none_int b t|str b=>obtain⟨t,rfl⟩:=h;exact wA.none_str b t|_=>exact absurd (show false=true from k) QF
 |bl a =>
  cases w;cases x with|non=>cases h;exact wA.bool_none a|bl b=>cases h;exact wA.bool_bool a b|int b=>obtain⟨t,rfl⟩:=h;exact wA.bool_int a b t|str b=>obtain⟨t,rfl⟩:=h;exact wA.bool_str a b t|_=>exact absurd (show false=true from k) QF
 |int a =>
  obtain⟨z,rfl⟩:=w;cases x with|non=>cases h;exact wA.int_none a z|bl b=>cases h;exact wA.int_bool a z b|int b=>obtain⟨t,rfl⟩:=h;exact wA.int_int a z b t|str b=>obtain⟨t,rfl⟩:=h;exact QBa a z b t|_=>exact absurd (show false=true from k) QF
 |str a =>
  obtain⟨z,rfl⟩:=w;cases x with|non=>cases h;exact wA.str_none a z|bl b=>cases h;exact wA.str_bool a z b|int b=>obtain⟨t,rfl⟩:=h;exact QBb a z b t|str b=>obtain⟨t,rfl⟩:=h;exact wA.str_str a z b t|_=>exact absurd (show false=true from k) QF
 |_=>exact absurd (show false=true from e) QF
def SS(x:V)(u:Value):Bool:=match u with
 | .none=>j7 .non x|.bool b=>j7 (.bl b) x|.int i _=>j7 (.int i) x|.str z _=>j7 (.str z) x|_=>false
theorem SZ{y:V}(r:sA y u)(f:zG y=true):SS x u=j7 y x:=by
 cases y with|non=>cases r;rfl|bl b=>cases r;rfl|int i=>obtain⟨t,rfl⟩:=r;rfl|str z=>obtain⟨t,rfl⟩:=r;rfl|_=>exact absurd (show false=true from f) QF
theorem nI{x:V}:∀{xs:List V}{us:List Value},bA xs us->xs.all zG=true->us.any (SS x)=xs.any λy=>j7 y x
 |_,_,.nil,_=>rfl|y::xs,u::us,.cons r t,f=>by rw[qr,Qf]at f;rw[WN,WN,SZ r f.1,nI t f.2]
theorem EF{A:Around}{s:Shared}{x:V}{v:Value}(z:sA x v)(w:zG x=true):∀{xs:List V}{us:List Value},bA xs us->xs.all zG=true->∀u∈us,wA A s u v (SS x u)
 |_,_,.nil,_=>λu h=>by cases h|y::xs,u::us,.cons r t,f=>λk h=>by rw[qr,Qf]at f;rcases QJ.mp h with rfl|h;rw[SZ r f.1];exact rc r z f.1 w;exact EF z w t f.2 k h
def inV(x:V)(xs:List V):Bool:=xs.any λy=>j7 y x
def Aj(K:QC)(neg:Bool):R2:=λx y H Q=>∃p h,y=.ref p/\(XC K H p h∨mD K H p h)/\zG x=true/\h.all zG=true/\Q (.bl (if neg then !inV x h else inV x h)) H
theorem vW:KF X (compareOp .In) (Aj X.K false):=by intro d s n H x y v u Q I g j h;obtain⟨p,o,rfl,k,i,fs,q⟩:=h;cases j;rcases k with k|k;obtain⟨z,r,e,l⟩:=I.list k;refine SeqAt.in_listAt (SS x) e.isList (λw f=>EF g i r fs w (by simpa using f)) ⟨.bl _,H,I,rfl,?_⟩;rw[show z.toArray.any (SS x)=z.any (SS x) by simp,nI r fs];exact q;obtain⟨z,r,e,l⟩:=I.tuple k;refine SeqAt.in_tupleAt (SS x) e (λw f=>EF g i r fs w (by simpa using f)) ⟨.bl _,H,I,rfl,?_⟩;rw[show z.toArray.any (SS x)=z.any (SS x) by simp,nI r fs];exact q
theorem bO:KF X (compareOp .NotIn) (Aj X.K true):=by intro d s n H x y v u Q I g j h;obtain⟨p,o,rfl,k,i,fs,q⟩:=h;cases j;rcases k with k|k;obtain⟨z,r,e,l⟩:=I.list k;refine SeqAt.notIn_listAt (SS x) e.isList (λw f=>EF g i r fs w (by simpa using f)) ⟨.bl _,H,I,rfl,?_⟩;rw[show z.toArray.any (SS x)=z.any (SS x) by simp,nI r fs];exact q;obtain⟨z,r,e,l⟩:=I.tuple k;refine SeqAt.notIn_tupleAt (SS x) e (λw f=>EF g i r fs w (by simpa using f)) ⟨.bl _,H,I,rfl,?_⟩;rw[show z.toArray.any (SS x)=z.any (SS x) by simp,nI r fs];exact q
theorem EO:eF X (.builtin "len") (λxs H Q=>∃p z,xs=[.ref p]/\(XC X.K H p z∨mD X.K H p z)/\Q (.int z.length) H):=by intro d s j H xs l Q I r h;obtain⟨p,z,rfl,w,q⟩:=h;obtain⟨u,rfl,g⟩:=aJ r;cases g;have n:=sH;rcases w with w|w;obtain⟨f,k,e,i⟩:=I.list w;have y:=k.length;exact Calls.call_len_list e.isList (by simp only[QT]<;>omega) ⟨.int z.length,H,I.tok _,⟨s.toks+1,by rw[QT,y]⟩,q⟩;obtain⟨f,k,e,i⟩:=I.tuple w;have y:=k.length;exact len_tuple e (by simp only[QT]<;>omega) ⟨.int z.length,H,I.tok _,⟨s.toks+1,by rw[QT,y]⟩,q⟩
theorem AO:eF X (.builtin "len") (λxs H Q=>∃z,xs=[.str z]/\z.length<=sizeLine/\Q (.int z.length) H):=by intro d s y H xs w Q I r h;obtain⟨z,rfl,k,q⟩:=h;obtain⟨u,rfl,t,rfl⟩:=aJ r;have e:=sH;exact len_str (by omega) ⟨.int z.length,H,I.tok _,⟨_,rfl⟩,q⟩
theorem SO:eF X (.type "list") (λxs H Q=>∃p k,xs=[.ref p]/\(XC X.K H p k∨mD X.K H p k)/\∀l,H l=none->Q (.ref l) (OA H l (.lst k))):=by
 intro d s F H xs J Q I r h;obtain⟨p,k,rfl,Y,q⟩:=h;obtain⟨u,rfl,G⟩:=aJ r;cases G;have fin:∀(y:List Value),bA k y->k.length<=sizeLine->∀(z:Heap) (g:Nat),(∀b E,s.heap.get? b=some E->z.get? b=some E) ->
   z.get? s.heap.objs.size=some { cls:=.type "list",dict:=none,data:=.seq y.toArray g,slots:=#[] }->EP X d F Q (.ref s.heap.objs.size) { s with heap:=z }:=λy f j z g i e =>
  ⟨.ref s.heap.objs.size,_,I.laid (t':=s.toks) i (QV _) (show NA X.prog X.w _ z _ (.lst k) from⟨j,y,g,f,e⟩),rfl,q _ (I.hok.fresh (QV _))⟩
 rcases Y with Y|Y;obtain⟨y,f,W,j⟩:=I.list Y;have Z:=f.length;obtain⟨o,A,C,n,B⟩:=W.isList;exact call_list_seq p (.inl rfl) A C B (λz g i e=>fin y f j z g i e) (by simp only[QT]<;>omega);obtain⟨y,f,W,j⟩:=I.tuple Y;have Z:=f.length;obtain⟨o,A,C,n,B⟩:=W;exact call_list_seq p (.inr rfl) A C B (λz g i e=>fin y f j z g i e) (by simp only[QT]<;>omega)
def kX(K:QC)(T:String)(x:V)(H:Hp):Prop:=match x with
 | .str _=>T="str"|.int _=>T="int"|.ref p=>(T="list"/\∃y,XC K H p y)∨(T="tuple"/\∃o,K.lookup p=some o/\o.cls=.type "tuple"/\o.dict=none) ∨
   (T="dict"/\((∃h,H p=some (.dK h))∨∃z h,H p=some (.dT z h)))∨(T="set"/\∃S n,H p=some (.set S n))
 |_=>False
theorem nX{σ:St}{H:Hp}{T:String}(I:Inv X d σ H s)(r:sA x v)(ty:kX X.K T x H) :
  s.TypeIs v T/\∀a,v=.ref a->∃g,s.heap.get? a=some g/\g.dict=none:=by
 cases x with
 |str z=>obtain⟨t,rfl⟩:=r;cases(show T="str" from ty);exact⟨QCV s z t,λ_ e=>nomatch e⟩
 |int i=>obtain⟨t,rfl⟩:=r;cases(show T="int" from ty);exact⟨QCW s i t,λ_ e=>nomatch e⟩
 |ref p =>
  cases r;rcases ty with⟨rfl,Y,l⟩| ⟨rfl,o,hk,q,w⟩| ⟨rfl,hk⟩| ⟨rfl,S,n,hk⟩
  obtain⟨j,_,f,_⟩:=I.list l;refine⟨f.isList.typeIs,λa e=>?_⟩;cases e;obtain⟨o,n,e,c,w,_⟩:=f;exact⟨o,e,w⟩;refine⟨⟨o,I.kIn p o hk,q⟩,λa e=>?_⟩;cases e;exact⟨o,I.kIn _ o hk,w⟩;have z:∃o,s.heap.get? p=some o/\o.ExactDict:=by
   rcases hk with⟨y,hk⟩| ⟨Z,y,hk⟩
   obtain⟨_,_,_,_,o,_,_,e,h,_⟩:=I.hok p _ hk;exact⟨o,e,h⟩;obtain⟨_,_,_,_,o,_,e,h,_⟩:=I.hok p _ hk;exact⟨o,e,h⟩
  obtain⟨o,e,h⟩:=z;refine⟨⟨o,e,h.1⟩,λa k=>?_⟩;cases k;exact⟨o,e,h.2.1⟩;obtain⟨o,_,_,_,e,h,_⟩:=I.hok p _ hk;refine⟨⟨o,e,h.1⟩,λa k=>?_⟩;cases k;exact⟨o,e,h.2.1⟩
 |_=>exact Qc ty
def Cj(K:QC)(T:String)(r:V->List V->Hp->VK->Prop)(g:TE):TE:=λy H Q=>g y H λx h=>kX K T x h/\r x [] h Q
def Lo(K:QC)(T:String)(r:V->List V->Hp->VK->Prop)(g:TE)(t:TA):TE:=λh H Q=>g h H λx y=>kX K T x y/\t h y λz w=>r x z w Q
end
variable{o e:Expr}{es:List Expr}{g:TE}{t:TA}{name:Str}{apos cpos:Pos}{T id:String}{r:V->List V->Hp->VK->Prop}
theorem Fa(p:PlainAttrs T)(w:Slot T name id)(k:typeOf (.builtin id)=pure (.type "method_descriptor"))(Y:de X id r)(q:PE X o g)
  (u:attributeBase o name X.env (eval o X.env)=eval o X.env:=by rfl) (z:(apos.endLine==cpos.line)=true:=by rfl):PE X (.Call (.Attribute o name apos) [] [] cpos) (Cj X.K T r g):=by
 intro y s f H Q I h;refine QAs u z (OB (q y s f H _ I h) λv l ⟨x,A,j,i,ty,n⟩=>?_);obtain⟨W,Z⟩:=nX j i ty;exact⟨T,id,p,w,k,W,Z,Wq rfl (QBS (Y y l f A x [] v [] Q j i .nil n))⟩
theorem Mf(E:PlainAttrs T)(k:Slot T name id)(j:typeOf (.builtin id)=pure (.type "method_descriptor"))(J:de X id r)(G:PE X o g)(L:PA X (e::es) t)
  (w:attributeBase o name X.env (eval o X.env)=eval o X.env:=by rfl)
  (f:((backTo cpos (starEach (e::es) X.env)).all (λx=>!x.1)&&(backToKw cpos (keywordEach [] X.env)).all (λx=>x.1.isSome)
   && decide ((e::es).length+([]:List Keyword).length+(if([]:List Keyword).isEmpty then 0 else 1)<30))=true:=by rfl)
  (u:(apos.endLine==cpos.line)=true:=by rfl) (F:starEach (e::es) X.env=(false,eval e X.env)::starEach es X.env:=by rfl) (z:(backTo cpos (starEach es X.env)).any (·.1)=false:=by rfl) :
  PE X (.Call (.Attribute o name apos) (e::es) [] cpos) (Lo X.K T r g t):=by
 intro y s i H Q I h;refine wpAny_Call_method_late w f u rfl (OB (G y s i H _ I h) λv W ⟨x,R,p,l,ty,C⟩=>?_);obtain⟨N,M⟩:=nX p l ty;refine⟨T,id,E,k,j,N,M,?_⟩;have n:=L cpos y W i R _ p C;rw[F]at n ⊢;refine Wq (by show(false||(backTo cpos (starEach es X.env)).any (·.1))=false;rw[z]<;>rfl) (Calls.evalArgs_plain ?_);exact OB n λY Z ⟨q,P,O,A,B⟩=>J y Z i P x q v Y Q O l A B
end
def Kn(X:Cx)(id:String)(r:V->List V->Hp->VK->Prop):Prop :=
 ∀(h:TB) (s:Shared) (y:St) (H:Hp) (x:V) (z:List V) (v:Value) (u:List Value) (Q:VK),Inv X h y H s->sA x v->bA z u->r x z H Q ->
  wpAny (model X.prog X.w) X.A (call (.builtin id) (v::u)) (EP X h y Q) X.xe s
theorem bA.one:∀{x:V}{us:List Value},bA [x] us->∃u,us=[u]/\sA x u
 |_,_,.cons r .nil=>⟨_,rfl,r⟩
theorem bA.zero:∀{us:List Value},bA [] us->us=[]
 |_,.nil=>rfl
theorem bA.eraseIdx:∀{xs:List V}{us:List Value}(i:Nat),bA xs us->bA (xs.eraseIdx i) (us.eraseIdx i)
 |_,_,_,.nil=>.nil|_,_,0,.cons _ t=>t|_,_,i+1,.cons r t=>.cons r (bA.eraseIdx i t)
theorem bA.reverse{xs:List V}{us:List Value}(h:bA xs us):bA xs.reverse us.reverse:=by
 induction h with|nil=>exact .nil|cons r t x=>rw[Wu,Wu];exact bA.append x (.cons r .nil)
theorem bA.rep{xs:List V}{us:List Value}(h:bA xs us):∀k:Nat,bA (Qz k xs).flatten (Qz k us).flatten
 |0=>.nil|k+1=>by rw[wB,wB,wC,wC];exact bA.append h (bA.rep h k)
theorem gc{α:Type}(l:List α):l.eraseIdx (l.length - 1)=l.dropLast:=by
 induction l with
 |nil=>rfl|cons a r h =>
  cases r with
  |nil=>rfl|cons b r =>
   have e:(a::b::r).length - 1=((b::r).length - 1)+1:=by have y:(a::b::r).length=r.length+2:=rfl;have x:(b::r).length=r.length+1:=rfl;omega
   rw[e,List.eraseIdx_cons_succ,h]
   all_goals rfl
theorem TM{α:Type}:∀(l:List α) (i:Nat),(l.eraseIdx i).length<=l.length
 |[],_=>QV _|_::_,0=>wD _|_::r,i+1=>Nat.succ_le_succ (TM r i)
theorem zN(its:List Value):∀(k:Nat) (h:List Value),
  QCX (λy x=>y++x) h.toArray (Qz k its.toArray)=(h++(Qz k its).flatten).toArray
 |0,h=>by simp|k+1,h=>by
  have e:h.toArray++its.toArray=(h++its).toArray:=by simp
  have z:(h++its)++(Qz k its).flatten=h++(Qz (k+1) its).flatten:=by rw[wB,wC,qR]
  rw[<- z,<- zN its k (h++its),<- e,wB,WH]
section
variable{X:Cx}{y:TB}{σ:St}{H:Hp}{s:Shared}{l b:Addr}{xs v w:List V}
theorem Inv.lset{its its':List Value}{n:Nat}{f:Array Value->Array Value}{t':Nat}(I:Inv X y σ H s)(a:H l=some (.lst xs))
  (e:s.heap.get? l=some { cls:=.type "list",data:=.seq its.toArray n }) (k:f its.toArray=its'.toArray) (h:bA v its') (hz:v.length<=sizeLine) :
  Inv X y σ (OA H l (.lst v)) { s with heap:=s.heap.update l (qN f),toks:=t' }:=by
 have q:=PySem.IsL.update e f;rw[k]at q;refine I.write (x:=l) (e:=l) (by rw[a];exact trivial) (.inl rfl) (λg u hb z=>(qA s.heap (qN f) (Q6 hb)).trans z) ⟨_,q⟩ ?_;exact⟨hz,its',_,h,q⟩
theorem Inv.lnew{its:List Value}{t':Nat}(I:Inv X y σ H s)(h:bA v its)(hz:v.length<=sizeLine) :
  Inv X y σ (OA H s.heap.objs.size (.lst v)) { s with heap:=s.heap.push { cls:=.type "list",data:=.seq its.toArray },toks:=t' } :=
 I.laid (λ_ _ q=>QH _ q) (QV _) ⟨hz,its,0,h,QN _ rfl⟩
theorem Inv.fresh(I:Inv X y σ H s):H s.heap.objs.size=none:=I.hok.fresh (QV _)
theorem Inv.lstM(I:Inv X y σ H s)(h:H l=some (.lst xs)):xs.length<=sizeLine/\∃(its:List Value) (n:Nat),bA xs its/\xs.length=its.length/\s.heap.get? l=some { cls:=.type "list",data:=.seq its.toArray n }:=by obtain⟨z,its,n,r,e⟩:=I.hok l _ h;exact⟨z,its,n,r,r.length,e⟩
theorem EY{n:Nat}(h:n<=sizeLine):Wg n=false:=by unfold Wg;exact dF (by omega)
end
section
variable{X:Cx}
def vU:V->List V->Hp->VK->Prop:=λx z H Q=>∃l h y,x=.ref l/\z=[y]/\H l=some (.lst h)/\h.length<sizeLine/\Q .non (OA H l (.lst (h++[y])))
theorem pW:Kn X "list.append" vU:=by intro k s i H x m v o Q I b f h;obtain⟨l,j,y,rfl,rfl,a,p,q⟩:=h;cases b;obtain⟨u,rfl,g⟩:=f.one;obtain⟨z,w,n,r,Y,e⟩:=I.lstM a;refine QAM F.slot_list_append ⟨_,e,rfl⟩ F.entry_list_append (F.args_list_append_2 _ _) (PySem.list_append l w.toArray n u (by rw[QT];omega)) ⟨e,?_⟩;refine⟨.non,_,I.lset (its':=w++[u]) a e (by simp) (r.append (.cons g .nil)) ?_,rfl,q⟩;rw[QL,Qm];omega
def A9:V->List V->Hp->VK->Prop:=λx z H Q=>∃l h i k y,x=.ref l/\z=[.int i]/\H l=some (.lst h)/\-(2 ^ 63)<=i/\i<2 ^ 63/\seqIndex? i h.length=some k/\h[k]?=some y/\Q y (OA H l (.lst (h.eraseIdx k)))
theorem dZ:Kn X "list.pop" A9:=by
 intro f s B H x C v E Q I m o h;obtain⟨l,j,i,k,y,rfl,rfl,g,A,K,hk,Y,q⟩:=h;cases m;obtain⟨u,rfl,p⟩:=o.one;obtain⟨t,rfl⟩:=p;obtain⟨z,a,n,r,W,e⟩:=I.lstM g;obtain⟨w,Z,b⟩:=r.get Y;refine QAM F.slot_list_pop ⟨_,e,rfl⟩ F.entry_list_pop (F.args_list_pop_2 _ _)
  (MeetsSeq.list_pop_at l a.toArray n i t k w (fitsIndex_both A K) (by rw[QT,<- W];exact hk) (by rw[<- wI];exact Z) (by rw[QT];omega)) ⟨e,?_⟩
 refine⟨y,_,I.lset (its':=a.eraseIdx k) g e ?_ (r.eraseIdx k) ?_,b,q⟩;show a.toArray.eraseIdxIfInBounds k=(a.eraseIdx k).toArray;rw[List.eraseIdxIfInBounds_toArray];have:=TM j k;omega
def IP:V->List V->Hp->VK->Prop:=λx y H Q=>∃l h,x=.ref l/\y=[]/\H l=some (.lst h)/\Q .non (OA H l (.lst h.reverse))
theorem iS:Kn X "list.reverse" IP:=by intro w s f H x i v j Q I a b h;obtain⟨l,g,rfl,rfl,k,q⟩:=h;cases a;have u:=b.zero;subst u;obtain⟨z,y,n,r,m,e⟩:=I.lstM k;refine QAM F.slot_list_reverse ⟨_,e,rfl⟩ F.entry_list_reverse (F.args_list_reverse_1 _) (AutoSeq1.list_reverse_list_0 l y.toArray n (by rw[QT];omega)) ⟨e,?_⟩;refine⟨.non,_,I.lset (its':=y.reverse) k e (by simp) r.reverse ?_,rfl,q⟩;rw[List.length_reverse];omega
def tf:R2:=λx y H Q=>∃l k h,x=.ref l/\y=.int k/\H l=some (.lst h)/\-(2 ^ 63)<=k/\k<2 ^ 63/\h.length * k.toNat<=sizeLine /\
 ∀p,H p=none->Q (.ref p) (OA H p (.lst (Qz k.toNat h).flatten))
theorem i6{α:Type}(xs:List α)(k:Nat):(Qz k xs).flatten.length=k * xs.length:=by
 induction k with|zero=>simp|succ k h=>rw[wB,wC,QL,h,Nat.succ_mul,Nat.add_comm]
theorem La:KF X (binaryOp .Mult) tf:=by
 intro Y s L H x y v u Q I A K h;obtain⟨l,k,M,rfl,rfl,C,G,E,Z,q⟩:=h;cases A;obtain⟨t,rfl⟩:=K;obtain⟨z,w,n,r,B,e⟩:=I.lstM C;have g:w.toArray.size * k.toNat<=sizeLine:=by rw[QT,<- B];exact Z
 have j:¬ w.toArray.size * k.toNat > (2 ^ 63 - 1) / 8:=by
  have:(sizeLine:Nat)<=(2 ^ 63 - 1) / 8:=by decide
  omega
 have i:¬ (!Builtin.List.listFitsIndex k)=true:=by rw[fitsIndex_both G E];exact QF
 have b:¬ Wg (w.toArray.size * k.toNat)=true:=by rw[EY g];exact QF
 have f:QCX (λp o=>p++o) #[] (Qz (if w.toArray.isEmpty=true then 0 else k.toNat) w.toArray)=(Qz k.toNat w).flatten.toArray:=by
  have J:∀m:Nat,QCX (λp o=>p++o) #[] (Qz m w.toArray)=(Qz m w).flatten.toArray:=λm=>by have:=zN w m [];rw[Qo]at this;exact this
  rw[J];cases w with|nil=>simp|cons a N=>rw[if_neg (by simp)]
 refine wpAny_binaryOp_repeat_ref (T:="list") (U:="int") (by decide) ⟨_,e,rfl⟩ (λW=>QCW W k t) noFill_list_mul F.fills_int_mul QCN repeat_list F.slot_int_index.lookup
  (QAM QCN (QCW s k t) F.entry_int_rmul (F.args_int_rmul_2 _ _) (int___rmul___int_list k t l w.toArray n)
   ⟨e,rfl,⟨_,e,rfl⟩,QAM F.slot_list_mul ⟨_,e,rfl⟩ F.entry_list_mul (F.args_list_mul_2 _ _) (AutoListH.list___mul___list_int_3 l w.toArray n k t i j b) ⟨e,?_⟩⟩)
 rw[f];exact⟨.ref _,_,I.lnew (t':=s.toks) (r.rep k.toNat) (by rw[i6,Nat.mul_comm];exact Z),rfl,q _ I.fresh⟩
end
end L2
namespace Att
open PySem PySem.W PySem.Calls PyProof.Rows
theorem NJ{P:Params}{h:Heap}:∀(ns:List Int) (vs:List Value),WellAll P h vs (ns.map WData.int)->IntsAre vs ns:=by
 intro ns;induction ns with
 |nil=>intro vs w;rw[qj]at w;cases w;exact .nil|cons n ns x =>
  intro vs w;rw[QO]at w;cases w with|cons a b=>cases a;exact .cons _ _ (x _ b)
theorem script_of{l:OpenLaw}{n:Nat}(m:l.most=some n){P:Params}{h:Heap}{args:List WData}{x:List Value}
  (y:l.row.toRowW.claim.pre args=true) (k:WellAll P h x args) :
  ∃a vs ns,x=[Value.ref a]/\args=[WData.list (ns.map WData.int)]/\h.get? a=some { cls:=.type "list",data:=.seq vs.toArray }/\IntsAre vs ns/\ns.length<=n:=by
 have b:WShape.hasAll [] args [.list .int]=true:=(pre_splitW y).1;have e:l.pre.holds [] { args:=args }=true:=(pre_splitW y).2;obtain⟨d,r,rfl,s,p⟩:=hasAllW_cons b;obtain rfl:=hasAllW_nil p;obtain⟨X,rfl,o⟩:=hasW_list s;obtain⟨ns,rfl⟩:=items_int o;have z:ns.length<=n:=by
  unfold OpenLaw.pre at e;have w:(WTm.not (.lt (.lit (.int (n:Int))) (.len (.arg 0)))).holds [] { args:=[.list (ns.map .int)] }=true:=by have w:=(holds_andW e).1;rw[m]at w;exact w
  have v:=condW_of w (w_not (w_lt w_lit (w_len_list (w_arg rfl))));rw[QG]at v;refine Nat.le_of_not_lt λq=>?_;have i:(n:Int)<((ns.length:Nat):Int):=by omega
  first
   | (rw[dT i]at v;exact absurd v (by decide))
   | (simp at v;omega)
 cases k with
 |cons g f =>
  cases f;cases g with|list j u=>exact⟨_,_,ns,rfl,rfl,j,NJ ns _ u,z⟩
theorem post_true(l:OpenLaw)(args:List WData):l.row.toRowW.claim.post args (.bool true) args=true :=
 postW_of (r:=l.row.toRowW) (X:=(true==true))
  (show WShape.has [] (.bool true) .bool=true by first|rfl|decide|simp[WShape.has,WShape.arms,WShape.armsAll])
  (show(WTm.eq .res (.lit (.bool true))).value [] { args:=args,res:=some (.bool true),after:=args }=some (.bool (true==true)) from w_eq_bool (w_res rfl) w_lit) rfl
end Att
namespace L2
open PySem PySem.Spec PyProof.Rows
theorem JM:∀{vs:List Value}{ns:List Int},IntsAre vs ns->bA (ns.map V.int) vs
 |_,_,.nil=>.nil|_,_,.cons n t h=>.cons ⟨t,rfl⟩ (JM h)
def yi(H:Hp):Prop:=∀b,H b=none∨∃o h,H b=some (.frz o (.lst h))
theorem nZ{P:Program}{w:World}{K:QC}{X L:Str->Option Value}{CX:C2}{k:Nat}{Q a:Addr}{fd:FuncData}{x:Str}{S:Sp}{y:Shared}{vs:List Value}{ns:List Int}
  (KX:K.In y.heap) (A:y.heap.Ns mainGlobals X) (hb:y.heap.Ns builtinsNs L) (N:∀x:Str,x≠"__name__"->L x=bootBuiltins x) (B:y.heap.NoLimit) (hg:y.gens=#[])
  (I:y.heap.get? a=some { cls:=.type "list",data:=.seq vs.toArray }) (hi:IntsAre vs ns) (hl:ns.length<=sizeLine) (hr:Room k callerA)
  (F:∀g:Heap,K.In g->g.Ns mainGlobals X->FnOk P w K X g CX k Q fd [x] S) (l:∀(s:Shared) (u:Value),BindsTo s fd ⟨[u],[]⟩ [(x,u)])
  (M:∀H:Hp,yi H->XC K H a (ns.map V.int)->S [.ref a] H (λv _=>v=.bl true) λ_ _ _=>False)
  (O:∀H e s',CX [] H y (λ_ _ _=>False) e s'->False) :
  codeAny (model P w) callerA (.call (.ref Q) ⟨[.ref a],[]⟩) (λr s'=>r=.ok (.ret (.bool true))/\OldK y.heap s'.heap/\s'.os=y.os/\AllBare s'.gens) y:=by
 have rv:=JM hi;have Y:=hi.length;have j:∀H:Hp,yi H->XC K H a (ns.map V.int)->uK P w H y.heap->(∀b,H b≠none->b=a)->(H a≠none->K.lookup a=none) ->
   codeAny (model P w) callerA (.call (.ref Q) ⟨[.ref a],[]⟩) (λr s'=>r=.ok (.ret (.bool true))/\OldK y.heap s'.heap/\s'.os=y.os/\AllBare s'.gens) y:=by
  intro H hO hS W hA hK;have f:∀{b:Addr}{o:Obj},y.heap.get? b=some o->H b=none->(VO y.heap H).get? b=some o:=λe n=>CZ e n;have J:∀{b:Addr}{o:Obj}{E:Array DictEntry}{G:Nat},y.heap.get? b=some o->o.data=.dict E G->H b=none:=λ{b o E G} e d=>by
   cases q:H b with|none=>rfl|some u=>have R:b=a:=hA b (by rw[q];simp);subst R;rw[I]at e;cases e;have d':Data.seq vs.toArray _=Data.dict E G:=d;cases d'
  have i:∀{b:Addr}{m:Str->Option Value},y.heap.Ns b m->(VO y.heap H).Ns b m:=λ{b m} ⟨o,E,G,e,d,r⟩=>⟨o,E,G,f e (J e d),d,r⟩
  have C:K.In (VO y.heap H):=λb o e=>f (KX b o e) (by
   cases q:H b with|none=>rfl|some u=>have R:b=a:=hA b (by rw[q];simp);subst R;rw[hK (by rw[q];simp)]at e;cases e)
  have hM:Mod K X (VO y.heap H):=⟨C,i A,⟨L,i hb,N⟩,let⟨mc,h1,h2⟩:=B;⟨mc,i h1,h2⟩⟩
  have e0:Env0 P w K X (VO y.heap H) callerA [] y H:=⟨rfl,hM,λb o e=>P5 e,Wx (XW _ _),trivial,λb hb=>absurd (show b∈([]:List Addr) from hb) (by simp),W,.of_eq hg⟩
  refine QAZ ((F _ C (i A)).run callerA [] y H ⟨[.ref a],[]⟩ [.ref a] [.ref a] _ _ hr e0 (l y (.ref a)) (.cons rfl .nil) (M H hO hS)) λr s' h=>?_;cases r with
  |error e=>exact(O H e s' h).elim|ok fl =>
   cases fl with
   |next=>exact Qc h|brk=>exact Qc h|cont=>exact Qc h|ret u =>
    obtain⟨v,H',os,bare,un,Z,r',q⟩:=h;have q':v=.bl true:=q;subst q';obtain rfl:u=Value.bool true:=r';refine⟨rfl,OldK.of_keep λb o e=>?_,os,bare⟩;cases q:H b with
    |none=>exact un.keep b o e q (by intro z;exact absurd (show b∈([]:List Addr) from z) (by simp)) (by simp)|some u =>
     rcases hO b with z|⟨ob,xs,z⟩
     rw[q]at z;cases z;have z2:=un.frzs b ob _ z;obtain⟨e1,_⟩:=W b _ z;obtain⟨e2,_⟩:=Z b _ z2;rw[e]at e1;cases e1;exact e2
 cases hk:K.lookup a with
 |some o=>have e:=KX a o hk;rw[I]at e;cases e;refine j (λ_=>none) (λ_=>.inl rfl) (.inr ⟨_,vs.toArray,_,hk,rfl,rfl,rfl,by rw[QT,Y];exact hl,by simpa using rv⟩) (λb u z=>by have p:(none:Option HO)=some u:=z;cases p) (λb z=>absurd rfl z) λz=>absurd rfl z|none =>
  refine j (λb=>if b=a then some (.frz { cls:=.type "list",data:=.seq vs.toArray } (.lst (ns.map V.int))) else none) (λb=>?_) (.inl (.inr ⟨{ cls:=.type "list",data:=.seq vs.toArray },if_pos rfl⟩)) (λb u z=>?_) (λb z=>?_) λ_=>hk;by_cases hb:b=a
  ·exact .inr ⟨_,_,if_pos hb⟩
  exact .inl (if_neg hb);by_cases hb:b=a
  ·have p:=(if_pos hb).symm.trans z
   cases p;subst hb;exact⟨I,by rw[QG];exact hl,vs,_,rv,I⟩
  have p:=(if_neg hb).symm.trans z;cases p;by_cases hb:b=a
  ·exact hb
  exact absurd (if_neg hb) z
def kE(s:Stmt):Arguments:=match s with
 | .FunctionDef _ a _ _ _ _ _ _ _ _=>a|_=>{ posonlyargs:=[],args:=[],vararg:=none,kwonlyargs:=[],kw_defaults:=[],kwarg:=none,defaults:=[] }
def RC(s:Stmt):List Stmt:=match s with
 | .FunctionDef _ _ b _ _ _ _ _ _ _=>b|_=>[]
def cB(s:Stmt):Scope:=match s with
 | .FunctionDef _ _ _ _ _ _ sc _ _ _=>sc|_=>{ kind:=.function,names:=[],isGenerator:=false,isCoroutine:=false }
noncomputable abbrev D2:C2:=λ_ _ _ _ _ _=>False
noncomputable abbrev E0:XK:=λ_ _ _=>False
theorem Nf{X:Cx}:jM D2 X E0:=λ_ _ _ _ _ _ _ h=>h.elim
structure Fun(K:QC)(x qual:Str)(st:Stmt)(f:Addr)(fd:FuncData):Prop where
 ex:∃(oc:Value) (od:Option Addr) (kV doc pm:Value) (an:Option Addr) (cdv ct:Value) (osl:Array (Option Value)),
  fd=wX x qual (kE st) (RC st) (cB st) .none kV doc pm an cdv ct/\K.lookup f=some ⟨oc,od,.func fd,osl⟩/\QAc K cdv qual=true
 kp:WB K (.ref f)=true
section
variable{P:Program}{w:World}{K:QC}{mg:Str->Option Value}{base:Heap}
section
variable{x y:Str}{st:Stmt}{f:Addr}{u:FuncData}{z:List Str}
theorem Fun.ok{N:List Str}{k:Nat}{b:Sp}(F:Fun K x y st f u)(S:FnScope N z (cB st))(len:∀vs H Q E,b vs H Q E->vs.length=z.length)
  (a:∀(v:Value) (A:Around) (outer:List Env) (s:Shared) (H:Hp) (vs:List V) (Q:VK) (E:XK),Room k (A.deeper (envOfC y (cB st) s.heap.objs.size f v))->b vs H Q E ->
   ∃t,tT (ES D2 P w K mg base N y (cB st) f v A outer s H E).nox (RC st) t/\t { nx:=λ_ m=>Q .non m,rt:=Q } (jE N vs) H):FnOk P w K mg base D2 (k+1) f u z b:=by
 obtain⟨p,o,kV,l,n,X,v,r,i,rfl,lk,g⟩:=F.ex;refine Xg lk g S len λA outer s H vs Q E j e=>?_;obtain⟨t,h,q⟩:=a v A outer s H vs Q E j e;exact⟨t,h.nox,q⟩
theorem Fun.binds(F:Fun K x y st f u)
  (h:∀(kV v a:Value) (b:Option Addr) (k ct:Value) (us:List Value),us.length=z.length->bindArgs (wX x y (kE st) (RC st) (cB st) .none kV v a b k ct) ⟨us,[]⟩=pure (z.zip us)):ZI K u z []:=by
 obtain⟨j,i,kV,v,a,b,k,ct,e,rfl,lk,g⟩:=F.ex;exact .all (h kV v a b k ct)
theorem fc{i:Value}{g e:Option Addr}{a:Array (Option Value)}{kV v b h ct:Value}(l:K.lookup f=some ⟨i,g,.func (wX x y (kE st) (RC st) (cB st) .none kV v b e h ct),a⟩)
  (c:QAc K h y=true) (k:WB K (.ref f)=true):Fun K x y st f (wX x y (kE st) (RC st) (cB st) .none kV v b e h ct):=⟨⟨i,g,kV,v,b,e,h,ct,a,rfl,l,c⟩,k⟩
end
end
def Same(H h:Hp):Prop:=∀b o,H b=some o->h b=some o
theorem Same.refl(H:Hp):Same H H:=λ_ _ h=>h
theorem Same.trans{H y x:Hp}(a:Same H y)(b:Same y x):Same H x:=λc o h=>b c o (a c o h)
theorem Same.free{H x:Hp}(e:Same H x){l:Addr}(h:x l=Option.none):H l=Option.none:=by
 cases q:H l with|none=>rfl|some o=>rw[e l o q]at h;cases h
theorem Same.seq{K:QC}{H x:Hp}{a:Addr}{xs:List V}(e:Same H x)(h:XC K H a xs):XC K x a xs:=by rcases h with(h|⟨o,h⟩)|h;exact .inl (.inl (e _ _ h));exact .inl (.inr ⟨o,e _ _ h⟩);exact .inr h
def rM(env:Env):List (Str×NameKind)->List (Str×Addr)->List (Str×Addr)
 |[],cs=>cs|(n,k)::r,cs=>rM env r (if k==.free then(n,(env.cells.lookup n).getD 0)::cs else cs)
theorem zT{u:Scope}{env:Env}(h:∀y∈u.names,y.2=.free->∃c,env.cells.lookup y.1=some c):closureFor u env=pure (rM env u.names []):=by
 have w:∀(l:List (Str×NameKind)) (v:List (Str×Addr)),(∀y∈l,y.2=.free->∃c,env.cells.lookup y.1=some c) ->
   (forIn l v λ(x:Str×NameKind) (r:List (Str×Addr))=>(if(x.2==NameKind.free)=true then(do let c <- cellOf env x.1;pure (ForInStep.yield ((x.1,c)::r))) else pure (ForInStep.yield r):Sem (ForInStep (List (Str×Addr)))))=pure (rM env l v):=by
  intro l;induction l with
  |nil=>intro v _;rfl|cons y l g =>
   intro v b;obtain⟨n,k⟩:=y;rw[QA7];by_cases hk:k=.free;subst hk;obtain⟨c,f⟩:=b (n,.free) QD rfl;have f:env.cells.lookup n=some c:=f;simp only[beq_self_eq_true,if_true,cellOf,f,pure_bind,rM,QCD];exact g _ λz a=>b z (QE _ a);have hb:(k==NameKind.free)=false:=by simpa using hk
   simp only[hb,qa,if_false,pure_bind,rM];exact g _ λz a=>b z (QE _ a)
 have e:=w u.names [] h;unfold closureFor;exact(congrArg (· >>= pure) e).trans (pure_bind _ _)
theorem fN{env:Env}{x:Str}{c:Addr}:∀(l:List (Str×NameKind)) (cs:List (Str×Addr)),(∀y∈l,y.2=.free->∃c,env.cells.lookup y.1=some c)->(∀c,cs.lookup x=some c->env.cells.lookup x=some c) ->
  (rM env l cs).lookup x=some c->env.cells.lookup x=some c
 |[],cs,_,hc,h=>hc c h|(n,k)::r,cs,hl,hc,h=>by
  refine fN r _ (λz a=>hl z (QE _ a)) (λd u=>?_) h;by_cases hk:k=.free;subst hk;obtain⟨e,v⟩:=hl (n,.free) QD rfl;have v:env.cells.lookup n=some e:=v;simp only[beq_self_eq_true,if_true,v,QCD,WZ]at u;cases w:x==n with|true=>rw[w]at u;cases u;rw[qi w];exact v|false=>rw[w]at u;exact hc d u
  have hb:(k==NameKind.free)=false:=by simpa using hk
  simp only[hb,qa,if_false]at u;exact hc d u
theorem GL{env:Env}{x:Str}:∀(l:List (Str×NameKind)) (cs:List (Str×Addr)),((∃c,cs.lookup x=some c)∨(x,NameKind.free)∈l)->∃c,(rM env l cs).lookup x=some c
 |[],cs,h=>by rcases h with h|h;exact h;cases h
 | (n,k)::r,cs,h=>by
  refine GL r _ ?_;rcases h with⟨c,h⟩| h;refine .inl ?_;split;rw[WZ];split;exact⟨_,rfl⟩;exact⟨c,h⟩;exact⟨c,h⟩;rcases QJ.mp h with h|h
  ·cases h
   refine .inl ?_;simp
  exact .inr h
def DB:List Bool->Nat->List Str->List Str
 |b::m,j,x::N=>(if b then⟨#[46,j]⟩ else x)::DB m (j+1) N|_,_,N=>N
def zD:List Bool->St->St
 |b::m,v::σ=>(if b then none else v)::zD m σ|_,σ=>σ
theorem NI:∀(m:List Bool) (σ:St),(zD m σ).length=σ.length
 |[],σ=>by unfold zD;rfl|_::_,[]=>by unfold zD;rfl|b::m,v::σ=>by unfold zD;rw[QM,QM,NI m σ]
theorem yN:∀(m:List Bool) (j:Nat) (N:List Str),(DB m j N).length=N.length
 |[],_,N=>by unfold DB;rfl|_::_,_,[]=>by unfold DB;rfl|b::m,j,x::N=>by unfold DB;rw[QM,QM,yN m (j+1) N]
theorem cL:∀(m:List Bool) (j:Nat) (N:List Str) (σ:St) (i:Nat) (v:V),(zD m σ)[i]?=some (some v)->σ[i]?=some (some v)/\(DB m j N)[i]?=N[i]?
 |[],_,N,σ,i,v,h=>by unfold zD at h;unfold DB;exact⟨h,rfl⟩|_::_,_,N,[],i,v,h=>by unfold zD at h;simp at h|b::m,j,[],w::σ,i,v,h=>by
  unfold zD at h;cases i with
  |zero =>
   cases b with|true=>simp at h|false=>simp at h;subst h;exact⟨by simp,by unfold DB;rfl⟩
  |succ i=>have q:=(cL m (j+1) [] σ i v (by simpa using h)).1;exact⟨by simpa using q,by unfold DB;rfl⟩
 |b::m,j,x::N,w::σ,0,v,h=>by
  unfold zD at h;cases b with|true=>simp at h|false=>simp at h;subst h;exact⟨by simp,by unfold DB;simp⟩
 |b::m,j,x::N,w::σ,i+1,v,h=>by unfold zD at h;have q:=cL m (j+1) N σ i v (by simpa using h);unfold DB;exact⟨by simpa using q.1,by simpa using q.2⟩
def CK(h sc:Scope):Scope :=
  { h with names:=h.names.map λ(n,k)=>if(k==.free&&sc.kind==.function&&sc.names.lookup n==some .cell) then(n,.cell) else(n,k) }
theorem PC(sc:Scope)(x:Str):∀(l:List (Str×NameKind)),
  (l.map λ(n,k)=>if(k==NameKind.free&&sc.kind==.function&&sc.names.lookup n==some .cell) then(n,NameKind.cell) else(n,k)).lookup x =
   (l.lookup x).map λk=>if(k==NameKind.free&&sc.kind==.function&&sc.names.lookup x==some .cell) then NameKind.cell else k
 |[]=>rfl|(n,k)::r=>by
  rw[QO];have e:(if(k==NameKind.free&&sc.kind==.function&&sc.names.lookup n==some .cell)=true then(n,NameKind.cell) else(n,k)) =
    (n,if(k==NameKind.free&&sc.kind==.function&&sc.names.lookup n==some .cell)=true then NameKind.cell else k):=by split<;>rfl
  show List.lookup x ((if(k==NameKind.free&&sc.kind==.function&&sc.names.lookup n==some .cell)=true then(n,NameKind.cell) else(n,k))::_)=_;rw[e,WZ,WZ];cases h:x==n with|true=>rw[qi h];simp|false=>exact PC sc x r
structure CompSt(N:List Str)(sc scope:Scope)(tgs:List Str)(mask:List Bool):Prop where
 kind:scope.kind=.function
 nocell:∀y∈scope.names,y.2≠.cell
 names:∀y∈scope.names,y.2=.local->scope.names.lookup y.1=some .local
 free:∀y∈scope.names,y.2=.free->sc.names.lookup y.1=some .cell∨sc.names.lookup y.1=some .free
 loc:∀y∈scope.names,y.2=.local->y.1∈tgs∨y.1=(".0":Str)
 nd:(tgs++DB mask 0 N).Nodup
 no0:(".0":Str)∉tgs++DB mask 0 N
noncomputable def jB(X:Cx)(h:Scope)(y:List Str)(x:List Bool)(s:Shared)(H:Hp)(ex:List Addr):Cx :=
  { X with N:=y++DB x 0 X.N,s₀:=s,H₀:=H,env:=compEnvC h (rM X.env h.names []) s.heap.objs.size X.env,outer:=X.stack,stack:=X.stack,ex:=ex,fn:=λ_=>false,pn:=[],xe:=λ_ _=>False }
def uI(k:Nat)(h:List Bool)(σ:St):St:=Qz k none++zD h σ
section
variable{X:Cx}{f:TB}{σ:St}{H:Hp}{s:Shared}{w:Scope}{d:List Str}{a:List Bool}{ex:List Addr}
theorem CompSt.cells(C:CompSt X.N X.env.scope w d a)(ok:X.Ok):∀y∈w.names,y.2=.free->∃c,X.env.cells.lookup y.1=some c:=λy h x =>
 ok.has y.1 (C.free y h x)
theorem CompSt.kindCF(C:CompSt X.N X.env.scope w d a){x:Str}(h:(relabel w X.env).names.lookup x=some .cell∨(relabel w X.env).names.lookup x=some .free):(x,NameKind.free)∈w.names:=by
 have e:=PC X.env.scope x w.names;have u:(relabel w X.env).names.lookup x=(w.names.lookup x).map λk=>if(k==NameKind.free&&X.env.scope.kind==.function&&X.env.scope.names.lookup x==some .cell) then NameKind.cell else k:=e
 rw[u]at h;cases q:w.names.lookup x with
 |none=>rw[q]at h;simp at h|some k =>
  have y:=qX q;have z:=C.nocell _ y;cases k with|free=>exact y|cell=>exact absurd rfl z|«local»=>rw[q]at h;simp at h|_=>rw[q]at h;simp at h
theorem IS(I:Inv X f σ H s)(C:CompSt X.N X.env.scope w d a)(n:∀b∈ex,JI X f H b/\b<s.heap.objs.size){h':Heap}{t':Nat}
  (hn:h'.Ns s.heap.objs.size (λ_=>none)) (hs:qV s.heap.objs.size (s.heap.push { cls:=.type "dict",data:=.dict #[] }) h') :
  Inv (jB X w d a s H ex) [] (uI d.length a σ) H { s with heap:=h',toks:=t' }:=by
 have kept:∀b u,s.heap.get? b=some u->h'.get? b=some u:=λb u e=>hs.extBut b u (QZ (QR e)) (QH _ e);have look:∀x c,(rM X.env w.names []).lookup x=some c->X.env.cells.lookup x=some c:=λx c e=>fN w.names [] (C.cells I.ok) (λc z=>by simp at z) e;have nofs:∀b∈ex,b∉DW X.stack:=λb hb z=>by obtain⟨⟨_,f1,f2,_⟩,_⟩:=n b hb;rcases QJ.mp (I.stkSub b z) with e|e;exact f1 e;exact f2 e
 refine⟨⟨I.ok.mod,C.kind,I.ok.glob,I.ok.blt,QV _,λx y c E j=>I.ok.inj x y c (look x c E) (look y c j),λx hx=>?_,λx c hf _=>absurd (show false=true from hf) QF,I.ok.hd,I.ok.frames,.inl rfl,λb hb=>?_,I.bs,QY I.ok.bsz I.sz,λb o e hb=>?_,nofs,I.stack,I.stkFree⟩,
  rfl,I.bare,Un.kept kept,⟨_,hn,λi x v E j h3=>?_⟩,λx c h=>?_,I.hok.fresh (QV _),λx c h=>I.freeC x c (look x c h),λp hp=>absurd (show p∈([]:TB) from hp) (by simp),I.hok.kept kept,?_⟩
 exact GL w.names [] (.inr (C.kindCF hx));obtain⟨⟨_,_,_,_,f4,_⟩,lt⟩:=n b hb;exact⟨QZ lt,λx c e=>f4 x c (look x c e)⟩;obtain⟨⟨_,_,_,f3,_⟩,_⟩:=n b hb;rcases f3 with z|z;exact I.ok.noex b o e z;exact absurd (Qq (QR (I.ok.bs b o e).1) z) (wM _)
 ·
  have hi:d.length<=i:=by rcases QA8 i d.length with z|z;unfold uI at j;rw[Qx (by simpa using z),wy]at j;split at j<;>cases j;exact z
  have Z:(DB a 0 X.N)[i - d.length]?=some x:=by have:(d++DB a 0 X.N)[i]?=some x:=E;rw[Q1 hi]at this;exact this
  have O:(zD a σ)[i - d.length]?=some (some v):=by unfold uI at j;rw[Q1 (by simpa using hi)]at j;simpa using j
  obtain⟨g1,g2⟩:=cL a 0 X.N σ _ v O;rw[g2]at Z;have A:x∈d++DB a 0 X.N:=qB (show(d++DB a 0 X.N)[i]?=some x from E);have K:x∉d:=λz=>by have nd:=C.nd;rw[qJ]at nd;exact nd.2.2 x z x (qB (by rw[g2];exact Z)) rfl
  have g:(x,NameKind.free)∈w.names:=by
   rcases h3 with z|z|z;exfalso;have e:(relabel w X.env).names.lookup x=some .local:=z;have Q:=PC X.env.scope x w.names;have P:(relabel w X.env).names.lookup x=(w.names.lookup x).map λk=>if(k==NameKind.free&&X.env.scope.kind==.function&&X.env.scope.names.lookup x==some .cell) then NameKind.cell else k:=Q
   rw[P]at e;cases q:w.names.lookup x with
   |none=>rw[q]at e;cases e|some k =>
    rw[q]at e;have L:=qX q;have G:k=.local:=by
     cases k with|«local»=>rfl|free=>simp at e;split at e<;>cases e|_=>simp at e
    subst G;rcases C.loc _ L rfl with z|z;exact K z;exact C.no0 (z▸A)
   exact C.kindCF (.inl z);exact C.kindCF (.inr z)
  obtain⟨m,hnm,hl⟩:=I.loc;have F:nh X.env.scope x:=.inr (C.free _ g rfl);obtain⟨u,r,l⟩:=hl _ x v Z g1 F;refine⟨u,r,?_⟩;rcases l with⟨k,_⟩| ⟨_,c,hc,Y⟩
  exfalso;have S:X.env.scope.names.lookup x=some .local:=k;rcases C.free _ g rfl with z|z;have W:X.env.scope.names.lookup x=some .cell:=z;rw[S]at W;cases W;have W:X.env.scope.names.lookup x=some .free:=z;rw[S]at W;cases W;obtain⟨R,B⟩:=GL (env:=X.env) w.names [] (.inr g);have:R=c:=by have:=look x R B;rw[hc]at this;exact(qE this).symm
  subst this;refine .inr ⟨?_,R,B,?_⟩;rcases h3 with z|z|z
  ·exfalso
   have e:(relabel w X.env).names.lookup x=some .local:=z;have Q:=PC X.env.scope x w.names;have P:(relabel w X.env).names.lookup x=(w.names.lookup x).map λk=>if(k==NameKind.free&&X.env.scope.kind==.function&&X.env.scope.names.lookup x==some .cell) then NameKind.cell else k:=Q
   rw[P]at e;cases q:w.names.lookup x with
   |none=>rw[q]at e;cases e|some k =>
    rw[q]at e;have L:=qX q;have G:k=.local:=by
     cases k with|«local»=>rfl|free=>simp at e;split at e<;>cases e|_=>simp at e
    subst G;rcases C.loc _ L rfl with z|z;exact K z;exact C.no0 (z▸A)
  exact .inl z;exact .inr z;obtain⟨o,J,M⟩:=Y;exact⟨o,kept _ _ J,M⟩
 obtain⟨v,o,J,M⟩:=I.cell x c (look x c h);exact⟨v,o,kept _ _ J,M⟩;show(uI d.length a σ).length=(d++DB a 0 X.N).length;unfold uI;rw[QL,QL,qh,NI,yN,I.len]
end
section
variable{X:Cx}{h:TB}{σ a:St}{H k:Hp}{s s':Shared}{x:Scope}{d:List Str}{w:List Bool}{ex:List Addr}{D:Addr}{y:List V}{its:List Value}
theorem jT(I:Inv X h σ H s)(m:∀b∈ex,JI X h H b/\b<s.heap.objs.size)(W:D∈ex)(J:Inv (jB X x d w s H ex) [] a k s')(f:k D=none)(C:bA y its)(hz:y.length<=sizeLine)
  (F:s'.heap.PlainList D its.toArray) {g:Heap}(E:qV s.heap.objs.size s'.heap g):Inv X h σ (OA k D (.lst y)) { s' with heap:=g }:=by
 have un:Un (DW X.stack) ex H k s.heap s'.heap:=J.base;have j:∀b o,s.heap.get? b=some o->b≠s.heap.objs.size:=λb o e=>QZ (QR e);have L:=m D W;have Z:k s.heap.objs.size=none:=J.free;have Q:D≠s.heap.objs.size:=QZ L.2;have p:∀b u,b≠s.heap.objs.size->s'.heap.get? b=some u->g.get? b=some u:=λb u B e=>E.extBut b u B e;refine I.call' (s':={ s' with heap:=g }) (ch:=ex) J.os ⟨λb o e n hb i=>?_,λb o e n hb i=>?_,λb o e n i=>?_,λb o e i=>?_,λb r e=>?_,λb o u e=>?_,λb A e=>?_⟩ ?_ J.bare λb hb=>?_;exact p b o (j b o e) (un.keep b o e n hb i);obtain⟨K,q⟩:=un.slot b o e n hb i;exact⟨K,p b _ (j b o e) q⟩;have q:=un.free b o e n i;rw[xA (λ(z:b=D)=>i (by rw[z];exact W))];exact q;obtain⟨Y,q⟩:=un.there b o e i;exact⟨Y,p b Y (j b o e) q⟩;rw[xA (VA (un.tups b r e) f)];exact un.tups b r e;rw[xA (VA (un.frzs b o u e) f)];exact un.frzs b o u e;obtain⟨l,q⟩:=un.tbls b A e;exact⟨l,by rw[xA (VA q f)];exact q⟩;intro b u e;by_cases hb:b=D;subst hb;rw[DA]at e;cases e;obtain⟨n,q⟩:=F;exact⟨hz,its,n,C,p _ _ Q q⟩;rw[xA hb]at e;refine(J.hok b u e).stay (λc v G q=>p c v ?_ q) (λc q=>?_) λc r q=>?_;rintro rfl;rcases G with z|z;subst z;rw[Z]at e;cases e;rw[Z]at z;cases z;rw[xA (VA q f)];exact q;rw[xA (VA q f)];exact q;obtain⟨⟨S,P,R,O,N,M⟩,_⟩:=m b hb;exact⟨O,P,N,M⟩
end
section
variable{X:Cx}{s:Shared}{K Z B:Expr}{U:List Expr}{d:Scope}{pos:Pos}{E:TI}{g:TG}{tc:TT}{te:TE}{Y:List Str}{j:List Bool}{l:TB}
def ji(X:Cx)(U:List Expr)(t:TT):Prop:=∀(l:TB) (s:Shared) (h:St) (H:Hp) (Q:Bool->Hp->Prop),Inv X l h H s->t h H Q ->
 wpAny (model X.prog X.w) X.A (forIn U true λc r=>if r=true then do let ok <- isTrue c X.env (eval c X.env);pure (ForInStep.yield ok) else pure (ForInStep.yield r)) (TP X l h Q) X.xe s
theorem dU:ji X [] (λ_ H Q=>Q true H):=λl s x H Q I h=>by rw[QBO];exact QK ⟨H,I,h⟩
theorem cU{c:Expr}{t:TT}(y:PT X c t):ji X [c] t:=λl s x H Q I h=>by rw[QA7];simp only[if_true];refine QA (QA (OB (y l s x H Q I h) λb z q=>QK ?_));dsimp only;rw[QBO];exact QK q
theorem OG{prog:Program}{w:World}{A:Around}{R:Result->Shared->Prop}{y:Expr}{it q:Value}{env:Env}(I:Nat->Shared->Prop)
  (W:∀n s,I n s->wpAny (model prog w) A (pyNext it) (λr k=>match r with
   |none=>R (.ok .next) k|some v=>wpAny (model prog w) A (letOwnedTupleGo y it v) (λ_ u=>wpAny (model prog w) A (assign y env v) (λ_ f =>
     wpAny (model prog w) A (forIn U true λc r=>if r=true then do let ok <- isTrue c env (eval c env);pure (ForInStep.yield ok) else pure (ForInStep.yield r)) (λok z =>
      if ok=true then wpAny (model prog w) A (eval K env) (λx e =>
       wpAny (model prog w) A (call (.builtin "list.append") [q,x]) (λ_ b=>∃m,m<n/\I m b) (λ_ _=>False) e) (λ_ _=>False) z
      else ∃m,m<n/\I m z) (λ_ _=>False) f) (λ_ _=>False) u) (λ_ _=>False) k) (λ_ _=>False) s)
  (n:Nat) (h:I n s) :
  codeAny (model prog w) A (.compLoop (.ListComp K [⟨y,Z,U,0⟩] d pos) 0 it q env) R s:=by
 refine codeAny_loop rfl I (λn s J=>?_) n h;show wpAny _ A ((compTurn (.ListComp K [⟨y,Z,U,0⟩] d pos) 0 it q env).onRaise (λx=>do noteFrame x env;theTreesLotGoes x)) _ _ s;refine wpAny_noted ?_;rw[compTurn_list];refine QA (QBc (QA (wN (W n s J) (λr k o=>?_) λ_ _ a=>a.elim)));cases r with
 |none=>exact QK o|some v =>
  refine QA (wN o (λ_ u p=>?_) λ_ _ a=>a.elim);refine QA (wN p (λ_ f G=>QA (wN G (λok z i=>?_) λ_ _ a=>a.elim)) λ_ _ a=>a.elim);cases ok with|false=>exact QK ⟨rfl,i⟩|true=>exact QA (QA (wN i (λx e F=>QA (wN F (λ_ b C=>QK (QK ⟨rfl,C⟩)) λ_ _ a=>a.elim)) λ_ _ a=>a.elim))
noncomputable def iX(E:TI)(g:TG)(tc:TT)(te:TE)(k:Nat)(j:List Bool):TE:=λa H Q=>E a H λJ q=>∃W:Nat->Nat->List V->St->Hp->Prop,(∃m,W 0 m [] (uI k j a) q) /\
 ∀i m h v u,W i m h v u->(J.stop i u/\h.length<=sizeLine/\∀p,u p=none->Q (.ref p) (OA u p (.lst h))) ∨
  (J.go i u/\∀x f,J.yld i u x f->g x v f λz o=>tc z o λb e=>if b=true then te z e λy n=>h.length<sizeLine/\∃w,w < m/\W (i+1) w (h++[y]) z n else ∃w,w < m/\W (i+1) w h z e)
def xi(X:Cx)(l:TB)(H:Hp)(s:Shared)(C:Addr):Prop :=
 H C=none/\C≠X.env.locals/\X.s₀.heap.objs.size<=C/\(∀x c,X.env.cells.lookup x=some c->c≠C)/\(∀p∈X.pn++l,p.1≠C)/\∃m,s.heap.Ns C m
theorem yR{pos':Pos}{use:Option (Value->Sem Unit)}(hc:X.calm=true)(hi:PI X B Z E)(C:CompSt X.N X.env.scope d Y j)
  (inner:∀s H ex,PG (jB X d Y j s H ex) B g/\ji (jB X d Y j s H ex) U tc/\PE (jB X d Y j s H ex) K te)
  (hs:∀x,foldedSetIterable Z X.env x=pure x) {σ:St}{H:Hp}{Q:VK}{QQ:zC}(I:Inv X l σ H s) (h:iX E g tc te Y.length j σ H Q)
  (fin:∀(D:Addr) (f:Hp) (s6:Shared) (F:Addr),Inv X l σ f s6->xi X l f s6 F->Q (.ref D) f->compPost (model X.prog X.w) X.A X.xe use QQ (.ref D) F (.ok .next) s6) :
  wpAny (model X.prog X.w) X.A (comprehension (.ListComp K [⟨B,Z,U,0⟩] d pos) d X.env pos' (newList []) false (eval Z X.env) use) QQ X.xe s:=by
 refine wpAny_comprehension_free (use:=use) rfl hs (zT (C.cells I.ok)) C.kind C.names (OB (hi l s σ H _ I h) λv s1 h1=>OB h1 λitv s2 h2=>?_);obtain⟨it,a,tn,J,G,e,I2,T,st2,f2,W,⟨m0,w0⟩,turn⟩:=h2;subst e;refine Qu ?_;have I3:Inv X l σ G { s2 with heap:=s2.heap.push { cls:=.type "list",data:=.seq ([]:List Value).toArray } }:=I2.kept (t':=s2.toks) λb o e=>QH _ e;generalize hS:({ s2 with heap:=s2.heap.push { cls:=.type "list",data:=.seq ([]:List Value).toArray } }:Shared)=s3 at I3;have sz3:s3.heap.objs.size=s2.heap.objs.size+1:=by rw[<- hS];exact wb ..
 have lst3:s3.heap.PlainList s2.heap.objs.size ([]:List Value).toArray:=⟨0,by rw[<- hS];exact QN _ rfl⟩
 have old3:∀b o,s2.heap.get? b=some o->s3.heap.get? b=some o:=λb o e=>by rw[<- hS];exact QH _ e
 generalize hDd:s2.heap.objs.size=D at sz3 lst3;have fD:JI X l G D:=by rw[<- hDd];exact I2.fpOk (QV _) (I2.hok.fresh (QV _))
 have fpl:∀b∈a,b<D:=λb hb=>by obtain⟨o,e,_⟩:=T.obj _ _ st2 b hb;rw[<- hDd];exact QR e
 have hex:∀b∈D::a,JI X l G b/\b<s3.heap.objs.size:=λb hb=>by rcases QJ.mp hb with z|z;subst z;exact⟨fD,by rw[sz3];exact WY _⟩;exact⟨f2 b z,by rw[sz3];exact qk (fpl b z)⟩
 refine wpAny_newFunctionEnv C.nocell (by intro y hy;simp at hy) (λh' hn hsb=>?_) C.kind;have J0:Inv (jB X d Y j s3 G (D::a)) [] (uI Y.length j σ) G { s3 with heap:=h',toks:=s3.toks+([]:List (Str×Value)).length }:=IS I3 C hex hn hsb;have kept:∀b u,s3.heap.get? b=some u->h'.get? b=some u:=λb u e=>hsb.extBut b u (QZ (QR e)) (QH _ e);obtain⟨pg,pf,pl⟩:=inner s3 G (D::a);have loop:∀s4:Shared,s4={ s3 with heap:=h',toks:=s3.toks+([]:List (Str×Value)).length } ->
   codeAny (model X.prog X.w) X.A (.compLoop (.ListComp K [⟨B,Z,U,0⟩] d pos) 0 (.ref it) (.ref D) (compEnvC d (rM X.env d.names []) s3.heap.objs.size X.env))
    (compPost (model X.prog X.w) X.A X.xe use QQ (.ref D) s3.heap.objs.size) s4:=by
  rintro s4 rfl;have exok:∀{f:Hp},(∀b∈D::a,f b=none)->∀(pp:TB),(∀p∈pp,p.1∉a)->∀b∈a,JI (jB X d Y j s3 G (D::a)) pp f b:=λ{f} hn pp hpp b hb=>by have g:=J0.ok.exf b (QE _ hb);exact⟨hn b (QE _ hb),g.1,J0.ok.exfs b (QE _ hb),.inl (QE _ hb),g.2,λp L z=>hpp p (by simpa[jB]using L) (z▸hb)⟩
  have DX:=J0.ok.exf D QD;have Dfp:D∉a:=λz=>wM _ (fpl D z);refine OG (λn O=>∃i m f M k,Inv (jB X d Y j s3 G (D::a)) [] m f O/\tn i O.heap/\(∀b∈D::a,f b=none)/\bA M k/\O.heap.PlainList D k.toArray/\W i n M m f) ?_ m0
   ⟨0,_,G,[],[],J0,T.keep _ _ _ (T.keep _ _ _ st2 λb hb o e=>old3 b o e) λb hb o e=>kept b o e,λb hb=>((hex b hb).1).1,.nil,lst3.at λo e=>kept _ _ e,w0⟩
  rintro n s5 ⟨i,R,H5,M,k,I5,st5,fr5,va5,ls5,w5⟩;obtain⟨nL,lo⟩:=id ls5;have pinD:∀{m:St}{f:Hp}{O:Shared},Inv (jB X d Y j s3 G (D::a)) [] m f O->(∀b∈D::a,f b=none)->O.heap.get? D=some { cls:=.type "list",dict:=none,data:=.seq k.toArray nL } ->
    Inv (jB X d Y j s3 G (D::a)) [(D,{ cls:=.type "list",dict:=none,data:=.seq k.toArray nL })] m f O:=λ{m f O} I' fr' e' =>
   I'.pins_of λp L=>by
    have e:p=(D,{ cls:=.type "list",dict:=none,data:=.seq k.toArray nL }):=by simpa using L
    subst e;exact⟨e',fr' D QD,DX.1,J0.ok.exfs D QD,λv z=>by cases z⟩
  have S:∀p∈[(D,({ cls:=.type "list",dict:=none,data:=.seq k.toArray nL }:Obj))],p.1∉a:=λp L=>by
   have e:p=(D,{ cls:=.type "list",dict:=none,data:=.seq k.toArray nL }):=by simpa using L
   subst e;exact Dfp
  have I5':=pinD I5 fr5 lo;rcases turn i n M R H5 w5 with⟨stop,hz,qn⟩| ⟨go,step⟩
  refine OB (T.done (jB X d Y j s3 G (D::a)) rfl rfl rfl hc i _ s5 R H5 (λ_ _=>False) I5' (exok fr5 _ S) st5 stop) λr s6 ⟨hr,I6⟩=>?_;subst hr;obtain⟨m6,hn6,_⟩:=I6.loc;have l6:s6.heap.PlainList D k.toArray:=⟨nL,(I6.pin _ (QW _ (QI.mpr rfl))).1⟩
  have I6':Inv (jB X d Y j s3 G (D::a)) [] R H5 s6:=I6.pins_of λp L=>by simp at L
  have Iout:Inv X l σ (OA H5 D (.lst M)) s6:=jT I3 hex QD I6' (fr5 D QD) va5 hz l6 (QBr _ _);have lC:H5 s3.heap.objs.size=none:=I6'.free;refine fin D _ s6 s3.heap.objs.size Iout ⟨?_,qy I3.lt,I3.sz,λx c e z=>?_,λp L z=>?_,m6,hn6⟩ (qn D (fr5 D QD));rw[xA (λ(z:s3.heap.objs.size=D)=>absurd (hex D QD).2 (by rw[z];exact wM _))];exact lC;obtain⟨v,q⟩:=I3.cell x c e;exact absurd q.lt (by rw[z];exact wM _);exact absurd (QR (I3.pin p L).1) (by rw[z];exact wM _);refine OB (T.item (jB X d Y j s3 G (D::a)) rfl rfl rfl hc i _ s5 R H5 (λ_ _=>False) I5' (exok fr5 _ S) st5 go) λr s6 ⟨u,hr,h6⟩=>?_;subst hr;refine OB h6 λ_ s7 ⟨x,H7,I7,r7,y7,st7,fr7⟩=>?_;have hD7:=(I7.pin _ (QW _ (QI.mpr rfl)))
  have fr7':∀b∈D::a,H7 b=none:=λb hb=>by rcases QJ.mp hb with z|z;subst z;exact hD7.2.1;exact fr7 b z
  have I7':=I7.pinned (exok fr7' _ S) (T.obj _ _ st7);have bk:∀{m:St}{f:Hp}{O:Shared},Inv (jB X d Y j s3 G (D::a)) ([(D,{ cls:=.type "list",dict:=none,data:=.seq k.toArray nL })]++NK a s7.heap) m f O ->
    O.heap.get? D=some { cls:=.type "list",dict:=none,data:=.seq k.toArray nL }/\tn (i+1) O.heap/\(∀b∈D::a,f b=none):=λ{m f O} I'=>by
   have hD:=I'.pin (D,{ cls:=.type "list",dict:=none,data:=.seq k.toArray nL }) (QW _ (Qt _ (QI.mpr rfl)));refine⟨hD.1,T.keep _ _ _ st7 λb hb o e=>(I'.pin (b,o) (QW _ (QW _ (xF hb e)))).1,λb hb=>?_⟩;rcases QJ.mp hb with z|z;subst z;exact hD.2.1;obtain⟨o,e,_⟩:=T.obj _ _ st7 b z;exact(I'.pin (b,o) (QW _ (QW _ (xF z e)))).2.1
  refine OB (pg _ s7 R H7 x u _ I7' r7 (step x H7 y7)) λ_ s8 ⟨P,H8,I8,q8⟩=>?_;refine OB (pf _ s8 P H8 _ I8 q8) λok s9 ⟨H9,I9,q9⟩=>?_;cases ok with
  |false=>obtain⟨m',hm,w'⟩:=q9;obtain⟨b1,b2,b3⟩:=bk I9;exact⟨m',hm,i+1,P,H9,M,k,I9.pins_of λp L=>by simp at L,b2,b3,va5,⟨nL,b1⟩,w'⟩|true =>
   refine OB (pl _ s9 P H9 _ I9 q9) λy s10 ⟨yv,H10,I10,r10,hz,m',hm,w'⟩=>?_;obtain⟨b1,b2,b3⟩:=bk I10;have hlen:=va5.length;refine wpAny_list_append_plain (hsz:=by rw[QT];omega) (show s10.heap.PlainList D k.toArray from⟨nL,b1⟩) λh11 hl11 hs11=>?_;refine⟨m',hm,i+1,P,H10,M++[yv],k++[y],?_,T.keep _ _ _ b2 λb hb o e=>(hs11.2 b (λz=>Dfp (z▸hb))).trans e,b3,va5.append (.cons r10 .nil),by simpa using hl11,w'⟩;have I10':Inv (jB X d Y j s3 G (D::a)) [] P H10 s10:=I10.pins_of λp L=>by simp at L
   exact I10'.turned (t':=s10.toks) (λb o hb e=>(hs11.2 b hb).trans e) (b3 D QD) DX.1 (.inl QD) DX.2 λp L=>by simp[jB]at L
 refine codeAny_compStart_list (loop _ rfl) (T.self X.A 0 _ _ _ (T.keep _ _ _ (T.keep _ _ _ st2 λb hb o e=>old3 b o e) λb hb o e=>kept b o e) (loop _ rfl))
theorem iL{σ:St}{H:Hp}{F:Addr}(I:Inv X l σ H s)(f:xi X l H s F){h':Heap}(h:qV F s.heap h'):Inv X l σ H { s with heap:=h' }:=by obtain⟨v,u,z,y,x,_⟩:=f;exact I.turned (t':=s.toks) (λb o hb e=>(h.2 b hb).trans e) v u (.inr z) y x
theorem k5(k:X.calm=true)(w:PI X B Z E)(C:CompSt X.N X.env.scope d Y j)
  (y:∀s H ex,PG (jB X d Y j s H ex) B g/\ji (jB X d Y j s H ex) U tc/\PE (jB X d Y j s H ex) K te)
  (u:∀x,foldedSetIterable Z X.env x=pure x:=by intro _;rfl):PE X (.ListComp K [⟨B,Z,U,0⟩] d pos) (iX E g tc te Y.length j):=by
 intro l s e H Q I h;rw[eval_ListComp];refine yR k w C y u I h λD b i F a f q=>?_;obtain⟨m,v⟩:=f.2.2.2.2.2;exact⟨m,v,λn z=>⟨.ref D,b,iL a f z,rfl,q⟩⟩
theorem C4{cpos u:Pos}{i:Nat}{x:Str}(S:X.calm=true)(hN:X.N.Nodup)(n:X.N[i]?=some x)(p:X.env.scope.names.lookup x=some .local)
  (R:PI X B Z E) (C:CompSt X.N X.env.scope d Y j)
  (y:∀s H ex,PG (jB X d Y j s H ex) B g/\ji (jB X d Y j s H ex) U tc/\PE (jB X d Y j s H ex) K te)
  (O:∀x,foldedSetIterable Z X.env x=pure x) (k:swapsWith (.ListComp K [⟨B,Z,U,0⟩] d cpos) (some (.Name x u)) pos.line X.env=pure true) :
  PS X (.Assign [.Name x u] (.ListComp K [⟨B,Z,U,0⟩] d cpos) pos) (V9 (iX E g tc te Y.length j) (OU i)):=by
 intro l s σ H D0 I h;rw[exec_Assign_Name_used _ _ _ _ k];refine QA (QBc (QA ?_));show wpAny _ X.A (do let _ <- comprehension (.ListComp K [⟨B,Z,U,0⟩] d cpos) d X.env _ (newList []) false (eval Z X.env) (some (assign (.Name x u) X.env))) _ _ s;refine QA (wN (yR (use:=some (assign (.Name x u) X.env)) (QQ:=λ_ o=>SP X l D0 .next o) S R C y O I h λD H' L F I6 f q=>?_) (λ_ o P=>QK (QK P)) λ_ _ e=>e);show wpAny _ X.A (assign (.Name x u) X.env (.ref D)) _ _ L;refine QBn (YM I6 hN n (.inl p) (v:=.ref D) rfl (λJ I7 ⟨a,G,ha⟩=>?_) (.inr p));obtain⟨f0,W,f2,r,f4,m,Q⟩:=f;have M:F≠a:=by rcases ha with z|z;rw[z];exact W;exact λe=>r x a z e.symm
 have w:J.heap.Ns F m:=Q.sameBut G M;exact⟨m,w,λh' b=>⟨_,H',iL I7 ⟨f0,W,f2,r,f4,m,w⟩ b,q⟩⟩
end
end L2
namespace L2.L3
open PySem PySem.Spec PyProof.Rows
noncomputable def Cf(K:QC):R2:=λx y H Q=>match x,y with
 | .int i,.int j=>Q (.int (i+j)) H|.str a,.str b=>a.length+b.length<=sizeLine/\Q (.str (a++b)) H|.ref a,.ref b=>(∃z h,XC K H a z/\XC K H b h/\z.length+h.length<=sizeLine/\∀p,H p=none->Q (.ref p) (OA H p (.lst (z++h))))∨y8 K (.ref a) (.ref b) H Q|_,_=>False
def lf:R2:=λx y H Q=>match x,y with
 | .int i,.int j=>Q (.int (i - j)) H|_,_=>False
def NG(x:Str)(n:Int):Str:=Txt.mul x n
noncomputable def af(K:QC):R2:=λx y H Q=>match x,y with
 | .int i,.int j=>IntMulOk i j/\Q (.int (i * j)) H|.str a,.int k=>(-(2 ^ 31)<=k/\k<2 ^ 31/\a.length * k.toNat<=sizeLine)/\Q (.str (NG a k)) H|.ref a,.int k=>tf (.ref a) (.int k) H Q|_,_=>False
def j8:R2:=λx y H Q=>match x,y with
 | .int i,.int j=>(0<j/\j<2 ^ 200)/\Q (.int (i / j)) H|_,_=>False
def Jf:R2:=λx y H Q=>match x,y with
 | .int i,.int j=>0<j/\Q (.int (i % j)) H|_,_=>False
section
variable{X:Cx}
theorem op_add:KF X (binaryOp .Add) (Cf X.K):=by
 intro z s g H x y v u Q I f e h;cases x with
 |int i =>
  cases y with|int j=>exact _root_.L2.op_add z s g H _ _ v u Q I f e ⟨i,j,rfl,rfl,h⟩|_=>exact Qc h
 |str a =>
  cases y with|str b=>exact dS z s g H _ _ v u Q I f e ⟨a,b,rfl,rfl,h.1,h.2⟩|_=>exact Qc h
 |ref a =>
  cases y with
  |ref b =>
   rcases h with⟨xs,ys,N,M,hz,q⟩| h;cases f;cases e;obtain⟨k,r,⟨⟨S,R,A,G⟩,L,W,E,d1,p⟩,z1⟩:=I.list N;obtain⟨w,Y,⟨⟨B,m,n,l⟩,J,Z,C,d2,o⟩,z2⟩:=I.list M;simp only at E p C o;subst E p C o;have hl:=r.length;have O:=Y.length;refine QB2 ⟨_,W,rfl⟩ ⟨_,Z,rfl⟩ noFill_list_add seq_list_add PySem.F.slot_list_add PySem.F.entry_list_add (PySem.F.args_list_add_2 _ _) (list_addW a b k.toArray w.toArray L J R m G l (by simp;omega)) ⟨W,Z,?_⟩;have P:k.toArray++w.toArray=(k++w).toArray:=by simp
   rw[P];exact⟨.ref _,_,I.lnew (t':=s.toks) (r.append Y) (by rw[QL];omega),rfl,q _ I.fresh⟩;exact J5 z s g H _ _ v u Q I f e h
  |_=>exact Qc h
 |_=>exact Qc h
theorem op_sub:KF X (binaryOp .Sub) lf:=by
 intro z s w H x y v u Q I a k h;cases x with
 |int i =>
  cases y with|int j=>exact _root_.L2.op_sub z s w H _ _ v u Q I a k ⟨i,j,rfl,rfl,h⟩|_=>exact Qc h
 |_=>exact Qc h
theorem i5:KF X (binaryOp .FloorDiv) j8:=by
 intro z s a H x y v u Q I k w h;cases x with
 |int i =>
  cases y with
  |int j =>
   obtain⟨t,rfl⟩:=k;obtain⟨b,rfl⟩:=w;obtain⟨⟨f,e⟩,q⟩:=h;refine floordiv_int (by omega) ?_ (.inl (PyProof.noPylong_of_log2 ?_));rw[Int.fdiv_eq_ediv_of_nonneg i (by omega)];exact⟨.int _,H,I.tok _,⟨_,rfl⟩,q⟩;have:j.natAbs<2 ^ 200:=by omega
   have:=(Nat.log2_lt (show j.natAbs≠0 by omega)).mpr this;omega
  |_=>exact Qc h
 |_=>exact Qc h
theorem op_mod:KF X (binaryOp .Mod) Jf:=by
 intro z s w H x y v u Q I a k h;cases x with
 |int i =>
  cases y with|int j=>exact _root_.L2.op_mod z s w H _ _ v u Q I a k ⟨i,j,rfl,rfl,h.1,h.2⟩|_=>exact Qc h
 |_=>exact Qc h
theorem Ma:KF X (binaryOp .Mult) (af X.K):=by
 intro z s l H x y v u Q I f w h;cases x with
 |int i =>
  cases y with|int j=>obtain⟨t,rfl⟩:=f;obtain⟨g,rfl⟩:=w;exact mul_int ⟨.int _,H,I.tok _,⟨_,rfl⟩,h.2⟩ h.1|_=>exact Qc h
 |str a =>
  cases y with
  |int k =>
   obtain⟨t,rfl⟩:=f;obtain⟨g,rfl⟩:=w;obtain⟨⟨Z,Y,r⟩,q⟩:=h;refine SB.mul ⟨?_,λ_ _=>?_,λ_ _=>?_⟩ λg o=>⟨.str (NG a k),H,I.tok _,⟨_,rfl⟩,q⟩
   have n:decide (k < -(2 ^ 63:Int))=false:=dF (by omega);have m:decide (k ≥ 2 ^ 63)=false:=dF (by omega);rw[n,m];rfl;have e:(a.length:Int) * k=((a.length * k.toNat:Nat):Int):=by rw[Int.natCast_mul,Int.toNat_of_nonneg (by omega)]
   have p:sizeLine=16777216:=QS;have:=Int.le_ediv_of_mul_le (a:=(a.length:Int)) (b:=2 ^ 63 - 1) (c:=k) (by omega) (by rw[e];omega);omega;unfold Builtin.Str.tooLong;exact dF (by omega)
  |_=>exact Qc h
 |ref a =>
  cases y with|int k=>exact La z s l H _ _ v u Q I f w h|_=>exact Qc h
 |_=>exact Qc h
end
end L2.L3
namespace L2
open PySem PySem.Spec PyProof.Rows
section
variable{x:Type}[DecidableEq x]
section
variable{p:x×V}{r kvs:List (x×V)}{vs:List (x×Value)}{u:Value}
def nK(kvs:List (x×V))(k:x):Option V:=(kvs.find? λkv=>decide (kv.1=k)).map (·.2)
def vS(kvs:List (x×V))(k:x)(v:V):List (x×V) :=
 if(kvs.any λkv=>decide (kv.1=k))=true then kvs.map (λkv=>if kv.1=k then(kv.1,v) else kv) else kvs++[(k,v)]
theorem lK{k:x}(e:p.1=k):nK (p::r) k=some p.2:=by simp[nK,wT,e]
theorem mK{k:x}(e:¬ p.1=k):nK (p::r) k=nK r k:=by simp[nK,wT,e]
theorem eP(k:x):∀kvs:List (x×V),(kvs.any λkv=>decide (kv.1=k))=(nK kvs k).isSome
 |[]=>rfl|p::r=>by rw[WN];by_cases e:p.1=k;simp only[lK e,dT e,Bool.true_or,Option.isSome_some];rw[mK e,dF e,QAq];exact eP k r
theorem ZQ(kvs:List (x×V))(k:x)(v:V):(vS kvs k v).length<=kvs.length+1:=by unfold vS;split;rw[QG];omega;rw[QL,QM,Qy];omega
theorem JR.isSome_eq{o:Option V}{u:Option Value}(r:JR o u):o.isSome=u.isSome:=by
 cases o with
 |none=>cases u with|none=>rfl|some _=>exact(show False from r).elim
 |some _=>cases u with|none=>exact(show False from r).elim|some _=>rfl
theorem KV.val(r:KV kvs vs)(k:x):JR (nK kvs k) (valueAt vs k):=by
 unfold KV at r;induction r with
 |nil=>exact True.intro|@cons p q g y h t a =>
  obtain⟨w,f⟩:=h;by_cases e:p.1=k;have v:q.1=k:=w.symm.trans e;have b:valueAt (q::y) k=some q.2:=by simp[valueAt,wT,v]
  rw[lK e,b];exact f;have v:¬ q.1=k:=λz=>e (w.trans z);have b:valueAt (q::y) k=valueAt y k:=by simp[valueAt,wT,v]
  rw[mK e,b];exact a
theorem KV.any(r:KV kvs vs)(k:x):(kvs.any λkv=>decide (kv.1=k))=vs.any λkv=>decide (kv.1=k):=by
 unfold KV at r;induction r with|nil=>rfl|cons h t y=>rw[WN,WN,y,h.1]
theorem KV.repl(r:KV kvs vs)(k:x){y:V}(w:sA y u) :
  KV (kvs.map λkv=>if kv.1=k then(kv.1,y) else kv) (vs.map λkv=>if kv.1=k then(kv.1,u) else kv):=by
 unfold KV at r ⊢;induction r with|nil=>exact .nil|@cons p q g f h t a=>rw[QO,QO];refine .cons ?_ a;obtain⟨v,b⟩:=h;by_cases e:p.1=k;rw[if_pos e,if_pos (v.symm.trans e)];exact⟨v,w⟩;rw[if_neg e,if_neg (λz=>e (v.trans z))];exact⟨v,b⟩
theorem KV.put(r:KV kvs vs)(k:x){y:V}(h:sA y u):KV (vS kvs k y) (stored vs k u):=by unfold vS stored;rw[r.any k];by_cases e:(vs.any λkv=>decide (kv.1=k))=true;rw[if_pos e,if_pos e];exact r.repl k h;rw[if_neg e,if_neg e];exact Paired.snoc r ⟨rfl,h⟩
theorem KV.length(r:KV kvs vs):kvs.length=vs.length:=qZ r
end
end
theorem KJ{P:Program}{w:World}{k:Key}{u:Value}(r:sA (kV k) u):(IA P w).is k u=true:=by
 cases k with|inl i=>obtain⟨t,e⟩:=(show ∃t,u=Value.int i t from r);subst e;exact sQ P w i t|inr x=>obtain⟨t,e⟩:=(show ∃t,u=Value.str x t from r);subst e;exact rQ P w x t
theorem IM{P:Program}{w:World}:∀{ks:List Key}{us:List Value},bA (ks.map kV) us->ItemsAre (IA P w) ks us
 |[],_,r=>by rw[qj]at r;cases r;exact .nil|k::ks,_,r=>by
  rw[QO]at r;cases r with|cons h t=>exact .cons (KJ h) (IM t)
end L2
namespace L2.L3
open PySem PySem.Spec PyProof.Rows
section
variable{r kvs:List KE}{k:List Key}{xs:List (List Key×Addr×Value)}
noncomputable abbrev KE:=List Key×Addr×V
def MG(kvs:List KE)(k:List Key):Option V:=(kvs.find? λp=>decide (p.1=k)).map (·.2.2)
def FK(kvs:List KE)(k:List Key)(b:Addr)(v:V):List KE :=
 if(MG kvs k).isSome=true then kvs.map (λp=>if p.1=k then(p.1,p.2.1,v) else p) else kvs++[(k,b,v)]
noncomputable abbrev KD:List KE->List (List Key×Addr×Value)->Prop:=Paired λ(p:List Key×Addr×V) (q:List Key×Addr×Value)=>p.1=q.1/\p.2.1=q.2.1/\sA p.2.2 q.2.2
theorem iP{p:KE}(e:p.1=k):MG (p::r) k=some p.2.2:=by simp[MG,wT,e]
theorem JP{p:KE}(e:¬ p.1=k):MG (p::r) k=MG r k:=by simp[MG,wT,e]
theorem KD.val(r:KD kvs xs)(k:List Key):JR (MG kvs k) ((atKey xs k).map (·.2)):=by
 induction r with
 |nil=>exact True.intro|@cons p q a x h t v =>
  obtain⟨u,_,w⟩:=h;by_cases e:p.1=k;have y:q.1=k:=u.symm.trans e;have b:atKey (q::x) k=some q.2:=by simp[atKey,wT,y]
  rw[iP e,b];exact w;have y:¬ q.1=k:=λz=>e (u.trans z);have b:atKey (q::x) k=atKey x k:=by simp[atKey,wT,y]
  rw[JP e,b];exact v
theorem KD.put(r:KD kvs xs)(k:List Key)(b:Addr){y:V}{u:Value}(v:sA y u):KD (FK kvs k b y) (storedH xs k b u):=by
 have e:(MG kvs k).isSome=(atKey xs k).isSome:=by rw[(r.val k).isSome_eq,QAk]
 unfold FK storedH;rw[e];by_cases q:(atKey xs k).isSome=true;rw[if_pos q,if_pos q];clear e q;induction r with|nil=>exact .nil|@cons p q i g h t a=>rw[QO,QO];refine .cons ?_ a;obtain⟨x,w,f⟩:=h;unfold putAt;by_cases e:p.1=k;rw[if_pos e,if_pos (x.symm.trans e)];exact⟨x,w,v⟩;rw[if_neg e,if_neg (λz=>e (x.trans z))];exact⟨x,w,f⟩
 rw[if_neg q,if_neg q];exact Paired.snoc r ⟨rfl,rfl,v⟩
theorem KQ(kvs:List KE)(k:List Key)(b:Addr)(v:V):(FK kvs k b v).length<=kvs.length+1:=by unfold FK;split;rw[QG];omega;rw[QL,QM,Qy];omega
def sG(K:QC)(H:Hp)(kvs:List KE):Prop:=∀p∈kvs,mD K H p.2.1 (p.1.map kV)
theorem Inv.big{X:Cx}{x:TB}{σ:St}{H:Hp}{s:Shared}(I:Inv X x σ H s):sysModules<s.heap.objs.size:=by have h:mainGlobals<s.heap.objs.size:=(I.mod.glob.keeps I.bk).lt;exact QA9 (by decide) h
end
section
variable{X:Cx}{u:TB}{σ:St}{H:Hp}{s:Shared}{a b:Addr}
theorem US{k:List Key}(I:Inv X u σ H s)(h:mD X.K H b (k.map kV)):(tupleKind (IA X.prog X.w)).is s.heap k b:=by obtain⟨x,r,⟨o,v,z,n,y⟩,_⟩:=I.tuple h;exact⟨o,x.toArray,n,v,z,y,by simpa using IM r⟩
theorem UJ{ep:Nat}{kvs:List KE}(I:Inv X u σ H s)(e:H a=some (.dT ep kvs))(hk:sG X.K H kvs):kvs.length<=sizeLine/\(a==sysModules)=false/\∃xs,KD kvs xs/\s.heap.DictOfH (tupleKind (IA X.prog X.w)) a xs:=by
 obtain⟨z,y,xs,r,o,n,m,l,j,f,k⟩:=(show NA X.prog X.w H s.heap a (.dT ep kvs) from I.hok a _ e)
 refine⟨z,y,xs,r,o,n,ep,m,l,j,f,?_,k⟩;clear f k z e;induction r with
 |nil=>intro x h;exact nomatch h
 |@cons p q Z Y v t g=>intro x h;rcases QJ.mp h with e|h;subst e;rw[<- v.1,<- v.2.1];exact US I (hk p QD);exact g (λp i=>hk p (QE _ i)) x h
theorem AQ{kvs:List (Key×V)}(I:Inv X u σ H s)(e:H a=some (.dK kvs)):kvs.length<=sizeLine/\(a==sysModules)=false/\∃vs,KV kvs vs/\s.heap.DictOf (IA X.prog X.w) a vs :=
 show NA X.prog X.w H s.heap a (.dK kvs) from I.hok a _ e
end
theorem o0{X:Cx}{h:TB}{σ:St}{H:Hp}{s:Shared}{a:Addr}{ep:Nat}(I:Inv X h σ H s)(e:H a=some (.dT ep [])):(a==sysModules)=false/\s.heap.DictOf (IA X.prog X.w) a []:=by
 obtain⟨z,y,g,r,o,f,b,k,v,u,i⟩:=(show NA X.prog X.w H s.heap a (.dT ep []) from I.hok a _ e)
 cases r;have x:f=#[]:=by apply W8.mp;simpa using u
 subst x;exact⟨y,o,#[],ep,b,k,v,λe x=>by simp at x,.nil,Q0⟩
def kD:Key->PyData
 | .inl i=>.int i|.inr x=>.str x
def tD(k:List Key):PyData:=.tuple (k.map kD)
theorem BS{a b:Key}(e:kD a=kD b):a=b:=by
 cases a with
 |inl i=>cases b with|inl j=>injection e with e;rw[e]|inr y=>exact nomatch (show PyData.int i=PyData.str y from e)
 |inr x=>cases b with
  |inl j=>exact nomatch (show PyData.str x=PyData.int j from e)
  |inr y=>injection e with e;rw[e]
theorem CU:∀{a b:List Key},a.map kD=b.map kD->a=b
 |[],[],_=>rfl|[],_::_,e=>by simp at e|_::_,[],e=>by simp at e|x::xs,y::ys,e=>by rw[QO,QO]at e;injection e with e1 e2;rw[BS e1,CU e2]
theorem eX{a b:List Key}(e:tD a=tD b):a=b:=by injection e with e;exact CU e
def KI(K:QC)(H:Hp)(b:Bool)(o:HO)(ks:List PyData)(vs:List V):Prop:=match b with
 |true=>∃x,∃h:List KE,o=.dT x h/\ks=h.map (λp=>tD p.1)/\vs=h.map (·.2.2)/\sG K H h/\(h.map (·.1)).Nodup|false=>(∃h:List (Key×V),h≠[]/\o=.dK h/\ks=h.map (λp=>kD p.1)/\vs=h.map (·.2)/\(h.map (·.1)).Nodup)∨∃x,o=.dT x []/\ks=[]/\vs=[]
theorem KI.len{K:QC}{H:Hp}{b:Bool}{o:HO}{ks:List PyData}{vs:List V}(h:KI K H b o ks vs):ks.length=vs.length:=by
 cases b with|true=>obtain⟨y,x,_,rfl,rfl,_⟩:=h;simp|false=>rcases h with⟨x,_,_,rfl,rfl,_⟩| ⟨_,_,rfl,rfl⟩<;>simp
def fP(K:QC)(H:Hp)(a:Addr)(y:V)(r:Option V):Prop:=match y with
 | .str z=>(∃h,H a=some (.dK h)/\r=nK h (.inr z))∨∃x,H a=some (.dT x [])/\r=none|.ref b=>∃x h k,H a=some (.dT x h)/\sG K H h/\mD K H b (k.map kV)/\r=MG h k|_=>False
def je(K:QC)(H:Hp)(a:Addr)(y v:V)(Q:Hp->Prop):Prop:=match y with
 | .str z=>(∃h,H a=some (.dK h)/\h.length<sizeLine/\Q (OA H a (.dK (vS h (.inr z) v))))∨∃u,H a=some (.dT u [])/\Q (OA H a (.dK [(.inr z,v)]))|.ref b=>∃u h k,H a=some (.dT u h)/\sG K H h/\mD K H b (k.map kV)/\h.length<sizeLine/\∀x,Q (OA H a (.dT x (FK h k b v)))|_=>False
theorem DM{v:V}{o:Option Value}(r:JR (some v) o):∃w,o=some w/\sA v w:=by
 cases o with|none=>exact(show False from r).elim|some w=>exact⟨w,rfl,r⟩
section
variable{X:Cx}
section
variable{c:TB}{s:Shared}{σ:St}{H:Hp}{a:Addr}{u:Value}{o:Option V}{h':Heap}{pos:Pos}
theorem B6(P:X.A.units+66<cLine):A1 X (λx y H Q=>∃a v,x=.ref a/\fP X.K H a y (some v)/\Q v H):=by
 intro n Y c s σ H x y v u Q I J C h E;obtain⟨a,r,rfl,g,q⟩:=h;cases J;cases y with
 |str z =>
  rcases g with⟨W,e,l⟩| ⟨N,e,l⟩
  rotate_left
  cases l;obtain⟨_,M,G,f,m⟩:=AQ I e;obtain⟨i,B,w⟩:=DM (v:=r) (o:=valueAt G (.inr z)) (by rw[l];exact f.val _);exact WD (x:=i) m.typeIs QAd.lookup
   (wpAny_getItem_of (Q:=λr Z=>r=i/\EP X c σ Q r Z) (KJ (k:=.inr z) C) m.mapOf B ⟨rfl,r,H,I.tok _,w,q⟩) E
 |ref b =>
  obtain⟨N,W,k,e,hk,O,l⟩:=g;cases C;obtain⟨_,M,F,f,m⟩:=UJ I e hk;obtain⟨i,B,w⟩:=DM (v:=r) (o:=(atKey F k).map (·.2)) (by rw[l];exact f.val _);obtain⟨p,L,j⟩:=Option.map_eq_some_iff.mp B;refine WD (x:=i) m.typeIs QAd.lookup
   (wpAny_getItem_heap (Q:=λr Z=>r=i/\EP X c σ Q r Z) (WF (by omega)) (US I O) m L ?_) E
  exact⟨j,r,H,I.tok _,by rw[j];exact w,q⟩
 |_=>exact Qc g
theorem M6(r:X.A.units+66<cLine){y:V}{Q:VK}(I:Inv X c σ H s)(f:sA y u)(g:fP X.K H a y o)(q:Q (.bl o.isSome) H) :
  wpAny (model X.prog X.w) X.A (compareOp .In u (.ref a)) (EP X c σ Q) X.xe s:=by
 cases y with
 |str z =>
  rcases g with⟨i,e,l⟩| ⟨j,e,l⟩
  rotate_left
  subst l;obtain⟨x,v⟩:=o0 I e;exact wpAny_in_of (KJ (k:=.inr z) f) x v.mapOf ⟨.bl false,H,I.tok _,rfl,q⟩;obtain⟨_,x,p,h,v⟩:=AQ I e;refine wpAny_in_of (KJ (k:=.inr z) f) x v.mapOf ⟨.bl o.isSome,H,I.tok _,?_,q⟩;rw[<- (h.val (.inr z)).isSome_eq,<- l];rfl
 |ref b=>obtain⟨j,i,k,e,hk,m,l⟩:=g;cases f;obtain⟨_,x,n,h,v⟩:=UJ I e hk;refine wpAny_in_heap (WF (by omega)) (US I m) x v ⟨.bl o.isSome,H,I.tok _,?_,q⟩;have q:=(h.val k).isSome_eq;rw[QAk]at q;rw[<- q,<- l];rfl|_=>exact Qc g
theorem tS(r:X.A.units+66<cLine){y:V}{Q:VK}(I:Inv X c σ H s)(f:sA y u)(g:fP X.K H a y o)(q:Q (.bl (!o.isSome)) H) :
  wpAny (model X.prog X.w) X.A (compareOp .NotIn u (.ref a)) (EP X c σ Q) X.xe s:=by
 cases y with
 |str z =>
  rcases g with⟨i,e,l⟩| ⟨j,e,l⟩
  rotate_left
  subst l;obtain⟨x,v⟩:=o0 I e;exact wpAny_notIn_of (KJ (k:=.inr z) f) x v.mapOf ⟨.bl true,H,I.tok _,rfl,q⟩;obtain⟨_,x,p,h,v⟩:=AQ I e;refine wpAny_notIn_of (KJ (k:=.inr z) f) x v.mapOf ⟨.bl (!o.isSome),H,I.tok _,?_,q⟩;rw[<- (h.val (.inr z)).isSome_eq,<- l];rfl
 |ref b=>obtain⟨j,i,k,e,hk,m,l⟩:=g;cases f;obtain⟨_,x,n,h,v⟩:=UJ I e hk;refine wpAny_notIn_heap (WF (by omega)) (US I m) x v ⟨.bl (!o.isSome),H,I.tok _,?_,q⟩;have q:=(h.val k).isSome_eq;rw[QAk]at q;rw[<- q,<- l];rfl|_=>exact Qc g
theorem FO{t':Nat}{h:HO}(I:Inv X c σ H s)(y:ce (H a))(v:qV a s.heap h')(k:∃q,h'.get? a=some q)(new:NA X.prog X.w (OA H a h) h' a h) :
  Inv X c σ (OA H a h) { s with heap:=h',toks:=t' } :=
 I.write (x:=a) (e:=a) y (.inl rfl) (λb q hb z=>(v.2 b hb).trans z) k new
theorem FL{t':Nat}{kvs:List KE}{xs:List (List Key×Addr×Value)}(I:Inv X c σ H s)(y:ce (H a))(v:(a==sysModules)=false)(hz:kvs.length<=sizeLine)(h:KD kvs xs)
  (i:h'.DictOfH (tupleKind (IA X.prog X.w)) a xs) (z:qV a s.heap h'):∃ep,Inv X c σ (OA H a (.dT ep kvs)) { s with heap:=h',toks:=t' }:=by
 obtain⟨q,g,ep,x,f,e,b,_,k⟩:=i;exact⟨ep,FO I y z ⟨q,x⟩ ⟨hz,v,xs,h,q,g,x,f,e,b,k⟩⟩
def setD(K:QC)(o y v:V)(H:Hp)(Q:Hp->Prop):Prop:=match o with
 | .ref a=>je K H a y v Q|_=>False
theorem GP(N:X.A.units+66<cLine):B7 X (setD X.K):=by
 intro c s σ H o y v L M u Q I B n m h;cases o with
 |ref a =>
  cases B;cases y with
  |str z =>
   rcases h with⟨f,e,l,q⟩| ⟨C,e,q⟩
   rotate_left
   obtain⟨i,j⟩:=o0 I e;refine QBT (hsz:=Q9 _) (KJ (k:=.inr z) n) j λh' x g=>⟨_,?_,q⟩
   have Z:∃q,h'.get? a=some q:=let⟨q,_,_,r,_⟩:=x;⟨q,r⟩
   exact FO I (by rw[e];exact True.intro) g Z ⟨by simp;decide,i,_,.cons ⟨rfl,m⟩ .nil,x⟩;obtain⟨p,i,J,w,j⟩:=AQ I e;have Y:(vS f (.inr z) v).length<=sizeLine:=by have:=ZQ f (.inr z) v;omega
   refine QBT (hsz:=by rw[<- w.length];exact p) (KJ (k:=.inr z) n) j λh' x g=>⟨_,?_,q⟩
   have Z:∃q,h'.get? a=some q:=let⟨q,_,_,r,_⟩:=x;⟨q,r⟩
   exact FO I (by rw[e];exact True.intro) g Z ⟨Y,i,_,w.put _ m,x⟩
  |ref b =>
   obtain⟨C,f,k,e,hk,E,l,q⟩:=h;cases n;obtain⟨p,i,G,w,j⟩:=UJ I e hk;have Y:(FK f k b v).length<=sizeLine:=by have:=KQ f k b v;omega
   refine wpAny_setItem_heap (hsz:=by rw[<- qZ w];exact p) (WF (by omega)) (US I E) j λh' x g=>?_;obtain⟨W,F⟩:=FL (t':=_) I (by rw[e];exact True.intro) i Y (w.put k b m) x g;exact⟨_,F,q W⟩
  |_=>exact Qc h
 |_=>exact Qc h
theorem G8{P:Program}{w:World}(h:Heap)(hb:sysModules<h.objs.size):NA P w H (h.push { cls:=.type "dict",data:=.dict #[] }) h.objs.size (.dT 0 []) :=
 ⟨Q9 _,beq_eq_false_iff_ne.mpr (Q6 (QZ hb)),[],.nil,_,#[],QN _ rfl,⟨rfl,rfl,rfl⟩,rfl,rfl,Q0⟩
theorem j5:PE X (.Dict [] [] pos) (λ_ H Q=>∀p,H p=none->Q (.ref p) (OA H p (.dT 0 []))):=λc s σ H Q I h =>
 wpAny_Dict_empty ⟨.ref s.heap.objs.size,_,I.laid (a:=s.heap.objs.size) (o:=.dT 0 []) (t':=s.toks) (λ_ _ q=>QH _ q) (QV _) (G8 s.heap (Inv.big I)),rfl,h _ (I.hok.fresh (QV _))⟩
theorem E4(hu:X.A.units+66<cLine){k v:Expr}{l j:TE}(hk:PE X k l)(B:PE X v j) :
  PE X (.Dict [some k] [v] pos) (λσ H Q=>∀p,H p=none->l σ (OA H p (.dT 0 [])) λy i=>j σ i λv h=>h p=some (.dT 0 [])/\∃b ks,y=.ref b/\mD X.K h b (ks.map kV)/\∀ep,Q (.ref p) (OA h p (.dT ep [(ks,b,v)]))):=by
 intro c s σ H Q I q;have F:=I.hok.fresh (QV s.heap.objs.size);have O:=I.laid (a:=s.heap.objs.size) (o:=.dT 0 []) (h':=s.heap.push { cls:=.type "dict",data:=.dict #[] }) (t':=s.toks) (λ_ _ q=>QH _ q) (QV _) (G8 s.heap (Inv.big I));refine wpAny_Dict_any rfl rfl (by simp) (by simp) (pairTrees_cons_walk (OB (hk c _ σ _ _ O (q _ F)) λu n ⟨y,i,N,Y,W⟩=>OB (B c n σ i _ N W) λm S ⟨z,h,g,r,e,b,ks,J,L,Z⟩=>pairTrees_nil_walk ?_));subst J;cases Y;obtain⟨hz,G,R,x,M⟩:=UJ g e (λp E=>nomatch E);cases x;show wpAny _ _ (forIn [(Value.ref b,m)] PUnit.unit _) _ _ _;rw[QA7];refine QA (QA (wpAny_dictSet_heap (hsz:=Q9 _) (show X.A.units<cLine by omega) (US g L) M λh' f C=>QK ?_));show wpAny _ _ (forIn ([]:List (Value×Value)) _ _) _ _ _;rw[QBO];obtain⟨w,P⟩:=FL (t':=_) (kvs:=[(ks,b,z)]) g (by rw[e];exact True.intro) G (by simp;decide) (.cons ⟨rfl,rfl,r⟩ .nil) f C;exact QK ⟨.ref _,_,P,rfl,Z w⟩
end
end
mutual
inductive Rep(K:QC)(H:Hp):V->PyData->Prop where
 |non:Rep K H .non .none
 |bl (b:Bool):Rep K H (.bl b) (.bool b)
 |int (i:Int):Rep K H (.int i) (.int i)
 |str (x:Str):Rep K H (.str x) (.str x)
 |lst {a:Addr}{xs:List V}{ds:List PyData}:XC K H a xs->Reps K H xs ds->Rep K H (.ref a) (.list ds)
 |tup {a:Addr}{xs:List V}{ds:List PyData}:mD K H a xs->Reps K H xs ds->Rep K H (.ref a) (.tuple ds)
 |dct {b:Bool}{a:Addr}{o:HO}{ks:List PyData}{xs:List V}{ds:List PyData}:H a=some o->KI K H b o ks xs->Reps K H xs ds->Rep K H (.ref a) (.dict (ks.zip ds))
inductive Reps(K:QC)(H:Hp):List V->List PyData->Prop where
 |nil:Reps K H [] []
 |cons {x:V}{d:PyData}{xs:List V}{ds:List PyData}:Rep K H x d->Reps K H xs ds->Reps K H (x::xs) (d::ds)
end
section
variable{K:QC}{H:Hp}{R:List V->List PyData->Prop}{xs:List V}{ds:List PyData}
theorem Rep.both{P:V->PyData->Prop}(z:P .non .none)(v:∀b,P (.bl b) (.bool b))(int:∀i,P (.int i) (.int i))(str:∀x,P (.str x) (.str x))
    (lst:∀{a:Addr}{xs:List V}{ds:List PyData},XC K H a xs->Reps K H xs ds->R xs ds->P (.ref a) (.list ds))
    (tup:∀{a:Addr}{xs:List V}{ds:List PyData},mD K H a xs->Reps K H xs ds->R xs ds->P (.ref a) (.tuple ds))
    (dct:∀{b:Bool}{a:Addr}{o:HO}{ks:List PyData}{xs:List V}{ds:List PyData},H a=some o->KI K H b o ks xs->Reps K H xs ds->R xs ds->P (.ref a) (.dict (ks.zip ds)))
    (u:R [] []) (y:∀{x:V}{d:PyData}{xs:List V}{ds:List PyData},Rep K H x d->Reps K H xs ds->P x d->R xs ds->R (x::xs) (d::ds)) :
    (∀{x:V}{d:PyData},Rep K H x d->P x d)/\∀{xs:List V}{ds:List PyData},Reps K H xs ds->R xs ds :=
  ⟨λh=>Rep.rec (motive_1:=λx d _=>P x d) (motive_2:=λx d _=>R x d) z v int str @lst @tup @dct u @y h,
   λh=>Reps.rec (motive_1:=λx d _=>P x d) (motive_2:=λx d _=>R x d) z v int str @lst @tup @dct u @y h⟩
theorem Reps.ind(z:R [] [])(y:∀{x:V}{d:PyData}{xs:List V}{ds:List PyData},Rep K H x d->R xs ds->R (x::xs) (d::ds))(h:Reps K H xs ds):R xs ds :=
 (Rep.both (P:=λ_ _=>True) trivial (λ_=>trivial) (λ_=>trivial) (λ_=>trivial) (λ_ _ _=>trivial) (λ_ _ _=>trivial) (λ_ _ _ _=>trivial) z λh _ _ r=>y h r).2 h
theorem Reps.length(h:Reps K H xs ds):xs.length=ds.length:=Reps.ind (R:=λxs ds=>xs.length=ds.length) rfl (λ_ e=>congrArg Nat.succ e) h
end
section
variable{X:Cx}{l:TB}{σ:St}{H:Hp}{s:Shared}
section
variable{kvs:List (Key×V)}{xs:List (List Key×Addr×Value)}{vs:List (Key×Value)}
theorem kS{k:List Key}:∀{us:List Value},bA (k.map kV) us->∃y,ReadsAll s.heap us (k.map kD) y:=by
 induction k with
 |nil=>intro us h;cases h;exact⟨_,.nil⟩|cons x k z =>
  intro us h;cases h with
  |cons e r =>
   obtain⟨y,q⟩:=z r;cases x with|inl i=>obtain⟨t,rfl⟩:=e;exact⟨_,.cons (.int i t) q⟩|inr x=>obtain⟨t,rfl⟩:=e;exact⟨_,.cons (.str x t) q⟩
theorem yY(I:Inv X l σ H s){kvs:List KE}(r:KD kvs xs)(hk:sG X.K H kvs):∃y,ReadsAll s.heap (xs.map λx=>.ref x.2.1) (kvs.map λp=>tD p.1) y:=by
 induction r with|nil=>exact⟨_,.nil⟩|@cons p x _ _ h t w=>obtain⟨y,q⟩:=w λp k=>hk p (QE _ k);obtain⟨v,z,⟨o,e,c,n,d⟩,_⟩:=I.tuple (hk p QD);obtain⟨bs,u⟩:=kS (s:=s) z;rw[h.2.1]at e;exact⟨_,.cons (.tuple e c d (by simpa using u)) q⟩
theorem PP{P:Program}{w:World}{es:List DictEntry}(hk:KV kvs vs)(u:Pairs (IA P w) es vs):(∃v,ReadsAll s.heap (es.map (·.key)) (kvs.map λp=>kD p.1) v)/\es.map (·.val)=vs.map (·.2):=by
 unfold KV at hk;induction hk generalizing es with
 |nil=>cases u;exact⟨⟨_,.nil⟩,rfl⟩|cons h t e =>
  cases u with
  |cons a b c =>
   obtain⟨⟨v,q⟩,k⟩:=e c;refine⟨?_,by rw[QO,QO,k,b]⟩;rw[QO,QO];rw[<- h.1]at a;rcases yB a with⟨i,t,z,y⟩| ⟨x,t,z,y⟩
   rw[z,y];exact⟨_,.cons (.int i t) q⟩;rw[z,y];exact⟨_,.cons (.str x t) q⟩
theorem K3{kvs:List KE}(r:KD kvs xs):bA (kvs.map (·.2.2)) (xs.map (·.2.2)):=by
 induction r with|nil=>exact .nil|cons h _ x=>exact .cons h.2.2 x
theorem Y3(r:KV kvs vs):bA (kvs.map (·.2)) (vs.map (·.2)):=by
 induction r with|nil=>exact .nil|cons h _ x=>exact .cons h.2 x
theorem MW(I:Inv X l σ H s){b:Bool}{a:Addr}{o:HO}{ks:List PyData}{xs:List V}(h:H a=some o)(q:KI X.K H b o ks xs):∃y es ep us,s.heap.get? a=some y/\y.cls=.type "dict"/\y.dict=none/\y.data=.dict es ep/\(a==sysModules)=false /\
  (∃m,ReadsAll s.heap (es.toList.map (·.key)) ks m)/\bA xs us/\es.toList.map (·.val)=us:=by
 cases b with
 |true=>obtain⟨f,kvs,rfl,rfl,rfl,hk,_⟩:=q;obtain⟨_,w,g,x,y,es,ep,e,u,k,v,_⟩:=UJ I h hk;refine⟨y,es,ep,_,e,u.1,u.2.1,k,w,?_,K3 x,?_⟩;rw[v,Qb];exact yY I x hk;rw[v,Qb];rfl|false =>
  rcases q with⟨kvs,_,rfl,rfl,rfl,_⟩| ⟨f,rfl,rfl,rfl⟩
  rotate_left
  obtain⟨_,w,g,x,y,es,ep,e,u,k,v,_⟩:=UJ I h λ_ z=>nomatch z;cases x;exact⟨y,es,ep,[],e,u.1,u.2.1,k,w,⟨_,by rw[v];exact .nil⟩,.nil,by rw[v];rfl⟩;obtain⟨_,w,vs,x,y,es,ep,e,u,k,_,v,_⟩:=AQ I h;obtain⟨j,i⟩:=PP (s:=s) x v;exact⟨y,es,ep,_,e,u.1,u.2.1,k,w,j,Y3 x,i⟩
theorem Rep.reads2(I:Inv X l σ H s):(∀{x:V}{d:PyData},Rep X.K H x d->∀u,sA x u->∃y,Reads s.heap u d y)/\∀{xs:List V}{ds:List PyData},Reps X.K H xs ds->∀us,bA xs us->∃y,ReadsAll s.heap us ds y:=by
 refine Rep.both (P:=λx d=>∀u,sA x u->∃y,Reads s.heap u d y) (R:=λxs ds=>∀us,bA xs us->∃y,ReadsAll s.heap us ds y) (λu r=>?_) (λb u r=>?_) (λi u r=>?_) (λx u r=>?_) (λh q v u r=>?_) (λh q v u r=>?_) (λ{b a o w xs ds} h q r v u p=>?_) (λus r=>?_) λ_ _ Z Y us r=>?_;cases r;exact⟨_,.none⟩;cases r;exact⟨_,.bool b⟩;obtain⟨t,rfl⟩:=r;exact⟨_,.int i t⟩;obtain⟨t,rfl⟩:=r;exact⟨_,.str x t⟩;cases r;obtain⟨g,k,⟨o,n,e,c,_,d⟩,_⟩:=I.list h;obtain⟨y,z⟩:=v _ k;exact⟨_,.list e c d (by simpa using z)⟩;cases r;obtain⟨g,k,⟨o,e,c,n,d⟩,_⟩:=I.tuple h;obtain⟨y,z⟩:=v _ k;exact⟨_,.tuple e c d (by simpa using z)⟩;cases p;obtain⟨L,O,Q,us,F,E,N,C,M,⟨y,B⟩,A,W⟩:=MW I h q;obtain⟨bs,f⟩:=v _ A;have j:w.length=ds.length:=by rw[q.len,Reps.length r]
 have J:(w.zip ds).map (λx=>x.1)=w:=W9 (Wx j);have G:(w.zip ds).map (λx=>x.2)=ds:=QAA (Wx j.symm);exact⟨_,.dict F E C (by rw[J];exact B) (by rw[G,W];exact f)⟩;cases r;exact⟨_,.nil⟩;cases r with|cons r m=>obtain⟨y,z⟩:=Z _ r;obtain⟨bs,f⟩:=Y _ m;exact⟨_,.cons z f⟩
theorem Rep.reads(I:Inv X l σ H s){x:V}{d:PyData}{u:Value}(h:Rep X.K H x d)(r:sA x u):∃y,Reads s.heap u d y:=(Rep.reads2 I).1 h u r
def JF(d:PyData):Prop:=d.canLay0=true/\d.depth<=64
noncomputable def rEq(K:QC)(neg:Bool):R2:=λx y H Q=>match x,y with
 | .int i,.int j=>Q (.bl (if neg then !decide (i=j) else decide (i=j))) H|.str a,.str b=>Q (.bl (if neg then !decide (a=b) else decide (a=b))) H|.bl a,.bl b=>Q (.bl (if neg then !decide (a=b) else decide (a=b))) H|x,y=>∃z h,Rep K H x z/\Rep K H y h/\JF z/\JF h/\Q (.bl (if neg then !PyData.eqv z h else Q3 z h)) H
theorem op_eq(B:X.A.units+64<cLine):KF X (compareOp .Eq) (rEq X.K false):=by
 intro l s σ H x y v u Q I n m h;have z:(∃e k,Rep X.K H x e/\Rep X.K H y k/\JF e/\JF k/\Q (.bl (if false=true then !PyData.eqv e k else Q3 e k)) H)->wpAny (model X.prog X.w) X.A (compareOp .Eq v u) (EP X l σ Q) X.xe s:=by rintro⟨e,k,g,f,⟨Y,W⟩,⟨r,Z⟩,q⟩;obtain⟨C,p⟩:=g.reads I n;obtain⟨bs,o⟩:=f.reads I m;exact SeqAt.compareEq_reads p o Y r (by omega) ⟨.bl _,H,I,rfl,q⟩
 have sc:E3 x y=true->Q (.bl (decide (x=y))) H->wpAny (model X.prog X.w) X.A (compareOp .Eq v u) (EP X l σ Q) X.xe s:=λg f=>_root_.L2.op_eq l s σ H x y v u Q I n m ⟨g,f⟩;cases x with
 |int i =>
  cases y with|int j=>exact sc rfl (by simpa[rEq]using h)|_=>exact z h
 |str a =>
  cases y with|str b=>exact sc rfl (by simpa[rEq]using h)|_=>exact z h
 |bl a =>
  cases y with|bl b=>exact sc rfl (by simpa[rEq]using h)|_=>exact z h
 |_=>exact z h
theorem op_ne(B:X.A.units+64<cLine):KF X (compareOp .NotEq) (rEq X.K true):=by
 intro l s σ H x y v u Q I n m h;have z:(∃e k,Rep X.K H x e/\Rep X.K H y k/\JF e/\JF k/\Q (.bl (if true=true then !PyData.eqv e k else Q3 e k)) H)->wpAny (model X.prog X.w) X.A (compareOp .NotEq v u) (EP X l σ Q) X.xe s:=by rintro⟨e,k,g,f,⟨Y,W⟩,⟨r,Z⟩,q⟩;obtain⟨C,p⟩:=g.reads I n;obtain⟨bs,o⟩:=f.reads I m;exact SeqAt.compareNe_reads p o Y r (by omega) ⟨.bl _,H,I,rfl,q⟩
 have sc:E3 x y=true->Q (.bl (!decide (x=y))) H->wpAny (model X.prog X.w) X.A (compareOp .NotEq v u) (EP X l σ Q) X.xe s:=λg f=>_root_.L2.op_ne l s σ H x y v u Q I n m ⟨g,f⟩;cases x with
 |int i =>
  cases y with|int j=>exact sc rfl (by simpa[rEq]using h)|_=>exact z h
 |str a =>
  cases y with|str b=>exact sc rfl (by simpa[rEq]using h)|_=>exact z h
 |bl a =>
  cases y with|bl b=>exact sc rfl (by simpa[rEq]using h)|_=>exact z h
 |_=>exact z h
def RV(f:Int->Int->Bool):R2:=λx y H Q=>match x,y with
 | .int i,.int j=>Q (.bl (f i j)) H|_,_=>False
theorem xO{z:CmpOp}{f:Int->Int->Bool}(a:KF X (compareOp z) (Z4 λi j=>.bl (f i j))):KF X (compareOp z) (RV f):=by
 intro l s σ H x y v u Q I k w h;cases x with
 |int i =>
  cases y with|int j=>exact a l s σ H _ _ v u Q I k w ⟨i,j,rfl,rfl,h⟩|_=>exact Qc h
 |_=>exact Qc h
def inStr(b a:Str):Bool:=match a.cps.toList with
 |[c]=>decide (c∈b.cps.toList)|_=>!(wx b a 0 b.length 1).isEmpty
theorem HQ(b a:Str):inStr b a=!(wx b a 0 b.length 1).isEmpty:=by
 unfold inStr;split;rename_i c e;have x:a=⟨#[c]⟩:=by
  obtain⟨h⟩:=a;have:h=#[c]:=by apply W8.mp;simpa using e
  rw[this]
 rw[x];exact(StrLaws.found_one b c).symm;rfl
noncomputable def jQ(K:QC)(neg:Bool):R2:=λx y H Q=>match y with
 | .str b=>match x with
  | .str a=>Q (.bl (if neg then !inStr b a else inStr b a)) H|_=>False
 | .ref p=>Aj K neg x (.ref p) H Q∨(∃d h,Rep K H x d/\(Rep K H (.ref p) (.list h)∨Rep K H (.ref p) (.tuple h))/\JF d/\JF (.list h)/\Q (.bl (if neg then !(h.any λy=>Q3 y d) else h.any λy=>Q3 y d)) H)∨(∃o,fP K H p x o/\Q (.bl (if neg then !o.isSome else o.isSome)) H)|_=>False
theorem HM{ds:List PyData}(h:JF (.list ds)):wP ds=true/\WI ds<=63:=by obtain⟨x,y⟩:=h;simp only[WU]at x;simp only[QAa]at y;exact⟨x,by omega⟩
theorem Pf(r:X.A.units+66<cLine):KF X (compareOp .In) (jQ X.K false):=by
 intro l s σ H x y v u Q I k z h;cases y with
 |str b =>
  cases x with|str a=>refine kW l s σ H _ _ v u Q I k z ⟨a,b,rfl,rfl,?_⟩;rw[<- HQ];simpa[jQ]using h|_=>exact Qc h
 |ref p =>
  rcases h with h|⟨d,Y,n,w,i,m,q⟩| ⟨o,g,q⟩
  rotate_left 2
  cases z;exact M6 r I k g q;exact vW l s σ H _ _ v u Q I k z h;obtain⟨W,f⟩:=n.reads I k;obtain⟨j,Z⟩:=HM m;rcases w with w|w;obtain⟨bs,e⟩:=w.reads I z;exact SeqAt.in_list_reads e f j i.1 (by omega) ⟨.bl _,H,I,rfl,q⟩;obtain⟨bs,e⟩:=w.reads I z;exact SeqAt.in_tuple_reads e f j i.1 (by omega) ⟨.bl _,H,I,rfl,q⟩
 |_=>exact Qc h
theorem VY(r:X.A.units+66<cLine):KF X (compareOp .NotIn) (jQ X.K true):=by
 intro l s σ H x y v u Q I k z h;cases y with
 |str b =>
  cases x with|str a=>refine uO l s σ H _ _ v u Q I k z ⟨a,b,rfl,rfl,?_⟩;rw[<- HQ];simpa[jQ]using h|_=>exact Qc h
 |ref p =>
  rcases h with h|⟨d,Y,n,w,i,m,q⟩| ⟨o,g,q⟩
  rotate_left 2
  cases z;exact tS r I k g q;exact bO l s σ H _ _ v u Q I k z h;obtain⟨W,f⟩:=n.reads I k;obtain⟨j,Z⟩:=HM m;rcases w with w|w;obtain⟨bs,e⟩:=w.reads I z;exact SeqAt.notIn_list_reads e f j i.1 (by omega) ⟨.bl _,H,I,rfl,q⟩;obtain⟨bs,e⟩:=w.reads I z;exact SeqAt.notIn_tuple_reads e f j i.1 (by omega) ⟨.bl _,H,I,rfl,q⟩
 |_=>exact Qc h
end
end
def Cn(z:Str):It:=⟨λi _=>i<z.cps.size,λi H x h=>h=H/\∃c,z.cps[i]?=some c/\x=.str ⟨#[c]⟩,λi _=>z.cps.size<=i⟩
theorem sX{P:Program}{w:World}{K:QC}{tg:Expr}(it:Addr)(z:Str)(t:Tok):Turn P w K tg (Cn z) [it] it (λi h=>h.IsStrIter it (strIterType z) z t i) where
 mem:=by simp
 obj:=λi h st b hb=>by
  have e:b=it:=by simpa using hb
  subst e;obtain⟨o,e,c,d⟩:=st;exact⟨o,e,λv z=>by rw[d]at z;cases z⟩
 keep:=λi h a st k=>by obtain⟨o,e,r⟩:=st;exact⟨o,k it (by simp) o e,r⟩
 item:=by
  intro X O J R N i g s G H E I q st M;subst O J R;obtain⟨C,B,f2,W,Z,Y⟩:=q it (by simp);have L:i<z.cps.size:=M;obtain⟨F,l⟩:∃F,z.cps[i]?=some F:=⟨_,WV L⟩
  have p:∀a,a.IsStrIter it (strIterType z) z t (i+1)->qV it s.heap a->∃u,some (Value.str ⟨#[F]⟩ s.toks)=some u /\
    wpAny (model X.prog X.w) X.A (letOwnedTupleGo tg (.ref it) u) (λ_ s2=>∃x H',Inv X g G H' s2/\sA x u/\(Cn z).yld i H x H'/\s2.heap.IsStrIter it (strIterType z) z t (i+1)/\∀b∈[it],H' b=none) E { s with heap:=a,toks:=s.toks+1 }:=λa y m=>by
   have I1:Inv X g G H { s with heap:=a,toks:=s.toks+1 }:=I.turned (λb o hb e=>(m.2 b hb).trans e) C B W Z Y;obtain⟨o,e,c,d⟩:=id y;refine⟨_,rfl,LQ (s:={ s with heap:=a,toks:=s.toks+1 }) (n:=strIterType z) e c d ?_ ⟨.str ⟨#[F]⟩,H,I1,⟨_,rfl⟩,⟨rfl,_,l,rfl⟩,y,λb hb=>(q b hb).1⟩⟩;unfold strIterType;split<;>decide
  cases j:z.cps.all (· < 128) with
  |false =>
   have f:strIterType z="str_iterator":=by simp[strIterType,j]
   exact wpAny_pyNext_wide_item (by rw[<- f];exact st) l λa y m=>p a (by rw[f];exact y) m
  |true =>
   have f:strIterType z="str_ascii_iterator":=by simp[strIterType,j]
   exact wpAny_pyNext_ascii_item (by rw[<- f];exact st) l λa y m=>p a (by rw[f];exact y) m
 done:=by
  intro X O J R N i g s G H E I q st M;subst O J R;obtain⟨C,B,f2,W,Z,Y⟩:=q it (by simp);have l:z.cps[i]?=none:=by rw[Array.getElem?_eq_none_iff];exact M
  cases j:z.cps.all (· < 128) with
  |false =>
   have f:strIterType z="str_iterator":=by simp[strIterType,j]
   rw[f]at st;exact wpAny_pyNext_wide_end (I.ok.hd N) st l λa S=>⟨rfl,I.turned (t':=s.toks) (λb o hb e=>S b o hb e) C B W Z Y⟩
  |true =>
   have f:strIterType z="str_ascii_iterator":=by simp[strIterType,j]
   rw[f]at st;exact wpAny_pyNext_ascii_end (I.ok.hd N) st l λa S=>⟨rfl,I.turned (t':=s.toks) (λb o hb e=>S b o hb e) C B W Z Y⟩
 self:=by
  intro A i s Q E st h;cases j:z.cps.all (· < 128) with
  |false =>
   have f:strIterType z="str_iterator":=by simp[strIterType,j]
   rw[f]at st;exact wpAny_pyIter_striter_wide st h
  |true =>
   have f:strIterType z="str_ascii_iterator":=by simp[strIterType,j]
   rw[f]at st;exact wpAny_pyIter_striter_ascii st h
section
variable{X:Cx}
theorem ML:∀{bs:List Bool}{us:List Value},bA (bs.map V.bl) us->∀(i:Nat) (v:Value),us[i]?=some v->∃b,bs[i]?=some b/\v=Value.bool b
 |[],_,.nil,i,v,h=>by simp at h|b::bs,_,.cons r t,0,v,h=>by simp at h;subst h;exact⟨b,by simp,r⟩|b::bs,_,.cons r t,i+1,v,h=>by obtain⟨c,y,x⟩:=ML (bs:=bs) t i v (by simpa using h);exact⟨c,by simpa using y,x⟩
theorem PV(bs:List Bool):(qC bs.length).all (λi=>bs.getD i true)=bs.all id:=by
 rw[qW,qH,qH];constructor;intro h b hb;obtain⟨i,y,e⟩:=QBU hb;have:=h i (by simpa using y);simp[QBA,y,e]at this;simpa using this;intro h i y;have x:i<bs.length:=by simpa using y
 have:=h bs[i] (QAB x);simpa[QBA,x]using this
theorem OV(bs:List Bool):(qC bs.length).any (λi=>bs.getD i false)=bs.any id:=by
 rw[qW,Wa,Wa];constructor;rintro⟨i,x,e⟩;have h:i<bs.length:=by simpa using x
 exact⟨bs[i],QAB h,by simpa[QBA,h]using e⟩;rintro⟨b,hb,e⟩;obtain⟨i,x,y⟩:=QBU hb;exact⟨i,by simpa using x,by simp[QBA,x,y];simpa using e⟩
def Bf(K:QC):List V->Hp->VK->Prop:=λh H Q=>match h with
 |[.ref a]=>∃bs:List Bool,XC K H a (bs.map V.bl)/\Q (.bl (bs.all id)) H|_=>False
def Uf(K:QC):List V->Hp->VK->Prop:=λh H Q=>match h with
 |[.ref a]=>∃bs:List Bool,XC K H a (bs.map V.bl)/\Q (.bl (bs.any id)) H|_=>False
theorem A0(m:X.calm=true):eF X (.builtin "all") (Bf X.K):=by
 intro k s W H g B Q I r h
 match g,h with
 |[.ref a],⟨bs,hq,q⟩ =>
  obtain⟨u,rfl,l⟩:=aJ r;cases l;obtain⟨x,w,p,E⟩:=I.list hq;have f:=w.length;rw[QG]at f;refine call_all_walk (wl p.isList ?_);have y:a<s.heap.objs.size:=by obtain⟨o,n,e,_⟩:=p;exact QR e
  refine⟨s.heap.objs.size,_,_,_,_,_,λi=>bs.getD i true,rfl,QBs (A:=X.A.in1) (I.ok.hd m) s.heap.objs.size a (QZ y) x.toArray,⟨⟨_,QN _ rfl,rfl,rfl⟩,?_⟩,?_,?_⟩;obtain⟨o,n,e,c,d,sq⟩:=p;exact⟨o,QH _ e,c,n,sq⟩;intro i v C G J Y z;obtain⟨b,hb,rfl⟩:=ML w i v (by simpa using Y);refine wO ?_;have:bs.getD i true=b:=by simp[QBA,hb]
  rw[<- this];exact z;intro F j hk;have Z:(qC x.toArray.size).all (λi=>bs.getD i true)=bs.all id:=by rw[QT,<- f,PV]
  rw[Z];exact⟨.bl _,H,I.kept (t':=j) (λb o e=>hk b o (by simp;exact QZ (QR e)) (QH _ e)),rfl,q⟩
theorem T0(m:X.calm=true):eF X (.builtin "any") (Uf X.K):=by
 intro k s W H g B Q I r h
 match g,h with
 |[.ref a],⟨bs,hq,q⟩ =>
  obtain⟨u,rfl,l⟩:=aJ r;cases l;obtain⟨x,w,p,E⟩:=I.list hq;have f:=w.length;rw[QG]at f;refine call_any_walk (wl p.isList ?_);have y:a<s.heap.objs.size:=by obtain⟨o,n,e,_⟩:=p;exact QR e
  refine⟨s.heap.objs.size,_,_,_,_,_,λi=>bs.getD i false,rfl,QBs (A:=X.A.in1) (I.ok.hd m) s.heap.objs.size a (QZ y) x.toArray,⟨⟨_,QN _ rfl,rfl,rfl⟩,?_⟩,?_,?_⟩;obtain⟨o,n,e,c,d,sq⟩:=p;exact⟨o,QH _ e,c,n,sq⟩;intro i v C G J Y z;obtain⟨b,hb,rfl⟩:=ML w i v (by simpa using Y);refine wO ?_;have:bs.getD i false=b:=by simp[QBA,hb]
  rw[<- this];exact z;intro F j hk;have Z:(qC x.toArray.size).any (λi=>bs.getD i false)=bs.any id:=by rw[QT,<- f,OV]
  rw[Z];exact⟨.bl _,H,I.kept (t':=j) (λb o e=>hk b o (by simp;exact QZ (QR e)) (QH _ e)),rfl,q⟩
def Zf(K:QC):List V->Hp->VK->Prop:=λx H Q=>(∃z,x=[.str z]/\z.length<=sizeLine/\Q (.int z.length) H)∨∃a h,x=[.ref a]/\(XC K H a h∨mD K H a h)/\Q (.int h.length) H
theorem O0:eF X (.builtin "len") (Zf X.K):=λx s y H z u Q I r h=>h.elim (AO x s y H z u Q I r) (EO x s y H z u Q I r)
def cV:V->Option Value
 | .ty n=>some (.type n)|.ref C=>some (.ref C)|_=>none
def zo(K:QC)(H:Hp)(x:V)(t:Value):Prop:=(∃a h,x=.ref a/\XC K H a h/\t=.type "list")∨∃a h,x=.ref a/\mD K H a h/\t=.type "tuple"
def E9(K:QC):List V->Hp->VK->Prop:=λy H Q=>match y with
 |[x,c]=>∃t h b,(TyOf K H x t∨zo K H x t)/\cV c=some h/\QBN K t h=some b/\Q (.bl b) H|_=>False
theorem R0:eF X (.builtin "isinstance") (E9 X.K):=by
 intro m s Y H w Z Q I r h
 match w,h with
 |[x,c],⟨t,cv,b,ty,hc,hk,q⟩ =>
  obtain⟨u,k,rfl,f,v⟩:=L7 r;have e:k=cv:=by
   cases c with|ty n=>have l:k=Value.type n:=v;have j:some (Value.type n)=some cv:=hc;rw[l];exact qE j|ref C=>have l:k=Value.ref C:=v;have j:some (Value.ref C)=some cv:=hc;rw[l];exact qE j|_=>cases hc
  subst e;rcases ty with ty|⟨a,w,rfl,i,rfl⟩| ⟨a,w,rfl,i,rfl⟩
  exact KW I f ty hk λy=>⟨.bl b,H,I.tok y,rfl,q⟩
  cases f;obtain⟨g,p,⟨o,n,e,c,_,d⟩,_⟩:=I.list i;exact qQ QAi I.kIn ⟨o,e,c⟩ hk (λz=>nomatch z) λy=>⟨.bl b,H,I.tok y,rfl,q⟩
  cases f;obtain⟨g,p,⟨o,e,c,n,d⟩,_⟩:=I.tuple i;exact qQ QBe I.kIn ⟨o,e,c⟩ hk (λz=>nomatch z) λy=>⟨.bl b,H,I.tok y,rfl,q⟩
def Tj(K:QC):V->Option Int->Option Int->Hp->VK->Prop:=λx h y H Q=>match x with
 | .str z=>z.length<=sizeLine/\Q (.str (QCa z h y)) H|.ref a=>rf K (.ref a) h y H Q∨mf K (.ref a) h y H Q|_=>False
theorem F9:zj X (Tj X.K):=by
 intro y s n H x v G E Z C b Q I r B Y e h;cases x with
 |str z =>
  obtain⟨t,rfl⟩:=r;obtain⟨L,q⟩:=h;refine⟨"str",_,F.slot_str_getitem.lookup,QCV _ _ _,?_⟩;have fin:∀l u:Option (Int×Tok),l.map (·.1)=Z->u.map (·.1)=C->s.heap.IsSlice b l u none->wpAny (model X.prog X.w) X.A (getItem (.str z t) (.ref b)) (EP X y n Q) X.xe s:=λl u N M W=>by refine wpAny_getItem_str_slice W rfl ?_;subst N M;exact post_val_or_str ⟨QY (Txt.slice_le z _ _) L,λO k=>⟨.str (QCa z _ _),H,I.tok k,⟨_,rfl⟩,q⟩⟩
  obtain⟨o,f,m,g⟩:=B;cases Y with
  |none =>
   cases e with|none=>exact fin none none rfl rfl ⟨o,f,m,g⟩|int j p=>exact fin none (some (j,p)) rfl rfl ⟨o,f,m,g⟩
  |int i J =>
   cases e with|none=>exact fin (some (i,J)) none rfl rfl ⟨o,f,m,g⟩|int j p=>exact fin (some (i,J)) (some (j,p)) rfl rfl ⟨o,f,m,g⟩
 |ref a=>rcases h with h|h;exact T3 y s n H _ v G E Z C b Q I r B Y e h;exact D9 y s n H _ v G E Z C b Q I r B Y e h
 |_=>exact Qc h
end
section
variable{h h':Heap}{j:Addr}{z:Src}{k:Nat}{xs:Array Value}
inductive Src where
 |l (a:Addr)|t (a:Addr)
def Src.adr:Src->Addr
 | .l a=>a|.t a=>a
def VC(h:Heap)(j:Addr):Src->Nat->Prop
 | .l a,k=>h.IsListIter j a k|.t a,k=>h.IsTupleIter j a k
def BB(h:Heap):Src->Array Value->Prop
 | .l a,xs=>h.IsList a xs|.t a,xs=>h.IsTuple a xs
theorem VC.keep(x:VC h j z k)(e:∀o,h.get? j=some o->h'.get? j=some o):VC h' j z k:=by
 cases z with|l a=>obtain⟨o,u,y⟩:=x;exact⟨o,e o u,y⟩|t a=>obtain⟨o,u,y⟩:=x;exact⟨o,e o u,y⟩
theorem VC.obj(x:VC h j z k):∃o,h.get? j=some o/\∀v,o.data≠.cell v:=by
 cases z with|l a=>obtain⟨o,u,w,y⟩:=x;exact⟨o,u,λv q=>by rw[y]at q;cases q⟩|t a=>obtain⟨o,u,w,y⟩:=x;exact⟨o,u,λv q=>by rw[y]at q;cases q⟩
theorem BB.ext{b:Addr}(x:BB h z xs)(e:QAt b h h')(n:z.adr≠b):BB h' z xs:=by
 cases z with|l a=>exact QCO.extBut x e n|t a=>exact Heap.IsTuple.extBut x e n
theorem BB.lt(x:BB h z xs):z.adr<h.objs.size:=by
 cases z with|l a=>obtain⟨o,y,_⟩:=x;exact QR y|t a=>obtain⟨o,y,_⟩:=x;exact QR y
theorem VC.lt(x:VC h j z k):j<h.objs.size:=by obtain⟨o,y,_⟩:=x.obj;exact QR y
end
section
variable{prog:Program}{w:World}{A:Around}{E:zC}{s:Shared}
section
variable{j t:Addr}{k:Nat}{xs:Array Value}{x:Value}{Q:zC}{z:Src}
theorem cb(p:s.heap.IsTupleIter j t k)(pt:s.heap.IsTuple t xs)(a:xs[k]?=some x)
  (q:∀h',h'.IsTupleIter j t (k+1)->qV j s.heap h'->Q x { s with heap:=h' }):wpAny (model prog w) A (qe (.ref j)) Q E s:=by
 obtain⟨f,y,b,h⟩:=id p;obtain⟨e,v,_,g,u⟩:=pt;unfold qe;refine QA (qF (name:=Ql "__next__") p.typeIs qz (Q2 qz p.typeIs Wk ?_ (Wi _)));show wpAny _ _ (field (.ref j) 0 >>= _) _ _ _;refine QA (wa y h (x:=.ref t) rfl ?_);show wpAny _ _ (if(Value.ref t==Value.none)=true then _ else _) _ _ _;rw[if_neg (show ¬ (Value.ref t==Value.none)=true from QF)];show wpAny _ _ (field (.ref j) 1 >>= _) _ _ _;refine QA (wa y h (x:=.int k 0) rfl ?_);show wpAny _ _ (seqItems? (.ref t) >>= _) _ _ _;refine QA (QAe v u ?_);simp only[wm,a];refine QA (wE y h (by simp) (QK ⟨x,rfl,QK (q _ ?_ (qP ..))⟩));refine⟨_,Q4 _ y (ql (Q7 h _)),(WO ..).trans b,?_⟩;rw[Q7 h];simp[rawInt]
theorem sS(u:A.handled=none)(p:s.heap.IsTupleIter j t k)(pt:s.heap.IsTuple t xs)(f:xs[k]?=none)
  (q:∀h' e,QAt j s.heap h'->(∃o,h'.get? e=some o/\o.cls=.type "StopIteration")->E (.ref e) { s with heap:=h' }):wpAny (model prog w) A (qe (.ref j)) Q E s:=by
 obtain⟨i,y,n,h⟩:=id p;obtain⟨g,b,_,l,v⟩:=pt;unfold qe;refine QA (qF (name:=Ql "__next__") p.typeIs qz (Q2 qz p.typeIs Wk ?_ (Wi _)));show wpAny _ _ (field (.ref j) 0 >>= _) _ _ _;refine QA (wa y h (x:=.ref t) rfl ?_);show wpAny _ _ (if(Value.ref t==Value.none)=true then _ else _) _ _ _;rw[if_neg (show ¬ (Value.ref t==Value.none)=true from QF)];show wpAny _ _ (field (.ref j) 1 >>= _) _ _ _;refine QA (wa y h (x:=.int k 0) rfl ?_);show wpAny _ _ (seqItems? (.ref t) >>= _) _ _ _;refine QA (QAe b v ?_);simp only[wm,f];refine QA (QAN (QA (wE y h (by simp) ?_)));refine QA (m:=newExc (.type "StopIteration") []) ?_;simp only[newExc,newTuple];refine QA (Qu ?made (by size_fits));refine QA (m:=firstArgMember _ _) (Wd (a:=Value.none) (by first|rfl | (rw[firstArgMember];rfl)) ?arg);refine Qu ?made2 (by size_fits);simp only[raiseNew];refine QA (QAu ?_);first|rw[show A.in1.handled=none from u]|rw[u]
 refine QA (QK (QBV (q _ _ (((qP ..).extBut.push _).push _) ⟨_,QN _ rfl,rfl⟩)))
theorem A5(p:VC s.heap j z k)(pt:BB s.heap z xs)(h:xs[k]?=some x)
  (q:∀h',VC h' j z (k+1)->qV j s.heap h'->Q x { s with heap:=h' }):wpAny (model prog w) A (qe (.ref j)) Q E s:=by
 cases z with|l a=>exact wpAny_nextOf_list_item p pt h q|t a=>exact cb p pt h q
theorem AY(y:A.handled=none)(p:VC s.heap j z k)(pt:BB s.heap z xs)(h:xs[k]?=none)
  (q:∀h' e,QAt j s.heap h'->(∃o,h'.get? e=some o/\o.cls=.type "StopIteration")->E (.ref e) { s with heap:=h' }):wpAny (model prog w) A (qe (.ref j)) Q E s:=by
 cases z with|l a=>exact wpAny_nextOf_list_end y p pt h q|t a=>exact sS y p pt h q
def Src.it:Src->Obj
 | .l a=>{ cls:=.type "list_iterator",data:=.fields #[.ref a,.int 0 0] }|.t a=>{ cls:=.type "tuple_iterator",data:=.fields #[.ref a,.int 0 0] }
theorem UP(pt:BB s.heap z xs)(q:Q (.ref s.heap.objs.size) { s with heap:=s.heap.push z.it }):wpAny (model prog w) A (pyIter (.ref z.adr)) Q E s:=by
 cases z with|l a=>exact wl pt q|t a=>exact QBf pt q
theorem N3(h:Heap)(z:Src):VC (h.push z.it) h.objs.size z 0:=by
 cases z with|l a=>exact⟨_,QN _ rfl,rfl,rfl⟩|t a=>exact⟨_,QN _ rfl,rfl,rfl⟩
end
end
section
variable{prog:Program}{w:World}{A:Around}{E:zC}{s:Shared}
theorem N9{h h':Heap}{b:Addr}{z:Src}{xs:Array Value}(x:BB h z xs)(e:qV b h h')(n:z.adr≠b):BB h' z xs:=x.ext e.extBut n
end
section
variable{X:Cx}{w:TB}{σ:St}{H:Hp}{s:Shared}{h':Heap}
theorem _root_.L2.Inv.turnedL{t':Nat}{ch:List Addr}(I:Inv X w σ H s)(k:∀b o,b∉ch->s.heap.get? b=some o->h'.get? b=some o)(f:∀b∈ch,JI X w H b):Inv X w σ H { s with heap:=h',toks:=t' }:=by
 have h:∀b u,H b=some u->b∉ch:=λb u e z=>by rw[(f b z).1]at e;cases e
 have g:X.env.locals∉ch:=λz=>(f _ z).2.1 rfl;refine I.step (g':=s.gens) (d':=s.drawn) (ch:=ch) (λb hb=>?_) (λb o _ _ x e _=>k b o x e) (λb o _ _ x e _=>⟨o.slots,k b o x e⟩) (λ_ _ _ _ n=>n)
  (λb o x e=>⟨o,k b o x e⟩) (λ_ _ e=>e) (λ_ _ _ e=>e) (λb W e=>⟨#[],by rw[e];simp⟩) (λm a=>?_) (λb u e=>?_) I.bare
 obtain⟨_,p,_,l,j,i⟩:=f b hb;exact⟨l,p,j,i⟩;obtain⟨o,Y,Z,y,r⟩:=a;exact⟨o,Y,Z,k _ o g y,r⟩;refine(I.hok b u e).stay (λc v x q=>k c v ?_ q) (λ_ q=>q) λ_ _ q=>q;rcases x with z|z;rw[z];exact h b u e;exact h c _ z
def xM(K:QC)(H:Hp):Src->List V->Prop
 | .l a,xs=>XC K H a xs|.t a,xs=>mD K H a xs
theorem _root_.L2.Inv.src(I:Inv X w σ H s){z:Src}{xs:List V}(h:xM X.K H z xs):∃its:List Value,bA xs its/\BB s.heap z its.toArray/\xs.length<=sizeLine:=by
 cases z with|l a=>obtain⟨its,x,p,y⟩:=I.list h;exact⟨its,x,p.isList,y⟩|t a=>obtain⟨its,x,p,y⟩:=I.tuple h;exact⟨its,x,p,y⟩
theorem _root_.L2.Inv.src_inj(I:Inv X w σ H s){z:Src}{xs x:List V}(h:xM X.K H z xs)(h':xM X.K H z x):xs=x:=by
 cases z with|l a=>exact I.list_inj h h'|t a=>exact I.tuple_inj h h'
theorem _root_.L2.Inv.pair{p:Addr}{a b:Value}{x y:V}{t':Nat}(I:Inv X w σ H s)(k:∀b u,s.heap.get? b=some u->h'.get? b=some u)(v:s.heap.objs.size<=p)(e:h'.get? p=some { cls:=.type "tuple",data:=.seq #[a,b] })(z:sA x a)(h:sA y b) :
  Inv X w σ (OA H p (.tup [x,y])) { s with heap:=h',toks:=t' } :=
 I.laid k v ⟨by rw[QS];show 2<=_;decide,[a,b],.cons z (.cons h .nil),_,e,rfl,_,rfl⟩
end
noncomputable def ao(K:QC)(w u:Src):It :=
  ⟨λi H=>∃z h x y,xM K H w z/\xM K H u h/\z[i]?=some x/\h[i]?=some y,
   λi H v k=>∃p x y,H p=none/\v=.ref p/\k=OA H p (.tup [x,y])/\∀z h,xM K H w z->xM K H u h->z[i]?=some x/\h[i]?=some y,
   λi H=>∃z h,xM K H w z/\xM K H u h/\(z.length<=i∨h.length<=i)⟩
def lV(z TI TO y x:Addr)(v u:Src)(w:Value)(i:Nat)(h:Heap):Prop:=IsZip h z TI TO w/\IsPair h TI (.ref y) (.ref x)/\(∃a b,IsPair h TO a b)/\VC h y v i/\VC h x u i
theorem lV.keep{z TI TO y x:Addr}{a w:Src}{f:Value}{i:Nat}{h h':Heap}(st:lV z TI TO y x a w f i h)(k:∀b∈[z,TI,TO,y,x],∀o,h.get? b=some o->h'.get? b=some o):lV z TI TO y x a w f i h':=by obtain⟨n,m,⟨u,v,l⟩,j,g⟩:=st;exact⟨k z (by simp) _ n,k TI (by simp) _ m,⟨u,v,k TO (by simp) _ l⟩,j.keep λo e=>k y (by simp) o e,g.keep λo e=>k x (by simp) o e⟩
theorem rX{P:Program}{w:World}{K:QC}{es:List Expr}{kk:Nat}{pp:Pos}{z TI TO n m:Addr}{N M:Addr}(D:ZipApart z TI TO n m N M) :
  Turn P w K (.Tuple es kk pp) (ao K (.l N) (.l M)) [z,TI,TO,n,m] z (lV z TI TO n m (.l N) (.l M) .none) where
 mem:=by simp
 obj:=λi h st b hb=>by obtain⟨B,r,⟨u,v,A⟩,W,Z⟩:=st;simp only[QJ,Qh,or_false]at hb;rcases hb with rfl|rfl|rfl|rfl|rfl;exact⟨_,B,λv q=>by cases(show Data.fields _=Data.cell v from q)⟩;exact⟨_,r,λv q=>by cases(show Data.seq _ _=Data.cell v from q)⟩;exact⟨_,A,λv q=>by cases(show Data.seq _ _=Data.cell v from q)⟩;exact W.obj;exact Z.obj
 keep:=λi h h' st k=>st.keep k
 item:=by
  intro X hP hw hK hc i F s σ H E I O st hg;subst hP hw hK;obtain⟨xs,ys,x,y,R,Q,ex,ey⟩:=hg;obtain⟨L,rv,g,_⟩:=I.src R;obtain⟨J,j,f,_⟩:=I.src Q;obtain⟨u,hu,ru⟩:=rv.get ex;obtain⟨v,hv,S⟩:=j.get ey;obtain⟨B,r,⟨c,d,A⟩,W,Z⟩:=st;refine wpAny_pyNext_zip_item D B r A W Z g f (x:=u) (y:=v) (by simpa using hu) (by simpa using hv) λh' b1 b2 b3 b4 b5 b6 b7=>?_;refine⟨_,rfl,wpAny_letOwnedTupleGo_zip b1 λp c1 Y=>?_⟩;have kept:∀b o,b∉[z,TI,TO,n,m]->s.heap.get? b=some o->p.get? b=some o:=λb o hb e=>by simp only[QJ,Qh,or_false,not_or]at hb;exact(Y.2 b hb.1).trans (b7 b o hb.1 hb.2.2.1 hb.2.2.2.1 hb.2.2.2.2 e)
  have hp:=I.hok.fresh (QV s.heap.objs.size);have C:z<s.heap.objs.size:=QR B;have a:p.get? s.heap.objs.size=some { cls:=.type "tuple",data:=.seq #[u,v] }:=(Y.2 _ (qy C)).trans b5;have G:∀b∈[z,TI,TO,n,m],b<s.heap.objs.size:=λb hb=>by simp only[QJ,Qh,or_false]at hb;rcases hb with rfl|rfl|rfl|rfl|rfl;exact C;exact QR r;exact QR A;exact W.lt;exact Z.lt
  have I1:=I.pair (h':=s.heap.push { cls:=.type "tuple",data:=.seq #[u,v] }) (t':=s.toks) (λb o e=>QH _ e) (QV _) (QN _ rfl) ru S;have I2:=I1.turnedL (h':=p) (t':=s.toks) (ch:=[z,TI,TO,n,m]) (λb o hb e=>by
   rcases QAE e with⟨q1,q2⟩| q;subst q1 q2;exact a;exact kept b o hb q) λb hb=>by
   obtain⟨f0,f1,f2,f3,f4,f5⟩:=O b hb;exact⟨by rw[xA (QZ (G b hb))];exact f0,f1,f2,f3,f4,f5⟩
  refine⟨.ref s.heap.objs.size,_,I2,rfl,⟨s.heap.objs.size,x,y,hp,rfl,rfl,λxs' ys' g1 g2=>?_⟩,⟨c1,?_,⟨_,_,(Y.2 _ D.TOz).trans b2⟩,VC.keep (z:=.l N) b3 λo e=>(Y.2 _ D.i1z).trans e,VC.keep (z:=.l M) b4 λo e=>(Y.2 _ D.i2z).trans e⟩,λb hb=>?_⟩;rw[I.src_inj g1 R,I.src_inj g2 Q];exact⟨ex,ey⟩;exact(Y.2 _ D.TIz).trans (b7 _ _ D.TIz D.TITO D.TIi1 D.TIi2 r);rw[xA (QZ (G b hb))];exact(O b hb).1
 done:=by
  intro X hP hw hK hc i F s σ H E I O st hg;subst hP hw hK;obtain⟨xs,ys,R,Q,en⟩:=hg;obtain⟨L,rv,g,_⟩:=I.src R;obtain⟨J,j,f,_⟩:=I.src Q;obtain⟨B,r,⟨c,d,A⟩,W,Z⟩:=st;have q1:=rv.length;have q2:=j.length;have en':L.toArray[i]?=none∨J.toArray[i]?=none:=by rcases en with q|q;exact .inl (by simp;omega);exact .inr (by simp;omega)
  refine wpAny_pyNext_zip_end (I.ok.hd hc) D B r A W Z g f en' λh' kp=>⟨rfl,I.turnedL (t':=s.toks) (ch:=[z,TI,TO,n,m]) (λb o hb e=>?_) O⟩
  simp only[QJ,Qh,or_false,not_or]at hb;exact kp b o hb.1 hb.2.2.1 hb.2.2.2.1 hb.2.2.2.2 e
 self:=λ_ _ _ _ _ st h=>QCE st.1 h
section
variable{prog:Program}{w:World}{A:Around}{E:zC}{s:Shared}
section
variable{it d:Addr}{z:Obj}{es:Array DictEntry}{i ep:Nat}{c u:Value}{Q:Option Value->Shared->Prop}
theorem CD:QAJ "dict_itemiterator"=true:=by decide +kernel
theorem HI(l:List String)(h:(l.contains "dict_itemiterator" || l.contains "object")=false):(l.any λt=>[Value.type "dict_itemiterator",Value.type "object"].contains (.type t))=false:=by
 rw[QAh];intro t x;rw[Bool.or_eq_false_iff]at h;have v:t≠"dict_itemiterator":=λe=>by subst e;rw[Qp.mpr x]at h;cases h.1
 have y:t≠"object":=λe=>by subst e;rw[Qp.mpr x]at h;cases h.2
 simp[v,y]
theorem TY{e:DictEntry}
  (m:IsItemIter s.heap it d i es.size ep c u) (X:s.heap.get? d=some z) (B:z.data=.dict es ep) (I:es[i]?=some e)
  (q:∀h',IsItemIterOut h' it d (i+1) es.size ep e.key e.val s.heap.objs.size->h'.get? s.heap.objs.size=some { cls:=.type "tuple",data:=.seq #[e.key,e.val] } ->
   h'.objs.size=s.heap.objs.size+1->(∀b o,b≠it->s.heap.get? b=some o->h'.get? b=some o)->Q (some (.ref s.heap.objs.size)) { s with heap:=h' }) :
  wpAny (model prog w) A (pyNext (.ref it)) Q E s:=by
 have F:s.TypeIs (.ref it) "dict_itemiterator":=⟨_,m,rfl⟩
 show wpAny _ _ (bind _ _) _ _ _;refine QA (Wl (qF F qf (Q2 qf F Wz ?_ (Wv _))));show wpAny _ _ (bind _ _) _ _ _;refine QA (QK (QA (QA (QA (wJ F (QK (QA (WW m rfl ?_))))))));rw[CD];show wpAny _ _ (if(Value.ref d==Value.none)=true then _ else _) _ _ _;rw[if_neg (show ¬ (Value.ref d==Value.none)=true from QF)];show wpAny _ _ (wc (.ref d) >>= _) _ _ _;refine QA (QK (QA (wQ X B ?_)));rw[if_neg (show ¬ (((es.size:Nat):Int) != ((es.size:Nat):Int))=true by simp)];refine QA (QK (QA (WJ X B ?_)));rw[if_neg (show ¬ (((ep:Nat):Int) != ((ep:Nat):Int))=true by simp)];refine QK ?_;have J:(if((i:Nat):Int)<0 then none else es[((i:Nat):Int).toNat]?)=some e:=by rw[if_neg (by omega),wm];exact I
 simp only[J];refine QA ?_;show wpAny _ _ (typeNameOfWhole (.ref it) >>= _) _ _ _;refine QA (wJ F (QK (QA (Wr F ?_))));rw[CD,if_pos rfl];rw[show(List.any _ λt=>[Value.type "dict_itemiterator",Value.type "object"].contains (.type t))=false from HI _ (by decide +kernel),if_neg QF];refine QA (wY m (by simp) λa h r=>?_);have h:IsItemIter a it d (i+1) es.size ep c u:=h;refine QA (qO ?_);have C:({ s with heap:=a }:Shared).TypeIs (.ref it) "dict_itemiterator":=⟨_,h,rfl⟩
 show wpAny _ _ (Builtin.Dict_items.isOneOf (.ref it) _ >>= _) _ _ _;refine QA (Wr C ?_);rw[HI _ (by decide +kernel),if_neg QF];refine QA (Wr C ?_);rw[HI _ (by decide +kernel),if_neg QF];show wpAny _ _ (newTuple [e.key,e.val] >>= _) _ _ _;refine QA (QBP ?_);have p:a.objs.size=s.heap.objs.size:=r.1;have y:IsItemIter (a.push { cls:=.type "tuple",data:=.seq #[e.key,e.val] }) it d (i+1) es.size ep c u:=QH _ h;show wpAny _ _ (Builtin.Dict_items.ownedTupleIsFree (.ref it) >>= _) _ _ _;refine QA ?_;show wpAny _ _ (field (.ref it) 0 >>= _) _ _ _;refine QA (wa y rfl (x:=.none) rfl (QK ?_));rw[if_pos rfl];show wpAny _ _ (field (.ref it) 6 >>= _) _ _ _;refine QA (wa y rfl (x:=c) rfl ?_);refine QA (wa y rfl (x:=u) rfl ?_);refine QA (wY y (by simp) λN K l=>?_);refine QA (wY K (by simp) λM W j=>?_);refine QA (wY W (by simp) λL Z g=>?_);refine QA (wY Z (by simp) λG Y f=>?_);refine QA (wpAny_letGo (QK ?_));refine QK ⟨_,rfl,QK ?_⟩;have k:it<a.objs.size:=QR h;have pt:G.get? a.objs.size=some { cls:=.type "tuple",data:=.seq #[e.key,e.val] } :=
  f.extBut _ _ (qy k) (g.extBut _ _ (qy k) (j.extBut _ _ (qy k) (l.extBut _ _ (qy k) (QN _ rfl))))
 have n:G.objs.size=a.objs.size+1:=by rw[f.1,g.1,j.1,l.1,wb]
 have v:IsItemIterOut G it d (i+1) es.size ep e.key e.val a.objs.size:=Y;rw[p]at pt n v;have:=q G v pt n λb o hb x=>f.extBut _ _ hb (g.extBut _ _ hb (j.extBut _ _ hb (l.extBut _ _ hb (QH _ (r.extBut _ _ hb x)))));show Q (some (.ref a.objs.size)) _;rw[p];exact this
theorem gO(f:A.handled=none)
  (h:IsItemIter s.heap it d i es.size ep c u) (x:s.heap.get? d=some z) (y:z.data=.dict es ep) (g:es[i]?=none)
  (q:∀h',QAt it s.heap h'->Q none { s with heap:=h' }) :
  wpAny (model prog w) A (pyNext (.ref it)) Q E s:=by
 have v:s.TypeIs (.ref it) "dict_itemiterator":=⟨_,h,rfl⟩
 show wpAny _ _ (bind _ _) _ _ _;refine QA (Wl (qF v qf (Q2 qf v Wz ?_ (Wv _))));show wpAny _ _ (bind _ _) _ _ _;refine QA (QK (QA (QA (QA (wJ v (QK (QA (WW h rfl ?_))))))));rw[CD];show wpAny _ _ (if(Value.ref d==Value.none)=true then _ else _) _ _ _;rw[if_neg (show ¬ (Value.ref d==Value.none)=true from QF)];show wpAny _ _ (wc (.ref d) >>= _) _ _ _;refine QA (QK (QA (wQ x y ?_)));rw[if_neg (show ¬ (((es.size:Nat):Int) != ((es.size:Nat):Int))=true by simp)];refine QA (QK (QA (WJ x y ?_)));rw[if_neg (show ¬ (((ep:Nat):Int) != ((ep:Nat):Int))=true by simp)];refine QK ?_;have j:(if((i:Nat):Int)<0 then none else es[((i:Nat):Int).toNat]?)=none:=by rw[if_neg (by omega),wm];exact g
 simp only[j];refine QA ?_;show wpAny _ _ (typeNameOfWhole (.ref it) >>= _) _ _ _;refine QA (wJ v (QK ?_));rw[CD,if_pos rfl];refine QA (wY h (by simp) λl e k=>?_);refine QA (m:=newExc (.type "StopIteration") []) ?_;simp only[newExc,newTuple];refine QA (Qu ?made (by size_fits));refine QA (m:=firstArgMember _ _) (Wd (a:=Value.none) (by first|rfl | (rw[firstArgMember];rfl)) ?arg);refine Qu ?made2 (by size_fits);simp only[raiseNew];refine QA (QAu ?_);first|rw[show A.in1.handled=none from f]|rw[f]
 refine QA (QK (QBV ?_));refine QA (QAC (T:="StopIteration") (b:=true) ⟨_,QN _ rfl,rfl⟩ (by kernel_rfl) ?_);rw[if_pos rfl];exact QK (q _ ((k.extBut.push _).push _))
theorem JZ{v:Addr}{Q:zC}(a:s.heap.IsItemsView v d)(h:s.heap.get? d=some z)(x:z.data=.dict es ep)
  (q:Q (.ref s.heap.objs.size) { s with heap:=s.heap.push { cls:=.type "dict_itemiterator",data:=.fields #[.none,.bool false,.ref d,.int 0 0,.int es.size 0,.int ep 0,.none,.none] } }) :
  wpAny (model prog w) A (pyIter (.ref v)) Q E s:=by
 have b:=Heap.IsItemsView.typeIs a;obtain⟨u,y,e,k⟩:=id a;refine Ww b QA1 (Q2 QA1 b F.entry_dict_items_iter ?_ (F.args_dict_items_iter_1 _));show wpAny _ _ (bind _ _) _ _ _;refine QA (QK (QA ?_));show wpAny _ _ (bind _ _) _ _ _;refine QA (wa y k rfl (QK (QA ?_)));show wpAny _ _ (bind _ _) _ _ _;refine QA (wQ h x (QA (WJ h x ?_)));simp only[CD,if_true];refine Qu (QK ⟨_,rfl,"dict_itemiterator",_,⟨_,QN _ rfl,rfl⟩,qf.lookup,q⟩) (show _<=sizeLine+2 by simp[Builtin.Dict_items.ownedTupleFields,QS])
theorem gT{Q:zC}(h:s.heap.get? d=some z)(x:z.cls=.type "dict")(v:(d==sysModules)=false)
  (q:Q (.ref s.heap.objs.size) { s with heap:=s.heap.push { cls:=.type "dict_items",data:=.fields #[.ref d] } }):wpAny (model prog w) A (call (.builtin "dict.items") [.ref d]) Q E s:=by
 have y:s.TypeIs (.ref d) "dict":=⟨_,h,x⟩
 refine Q2 F.slot_dict_items y F.entry_dict_items ?_ (F.args_dict_items_1 _);show wpAny _ _ (bind _ _) _ _ _;refine QA ?_;show wpAny _ _ (bind _ _) _ _ _;refine QA (WK y ?_);refine QK ?_;show wpAny _ _ ((if(d==sysModules)=true then _ else _) >>= _) _ _ _;rw[v,if_neg QF];exact QA (QK (QA (Qu (QK ⟨_,rfl,q⟩) (show _<=sizeLine+2 by simp[QS]))))
theorem tV{r:Type}[DecidableEq r]{knd:HeapKind prog w r}{d a:Addr}{xs:List (r×Addr×Value)}{k:r}{v:Value}{Q:zC}(W:knd.room A)(b:knd.is s.heap k a)(B:s.heap.DictOfH knd d xs)(hsz:xs.length<=sizeLine)
  (G:∀p,atKey xs k=some p->Q p.2 { s with toks:=s.toks+knd.draws k })
  (F:atKey xs k=none->∀h',h'.DictOfH knd d (storedH xs k a v)->qV d s.heap h'->Q v { s with heap:=h',toks:=s.toks+knd.draws k }) :
  wpAny (model prog w) A (dictSetDefault d (.ref a) v) Q E s:=by
 obtain⟨o,es,ep,l,C,g,X,q,Y⟩:=id B;have I:es.size=xs.length:=by have:=congrArg qq X;simpa using this
 unfold dictSetDefault;refine qO (QA (knd.pyHash W b (QA (wpAny_dictFind_heap W b l g X q Y (λn=>?_) λj p K=>?_))));have h:=atKey_none_of_get n;have m:=not_mem_keys_of_get n;refine QA (QAN (QA (wpAny_updateDictKeys l g (QK (F h _ ?_ (qP ..))) (by omega) (by simp))));refine⟨_,_,ep+1,Q4 _ l (Obj.isFreed_of_dict (QBJ g _)),Obj.ExactDict.mapDictKeys C _,QBJ g _,?_,?_,?_⟩;rw[QCP h];simp[X,entryOfKey];rw[QCP h];intro x f;rcases Qg.mp f with f|f;exact knd.keeps (q x f) l g (qP ..);rw[QI.mp f];exact knd.keeps b l g (qP ..);rw[QCP h,QU];exact qJ.mpr ⟨Y,by simp,λx f y Z e=>by rw[QO,qj,QI]at Z;rw[e,Z]at f;exact m f⟩;have h:=atKey_of_get Y K;have J:es[j]?=some (entryOfKey knd (k,p)):=by
  have:es.toList[j]?=some (entryOfKey knd (k,p)):=by rw[X,Qa,K];rfl
  simpa using this
 refine QA (wQ l g ?_);rw[J];exact QA (QAN (QK (G p h)))
theorem lR{x:Type}[DecidableEq x]{knd:HeapKind prog w x}{d a:Addr}{xs:List (x×Addr×Value)}{k:x}{v:Value}{Q:zC}(e:knd.room A.in1)(h:knd.is s.heap k a)(y:s.heap.DictOfH knd d xs)(hsz:xs.length<=sizeLine)(j:(d==sysModules)=false)
  (m:∀p,atKey xs k=some p->Q p.2 { s with toks:=s.toks+knd.draws k })
  (l:atKey xs k=none->∀h',h'.DictOfH knd d (storedH xs k a v)->qV d s.heap h'->Q v { s with heap:=h',toks:=s.toks+knd.draws k }) :
  wpAny (model prog w) A (call (.builtin "dict.setdefault") [.ref d,.ref a,v]) Q E s:=by
 have b:s.TypeIs (.ref d) "dict":=Heap.DictOfH.typeIs y;refine Q2 F.slot_dict_setdefault b F.entry_dict_setdefault ?_ (F.args_dict_setdefault_3 _ _ _);show wpAny _ _ (bind _ _) _ _ _;refine QA ?_;show wpAny _ _ (bind _ _) _ _ _;refine QA (WK b ?_);refine QK ?_;show wpAny _ _ (if(d==sysModules)=true then _ else _) _ _ _;rw[j,if_neg QF];exact QA (tV e h y hsz (λp f=>QK ⟨_,rfl,m p f⟩) λg h' o n=>QK ⟨_,rfl,l g h' o n⟩)
end
end
def IJ(K:QC):V->List V->Hp->VK->Prop:=λx z H Q=>∃a b v w h k,x=.ref a/\z=[.ref b,v]/\H a=some (.dT w h)/\sG K H h/\mD K H b (k.map kV)/\h.length<sizeLine /\
   (∀u,MG h k=some u->Q u H)/\(MG h k=none->∀y,Q v (OA H a (.dT y (FK h k b v))))
theorem oW{X:Cx}(hu:X.A.units+66<cLine):de X "dict.setdefault" (IJ X.K):=by
 intro n s N H x P v S Q I q Y h;obtain⟨a,b,y,ep,f,k,rfl,rfl,e,hk,J,l,W,Z⟩:=h;cases q;obtain⟨u,R,rfl,r,i⟩:=L7 Y;cases r;obtain⟨B,o,O,w,L⟩:=UJ I e hk;have G:(FK f k b y).length<=sizeLine:=by have:=KQ f k b y;omega
 refine lR (WF (by omega)) (US I J) L (by rw[<- qZ w];exact B) o (λp E=>?_) λF h' m C=>?_;have z:=w.val k;rw[E]at z;cases g:MG f k with|none=>rw[g]at z;exact(show False from z).elim|some u=>rw[g]at z;exact⟨u,H,I.tok _,z,W u g⟩
 have z:=w.val k;rw[F]at z;cases g:MG f k with|some u=>rw[g]at z;exact(show False from z).elim|none=>obtain⟨j,M⟩:=FL (t':=_) I (by rw[e];exact True.intro) o G (w.put k b i) m C;exact⟨y,_,M,i,Z g j⟩
noncomputable def Yo(ep n:Nat)(a:Addr):It :=
  ⟨λi H=>∃h p,H a=some (.dT ep h)/\h.length=n/\h[i]?=some p,
   λi H v x=>∃q p,H q=none/\v=.ref q/\x=OA H q (.tup [.ref p.2.1,p.2.2])/\∀h,H a=some (.dT ep h)->h[i]?=some p,
   λi H=>∃h,H a=some (.dT ep h)/\h.length=n/\n<=i⟩
theorem nH{α h:Type}{R:α->h->Prop}:∀{l:List α}{m:List h}{i:Nat}{x:α},Paired R l m->l[i]?=some x->∃y,m[i]?=some y/\R x y
 |_,_,i,_,.nil,e=>by simp at e|_,_,0,_,.cons r _,e=>by simp at e;subst e;exact⟨_,rfl,r⟩|_,_,i+1,x,.cons _ t,e=>by obtain⟨y,u,z⟩:=nH (i:=i) (x:=x) t (by simpa using e);exact⟨y,by simpa using u,z⟩
theorem PR{P:Program}{w:World}{K:QC}{es:List Expr}{kk:Nat}{pp:Pos}{a it:Addr}{n ep:Nat}:Turn0 P w K (.Tuple es kk pp) (Yo ep n a) [it] it (λi h=>∃ok Y,IsItemIter h it a i n ep ok Y) where
 mem:=by simp
 obj:=λi h st b hb=>by obtain⟨ok,Y,st⟩:=st;rw[QI]at hb;subst hb;exact⟨_,st,λv q=>by cases(show Data.fields _=Data.cell v from q)⟩
 keep:=λi h h' st k=>by obtain⟨ok,Y,st⟩:=st;exact⟨ok,Y,k it (by simp) _ st⟩
 item:=by
  intro X J C L hc i Z s σ H E I A st G;subst J C L;obtain⟨j,p,e,F,ep⟩:=G;obtain⟨ok,Y,st⟩:=st;obtain⟨z,y,xs,r,o,u,N,h2,M,B,h5⟩:=(show NA X.prog X.w H s.heap a (.dT _ j) from I.hok a _ e)
  have l:u.size=n:=by have:=congrArg qq B;rw[QG,QX]at this;rw[this,<- qZ r,F]
  obtain⟨q,hq,rq⟩:=nH r ep;have he:u[i]?=some (entryOfKey (tupleKind (IA X.prog X.w)) q):=by
   have:u.toList[i]?=some (entryOfKey (tupleKind (IA X.prog X.w)) q):=by rw[B,Qa,hq];rfl
   simpa using this
  subst l;refine TY st N M he λh' b1 b3 b4 b5=>⟨_,rfl,wpAny_letOwnedTupleGo_items b1 λm c1 sb=>?_⟩
  have hp:=I.hok.fresh (QV s.heap.objs.size);have W:it<s.heap.objs.size:=QR st;have g:∀b∈[it],b<s.heap.objs.size:=λb hb=>by rw[QI]at hb;subst hb;exact W
  have kept:∀b o,b∉[it]->s.heap.get? b=some o->m.get? b=some o:=λb o hb q=>by rw[QI]at hb;exact(sb.2 b hb).trans (b5 b o hb q)
  have f:m.get? s.heap.objs.size=some { cls:=.type "tuple",data:=.seq #[.ref q.2.1,q.2.2] }:=(sb.2 _ (qy W)).trans b3;have I1:=I.pair (x:=.ref p.2.1) (y:=p.2.2) (h':=s.heap.push { cls:=.type "tuple",data:=.seq #[.ref q.2.1,q.2.2] }) (t':=s.toks) (λb o e=>QH _ e) (QV _) (QN _ rfl) (show Value.ref q.2.1=Value.ref p.2.1 by rw[rq.2.1]) rq.2.2;have I2:=I1.turnedL (h':=m) (t':=s.toks) (ch:=[it]) (λb o hb e=>by
   rcases QAE e with⟨q1,q2⟩| q;subst q1 q2;exact f;exact kept b o hb q) λb hb=>by
   obtain⟨f0,S,f2,R,Q,O⟩:=A b hb;exact⟨by rw[xA (QZ (g b hb))];exact f0,S,f2,R,Q,O⟩
  refine⟨.ref s.heap.objs.size,_,I2,rfl,⟨s.heap.objs.size,p,hp,rfl,rfl,λkvs' g1=>?_⟩,⟨_,_,c1⟩,λb hb=>?_⟩;rw[e]at g1;cases g1;exact ep;rw[xA (QZ (g b hb))];exact(A b hb).1
 done:=by
  intro X J C L hc i Z s σ H E I A st G;subst J C L;obtain⟨j,e,F,ep⟩:=G;obtain⟨ok,Y,st⟩:=st;obtain⟨z,y,xs,r,o,u,N,h2,M,B,h5⟩:=(show NA X.prog X.w H s.heap a (.dT _ j) from I.hok a _ e)
  have l:u.size=n:=by have:=congrArg qq B;rw[QG,QX]at this;rw[this,<- qZ r,F]
  subst l;obtain⟨f0,S,f2,R,Q,O⟩:=A it (by simp);exact gO (I.ok.hd hc) st N M (QA2 ep) λh' eb=>⟨rfl,I.turned (t':=s.toks) (λb o hb e=>eb b o hb e) f0 S R Q O⟩
section
variable{prog:Program}{w:World}{A:Around}{E:zC}{s:Shared}
section
variable{d it:Addr}{h:Obj}{es:Array DictEntry}{ep i:Nat}{Q:Option Value->Shared->Prop}
theorem KG:QAJ "dict_keyiterator"=false:=by decide +kernel
theorem D6{Q:zC}(hz:(d==sysModules)=false)(x:s.heap.get? d=some h)(u:h.cls=.type "dict")(y:h.data=.dict es ep)
  (q:Q (.ref s.heap.objs.size) { s with heap:=s.heap.push { cls:=.type "dict_keyiterator",data:=.fields #[.ref d,.int 0 0,.int es.size 0,.int ep 0] } }) :
  wpAny (model prog w) A (pyIter (.ref d)) Q E s:=by
 have z:s.TypeIs (.ref d) "dict":=⟨_,x,u⟩
 refine Ww z QCF (Q2 QCF z F.entry_dict_iter ?body (F.args_dict_iter_1 _))
 case body =>
  show wpAny _ _ (bind _ _) _ _ _;refine QA ?sl
  case sl =>
   show wpAny _ _ (bind _ _) _ _ _;refine QA (WK z (QK ?go))
   case go =>
    have e:W0 d=pure PUnit.unit:=by unfold W0;rw[hz];rfl
    show wpAny _ _ (W0 d >>= _) _ _ _;rw[e];refine QA (QK (QA (wQ x y (QA (WJ x y (QA (Qu (QK ⟨_,rfl,"dict_keyiterator",_,⟨_,QN _ rfl,rfl⟩,qm.lookup,?_⟩))))))));simpa[rawInt]using q
theorem T5{e:DictEntry}
  (u:s.heap.IsKeyIter it d i es.size ep) (z:s.heap.get? d=some h) (v:h.data=.dict es ep) (f:es[i]?=some e)
  (q:∀h',h'.IsKeyIter it d (i+1) es.size ep->qV it s.heap h'->Q (some e.key) { s with heap:=h' }) :
  wpAny (model prog w) A (pyNext (.ref it)) Q E s:=by
 have k:=u.typeIs;obtain⟨j,a,b,x⟩:=id u;show wpAny _ _ (bind _ _) _ _ _;refine QA (Wl (qF k qm (Q2 qm k QAD ?_ (W4 _))));show wpAny _ _ (bind _ _) _ _ _;refine QA (QK (QA (QA (QA (wK k (QK (QA (WW a x ?_))))))));rw[KG];show wpAny _ _ (if(Value.ref d==Value.none)=true then _ else _) _ _ _;rw[if_neg (show ¬ (Value.ref d==Value.none)=true from QF)];show wpAny _ _ (wc (.ref d) >>= _) _ _ _;refine QA (QK (QA (wQ z v ?_)));rw[if_neg (show ¬ (((es.size:Nat):Int) != ((es.size:Nat):Int))=true by simp)];refine QA (QK (QA (WJ z v ?_)));rw[if_neg (show ¬ (((ep:Nat):Int) != ((ep:Nat):Int))=true by simp)];refine QK ?_;have g:(if((i:Nat):Int)<0 then none else es[((i:Nat):Int).toNat]?)=some e:=by rw[if_neg (by omega),wm];exact f
 simp only[g];refine QA ?_;show wpAny _ _ (typeNameOfWhole (.ref it) >>= _) _ _ _;refine QA (wK k (QK (QA (QBB k ?_))));rw[KG];show wpAny _ _ (setField (.ref it) 1 _ >>= _) _ _ _;refine QA (wE a x (by simp) ?_);have y:(s.heap.update it (qg (·.setIfInBounds 1 (rawInt ((i:Int)+1))))).IsKeyIter it d (i+1) es.size ep :=
  ⟨_,Q4 _ a (ql (Q7 x _)),(WO ..).trans b,by rw[Q7 x];simp[rawInt]⟩
 refine QA (qO (QA (QBB (s:={ s with heap:=s.heap.update it (qg (·.setIfInBounds 1 (rawInt ((i:Int)+1)))) }) y.typeIs ?_)));show wpAny _ _ (pure e.key) _ _ _;exact QK (QK ⟨_,rfl,QK (q _ y (qP ..))⟩)
theorem fQ(e:A.handled=none)
  (y:s.heap.IsKeyIter it d i es.size ep) (x:s.heap.get? d=some h) (u:h.data=.dict es ep) (f:es[i]?=none)
  (q:∀h',QAt it s.heap h'->Q none { s with heap:=h' }) :
  wpAny (model prog w) A (pyNext (.ref it)) Q E s:=by
 have v:=y.typeIs;obtain⟨l,k,g,z⟩:=id y;show wpAny _ _ (bind _ _) _ _ _;refine QA (Wl (qF v qm (Q2 qm v QAD ?_ (W4 _))));show wpAny _ _ (bind _ _) _ _ _;refine QA (QK (QA (QA (QA (wK v (QK (QA (WW k z ?_))))))));rw[KG];show wpAny _ _ (if(Value.ref d==Value.none)=true then _ else _) _ _ _;rw[if_neg (show ¬ (Value.ref d==Value.none)=true from QF)];show wpAny _ _ (wc (.ref d) >>= _) _ _ _;refine QA (QK (QA (wQ x u ?_)));rw[if_neg (show ¬ (((es.size:Nat):Int) != ((es.size:Nat):Int))=true by simp)];refine QA (QK (QA (WJ x u ?_)));rw[if_neg (show ¬ (((ep:Nat):Int) != ((ep:Nat):Int))=true by simp)];refine QK ?_;have j:(if((i:Nat):Int)<0 then none else es[((i:Nat):Int).toNat]?)=none:=by rw[if_neg (by omega),wm];exact f
 simp only[j];refine QA ?_;show wpAny _ _ (typeNameOfWhole (.ref it) >>= _) _ _ _;refine QA (wK v (QK ?_));rw[KG];show wpAny _ _ (setField (.ref it) 0 .none >>= _) _ _ _;refine QA (wE k z (by simp) ?_);refine QA (m:=newExc (.type "StopIteration") []) ?_;simp only[newExc,newTuple];refine QA (Qu ?made (by size_fits));refine QA (m:=firstArgMember _ _) (Wd (a:=Value.none) (by first|rfl | (rw[firstArgMember];rfl)) ?arg);refine Qu ?made2 (by size_fits);simp only[raiseNew];refine QA (QAu ?_);first|rw[show A.in1.handled=none from e]|rw[e]
 refine QA (QK (QBV ?_));refine QA (QAC (T:="StopIteration") (b:=true) ⟨_,QN _ rfl,rfl⟩ (by kernel_rfl) ?_);rw[if_pos rfl];exact QK (q _ (((qP ..).extBut.push _).push _))
end
end
def Ko(ep n:Nat)(a:Addr):It :=
  ⟨λi H=>∃h p,H a=some (.dT ep h)/\h.length=n/\h[i]?=some p,
   λi H v x=>x=H/\∀h,H a=some (.dT ep h)->∃p,h[i]?=some p/\v=.ref p.2.1,
   λi H=>∃h,H a=some (.dT ep h)/\h.length=n/\n<=i⟩
theorem ZV{P:Program}{w:World}{K:QC}{tg:Expr}{a it:Addr}{n ep:Nat}:Turn P w K tg (Ko ep n a) [it] it (λi h=>h.IsKeyIter it a i n ep) where
 mem:=by simp
 obj:=λi h st b hb=>by obtain⟨o,e,c,d⟩:=st;rw[QI]at hb;subst hb;exact⟨o,e,λv z=>by rw[d]at z;cases z⟩
 keep:=λi h Y st k=>st.at λo e=>k it (by simp) o e
 item:=by
  intro X B Z C R i u s Q H E I l st A;subst B Z C;obtain⟨f,p,e,W,ep⟩:=A;obtain⟨z,y,S,r,o,x,G,h2,F,m,h5⟩:=(show NA X.prog X.w H s.heap a (.dT _ f) from I.hok a _ e)
  have g:x.size=n:=by have:=congrArg qq m;rw[QG,QX]at this;rw[this,<- qZ r,W]
  obtain⟨q,hq,rq⟩:=nH r ep;have he:x[i]?=some (entryOfKey (tupleKind (IA X.prog X.w)) q):=by
   have:x.toList[i]?=some (entryOfKey (tupleKind (IA X.prog X.w)) q):=by rw[m,Qa,hq];rfl
   simpa using this
  subst g;obtain⟨O,N,f2,M,L,J⟩:=l it (by simp);refine T5 st G F he λY j sb=>?_;have I1:Inv X u Q H { s with heap:=Y }:=I.turned (t':=s.toks) (λb o hb e=>(sb.2 b hb).trans e) O N M L J;obtain⟨oi,ei,ci,di⟩:=id j;exact⟨_,rfl,LQ (s:={ s with heap:=Y }) ei ci di (by decide) ⟨.ref p.2.1,H,I1,show Value.ref q.2.1=Value.ref p.2.1 by rw[rq.2.1],⟨rfl,λks hk=>by rw[e]at hk;cases hk;exact⟨p,ep,rfl⟩⟩,j,λb hb=>(l b hb).1⟩⟩
 done:=by
  intro X B Z C R i u s Q H E I l st A;subst B Z C;obtain⟨f,e,W,ep⟩:=A;obtain⟨z,y,S,r,o,x,G,h2,F,m,h5⟩:=(show NA X.prog X.w H s.heap a (.dT _ f) from I.hok a _ e)
  have g:x.size=n:=by have:=congrArg qq m;rw[QG,QX]at this;rw[this,<- qZ r,W]
  subst g;obtain⟨O,N,f2,M,L,J⟩:=l it (by simp);exact fQ (I.ok.hd R) st G F (QA2 ep) λY eb=>⟨rfl,I.turned (t':=s.toks) (λb o hb e=>eb b o hb e) O N M L J⟩
 self:=λ_ _ _ _ _ st h=>wpAny_pyIter_keyiter st h
open PySem.SeqAt
open AutoSeq1 (wpAny_loadPart')
open MeetsSeq MeetsSeq2 MeetsSeq3
def ve:List Str->List Str->Bool
 |[],[]=>false|[],_::_=>true|_::_,[]=>false|x::a,y::b=>if(x==y)=true then ve a b else decide (x.cps.toList<y.cps.toList)
theorem HN{vs:List Value}{ss:List Str}(h:StrsAre vs ss):vs.length=ss.length/\∀(i:Nat) (x:Str),ss[i]?=some x->∃t:Tok,vs[i]?=some (Value.str x t):=by
 induction h with
 |nil=>exact⟨rfl,λi x e=>by simp at e⟩|cons y t _ z =>
  refine⟨by rw[QM,QM,z.1],λi x e=>?_⟩;cases i with|zero=>simp at e;subst e;exact⟨t,rfl⟩|succ i=>simp at e;simpa using z.2 i x e
theorem sW(l b:Addr)(v x:Array Value)(n B:Nat)(N X:Option Addr)(W o:Array (Option Value))(ss ts:List Str)(J:StrsAre v.toList ss)(I:StrsAre x.toList ts)(k:Nat) :
  ∀i:Nat,v.size - i=k->i<=v.size->i<=x.size->Meets (Builtin.«list.__eq__.loop» ⟨[.ref l,.ref b,rawInt i,rawInt 0],[]⟩)
   (λA R s=>s.heap.get? l=some { cls:=.type "list",dict:=N,data:=.seq v n,slots:=W }/\s.heap.get? b=some { cls:=.type "list",dict:=X,data:=.seq x B,slots:=o } /\
    R (.ok (.ret (.bool (ve (ss.drop i) (ts.drop i))))) s):=by
 obtain⟨a1,H⟩:=HN J;obtain⟨S,Q⟩:=HN I;rw[QX]at a1 S;induction k with
 |zero =>
  intro i hk F p a w A R s h;obtain⟨E,g,d,Z,K⟩:=s;obtain⟨e,hb,h⟩:=h;wp_walk using qI e,qI hb;have m:v[((i:Nat):Int).toNat]?=none:=by simp;omega
  rw[m];wp_walk using qI e,qI hb;have Y:ss.drop i=[]:=by simp;omega
  rw[Y]at h;have f:ve [] (ts.drop i)=decide (v.size<x.size):=by
   cases z:ts.drop i with
   |nil =>
    have:ts.length<=i:=by simpa using z
    exact(dF (by omega)).symm
   |cons y r =>
    have:i<ts.length:=by by_cases c:i<ts.length;exact c;rw[WE (by omega)]at z;cases z
    exact(dT (by omega)).symm
  rw[f]at h;exact h
 |succ k C =>
  intro i hk F p a w A R s h;obtain⟨E,g,d,Z,K⟩:=s;obtain⟨e,hb,h⟩:=h;wp_walk using qI e,qI hb;have j:i<ss.length:=by omega
  obtain⟨t,L⟩:=H i ss[i] (Qw j);have m:v[((i:Nat):Int).toNat]?=some (.str ss[i] t):=by simpa using L
  rw[m];have Y:ss.drop i=ss[i]::ss.drop (i+1):=WX j;rw[Y]at h;by_cases c:i<ts.length;obtain⟨u,M⟩:=Q i ts[i] (Qw c);have f:x[((i:Nat):Int).toNat]?=some (.str ts[i] u):=by simpa using M
  have O:ts.drop i=ts[i]::ts.drop (i+1):=WX c;rw[O]at h;have h:R (.ok (.ret (.bool (if(ss[i]==ts[i])=true then ve (ss.drop (i+1)) (ts.drop (i+1)) else decide (ss[i].cps.toList<ts[i].cps.toList))))) _:=h;rw[f];refine QA (EqAt.str_str ss[i] t ts[i] u a w _ _ ?_);have G:((i:Int)+1)=((i+1:Nat):Int):=by push_cast;rfl
  cases q:(ss[i]==ts[i]) with|true=>rw[q,if_pos rfl]at h;wp_walk;rw[G];exact⟨wz plain_eq_loop _,qt entry_eq_loop (by rw[qU plain_eq_loop _];exact C (i+1) (by omega) (by omega) (by omega) a w A R _ ⟨e,hb,h⟩)⟩|false=>rw[q,if_neg QF]at h;wp_walk using qI e,qI hb;rw[m,f];show wpAny _ _ (compareOp .Lt (.str ss[i] t) (.str ts[i] u) >>= _) _ _ _;refine QA (PySem.P.lt_str ?_);exact QK h
  have f:x[((i:Nat):Int).toNat]?=none:=by simp;omega
  rw[f];wp_walk using qI e,qI hb;rw[WE (show ts.length<=i by omega)]at h;have:decide (v.size<x.size)=false:=dF (by omega);have h:R (.ok (.ret (.bool false))) _:=h;rw[<- this]at h;exact h
theorem eW(l b:Addr)(y x:Array Value)(n a:Nat)(f v:Option Addr)(k z:Array (Option Value))(ss ts:List Str)(j:StrsAre y.toList ss)(i:StrsAre x.toList ts) :
  Meets (Builtin.«list.__lt__» ⟨[.ref l,.ref b],[]⟩)
   (λA R s=>s.heap.get? l=some { cls:=.type "list",dict:=f,data:=.seq y n,slots:=k }/\s.heap.get? b=some { cls:=.type "list",dict:=v,data:=.seq x a,slots:=z } /\
    R (.ok (.ret (.bool (ve ss ts)))) s):=by
 intro u w A R s h;obtain⟨p,g,d,m,o⟩:=s;obtain⟨e,hb,h⟩:=h;have q:=AutoSeq1.sub_list_list;wp_walk using qI e,qI hb;exact⟨wz plain_eq_loop _,qt entry_eq_loop (by rw[qU plain_eq_loop _];exact sW l b y x n a f v k z ss ts j i _ 0 rfl (Q9 _) (Q9 _) u w A R _ ⟨e,hb,h⟩)⟩
section
variable{prog:Program}{w:World}{A:Around}{E:zC}{s:Shared}
theorem gS{l b:Addr}{y x:Array Value}{n a:Nat}{e u:Option Addr}{k z:Array (Option Value)}{ss ts:List Str}{Q:Bool->Shared->Prop}(f:A.units<cLine)(v:s.heap.get? l=some { cls:=.type "list",dict:=e,data:=.seq y n,slots:=k })(hb:s.heap.get? b=some { cls:=.type "list",dict:=u,data:=.seq x a,slots:=z })
  (i:StrsAre y.toList ss) (g:StrsAre x.toList ts) (h:Q (ve ss ts) s):wpAny (model prog w) A (keyLt' oneType' (.ref l) (.ref b)) Q E s:=by
 rw[keyLt'_oneType,oneLt'_eq];simp only[if_true];refine QA (wpAny_cRoomFor f (QA (wpAny_callSpecialIfBound?_slot (T:="list") ⟨_,v,rfl⟩ F.slot_list_lt ?_)));refine QAM F.slot_list_lt ⟨_,v,rfl⟩ F.entry_list_lt (F.args_list_lt_2 _ _) (eW l b y x n a e u k z ss ts i g) ⟨v,hb,?_⟩;exact wO h
end
end L2.L3
namespace L2.L3
open PySem PySem.Spec PyProof.Rows PySem.W
def lD{α:Type}(n:Nat)(P:α->Prop):KasT α->Prop
 | .ret a=>P a|.ask i j k=>i<n/\j<n/\∀b,lD n P (k b)
theorem lD.bnd{α x:Type}{n:Nat}{P:α->Prop}{R:x->Prop}{f:α->KasT x}(y:∀a,P a->lD n R (f a)):∀{t:KasT α},lD n P t->lD n R (t.bind f)
 | .ret a,h=>y a h|.ask i j k,⟨h1,h2,h⟩=>⟨h1,h2,λb=>lD.bnd y (h b)⟩
theorem lD.wp{α:Type}{n:Nat}{P:α->Prop}{x:Nat->Nat->(Bool->Shared->Prop)->Shared->Prop}{Q:α->Shared->Prop}{s:Shared}(y:∀i j,i<n->j<n->∀C:Bool->Shared->Prop,(∀b,C b s)->x i j C s)(z:∀a,P a->Q a s):∀{t:KasT α},lD n P t->t.kasWp x Q s
 | .ret a,h=>z a h|.ask i j k,⟨h1,h2,h⟩=>y i j h1 h2 _ λb=>lD.wp y z (h b)
def Pm(n:Nat)(p:Array Nat):Prop:=p.Perm (QBC (qC n))
section
variable{n:Nat}
section
variable{p:Array Nat}
theorem Pm.lt(h:Pm n p)(x:0<n)(i:Nat):p.getD i 0<n:=by
 by_cases c:i<p.size;have e:p.getD i 0=p[i]:=by simp[Array.getD,c]
 rw[e];have m:p[i]∈p.toList:=by simp
 have:=(QAW.mp h).mem_iff.mp m;simpa using this;have e:p.getD i 0=0:=by simp[Array.getD,c]
 rw[e];exact x
theorem Pm.rev(h:Pm n p)(i j:Nat):Pm n (kas_rev p i j):=(mirror_perm _ _ _ _).trans h
theorem bP{p:Array Nat}(h:Pm n p)(x:0<n):∀(f m:Nat),lD n (λ_=>True) (kas_asc p f m)
 |0,m=>trivial|f+1,m=>⟨h.lt x _,h.lt x _,λb=>by
  cases b with|true=>exact trivial|false=>exact bP h x f (m+1)⟩
theorem pI(x:0<n):∀(f:Nat) {p:Array Nat}(h:Pm n p) (m q:Nat),lD n (λr=>Pm n r.1) (kas_desc f p m q)
 |0,p,h,m,q=>h|f+1,p,h,m,q=>⟨h.lt x _,h.lt x _,λb=>by
  cases b with
  |true=>show lD n _ (if q > 0 then _ else _);split;exact pI x f (h.rev _ _) _ _;exact pI x f h _ _|false =>
   refine⟨h.lt x _,h.lt x _,λb=>?_⟩;cases b with|true=>exact h|false=>exact pI x f h _ _⟩
theorem aN(x:0<n)(h:Pm n p)(a b:Nat):lD n (λr=>Pm n r.2) (kas_tail3 a b p):=by refine lD.bnd (f:=λm=>.ret (m,kas_rev p 0 a)) (λm _=>?_) (bP (h.rev _ _) x _ _);exact h.rev _ _
theorem oI(x:0<n)(h:Pm n p)(a b:Nat):lD n (λr=>Pm n r.2) (kas_descPart a b p):=by refine lD.bnd (λr y=>?_) (pI x _ h _ _);split;exact aN x (Pm.rev y _ _) _ _;exact aN x y _ _
theorem jX(x:0<n)(h:Pm n p)(b:Nat):lD n (λr=>Pm n r.2) (kas_count b p):=by
 refine lD.bnd (λm _=>?_) (bP h x _ _);split;exact h;split
 ·refine⟨h.lt x _,h.lt x _,λc=>?_⟩
  cases c with|true=>exact h|false=>exact oI x (h.rev _ _) _ _
 exact oI x h _ _
theorem sJ(x:0<n){p:Array Nat}(h:Pm n p)(k:Nat):∀(f l r:Nat),lD n (λ_=>True) (kas_place p k f l r)
 |0,l,r=>trivial|f+1,l,r=>by
  show lD n _ (if l ≥ r then _ else _);split;exact trivial;refine⟨h.lt x _,h.lt x _,λb=>?_⟩;cases b with|true=>exact sJ x h k f _ _|false=>exact sJ x h k f _ _
theorem fV(x:0<n):∀(f:Nat) {p:Array Nat}(h:Pm n p) (k:Nat),lD n (Pm n) (kas_bin f p k)
 |0,p,h,k=>h|f+1,p,h,k=>lD.bnd (λl _=>fV x f ((bubble_perm _ _ _).trans h) _) (sJ x h _ _ _ _)
theorem D1(x:0<n):lD n (Pm n) (kas_sort n):=by refine lD.bnd (λr h=>?_) (jX x (Array.Perm.refl _) _);split;exact fV x _ h _;exact h
end
end
theorem NV{α:Type}(vs:List α)(d:α):(qC vs.length).map (λi=>vs.getD i d)=vs:=by apply wn;intro i;rw[Qa];by_cases c:i<vs.length;rw[QBW c];simp[c];rw[qM (by simp;omega),qM (by omega)];rfl
section
variable{prog:Program}{w:World}{A:Around}{E:zC}{s:Shared}
section
variable{vs:List Value}
theorem rg{M:Model}{Q:SortKind->Shared->Prop}(k:2<=vs.length)(z:∀v∈vs,s.TypeIs v "list")(h:Q oneType' s):wpAny M A (keyKind' vs.toArray) Q E s:=by
 cases vs with
 |nil=>simp at k|cons v r =>
  rw[keyKind'_eq,QBt,map_eq_pure_bind];refine QA (QA (kas_mapM (r:=none) _ (λu y e q=>?_) (QK ?_)));rw[kas_first_eq];exact QA (Wf (z u y) (QK q));rw[if_neg (by simp),if_neg (by simp),oneTypeOnly'_eq,QBt,map_eq_pure_bind];refine QA (QA (QA (kas_mapM (r:=.type "list") _ (λu y e q=>Wf (z u y) q) (QK ?_))));have b:((v::r).map λ_=>Value.type "list").toArray[0]?=some (.type "list"):=by simp
  have a:(((v::r).map λ_=>Value.type "list").toArray.all λx=>x==Value.type "list")=true:=by simp only[List.all_toArray,QB4,qH];intro _ _;rfl
  rw[b];simp only[a,if_true];exact QK (QK h)
theorem Bb{a:Addr}{n:Nat}{P:QCb->Shared->Prop}(Y:s.heap.get? a=some (seqObj "list" vs.toArray n))(K:vs.length<64)(H:∀v∈vs,∃b o,v=.ref b/\b≠a/\s.heap.get? b=some o/\o.cls=.type "list")
  (G:∀B:Heap,(∀b o,b≠a->s.heap.get? b=some o->B.get? b=some o)->∀x∈vs,∀y∈vs,∀C:Bool->Shared->Prop,(∀k,C k { s with heap:=B })->wpAny (model prog w) A (keyLt' oneType' x y) C (λ_ _=>False) { s with heap:=B })
  (k:∀out:List Value,out.Perm vs->P (.done (.ret .none)) { s with heap:=sortedHeap s.heap a vs out.toArray }):wpAny (model prog w) A (Builtin.«list.sort» ⟨[.ref a],[]⟩) P E s:=by
 have hz:sizeLine=16777216:=QS;have ha:a<s.heap.objs.size:=QR Y;have J:=qP s.heap a (qN λ_=>(#[]:Array Value));obtain⟨Z,X⟩:∃Z,(s.heap.update a (qN λ_=>(#[]:Array Value))).get? a=some (seqObj "list" #[] Z):=⟨_,get?_update_seq Y λ_=>#[]⟩
 have r:(((s.heap.update a (qN λ_=>(#[]:Array Value))).push (seqObj "tuple" vs.toArray 0)).push (seqObj "list" #[] 0)).get? a=some (seqObj "list" #[] Z):=QH _ (QH _ X);have kept:∀b o,b≠a->s.heap.get? b=some o->(((s.heap.update a (qN λ_=>(#[]:Array Value))).push (seqObj "tuple" vs.toArray 0)).push (seqObj "list" #[] 0)).get? b=some o:=λb o hb e=>QH _ (QH _ ((J.2 b hb).trans e));rw[list_sort_plain];refine QA (listItems_at Y rfl (QA (listUpdate_at Y rfl ?_ (by rw[QT];omega) (Q9 _))));refine QA (seqEpoch_at X rfl (QA (QBP ?_ (by show vs.length<=_;omega))));refine QA (QBg (qO ?_) (Q9 _));show wpAny (model prog w) A _ P E { s with heap:=((s.heap.update a (qN λ_=>(#[]:Array Value))).push (seqObj "tuple" vs.toArray 0)).push (seqObj "list" #[] 0) };dsimp only;have fin:∀out:List Value,out.Perm vs->wpAny (model prog w) A (do
   let h:=(<- seqEpoch a) != Z
   Builtin.List.listUpdate (.ref a) λ_=>out.toArray
   if h then rule "list.sort.modified";raiseError "ValueError" "list modified during sort"
   ret .none) P E { s with heap:=((s.heap.update a (qN λ_=>(#[]:Array Value))).push (seqObj "tuple" vs.toArray 0)).push (seqObj "list" #[] 0) }:=λout m=>by
  have hl:=m.length_eq;refine QA (seqEpoch_at r rfl (QA (listUpdate_at r rfl ?_ (Q9 _) (by rw[QT];omega))));simp only[bne_self_eq_false,qa,if_false];exact QK (k out m)
 by_cases I:vs.length<2;have u:vs.toArray.size<2:=by rw[QT];exact I
 rw[if_pos u,if_pos u];refine QA (QK ?_);rw[StateT.run_pure];refine QA (QK ?_);have e:(arrOf (QBu general' (vs.toArray.zip vs.toArray) #[] 7 none)).map (·.2)=vs.toArray:=by show(vs.toArray.zip vs.toArray).map (·.2)=_;apply W8.mp;simp[QAA]
 dsimp only;rw[e];exact fin vs (we _);have u:¬ vs.toArray.size<2:=by rw[QT];exact I
 rw[if_neg u,if_neg u];refine QA (rg (by omega) (λv N=>?_) ?_);obtain⟨b,o,rfl,hb,e,c⟩:=H v N;exact⟨o,kept b o hb e,c⟩;have F:QBu oneType' (vs.toArray.zip vs.toArray) #[] 7 none=kas_st oneType' (pairsOf vs) (QBC (qC vs.length)):=by have e:=kas_range (pairsOf vs);rw[pairsOf_size]at e;show QBu oneType' (pairsOf vs) #[] 7 none=QBu oneType' ((QBC (qC vs.length)).map (kas_item (pairsOf vs))) #[] 7 none;rw[e]
 have all:=D1 (n:=vs.length) (by omega);have f:(kas_sort vs.length).kasWp (kas_cmp prog w A oneType' (pairsOf vs)) (λp g=>g={ s with heap:=((s.heap.update a (qN λ_=>(#[]:Array Value))).push (seqObj "tuple" vs.toArray 0)).push (seqObj "list" #[] 0) }/\Pm vs.length p) { s with heap:=((s.heap.update a (qN λ_=>(#[]:Array Value))).push (seqObj "tuple" vs.toArray 0)).push (seqObj "list" #[] 0) }:=by
  rw[<- kas_ask_eq];refine lD.wp (λi j R O C hC=>?_) (λp m=>⟨rfl,m⟩) all;have gi:vs.getD i Value.none∈vs:=by
   have:vs.getD i Value.none=vs[i]:=by simp[R]
   rw[this];exact QAB _
  have gj:vs.getD j Value.none∈vs:=by
   have:vs.getD j Value.none=vs[j]:=by simp[O]
   rw[this];exact QAB _
  exact G _ kept _ gi _ gj C hC
 have l:=kas_runs (prog:=prog) (w:=w) (A:=A) (E:=E) (Q:=λ_ z g=>∃p:Array Nat,p.size=vs.length/\arrOf z=p.map (kas_item (pairsOf vs))/\failedOf z=none/\g={ s with heap:=((s.heap.update a (qN λ_=>(#[]:Array Value))).push (seqObj "tuple" vs.toArray 0)).push (seqObj "list" #[] 0) }/\Pm vs.length p)
  (by omega) K (λM z g a1 a2 a3 a4=>⟨M,a1,a2,a3,a4⟩) f
 rw[<- F]at l;refine QA (wN l ?_ λ_ _ e=>e);rintro⟨⟨⟩,z⟩ g ⟨p,m,W,S,rfl,L⟩;dsimp only;have q:(arrOf z).map (·.2)=QBC (p.toList.map λi=>vs.getD i Value.none):=by apply W8.mp;rw[W,Array.map_map,Array.toList_map];exact We λi _=>by show(kas_item (pairsOf vs) i).2=_;rw[kas_item_eq]
 rw[q,S];refine fin _ ?_;have:=(QAW.mp L).map λi=>vs.getD i Value.none;refine this.trans ?_;show((qC vs.length).map λi=>vs.getD i Value.none).Perm vs;rw[NV]
theorem P3{l:Addr}{Q:zC}(Y:s.heap.IsList l vs.toArray)(g:vs.length<64)(Z:∀v∈vs,∃b o,v=.ref b/\s.heap.get? b=some o/\o.cls=.type "list")
  (i:∀f:Heap,(∀b o,s.heap.get? b=some o->f.get? b=some o)->∀x∈vs,∀y∈vs,∀C:Bool->Shared->Prop,(∀k,C k { s with heap:=f })->wpAny (model prog w) A.in1.in1 (keyLt' oneType' x y) C (λ_ _=>False) { s with heap:=f })
  (k:∀out:List Value,out.Perm vs->Q (.ref (s.heap.objs.size+1)) { s with heap:=sortedAll s.heap vs out.toArray }):wpAny (model prog w) A (call (.builtin "sorted") [.ref l]) Q E s:=by
 have K:sizeLine=16777216:=QS;refine QAf kind_sorted plain_sorted entry_sorted (args_sorted1 _) ?_;unfold Builtin.«sorted»;refine QA (m:=checkCount "sorted" 1 1 _) (QK (QA (collect_list Y ?_ (by omega))));refine QA (QBg ?_ (by show vs.length<=_;omega));have u:((s.heap.push (seqObj "list" #[] 0)).update s.heap.objs.size (qN (·++vs.toArray))).objs.size=s.heap.objs.size+1:=by rw[Heap.size_update,size_push']
 have a:(((s.heap.push (seqObj "list" #[] 0)).update s.heap.objs.size (qN (·++vs.toArray))).push (seqObj "list" vs.toArray 0)).get? (s.heap.objs.size+1)=some (seqObj "list" vs.toArray 0):=by rw[<- u];exact QN _ rfl
 have z:∀b o,s.heap.get? b=some o->(((s.heap.push (seqObj "list" #[] 0)).update s.heap.objs.size (qN (·++vs.toArray))).push (seqObj "list" vs.toArray 0)).get? b=some o:=λb o q=>by have h:b<s.heap.objs.size:=QR q;refine QH _ ?_;rw[Heap.get?_update_ne _ _ _ _ (QZ h)];exact QH _ q
 show wpAny _ _ _ _ _ { s with heap:=((s.heap.push (seqObj "list" #[] 0)).update s.heap.objs.size (qN (·++vs.toArray))).push (seqObj "list" vs.toArray 0) };rw[u];refine QA (qO (Q2 slot_list_sort ⟨_,a,rfl⟩ entry_list_sort ?body (args_list_sort _)))
 case body =>
  refine Bb (s:={ s with heap:=((s.heap.push (seqObj "list" #[] 0)).update s.heap.objs.size (qN (·++vs.toArray))).push (seqObj "list" vs.toArray 0) }) a g (λv r=>?_) (λf j x p y n C W=>?_) λout X=>⟨_,rfl,QK ⟨_,rfl,k out X⟩⟩
  obtain⟨b,o,e,q,c⟩:=Z v r;have h:b<s.heap.objs.size:=QR q;exact⟨b,o,e,QZ (qk h),z b o q,c⟩;refine i f (λb o q=>?_) x p y n C W;have h:b<s.heap.objs.size:=QR q;exact j b o (QZ (qk h)) (z b o q)
end
end
section
variable{prog:Program}{w:World}{A:Around}
theorem ec(Z:A.handled=none)(j:Addr)(z:Src)(m:z.adr≠j)(y:Array Value)(c:Nat) :
  Draws prog w A j [j,z.adr] (c+y.size) (λi v=>∃k,i=c+k/\y[k]?=some v) (λi h=>∃k,i=c+k/\VC h j z k/\BB h z y) where
 live:=λ_ _ ⟨_,_,p,_⟩=>let⟨o,e,_⟩:=p.obj;⟨o,e⟩
 frame:=λ_ h f ⟨k,e,p,q⟩ u=>⟨k,e,p.keep λo x=>u j (by simp) o x,by
  cases z with|l a=>exact QCO.at q λo x=>u a (by simp[Src.adr]) o x|t a=>obtain⟨o,Y,X⟩:=q;exact⟨o,u a (by simp[Src.adr]) o Y,X⟩⟩
 item:=λi s Q E W ⟨k,e,p,q⟩ n=>by
  have hk:k<y.size:=by omega
  exact A5 p q (x:=y[k]) (by simp[hk]) λf g b=>n _ f s.toks ⟨k,e,by simp[hk]⟩ ⟨k+1,by omega,g,N9 q b m⟩ b
 done:=λs Q E ⟨k,e,p,q⟩ r=>by
  have hk:k=y.size:=by omega
  exact AY Z p q (by simp[hk]) r
theorem Jc(r:A.handled=none)(j:Addr)(z:Src)(y:Array Value)(n k:Nat)(v:y[k]?=none) :
  Draws prog w A j [j,z.adr] n (λ_ _=>False) (λi h=>i=n/\VC h j z k/\BB h z y) where
 live:=λ_ _ ⟨_,p,_⟩=>let⟨o,e,_⟩:=p.obj;⟨o,e⟩
 frame:=λ_ h Y ⟨e,p,q⟩ u=>⟨e,p.keep λo x=>u j (by simp) o x,by
  cases z with|l a=>exact QCO.at q λo x=>u a (by simp[Src.adr]) o x|t a=>obtain⟨o,m,g⟩:=q;exact⟨o,u a (by simp[Src.adr]) o m,g⟩⟩
 item:=λi s Q E b ⟨e,_,_⟩ X=>absurd b (by omega)
 done:=λs Q E ⟨_,p,q⟩ f=>AY r p q v f
def Vo(K:QC)(z:Src)(c:Nat):It :=
  ⟨λi H=>∃h x,xM K H z h/\h[i]?=some x,
   λi H v y=>∃p x,H p=none/\v=.ref p/\y=OA H p (.tup [.int ((c+i:Nat):Int),x])/\∀h,xM K H z h->h[i]?=some x,
   λi H=>∃h,xM K H z h/\h.length<=i⟩
def aT(e j:Addr)(z:Src)(c i:Nat)(h:Heap):Prop:=(∃x,IsEnum h e j ((c+i:Nat):Int) x)/\VC h j z i
theorem VV{P:Program}{K:QC}{es:List Expr}{kk:Nat}{pp:Pos}{e j:Addr}{z:Src}{c:Nat}(L:e≠j)(n2:z.adr≠e)(n3:z.adr≠j) :
  Turn P w K (.Tuple es kk pp) (Vo K z c) [e,j] e (aT e j z c) where
 mem:=by simp
 obj:=λi h st b hb=>by obtain⟨⟨a,g⟩,n⟩:=st;simp only[QJ,Qh,or_false]at hb;rcases hb with rfl|rfl;exact⟨_,g,λv q=>by cases(show Data.fields _=Data.cell v from q)⟩;exact n.obj
 keep:=λi h h' st k=>by obtain⟨⟨a,g⟩,n⟩:=st;exact⟨⟨a,k e (by simp) _ g⟩,n.keep λo x=>k j (by simp) o x⟩
 item:=by
  intro X Q M R O i r s σ H E I B st N;subst Q M R;obtain⟨xs,x,C,ex⟩:=N;obtain⟨f,J,F,_⟩:=I.src C;obtain⟨u,hu,ru⟩:=J.get ex;obtain⟨⟨a,g⟩,n⟩:=st;have hi:i<f.toArray.size:=by have:=(Qd.mp hu).1;simpa using this
  refine wpAny_pyNext_enum_itemD (ec (show X.A.in1.handled=none from I.ok.hd O) j z n3 f.toArray c) g ⟨i,rfl,n,F⟩ (by omega) L (by simp[L,Q6 n2]) λy h' W ⟨k,ek,hy⟩ b1 b2 b3 b4 b5=>?_;have ek:k=i:=by omega
  subst ek;have ey:y=u:=by
   have:f.toArray[k]?=some u:=by simpa using hu
   rw[this]at hy;exact(qE hy).symm
  subst ey;refine⟨_,rfl,wpAny_letOwnedTupleGo_enum b1 λp c1 G=>?_⟩;obtain⟨k2,Z,b2,b2'⟩:=b2;have Z:k2=k+1:=by omega
  subst Z;have hp:=I.hok.fresh (QV s.heap.objs.size);have Y:e<s.heap.objs.size:=QR g;have m:∀b∈[e,j],b<s.heap.objs.size:=λb hb=>by simp only[QJ,Qh,or_false]at hb;rcases hb with rfl|rfl;exact Y;exact n.lt
  have kept:∀b o,b∉[e,j]->s.heap.get? b=some o->p.get? b=some o:=λb o hb q=>by simp only[QJ,Qh,or_false,not_or]at hb;exact(G.2 b hb.1).trans (b5 b o hb.1 hb.2 q)
  have l:p.get? s.heap.objs.size=some { cls:=.type "tuple",data:=.seq #[.int ((c+k:Nat):Int) W,y] }:=(G.2 _ (qy Y)).trans b3;have I1:=I.pair (x:=.int ((c+k:Nat):Int)) (h':=s.heap.push { cls:=.type "tuple",data:=.seq #[.int ((c+k:Nat):Int) W,y] }) (t':=W+1) (λb o e=>QH _ e) (QV _) (QN _ rfl) ⟨_,rfl⟩ ru;have I2:=I1.turnedL (h':=p) (t':=W+1) (ch:=[e,j]) (λb o hb e=>by
   rcases QAE e with⟨q1,q2⟩| q;subst q1 q2;exact l;exact kept b o hb q) λb hb=>by
   obtain⟨f0,f1,f2,f3,f4,S⟩:=B b hb;exact⟨by rw[xA (QZ (m b hb))];exact f0,f1,f2,f3,f4,S⟩
  refine⟨.ref s.heap.objs.size,_,I2,rfl,⟨s.heap.objs.size,x,hp,rfl,rfl,λxs' g1=>?_⟩,⟨⟨y,?_⟩,b2.keep λo q=>(G.2 _ (Q6 L)).trans q⟩,λb hb=>?_⟩;rw[I.src_inj g1 C];exact ex;have:(((c+(k+1):Nat)):Int)=((c+k:Nat):Int)+1:=by omega
  rw[this];exact c1;rw[xA (QZ (m b hb))];exact(B b hb).1
 done:=by intro X Q M R O i r s σ H E I B st N;subst Q M R;obtain⟨xs,C,en⟩:=N;obtain⟨f,J,F,_⟩:=I.src C;obtain⟨⟨a,g⟩,n⟩:=st;have l1:=J.length;obtain⟨f0,f1,f2,f3,f4,S⟩:=B j (by simp);exact wpAny_pyNext_enum_endD (Jc (show X.A.in1.handled=none from I.ok.hd O) j z f.toArray 0 i (by simp;omega)) g ⟨rfl,n,F⟩ λh' eb=>⟨rfl,I.turned (t':=s.toks) (λb o hb e=>eb b o hb e) f0 f1 f3 f4 S⟩
 self:=λ_ _ _ _ _ st h=>by obtain⟨⟨a,g⟩,_⟩:=st;exact QBv g h
end
theorem GW(z:Src)(xs:Array Value):Meets (Builtin.«enumerate.__new__» ⟨[.type "enumerate",.ref z.adr],[]⟩) (λ_ R s=>BB s.heap z xs /\
   R (.ok (.ret (.ref (s.heap.push z.it).objs.size))) { s with heap:=(s.heap.push z.it).push { cls:=.type "enumerate",data:=.fields #[.none,.bool false,.ref s.heap.objs.size,rawInt 0,.none,.none] } }) :=
 .of_wp λy w A R s h=>by
  obtain⟨b,g,d,v,a⟩:=s;obtain⟨k,h⟩:=h;have u:=sub_enumerate;have x:BB (Shared.heap ⟨b,g,d,v,a⟩) z xs:=k;wp_walk;refine wpAny_stack_any λst=>QK ?_;split;rename_i cl _ _ _ _ _;cases(cl==Value.type "enumerate")<;>(wp_walk using UP x;exact⟨_,rfl,h⟩)
  wp_walk using UP x;exact⟨_,rfl,h⟩
section
variable{prog:Program}{w:World}{A:Around}{E:zC}{s:Shared}
theorem TU{h:Heap}{z:Src}{n:Int}:IsEnum ((h.push z.it).push { cls:=.type "enumerate",data:=.fields #[.none,.bool false,.ref h.objs.size,rawInt n,.none,.none] }) (h.objs.size+1) h.objs.size n .none:=by have:=QN (h.push z.it) (o:={ cls:=.type "enumerate",data:=.fields #[.none,.bool false,.ref h.objs.size,rawInt n,.none,.none] }) rfl;rw[wb]at this;exact this
theorem lT{z:Src}{xs:Array Value}{Q:zC}(y:BB s.heap z xs)
  (h:∀h',aT (s.heap.objs.size+1) s.heap.objs.size z 0 0 h'->(∀c o,s.heap.get? c=some o->h'.get? c=some o)->Q (.ref (s.heap.objs.size+1)) { s with heap:=h' }):wpAny (model prog w) A (call (.type "enumerate") [.ref z.adr]) Q E s:=by
 refine callType_new PySem.F.called_enumerate (by decide) (PySem.F.typeCall_enumerate_1 _) (PySem.F.newCall_enumerate_1 _) (λobj=>PySem.F.args_object_init_2 obj _) PySem.F.entry_enumerate_new (GW z xs) ⟨y,?_⟩;show _/\_;rw[wb];exact⟨⟨_,TU,rfl⟩,h _ ⟨⟨.none,TU⟩,(N3 s.heap z).keep λo e=>QH _ e⟩ λc o x=>QH _ (QH _ x)⟩
end
theorem En{a b:Nat}(h:a≠b):((a:Addr)≠(b:Addr)):=h
theorem rP{n x h:Nat}(z:x<n)(y:h<n):ZipApart ((n+4:Nat):Addr) ((n+2:Nat):Addr) ((n+3:Nat):Addr) (n:Addr) ((n+1:Nat):Addr) (x:Addr) (h:Addr):=by constructor<;>(apply En;omega)
def IT:Value->Str
 | .str z _=>z|_=>⟨#[]⟩
def aI(pg:Program)(wd:World)(h:Heap)(a:Addr)(b:Bool)(y:List Str):Prop :=
 ∃x z t,h.get? a=some { cls:=.type "set",dict:=none,data:=.set x z t,slots:=#[] }/\ElemsOf (strKind pg wd) x.toList/\x.toList.map (λe=>IT e.2)=y/\y.Nodup/\t.fits x.size=true/\t.led=b/\(x.size=0∨t.plain=false)
theorem aI.at{pg:Program}{wd:World}{h h':Heap}{a:Addr}{b:Bool}{y:List Str}(x:aI pg wd h a b y)(k:∀o,h.get? a=some o->h'.get? a=some o):aI pg wd h' a b y:=by obtain⟨z,u,t,e,r⟩:=x;exact⟨z,u,t,k _ e,r⟩
theorem Z6(t:SetTable)(es:Array (Int×Value))(h:Int)(x:Value):(layNew t es h x).2.1.led=t.led:=by
 unfold layNew;cases t.freeSlot h with|none=>rfl|some p=>show(QBh _ _).led=_;unfold QBh;split<;>rfl
theorem oZ{m f v:Nat}{l p:Bool}{h:Array Int}{t:SetTable}{o:Array Nat}(e:SetTable.laid m f v l p h=some (t,o)):t.led=l/\t.plain=p:=by
 unfold SetTable.laid at e;cases c:SetTable.layClean m h with|none=>rw[c]at e;cases e|some w=>rw[c]at e;cases e;exact⟨rfl,rfl⟩
theorem MV(t:SetTable)(es:Array (Int×Value))(n:Nat)(h:t.plain=false):(relayAll t es n).2.1.led=t.led/\(relayAll t es n).2.1.plain=false:=by unfold relayAll;split;rename_i t' o e;have:=oZ e;show(if _ then _ else _:Array (Int×Value)×SetTable×Bool).2.1.led=_/\(if _ then _ else _:Array (Int×Value)×SetTable×Bool).2.1.plain=_;split;exact⟨this.1,this.2.trans h⟩;exact⟨rfl,rfl⟩;exact⟨rfl,rfl⟩
section
variable{pg:Program}{wd:World}{v:Around}{Er:zC}{sh:Shared}
section
variable{es:Array (Int×Value)}{e:Int×Value}{u:List Str}{z:Str}{b:Bool}{a:Addr}
theorem AZ{es:List (Int×Value)}(y:ElemsOf (strKind pg wd) es)(x:e∈es):∃t,e.2=.str (IT e.2) t:=by obtain⟨⟨k,hk,_⟩,_⟩:=y e x;obtain⟨t,h⟩:=QBR hk;exact⟨t,by rw[h];rfl⟩
theorem D8{es:List (Int×Value)}(w:ElemsOf (strKind pg wd) es)(x:e∈es)(z:Str):(strKind pg wd).is z e.2=true↔IT e.2=z:=by obtain⟨t,h⟩:=AZ w x;rw[h];generalize IT e.2=y;show(y==z)=true↔y=z;exact beq_iff_eq
theorem IU(y:ElemsOf (strKind pg wd) es.toList)(w:es.toList.map (λe=>IT e.2)=u):(es.toList.findIdx? (λe=>(strKind pg wd).is z e.2)=none)↔z∉u:=by
 rw[List.findIdx?_eq_none_iff,<- w,Qe];constructor;rintro h ⟨e,x,rfl⟩;have:=h e x;rw[(D8 y x _).mpr rfl]at this;cases this;intro h e x;cases c:(strKind pg wd).is z e.2 with|false=>rfl|true=>exact(h ⟨e,x,(D8 y x z).mp c⟩).elim
theorem NU{Q:Unit->Shared->Prop}(h:Q () sh):wpAny (model pg wd) v (match b with|true=>rule "set.scan.the-table-gave-way"|false=>pure ()) Q Er sh:=by
 cases b with|false=>exact QK h|true=>exact QAN h
theorem MU{h:Heap}{es':Array (Int×Value)}{ep:Nat}{t t':SetTable}(e:h.get? a=some { cls:=.type "set",dict:=none,data:=.set es ep t,slots:=#[] }):(h.update a (QBw es' t')).get? a=some { cls:=.type "set",dict:=none,data:=.set es' (ep+1) t',slots:=#[] }:=Q4 (QBw es' t') e rfl
theorem A3{g:Tok}{Q:Bool->Shared->Prop}(S:aI pg wd sh.heap a b u)(hr:u.length+1<4096)
  (k:∀r h' l,qV a sh.heap h'->aI pg wd h' a b l->(∀s,s∈l↔s∈u∨s=z)->l.length<=u.length+1->Q r { sh with heap:=h',toks:=sh.toks+1 }):wpAny (model pg wd) v (setAdd a (.str z g)) Q Er sh:=by
 have hk:(strKind pg wd).is z (.str z g)=true:=strKind_is _ _ _ _;unfold setAdd;refine qO (QA ((strKind pg wd).pyHash (k:=z) hk ?_));obtain⟨es,ep,t,F,Z,E,nd,hf,hb,hp⟩:=id S;have sz:es.size=u.length:=by rw[<- E,QG,QX]
 have bd:es.size<scanBound:=by show es.size<4096;omega
 unfold setAddHashed setAddHashedIn;refine qO (QA (wo (s:={ sh with toks:=sh.toks+1 }) F rfl hf ?_));dsimp only;rw[byScan_of (knd:=strKind pg wd) (x:=.str z g) rfl bd Z,if_pos rfl];unfold setAddByScan;refine QA (QA (QAN (QA (wpAny_setScan_of hk (s:={ sh with toks:=sh.toks+1 }) F rfl hf Z ?_))));cases P:es.toList.findIdx? (λe=>(strKind pg wd).is z e.2) with
 |some j =>
  have mz:z∈u:=wF λn=>by rw[(IU Z E).mpr n]at P;cases P
  dsimp only;exact QK (QK (k _ sh.heap u (QBr _ _) S (λs=>⟨.inl,λo=>o.elim id λe=>e▸mz⟩) (wD _)))
 |none =>
  have nz:=(IU Z E).mp P;dsimp only;have Y:=layNew_perm t es ((strKind pg wd).hash z) (.str z g);have C:=layNew_fits t es ((strKind pg wd).hash z) (.str z g);have A:=Z6 t es ((strKind pg wd).hash z) (.str z g);generalize layNew t es ((strKind pg wd).hash z) (.str z g)=L at Y C A ⊢;obtain⟨h,I,G,gv⟩:=L;dsimp only at Y C A ⊢;rw[QBx]at Y;have el1:ElemsOf (strKind pg wd) h.toList:=(Z.push hk rfl).perm Y;have pz:(h.toList.map λe=>IT e.2).Perm (u++[z]):=by have:=Y.map λe:Int×Value=>IT e.2;rw[QU,E]at this;exact this
  have n1:h.size=u.length+1:=by rw[<- QX,<- QG (f:=λe:Int×Value=>IT e.2),pz.length_eq,QL];rfl
  have J:(u++[z]).Nodup:=qJ.mpr ⟨nd,Qk.mpr ⟨Qh,Q0⟩,λx hx y hy=>by rw[QI.mp hy];exact λe=>nz (e▸hx)⟩;have b1:h.size<=sizeLine:=by rw[QS];omega
  have fin:∀(q:Array (Int×Value)) (w:SetTable) (h':Heap) (p:Nat),q.toList.Perm h.toList->w.fits q.size=true->w.led=b->w.plain=false->qV a sh.heap h'->h'.get? a=some { cls:=.type "set",dict:=none,data:=.set q p w,slots:=#[] }->Q true { sh with heap:=h',toks:=sh.toks+1 }:=λq w h' p p2 H B W sb g2=>by have m:=(p2.map λe:Int×Value=>IT e.2).trans pz;refine k true h' _ sb ⟨q,p,w,g2,el1.perm p2,rfl,m.nodup_iff.mpr J,H,B,.inr W⟩ (λs=>?_) ?_;rw[m.mem_iff,Qg,QI];rw[m.length_eq,QL];exact QV _
  have i:∀w:SetTable,w.fits h.size=true->w.led=b->w.plain=false->wpAny (model pg wd) v (do
    storeSet a h w
    if(!G&&w.tooFull)=true then do
      (match (relayAll w h (WC h.size)).2.2 with|true=>rule "set.scan.the-table-gave-way"|false=>pure ())
      storeSet a (relayAll w h (WC h.size)).1 (relayAll w h (WC h.size)).2.1
      pure (some true)
     else pure (some true)) (λx s'=>wpAny (model pg wd) v (match x with|some r=>pure r|none=>setAddHashedIn a (.str z g) ((strKind pg wd).hash z) 99999) Q Er s') Er { sh with toks:=sh.toks+1 }:=λw H B W=>by
   refine QA (QBy (s:={ sh with toks:=sh.toks+1 }) F rfl ?_ b1);have N:=MU (es':=h) (t':=w) F;have X:=qP sh.heap a (QBw h w);split;have pr:=relayAll_perm w h (WC h.size);have O:=relayAll_fits w h (WC h.size);have K:=MV w h (WC h.size) W;generalize relayAll w h (WC h.size)=R at pr O K ⊢;obtain⟨q,t3,g3⟩:=R;dsimp only at pr O K ⊢;refine QA (NU (QA (QBy (s:={ sh with heap:=sh.heap.update a (QBw h w),toks:=sh.toks+1 }) N rfl (QK (QK ?_)) ?_)));exact fin q t3 _ _ pr O (K.1.trans B) K.2 (X.trans (qP _ a _)) (MU N);rw[<- QX,pr.length_eq,QX];exact b1;exact QK (QK (fin h w _ _ (we _) H B W X N))
  refine QA (NU ?_);cases M:I.plain with|true=>rw[if_pos rfl];refine QA ?_;rw[hashByValue_scannable 8 (x:=.str z g) rfl];exact QK (i { I with plain:=false } (SetTable.fits_plain_off C) (A.trans hb) rfl)|false=>rw[if_neg QF];exact QA (QK (i I C (A.trans hb) M))
end
end
theorem GN{vs:List Value}{ss:List Str}(h:StrsAre vs ss):vs.length=ss.length/\∀(i:Nat) (v:Value),vs[i]?=some v->∃z t,v=.str z t/\ss[i]?=some z:=by
 induction h with
 |nil=>exact⟨rfl,λi v e=>by cases e⟩|cons y t _ x =>
  refine⟨congrArg Nat.succ x.1,λi v e=>?_⟩;cases i with|zero=>cases e;exact⟨y,t,rfl,rfl⟩|succ i=>exact x.2 i v e
section
variable{pg:Program}{wd:World}{x:Around}{Er:zC}{sh:Shared}
section
variable{l:Addr}{b:Bool}{xs:Array Value}{ss:List Str}{Q:zC}
theorem OX{S it:Addr}{R:Result->Shared->Prop}(hd:x.handled=none)(N:l≠it)(J:S∉[it,l])(hs:StrsAre xs.toList ss)(bd:xs.size+1<4096) :
  ∀(n i:Nat) (sh:Shared) (y:List Str),xs.size - i=n->i<=xs.size->(sh.heap.IsListIter it l i/\sh.heap.IsList l xs)->aI pg wd sh.heap S b y->(∀s,s∈y↔s∈ss.take i)->y.length<=i ->
   (∀s' h,Moved [S,it] (λa b=>b=a) sh s'->aI pg wd s'.heap S b h->(∀s,s∈h↔s∈ss)->h.length<=xs.size->R (.ok (.ret .none)) s') ->
   codeAny (model pg wd) x (.builtin "set.update.loop" ⟨[.ref S,.ref it],[]⟩) R sh:=by
 have W:=(QBs (prog:=pg) (w:=wd) (A:=x.in1) hd it l N xs).toS;obtain⟨L,hx⟩:=GN hs;rw[QX]at L;have sub:∀c∈[it],c∈[S,it]:=λc X=>QE _ X;have I:S∉[it]:=λz=>J (QJ.mpr (.inl (QI.mp z)));intro n;induction n with
 |zero =>
  intro i sh y en H f u g len k;obtain rfl:i=xs.size:=by omega
  refine qt QAv ?_;rw[qU Wm _];refine QA (m:=pyNext (.ref it)) (W.done sh _ _ f λs' p=>QK (k s' y (p.mono sub) (u.at λo e=>p.heap S o I e) ?_ len));intro s;rw[g,L,QCG]
 |succ n ih =>
  intro i sh y en H f u g len k;have lt:i<xs.size:=by omega
  refine qt QAv ?_;rw[qU Wm _];refine QA (m:=pyNext (.ref it)) (W.item i sh _ _ lt f λv s' M B p=>?_);obtain⟨z,F,rfl,ez⟩:=hx i v (by rw[wI];exact M);have K:aI pg wd s'.heap S b y:=u.at λo e=>p.heap S o I e;refine QA (m:=holding [Value.str z F] (setAdd S (.str z F))) (qO (A3 K (by omega) λr h' h G Z P l3=>QK ⟨wz Wm _,?_⟩));refine ih (i+1) _ h (by omega) lt (W.frame _ s' _ _ B (wD _) λc X o e=>?_) Z (λs=>?_) (by omega) λC j E Y O l4=>k C j (Moved.trans W.gtrans ((p.mono sub).then_heap (wD _) λc o X e=>?_) E) Y O l4;rw[G.2 c λq=>J (q▸X)];exact e;rw[P,g,List.take_succ,ez,Qg];simp;rw[G.2 c λq=>X (q▸QD)];exact e
noncomputable abbrev pO(b:Bool):Obj:={ cls:=.type "set",dict:=none,data:=.set #[] 0 (.fresh 0 0 b) }
theorem k6{v:Value}(q:Q (.ref sh.heap.objs.size) { sh with heap:=sh.heap.push (pO (!wd.params.followText "set-order")) }):codeAny (model pg wd) x (.call (.builtin "set.__new__") ⟨[.type "set",v],[]⟩) (wants Q Er) sh:=by refine codeAny_of_tree ?_;show wpAny _ x.in1 (checkBuiltinCall "set.__new__" ⟨[.type "set",v],[]⟩ >>= λ_=>again (.builtin "set.__new__" ⟨[.type "set",v],[]⟩)) _ _ sh;refine QA (Wd (F.newCall_set_1 v) (QK ⟨wz QCQ _,qt F.entry_set_new ?_⟩));rw[qU QCQ _];unfold Builtin.«set.__new__» Builtin.Frozenset.newClass;have sub:=sub_set_self;obtain⟨z,u,w,h,y⟩:=sh;dsimp only;wp_walk;refine WA (QK ?_);dsimp only;simp only[newObj];exact QA (wpAny_alloc (QK (QK q)))
theorem zZ{h:Heap}{a:Addr}(e:h.get? a=some (pO b)):aI pg wd h a b []:=⟨#[],0,_,e,λ_ z=>(nomatch z),rfl,Q0,by cases b<;>decide,rfl,.inl rfl⟩
theorem aM(J:x.handled=none)(I:sh.heap.IsList l xs)(G:StrsAre xs.toList ss)(N:xs.size+1<4096)
  (k:∀(h':Heap) (u:Nat) (h:List Str),aI pg wd h' sh.heap.objs.size (!wd.params.followText "set-order") h->(∀s,s∈h↔s∈ss)->h.length<=xs.size->(∀b o,sh.heap.get? b=some o->h'.get? b=some o)->Q (.ref sh.heap.objs.size) { sh with heap:=h',toks:=u }) :
  wpAny (model pg wd) x (call (.type "set") [.ref l]) Q Er sh:=by
 generalize hb:(!wd.params.followText "set-order")=b at k;generalize hn:sh.heap.objs.size=n at k;obtain⟨c,tl,mr⟩:=WL.mro;have md:=WL.made;have sb:=WL.sub;have c1:=WL.notType;have c2:=WL.canCreate;have c3:=F.typeCall_set_1 (.ref l);refine wpAny_call (codeAny_of_tree ?_);show wpAny _ _ (callAny (.type "set") _) _ _ _;refine QK ⟨Code.quiet_builtin _ (by decide +kernel),qt F.entry_type_call ?_⟩;rw[Around.under_plain (weight_type_call_type "set" [.ref l] []) rfl]
 repeat (any_goals (first|assumption|wp_step))
 refine QAZ (k6 (v:=.ref l) (Er:=Er) (Q:=λp q=>p=.ref n/\q={ sh with heap:=sh.heap.push (pO b) }) ⟨by rw[hn],by rw[hb]⟩) λr q a=>?_;cases r with
 |error e=>exact a|ok fl =>
  cases fl with
  |ret obj =>
   obtain⟨rfl,rfl⟩:=a;have A:(sh.heap.push (pO b)).get? n=some (pO b):=hn▸QN _ rfl;have ty:QBi { sh with heap:=sh.heap.push (pO b) } (.ref n) "set":=⟨_,A,rfl⟩
   have li:=WL.init.lookup;have bi:=WL.init.bind (.ref n)
   repeat (any_goals (first|assumption|wp_step))
   refine QAZ (codeAny_call_builtin (R:=wants (λr q=>r=.none/\∃h' u h,q={ sh with heap:=h',toks:=u }/\aI pg wd h' n b h/\(∀s,s∈h↔s∈ss)/\h.length<=xs.size/\∀c o,sh.heap.get? c=some o->h'.get? c=some o) Er) WL.init.plain F.entry_set_init (check_set_init_1 ty ?body)) ?after
   case after =>
    intro r q a;cases r with
    |error e=>exact a|ok fl =>
     cases fl with
     |ret r =>
      obtain⟨rfl,h',u,h,rfl,H,S,P,O⟩:=a
      repeat (any_goals (first|assumption|wp_step))
      exact k h' u h H S P O
     |_=>exact a.elim
   case body =>
    obtain⟨C,K,M,Y,L⟩:=I;obtain⟨X,w,i,y⟩:=C;cases M;cases L;have j:(sh.heap.push (pO b)).get? l=some { cls:=.type "list",dict:=w,data:=.seq xs Y,slots:=y }:=QH _ K;have t1:=F.sub_list_set;have t2:=F.sub_list_frozenset;have t3:(Value.type "list" == Value.type "dict")=false:=by decide
    have W:(sh.heap.push (pO b)).IsList l xs:=⟨_,j,rfl,Y,rfl⟩
    unfold Builtin.«set.__init__» noKeywords Builtin.Frozenset.updateFrom;generalize hi:pyIter=it;wp_walk;subst hi;refine wl W (QA (wpAny_runValue ?_));have lt:l<sh.heap.objs.size:=QR K;have sz:(sh.heap.push (pO b)).objs.size=n+1:=by rw[wb,hn]
    rw[hn]at lt;refine OX (b:=b) (ss:=ss) (by simp[J]) (show l≠_ by rw[sz];exact QZ (qk lt)) (λz=>?_) G N xs.size 0 _ [] (QB5 _) (Q9 _) ⟨⟨_,QN _ rfl,rfl,rfl⟩,W.push _⟩ (zZ (QH _ A)) (λs=>?_) (QV _) λB g f st m E=>?_;rw[sz]at z;rcases QJ.mp z with z|z;exact QZ (WY _) z;exact qy lt (QI.mp z);rw[List.take_zero];obtain⟨h',gs,dr,u,oo⟩:=B;cases f.gens;cases f.drawn;cases f.os;refine QK ?_;refine QK ⟨rfl,h',u,g,rfl,st,m,E,λc o e=>?_⟩;have Z:c<n:=hn▸QR e;refine f.heap c o (λz=>?_) (QH _ (QH _ e));rw[sz]at z;rcases QJ.mp z with z|z;exact QZ Z z;exact QZ (qk Z) (QI.mp z)
  |_=>exact a.elim
end
end
section
variable{pg:Program}{wd:World}{M:Model}{y:Around}{Er:zC}{sh:Shared}
theorem BN{src:Source}{n:Nat}{Q:Nat->Shared->Prop}(x:n≠0)(h:∀i d,i<n->Q i { sh with drawn:=d }):wpAny M y (choose src n) Q Er sh:=λ_ _ _=>by unfold choose;rw[Sem.wp_choose];exact⟨x,by rw[Sem.wp_pure];exact h _ _ (Nat.mod_lt _ (Nat.pos_of_ne_zero x))⟩
theorem VL{α:Type}{xs:List α}{i:Nat}(h:i<xs.length):(xs[i]::xs.eraseIdx i).Perm xs:=by rw[List.eraseIdx_eq_take_drop_succ];refine List.perm_middle.symm.trans ?_;rw[<- WX h,QBD]
theorem EZ{α:Type}:∀(n:Nat) (xs:List α) (sh:Shared) {Q:List α->Shared->Prop},xs.length=n->(∀L d,L.Perm xs->Q L { sh with drawn:=d })->wpAny M y (drawOrder n xs) Q Er sh:=by
 intro n;induction n with
 |zero=>intro xs sh Q h k;obtain rfl:=qu.mp h;exact QK (k [] sh.drawn (we _))|succ n u =>
  intro xs sh Q h k;cases xs with|nil=>cases h|cons x r=>unfold drawOrder;refine QA (BN (by rw[h];exact Nat.succ_ne_zero n) λi d z=>?_);rw[Qw z];refine QA (u ((x::r).eraseIdx i) _ (by rw[QAX z,h];rfl) λL v p=>QK (k _ v ((p.cons _).trans (VL z))))
theorem IV{α:Type}(f:Nat->Nat):∀(n k:Nat) (xs:List α) (out:Array α),xs.length=n->(pickOrder.go f n k xs out).toList.Perm (out.toList++xs):=by
 intro n;induction n with|zero=>intro k xs out h;obtain rfl:=qu.mp h;rw[wG];exact we _|succ n z=>intro k xs out h;have x:f k % xs.length<xs.length:=Nat.mod_lt _ (by omega);unfold pickOrder.go;rw[Qw x];refine(z (k+1) _ _ (by rw[QAX x,h];rfl)).trans ?_;rw[QBx,qR];exact(VL x).append_left _
end
namespace F
theorem vQ:Manifest.owners.lookup (String.ofList ['r','o','t','a','r','e','t','i','_','t','e','s'].reverse)=some Manifest.sig_set_iterator:=by kernel_rfl
theorem slot_si:Slot "set_iterator" "__next__" "set_iterator.__next__":=.of (owner:="set_iterator") (n:="__next__") (by rw[typeLookup_type,QBE];kernel_rfl) (by decide +kernel) (by decide +kernel) (by decide +kernel) (by first|exact .inl (by decide +kernel)|exact .inr (by decide +kernel)) (by rw[QBQ];kernel_rfl)
theorem entry_si:entryFor table "set_iterator.__next__"=some Builtin.«set_iterator.__next__»:=QCH (by kernel_rfl)
theorem args_si(a:Value):argsOk "set_iterator.__next__" ⟨[a],[]⟩:=by unfold argsOk;rw[signature?_of (id:="set_iterator.__next__") (n:=['_','_','t','x','e','n','_','_']) (o:=['r','o','t','a','r','e','t','i','_','t','e','s']) (by kernel_rfl) vQ];kernel_rfl
theorem entry_set_iter:entryFor table "set.__iter__"=some Builtin.«frozenset.__iter__»:=entryFor_alias (id':="frozenset.__iter__") (by kernel_rfl) rfl (by decide +kernel) (by kernel_rfl)
end F
def eN(h:Heap)(j a:Addr)(f:Value)(i n ep:Nat):Prop:=∃o,h.get? j=some o/\o.cls=.type "set_iterator"/\o.data=.fields #[f,rawInt i,.ref a,rawInt n,rawInt ep]
theorem eN.ty{sh:Shared}{j a:Addr}{f:Value}{i n ep:Nat}(x:eN sh.heap j a f i n ep):sh.TypeIs (.ref j) "set_iterator":=let⟨o,e,c,_⟩:=x;⟨o,e,c⟩
noncomputable abbrev setO(es:Array (Int×Value))(ep:Nat)(t:SetTable):Obj:={ cls:=.type "set",dict:=none,data:=.set es ep t,slots:=#[] }
section
variable{pg:Program}{wd:World}{y:Around}{Er:zC}{sh:Shared}{j a:Addr}{es:Array (Int×Value)}{ep:Nat}{t:SetTable}
section
variable{Q:Option Value->Shared->Prop}{h:Heap}{f:Value}{i i' n s:Nat}
theorem DT{P:QCb->Shared->Prop}{x:zC}(z:y.handled=none)(k:∀e h',QBi { sh with heap:=h' } e "StopIteration"->(∀b o,sh.heap.get? b=some o->h'.get? b=some o)->x e { sh with heap:=h' }) :
  wpAny (model pg wd) y.in1 (do raiseNew (<- newExc (.type "StopIteration") []):Sem QCb) P x sh:=by
 simp only[newExc,newTuple,raiseNew];refine QA (QA (Qu ?_ (by size_fits)));refine QA (m:=firstArgMember _ _) (Wd (a:=Value.none) (by first|rfl | (rw[firstArgMember];rfl)) (Qu ?_ (by size_fits)));refine QA (QAu ?_);rw[show y.in1.handled=none from z];refine QA (QK (QBV (k _ _ ?_ ?_)));exact⟨_,QN _ rfl,rfl⟩;exact λb o e=>QH _ (QH _ e)
theorem KP{e:Value}(ty:sh.TypeIs e "StopIteration")(q:Q none sh):wpAny (model pg wd) y (do if <- isInstance e (.type "StopIteration") then pure none else throw e) Q Er sh:=by refine QA (QAC (T:="StopIteration") (b:=true) ty (by kernel_rfl) ?_);rw[if_pos rfl];exact QK q
theorem eN.put{z:Value}(it:eN h j a f i n ep):eN ((h.update j (qg (·.setIfInBounds 0 z))).update j (qg (·.setIfInBounds 1 (rawInt i')))) j a z i' n ep:=by obtain⟨o,v,w,x⟩:=it;have k:=Q4 (qg (·.setIfInBounds 0 z)) v (ql (Q7 x _));have u:=Q7 x (·.setIfInBounds 0 z);refine⟨_,Q4 _ k (ql (Q7 u _)),(WO ..).trans ((WO ..).trans w),?_⟩;rw[Q7 u];simp
theorem eN.put1(it:eN h j a f i n ep):eN (h.update j (qg (·.setIfInBounds 1 (rawInt i')))) j a f i' n ep:=by obtain⟨o,z,u,x⟩:=it;refine⟨_,Q4 _ z (ql (Q7 x _)),(WO ..).trans u,?_⟩;rw[Q7 x];simp
theorem LX{r:Option (Value×Nat)}(m:y.handled=none)(it:eN sh.heap j a (rawInt s) i n ep)(Y:sh.heap.get? a=some (setO es ep t))(l:t.fits es.size=true)(g:n=es.size)
  (nx:∀{A:Around}{E:zC}{q:Option (Value×Nat)->Shared->Prop},q r sh->wpAny (model pg wd) A (setNext a s i ep) q E sh)
  (k:∀x s' h',r=some (x,s')->eN h' j a (rawInt s') (i+1) n ep->(∀b o,b≠j->sh.heap.get? b=some o->h'.get? b=some o)->Q (some x) { sh with heap:=h' })
  (w:r=none->∀h',(∀b o,b≠j->sh.heap.get? b=some o->h'.get? b=some o)->Q none { sh with heap:=h' }) :
  wpAny (model pg wd) y (pyNext (.ref j)) Q Er sh:=by
 have ty:=it.ty;obtain⟨o,u,Z,z⟩:=id it;unfold pyNext;refine QA (Wl (qF (name:=Ql "__next__") ty F.slot_si (Q2 F.slot_si ty F.entry_si ?_ (F.args_si _))));unfold Builtin.«set_iterator.__next__»;refine QA (Wd (a:=(Value.ref j,[])) rfl (QA (WW u z ?_)));show wpAny _ _ (setEntries a >>= _) _ _ _;refine QA (QAP Y rfl l ?_);rw[if_neg (show ¬ (((es.size:Nat):Int) != ((n:Nat):Int))=true by rw[g];simp)];show wpAny _ _ (setNext a s i ep >>= _) _ _ _;refine QA (nx ?_);cases r with|some p=>obtain⟨x,s'⟩:=p;refine QA (wE u z (by simp) ?_);have X:=Q4 (qg (·.setIfInBounds 0 (rawInt s'))) u (ql (Q7 z _));refine QA (wE (s:={ sh with heap:=sh.heap.update j (qg (·.setIfInBounds 0 (rawInt s'))) }) X (Q7 z _) (by simp) ?_);refine QK ⟨x,rfl,QK (k x s' _ rfl ?_ λb o hb e=>?_)⟩;exact it.put (i':=i+1);rw[qA _ _ (Q6 hb),qA _ _ (Q6 hb)];exact e|none=>refine QA (wE u z (by simp) ?_);exact DT (sh:={ sh with heap:=sh.heap.update j (qg (·.setIfInBounds 2 Value.none)) }) m λe h' ty v=>KP (sh:={ sh with heap:=h' }) ty (w rfl h' λb o hb e=>v b o (by rw[qA _ _ (Q6 hb)];exact e))
theorem HX{p:Addr}{L:List Nat}{w:Obj}{c:Nat}(W:y.handled=none)(it:eN sh.heap j a (.ref p) i n ep)(l:sh.heap.get? a=some (setO es ep t))(k:t.fits es.size=true)(Z:n=es.size)
  (B:sh.heap.get? p=some w) (E:w.data=.seq (L.map λi=>rawInt (i:Nat)).toArray c) (K:∀m∈L,m<es.size)
  (Y:∀m x h',L[i]?=some m->es[m]?=some x->eN h' j a (.ref p) (i+1) n ep->(∀b o,b≠j->sh.heap.get? b=some o->h'.get? b=some o)->Q (some x.2) { sh with heap:=h' })
  (X:L[i]?=none->∀h',(∀b o,b≠j->sh.heap.get? b=some o->h'.get? b=some o)->Q none { sh with heap:=h' }) :
  wpAny (model pg wd) y (pyNext (.ref j)) Q Er sh:=by
 have ty:=it.ty;obtain⟨o,u,G,z⟩:=id it;unfold pyNext;refine QA (Wl (qF (name:=Ql "__next__") ty F.slot_si (Q2 F.slot_si ty F.entry_si ?_ (F.args_si _))));unfold Builtin.«set_iterator.__next__»;refine QA (Wd (a:=(Value.ref j,[])) rfl (QA (WW u z ?_)));show wpAny _ _ (setEntries a >>= _) _ _ _;refine QA (QAP l rfl k ?_);rw[if_neg (show ¬ (((es.size:Nat):Int) != ((n:Nat):Int))=true by rw[Z];simp)];show wpAny _ _ (seqItems? (.ref p) >>= _) _ _ _;refine QA (QAe B E ?_);have A:(L.map λi=>rawInt (i:Nat)).toArray[i]?=(L[i]?).map λi=>rawInt (i:Nat):=by rw[List.getElem?_toArray,Qa]
 show wpAny _ _ (match (L.map λi=>rawInt (i:Nat)).toArray[i]? with|some (Value.int place _)=>_|some _=>_|none=>_) _ _ _;rw[A];cases v:L[i]? with
 |some m=>have q:=K m (qB v);have g:es[m]?=some es[m]:=WV q;show wpAny _ _ (setNextDrawn a m ep >>= _) _ _ _;unfold setNextDrawn;refine QA (QA (wo l rfl k ?_));show wpAny _ _ (if(ep != ep)=true then _ else _) _ _ _;rw[if_neg (by simp)];show wpAny _ _ (match es[m]? with|some (_,x)=>_|_=>_) _ _ _;rw[g];refine QK (QA (wE u z (by simp) ?_));refine QK ⟨_,rfl,QK (Y m _ _ v g ?_ λb o hb e=>?_)⟩;exact it.put1 (i':=i+1);rw[qA _ _ (Q6 hb)];exact e
 |none=>show wpAny _ _ (setField (.ref j) 0 (rawInt 0) >>= _) _ _ _;refine QA (wE u z (by simp) ?_);have C:=Q4 (qg (·.setIfInBounds 0 (rawInt 0))) u (ql (Q7 z _));refine QA (wE (s:={ sh with heap:=sh.heap.update j (qg (·.setIfInBounds 0 (rawInt 0))) }) C (Q7 z _) (by simp) ?_);exact DT (sh:={ sh with heap:=(sh.heap.update j (qg (·.setIfInBounds 0 (rawInt 0)))).update j (qg (·.setIfInBounds 2 Value.none)) }) W λe h' ty r=>KP (sh:={ sh with heap:=h' }) ty (X v h' λb o hb e=>r b o (by rw[qA _ _ (Q6 hb),qA _ _ (Q6 hb)];exact e))
theorem dW{Q:Option (Value×Nat)->Shared->Prop}(hb:wd.params.followText "set-order"=true)(z:sh.heap.get? a=some (setO es ep t))(x:t.fits es.size=true)(q:Q (((pickOrder (wd.params.setOrder a ep) es)[i]?).map λe=>(e.2,0)) sh):wpAny (model pg wd) y (setNext a 0 i ep) Q Er sh:=by unfold setNext setWalk setsByText;refine QA (wo z rfl x (QA (QA (WA (QK ?_)))));rw[if_pos (by exact hb)];show wpAny _ _ (if(ep != ep)=true then _ else _) _ _ _;rw[if_neg (by simp)];refine QA (QA (wo z rfl x (QA (QA (WA (QK ?_))))));rw[if_pos (by exact hb)];exact QA (WA (QK (QK q)))
theorem yZ{Q:Option (Value×Nat)->Shared->Prop}(hb:wd.params.followText "set-order"=false)(v:sh.heap.get? a=some (setO es ep t))(u:t.fits es.size=true)(w:es.size<=1)(z:t.led=true)
  (q:Q (match es[wf t.place s]?,t.place[wf t.place s]? with|some (_,x),some j=>some (x,j+1)|_,_=>none) sh):wpAny (model pg wd) y (setNext a s i ep) Q Er sh:=by
 unfold setNext setsByText;refine QA (wo v rfl u (QA (QA (WA (QK ?_)))));rw[if_neg (by show ¬ wd.params.followText "set-order"=true;rw[hb];exact QF)];show wpAny _ _ (if(!t.plain&&decide (es.size > 1))=true then _ else _) _ _ _;rw[if_neg (by rw[dF (by omega),Bool.and_false];exact QF)];refine QA (m:=if(!t.led&&!es.isEmpty)=true then unsupported "set:maker-not-led" else pure ()) ?_;rw[if_neg (by rw[z];exact QF)];exact QK (QK q)
end
end
namespace F
theorem slot_sii:Slot "set_iterator" "__iter__" "set_iterator.__iter__":=.of (owner:="set_iterator") (n:="__iter__") (by rw[typeLookup_type,QBE];kernel_rfl) (by decide +kernel) (by decide +kernel) (by decide +kernel) (by first|exact .inl (by decide +kernel)|exact .inr (by decide +kernel)) (by rw[QBQ];kernel_rfl)
theorem args_sii(a:Value):argsOk "set_iterator.__iter__" ⟨[a],[]⟩:=by unfold argsOk;rw[signature?_of (id:="set_iterator.__iter__") (n:=['_','_','r','e','t','i','_','_']) (o:=['r','o','t','a','r','e','t','i','_','t','e','s']) (by kernel_rfl) vQ];kernel_rfl
theorem entry_sii:entryFor table "set_iterator.__iter__"=some Builtin.«dict_keyiterator.__iter__»:=entryFor_alias (id':="dict_keyiterator.__iter__") (by kernel_rfl) (by first|rfl|decide +kernel | (unfold String.splitOn;simp +decide [String.splitOnAux])) (by decide +kernel) (by kernel_rfl)
end F
section
variable{pg:Program}{wd:World}{l:Around}{Er:zC}{sh:Shared}{j a:Addr}{es:Array (Int×Value)}{ep:Nat}{t:SetTable}
section
variable{f:Value}{i n:Nat}{Q:zC}{u:List Value}{L:List Nat}{w:Array Value}
theorem MT(it:eN sh.heap j a f i n ep)(q:Q (.ref j) sh):wpAny (model pg wd) l (pyIter (.ref j)) Q Er sh:=by refine Ww it.ty F.slot_sii (Q2 F.slot_sii it.ty F.entry_sii ?_ (F.args_sii _));show wpAny _ _ (ret (.ref j)) _ _ sh;exact QK ⟨_,rfl,"set_iterator",_,it.ty,F.slot_si.lookup,q⟩
theorem eN.at{h h':Heap}(it:eN h j a f i n ep)(k:∀o,h.get? j=some o->h'.get? j=some o):eN h' j a f i n ep:=by obtain⟨o,e,r⟩:=it;exact⟨o,k o e,r⟩
theorem fX{g:Nat->Nat}(K:l.handled=none)(C:a≠j)(W:t.fits es.size=true)(Z:n=es.size)
  (nx:∀(i:Nat) (A:Around) (s:Shared) (E:zC) (q:Option (Value×Nat)->Shared->Prop),i<=u.length->s.heap.get? a=some (setO es ep t)->q ((u[i]?).map λx=>(x,g (i+1))) s->wpAny (model pg wd) A (setNext a (g i) i ep) q E s) :
  Walks pg wd l j [j,a] [j] u.length (λi v=>u[i]?=some v) (λi h=>eN h j a (rawInt (g i)) i n ep/\h.get? a=some (setO es ep t)) where
 sub:=λb hb=>QJ.mpr (.inl (QI.mp hb))
 frame:=λi h y st k=>⟨st.1.at λo e=>k j QD o e,k a (QE _ QD) _ st.2⟩
 item:=λi s Q E p st q=>LX (r:=(u[i]?).map λx=>(x,g (i+1))) K st.1 st.2 W Z (λ{A Y X} h=>nx i A s Y X (QAY p) st.2 h)
  (λx B y e it m=>by rw[Qw p]at e;cases e;exact q _ y s.toks (Qw p) ⟨it,m a _ C st.2⟩ λb o hb e=>m b o (λz=>hb (QI.mpr z)) e)
  λe=>by rw[Qw p]at e;cases e
 done:=λs Q E st q=>LX (r:=(u[u.length]?).map λx=>(x,g (u.length+1))) K st.1 st.2 W Z (λ{A Y X} h=>nx _ A s Y X (QV _) st.2 h)
  (λx B y e=>by rw[qM (QV _)]at e;cases e)
  λ_ y m=>q y s.toks λb o hb e=>m b o (λz=>hb (QI.mpr z)) e
 self:=λi s Q E st q=>MT st.1 q
theorem dX{p:Addr}{r:Obj}{c:Nat}(Z:l.handled=none)(B:a≠j)(A:p≠j)(Y:t.fits es.size=true)(X:n=es.size)(K:r.data=.seq (L.map λi=>rawInt (i:Nat)).toArray c)(W:∀m∈L,m<es.size) :
  Walks pg wd l j [j,a,p] [j] L.length (λi v=>∃m e,L[i]?=some m/\es[m]?=some e/\v=e.2) (λi h=>eN h j a (.ref p) i n ep/\h.get? a=some (setO es ep t)/\h.get? p=some r) where
 sub:=λb hb=>QJ.mpr (.inl (QI.mp hb))
 frame:=λi h g st k=>⟨st.1.at λo e=>k j QD o e,k a (QE _ QD) _ st.2.1,k p (QE _ (QE _ QD)) _ st.2.2⟩
 item:=λi s Q E C st q=>HX Z st.1 st.2.1 Y X st.2.2 K W
  (λm x g e F it y=>q _ g s.toks ⟨m,x,e,F,rfl⟩ ⟨it,y a _ B st.2.1,y p _ A st.2.2⟩ λb o hb e=>y b o (λz=>hb (QI.mpr z)) e)
  λe=>by rw[Qw C]at e;cases e
 done:=λs Q E st q=>HX Z st.1 st.2.1 Y X st.2.2 K W (λm x g e=>by rw[qM (QV _)]at e;cases e)
  λ_ g y=>q g s.toks λb o hb e=>y b o (λz=>hb (QI.mpr z)) e
 self:=λi s Q E st q=>MT st.1 q
def E1(pg:Program)(wd:World)(s:Shared)(j n:Addr)(es:List (Int×Value)):Prop :=
 ∃(h:List Addr) (P:Nat->Value->Prop) (St:Nat->Heap->Prop),(∀A:Around,A.handled=none->Walks pg wd A j h [j] es.length P St)/\St 0 s.heap/\(∀b∈h,b<s.heap.objs.size)/\n∉h/\∀w:Array Value,ItemsOf P w es.length->w.toList.Perm (es.map (·.2))
theorem tZ(k:n=u.length)(h:ItemsOf (λi v=>u[i]?=some v) w n):w.toList=u:=by obtain⟨z,b⟩:=h;have z:w.toList.length=u.length:=z.trans k;refine List.ext_getElem z λi x y=>?_;have this:u[i]?=some w[i]:=b i w[i] (WV x);rw[Qw y]at this;exact(qE this).symm
theorem ZW(h:ItemsOf (λi v=>∃m e,L[i]?=some m/\es[m]?=some e/\v=e.2) w L.length):w.toList=L.filterMap λm=>(es[m]?).map (·.2):=by
 obtain⟨b,k⟩:=h;have x:w.toList.length=L.length:=b;clear b;generalize hv:w.toList=y at x;have z:∀(i:Nat) (v:Value),y[i]?=some v->∃m e,L[i]?=some m/\es[m]?=some e/\v=e.2:=λi v e=>k i v (by rw[<- hv,wI]at e;exact e);clear hv k;induction y generalizing L with
 |nil=>cases L with|nil=>rfl|cons _ _=>cases x
 |cons v y g=>cases L with|nil=>cases x|cons m L=>obtain⟨q,e,p,o,rfl⟩:=z 0 v rfl;cases p;rw[ww,o];exact congrArg _ (g (W5 x) λi v e=>z (i+1) v e)
noncomputable abbrev IR(f:Value)(a n ep:Nat):Obj:={ cls:=.type "set_iterator",data:=.fields #[f,rawInt ((0:Nat):Int),.ref a,rawInt n,rawInt ep] }
noncomputable abbrev FN(L:List Nat):Obj:={ cls:=.type "tuple",data:=.seq (L.map λi=>rawInt (i:Nat)).toArray }
theorem zc{n:Addr}(W:sh.heap.get? a=some (setO es ep t))(Z:t.fits es.size=true)(hz:es.size<=4096)(S:wd.params.followText "set-order"=false->t.led=true)(pl:es.size=0∨t.plain=false)(na:n≠a)(R:n<sh.heap.objs.size)
  (k:∀s' j,(∀b o,sh.heap.get? b=some o->s'.heap.get? b=some o)->s'.gens=sh.gens->s'.os=sh.os->s'.toks=sh.toks->(∀b o,sh.heap.get? b=some o->b≠j)->E1 pg wd s' j n es.toList->Q (.ref j) s'):wpAny (model pg wd) l (pyIter (.ref a)) Q Er sh:=by
 have ty:sh.TypeIs (.ref a) "set":=⟨_,W,rfl⟩
 have hs:sizeLine=16777216:=QS;have la:=QR W;refine Ww ty QCR (Q2 QCR ty F.entry_set_iter ?_ (F.args_set_iter_1 _));unfold Builtin.«frozenset.__iter__» Builtin.Frozenset.slot0 Builtin.Frozenset.sizeOf setDrawn setsByText;refine QA (QA (Wd (a:=(Value.ref a,[])) rfl (QK ?_)));refine QA (QA (QAP W rfl Z (QK ?_)));refine QA (QA (wo W rfl Z (QA (QA (WA (QK (QK ?_)))))));dsimp only;have fin:∀(Y:Shared) (f:Value),Y.gens=sh.gens->Y.os=sh.os->Y.toks=sh.toks->(∀b o,sh.heap.get? b=some o->Y.heap.get? b=some o)->E1 pg wd { Y with heap:=Y.heap.push (IR f a es.size ep) } Y.heap.objs.size n es.toList ->
   wpAny (model pg wd) l.in1 (do let e <- setEpoch a;let v <- newFields "set_iterator" [f,rawInt 0,.ref a,rawInt es.size,rawInt e];ret v) (λfin s'=>∃v,fin=.done (.ret v)/\∃T' r,s'.TypeIs v T'/\typeLookup (.type T') (Ql "__next__")=pure (some r)/\Q v s') Er Y:=λY f g1 g2 g3 H gv=>by
  refine QA (wpAny_setEpoch_of (H a _ W) rfl Z (QA (Qu ?_)));refine QK ⟨_,rfl,"set_iterator",_,⟨_,QN _ rfl,rfl⟩,F.slot_si.lookup,k _ _ (λb o e=>QH _ (H b o e)) g1 g2 g3 (λb o e=>QZ (QR (H b o e))) gv⟩
 have lt1:∀{Y:Heap}{o:Obj},∀b,b<Y.objs.size->b<(Y.push o).objs.size:=λ{Y o} b h=>by rw[wb];exact qk h
 show wpAny _ _ (if(!wd.params.followText "set-order" && (!t.plain&&decide (es.size > 1)))=true then _ else _) _ _ _;by_cases c:(!wd.params.followText "set-order" && (!t.plain&&decide (es.size > 1)))=true;rw[if_pos c];refine QA (EZ es.size _ sh qS λL d p=>QA (QBP ?_ (by rw[QG,p.length_eq,qS];omega)));have N:L.length=es.size:=by rw[p.length_eq,qS]
 have hL:∀m∈L,m<es.size:=λm hm=>WS.mp (p.mem_iff.mp hm);refine fin { sh with drawn:=d,heap:=sh.heap.push (FN L) } _ rfl rfl rfl (λb o e=>QH _ e) ?_;have I:∀{b},b<sh.heap.objs.size->b≠(sh.heap.push (FN L)).objs.size:=λh=>by rw[wb];exact QZ (qk h)
 have J:=QN (o:=IR (.ref sh.heap.objs.size) a es.size ep) (sh.heap.push (FN L)) rfl;have gP:((sh.heap.push (FN L)).push (IR (.ref sh.heap.objs.size) a es.size ep)).get? sh.heap.objs.size=some (FN L):=QH _ (QN _ rfl);have M:=QH (IR (.ref sh.heap.objs.size) a es.size ep) (QH (FN L) W);refine⟨[(sh.heap.push (FN L)).objs.size,a,sh.heap.objs.size],λi v=>∃m e,L[i]?=some m/\es[m]?=some e/\v=e.2,λi h=>eN h (sh.heap.push (FN L)).objs.size a (.ref sh.heap.objs.size) i es.size ep/\h.get? a=some (setO es ep t)/\h.get? sh.heap.objs.size=some (FN L),λA hd=>?_,⟨⟨_,J,rfl,rfl⟩,M,gP⟩,λb hb=>?_,λz=>?_,λw h=>?_⟩;rw[QX,<- N];refine dX hd (I la) (by rw[wb];exact QZ (WY _)) Z N (c:=0) rfl hL;rcases QJ.mp hb with z|z
 ·rw[z];exact QR J
 rcases QJ.mp z with z|z
 ·rw[z];exact QR M
 rw[QI.mp z];exact QR gP;rcases QJ.mp z with z|z
 ·exact I R z
 rcases QJ.mp z with z|z
 ·exact na z
 exact QZ R (QI.mp z);rw[QX,<- N]at h;rw[ZW h];refine(p.filterMap _).trans ?_;rw[<- List.map_filterMap,filterMap_getElem?_range];rw[if_neg c];have I:∀{b},b<sh.heap.objs.size->b≠sh.heap.objs.size:=λh=>QZ h;refine fin sh _ rfl rfl rfl (λ_ _ e=>e) ?_;have X:∀(g:Nat->Nat) (u:List Value),g 0=0->u.length=es.size->u.Perm (es.toList.map (·.2))->(∀(i:Nat) (A:Around) (s:Shared) (E:zC) (q:Option (Value×Nat)->Shared->Prop),i<=u.length->s.heap.get? a=some (setO es ep t)->q ((u[i]?).map λx=>(x,g (i+1))) s->wpAny (model pg wd) A (setNext a (g i) i ep) q E s) ->
   E1 pg wd { sh with heap:=sh.heap.push (IR (rawInt 0) a es.size ep) } sh.heap.objs.size n es.toList:=λg u g0 O po nx=>by
  have J:=QN (o:=IR (rawInt 0) a es.size ep) sh.heap rfl;have M:=QH (IR (rawInt 0) a es.size ep) W;refine⟨[sh.heap.objs.size,a],λi v=>u[i]?=some v,λi h=>eN h sh.heap.objs.size a (rawInt (g i)) i es.size ep/\h.get? a=some (setO es ep t),λA hd=>?_,⟨⟨_,J,rfl,by rw[g0];rfl⟩,M⟩,λb hb=>?_,λz=>?_,λw h=>?_⟩;rw[QX,<- O];exact fX hd (I la) Z O nx;rcases QJ.mp hb with z|z
  ·rw[z];exact QR J
  rw[QI.mp z];exact QR M;rcases QJ.mp z with z|z
  ·exact I R z
  exact na (QI.mp z);rw[tZ (by rw[QX,O]) h];exact po
 cases hb:wd.params.followText "set-order" with
 |true =>
  have pp:(pickOrder (wd.params.setOrder a ep) es).toList.Perm es.toList:=by have:=IV (wd.params.setOrder a ep) es.size 0 es.toList #[] (QX ..);exact this
  refine X (λ_=>0) ((pickOrder (wd.params.setOrder a ep) es).toList.map (·.2)) rfl ?_ (pp.map _) λi A s E q B e G=>dW hb e Z ?_;rw[QG,pp.length_eq,QX];rw[Qa,wI,Option.map_map]at G;exact G
 |false =>
  have sz:es.size<=1:=by rw[hb]at c;rcases pl with z|z;omega;rw[z]at c;simp at c;omega
  have K:t.place.size=es.size:=by unfold SetTable.fits at Z;simp only[Qf,beq_iff_eq]at Z;exact Z.1
  refine X (λi=>if i=0 then 0 else t.place.getD 0 0+1) (es.toList.map (·.2)) rfl (by rw[QG,QX]) (we _) λi A s E q B e G=>yZ hb e Z sz (S hb) ?_;have q1:(match es[wf t.place (if i=0 then 0 else t.place.getD 0 0+1)]?,t.place[wf t.place (if i=0 then 0 else t.place.getD 0 0+1)]? with|some (_,x),some j=>some (x,j+1)|_,_=>none)=((es.toList.map (·.2))[i]?).map λx=>(x,if i+1=0 then 0 else t.place.getD 0 0+1):=by
   rw[QG,QX]at B;rw[Qa,wI];generalize t.place=P at K ⊢;obtain⟨P⟩:=P;obtain⟨C⟩:=es;have K:P.length=C.length:=K;have sz:C.length<=1:=sz;have B:i<=C.length:=B;have cs:(C=[]/\P=[])∨∃h x p,C=[(h,x)]/\P=[p]:=by
    cases C with|nil=>exact .inl ⟨rfl,qu.mp K⟩|cons y r=>rw[QM]at sz K;obtain rfl:r=[]:=qu.mp (by omega);obtain⟨p,hp⟩:=List.length_eq_one_iff.mp K;exact .inr ⟨y.1,y.2,p,rfl,hp⟩
   rcases cs with⟨rfl,rfl⟩| ⟨h,x,p,rfl,rfl⟩
   obtain rfl:i=0:=Nat.le_zero.mp B;rfl;rcases Nat.le_one_iff_eq_zero_or_eq_one.mp B with rfl|rfl
   ·rfl
   have:wf #[p] (p+1)=1:=by unfold wf;show QBz #[p] (p+1) 1 0 1=1;unfold QBz;rw[if_pos (by decide)];show(if p<p+1 then _ else _)=1;rw[if_pos (WY p)];rfl
   show(match (#[(h,x)]:Array (Int×Value))[wf #[p] (p+1)]?,(#[p]:Array Nat)[wf #[p] (p+1)]? with|some (_,x),some j=>some (x,j+1)|_,_=>none)=none;rw[this];rfl
  rw[<- q1]at G;exact G
end
end
section
noncomputable abbrev nL:Obj:={ cls:=.type "list",data:=.seq #[] }
variable{pg:Program}{wd:World}{u:Around}{Er:zC}{sh:Shared}{a:Addr}
theorem CT:∀{vs:List Value},(∀v∈vs,∃t,v=.str (IT v) t)->StrsAre vs (vs.map IT)
 |[],_=>.nil|v::vs,h=>by obtain⟨t,e⟩:=h v QD;have r:=CT (vs:=vs) λw x=>h w (QE _ x);have:=StrsAre.cons (IT v) t r;rw[<- e]at this;exact this
theorem kR{l:List Str}{Q:List Value->Shared->Prop}(hd:u.handled=none)(S:aI pg wd sh.heap a (!wd.params.followText "set-order") l)(bd:l.length<=4000)
  (k:∀s' vs Z,StrsAre vs Z->Z.Perm l->(∀b o,sh.heap.get? b=some o->s'.heap.get? b=some o)->s'.gens=sh.gens->s'.os=sh.os->sh.heap.objs.size<s'.heap.objs.size->Q vs s'):wpAny (model pg wd) u (collect (.ref a)) Q Er sh:=by
 obtain⟨p,ep,t,N,el,L,nd,hf,hb,hp⟩:=S;have sz:p.size=l.length:=by rw[<- L,QG,QX]
 have hs:sizeLine=16777216:=QS;have G:=QR N;generalize hn:sh.heap.objs.size=n at G;have C:n≠a:=qy G;unfold collect;refine QA (wpAny_runValue (qt F.entry_proto_collect ?_));rw[qU F.plain_proto_collect _];refine QA (m:=newList []) (Qu ?_);rw[hn];refine QK ⟨wz QB0 _,qt F.entry_list_iadd ?_⟩;rw[qU QB0 _];show wpAny _ u.in1 (QAQ (.ref n) (.ref a) (.ref n)) _ _ _;have J:(sh.heap.push nL).get? n=some nL:=hn▸QN _ rfl;have Y:(sh.heap.push nL).get? a=some (setO p ep t):=QH _ N;have ns:Builtin.List.listSameRef (.ref n) (.ref a)=false:=beq_eq_false_iff_ne.mpr C;unfold QAQ Builtin.List.listLengthHint;refine QA (Wf (T:="set") ⟨_,Y,rfl⟩ ?_);rw[if_neg (by simp only[ns];decide)];refine QA (zc (sh:={ sh with heap:=sh.heap.push nL }) (n:=n) Y hf (by omega) (λh=>by rw[hb,h];rfl) hp C (QR J) λg j X g1 g2 g3 nj gv=>?_);have ty:g.TypeIs (.ref a) "set":=⟨_,X a _ Y,rfl⟩
 refine QA (qO (QA (wpAny_specialOf ty F.slot_set_len.lookup ?_)));generalize hx:("set.__len__":String)=x
 wp_delta
 rw[show splitId x=some ("set","__len__") by rw[<- hx];decide +kernel];subst hx;refine QA (QAC (b:=true) ty (by rw[QBQ];kernel_rfl) ?_);show wpAny _ _ (typeOf (.ref a) >>= _) _ _ _;refine QA (Wf ty (QK ?_));rw[if_pos (by decide)];have K:=X n _ J;refine QA (QAN (QA ?_));show wpAny _ u.in1 (updateSeq n (·.push .none) >>= λ_=>updateSeq n (·.pop)) _ _ _;refine QA (wpAny_updateSeq K rfl ?_);have f:=Q4 (qN (·.push Value.none)) K rfl;refine wpAny_updateSeq (hz:=by seq_fits) f rfl ?_;have r:=Q4 (qN (·.pop)) f rfl;have i:∀b o,b≠n->g.heap.get? b=some o->((g.heap.update n (qN (·.push Value.none))).update n (qN (·.pop))).get? b=some o:=λb o z e=>by rw[qA _ _ (Q6 z),qA _ _ (Q6 z)];exact e
 obtain⟨fp,P,St,W,q,lt,B,fin⟩:=gv;have O:=(W u.in1 hd).toS;have lz:p.toList.length=p.size:=QX ..;refine QK ⟨wz F.plain_extend_loop _,codeAny_extend_loopS O (by omega) _ B _ _ 0 _ _ _ rfl (Q9 _) (O.frame 0 g _ g.toks q (QV _) λb hb o e=>i b o (λz=>B (z▸hb)) e) r (ItemsOf.nil P) λs' w c s I it=>?_⟩;refine QA (m:=load n) (wpAny_load I (QK ?_));have A:=fin w it;have H:=s.gens;have R:=s.os;refine k s' w.toList (w.toList.map IT) (CT λv hv=>?_) ?_ (λb o e=>?_) (H.trans g1) (R.trans g2) (hn▸QR I);obtain⟨e,he,rfl⟩:=Qe.mp (A.mem_iff.mp hv);exact AZ el he;have:=A.map IT;rw[Qb]at this;rw[<- L];exact this;have M:(sh.heap.push nL).get? b=some o:=QH _ e;have E:b<n:=hn▸QR e;exact s.heap b o (λm=>(QJ.mp m).elim (QZ E) λy=>nj b o M (QI.mp y)) (i b o (QZ E) (X b o M))
end
section
variable{pg:Program}{wd:World}{h:Around}{Er:zC}{sh:Shared}{a:Addr}
theorem ER{y:List Str}{Q:zC}(Z:h.handled=none)(S:aI pg wd sh.heap a (!wd.params.followText "set-order") y)(W:y.length<64)
  (k:∀s' l out z e,StrsAre out z->z.Perm y->sortedS z=true->s'.heap.get? l=some (seqObj "list" out.toArray e)->sh.heap.objs.size<=l->(∀b o,sh.heap.get? b=some o->s'.heap.get? b=some o)->s'.gens=sh.gens->s'.os=sh.os->Q (.ref l) s') :
  wpAny (model pg wd) h (call (.builtin "sorted") [.ref a]) Q Er sh:=by
 have I:sizeLine=16777216:=QS;refine QAf kind_sorted plain_sorted entry_sorted (args_sorted1 _) ?_;unfold Builtin.«sorted»;refine QA (m:=checkCount "sorted" 1 1 _) (QK (QA (kR Z S (by omega) λf v z u p r F E ls=>?_)));have G:v.length=y.length:=(GN u).1.trans p.length_eq;refine QA (QBg ?_ (by omega));have g:(f.heap.push (seqObj "list" v.toArray 0)).get? f.heap.objs.size=some (seqObj "list" v.toArray 0):=QN _ rfl;refine QA (qO (Q2 slot_list_sort ⟨_,g,rfl⟩ entry_list_sort ?body (args_list_sort _)));refine list_sort_treeK strKind_oneLt g u.keysOf (λj i n e=>keyKind_strs (by rw[<- e];exact u)) (by omega) λx Y X=>?_;obtain⟨w,B,A,K⟩:=sorted_out_str u Y X;obtain⟨e,C⟩:=sortedHeap_at (out:=(arrOf x).map (·.2)) g;refine⟨_,rfl,QK ⟨_,rfl,k _ f.heap.objs.size ((arrOf x).map (·.2)).toList w e B (A.trans p) K (by rw[Array.toArray_toList];exact C) (QAY ls) (λb o s=>?_) F E⟩⟩;have q:=QR (r b o s);rw[sortedHeap_old (QZ q) (by rw[size_push'];exact qk q)];exact QH _ (r b o s)
end
def vY(K:QC)(x:V)(H:Hp)(Q:VK):Prop:=∃p,∃y:List Str,x=.ref p/\XC K H p (y.map V.str)/\y.length<4000/\∀h:List Str,h.Nodup->(∀s,s∈h↔s∈y)->Q (.int h.length) H
def kY(K:QC)(x:V)(H:Hp)(Q:VK):Prop:=∃p,∃y:List Str,x=.ref p/\XC K H p (y.map V.str)/\y.length<64/\∀(l:Addr) (h:List Str),H l=none->h.Nodup->(∀s,s∈h↔s∈y)->sortedS h=true->Q (.ref l) (OA H l (.lst (h.map V.str)))
theorem _root_.L2.Inv.anyd{X:Cx}{h:TB}{σ:St}{H:Hp}{s:Shared}{d':Drawn}(I:Inv X h σ H s):Inv X h σ H { s with drawn:=d' }:=⟨I.ok,I.os,I.bare,I.base,I.loc,I.cell,I.free,I.freeC,I.pin,I.hok,I.len⟩
theorem O7:∀{x:List Str}{its:List Value},bA (x.map V.str) its->StrsAre its x
 |[],[],_=>.nil|y::x,u::its,h=>by
  rw[QO]at h;cases h with|cons h t=>obtain⟨k,rfl⟩:=h;exact .cons _ _ (O7 t)
 |_::_,[],h=>by cases h|[],_::_,h=>by cases h
theorem De{ss:List Str}{its:List Value}(h:StrsAre its ss):bA (ss.map V.str) its:=by
 induction h with|nil=>exact .nil|cons y t _ x=>exact .cons ⟨t,rfl⟩ x
section
variable{X:Cx}{a:Expr}{ta:TE}{p2 y:Pos}
theorem NX{v:TB}{s:Shared}{σ:St}{H:Hp}{o:List Value->Shared->Prop}{R:V->Hp->Prop}(F:X.calm=true)(J:Gl X "set")(B:X.mg "set"=none)(G:PE X a ta)(st:starEach [a] X.env=(false,eval a X.env)::starEach [] X.env)(I:Inv X v σ H s)(h:ta σ H R)
  (k:∀x b f,R x b->Inv X v σ b f->∃p,∃ss:List Str,x=.ref p/\XC X.K b p (ss.map V.str)/\ss.length<4000/\∀i e,Inv X v σ b i->aI X.prog X.w i.heap f.heap.objs.size (!X.w.params.followText "set-order") e->(∀z,z∈e↔z∈ss)->e.length<=ss.length->o [.ref f.heap.objs.size] i) (pos:Pos) :
  wpAny (model X.prog X.w) X.A (spliced (backTo pos (starEach [.Call (.Name "set" p2) [a] [] y] X.env))) o X.xe s:=by
 show wpAny _ _ (spliced ((false,eval (.Call (.Name "set" p2) [a] [] y) X.env)::[])) _ _ s;refine Wj (qp (oE I J B PyProof.Rows.boot_set (qY ?_ st rfl)));rw[st];show wpAny _ _ (spliced ((false,eval a X.env)::[])) _ _ s;refine Wj (OB (G v s σ H _ I h) λu f ⟨x,b,g,Z,r⟩=>Wt ?_);obtain⟨p,ss,rfl,E,lt,q⟩:=k x b f r g;cases Z;obtain⟨j,n,W,L⟩:=g.list E;have M:ss.length=j.length:=by rw[<- n.length,QG]
 refine aM (g.ok.hd F) W.isList (by simpa using O7 n) (by rw[QT];omega) λN Y e S m l C=>Wt (q _ e (g.kept (t':=Y) C) S m (by rw[QT]at l;omega))
theorem T4{k pos:Pos}(j:X.calm=true)(r:Gl X "len")(o:Gl X "set")(f:X.mg "len"=none)(b:X.mg "set"=none)(n:PE X a ta)(st:starEach [a] X.env=(false,eval a X.env)::starEach [] X.env) :
  PE X (.Call (.Name "len" k) [.Call (.Name "set" p2) [a] [] y] [] pos) λσ H Q=>ta σ H λx u=>vY X.K x u Q:=by
 intro v s σ H Q I h;refine qp (oE I r f PySem.boot_len (wu (NX j o b n st I h (λx u C ⟨p,w,e,g,lt,q⟩ J=>⟨p,w,e,g,lt,λB z A S m l=>?_⟩) pos) rfl rfl));obtain⟨Z,F,t,W,G,Y,nd,i,hb,E⟩:=S;have sz:Z.size=z.length:=by rw[<- Y,QG,QX]
 refine call_len_set W ⟨rfl,rfl,rfl⟩ rfl i (by omega) ⟨.int z.length,u,A.tok _,⟨_,by rw[sz]⟩,q z nd m⟩
theorem R4{W pos:Pos}(n:X.calm=true)(b:Gl X "sorted")(k:Gl X "set")(B:X.mg "sorted"=none)(A:X.mg "set"=none)(F:PE X a ta)(st:starEach [a] X.env=(false,eval a X.env)::starEach [] X.env) :
  PE X (.Call (.Name "sorted" W) [.Call (.Name "set" p2) [a] [] y] [] pos) λσ H Q=>ta σ H λx g=>kY X.K x g Q:=by
 intro j s σ H Q I h;refine qp (oE I b B QAl (wu (NX n k A F st I h (λx g M ⟨p,r,e,E,lt,q⟩ I1=>⟨p,r,e,E,by omega,λL J f S m l=>?_⟩) pos) rfl rfl));have nd:=S;obtain⟨_,_,_,_,_,_,nd,_⟩:=nd;refine ER (f.ok.hd n) S (by omega) λZ l out u e i v Y G le C b k=>?_;obtain⟨h',gs,dr,o,N⟩:=Z;cases b;cases k;have P:=(GN i).1;have O:=v.length_eq;have R:sizeLine=16777216:=QS;refine⟨.ref l,OA g l (.lst (u.map V.str)),(f.laid (t':=o) (h':=h') C le (show NA X.prog X.w _ h' _ (.lst (u.map V.str)) from⟨by rw[QG];omega,out,e,De i,G⟩)).anyd,rfl,q l u (f.hok.fresh le) (v.nodup_iff.mpr nd) (λz=>(v.mem_iff).trans (m z)) Y⟩
end
theorem kN:entryFor table "dict.update.loop"=some Builtin.«dict.update.loop»:=QCH (by kernel_rfl)
theorem YG:plainId "dict.update.loop"=true:=by decide +kernel
section
variable{pg:Program}{wd:World}{y:Around}{Er:zC}{sh:Shared}{K:Type}[DecidableEq K]{knd:KeyKind pg wd K}
section
variable{l:Addr}{xs:Array Value}{kvs:List (K×Value)}{m:Nat}{sl:Array (Option Value)}
def yM(knd:KeyKind pg wd K)(h:Heap)(z:List Addr)(v:Value)(p:K×Value):Prop:=∃a x,v=.ref a/\a∉z/\h.IsTuple a #[x,p.2]/\knd.is p.1 x=true
theorem yM.at{h h':Heap}{z:List Addr}{v:Value}{p:K×Value}(x:yM knd h z v p)(k:∀a o,a∉z->h.get? a=some o->h'.get? a=some o):yM knd h' z v p:=by obtain⟨a,u,e,n,⟨o,g,c⟩,i⟩:=x;exact⟨a,u,e,n,⟨o,k a o n g,c⟩,i⟩
theorem LW{d it:Addr}{R:Result->Shared->Prop}(hd:y.handled=none)(P:l≠it)(I:d∉[it,l])(hl:xs.size=kvs.length)(bd:kvs.length<=sizeLine)(hn:(kvs.map qw).Nodup) :
  ∀(n i:Nat) (sh:Shared),xs.size - i=n->i<=xs.size->(sh.heap.IsListIter it l i/\sh.heap.IsList l xs)->sh.heap.DictOf knd d (kvs.take i)->(∀(j:Nat) (v:Value) (p:K×Value),xs[j]?=some v->kvs[j]?=some p->yM knd sh.heap [d,it] v p) ->
   (∀s',Moved [d,it] (λa b=>b=a) sh s'->s'.heap.DictOf knd d kvs->R (.ok (.ret .none)) s') ->
   codeAny (model pg wd) y (.builtin "dict.update.loop" ⟨[.ref d,.ref it,rawInt i,.none],[]⟩) R sh:=by
 have W:=(QBs (prog:=pg) (w:=wd) (A:=y.in1) hd it l P xs).toS;have sub:∀c∈[it],c∈[d,it]:=λc X=>QE _ X;have G:d∉[it]:=λz=>I (QJ.mpr (.inl (QI.mp z)));intro n;induction n with
 |zero =>
  intro i sh en Q x h tp k;obtain rfl:i=xs.size:=by omega
  refine qt kN ?_;rw[qU YG _];rw[hl,QCG]at h;refine QA (m:=pyNext (.ref it)) (W.done sh _ _ x λs' f=>?_);show wpAny (model pg wd) _ (Builtin.Dict.addKeywords d [] >>= _) _ _ s';refine QA (QK (QK (k s' (f.mono sub) ?_)));obtain⟨o,r⟩:=wq.mp h;exact wq.mpr ⟨o,f.heap d o G r.1,r.2⟩
 |succ n S =>
  intro i sh en Q x h tp k;have lt:i<xs.size:=by omega
  refine qt kN ?_;rw[qU YG _];refine QA (m:=pyNext (.ref it)) (W.item i sh _ _ lt x λv s' O Z f=>?_);have F:kvs[i]?=some kvs[i]:=Qw (by omega);generalize kvs[i]=p at F;have s:∀(j:Nat) (v:Value) (p:K×Value),xs[j]?=some v->kvs[j]?=some p->yM knd s'.heap [d,it] v p:=λj v p a b=>(tp j v p a b).at λa o n g=>f.heap a o (λz=>n (sub _ z)) g;obtain⟨a,E,rfl,na,T,hk⟩:=s i v p O F;have Y:s'.heap.DictOf knd d (kvs.take i):=by obtain⟨o,r⟩:=wq.mp h;exact wq.mpr ⟨o,f.heap d o G r.1,r.2⟩
  have hp:wpAny (model pg wd) y.in1 (QA3 (.ref a)) (λl u=>l=[E,p.2]/\u=s') (λ_ _=>False) s':=by obtain⟨o,g,c,m,dt⟩:=T;unfold QA3;refine QA (Wf ⟨o,g,c⟩ ?_);rw[if_pos (by decide)];exact QA (QAe g dt (QK ⟨rfl,rfl⟩))
  refine QA (qO (QA (wpAny_tryCatch (wN hp (λl u e=>?_) λ_ _ z=>z.elim))));obtain⟨rfl,rfl⟩:=e;have e1:stored (kvs.take i) p.1 p.2=kvs.take (i+1):=by
   have L:kvs.take (i+1)=kvs.take i++[p]:=by rw[List.take_succ,F];rfl
   have J:=(hn.sublist ((QBp (i+1) kvs).map qw))
   rw[L,QU,qJ]at J;unfold stored;rw[if_neg,L];rw[Wa];rintro⟨q,H,e⟩;exact J.2.2 _ (QAR H) _ QD (of_decide_eq_true e)
  refine qO (wpAny_dictSet_pairs hk Y (λh' M B=>?_) (by rw[wW];omega));rw[e1]at M;refine QK ⟨wz YG _,?_⟩;refine S (i+1) _ (by omega) lt (W.frame _ u _ _ Z (wD _) λc X o e=>?_) M (λj v p a b=>(s j v p a b).at λa o n g=>?_) λN C d4=>k N (Moved.trans W.gtrans ((f.mono sub).then_heap (wD _) λc o X e=>?_) C) d4;rw[B.2 c λq=>I (q▸X)];exact e;rw[B.2 a λq=>n (q▸QD)];exact g;rw[B.2 c λq=>X (q▸QD)];exact e
theorem K6{a:Addr}{Q:Option Value->Shared->Prop}(g:sh.heap.get? a=some ⟨.type "list",none,.seq xs m,sl⟩)(p:y.handled=none)
  (q:∀h' h,(∀b o,sh.heap.get? b=some o->h'.get? b=some o)->Q none { sh with heap:=h',toks:=h }):wpAny (model pg wd) y (getAttr? (.ref a) "keys") Q Er sh:=by
 obtain⟨n,v,w,h,u⟩:=sh;have ty:∀k,(⟨n,v,w,k,u⟩:Shared).TypeIs (.ref a) "list":=λ_=>⟨_,g,rfl⟩
 have W:=sub_AttributeError;have Z:=Wh.lookup;have Y:=Wh.bind (.ref a);have X:=am_list_getattr_none;have j:typeLookup (.type "list") "keys"=pure none:=am_miss_of_fast (by kernel_rfl);unfold getAttr? getAttrBy? getAttrBy
 repeat (any_goals (first|assumption|exact ty _ | ((with_reducible show wpAny _ _ (call (Value.builtin "list.__getattribute__") _ _) _ _ _);refine QAM Wh (ty _) am_entry_list_getattribute (F.args_list_getattribute_2 _ _) (meets_getattribute_miss_list a xs m sl "keys" _ j (by decide) (by decide)) ⟨g,p,λh' f e x=>?_⟩)|wp_step))
 obtain⟨s,r,z⟩:=x.there;have i:∀k,(⟨h',v,w,k,u⟩:Shared).TypeIs (.ref e) "AttributeError":=λ_=>⟨_,z,rfl⟩
 show wpAny _ _ (getattributeRaised (.ref a) _ _ _ _ _ _) _ _ _;unfold getattributeRaised
 repeat (any_goals (first|assumption|exact i _|wp_step))
 exact q _ _ x.keeps
theorem TJ{Q:zC}(C:y.handled=none)(B:sh.heap.get? l=some ⟨.type "list",none,.seq xs m,sl⟩)(N:xs.size=kvs.length)(P:kvs.length<=sizeLine)(M:(kvs.map qw).Nodup)
  (tp:∀(j:Nat) (v:Value) (p:K×Value),xs[j]?=some v->kvs[j]?=some p->∃a h,v=.ref a/\sh.heap.IsTuple a #[h,p.2]/\knd.is p.1 h=true)
  (k:∀(h':Heap) (s:Nat),h'.DictOf knd sh.heap.objs.size kvs->(∀b o,sh.heap.get? b=some o->h'.get? b=some o)->Q (.ref sh.heap.objs.size) { sh with heap:=h',toks:=s }) :
  wpAny (model pg wd) y (call (.type "dict") [.ref l]) Q Er sh:=by
 refine callType_codes (Q₁:=λobj x=>obj=.ref sh.heap.objs.size/\x={ sh with heap:=sh.heap.push { cls:=.type "dict",data:=.dict #[] } }) F.kt_called_dict (F.kt_typeCall_dict_1 _) F.entry_dict_init (kt_code_dict_new _ ⟨rfl,rfl⟩) ?_;rintro obj x ⟨rfl,rfl⟩;have u:(sh.heap.push { cls:=.type "dict",data:=.dict #[] }).DictOf knd sh.heap.objs.size []:=Heap.DictOf.new sh.heap;have X:(sh.heap.push { cls:=.type "dict",data:=.dict #[] }).get? l=some ⟨.type "list",none,.seq xs m,sl⟩:=QH _ B;have Y:l<sh.heap.objs.size:=QR B;refine⟨u.typeIs,F.args_dict_init_2 _ _,?_⟩;unfold Builtin.«dict.__init__»;refine QA ?_;unfold Builtin.Dict.selfAndRest;refine QA (WK u.typeIs ?_);show wpAny _ _ (pure (sh.heap.objs.size,[Value.ref l])) _ _ _;refine QK ?_;show wpAny _ _ (QAw "dict.__init__" sh.heap.objs.size (.ref l) [] .none) _ _ _;unfold QAw;have ty:QBi { sh with heap:=sh.heap.push { cls:=.type "dict",data:=.dict #[] } } (.ref l) "list":=by exact⟨_,X,rfl⟩
 refine QA (Wf ty ?_);rw[if_pos (by decide)];refine QA (K6 X C λw G n=>?_);rw[if_pos (by rfl)];have A:w.IsList l xs:=⟨_,n _ _ X,rfl,m,rfl⟩
 have E:w.DictOf knd sh.heap.objs.size []:=by obtain⟨o,r⟩:=wq.mp u;exact wq.mpr ⟨o,n _ _ r.1,r.2⟩
 refine QA (QAN (QA (wl A ?_)));refine QK ⟨wz YG _,?_⟩;have q:sh.heap.objs.size<w.objs.size:=by obtain⟨o,r⟩:=wq.mp E;exact QR r.1
 have J:l≠w.objs.size:=QZ (QA9 Y q);have L:sh.heap.objs.size∉[w.objs.size,l]:=λz=>by rcases QJ.mp z with z|z;exact QZ q z;exact qy Y (QI.mp z)
 refine LW (kvs:=kvs) (knd:=knd) (by simp[C]) J L N P M xs.size 0 _ (QB5 _) (Q9 _) ⟨⟨_,QN _ rfl,rfl,rfl⟩,A.push _⟩ (E.push _) (λj v p a b=>?_) λI f O=>?_;obtain⟨c,h,e,T,i⟩:=tp j v p a b;obtain⟨o,g,r⟩:=T;have Z:c<sh.heap.objs.size:=QR g;refine⟨c,h,e,λz=>?_,⟨o,QH _ (n _ _ (QH _ g)),r⟩,i⟩;rcases QJ.mp z with z|z;exact QZ Z z;exact QZ (QA9 Z q) (QI.mp z);obtain⟨h',S,H,s,R⟩:=I;cases f.gens;cases f.drawn;cases f.os;refine⟨rfl,k h' s O λb o g=>?_⟩;have W:b<sh.heap.objs.size:=QR g;refine f.heap b o (λz=>?_) (QH _ (n _ _ (QH _ g)));rcases QJ.mp z with z|z;exact QZ W z;exact QZ (QA9 W q) (QI.mp z)
end
end
noncomputable abbrev be:=List (Addr×Str×V)
def bU(h:be):List (Key×V):=h.map λz=>(Sum.inr z.2.1,z.2.2)
def ja(K:QC)(x:V)(H:Hp)(Q:VK):Prop:=∃p,∃h:be,x=.ref p/\XC K H p (h.map λz=>V.ref z.1)/\(∀z∈h,mD K H z.1 [.str z.2.1,z.2.2])/\(h.map λz=>z.2.1).Nodup/\∀d,H d=none->Q (.ref d) (OA H d (.dK (bU h)))
theorem yQ{pg:Program}{wd:World}{h:Heap}:∀(f:be) (its:List Value),bA (f.map λz=>V.ref z.1) its->(∀z∈f,∃ts:List Value,bA [.str z.2.1,z.2.2] ts/\IsTup h z.1 ts.toArray) ->
  ∃vs:List (Key×Value),KV (bU f) vs/\vs.length=its.length/\∀(j:Nat) (v:Value) (p:Key×Value),its[j]?=some v->vs[j]?=some p->∃a k,v=.ref a/\h.IsTuple a #[k,p.2]/\(IA pg wd).is p.1 k=true
 |[],its,r,_=>by cases r;exact⟨[],.nil,rfl,λj v p e=>by cases e⟩|z::f,its,r,t=>by
  obtain⟨x,u,rfl,m,r⟩:∃x u,its=u::x/\sA (V.ref z.1) u/\bA (f.map λz=>V.ref z.1) x:=by
   cases r with|cons a b=>exact⟨_,_,rfl,a,b⟩
  obtain⟨vs,Y,X,s⟩:=yQ (pg:=pg) (wd:=wd) f x r λy Z=>t y (QE _ Z);obtain⟨ts,q,T⟩:=t z QD;obtain⟨k,w,rfl,o,n⟩:∃k w,ts=[k,w]/\sA (.str z.2.1) k/\sA z.2.2 w:=by
   cases q with
   |cons a b =>
    cases b with|cons c d=>cases d;exact⟨_,_,rfl,a,c⟩
  obtain⟨l,rfl⟩:=o;cases m;refine⟨(Sum.inr z.2.1,w)::vs,.cons ⟨rfl,n⟩ Y,congrArg Nat.succ X,λj v p i g=>?_⟩;cases j with|zero=>cases i;cases g;exact⟨_,_,rfl,T,AM z.2.1 l⟩|succ j=>exact s j v p i g
theorem UU:∀{kvs:List (Key×V)}{vs:List (Key×Value)},KV kvs vs->vs.map qw=kvs.map qw
 |_,_,.nil=>rfl|_,_,.cons h t=>by rw[QO,QO,h.1,UU t]
theorem mY{x:be}(h:(x.map λz=>z.2.1).Nodup):((bU x).map qw).Nodup:=by
 have e:(bU x).map qw=(x.map λz=>z.2.1).map Sum.inr:=by unfold bU;rw[Qb,Qb];rfl
 rw[e];exact WP _ (λa b n z=>n (Sum.inr.inj z)) h
theorem Da{X:Cx}{a:Expr}{ta:TE}{M pos:Pos}(hc:X.calm=true)(g:Gl X "dict")(m:X.mg "dict"=none)(ha:PE X a ta)(st:starEach [a] X.env=(false,eval a X.env)::starEach [] X.env) :
  PE X (.Call (.Name "dict" M) [a] [] pos) λσ H Q=>ta σ H λx A=>ja X.K x A Q:=by
 intro k s σ H Q I h;refine qp (oE I g m PyProof.Rows.boot_dict (qY ?_ st rfl));rw[st];show wpAny _ _ (spliced ((false,eval a X.env)::[])) _ _ s;refine Wj (OB (ha k s σ H _ I h) λu Y ⟨x,A,y,G,r⟩=>Wt ?_);obtain⟨p,i,rfl,hq,ht,nd,q⟩:=r;cases G;obtain⟨W,J,L,f⟩:=y.list hq;obtain⟨o,n,e,c,dd,dt⟩:=L;obtain⟨oc,od,O,N⟩:=o;cases c;cases dd;cases dt;obtain⟨l,Z,k2,k3⟩:=yQ (pg:=X.prog) (wd:=X.w) (h:=Y.heap) i W J λz f=>by obtain⟨B,F,E,_⟩:=y.tuple (ht z f);exact⟨B,F,E⟩
 have P:(bU i).length<=sizeLine:=by unfold bU;rw[QG]at f ⊢;exact f
 have R:l.length<=sizeLine:=by have:=Z.length;omega
 refine TJ (knd:=IA X.prog X.w) (kvs:=l) (y.ok.hd hc) e (by rw[QT,k2]) R (by rw[UU Z];exact mY nd) (λj v p a b=>k3 j v p (by simpa using a) b) λh' C D S=>?_;exact⟨.ref Y.heap.objs.size,_,y.laid (a:=Y.heap.objs.size) (o:=.dK (bU i)) (t':=C) S (QV _) ⟨P,beq_eq_false_iff_ne.mpr (qy (Inv.big y)),l,Z,D⟩,rfl,q _ (y.hok.fresh (QV _))⟩
inductive Bi where
 |len|any|all|list|sorted
 deriving DecidableEq
inductive Mt where
 |append|pop|join|setd|reverse
 deriving DecidableEq
inductive ItK where
 |val|rng1|enum|itm|zip2
 deriving DecidableEq
inductive Tg where
 |nm (i:Nat)|tp (is:List Nat)
 deriving DecidableEq
set_option genSizeOf false in
set_option genInjectivity false in
inductive PX where
 |var (i:Nat)|int (i:Int)|str (x:Str)|bl (b:Bool)|non
 |glo (x:Str)|bty (x:Str) (n:String)
 |bin (op:Operator) (a b:PX)
 |cmp (op:CmpOp) (a b:PX)|neg (a:PX)
 |and (a b:PX)|or (a b:PX)|not (a:PX)
 |call (f:Str) (as:PX)
 |bi (f:Bi) (as:PX)|isi (a c:PX)
 |mt (m:Mt) (o as:PX)
 |idx (a b:PX)|slc (a lo hi:PX)|nop
 |lst (as:PX)|tup (as:PX)|dnew (b:Bool)|dsp (a b:PX)|lset (a:PX)|sset (a:PX)|dof (a:PX)
 |comp (mask:List Bool) (tgs:List Str) (tg:Tg) (ik:ItK) (its cond elt:PX)
 |nr|nq (a as:PX)
structure Ev where
 sp:Str->Sp
 va:Str->V
structure W3 where
 e:TE
 t:TT
 a:TA
def never:W3:=⟨λ_ _ _=>False,λ_ _ _=>False,λ_ _ _=>False⟩
def iF(K:QC)(x:V)(H:Hp)(Q:Bool->Hp->Prop):Prop:=match x with
 | .bl b=>Q b H|.int i=>Q (i != 0) H|.non=>Q false H|.str z=>z.length<=sizeLine/\Q ((z.length:Int) != 0) H|x=>∃k,Ud K x H k/\Q k H
def C1(x:V)(H:Hp)(Q:Bool->Hp->Prop):Prop:=match x with
 | .bl b=>Q b H|_=>False
def V7(K:QC):Operator->R2
 | .Add=>Cf K|.Sub=>lf|.Mult=>af K|.FloorDiv=>j8|.Mod=>Jf|_=>λ_ _ _ _=>False
def G6:R2:=λx y H Q=>∃b c,x=.bl b/\y=.bl c/\Q (.bl (decide (b=c))) H
noncomputable def C0(K:QC):CmpOp->R2
 | .Eq=>rEq K false|.NotEq=>rEq K true|.Lt=>RV λi j=>decide (i<j)|.LtE=>RV λi j=>decide (i<=j)|.Gt=>RV λi j=>decide (j<i)|.GtE=>RV λi j=>decide (j<=i)|.In=>jQ K false|.NotIn=>jQ K true|.Is=>G6|_=>λ_ _ _ _=>False
noncomputable def SV(K:QC):R2:=λx y H Q=>match x,y with
 | .str z,.int i=>z.length<=sizeLine/\∃c,eE z.cps.toList i=some c/\Q (.str ⟨#[c]⟩) H|.ref a,.int i=>∃h v,(XC K H a h∨mD K H a h)/\eE h i=some v/\Q v H|.ref a,.str z=>∃v,fP K H a (.str z) (some v)/\Q v H|.ref a,.ref b=>∃v,fP K H a (.ref b) (some v)/\Q v H|_,_=>False
def Y4(K:QC):List V->Hp->VK->Prop:=λx H Q=>∃p h,x=[.ref p]/\(XC K H p h∨mD K H p h)/\∀l,H l=none->Q (.ref l) (OA H l (.lst h))
def kU(K:QC):List V->Hp->VK->Prop:=λv H Q=>∃p,v=[.ref p]/\((∃y:List Str,XC K H p (y.map V.str)/\y.length<64/\∀l h,H l=none->h.Perm y->sortedS h=true->Q (.ref l) (OA H l (.lst (h.map V.str)))) ∨
   (∃z,XC K H p z/\z.length<64/\(∀x∈z,∃a,∃y:List Str,x=.ref a/\XC K H a (y.map V.str))/\∀l u,H l=none->u.Perm z->Q (.ref l) (OA H l (.lst u))))
def xh(K:QC):Bi->List V->Hp->VK->Prop
 | .len=>Zf K|.any=>Uf K|.all=>Bf K|.list=>Y4 K|.sorted=>kU K
def A7:V->List V->Hp->VK->Prop:=λx y H Q=>∃l i h k v,x=.ref l/\y=[.int i]/\H l=some (.lst h)/\BQ h.length i=some k/\h[k]?=some v/\Q v (OA H l (.lst (h.eraseIdx k)))
def E7(K:QC):V->List V->Hp->VK->Prop:=λx y H Q=>∃z b,∃h:List Str,x=.str z/\y=[.ref b]/\XC K H b (h.map V.str)/\(h.map (·.length)).sum+h.length * z.length<=16777216/\Q (.str (QAK z h)) H
def r6(K:QC):Mt->V->List V->Hp->VK->Prop
 | .append=>vU|.pop=>A7|.join=>E7 K|.setd=>IJ K|.reverse=>IP
def Mt.ty:Mt->String
 | .append=>"list"|.pop=>"list"|.join=>"str"|.setd=>"dict"|.reverse=>"list"
def RK(x:V)(H:Hp)(Q:Option Int->Hp->Prop):Prop:=match x with
 | .int i=>Q (some i) H|_=>False
inductive Item where
 |one (v:V)|tup (vs:List V)
noncomputable def aC(K:QC):ItK->List V->Hp->(List Item->(Hp->Prop)->Hp->Prop)->Prop
 | .val,[.str z],H,R=>R (z.cps.toList.map λc=>.one (.str ⟨#[c]⟩)) (λ_=>True) H|.val,[.ref a],H,R=>(∃h,XC K H a h/\R (h.map .one) (λH=>XC K H a h) H)∨(∃h,mD K H a h/\R (h.map .one) (λH=>mD K H a h) H)∨(∃y,∃x:List KE,H a=some (.dT y x)/\R (x.map λp=>.one (.ref p.2.1)) (λH=>H a=some (.dT y x)) H)|.rng1,[.int j],H,R=>(-(2 ^ 62)<=j/\j<2 ^ 62)/\R ((qC j.toNat).map λ(i:Nat)=>.one (.int (i:Int))) (λ_=>True) H|.zip2,[.ref a,.ref b],H,R=>∃h u,XC K H a h/\XC K H b u/\R ((h.zip u).map λp=>.tup [p.1,p.2]) (λH=>xM K H (.l a) h/\xM K H (.l b) u) H|.enum,[.ref a],H,R=>∃z h,Src.adr z=a/\xM K H z h/\R (h.zipIdx.map λp=>.tup [.int (p.2:Int),p.1]) (λH=>xM K H z h) H|.itm,[.ref a],H,R=>∃y,∃x:List KE,H a=some (.dT y x)/\R (x.map λp=>.tup [.ref p.2.1,p.2.2]) (λH=>H a=some (.dT y x)) H|_,_,_,_=>False
def mB:List Nat->List V->St->Option St
 |[],[],σ=>some σ|i::is,v::vs,σ=>mB is vs (σ.set i (some v))|_,_,_=>none
def DE(K:QC):Tg->TG
 | .nm i=>λv x H Q=>Q (x.set i (some v)) H|.tp z=>λv x H Q=>match v with
  | .ref p=>∃y h,mD K H p y/\mB z y x=some h/\Q h H|_=>False
noncomputable def bindI(K:QC)(z:Tg):Item->St->Hp->(St->Hp->Prop)->Prop
 | .one v=>DE K z v|.tup y=>λx H Q=>match z with
  | .tp w=>∀u,Same H u->∃h,mB w y x=some h/\Q h u|.nm i=>∀p,H p=none->Q (x.set i (some (.ref p))) (OA H p (.tup y))
def Dg(K:QC)(xs:List Item)(st:Hp->Prop)(bind:Item->St->Hp->(St->Hp->Prop)->Prop)(tc:TT)(te:TE)(σ:St)(H:Hp)(Q:VK):Prop :=
 ∃W:Nat->List V->Hp->Prop,W 0 [] H/\(∀i h H,i<=xs.length->W i h H->st H) /\
  (∀i x h H,xs[i]?=some x->W i h H->bind x σ H λz u=>tc z u λb v=>if b=true then te z v λy w=>h.length<sizeLine/\W (i+1) (h++[y]) w else W (i+1) h v) /\
  ∀h u,W xs.length h u->h.length<=sizeLine/\∀p,u p=none->Q (.ref p) (OA u p (.lst h))
structure Yields(J:It)(xs:List Item)(st:Hp->Prop):Prop where
 go:∀i H,st H->i<xs.length->J.go i H
 yld:∀i H x H',st H->i<xs.length->J.yld i H x H'->∃it,xs[i]?=some it/\match it with
  | .one v=>x=v/\H'=H|.tup vs=>∃p,H p=none/\x=.ref p/\H'=OA H p (.tup vs)
 stop:∀i H,st H->xs.length<=i->J.stop i H
def Fg(J:It)(g:TG)(tc:TT)(te:TE)(k:St)(l:Hp)(Q:VK):Prop:=∃W:Nat->Nat->List V->St->Hp->Prop,(∃m,W 0 m [] k l) /\
 ∀i m h v u,W i m h v u->(J.stop i u/\h.length<=sizeLine/\∀p,u p=none->Q (.ref p) (OA u p (.lst h))) ∨
  (J.go i u/\∀x e,J.yld i u x e->g x v e λz j=>tc z j λb a=>if b=true then te z a λy f=>h.length<sizeLine/\∃w,w < m/\W (i+1) w (h++[y]) z f else ∃w,w < m/\W (i+1) w h z a)
def sV(K:QC)(xs:List Item)(st:Hp->Prop)(x:Tg)(tc:TT)(te:TE)(h:St)(H:Hp)(Q:VK):Prop:=∀J,Yields J xs st->Fg J (DE K x) tc te h H Q
def isNop:PX->Bool
 | .nop=>true|_=>false
noncomputable def wp(K:QC)(Γ:Ev):PX->XK->W3
 | .var i,E=>let e:TE:=λh H Q=>match h[i]? with
   |some (some v)=>Q v H|_=>False
  ⟨e,λh H Q=>e h H λx z=>iF K x z Q,never.a⟩
 | .int i,E=>⟨λ_ H Q=>Q (.int i) H,λ_ H Q=>Q (i != 0) H,never.a⟩|.str x,E=>⟨λ_ H Q=>Q (.str x) H,never.t,never.a⟩|.bl b,E=>⟨λ_ H Q=>Q (.bl b) H,λ_ H Q=>Q b H,never.a⟩|.non,E=>⟨λ_ H Q=>Q .non H,λ_ H Q=>Q false H,never.a⟩|.glo x,E=>⟨λ_ H Q=>Q (Γ.va x) H,λ_ H Q=>iF K (Γ.va x) H Q,never.a⟩|.bty _ n,E=>⟨λ_ H Q=>Q (.ty n) H,never.t,never.a⟩|.bin op a b,E=>let e:TE:=λh H Q=>(wp K Γ a E).e h H λx z=>(wp K Γ b E).e h z λy w=>V7 K op x y w Q
  ⟨e,λh H Q=>e h H λx z=>iF K x z Q,never.a⟩
 | .cmp op a b,E=>let e:TE:=λh H Q=>(wp K Γ a E).e h H λx z=>(wp K Γ b E).e h z λy w=>C0 K op x y w Q
  ⟨e,λh H Q=>e h H λx z=>C1 x z Q,never.a⟩
 | .neg a,E=>⟨λh H Q=>(wp K Γ a E).e h H λx z=>match x with
   | .int i=>Q (.int (-i)) z|_=>False,never.t,never.a⟩
 | .and a b,E=>⟨λh H Q=>(wp K Γ a E).e h H λx z=>C1 x z λc w=>if c=true then(wp K Γ b E).e h w Q else Q (.bl false) w,
   λh H Q=>(wp K Γ a E).t h H λc z=>if c=true then(wp K Γ b E).t h z Q else Q false z,never.a⟩
 | .or a b,E=>⟨λh H Q=>(wp K Γ a E).e h H λx z=>C1 x z λc w=>if c=true then Q (.bl true) w else(wp K Γ b E).e h w Q,
   λh H Q=>(wp K Γ a E).t h H λc z=>if c=true then Q true z else(wp K Γ b E).t h z Q,never.a⟩
 | .not a,E=>⟨λh H Q=>(wp K Γ a E).e h H λx z=>iF K x z λc w=>Q (.bl (!c)) w,λh H Q=>(wp K Γ a E).t h H λc z=>Q (!c) z,never.a⟩|.call f as,E=>let e:TE:=λh H Q=>(wp K Γ as E).a h H λg z=>Γ.sp f g z Q E
  ⟨e,λh H Q=>e h H λx z=>iF K x z Q,never.a⟩
 | .bi f as,E=>let e:TE:=λh H Q=>(wp K Γ as E).a h H λg z=>xh K f g z Q
  ⟨e,λh H Q=>e h H λx z=>iF K x z Q,never.a⟩
 | .isi a c,E=>let e:TE:=λh H Q=>(wp K Γ a E).e h H λx z=>(wp K Γ c E).e h z λy w=>E9 K [x,y] w Q
  ⟨e,λh H Q=>e h H λx z=>iF K x z Q,never.a⟩
 | .mt m o as,E=>let e:TE:=λh H Q=>(wp K Γ o E).e h H λx z=>kX K m.ty x z/\(wp K Γ as E).a h z λg w=>r6 K m x g w Q
  ⟨e,λh H Q=>e h H λx z=>iF K x z Q,never.a⟩
 | .idx a b,E=>let e:TE:=λh H Q=>(wp K Γ a E).e h H λx z=>(wp K Γ b E).e h z λy w=>SV K x y w Q
  ⟨e,λh H Q=>e h H λx z=>iF K x z Q,never.a⟩
 | .slc a lo hi,E=>⟨λh H Q=>(wp K Γ a E).e h H λx z =>
   (if isNop lo=true then λ(R:Option Int->Hp->Prop)=>R none z else λR=>(wp K Γ lo E).e h z λl w=>RK l w R) λl w =>
   (if isNop hi=true then λ(R:Option Int->Hp->Prop)=>R none w else λR=>(wp K Γ hi E).e h w λu j=>RK u j R) λu j=>Tj K x l u j Q,never.t,never.a⟩
 | .nop,E=>never|.lst as,E=>⟨λh H Q=>(wp K Γ as E).a h H λk z=>k.length<=sizeLine/\∀p,z p=none->Q (.ref p) (OA z p (.lst k)),never.t,never.a⟩|.tup as,E=>⟨λh H Q=>(wp K Γ as E).a h H λk z=>k.length<=sizeLine/\∀p,z p=none->Q (.ref p) (OA z p (.tup k)),never.t,never.a⟩|.comp mask tgs tg ik its cond elt,E=>⟨λh H Q=>(wp K Γ its E).a h H λg z=>aC K ik g z λk st w =>
   sV K k st tg (if isNop cond=true then λ_ H Q=>Q true H else(wp K Γ cond (λ_ _ _=>False)).t) (wp K Γ elt (λ_ _ _=>False)).e (uI tgs.length mask h) w Q,never.t,never.a⟩
 | .dnew b,E=>⟨λ_ H Q=>∀p,H p=none->Q (.ref p) (OA H p (.dT 0 [])),never.t,never.a⟩|.dsp a b,E=>⟨λh H Q=>∀p,H p=none->(wp K Γ a E).e h (OA H p (.dT 0 [])) λy z=>(wp K Γ b E).e h z λv w=>w p=some (.dT 0 [])/\∃b q,y=.ref b/\mD K w b (q.map kV)/\∀r,Q (.ref p) (OA w p (.dT r [(q,b,v)])),never.t,never.a⟩|.dof a,E=>⟨λh H Q=>(wp K Γ a E).e h H λx z=>ja K x z Q,never.t,never.a⟩|.lset a,E=>⟨λh H Q=>(wp K Γ a E).e h H λx z=>vY K x z Q,never.t,never.a⟩|.sset a,E=>⟨λh H Q=>(wp K Γ a E).e h H λx z=>kY K x z Q,never.t,never.a⟩|.nr,E=>⟨never.e,never.t,λ_ H Q=>Q [] H⟩|.nq a as,E=>⟨never.e,never.t,λh H Q=>(wp K Γ a E).e h H λx z=>(wp K Γ as E).a h z λk w=>Q (x::k) w⟩
structure Glob where
 ev:Ev
 fn:Str->Prop
 val:Str->Prop
 no:Str->Prop
def Bi.nm:Bi->Str
 | .len=>"len"|.any=>"any"|.all=>"all"|.list=>"list"|.sorted=>"sorted"
def Mt.nm:Mt->Str
 | .append=>"append"|.pop=>"pop"|.join=>"join"|.setd=>"setdefault"|.reverse=>"reverse"
def Yg(G:Glob):ItK->Prop
 | .val=>True|.rng1=>G.no "range"|.enum=>G.no "enumerate"|.zip2=>G.no "zip"|.itm=>True
noncomputable def LA(G:Glob):PX->Prop
 | .glo x=>G.val x|.bty x n=>G.no x/\bootBuiltins x=some (.type n)|.bin _ a b | .cmp _ a b | .and a b | .or a b | .idx a b | .nq a b | .dsp a b=>LA G a/\LA G b
 | .not a | .neg a | .lst a | .tup a=>LA G a
 | .slc a b c=>LA G a/\LA G b/\LA G c|.dof a=>G.no "dict"/\LA G a|.lset a=>G.no "len"/\G.no "set"/\LA G a|.sset a=>G.no "sorted"/\G.no "set"/\LA G a|.call f y=>G.fn f/\LA G y|.bi f y=>G.no f.nm/\LA G y|.isi a c=>G.no "isinstance"/\LA G a/\LA G c|.mt _ o y=>LA G o/\LA G y|.comp _ _ _ v z h u=>Yg G v/\LA G z/\LA G h/\LA G u|_=>True
structure SC where
 N:List Str
 sc:Scope
def sB:Expr->Bool
 | .Starred _ _=>false|_=>true
def J9(S:SC)(i:Nat)(x:Str):Bool :=
 S.N[i]?==some x&&(S.sc.names.lookup x==some .local||S.sc.names.lookup x==some .cell||S.sc.names.lookup x==some .free)&&x != "__debug__" && x != "__classdict__"
def Cb(S:SC)(i:Nat)(x:Str):Bool:=S.N[i]?==some x&&S.sc.names.lookup x==some .local
def mM(S:SC)(x:Str):Bool:=S.sc.names.lookup x==some .globalImplicit&&x != "__debug__" && x != "__name__"
def uV(S:SC)(h:Scope)(y:List Str)(x:List Bool):SC:=⟨y++DB x 0 S.N,CK h S.sc⟩
def yL:List Str->Bool
 |[]=>true|x::r=>!r.contains x&&yL r
noncomputable def U0(S:SC)(h:Scope)(z:List Str)(x:List Bool):Bool :=
 h.kind==.function&&h.names.all (λy=>y.2 != .cell&&(y.2 != .local||(h.names.lookup y.1==some .local&&(z.contains y.1||y.1==(".0":Str)))) &&
  (y.2 != .free||S.sc.names.lookup y.1==some .cell||S.sc.names.lookup y.1==some .free))&&yL (z++DB x 0 S.N)&&!(z++DB x 0 S.N).contains (".0":Str)
def ue(c:Bool)(S:SC)(i:Nat)(x:Str):Bool:=S.N[i]?==some x&&(S.sc.names.lookup x==some .local||(c&&S.sc.names.lookup x==some .cell))
def Pi(c:Bool)(S:SC):Tg->Expr->Bool
 | .nm i,.Name x _=>ue c S i x|.tp is,.Tuple es _ _=>is.length==es.length&&(is.zip es).all λp=>match p.2 with
  | .Name x _=>ue c S p.1 x|_=>false
 |_,_=>false
def nO:Expr->Bool
 | .Call (.Name _ _) [] [] _=>false|_=>true
def mQ:Expr->Bool
 | .Set _ _ _=>false|_=>true
def oO:Expr->Bool
 | .Slice _ _ _ _=>false|_=>true
def cF:PX->Bool
 | .nr=>true|.nq _ r=>cF r|_=>false
def rL:Expr->Bool
 | .Tuple _ _ _=>true|_=>false
section
variable{α:Type}
section
variable{e:Expr}{l:List α}
def pH(e:Expr)(f:Str->Pos->Bool):Bool:=match e with | .Name x p=>f x p|_=>false
def RH(e:Expr)(f:Const->Bool):Bool:=match e with | .Constant c _ _=>f c|_=>false
def n8(e:Expr)(f:Expr->Operator->Expr->Pos->Bool):Bool:=match e with | .BinOp l o r p=>f l o r p|_=>false
def Pa(e:Expr)(f:UnaryOp->Expr->Bool):Bool:=match e with | .UnaryOp o x _=>f o x|_=>false
def m8(e:Expr)(f:Expr->List CmpOp->List Expr->Bool):Bool:=match e with | .Compare l x h _=>f l x h|_=>false
def pS(e:Expr)(f:BoolOp->List Expr->Pos->Bool):Bool:=match e with | .BoolOp o h p=>f o h p|_=>false
def oS(e:Expr)(f:Expr->List Expr->List Keyword->Pos->Bool):Bool:=match e with | .Call g x h p=>f g x h p|_=>false
def FY(e:Expr)(f:Expr->Str->Pos->Bool):Bool:=match e with | .Attribute v n p=>f v n p|_=>false
def pU(e:Expr)(f:Expr->Expr->Pos->Bool):Bool:=match e with | .Subscript v i p=>f v i p|_=>false
def sU(e:Expr)(f:Option Expr->Option Expr->Option Expr->Bool):Bool:=match e with | .Slice l h s _=>f l h s|_=>false
def dO(e:Expr)(f:List Expr->Pos->Bool):Bool:=match e with | .List h p=>f h p|_=>false
def c8(e:Expr)(f:List Expr->Nat->Pos->Bool):Bool:=match e with | .Tuple h k p=>f h k p|_=>false
def Ra(e:Expr)(f:Expr->List Comprehension->Scope->Pos->Bool):Bool:=match e with | .ListComp x h sc p=>f x h sc p|_=>false
def mS(e:Expr)(f:List (Option Expr)->List Expr->Bool):Bool:=match e with | .Dict x h _=>f x h|_=>false
def LJ(l:List α)(f:α->Bool):Bool:=match l with | [x]=>f x|_=>false
def zk(l:List α)(f:α->α->Bool):Bool:=match l with | [x,y]=>f x y|_=>false
def B5(l:List α)(f:α->List α->Bool):Bool:=match l with|x::r=>f x r|_=>false
def Tf(o:Option α)(n:Bool)(f:α->Bool):Bool:=match o with|none=>n|some x=>f x
theorem JE{f:Str->Pos->Bool}(h:pH e f=true):∃x p,e=.Name x p/\f x p=true:=by
 cases e with|Name x p=>exact⟨x,p,rfl,h⟩|_=>exact(QF h).elim
theorem VG{f:Const->Bool}(h:RH e f=true):∃c k p,e=.Constant c k p/\f c=true:=by
 cases e with|Constant c k p=>exact⟨c,k,p,rfl,h⟩|_=>exact(QF h).elim
theorem C5{f:Expr->Operator->Expr->Pos->Bool}(h:n8 e f=true):∃l o r p,e=.BinOp l o r p/\f l o r p=true:=by
 cases e with|BinOp l o r p=>exact⟨l,o,r,p,rfl,h⟩|_=>exact(QF h).elim
theorem BY{f:UnaryOp->Expr->Bool}(h:Pa e f=true):∃o x p,e=.UnaryOp o x p/\f o x=true:=by
 cases e with|UnaryOp o x p=>exact⟨o,x,p,rfl,h⟩|_=>exact(QF h).elim
theorem U5{f:Expr->List CmpOp->List Expr->Bool}(h:m8 e f=true):∃l y x p,e=.Compare l y x p/\f l y x=true:=by
 cases e with|Compare l y x p=>exact⟨l,y,x,p,rfl,h⟩|_=>exact(QF h).elim
theorem bQ{f:BoolOp->List Expr->Pos->Bool}(h:pS e f=true):∃o es p,e=.BoolOp o es p/\f o es p=true:=by
 cases e with|BoolOp o es p=>exact⟨o,es,p,rfl,h⟩|_=>exact(QF h).elim
theorem uQ{f:Expr->List Expr->List Keyword->Pos->Bool}(h:oS e f=true):∃g es ks p,e=.Call g es ks p/\f g es ks p=true:=by
 cases e with|Call g es ks p=>exact⟨g,es,ks,p,rfl,h⟩|_=>exact(QF h).elim
theorem DY{f:Expr->Str->Pos->Bool}(h:FY e f=true):∃v n p,e=.Attribute v n p/\f v n p=true:=by
 cases e with|Attribute v n p=>exact⟨v,n,p,rfl,h⟩|_=>exact(QF h).elim
theorem cO{f:Expr->Expr->Pos->Bool}(h:pU e f=true):∃v i p,e=.Subscript v i p/\f v i p=true:=by
 cases e with|Subscript v i p=>exact⟨v,i,p,rfl,h⟩|_=>exact(QF h).elim
theorem xW{f:Option Expr->Option Expr->Option Expr->Bool}(h:sU e f=true):∃l u s p,e=.Slice l u s p/\f l u s=true:=by
 cases e with|Slice l u s p=>exact⟨l,u,s,p,rfl,h⟩|_=>exact(QF h).elim
theorem jL{f:List Expr->Pos->Bool}(h:dO e f=true):∃es p,e=.List es p/\f es p=true:=by
 cases e with|List es p=>exact⟨es,p,rfl,h⟩|_=>exact(QF h).elim
theorem Z5{f:List Expr->Nat->Pos->Bool}(h:c8 e f=true):∃es k p,e=.Tuple es k p/\f es k p=true:=by
 cases e with|Tuple es k p=>exact⟨es,k,p,rfl,h⟩|_=>exact(QF h).elim
theorem lS{f:Expr->List Comprehension->Scope->Pos->Bool}(h:Ra e f=true):∃x y sc p,e=.ListComp x y sc p/\f x y sc p=true:=by
 cases e with|ListComp x y sc p=>exact⟨x,y,sc,p,rfl,h⟩|_=>exact(QF h).elim
theorem xQ{f:List (Option Expr)->List Expr->Bool}(h:mS e f=true):∃ks vs p,e=.Dict ks vs p/\f ks vs=true:=by
 cases e with|Dict ks vs p=>exact⟨ks,vs,p,rfl,h⟩|_=>exact(QF h).elim
theorem iJ{f:α->List α->Bool}(h:B5 l f=true):∃x r,l=x::r/\f x r=true:=by
 cases l with|nil=>exact(QF h).elim|cons x r=>exact⟨x,r,rfl,h⟩
theorem ZB{f:α->Bool}(h:LJ l f=true):∃x,l=[x]/\f x=true:=by
 cases l with
 |nil=>exact(QF h).elim|cons x r =>
  cases r with|nil=>exact⟨x,rfl,h⟩|cons _ _=>exact(QF h).elim
theorem t8{f:α->α->Bool}(h:zk l f=true):∃x y,l=[x,y]/\f x y=true:=by
 cases l with
 |nil=>exact(QF h).elim|cons x r =>
  obtain⟨y,e,h⟩:=ZB (l:=r) (f:=f x) (by
   cases r with|nil=>exact h|cons y r=>cases r<;>exact h)
  exact⟨x,y,by rw[e],h⟩
end
end
section
variable{c:Const}{n:Str}{e:Expr}
def jh(c:Const)(f:Int->Bool):Bool:=match c with | .int i=>f i|_=>false
def Ig(c:Const)(f:Str->Bool):Bool:=match c with | .str i=>f i|_=>false
def P8(c:Const)(f:Bool->Bool):Bool:=match c with | .bool i=>f i|_=>false
def O8(c:Const):Bool:=match c with | .none=>true|_=>false
theorem Sc{f:Int->Bool}(h:jh c f=true):∃i,c=.int i/\f i=true:=by
 cases c with|int i=>exact⟨i,rfl,h⟩|_=>exact(QF h).elim
theorem Rc{f:Str->Bool}(h:Ig c f=true):∃i,c=.str i/\f i=true:=by
 cases c with|str i=>exact⟨i,rfl,h⟩|_=>exact(QF h).elim
theorem Z7{f:Bool->Bool}(h:P8 c f=true):∃i,c=.bool i/\f i=true:=by
 cases c with|bool i=>exact⟨i,rfl,h⟩|_=>exact(QF h).elim
theorem Y7(h:O8 c=true):c=.none:=by
 cases c with|none=>rfl|_=>exact(QF h).elim
theorem yA{a b:Bool}(h:(a&&b)=true):a=true/\b=true:=by cases a<;>cases b<;>first|exact⟨rfl,rfl⟩| exact(QF h).elim
def EG(S:SC)(n:Str)(e:Expr)(f:List Expr->List Keyword->Pos->Bool):Bool:=oS e λg y h p=>pH g λx _=>n==x&&(mM S x&&f y h p)
theorem rD{S:SC}{f:List Expr->List Keyword->Pos->Bool}(h:EG S n e f=true):∃y es ks p,e=.Call (.Name n y) es ks p/\mM S n=true/\f es ks p=true:=by obtain⟨g,es,ks,p,rfl,w⟩:=uQ h;obtain⟨x,y,rfl,v⟩:=JE w;have u:=yA v;have z:=yA u.2;have e:=qi u.1;exact⟨y,es,ks,p,by rw[e],by rw[e];exact z.1,z.2⟩
def fZ(n:Str)(e:Expr)(f:Expr->List Expr->Pos->Pos->Bool):Bool:=oS e λg z y p=>FY g λv x h=>n==x&&(y.isEmpty&&(h.endLine==p.line&&f v z h p))
theorem JU{f:Expr->List Expr->Pos->Pos->Bool}(h:fZ n e f=true):∃v y es p,e=.Call (.Attribute v n y) es [] p/\(y.endLine==p.line)=true/\f v es y p=true:=by obtain⟨g,es,i,p,rfl,a⟩:=uQ h;obtain⟨v,x,y,rfl,k⟩:=DY a;have w:=yA k;have u:=yA w.2;have z:=yA u.2;have e:=qi w.1;have b:=Qs.mp u.1;exact⟨v,y,es,p,by rw[e,b],z.1,z.2⟩
def J8(x:BoolOp)(r:Expr)(h:List Expr)(pos:Pos):Expr:=match h with
 |[]=>r|q::t=>.BoolOp x (r::q::t) pos
noncomputable def Ti(y:Bool)(S:SC)(z:ItK)(c:List Expr->Pos->Bool)(t it:Expr)(pos:Pos):Bool:=match z with
 | .val=>y&&c [it] pos|.rng1=>EG S "range" it λh x p=>x.isEmpty&&LJ h λa=>c [a] p|.zip2=>rL t&&EG S "zip" it λh x p=>x.isEmpty&&zk h λa b=>c [a,b] p|.enum=>rL t&&EG S "enumerate" it λh x p=>x.isEmpty&&LJ h λa=>c [a] p|.itm=>rL t&&(y&&fZ "items" it λv h _ p=>nO v&&(h.isEmpty&&c [v] p))
def Ll(h:List Expr)(n:Bool)(f:Expr->Bool):Bool:=match h with
 |[]=>n|c::r=>r.isEmpty&&(!n&&f c)
def kZ(S:SC)(f g:Str)(e:Expr)(c:Expr->Bool):Bool:=EG S f e λz h _=>h.isEmpty&&LJ z λx=>EG S g x λz h _=>h.isEmpty&&LJ z λy=>sB y&&c y
theorem aU{S:SC}{f g:Str}{c:Expr->Bool}(h:kZ S f g e c=true):∃u p2 pos z y,e=.Call (.Name f u) [.Call (.Name g p2) [y] [] z] [] pos/\mM S f=true/\mM S g=true/\sB y=true/\c y=true:=by obtain⟨u,o,b,pos,rfl,i,h⟩:=rD h;have a:=yA h;cases Qs.mp a.1;obtain⟨x,rfl,m⟩:=ZB a.2;obtain⟨p2,o,b,z,rfl,v,l⟩:=rD m;have k:=yA l;cases Qs.mp k.1;obtain⟨y,rfl,j⟩:=ZB k.2;have w:=yA j;exact⟨u,p2,pos,z,y,rfl,i,v,w.1,w.2⟩
def isItm:ItK->Bool
 | .itm=>true|_=>false
noncomputable def IB:PX->SC->Expr->Bool
 | .var i,S,e=>pH e λx _=>J9 S i x|.int i,_,e=>RH e λc=>jh c λj=>i==j|.str x,_,e=>RH e λc=>Ig c λy=>x==y|.bl b,_,e=>RH e λc=>P8 c λk=>b==k|.non,_,e=>RH e O8|.glo x,S,e=>pH e λy _=>x==y&&mM S x|.bty x _,S,e=>pH e λy _=>x==y&&mM S x|.bin op a b,S,e=>n8 e λl o r _=>op==o&&(IB a S l&&IB b S r)|.cmp op a b,S,e=>m8 e λl Z Y=>LJ Z λo=>LJ Y λr=>op==o&&(mQ r&&(IB a S l&&IB b S r))|.neg a,S,e=>Pa e λo x=>o==.USub&&IB a S x|.and a b,S,e=>pS e λo z p=>o==.And&&B5 z λl t=>B5 t λr t=>IB a S l&&IB b S (J8 .And r t p)|.or a b,S,e=>pS e λo z p=>o==.Or&&B5 z λl t=>B5 t λr t=>IB a S l&&IB b S (J8 .Or r t p)|.not a,S,e=>Pa e λo x=>o==.Not&&IB a S x|.call f as,S,e=>EG S f e λz w p=>w.isEmpty&&IB as S (.List z p)|.bi f as,S,e=>EG S f.nm e λz w p=>w.isEmpty&&B5 z λx t=>IB as S (.List (x::t) p)|.isi a c,S,e=>EG S "isinstance" e λz w _=>w.isEmpty&&zk z λl r=>sB l&&(sB r&&(IB a S l&&IB c S r))|.mt m o as,S,e=>fZ m.nm e λv z _ p=>cF as&&(nO v&&(decide (z.length<20)&&(IB o S v&&IB as S (.List z p))))|.idx a b,S,e=>pU e λv i _=>oO i&&(IB a S v&&IB b S i)|.slc a lo hi,S,e=>pU e λv X _=>sU X λl h s=>s.isNone&&(IB a S v&&(Tf l (isNop lo) (λe=>!isNop lo&&IB lo S e)&&Tf h (isNop hi) λe=>!isNop hi&&IB hi S e))|.nop,_,_=>false|.lst as,S,e=>dO e λz p=>IB as S (.List z p)|.tup as,S,e=>c8 e λz _ p=>IB as S (.List z p)|.comp mask tgs tg ik its cond elt,S,e=>Ra e λK W u p=>LJ W λg=>g.is_async==0&&(!isItm ik&&(U0 S u tgs mask&&(Pi false (uV S u tgs mask) tg g.target&&(mQ g.iter &&
   (Ti (cF its) S ik (λz p=>IB its S (.List z p)) g.target g.iter p&&(Ll g.ifs (isNop cond) (λc=>IB cond (uV S u tgs mask) c)&&IB elt (uV S u tgs mask) K))))))
 | .dnew _,_,e=>mS e λw q=>w.isEmpty&&q.isEmpty|.dsp a b,S,e=>mS e λw q=>LJ w λk=>LJ q λv=>Tf k false (IB a S)&&IB b S v|.dof a,S,e=>EG S "dict" e λz w _=>w.isEmpty&&LJ z λy=>sB y&&IB a S y|.lset a,S,e=>kZ S "len" "set" e (IB a S)|.sset a,S,e=>kZ S "sorted" "set" e (IB a S)|.nr,_,e=>dO e λz _=>z.isEmpty|.nq a as,S,e=>dO e λz p=>B5 z λx t=>sB x&&(IB a S x&&IB as S (.List t p))
end
variable{Γ:Ev}
theorem Yd(x:V)(H:Hp)(Q:Bool->Hp->Prop):C1 x H Q=∃k,x=.bl k/\Q k H:=by
 apply propext;cases x with|bl b=>exact⟨λh=>⟨b,rfl,h⟩,λ⟨k,e,h⟩=>by cases e;exact h⟩|_=>exact⟨λh=>Qc h,λ⟨k,e,h⟩=>by cases e⟩
theorem JY(x:V)(H:Hp)(Q:Option Int->Hp->Prop):RK x H Q=∃i,x=.int i/\Q (some i) H:=by
 apply propext;cases x with|int b=>exact⟨λh=>⟨b,rfl,h⟩,λ⟨k,e,h⟩=>by cases e;exact h⟩|_=>exact⟨λh=>Qc h,λ⟨k,e,h⟩=>by cases e⟩
theorem KT(K:QC)(x:V)(H:Hp)(Q:Bool->Hp->Prop):iF K x H Q=∃k,Ud K x H k/\Q k H:=by
 apply propext;cases x with|bl b=>exact⟨λh=>⟨b,rfl,h⟩,λ⟨k,(e:k=b),h⟩=>by subst e;exact h⟩|int i=>exact⟨λh=>⟨i != 0,rfl,h⟩,λ⟨k,(e:k=(i != 0)),h⟩=>by subst e;exact h⟩|non=>exact⟨λh=>⟨false,rfl,h⟩,λ⟨k,(e:k=false),h⟩=>by subst e;exact h⟩|str z=>exact⟨λh=>⟨_,⟨h.1,rfl⟩,h.2⟩,λ⟨k,⟨u,y⟩,h⟩=>by subst y;exact⟨u,h⟩⟩|_=>exact Wn
section
variable{X:Cx}
section
variable{e b:Expr}{es:List Expr}{env:Env}{its:List Value}
theorem tY:PE X e never.e:=λ_ _ _ _ _ _ h=>Qc h
theorem HK:PT X e never.t:=λ_ _ _ _ _ _ h=>Qc h
theorem kQ:PA X es never.a:=λ_ _ _ _ _ _ _ h=>Qc h
theorem UD{a:Expr}{ta:TE}(i:PE X a ta)(g:∀y,isTrue a X.env y=(do let v <- y;standAt a.pos;holding [v] (truthy v))) :
  PT X a (λσ H Q=>ta σ H λx l=>iF X.K x l Q):=by
 intro z s σ H Q I h;refine isTrue_plain (OB (i z s σ H _ I h) λv k ⟨x,w,j,f,u⟩=>?_) (g _);have u:iF X.K x w Q:=u;rw[KT]at u;exact tX z k σ w x v Q j f u
theorem XY{f:Value->Value->Sem Value}:KF X f (λ_ _ _ _=>False):=λ_ _ _ _ _ _ _ _ _ _ _ _ h=>h.elim
theorem Na(h:Operator):KF X (binaryOp h) (V7 X.K h):=by
 cases h with|Add=>exact op_add|Sub=>exact op_sub|Mult=>exact Ma|FloorDiv=>exact i5|Mod=>exact op_mod|_=>exact XY
theorem ZZ{h:TB}{s:Shared}{σ:St}{H:Hp}{b c:Bool}{Q:VK}(I:Inv X h σ H s)(q:Q (.bl (decide (b=c))) H):wpAny (model X.prog X.w) X.A (compareOp .Is (.bool b) (.bool c)) (EP X h σ Q) X.xe s:=by
 have e:compareOp .Is (.bool b) (.bool c)=pure (.bool (decide (b=c))):=by cases b<;>cases c<;>rfl
 rw[e];exact QK ⟨.bl _,H,I,rfl,q⟩
theorem UY(k:X.A.units+66<cLine)(z:CmpOp):KF X (compareOp z) (C0 X.K z):=by
 cases z with|Eq=>exact op_eq (by omega)|NotEq=>exact op_ne (by omega)|Lt=>exact xO _root_.L2.op_lt|LtE=>exact xO _root_.L2.op_le|Gt=>exact xO _root_.L2.op_gt|GtE=>exact xO _root_.L2.op_ge|In=>exact Pf k|NotIn=>exact VY k|Is=>intro w s g H x y v u Q I f a h;obtain⟨b,c,rfl,rfl,q⟩:=h;cases f;cases a;exact ZZ I q|IsNot=>exact λ_ _ _ _ _ _ _ _ _ _ _ _ h=>h.elim
theorem yc(Z:X.A.units+66<cLine):A1 X (SV X.K):=by
 intro w k f s n H x y v u Q I r p h Y;have sq:=λh=>jc (X:=X) w k f s n H x y v u Q I r p h Y;have dc:=λh=>B6 Z w k f s n H x y v u Q I r p h Y;cases x with
 |str z =>
  cases y with|int i=>obtain⟨W,c,m,q⟩:=h;exact sq (.inr (.inr ⟨z,i,c,rfl,rfl,W,m,q⟩))|_=>exact Qc h
 |ref a =>
  cases y with
  |int i=>obtain⟨o,j,l,m,q⟩:=h;rcases l with l|l;exact sq (.inl ⟨a,o,i,j,rfl,rfl,l,m,q⟩);exact sq (.inr (.inl ⟨a,o,i,j,rfl,rfl,l,m,q⟩))
  |str z=>obtain⟨j,g,q⟩:=h;exact dc ⟨a,j,rfl,g,q⟩|ref b=>obtain⟨j,g,q⟩:=h;exact dc ⟨a,j,rfl,g,q⟩|_=>exact Qc h
 |_=>exact Qc h
theorem jZ{x:CmpOp}(h:mQ b=true):behindInMarks x b=false:=by cases b<;>first|rfl|cases h
theorem L4(h:oO b=true):nV b:=by intro o i;cases b<;>first|rfl|cases h
theorem ZA(env:Env)(h:sB e=true):starEach (e::es) env=(false,eval e env)::starEach es env:=by cases e<;>first|rfl|cases h
theorem aS(h:mQ e=true)(x:Value):foldedSetIterable e env x=pure x:=by cases e<;>first|rfl|cases h
theorem IY{o:Expr}{n:Str}(h:nO o=true):attributeBase o n env (eval o env)=eval o env:=by unfold attributeBase;split;cases h;rfl
theorem g6:de X "list.pop" A7:=by intro z s f H x u v g Q I j m h;obtain⟨l,i,u,k,y,rfl,rfl,a,hk,n,q⟩:=h;obtain⟨p,Z,Y,r⟩:=iO hk;have o:u.length<=sizeLine:=(show NA X.prog X.w H s.heap l (.lst u) from I.hok l _ a).1;rw[QS]at o;exact dZ z s f H _ _ v g Q I j m ⟨l,u,i,k,y,rfl,rfl,a,by omega,by omega,p,n,q⟩
theorem tK{x:List Str}(h:bA (x.map V.str) its):StrsAre its x:=by
 induction x generalizing its with
 |nil=>cases h;exact .nil|cons y x z =>
  cases h with|cons h t=>obtain⟨k,rfl⟩:=h;exact .cons _ _ (z t)
theorem n6:de X "str.join" (E7 X.K):=by intro y s l H x n v o Q I w g h;obtain⟨z,b,m,rfl,rfl,j,i,q⟩:=h;obtain⟨t,rfl⟩:=w;obtain⟨u,rfl,f⟩:=aJ g;cases f;obtain⟨its,a,p,_⟩:=I.list j;exact join_list p.isList (by simpa using tK a) i λr k=>⟨.str _,H,I.tok _,⟨_,rfl⟩,q⟩
theorem iV{ss:List Str}(h:StrsAre its ss):bA (ss.map V.str) its:=by
 induction h with|nil=>exact .nil|cons y t _ x=>exact .cons ⟨t,rfl⟩ x
theorem jW{out:List Value}(g:its.Perm out):∀{xs:List V},bA xs its->∃z,z.Perm xs/\bA z out:=by
 induction g with
 |nil=>intro xs r;cases r;exact⟨[],we _,.nil⟩|cons x _ k =>
  intro xs r;cases r with|cons h t=>obtain⟨z,p,v⟩:=k t;exact⟨_::z,p.cons _,.cons h v⟩
 |swap x y l =>
  intro xs r;cases r with
  |cons h t=>cases t with|cons i t=>exact⟨_::_::_,List.Perm.swap _ _ _,.cons i (.cons h t)⟩
 |trans _ _ f a=>intro xs r;obtain⟨z,p,v⟩:=f r;obtain⟨w,q,u⟩:=a v;exact⟨w,q.trans p,u⟩
theorem lX{xs:List V}{v:Value}(r:bA xs its)(h:v∈its):∃x∈xs,sA x v:=by
 induction r with
 |nil=>exact nomatch h
 |cons r t z=>rcases QJ.mp h with e|h;subst e;exact⟨_,QD,r⟩;obtain⟨x,u,y⟩:=z h;exact⟨x,QE _ u,y⟩
theorem gR(hu:X.A.units+66<cLine):eF X (.builtin "sorted") (kU X.K):=by
 intro pins s σ H xs us Q I r h;obtain⟨p,rfl,h⟩:=h;rcases h with⟨ss,O,R,q⟩| ⟨xs,O,R,M,q⟩
 skip;obtain⟨u,rfl,B⟩:=aJ r;cases B;obtain⟨its,i,F,hz⟩:=I.list O;have hl:=i.length;rw[QG]at hl;refine sorted_strs F.isList (by simpa using tK i) (by omega) λout l a1 a2 a3=>?_;obtain⟨e,P⟩:=sortedAll_at s.heap its out;have hlen:=(HN a1).1;have hp:=a2.length_eq;refine⟨.ref (s.heap.objs.size+1),_,I.laid (t':=s.toks) (λb o z=>sortedAll_old z) (wD _) (show NA X.prog X.w _ _ _ (.lst (l.map V.str)) from⟨by rw[QG,QS];omega,out.toList,e,iV a1,by simpa using P⟩),rfl,q _ l (I.hok.fresh (wD _)) a2 a3⟩;skip;obtain⟨u,rfl,B⟩:=aJ r;cases B;obtain⟨its,i,F,hz⟩:=I.list O;have hl:=i.length;have f:∀v∈its,∃b S Z n k,∃j:List Str,v=.ref b/\s.heap.get? b=some { cls:=.type "list",dict:=S,data:=.seq k n,slots:=Z }/\StrsAre k.toList j:=λv N=>by obtain⟨x,L,W⟩:=lX i N;obtain⟨a,j,rfl,sq⟩:=M x L;cases W;obtain⟨g,E,⟨o,n,e,c,d,z⟩,_⟩:=I.list sq;obtain⟨oc,od,J,G⟩:=o;cases c;exact⟨a,od,G,n,g.toArray,j,rfl,by rw[e,show J=Data.seq g.toArray n from z],by simpa using tK E⟩
 refine P3 F.isList (by omega) (λv N=>?_) (λh3 kp x M y hy C hC=>?_) λout hp=>?_;obtain⟨b,S,Z,n,k,j,rfl,e,_⟩:=f v N;exact⟨b,_,rfl,e,rfl⟩;obtain⟨b,S,Z,n,k,j,rfl,e,st⟩:=f x M;obtain⟨b2,dd2,sl2,n2,m,ts2,rfl,e2,Y⟩:=f y hy;exact gS (s:={ s with heap:=h3 }) (show X.A.units+1+1<cLine by omega) (kp _ _ e) (kp _ _ e2) st Y (hC _);obtain⟨e,P⟩:=sortedAll_at s.heap its out.toArray;obtain⟨ys,py,vy⟩:=jW hp.symm i;have hp2:=py.length_eq;refine⟨.ref (s.heap.objs.size+1),_,I.laid (t':=s.toks) (λb o z=>sortedAll_old z) (wD _) (show NA X.prog X.w _ _ _ (.lst ys) from⟨by rw[QS];omega,out,e,vy,P⟩),rfl,q _ ys (I.hok.fresh (wD _)) py⟩
theorem yh(x:X.A.units+66<cLine)(h:X.calm=true)(f:Bi):(∃id,bootBuiltins f.nm=some (.builtin id)/\eF X (.builtin id) (xh X.K f))∨∃T,bootBuiltins f.nm=some (.type T)/\eF X (.type T) (xh X.K f):=by
 cases f with|len=>exact .inl ⟨_,PySem.boot_len,O0⟩|any=>exact .inl ⟨_,PyProof.Rows.boot_any,T0 h⟩|all=>exact .inl ⟨_,PyProof.Rows.boot_all,A0 h⟩|list=>exact .inr ⟨_,PyProof.Rows.boot_list,SO⟩|sorted=>exact .inl ⟨_,QAl,gR x⟩
end
end
end L2.L3
namespace L2.L3
open PySem PySem.Spec PyProof.Rows
section
variable{S:SC}{i:Nat}{x:Str}
structure OkX(X:Cx)(S:SC)(G:Glob)(E:XK):Prop where
 N:X.N=S.N
 sc:X.env.scope=S.sc
 calm:X.calm=true
 un:X.A.units+66<cLine
 fn:∀f,G.fn f->∃(CX:C2) (k:Nat) (a:Addr) (fd:FuncData) (ps:List Str),FnOk X.prog X.w X.K X.mg X.base CX k a fd ps (G.ev.sp f)/\Room k X.A/\X.mg f=some (.ref a)/\WB X.K (.ref a)=true/\ZI X.K fd ps [] /\
  jM CX X E/\∀l H s e s',CX l H s (λ_ _ _=>False) e s'->False
 val:∀x,G.val x->∃u,X.mg x=some u/\sA (G.ev.va x) u
 no:∀x,G.no x->X.mg x=none
def lP(X:Cx)(Γ:Ev)(E:XK):PX->List Expr->Prop
 | .nq a as,e::es=>PE X e (wp X.K Γ a E).e/\lP X Γ E as es|_,_=>True
structure Snd(X:Cx)(Γ:Ev)(E:XK)(p:PX)(e:Expr):Prop where
 pe:PE X e (wp X.K Γ p E).e
 pt:PT X e (wp X.K Γ p E).t
 pw:∀op es pos,e=.BoolOp op es pos->PW X e (wp X.K Γ p E).t
 pa:∀es pos,e=.List es pos->PA X es (wp X.K Γ p E).a
 pas:∀es pos,e=.List es pos->lP X Γ E p es
theorem J3(h:J9 S i x=true):S.N[i]?=some x/\nh S.sc x/\(x==("__debug__":Str))=false/\(x==("__classdict__":Str))=false:=by simp only[J9,Qf,wU,beq_iff_eq,bne_iff_ne,ne_eq]at h;obtain⟨⟨⟨v,y⟩,u⟩,z⟩:=h;refine⟨v,?_,by simpa using u,by simpa using z⟩;rcases y with(y|y)|y;exact .inl y;exact .inr (.inl y);exact .inr (.inr y)
theorem e6(h:Cb S i x=true):S.N[i]?=some x/\S.sc.names.lookup x=some .local:=by simp only[Cb,Qf,beq_iff_eq]at h;exact h
theorem iC(h:mM S x=true):S.sc.names.lookup x=some .globalImplicit/\(x==("__debug__":Str))=false/\x≠"__name__":=by simp only[mM,Qf,beq_iff_eq,bne_iff_ne,ne_eq]at h;exact⟨h.1.1,by simpa using h.1.2,h.2⟩
theorem LI:∀{l:List Str},yL l=true->l.Nodup
 |[],_=>Q0|x::r,h=>by simp only[yL,Qf,Q8]at h;exact Qk.mpr ⟨by simpa using h.1,LI h.2⟩
theorem zR{z:Scope}{w:List Str}{u:List Bool}(h:U0 S z w u=true):CompSt S.N S.sc z w u:=by simp only[U0,Qf,qH,beq_iff_eq,Q8]at h;obtain⟨⟨⟨f,k⟩,b⟩,a⟩:=h;refine⟨f,λy v e=>?_,λy v e=>?_,λy v e=>?_,λy v e=>?_,LI b,by simpa using a⟩;have:=(k y v).1.1;rw[e]at this;exact absurd this (by decide);have:=(k y v).1.2;rw[e]at this;simp at this;exact this.1;have:=(k y v).2;rw[e]at this;simp at this;exact this;have:=(k y v).1.2;rw[e]at this;simp at this;exact this.2
theorem OkX.comp{X:Cx}{G:Glob}{E:XK}(ok:OkX X S G E)(y:Scope)(v:List Str)(u:List Bool)(s:Shared)(H:Hp)(ex:List Addr):OkX (jB X y v u s H ex) (uV S y v u) G (λ_ _ _=>False) where
 N:=by show v++DB u 0 X.N=v++DB u 0 S.N;rw[ok.N]
 sc:=by show CK y X.env.scope=CK y S.sc;rw[ok.sc]
 calm:=ok.calm
 un:=ok.un
 fn:=λf h=>by obtain⟨o,k,a,n,b,m,l,j,g,e,p,w⟩:=ok.fn f h;exact⟨o,k,a,n,b,m,l,j,g,e,λ_ _ _ _ _ _ _ z=>(w _ _ _ _ _ z).elim,w⟩
 val:=ok.val
 no:=ok.no
end
section
variable{X:Cx}
theorem mZ{c:Bool}{S:SC}{i:Nat}{x:Str}(k:X.N=S.N)(y:X.env.scope=S.sc)(u:c=true->∀x,X.fn x=true)(h:ue c S i x=true):X.N[i]?=some x/\fe X.env.scope x/\(X.fn x=true∨X.env.scope.names.lookup x=some .local):=by
 simp only[ue,Qf,wU,beq_iff_eq]at h;rw[k,y];rcases h.2 with z|⟨w,v⟩
 exact⟨h.1,.inl z,.inr z⟩;exact⟨h.1,.inr v,.inl (u w x)⟩
theorem VM{c:Bool}{S:SC}(a:c=true->∀x,X.fn x=true)(j:X.N=S.N)(k:X.env.scope=S.sc)(nd:X.N.Nodup):∀(w:List Nat) (es:List Expr),w.length=es.length->((w.zip es).all λp=>match p.2 with | .Name x _=>ue c S p.1 x|_=>false)=true ->
  uo X es (λvs σ H Q=>∃y,mB w vs σ=some y/\Q y H)
 |[],[],_,_=>by
  intro z s σ H vs n Q I r h;obtain⟨y,e,q⟩:=h;cases vs with|nil=>cases r;simp only[mB]at e;cases e;exact assignInOrder_nil ⟨σ,H,I,q⟩|cons _ _=>simp[mB]at e
 |[],_::_,h,_=>by cases h|_::_,[],h,_=>by cases h|i::w,e::es,hl,hz=>by
  simp only[WG,qr,Qf]at hz;obtain⟨l,W⟩:=hz;cases e with
  |Name x pos =>
   obtain⟨g,f,b⟩:=mZ j k a l;have Z:=VM a j k nd w es (by simpa using hl) W;intro z s σ H vs n Q I r h;obtain⟨y,e,q⟩:=h;cases vs with
   |nil=>simp[mB]at e|cons v vs =>
    simp only[mB]at e;cases r with|cons r Y=>show wpAny _ _ (assignInOrder (assign (.Name x pos) X.env::(assignEach es X.env).map (·.2)) _) _ _ _;refine assignInOrder_cons (OB (gU (pos:=pos) nd g f b z s σ H v _ _ I r (show OU i v σ H (λu m=>u=σ.set i (some v)/\m=H) from⟨rfl,rfl⟩)) λ_ o ⟨u,m,B,A,K⟩=>?_);subst A K;exact Z z o _ _ vs _ Q B Y ⟨y,e,q⟩
  |_=>simp at l
theorem VQ{c:Bool}:∀(z:List Nat) (es:List Expr) (S:SC),z.length=es.length->((z.zip es).all λp=>match p.2 with | .Name x _=>ue c S p.1 x|_=>false)=true->(assignEach es X.env).length=es.length/\(assignEach es X.env).findIdx? (·.1)=none
 |[],[],_,_,_=>⟨rfl,rfl⟩|[],_::_,_,h,_=>by cases h|_::_,[],_,h,_=>by cases h|i::z,e::es,S,hl,hz=>by
  simp only[WG,qr,Qf]at hz;obtain⟨w,v⟩:=hz;cases e with|Name x y=>have u:=VQ z es S (by simpa using hl) v;have k:assignEach (.Name x y::es) X.env=(false,assign (.Name x y) X.env)::assignEach es X.env:=rfl;rw[k];refine⟨by rw[QM,QM,u.1],?_⟩;rw[List.findIdx?_cons];simp[u.2]|_=>simp at w
theorem iK:∀{y:List Nat}{vs:List V}{σ x:St},mB y vs σ=some x->vs.length=y.length
 |[],[],_,_,_=>rfl|[],_::_,_,_,h=>by simp[mB]at h|_::_,[],_,_,h=>by simp[mB]at h|_::y,_::vs,σ,x,h=>by simp only[mB]at h;rw[QM,QM,iK h]
theorem fU{c:Bool}{S:SC}{G:Glob}{E:XK}(ok:OkX X S G E)(z:c=true->∀x,X.fn x=true)(nd:X.N.Nodup){b:Tg}{e:Expr}(h:Pi c S b e=true):PG X e (DE X.K b):=by
 cases b with
 |nm i =>
  cases e with|Name x pos=>obtain⟨l,j,g⟩:=mZ ok.N ok.sc z h;exact gU nd l j g|_=>cases h
 |tp o =>
  cases e with
  |Tuple m k pos =>
   obtain⟨J,Z⟩:=yA h;have f:=qi J;obtain⟨C,B⟩:=VQ (X:=X) o m S f Z;have w:=Ja (pos:=pos) (k:=k) (n:=m.length) ok.calm (VM z ok.N ok.sc nd o m f Z) C B;intro y s W H v u Q I r Y;refine w y s W H v u Q I r ?_;cases v with|ref p=>obtain⟨A,a,F,e,q⟩:=Y;exact⟨p,A,rfl,F,by rw[iK e,f],a,e,q⟩|_=>exact Qc Y
  |_=>cases h
end
variable{Γ:Ev}
theorem E2(K:QC)(a:Addr)(xs:List V):Yields (Zo K a) (xs.map .one) (λH=>XC K H a xs) :=
  { go:=λi H h u=>by
      have z:i<xs.length:=by simpa using u
      exact⟨xs,xs[i],h,by simp[z]⟩
    yld:=λi H x v h _ ⟨e,y⟩=>⟨.one x,by rw[Qa,y xs h];rfl,rfl,e⟩
    stop:=λi H h u=>⟨xs,h,by simpa using u⟩ }
theorem u9(K:QC)(a:Addr)(xs:List V):Yields (Jo K a) (xs.map .one) (λH=>mD K H a xs) :=
  { go:=λi H h u=>by
      have z:i<xs.length:=by simpa using u
      exact⟨xs,xs[i],h,by simp[z]⟩
    yld:=λi H x v h _ ⟨e,y⟩=>⟨.one x,by rw[Qa,y xs h];rfl,rfl,e⟩
    stop:=λi H h u=>⟨xs,h,by simpa using u⟩ }
theorem b9(z:Str):Yields (Cn z) (z.cps.toList.map λc=>.one (.str ⟨#[c]⟩)) (λ_=>True) :=
  { go:=λi H h u=>by
      have y:i<z.cps.size:=by simpa using u
      exact y
    yld:=λi H x k h _ ⟨e,c,v,w⟩=>⟨.one x,by rw[Qa,wI,v,w];rfl,rfl,e⟩
    stop:=λi H h u=>by
      have y:z.cps.size<=i:=by simpa using u
      exact y }
theorem c9(u:Int)(n:Nat):Yields (Fn u n) ((qC n).map λ(k:Nat)=>.one (.int (u+(k:Int)))) (λ_=>True) :=
  { go:=λi H h z=>by
      have y:i<n:=by simpa using z
      exact y
    yld:=λi H x w h z ⟨e,v⟩=>by
      have y:i<n:=by simpa using z
      exact⟨.one x,by rw[Qa,QBW y,v];rfl,rfl,e⟩
    stop:=λi H h z=>by
      have y:n<=i:=by simpa using z
      exact y }
theorem x9(K:QC)(f w:Src)(xs y:List V):Yields (ao K f w) ((xs.zip y).map λp=>.tup [p.1,p.2]) (λH=>xM K H f xs/\xM K H w y) :=
  { go:=λi H h v=>by
      have u:i<xs.length/\i<y.length:=by simp only[QG,QCS]at v;omega
      exact⟨xs,y,xs[i],y[i],h.1,h.2,by simp[u.1],by simp[u.2]⟩
    yld:=λi H x n h v ⟨p,a,b,g,e,j,k⟩=>by obtain⟨m,l⟩:=k xs y h.1 h.2;refine⟨.tup [a,b],?_,p,g,e,j⟩;rw[Qa,(List.getElem?_zip_eq_some (z:=(a,b))).mpr ⟨m,l⟩];rfl
    stop:=λi H h v=>⟨xs,y,h.1,h.2,by simp only[QG,QCS]at v;omega⟩ }
theorem y3(K:QC)(z:Src)(c:Nat)(xs:List V):Yields (Vo K z c) (xs.zipIdx.map λp=>.tup [.int ((c+p.2:Nat):Int),p.1]) (λH=>xM K H z xs) :=
  { go:=λi H h u=>by
      have y:i<xs.length:=by simpa using u
      exact⟨xs,xs[i],h,by simp[y]⟩
    yld:=λi H x g h u ⟨p,a,v,e,w,k⟩=>by
      have y:i<xs.length:=by simpa using u
      have f:=k xs h;refine⟨.tup [.int ((c+i:Nat):Int),a],?_,p,v,e,w⟩;have b:xs.zipIdx[i]?=some (a,i):=by rw[List.getElem?_zipIdx,f];simp
      rw[Qa,b];rfl
    stop:=λi H h u=>⟨xs,h,by simpa using u⟩ }
theorem cX(ep:Nat)(a:Addr)(kvs:List KE):Yields (Yo ep kvs.length a) (kvs.map λp=>.tup [.ref p.2.1,p.2.2]) (λH=>H a=some (.dT ep kvs)) :=
  { go:=λi H h y=>by
      have z:i<kvs.length:=by simpa using y
      exact⟨kvs,kvs[i],h,rfl,by simp[z]⟩
    yld:=λi H x w h y ⟨q,p,u,e,v,k⟩=>⟨.tup [.ref p.2.1,p.2.2],by rw[Qa,k kvs h];rfl,q,u,e,v⟩
    stop:=λi H h y=>⟨kvs,h,rfl,by simpa using y⟩ }
theorem j3(ep:Nat)(a:Addr)(kvs:List KE):Yields (Ko ep kvs.length a) (kvs.map λp=>.one (.ref p.2.1)) (λH=>H a=some (.dT ep kvs)) :=
  { go:=λi H h y=>by
      have z:i<kvs.length:=by simpa using y
      exact⟨kvs,kvs[i],h,rfl,by simp[z]⟩
    yld:=λi H x b h y ⟨u,k⟩=>by obtain⟨p,w,v⟩:=k kvs h;exact⟨.one (.ref p.2.1),by rw[Qa,w];rfl,v,u⟩
    stop:=λi H h y=>⟨kvs,h,rfl,by simpa using y⟩ }
def aP(h:St->Hp->(List Item->(Hp->Prop)->Hp->Prop)->Prop):TI:=λx H R=>h x H λy st z=>∀J,Yields J y st->R J z
section
variable{X:Cx}{f:Expr}
section
variable{a:Expr}{ta:TA}{p pos k:Pos}{x:Str}{es:List Expr}{d:Nat}
theorem M4{l:Expr}{t:TE}(J:PE X l t):PI X f l (aP λσ H R=>t σ H λv m=>aC X.K .val [v] m R):=by
 intro j s σ H R I h;refine OB (J j s σ H _ I h) λv y ⟨x,m,i,E,W⟩=>?_;have g:∀b∈[y.heap.objs.size],JI X j m b:=λb hb=>by
  have e:b=y.heap.objs.size:=by simpa using hb
  subst e;exact i.fpOk (QV _) (i.hok.fresh (QV _))
 cases x with
 |str z=>obtain⟨t,rfl⟩:=E;refine wpAny_pyIter_strU ?_;exact⟨y.heap.objs.size,[y.heap.objs.size],_,_,m,rfl,i.kept (t':=y.toks) λb o e=>QH _ e,sX _ z t,⟨_,QN _ rfl,rfl,rfl⟩,g,W _ (b9 z)⟩|ref a =>
  cases E;rcases W with⟨Z,B,q⟩| ⟨Z,B,q⟩| ⟨ep,u,e,q⟩
  obtain⟨Y,F,p,G⟩:=i.list B;refine wl p.isList ?_;exact⟨y.heap.objs.size,[y.heap.objs.size],_,_,m,rfl,i.kept (t':=y.toks) λb o e=>QH _ e,YV a _,⟨_,QN _ rfl,rfl,rfl⟩,g,q _ (E2 _ a Z)⟩;obtain⟨Y,F,p,G⟩:=i.tuple B;refine QBf (show y.heap.IsTuple a Y.toArray from p) ?_;exact⟨y.heap.objs.size,[y.heap.objs.size],_,_,m,rfl,i.kept (t':=y.toks) λb o e=>QH _ e,NR a _,⟨_,QN _ rfl,rfl,rfl⟩,g,q _ (u9 _ a Z)⟩;obtain⟨z,L,Z,r,Q,C,P,O,N,M,S⟩:=(show NA X.prog X.w m y.heap a (.dT ep u) from i.hok a _ e)
  have A:C.size=u.length:=by have:=congrArg qq M;rw[QG,QX]at this;rw[this,<- qZ r]
  refine D6 L P O.1 N ?_;exact⟨y.heap.objs.size,[y.heap.objs.size],_,_,m,rfl,i.kept (t':=y.toks) λb o e=>QH _ e,ZV (a:=a) (n:=u.length) (ep:=ep),⟨_,QN _ rfl,rfl,by rw[<- A];rfl⟩,g,q _ (j3 ep a u)⟩
 |_=>exact Qc W
theorem N4(g:x="range")(m:Gl X x)(l:X.mg x=none)(n:PA X [a] ta)(i:sB a=true) :
  PI X f (.Call (.Name x p) [a] [] pos) (aP λσ H R=>ta σ H λvs v=>aC X.K .rng1 vs v R):=by
 subst g;intro z s σ H R I h;refine Call_ (oE I m l boot_range (qY (OB (n pos z s σ H _ I h) λY Z ⟨vs,v,o,b,u⟩=>?_) (ZA _ i) rfl))
 match vs,u with
 |[.int j],⟨⟨u,q2⟩,q⟩ =>
  cases b with
  |cons r w =>
   cases w;obtain⟨t,rfl⟩:=r;refine call_range_1 (zY o (by omega) (by omega) u q2 ?_);have e:(j - 0).toNat=j.toNat:=by simp
   rw[e];have y:=c9 0 j.toNat;refine q _ ?_;simpa using y
theorem Y1:bootBuiltins ("zip":Str)=some (.type "zip"):=by kernel_rfl
theorem ma{b:Expr}(C:x="zip")(G:Gl X x)(F:X.mg x=none)(J:PA X [a,b] ta)(E:sB a=true)(j:sB b=true) :
  PI X (.Tuple es d k) (.Call (.Name x p) [a,b] [] pos) (aP λσ H R=>ta σ H λvs m=>aC X.K .zip2 vs m R):=by
 subst C;intro w s σ H R I h;refine Call_ (oE I G F Y1 (qY (OB (J pos w s σ H _ I h) λQ y ⟨vs,m,g,o,Z⟩=>?_) (ZA _ E) (by rw[ZA _ j];rfl)))
 match vs,Z with
 |[.ref l1,.ref l2],⟨xs,ys,h1,h2,q⟩ =>
  cases o with
  |cons r i =>
   cases i with
   |cons Y i =>
    cases i;cases r;cases Y;obtain⟨B,_,v,_⟩:=g.src (z:=.l l1) h1;obtain⟨A,_,u,_⟩:=g.src (z:=.l l2) h2;refine call_zip_2 v u λh' n O N M L _ W=>QCE n ?_;have P:=g.kept (h':=h') (t':=y.toks) W;refine⟨_,[y.heap.objs.size+4,y.heap.objs.size+2,y.heap.objs.size+3,y.heap.objs.size,y.heap.objs.size+1],_,_,m,rfl,P,rX (rP (BB.lt (z:=.l l1) v) (BB.lt (z:=.l l2) u)),⟨n,O,⟨_,_,N⟩,M,L⟩,λb hb=>?_,q _ (x9 _ (.l l1) (.l l2) xs ys)⟩;have e:y.heap.objs.size<=b:=by simp only[QJ,Qh,or_false]at hb;rcases hb with rfl|rfl|rfl|rfl|rfl;exact Wb _ _;exact Wb _ _;exact Wb _ _;exact QV _;exact Wb _ _
    exact g.fpOk e (g.hok.fresh e)
theorem AW:bootBuiltins ("enumerate":Str)=some (.type "enumerate"):=by kernel_rfl
theorem TZ{y:TB}{σ:St}{e:Hp}{h:Shared}{R:It->Hp->Prop}{c:Nat}{z:Src}{xs:List V}{its:Array Value}{h':Heap}(v:Inv X y σ e h)(sh:BB h.heap z its)(st:aT (h.heap.objs.size+1) h.heap.objs.size z c 0 h')(i:∀c o,h.heap.get? c=some o->h'.get? c=some o)
  (q:∀J,Yields J (xs.zipIdx.map λp=>.tup [.int ((c+p.2:Nat):Int),p.1]) (λH=>xM X.K H z xs)->R J e):wpAny (model X.prog X.w) X.A (pyIter (.ref (h.heap.objs.size+1))) (on X y σ (.Tuple es d k) R) X.xe { h with heap:=h' }:=by
 obtain⟨⟨g,j⟩,_⟩:=id st;refine QBv j ?_;have l:=v.kept (h':=h') (t':=h.toks) i;have lt:=sh.lt;refine⟨_,[h.heap.objs.size+1,h.heap.objs.size],_,_,e,rfl,l,VV (En (Nat.succ_ne_self _)) (QZ (qk lt)) (QZ lt),st,λb hb=>?_,q _ (y3 _ z c xs)⟩;have u:h.heap.objs.size<=b:=by simp only[QJ,Qh,or_false]at hb;rcases hb with rfl|rfl;exact Wb _ _;exact QV _
 exact v.fpOk u (v.hok.fresh u)
theorem P4(l:x="enumerate")(o:Gl X x)(n:X.mg x=none)(Y:PA X [a] ta)(m:sB a=true) :
  PI X (.Tuple es d k) (.Call (.Name x p) [a] [] pos) (aP λσ H R=>ta σ H λvs w=>aC X.K .enum vs w R):=by
 subst l;intro u s σ H R I h;refine Call_ (oE I o n AW (qY (OB (Y pos u s σ H _ I h) λZ W ⟨vs,w,v,e,g⟩=>?_) (ZA _ m) rfl))
 match vs,g with
 |[.ref l1],⟨z,xs,e1,h1,q⟩ =>
  subst e1;cases e with|cons r b=>cases b;cases r;obtain⟨j,_,y,_⟩:=v.src h1;refine lT y λA st i=>TZ (xs:=xs) v y st i ?_;simpa using q
theorem C6{K:QC}{u:V}{H:Hp}{R:List Item->(Hp->Prop)->Hp->Prop}(h:aC K .itm [u] H R):∃a ep kvs,u=.ref a/\H a=some (.dT ep kvs)/\R (kvs.map λp=>.tup [.ref p.2.1,p.2.2]) (λH=>H a=some (.dT ep kvs)) H:=by
 cases u with|ref a=>obtain⟨ep,kvs,e,q⟩:=h;exact⟨a,ep,kvs,rfl,e,q⟩|_=>exact Qc h
theorem aa{o:Expr}{B:TE}{apos cpos:Pos}(L:PE X o B)(i:attributeBase o "items" X.env (eval o X.env)=eval o X.env)(g:(apos.endLine==cpos.line)=true) :
  kj X (.Tuple es d k) (.Call (.Attribute o "items" apos) [] [] cpos) (aP λσ H R=>B σ H λv l=>aC X.K .itm [v] l R):=by
 intro u s σ H R I h;refine QAs i g (OB (L u s σ H _ I h) λv j ⟨x,l,E,G,J⟩=>?_);obtain⟨a,ep,y,rfl,e,q⟩:=C6 J;cases G;obtain⟨z,M,Q,r,C,W,m,Z,O,N,S⟩:=(show NA X.prog X.w l j.heap a (.dT ep y) from E.hok a _ e)
 refine⟨"dict",_,QAx,PySem.F.slot_dict_items,PySem.F.type_dict_items,⟨C,m,Z.1⟩,λb P=>?_,Wq rfl (QBS (gT m Z.1 M ?_))⟩;cases P;exact⟨C,m,Z.2.1⟩;have A:Inv X u σ l { j with heap:=j.heap.push { cls:=.type "dict_items",data:=.fields #[.ref a] } }:=E.kept (t':=j.toks) λb o e=>QH _ e;refine JZ ⟨_,QN _ rfl,rfl,rfl⟩ (QH _ m) O ?_;have Y:W.size=y.length:=by have:=congrArg qq N;rw[QG,QX]at this;rw[this,<- qZ r]
 refine⟨_,[_],_,_,l,rfl,A.kept (t':=j.toks) λb o e=>QH _ e,PR (a:=a) (n:=y.length) (ep:=ep),⟨.none,.none,?_⟩,λb hb=>?_,q _ (cX ep a y)⟩;rw[<- Y];exact QN _ rfl;have e:=QI.mp hb;subst e;exact A.fpOk (QV _) (A.hok.fresh (QV _))
end
end
section
variable{u σ:St}{K:QC}{k:Tg}{H:Hp}{Q:St->Hp->Prop}
def Tg.at:Tg->List Nat
 | .nm i=>[i]|.tp h=>h
def XR(k:Tg)(u σ:St):Prop:=u.length=σ.length/\∀(j:Nat),j∉k.at->u[j]?=σ[j]?
theorem UV{i:Nat}{v:Option V}(h:u.length=σ.length)(y:∀j,j≠i->u[j]?=σ[j]?):u.set i v=σ.set i v:=by apply wn;intro j;by_cases e:j=i;subst e;by_cases x:j<σ.length;rw[qd (by omega),qd x];rw[qM (by rw[wH];omega),qM (by rw[wH];omega)];rw[qT (Q6 e),qT (Q6 e)];exact y j e
theorem GH:∀(x:List Nat) (vs:List V) (u σ:St),u.length=σ.length->(∀j,j∉x->u[j]?=σ[j]?)->mB x vs u=mB x vs σ
 |[],[],u,σ,hl,h=>by have:u=σ:=wn λj=>h j (by simp);rw[this]|[],_::_,_,_,_,_=>rfl|_::_,[],_,_,_,_=>rfl|i::x,v::vs,u,σ,hl,h=>by simp only[mB];refine GH x vs _ _ (by simp[hl]) λj z=>?_;by_cases e:j=i;subst e;by_cases y:j<σ.length;rw[qd (by omega),qd y];rw[qM (by rw[wH];omega),qM (by rw[wH];omega)];rw[qT (Q6 e),qT (Q6 e)];exact h j (by simp[e,z])
theorem IE:∀(h:List Nat) (vs:List V) (σ u:St),mB h vs σ=some u->u.length=σ.length/\∀j,j∉h->u[j]?=σ[j]?
 |[],[],σ,u,e=>by simp only[mB]at e;cases e;exact⟨rfl,λ_ _=>rfl⟩|[],_::_,_,_,e=>by simp[mB]at e|_::_,[],_,_,e=>by simp[mB]at e|i::h,v::vs,σ,u,e=>by simp only[mB]at e;obtain⟨w,y⟩:=IE h vs _ _ e;refine⟨by rw[w,wH],λj x=>?_⟩;rw[y j (λz=>x (QE _ z)),qT (λz=>x (by simp[z]))]
theorem mR{v:V}(a:XR k u σ)(h:DE K k v σ H Q):DE K k v u H λx m=>XR k x σ/\Q x m:=by
 obtain⟨f,g⟩:=a;cases k with
 |nm i=>have e:u.set i (some v)=σ.set i (some v):=UV f λj y=>g j (by simpa[Tg.at]using y);show XR (.nm i) (u.set i (some v)) σ/\Q (u.set i (some v)) H;rw[e];exact⟨⟨by simp,λj y=>qT (λz=>y (by simp[Tg.at,z]))⟩,h⟩|tp b =>
  cases v with|ref p=>obtain⟨w,x,l,e,q⟩:=h;exact⟨w,x,l,by rw[GH b w u σ f λj y=>g j y];exact e,⟨(IE b w σ x e).1,λj y=>(IE b w σ x e).2 j y⟩,q⟩|_=>exact Qc h
theorem mT{v:V}{y:St->Hp->Prop}(m:∀σ H,Q σ H->y σ H)(h:DE K k v σ H Q):DE K k v σ H y:=by
 cases k with
 |nm i=>exact m _ _ h|tp a =>
  cases v with|ref p=>obtain⟨z,x,w,e,q⟩:=h;exact⟨z,x,w,e,m _ _ q⟩|_=>exact Qc h
theorem OL{it:Item}{x:V}{y:Hp}(w:match it with | .one v=>x=v/\y=H | .tup vs=>∃p,H p=none/\x=.ref p/\y=OA H p (.tup vs))(h:bindI K k it σ H Q):DE K k x σ y Q:=by
 cases it with
 |one v=>obtain⟨rfl,rfl⟩:=w;exact h|tup vs =>
  obtain⟨p,z,rfl,rfl⟩:=w;cases k with
  |nm i=>exact h p z|tp a =>
   obtain⟨u,e,q⟩:=h (OA H p (.tup vs)) λb o e=>by rw[xA (VA e z)];exact e
   exact⟨vs,u,mD.of DA,e,q⟩
theorem V0{xs:List Item}{st:Hp->Prop}{tc:TT}{te:TE}{a:St}{Q:VK}(h:Dg K xs st (bindI K k) tc te a H Q):sV K xs st k tc te a H Q:=by
 obtain⟨W,Z,o,j,done⟩:=h;intro J Y;refine⟨λi m v u f=>m=xs.length - i/\i<=xs.length/\XR k u a/\W i v f,⟨xs.length,by simp,Q9 _,⟨rfl,λ_ _=>rfl⟩,Z⟩,?_⟩;rintro i m v u f ⟨rfl,C,F,w⟩;have n:=o i v f C w;by_cases g:i<xs.length;refine .inr ⟨Y.go i f n g,λx G y=>?_⟩;obtain⟨it,p,B⟩:=Y.yld i f x G n g y;have b:=mR F (OL B (j i it v f p w));refine mT (λl I q=>?_) b;obtain⟨r,q⟩:=q;have E:∀(z:List V) (s:Hp),(∃X,X < xs.length - i/\X=xs.length - (i+1)/\i+1<=xs.length/\XR k l a/\W (i+1) z s)=W (i+1) z s:=λz s =>
  propext ⟨λ⟨_,_,_,_,_,w⟩=>w,λw=>⟨_,by omega,rfl,g,r,w⟩⟩
 simp only[E];exact q
 ·have e:i=xs.length:=by omega
  subst e;obtain⟨A,q⟩:=done v f w;exact .inl ⟨Y.stop _ f n (QV _),A,q⟩
end
end L2.L3
namespace L2.L3
open PySem PySem.Spec PyProof.Rows
variable{Γ:Ev}
section
variable{X:Cx}{E:XK}{p its:PX}{es:List Expr}{e t it:Expr}{pos:Pos}{S:SC}{Q:List V->Hp->Prop}{G:Glob}{d:ItK}
def mO:PX->Bool
 | .nq _ _=>false|_=>true
theorem pR(h:mO p=true):lP X Γ E p es:=by cases p<;>first|trivial|cases h
theorem xP(Q:Bool->Hp->Prop):(λ(x:V) (h:Hp)=>C1 x h Q)=λ(x:V) (h:Hp)=>∃k,x=.bl k/\Q k h:=by funext x h;exact Yd x h Q
theorem Snd.of(pe:PE X e (wp X.K Γ p E).e)(pt:PT X e (wp X.K Γ p E).t)(hb:∀h es pos,e≠.BoolOp h es pos)(y:(wp X.K Γ p E).a=never.a)(x:mO p=true:=by rfl):Snd X Γ E p e :=
 ⟨pe,pt,λh es pos z=>absurd z (hb h es pos),λes pos z=>by rw[y];exact kQ,λ_ _ _=>pR x⟩
theorem Snd.lit(pe:PE X e (wp X.K Γ p E).e)(x:(wp X.K Γ p E).t=never.t)(hb:∀h es pos,e≠.BoolOp h es pos)(z:(wp X.K Γ p E).a=never.a)(y:mO p=true:=by rfl):Snd X Γ E p e :=
 Snd.of pe (by rw[x];exact HK) hb z y
theorem Snd.args(w:PA X es (wp X.K Γ p E).a)(u:lP X Γ E p es)(v:(wp X.K Γ p E).e=never.e)(y:(wp X.K Γ p E).t=never.t):Snd X Γ E p (.List es pos) :=
 ⟨by rw[v];exact tY,by rw[y];exact HK,λ_ _ _ z=>(by cases z),λx h z=>by cases z;exact w,λx h z=>by cases z;exact u⟩
theorem Ca{x:Str}{v:V}{u:Value}(y:X.env.scope=S.sc)(h:mM S x=true)(z:X.mg x=some u)(r:sA v u):PE X (.Name x pos) (λ_ H Q=>Q v H):=by obtain⟨k,w,a⟩:=iC h;exact A4 (show X.env.scope.names.lookup x=some .globalImplicit by rw[y];exact k) z r w
theorem YD:∀(p:PX) {es:List Expr},IB p S (.List es pos)=true->es.all sB=true:=by
 intro p;induction p with|nr=>intro es h;have h:es.isEmpty=true:=h;rw[Qs.mp h];rfl|nq a u _ y=>intro es h;have h:B5 es _=true:=h;obtain⟨x,t,rfl,h⟩:=iJ h;have z:=yA h;rw[qr,z.1,y (yA z.2).2];rfl|lst u y=>exact λh=>y h|_=>exact λh=>(QF h).elim
theorem oR{K:QC}{σ:St}{H:Hp}:∀(p:PX),cF p=true->IB p S (.List [] pos)=true->((wp K Γ p E).a σ H Q↔Q [] H):=by
 intro p;cases p with|nr=>exact λ_ _=>Wn|nq _ _=>exact λ_ h=>(QF h).elim|_=>exact λh=>(QF h).elim
theorem IW{K:QC}{σ:St}{H:Hp}(p:PX)(h:IB p S (.List [] pos)=true)(q:(wp K Γ p E).a σ H Q):Q [] H:=by
 cases x:cF p with
 |true=>exact(oR p x h).mp q|false =>
  cases p with|nr=>exact q|nq _ _=>exact(QF h).elim|_=>exact q.elim
theorem nR{a:Expr}(p:PX)(y:cF p=true)(h:IB p S (.List [a] pos)=true):∃x,p=.nq x .nr:=by
 cases p with
 |nq x r =>
  have z:IB r S (.List [] pos)=true:=(yA (yA h).2).2;cases r with|nr=>exact⟨x,rfl⟩|nq _ _=>exact(QF z).elim|_=>exact(QF y).elim
 |nr=>exact(QF h).elim|_=>exact(QF y).elim
theorem cg(h:X.A.units+66<cLine)(m:Mt):∃id,PlainAttrs m.ty/\Slot m.ty m.nm id/\typeOf (.builtin id)=pure (.type "method_descriptor")/\de X id (r6 X.K m):=by
 cases m with|append=>exact⟨_,Wo,PySem.F.slot_list_append,PySem.F.type_list_append,pW⟩|pop=>exact⟨_,Wo,PySem.F.slot_list_pop,PySem.F.type_list_pop,g6⟩|join=>exact⟨_,PySem.F.plainAttrs_str,PySem.F.slot_str_join,PySem.F.type_str_join,n6⟩|setd=>exact⟨_,QAx,PySem.F.slot_dict_setdefault,PySem.F.type_dict_setdefault,oW h⟩|reverse=>exact⟨_,Wo,PySem.F.slot_list_reverse,PySem.F.type_list_reverse,iS⟩
theorem HE{env:Env}{pos:Pos}:∀{es:List Expr},es.all sB=true->(backTo pos (starEach es env)).any (·.1)=false
 |[],_=>rfl|e::es,h=>by rw[qr]at h;obtain⟨y,x⟩:=yA h;rw[ZA env y];show(false||(backTo pos (starEach es env)).any (·.1))=false;rw[HE x];rfl
theorem sR{env:Env}{pos:Pos}:∀{es:List Expr},es.all sB=true->(backTo pos (starEach es env)).all (λx=>!x.1)=true
 |[],_=>rfl|e::es,h=>by rw[qr]at h;obtain⟨z,y⟩:=yA h;rw[ZA env z];show(true&&(backTo pos (starEach es env)).all (λx=>!x.1))=true;rw[sR y];rfl
theorem bS(ok:OkX X S G E)(y:Ti (cF its) S d (λes p=>IB its S (.List es p)) t it pos=true)(l:Yg G d)(o:isItm d=false)
  (g:∀es p,IB its S (.List es p)=true->Snd X G.ev E its (.List es p)):PI X t it (aP λσ H R=>(wp X.K G.ev its E).a σ H λvs q=>aC X.K d vs q R):=by
 have w:∀{x:Str},mM S x=true->Gl X x:=λ{x} h=>by show X.env.scope.names.lookup x=some .globalImplicit;rw[ok.sc];exact(iC h).1
 have z:rL t=true->∃es k p,t=.Tuple es k p:=λh=>by
  cases t with|Tuple es k p=>exact⟨es,k,p,rfl⟩|_=>exact(QF h).elim
 cases d with
 |val=>have i:=yA y;have j:=(g _ pos i.2).pas _ pos rfl;obtain⟨a,rfl⟩:=nR its i.1 i.2;exact M4 j.1|rng1=>obtain⟨m,es,n,p,rfl,f,h⟩:=rD y;have v:=yA h;cases Qs.mp v.1;obtain⟨a,rfl,u⟩:=ZB v.2;exact N4 rfl (w f) (ok.no _ l) ((g _ p u).pa _ p rfl) (by simpa using YD its u)|zip2 =>
  have i:=yA y;obtain⟨es,k,pt,rfl⟩:=z i.1;obtain⟨m,es,n,p,rfl,f,h⟩:=rD i.2;have v:=yA h;cases Qs.mp v.1;obtain⟨a,b,rfl,u⟩:=t8 v.2;have st:sB a=true/\sB b=true:=by simpa using YD its u
  exact ma rfl (w f) (ok.no _ l) ((g _ p u).pa _ p rfl) st.1 st.2
 |enum=>have i:=yA y;obtain⟨es,k,pt,rfl⟩:=z i.1;obtain⟨m,es,n,p,rfl,f,h⟩:=rD i.2;have v:=yA h;cases Qs.mp v.1;obtain⟨a,rfl,u⟩:=ZB v.2;exact P4 rfl (w f) (ok.no _ l) ((g _ p u).pa _ p rfl) (by simpa using YD its u)|itm=>cases o
theorem O4(ok:OkX X S G E)(x:Ti (cF its) S d (λes p=>IB its S (.List es p)) t it pos=true)(g:Yg G d)
  (u:∀es p,IB its S (.List es p)=true->Snd X G.ev E its (.List es p)):kj X t it (aP λσ H R=>(wp X.K G.ev its E).a σ H λvs l=>aC X.K d vs l R):=by
 cases b:isItm d with
 |false=>exact(bS ok x g b u).to0|true =>
  cases d with
  |itm =>
   have i:=yA x;have w:=yA i.2;cases t with|Tuple es k pt=>obtain⟨v,m,es,p,rfl,j,h⟩:=JU w.2;have f:=yA h;have z:=yA f.2;cases Qs.mp z.1;have y:=(u _ p z.2).pas _ p rfl;obtain⟨a,rfl⟩:=nR its w.1 z.2;exact aa y.1 (IY f.1) j|_=>exact(QF i.1).elim
  |_=>cases b
theorem ZG{te x:TE}(h:PE X e te)(q:∀σ H Q,x σ H Q->te σ H Q):PE X e x:=λy s σ H Q I z=>h y s σ H Q I (q σ H Q z)
theorem snd:∀(p:PX) {X:Cx}{S:SC}{E:XK}(ok:OkX X S G E) {e:Expr},IB p S e=true->LA G p->Snd X G.ev E p e:=by
 intro p;induction p with
 |var i =>
  intro X S E ok e h _;obtain⟨x,pos,rfl,h⟩:=JE h;obtain⟨Z,B,L,O⟩:=J3 h;have base:=Va (pos:=pos) (show X.N[i]?=some x by rw[ok.N];exact Z) (show nh X.env.scope x by rw[ok.sc];exact B) L O;have pe:PE X (.Name x pos) (wp X.K G.ev (.var i) E).e:=ZG base λA H Q q=>by
   have q:(match A[i]? with|some (some v)=>Q v H|_=>False):=q;cases hs:A[i]? with
   |none=>rw[hs]at q;exact q.elim|some o =>
    rw[hs]at q;cases o with|none=>exact q.elim|some v=>exact⟨v,hs,q⟩
  exact Snd.of pe (UD pe λ_=>rfl) (λ_ _ _ z=>by cases z) rfl
 |int i=>intro X S E ok e h _;obtain⟨c,k,pos,rfl,h⟩:=VG h;obtain⟨j,rfl,h⟩:=Sc h;cases qi h;exact Snd.of aY (UD (ta:=λ_ H Q=>Q (.int i) H) aY λ_=>rfl) (λ_ _ _ z=>by cases z) rfl|str x=>intro X S E ok e h _;obtain⟨c,k,pos,rfl,h⟩:=VG h;obtain⟨j,rfl,h⟩:=Rc h;cases qi h;exact Snd.lit Ua rfl (λ_ _ _ z=>by cases z) rfl|bl b=>intro X S E ok e h _;obtain⟨c,k,pos,rfl,h⟩:=VG h;obtain⟨j,rfl,h⟩:=Z7 h;cases qi h;exact Snd.of b8 (UD (ta:=λ_ H Q=>Q (.bl b) H) b8 λ_=>rfl) (λ_ _ _ z=>by cases z) rfl|non=>intro X S E ok e h _;obtain⟨c,k,pos,rfl,h⟩:=VG h;cases Y7 h;exact Snd.of sY (UD (ta:=λ_ H Q=>Q .non H) sY λ_=>rfl) (λ_ _ _ z=>by cases z) rfl|glo x=>intro X S E ok e h nd;obtain⟨y,pos,rfl,h⟩:=JE h;have h:=yA h;cases qi h.1;obtain⟨u,hm,r⟩:=ok.val x nd;have pe:=Ca (pos:=pos) ok.sc h.2 hm r;exact Snd.of pe (UD pe λ_=>rfl) (λ_ _ _ z=>by cases z) rfl|bty x n=>intro X S E ok e h nd;obtain⟨y,pos,rfl,h⟩:=JE h;have h:=yA h;cases qi h.1;obtain⟨g1,g2,g3⟩:=iC h.2;exact Snd.lit (u5 (show X.env.scope.names.lookup x=some .globalImplicit by rw[ok.sc];exact g1) (ok.no x nd.1) nd.2 rfl g3 g2) rfl (λ_ _ _ z=>by cases z) rfl|bin op a b Y M=>intro X S E ok e h nd;obtain⟨l,o,r,pos,rfl,h⟩:=C5 h;have Z:=yA h;have B:=yA Z.2;cases qi Z.1;have pe:=Hf (pos:=pos) (Na op) (Y ok B.1 nd.1).pe (M ok B.2 nd.2).pe;exact Snd.of pe (UD pe λ_=>rfl) (λ_ _ _ z=>by cases z) rfl|cmp op a b Y M=>intro X S E ok e h nd;obtain⟨l,os,rs,pos,rfl,h⟩:=U5 h;obtain⟨o,rfl,h⟩:=ZB h;obtain⟨r,rfl,h⟩:=ZB h;have Z:=yA h;have B:=yA Z.2;have L:=yA B.2;cases qi Z.1;have pa:=(Y ok L.1 nd.1).pe;have pb:=(M ok L.2 nd.2).pe;refine Snd.of (v5 (pos:=pos) (UY ok.un op) pa pb (jZ B.1)) (λJ s A H Q I q=>X4 (pos:=pos) (UY ok.un op) pa pb (jZ B.1) J s A H Q I ?_) (λ_ _ _ z=>by cases z) rfl;show Me _ _ _ A H (λ(x:V) (W:Hp)=>∃k,x=.bl k/\Q k W);rw[<- xP Q];exact q|neg a Y =>
  intro X S E ok e h nd;obtain⟨o,e,pos,rfl,h⟩:=BY h;have h:=yA h;cases qi h.1;have base:=Gf (pos:=pos) (Z9 (X:=X)) (Y ok h.2 nd).pe;refine Snd.lit (λJ s A H Q I q=>base J s A H Q I ?_) rfl (λ_ _ _ z=>by cases z) rfl;have e:(λ(x:V) (W:Hp)=>rU (λi=>V.int (-i)) x W Q)=λ(x:V) (W:Hp)=>(match x with | .int i=>Q (.int (-i)) W|_=>False):=by
   funext x W;apply propext;cases x with|int i=>exact⟨λ⟨j,e,q⟩=>by cases e;exact q,λq=>⟨i,rfl,q⟩⟩|_=>exact⟨λ⟨j,e,q⟩=>(by cases e),λq=>Qc q⟩
  show(wp X.K G.ev a E).e A H (λ(x:V) (W:Hp)=>rU (λi=>V.int (-i)) x W Q);rw[e];exact q
 |and a b Y M =>
  intro X S E ok e h nd;obtain⟨o,es,pos,rfl,h⟩:=bQ h;have Z:=yA h;cases qi Z.1;obtain⟨l,t,rfl,B⟩:=iJ Z.2;obtain⟨r,t,rfl,L⟩:=iJ B;have O:=yA L;have sa:=Y ok O.1 nd.1;have sb:=M ok O.2 nd.2;have eqA:∀(A:St) (Q:VK),(λ(x:V) (W:Hp)=>∃c,x=.bl c/\if c=true then(wp X.K G.ev b E).e A W Q else Q (.bl false) W)=λ(x:V) (W:Hp)=>C1 x W λc H2=>if c=true then(wp X.K G.ev b E).e A H2 Q else Q (.bl false) H2:=λA Q=>(xP _).symm
  have key:PW X (.BoolOp .And (l::r::t) pos) (wp X.K G.ev (.and a b) E).t/\PE X (.BoolOp .And (l::r::t) pos) (λA H Q=>(wp X.K G.ev a E).e A H λx W=>∃c,x=.bl c/\if c=true then(wp X.K G.ev b E).e A W Q else Q (.bl false) W):=by
   cases t with|nil=>exact⟨xY sa.pt (K4 sb.pt),iY (pos:=pos) sa.pe (rY sb.pe)⟩|cons q t=>exact⟨xY sa.pt (sb.pw _ _ _ rfl),iY (pos:=pos) sa.pe sb.pe⟩
  refine⟨ZG key.2 λA H Q q=>?_,key.1.pt,λ_ _ _ _=>key.1,λ_ _ z=>(by cases z),λ_ _ z=>trivial⟩;rw[eqA];exact q
 |or a b Y M =>
  intro X S E ok e h nd;obtain⟨o,es,pos,rfl,h⟩:=bQ h;have Z:=yA h;cases qi Z.1;obtain⟨l,t,rfl,B⟩:=iJ Z.2;obtain⟨r,t,rfl,L⟩:=iJ B;have O:=yA L;have sa:=Y ok O.1 nd.1;have sb:=M ok O.2 nd.2;have eqA:∀(A:St) (Q:VK),(λ(x:V) (W:Hp)=>∃c,x=.bl c/\if c=true then Q (.bl true) W else(wp X.K G.ev b E).e A W Q)=λ(x:V) (W:Hp)=>C1 x W λc H2=>if c=true then Q (.bl true) H2 else(wp X.K G.ev b E).e A H2 Q:=λA Q=>(xP _).symm
  have key:PW X (.BoolOp .Or (l::r::t) pos) (wp X.K G.ev (.or a b) E).t/\PE X (.BoolOp .Or (l::r::t) pos) (λA H Q=>(wp X.K G.ev a E).e A H λx W=>∃c,x=.bl c/\if c=true then Q (.bl true) W else(wp X.K G.ev b E).e A W Q):=by
   cases t with|nil=>exact⟨k8 sa.pt (ya sb.pt),u8 (pos:=pos) sa.pe (rY sb.pe)⟩|cons q t=>exact⟨k8 sa.pt (sb.pw _ _ _ rfl),u8 (pos:=pos) sa.pe sb.pe⟩
  refine⟨ZG key.2 λA H Q q=>?_,key.1.pt,λ_ _ _ _=>key.1,λ_ _ z=>(by cases z),λ_ _ z=>trivial⟩;rw[eqA];exact q
 |not a Y=>intro X S E ok e h nd;obtain⟨o,x,pos,rfl,h⟩:=BY h;have Z:=yA h;cases qi Z.1;have sa:=Y ok Z.2 nd;refine Snd.of (λJ s A H Q I q=>?_) (ka sa.pt) (λ_ _ _ z=>by cases z) rfl;refine UnaryOp_ (OB (sa.pe J s A H _ I q) λv s1 ⟨x,W,I1,r1,q1⟩=>?_);have q1:iF X.K x W (λc H2=>Q (.bl (!c)) H2):=q1;rw[KT]at q1;refine not_of (OB (tX J s1 A W x v _ I1 r1 q1) λc s2 ⟨H2,I2,q2⟩=>?_);exact⟨.bl (!c),H2,I2,rfl,q2⟩|call f as ih =>
  intro X S E ok e h nd;obtain⟨p,es,ks,pos,rfl,P,h⟩:=rD h;have Z:=yA h;cases Qs.mp Z.1;obtain⟨g1,g2,g3⟩:=iC P;have P:Gl X f:=show X.env.scope.names.lookup f=some .globalImplicit by rw[ok.sc];exact g1
  obtain⟨CX,k,a,fd,ps,F,hr,hm,hk,hb,hx,_⟩:=ok.fn f nd.1;have pa:=(ih ok Z.2 nd.2).pa es pos rfl;have st:=YD as Z.2;have pe:PE X (.Call (.Name f p) es [] pos) (wp X.K G.ev (.call f as) E).e:=by
   cases es with|nil=>exact ZG (eY (pos:=pos) (p:=p) F hr P hm hk hb .nil hx g2) λA H Q q=>IW as Z.2 q|cons e1 es1=>have st:=yA st;refine ZG (x5 (pos:=pos) (p:=p) F hr P hm hk hb .nil hx pa g2 (ZA _ st.1) (HE st.2)) λA H Q q=>?_;show(wp X.K G.ev as E).a A H λvs W=>G.ev.sp f (vs++[]) W Q E;simp only[wG];exact q
  exact Snd.of pe (UD pe λ_=>rfl) (λ_ _ _ z=>by cases z) rfl
 |idx a b Y M=>intro X S E ok e h nd;obtain⟨v,i,pos,rfl,h⟩:=cO h;have Z:=yA h;have B:=yA Z.2;have pe:=Lf (pos:=pos) (yc ok.un) (Y ok B.1 nd.1).pe (M ok B.2 nd.2).pe (L4 Z.1);exact Snd.of pe (UD pe λ_=>rfl) (λ_ _ _ z=>by cases z) rfl|nop=>intro X S E ok e h nd;exact(QF h).elim|lst as ih=>intro X S E ok e h nd;obtain⟨es,pos,rfl,h⟩:=jL h;have pa:=(ih ok h nd).pa es pos rfl;exact⟨Ba pa,HK,λ_ _ _ z=>(by cases z),λ_ _ z=>kQ,λ_ _ z=>trivial⟩|tup as ih=>intro X S E ok e h nd;obtain⟨es,k,pos,rfl,h⟩:=Z5 h;exact Snd.lit (Xa ((ih ok h nd).pa es pos rfl)) rfl (λ_ _ _ z=>by cases z) rfl|dnew b=>intro X S E ok e h nd;obtain⟨ks,vs,pos,rfl,h⟩:=xQ h;have Z:=yA h;cases Qs.mp Z.1;cases Qs.mp Z.2;exact Snd.lit j5 rfl (λ_ _ _ z=>by cases z) rfl|dsp a b Y M =>
  intro X S E ok e h nd;obtain⟨ks,vs,pos,rfl,h⟩:=xQ h;obtain⟨k,rfl,h⟩:=ZB h;obtain⟨v,rfl,h⟩:=ZB h;have Z:=yA h;cases k with|none=>exact(QF Z.1).elim|some k=>exact Snd.lit (E4 ok.un (Y ok Z.1 nd.1).pe (M ok Z.2 nd.2).pe) rfl (λ_ _ _ z=>by cases z) rfl
 |dof a Y=>intro X S E ok e h nd;obtain⟨p1,es,ks,pos,rfl,P,h⟩:=rD h;have Z:=yA h;cases Qs.mp Z.1;obtain⟨y,rfl,L⟩:=ZB Z.2;have O:=yA L;exact Snd.lit (Da ok.calm (show X.env.scope.names.lookup _=some .globalImplicit by rw[ok.sc];exact(iC P).1) (ok.no _ nd.1) (Y ok O.2 nd.2).pe (ZA _ O.1)) rfl (λ_ _ _ z=>by cases z) rfl|lset a Y=>intro X S E ok e h nd;obtain⟨p1,p2,pos,pos2,y,rfl,P,hg',hy,h⟩:=aU h;refine Snd.lit (T4 ok.calm (show X.env.scope.names.lookup _=some .globalImplicit by rw[ok.sc];exact(iC P).1) (show X.env.scope.names.lookup _=some .globalImplicit by rw[ok.sc];exact(iC hg').1) (ok.no _ nd.1) (ok.no _ nd.2.1) (Y ok h nd.2.2).pe (ZA _ hy)) rfl (λ_ _ _ z=>by cases z) rfl|sset a Y=>intro X S E ok e h nd;obtain⟨p1,p2,pos,pos2,y,rfl,P,hg',hy,h⟩:=aU h;refine Snd.lit (R4 ok.calm (show X.env.scope.names.lookup _=some .globalImplicit by rw[ok.sc];exact(iC P).1) (show X.env.scope.names.lookup _=some .globalImplicit by rw[ok.sc];exact(iC hg').1) (ok.no _ nd.1) (ok.no _ nd.2.1) (Y ok h nd.2.2).pe (ZA _ hy)) rfl (λ_ _ _ z=>by cases z) rfl|nr=>intro X S E ok e h nd;obtain⟨es,pos,rfl,h⟩:=jL h;cases Qs.mp h;exact Snd.args ZY trivial rfl rfl|nq a as Y ih=>intro X S E ok e h nd;obtain⟨es,pos,rfl,h⟩:=jL h;obtain⟨e1,es1,rfl,h⟩:=iJ h;have Z:=yA h;have B:=yA Z.2;have sa:=(Y ok B.1 nd.1).pe;have ss:=ih ok B.2 nd.2;exact Snd.args (zO sa (ss.pa es1 pos rfl) (ZA _ Z.1)) ⟨sa,ss.pas es1 pos rfl⟩ rfl rfl|bi f as ih =>
  intro X S E ok e h nd;obtain⟨p,es,ks,pos,rfl,P,h⟩:=rD h;have Z:=yA h;cases Qs.mp Z.1;obtain⟨e1,es1,rfl,L⟩:=iJ Z.2;obtain⟨g1,g2,g3⟩:=iC P;have P:Gl X f.nm:=show X.env.scope.names.lookup f.nm=some .globalImplicit by rw[ok.sc];exact g1
  have pa:=(ih ok L nd.2).pa _ pos rfl;have st:=yA (YD as L);have pe:PE X (.Call (.Name f.nm p) (e1::es1) [] pos) (wp X.K G.ev (.bi f as) E).e:=by
   rcases yh ok.un ok.calm f with⟨id,hb,hc⟩| ⟨T,hb,hc⟩
   exact zQ (pos:=pos) (p:=p) hc P (ok.no _ nd.1) hb pa g3 g2 (ZA _ st.1) (HE st.2);exact yW (pos:=pos) (p:=p) hc P (ok.no _ nd.1) hb pa g3 g2 (ZA _ st.1) (HE st.2)
  exact Snd.of pe (UD pe λ_=>rfl) (λ_ _ _ z=>by cases z) rfl
 |isi a c Y ihc =>
  intro X S E ok e h nd;obtain⟨p,es,ks,pos,rfl,P,h⟩:=rD h;have Z:=yA h;cases Qs.mp Z.1;obtain⟨l,r,rfl,B⟩:=t8 Z.2;have L:=yA B;have O:=yA L.2;have h5:=yA O.2;obtain⟨g1,g2,g3⟩:=iC P;have P:Gl X "isinstance":=show X.env.scope.names.lookup ("isinstance":Str)=some .globalImplicit by rw[ok.sc];exact g1
  have pe:PE X (.Call (.Name "isinstance" p) [l,r] [] pos) (wp X.K G.ev (.isi a c) E).e :=
   zQ (pos:=pos) (p:=p) R0 P (ok.no _ nd.1) (by kernel_rfl) (zO (Y ok h5.1 nd.2.1).pe (zO (ihc ok h5.2 nd.2.2).pe ZY (ZA _ O.1)) (ZA _ L.1)) g3 g2 (ZA _ L.1) (HE (by rw[qr,O.1];rfl))
  exact Snd.of pe (UD pe λ_=>rfl) (λ_ _ _ z=>by cases z) rfl
 |mt m o as iho ih =>
  intro X S E ok e h nd;obtain⟨v,ap,es,pos,rfl,B,h⟩:=JU h;have h0:=yA h;have Z:=yA h0.2;have L:=yA Z.2;have O:=yA L.2;have po:=(iho ok O.1 nd.1).pe;have pa:=(ih ok O.2 nd.2).pa _ pos rfl;have st:=YD as O.2;obtain⟨id,pat,sl,ty,mr⟩:=cg (X:=X) ok.un m;have pe:PE X (.Call (.Attribute v m.nm ap) es [] pos) (wp X.K G.ev (.mt m o as) E).e:=by
   cases es with
   |nil =>
    refine ZG (Fa (apos:=ap) (cpos:=pos) pat sl ty mr po (IY Z.1) B) λA H Q q=>?_;have e:(λ(x:V) (W:Hp)=>kX X.K m.ty x W/\r6 X.K m x [] W Q)=λ(x:V) (W:Hp)=>kX X.K m.ty x W/\(wp X.K G.ev as E).a A W λvs H2=>r6 X.K m x vs H2 Q:=by funext x W;rw[propext (oR as h0.1 O.2)]
    show(wp X.K G.ev o E).e A H (λ(x:V) (W:Hp)=>kX X.K m.ty x W/\r6 X.K m x [] W Q);rw[e];exact q
   |cons e1 es1=>have s2:=yA st;refine Mf (apos:=ap) (cpos:=pos) pat sl ty mr po pa (IY Z.1) ?_ B (ZA _ s2.1) (HE s2.2);rw[sR st];have hl':(e1::es1).length<20:=of_decide_eq_true L.1;show(true&&true&&decide ((e1::es1).length+0+0<30))=true;rw[dT (Qq hl' (by decide:20<=30):(e1::es1).length+0+0<30)];rfl
  exact Snd.of pe (UD pe λ_=>rfl) (λ_ _ _ z=>by cases z) rfl
 |slc a lo hi Y ihl ihh =>
  intro X S E ok e h nd;obtain⟨v,sl,pos,rfl,h⟩:=cO h;obtain⟨l,u,st,p2,rfl,h⟩:=xW h;have Z:=yA h;have B:=yA Z.2;have L:=yA B.2;have part:∀(q:PX) (w:Option Expr),(∀{e:Expr},IB q S e=true->PE X e (wp X.K G.ev q E).e)->Tf w (isNop q) (λe=>!isNop q&&IB q S e)=true ->
    PO X w (λA H R=>(if isNop q=true then λ(R:Option Int->Hp->Prop)=>R none H else λR=>(wp X.K G.ev q E).e A H λl H2=>RK l H2 R) R):=by
   intro q w ihq hq;cases w with
   |none=>have e:isNop q=true:=hq;simp only[e,if_true];exact G4|some e' =>
    have q1:=yA hq;have e:isNop q=false:=(Q8 _).mp q1.1;simp only[e,qa,if_false];intro J s A H Q I w;refine D4 (ihq q1.2) J s A H Q I ?_;show(wp X.K G.ev q E).e A H (λ(x:V) (W:Hp)=>∃i,x=.int i/\Q (some i) W);have e2:(λ(x:V) (W:Hp)=>∃i,x=.int i/\Q (some i) W)=λ(x:V) (W:Hp)=>RK x W Q:=by funext x W;exact(JY x W Q).symm
    rw[e2];exact w
  cases Option.isNone_iff_eq_none.mp Z.1;exact Snd.lit (pY (pos:=pos) (p2:=p2) F9 (Y ok B.1 nd.1).pe (part lo l (λhc=>(ihl ok hc nd.2.1).pe) L.1) (part hi u (λhc=>(ihh ok hc nd.2.2).pe) L.2)) rfl (λ_ _ _ z=>by cases z) rfl
 |comp mask tgs tg d its cond elt ihi ihc ihe =>
  intro X S E ok e h nd;obtain⟨e,gens,scope,pos,rfl,h⟩:=lS h;obtain⟨⟨t,it,ifs,asy⟩,rfl,h⟩:=ZB h;have h0:=yA h;have hi:=yA h0.2;have Z:=yA hi.2;have B:=yA Z.2;have L:=yA B.2;have O:=yA L.2;have h5:=yA O.2;have ea:asy=0:=qi h0.1;cases ea;have C:CompSt X.N X.env.scope scope tgs mask:=by rw[ok.N,ok.sc];exact zR Z.1
  obtain⟨n1,n2,n3,n4⟩:=nd;have pi:PI X t it (aP λA H R=>(wp X.K G.ev its E).a A H λvs W=>aC X.K d vs W R):=bS ok O.1 n1 ((Q8 _).mp hi.1) λes p q=>ihi ok q n2;refine Snd.lit (k5 (pos:=pos) (g:=DE X.K tg) (tc:=if isNop cond=true then λ_ H Q=>Q true H else(wp X.K G.ev cond (λ_ _ _=>False)).t) (te:=(wp X.K G.ev elt (λ_ _ _=>False)).e) ok.calm pi C (λs H ex=>?_) (λx=>aS L.1 x)) rfl (λ_ _ _ z=>by cases z) rfl;have okc:=ok.comp scope tgs mask s H ex;refine⟨fU okc (λz=>(QF z).elim) C.nd B.1,?_,(ihe okc h5.2 n4).pe⟩;have hif:=h5.1;cases ifs with|nil=>have e:isNop cond=true:=hif;simp only[e,if_true];exact dU|cons c r=>have q1:=yA hif;have q2:=yA q1.2;cases Qs.mp q1.1;have e:isNop cond=false:=(Q8 _).mp q2.1;simp only[e,qa,if_false];exact cU (ihc okc q2.2 n3).pt
end
end L2.L3
namespace L2.L3
open PySem PySem.Spec PyProof.Rows
section
variable{s:Stmt}{f:Expr->List Stmt->List Stmt->Bool}
set_option genSizeOf false in
set_option genInjectivity false in
inductive PT where
 |nil|seq (s r:PT)
 |set (i:Nat) (e:PX)
 |expr (e:PX)|ret (e:PX)
 |ife (c:PX) (a b:PT)
 |for_ (tg:Tg) (ik:ItK) (its:PX) (body:PT)
 |own (i:Nat) (e:PX)|tset (is:List Nat) (e:PX)|six (o i e:PX)|sdf (i:Nat) (k:PX)|whl (c:PX) (body:PT)|frz (is:List Nat) (s:PT)
def HP(K:QC):V->V->V->Hp->(Hp->Prop)->Prop:=λo i v H Q=>match o,i with
 | .ref p,.int k=>∃h j,H p=some (.lst h)/\BQ h.length k=some j/\Q (OA H p (.lst (h.set j v)))|.ref p,.str z=>je K H p (.str z) v Q|.ref p,.ref b=>je K H p (.ref b) v Q|_,_=>False
def gf(i:Nat)(k:PX):PX:=.mt .setd (.var i) (.nq k (.nq (.dnew true) .nr))
def zm(J:It)(g:TG)(v:TS)(D:Ends)(σ:St)(k:Hp):Prop:=∃W:Nat->Nat->St->Hp->Prop,(∃m,W 0 m σ k)/\∀i m σ H,W i m σ H ->
 (J.stop i H/\D.nx σ H)∨(J.go i H/\∃N:St->Hp->Prop,(∀h y,N h y->∃u,u < m/\W (i+1) u h y)/\∀x y,J.yld i H x y->g x σ y λz w=>v { D with nx:=N,ct:=N,bk:=D.nx } z w)
def Pd(K:QC)(xs:List Item)(st:Hp->Prop)(h:Tg)(x:TS)(D:Ends)(σ:St)(H:Hp):Prop:=∀J,Yields J xs st->zm J (DE K h) x D σ H
noncomputable def tP(K:QC)(Γ:Ev)(E:XK):PT->TS
 | .nil=>λD h H=>D.nx h H|.seq s r=>λD h H=>tP K Γ E s { D with nx:=λh H=>tP K Γ E r D h H } h H|.set i e=>λD h H=>(wp K Γ e E).e h H λx y=>D.nx (h.set i (some x)) y|.own i e=>λD h H=>(wp K Γ e E).e h H λx y=>D.nx (h.set i (some x)) y|.expr e=>λD h H=>(wp K Γ e E).e h H λ_ y=>D.nx h y|.ret e=>λD h H=>(wp K Γ e E).e h H D.rt|.ife c a b=>λD h H=>(wp K Γ c E).t h H λk y=>if k=true then tP K Γ E a D h y else tP K Γ E b D h y|.for_ l q u z=>λD h H=>(wp K Γ u E).a h H λj y=>aC K q j y λg st w=>Pd K g st l (tP K Γ E z) D h w|.tset p e=>λD h H=>(wp K Γ e E).e h H λx y=>DE K (.tp p) x h y D.nx|.six o i e=>λD h H=>(wp K Γ e E).e h H λv y=>(wp K Γ o E).e h y λm w=>(wp K Γ i E).e h w λn Y=>HP K m n v Y λX=>D.nx h X|.sdf i k=>λD h H=>(wp K Γ (gf i k) E).e h H λ_ y=>D.nx h y|.whl c z=>aX (wp K Γ c E).t (tP K Γ E z)|.frz _ s=>tP K Γ E s
noncomputable def zF(G:Glob):PT->Prop
 | .nil=>True|.seq s r=>zF G s/\zF G r|.set _ e=>LA G e|.own _ e=>LA G e|.tset _ e=>LA G e|.six o i e=>LA G o/\LA G i/\LA G e|.sdf i k=>LA G (gf i k)|.whl c h=>LA G c/\zF G h|.frz _ s=>zF G s|.expr e=>LA G e|.ret e=>LA G e|.ife c a b=>LA G c/\zF G a/\zF G b|.for_ _ y x h=>Yg G y/\LA G x/\zF G h
def PF:Expr->Bool
 | .ListComp _ _ _ _ | .SetComp _ _ _ _ | .DictComp _ _ _ _ _=>false
 |_=>true
def MN(S:SC)(i:Nat)(x:Str):Bool:=S.N[i]?==some x&&(S.sc.names.lookup x==some .local||S.sc.names.lookup x==some .cell)
def HU:PT->Bool
 | .nil=>false|.seq _ _=>false|.frz _ s=>HU s|_=>true
def cQ(s:Stmt)(f:List Expr->Expr->Bool):Bool:=match s with | .Assign h v _=>f h v|_=>false
def Sa(s:Stmt)(f:Expr->Bool):Bool:=match s with | .Expr v _=>f v|_=>false
def f8(s:Stmt)(f:Option Expr->Bool):Bool:=match s with | .Return v _=>f v|_=>false
def g8(s:Stmt)(f:Expr->List Stmt->List Stmt->Bool):Bool:=match s with | .If t x y _=>f t x y|_=>false
def l8(s:Stmt)(f:Expr->Expr->List Stmt->List Stmt->Pos->Bool):Bool:=match s with | .For t it x y p=>f t it x y p|_=>false
def Sf(s:Stmt)(f:Expr->List Stmt->List Stmt->Bool):Bool:=match s with | .While t x y _=>f t x y|_=>false
def jg:Expr->Bool
 | .Tuple _ _ _=>false|.List _ _=>false|_=>true
theorem jK{f:List Expr->Expr->Bool}(h:cQ s f=true):∃ts v p,s=.Assign ts v p/\f ts v=true:=by
 cases s with|Assign ts v p=>exact⟨ts,v,p,rfl,h⟩|_=>exact(QF h).elim
theorem CY{f:Expr->Bool}(h:Sa s f=true):∃v p,s=.Expr v p/\f v=true:=by
 cases s with|Expr v p=>exact⟨v,p,rfl,h⟩|_=>exact(QF h).elim
theorem K5{f:Option Expr->Bool}(h:f8 s f=true):∃v p,s=.Return v p/\f v=true:=by
 cases s with|Return v p=>exact⟨v,p,rfl,h⟩|_=>exact(QF h).elim
theorem V5(h:g8 s f=true):∃t x y p,s=.If t x y p/\f t x y=true:=by
 cases s with|If t x y p=>exact⟨t,x,y,p,rfl,h⟩|_=>exact(QF h).elim
theorem X5{f:Expr->Expr->List Stmt->List Stmt->Pos->Bool}(h:l8 s f=true):∃t it x y p,s=.For t it x y p/\f t it x y p=true:=by
 cases s with|For t it x y p=>exact⟨t,it,x,y,p,rfl,h⟩|_=>exact(QF h).elim
theorem Oa(h:Sf s f=true):∃t x y p,s=.While t x y p/\f t x y=true:=by
 cases s with|While t x y p=>exact⟨t,x,y,p,rfl,h⟩|_=>exact(QF h).elim
def setB(S:SC)(i:Nat)(c:Expr->Bool)(l:List Stmt):Bool:=LJ l λst=>cQ st λh v=>LJ h λt=>pH t λx _=>MN S i x&&((PF v||S.sc.names.lookup x==some .cell)&&c v)
def Z8:PX->Bool
 | .comp _ _ _ _ _ _ _=>true|_=>false
noncomputable def RT(S:SC)(i:Nat)(e:PX)(l:List Stmt):Bool:=LJ l λst=>cQ st λy v=>LJ y λt=>pH t λx z=>Ra v λw u sc h=>Cb S i x&&(S.sc.kind==.function&&(z.line==h.line&&(!(sc.names.any λ(n,k)=>n==x&&(k==.local||k==.cell))&&(Z8 e&&IB e S (.ListComp w u sc h)))))
noncomputable def MO:PT->SC->List Stmt->Bool
 | .nil,_,l=>l.isEmpty|.seq s r,S,l=>B5 l λst l=>HU s&&(MO s S [st]&&MO r S l)|.set i e,S,l=>setB S i (IB e S) l||RT S i e l
 | .own i e,S,l=>setB S i (IB e S) l||RT S i e l
 | .frz _ s,S,l=>MO s S l|.expr e,S,l=>LJ l λst=>Sa st λv=>PF v&&IB e S v|.ret e,S,l=>LJ l λst=>f8 st λv=>Tf v false (IB e S)|.ife c a b,S,l=>LJ l λst=>g8 st λt x y=>IB c S t&&(MO a S x&&MO b S y)|.for_ tg ik its body,S,l=>LJ l λst=>l8 st λt it x y z=>y.isEmpty&&(Pi true S tg t&&(mQ it&&(Ti (cF its) S ik (λg p=>IB its S (.List g p)) t it z&&MO body S x)))|.tset is e,S,l=>LJ l λst=>cQ st λh v=>LJ h λt=>jg v&&(PF v&&(rL t&&(Pi true S (.tp is) t&&IB e S v)))|.six o i e,S,l=>LJ l λst=>cQ st λh v=>LJ h λt=>pU t λw u _=>oO u&&(PF v&&(IB e S v&&(IB o S w&&IB i S u)))|.sdf i k,S,l=>LJ l λst=>Sa st λv=>PF v&&IB (gf i k) S v|.whl c body,S,l=>LJ l λst=>Sf st λt x y=>y.isEmpty&&(IB c S t&&MO body S x)
structure OkS(X:Cx)(S:SC)(G:Glob)(E:XK):Prop extends OkX X S G E where
 po:PassesOwn (model X.prog X.w) X.A X.env X.xe
 nd:X.N.Nodup
 cel:∀x,X.fn x=true
end
section
variable{X:Cx}{S:SC}{G:Glob}{E:XK}
section
variable{i:Nat}{x:Str}{e:PX}
theorem zL{e:Expr}{t:Option Expr}{n:Nat}{env:Env}(h:PF e=true):swapsWith e t n env=pure false:=by cases e<;>first|rfl|cases h
theorem MX(n:X.A.units+66<cLine):B7 X (HP X.K):=by
 intro y s w H o i v l m u Q I f g a h;cases o with
 |ref p =>
  cases i with|int k=>obtain⟨r,j,Z,Y,q⟩:=h;exact RX y s w H _ _ v l m u Q I f g a ⟨p,r,k,j,rfl,rfl,Z,Y,q⟩|str z=>exact GP n y s w H _ _ v l m u Q I f g a h|ref b=>exact GP n y s w H _ _ v l m u Q I f g a h|_=>exact Qc h
 |_=>exact Qc h
theorem XV(ok:OkX X S G E)(h:MN S i x=true):X.N[i]?=some x/\fe X.env.scope x:=by simp only[MN,Qf,wU,beq_iff_eq]at h;rw[ok.N,ok.sc];exact⟨h.1,h.2⟩
theorem EV(ok:OkS X S G E){v:Expr}{w pos:Pos}(j:MN S i x=true)(a:(PF v||S.sc.names.lookup x==some .cell)=true)(pe:PE X v (wp X.K G.ev e E).e) :
  PS X (.Assign [.Name x w] v pos) (tP X.K G.ev E (.set i e)):=by
 obtain⟨m,l⟩:=XV ok.toOkX j;refine xa (pos':=w) ok.nd m l pe ?_ (.inl (ok.cel x));cases u:PF v with
 |true=>exact zL u|false =>
  rw[u,QAq,beq_iff_eq,<- ok.sc]at a;have hk:X.env.kindOf x=some .cell:=a;have h:∀(b c:Bool) (z y:Nat),(pure (b&&X.env.kindOf x==some .local&&z==y&&!c):Sem Bool)=pure false:=λb c z y=>by
   rw[hk];have:(b&&(some NameKind.cell==some NameKind.local)&&z==y&&!c)=false:=by cases b<;>rfl
   rw[this]
  cases v with|ListComp n f sc g=>exact h _ _ _ _|SetComp n f sc g=>exact h _ _ _ _|DictComp k v f sc g=>exact h _ _ _ _|_=>cases u
theorem F6(h:Z8 e=true):∃a b c d f g k,e=.comp a b c d f g k:=by
 cases e with|comp a b c d f g k=>exact⟨a,b,c,d,f,g,k,rfl⟩|_=>exact(QF h).elim
theorem ca(ok:OkS X S G E){l:List Stmt}(h:RT S i e l=true)(nd:LA G e):∃st,l=[st]/\PS X st (tP X.K G.ev E (.set i e)):=by
 obtain⟨st,e1,q1⟩:=ZB h;obtain⟨ts,v,p,e2,q2⟩:=jK q1;obtain⟨t,e3,q3⟩:=ZB q2;obtain⟨x,px,e4,q4⟩:=JE q3;obtain⟨el,gs,sc,cp,e5,q5⟩:=lS q4;subst e1 e2 e3 e4 e5;have L:=yA q5;have J:=yA L.2;have I:=yA J.2;have F:=yA I.2;have B:=yA F.2;obtain⟨u,a,tg,ik,o,y,j,rfl⟩:=F6 B.1;refine⟨_,rfl,?_⟩;have h6:=B.2;obtain⟨el',O,m,pos,ee,g⟩:=lS h6;cases ee;obtain⟨⟨t,it,Y,Z⟩,rfl,g⟩:=ZB g;have g0:=yA g;have M:=yA g0.2;have g1:=yA M.2;have g2:=yA g1.2;have g3:=yA g2.2;have R:=yA g3.2;have P:=yA R.2;have ea:Z=0:=qi g0.1;cases ea;have C:CompSt X.N X.env.scope sc a u:=by rw[ok.N,ok.sc];exact zR g1.1
 obtain⟨n1,n2,n3,n4⟩:=nd;obtain⟨l1,l2⟩:=e6 L.1;have b:X.env.scope.names.lookup x=some .local:=by rw[ok.sc];exact l2
 refine C4 (g:=DE X.K tg) (tc:=if isNop y=true then λ_ H Q=>Q true H else(wp X.K G.ev y (λ_ _ _=>False)).t) (te:=(wp X.K G.ev j (λ_ _ _=>False)).e) ok.calm ok.nd (by rw[ok.N];exact l1) b (bS ok.toOkX (pos:=cp) R.1 n1 ((Q8 _).mp M.1) λes p q=>snd o ok.toOkX q n2) C (λs H ex=>?_) (λx=>aS g3.1 x) ?_;have w:=ok.toOkX.comp sc a u s H ex;refine⟨fU w (λz=>(QF z).elim) C.nd g2.1,?_,(snd j w P.2 n4).pe⟩;have f:=P.1;cases Y with|nil=>have e:isNop y=true:=f;simp only[e,if_true];exact dU|cons c r=>have A:=yA f;have W:=yA A.2;cases Qs.mp A.1;have e:isNop y=false:=(Q8 _).mp W.1;simp only[e,qa,if_false];exact cU (snd y w W.2 n3).pt
 have k1:X.env.scope.kind=.function:=by rw[ok.sc];exact qi J.1
 have k2:(X.env.blockKind==.function)=true:=by simp[Env.blockKind,k1,ScopeKind.isAnnotationScope]
 have k3:(X.env.kindOf x==some .local)=true:=by show(X.env.scope.names.lookup x==some .local)=true;rw[b];rfl
 show(pure (X.env.blockKind==.function&&X.env.kindOf x==some .local&&px.line==cp.line&&!(sc.names.any λ(n,k)=>n==x&&(k==.local||k==.cell))):Sem Bool)=pure true;rw[k2,k3,I.1,F.1];rfl
theorem Fj:∀(p:PT) {l:List Stmt},OkS X S G E->MO p S l=true->zF G p->tT X l (tP X.K G.ev E p)/\(HU p=true->∀st,l=[st]->PS X st (tP X.K G.ev E p)):=by
 intro p;have one:∀{p:PT}{st:Stmt},PS X st (tP X.K G.ev E p)->tT X [st] (tP X.K G.ev E p)/\(HU p=true->∀j,[st]=[j]->PS X j (tP X.K G.ev E p)):=λh=>⟨U4 h,λ_ j e=>by cases e;exact h⟩
 have f:∀{i:Nat}{e:PX}{l:List Stmt},OkS X S G E->(setB S i (IB e S) l||RT S i e l)=true->LA G e->∃st,l=[st]/\PS X st (tP X.K G.ev E (.set i e)):=λ{i e l} ok h nd=>by
  rcases(wU _ _).mp h with h|h
  rotate_left
  exact ca ok h nd;obtain⟨st,B,n⟩:=ZB h;obtain⟨P,v,p,A,m⟩:=jK n;obtain⟨t,W,q3⟩:=ZB m;obtain⟨x,px,O,F⟩:=JE q3;subst B A W O;have z:=yA F;have u:=yA z.2;exact⟨_,rfl,EV ok z.1 u.1 (snd e ok.toOkX u.2 nd).pe⟩
 induction p with
 |nil=>intro l ok h nd;cases Qs.mp h;exact⟨B4,λh=>(QF h).elim⟩|seq s r J L=>intro l ok h nd;obtain⟨st,l,rfl,h⟩:=iJ h;have z:=yA h;have u:=yA z.2;exact⟨bY ((J ok u.1 nd.1).2 z.1 st rfl) (L ok u.2 nd.2).1,λh=>(QF h).elim⟩|set i e=>intro l ok h nd;obtain⟨st,rfl,q⟩:=f ok h nd;exact one q|own i e=>intro l ok h nd;obtain⟨st,rfl,q⟩:=f ok h nd;exact one q|expr e=>intro l ok h nd;obtain⟨st,rfl,h⟩:=ZB h;obtain⟨v,p,rfl,h⟩:=CY h;have z:=yA h;exact one (uU (snd e ok.toOkX z.2 nd).pe (zL z.1))|ret e =>
  intro l ok h nd;obtain⟨st,rfl,h⟩:=ZB h;obtain⟨v,p,rfl,h⟩:=K5 h;cases v with|none=>exact(QF h).elim|some v=>exact one (ua (snd e ok.toOkX h nd).pe)
 |ife c a b N M=>intro l ok h nd;obtain⟨st,rfl,h⟩:=ZB h;obtain⟨t,x,y,p,rfl,h⟩:=V5 h;have z:=yA h;have u:=yA z.2;exact one (Ff (snd c ok.toOkX z.1 nd.1).pt (N ok u.1 nd.2.1).1 (M ok u.2 nd.2.2).1)|for_ tg ik I C Y=>intro l ok h nd;obtain⟨st,rfl,h⟩:=ZB h;obtain⟨t,it,x,y,p,rfl,h⟩:=X5 h;have H:=yA h;have z:=yA H.2;have u:=yA z.2;have g:=yA u.2;cases Qs.mp H.1;exact one (ba ok.po ok.calm (O4 ok.toOkX g.1 nd.1 λes p q=>snd I ok.toOkX q nd.2.1) (fU ok.toOkX (λ_=>ok.cel) ok.nd z.1) (Y ok g.2 nd.2.2).1 λx=>aS u.1 x)|tset is e =>
  intro l ok h nd;obtain⟨st,B,n⟩:=ZB h;obtain⟨P,v,p,A,m⟩:=jK n;obtain⟨t,W,h⟩:=ZB m;subst B A W;have z:=yA h;have u:=yA z.2;have g:=yA u.2;have Z:=yA g.2;cases t with
  |Tuple es k pt =>
   refine one (dY (snd e ok.toOkX Z.2 nd).pe (fU ok.toOkX (λ_=>ok.cel) ok.nd Z.1) ?_ ?_ ?_);show swapsWith v (some (.Tuple es k pt)) p.line X.env=pure false;exact zL u.1;cases v<;>first|rfl|exact(QF z.1).elim
   rfl
  |_=>exact(QF g.1).elim
 |six o i e =>
  intro l ok h nd;obtain⟨st,B,n⟩:=ZB h;obtain⟨P,v,p,A,m⟩:=jK n;obtain⟨t,W,h⟩:=ZB m;subst B A W;obtain⟨ov,R,Q,O,F⟩:=cO h;subst O;have z:=yA F;have u:=yA z.2;have g:=yA u.2;have Z:=yA g.2;refine one (dY (snd e ok.toOkX g.1 nd.2.2).pe (Ka (pos:=Q) (snd o ok.toOkX Z.1 nd.1).pe (snd i ok.toOkX Z.2 nd.2.1).pe (MX ok.un) ?_) ?_ ?_ ?_);intro w;cases R<;>first|rfl|exact(QF z.1).elim
  show swapsWith v (some (.Subscript ov R Q)) p.line X.env=pure false;exact zL u.1;cases v<;>rfl;rfl
 |sdf i k=>intro l ok h nd;obtain⟨st,rfl,h⟩:=ZB h;obtain⟨v,p,rfl,h⟩:=CY h;have z:=yA h;exact one (uU (snd (gf i k) ok.toOkX z.2 nd).pe (zL z.1))|whl c C Y=>intro l ok h nd;obtain⟨st,rfl,h⟩:=ZB h;obtain⟨t,x,y,p,rfl,h⟩:=Oa h;have z:=yA h;have u:=yA z.2;cases Qs.mp z.1;exact one (cY ok.po (snd c ok.toOkX u.1 nd.1).pt (Y ok u.2 nd.2).1)|frz is s Y=>intro l ok h nd;exact Y ok h nd
end
end
noncomputable abbrev D:=PyData
set_option genInjectivity true in
inductive T where
 |d (x:D)|lst (ts:List T)|tup (ts:List T)|dct (b:Bool) (ks:List D) (ts:List T)
mutual
def T.er:T->D
 | .d x=>x|.lst h=>.list (ersT h)|.tup h=>.tuple (ersT h)|.dct _ y h=>.dict (y.zip (ersT h))
def ersT:List T->List D
 |[]=>[]|t::r=>t.er::ersT r
end
theorem FA(ds:List D):ersT (ds.map T.d)=ds:=by
 induction ds with|nil=>rfl|cons d r h=>simp only[QO,ersT,h,T.er]
theorem RZ:∀(ts:List T),(ersT ts).length=ts.length
 |[]=>rfl|t::r=>by simp only[ersT,QM,RZ r]
theorem CO:∀(ts:List T),ersT ts=ts.map T.er
 |[]=>rfl|t::r=>by simp only[ersT,QO,CO r]
def T.isD:T->Bool
 | .d _=>true|_=>false
set_option genInjectivity true in
inductive Sl where
 |own (t:T)|nv (t:T)
noncomputable abbrev kA:=List (Option Sl)
def JH(t:T)(n:Bool):Bool:=n||t.isD
def uA(t:T):Bool->T
 |true=>.d t.er|false=>t
theorem oA(x:D)(n:Bool):uA (.d x) n=.d x:=by cases n<;>rfl
theorem RU(t:T)(n:Bool):(uA t n).er=t.er:=by cases n<;>rfl
def bE:List T->Option (List D)
 |[]=>some []|.d x::r=>(bE r).map (x::·)|_::_=>none
theorem pA(ds:List D):bE (ds.map T.d)=some ds:=by
 induction ds with|nil=>rfl|cons d r h=>simp only[QO,bE,h,qD]
theorem rK:∀{ts:List T}{ds:List D},bE ts=some ds->ts=ds.map T.d
 |[],ds,h=>by simp only[bE,Qr]at h;subst h;rfl|.d x::r,ds,h=>by
  simp only[bE]at h;cases e:bE r with|none=>rw[e]at h;cases h|some y=>rw[e]at h;cases h;rw[QO,rK e]
 | .lst _::_,_,h=>by simp[bE]at h|.tup _::_,_,h=>by simp[bE]at h|.dct _ _ _::_,_,h=>by simp[bE]at h
def xD:List (D×D)->Option Bool
 | (.tuple _,_)::_=>some true|(.str _,_)::_=>some false|_=>none
def UE:Bool->D->Prop
 |true,k=>∃q,k=tD q|false,k=>∃z,k=.str z
open Classical in
def lA:List D->D->Option Nat
 |[],_=>none|x::r,k=>if x=k then some 0 else(lA r k).map (·+1)
def cM(b:Bool)(ks:List D)(ts:List T)(k:D)(t:T):T:=match lA ks k with
 |some n=>.dct b ks (ts.set n t)|none=>.dct b (ks++[k]) (ts++[t])
theorem MD:∀{ks:List D}{k:D}{n:Nat},lA ks k=some n->ks[n]?=some k
 |[],_,_,h=>by cases h|x::r,k,n,h=>by
  unfold lA at h;by_cases e:x=k;rw[if_pos e]at h;cases h;rw[e];rfl;rw[if_neg e]at h;cases q:lA r k with|none=>rw[q]at h;cases h|some m=>rw[q]at h;cases h;simpa using MD q
theorem cC:∀{ks:List D}{k:D},lA ks k=none↔k∉ks
 |[],_=>by simp[lA]|x::r,k=>by unfold lA;by_cases e:x=k;simp[e];rw[if_neg e,Option.map_eq_none_iff,cC];simp[Q6 e]
theorem KL{ks:List D}{k:D}:(lA ks k).isSome=true↔k∈ks:=by
 cases h:lA ks k with|none=>simp[cC.mp h]|some n=>simp[qB (MD h)]
set_option genInjectivity true in
inductive Vw where
 |sc (x:D)|ls (ts:List T)|tp (ts:List T)|dc (b:Bool) (ks:List D) (ts:List T)
def GB(kvs:List (D×D)):Vw:=match xD kvs with
 |some b=>.dc b (kvs.map (·.1)) (kvs.map λp=>T.d p.2)|none=>.sc (.dict kvs)
noncomputable def T.vw:T->Vw
 | .lst h=>.ls h|.tup h=>.tp h|.dct b u h=>.dc b u h|.d x=>match x with
  | .list z=>.ls (z.map T.d)|.tuple z=>.tp (z.map T.d)|.dict y=>GB y|.none=>.sc .none|.bool b=>.sc (.bool b)|.int i=>.sc (.int i)|.str s=>.sc (.str s)
def AF(ts:List T):T:=match bE ts with
 |some h=>.d (.tuple h)|none=>.tup ts
noncomputable abbrev XD:=Value×List (Str×D)
noncomputable abbrev XE:=XD->Prop
noncomputable abbrev TK:=T->Bool->kA->Prop
inductive Md where
 |ny|kr|nv|chg
 deriving DecidableEq
structure PSp where
 md:List Md
 run:List T->(T->List T->Prop)->XE->Prop
 mono:∀{ts:List T}{Q Q':T->List T->Prop}{E E':XE},(∀t os,Q t os->Q' t os)->(∀x,E x->E' x)->run ts Q E->run ts Q' E'
structure PEv where
 sp:Str->PSp
 va:Str->Option D
def binT(w:Operator)(x y:Vw)(Q:T->Bool->Prop):Prop:=match w with
 | .Add=>(∃i j,x=.sc (.int i)/\y=.sc (.int j)/\Q (.d (.int (i+j))) false)∨(∃a b,x=.sc (.str a)/\y=.sc (.str b)/\a.length+b.length<=sizeLine/\Q (.d (.str (a++b))) false) ∨
  (∃v u z h,x=.ls v/\y=.ls u/\bE v=some z/\bE u=some h/\z.length+h.length<=sizeLine/\Q (.lst ((z++h).map T.d)) true) ∨
  (∃v u z h,x=.tp v/\y=.tp u/\bE v=some z/\bE u=some h/\z≠[]/\h≠[]/\z.length+h.length<=sizeLine/\Q (.d (.tuple (z++h))) false)
 | .Sub=>∃i j,x=.sc (.int i)/\y=.sc (.int j)/\Q (.d (.int (i - j))) false|.Mult=>(∃i j,x=.sc (.int i)/\y=.sc (.int j)/\IntMulOk i j/\Q (.d (.int (i * j))) false)∨(∃a k,x=.sc (.str a)/\y=.sc (.int k)/\(-(2 ^ 31)<=k/\k<2 ^ 31/\a.length * k.toNat<=sizeLine)/\Q (.d (.str (NG a k))) false)|.FloorDiv=>∃i j,x=.sc (.int i)/\y=.sc (.int j)/\(0<j/\j<2 ^ 200)/\Q (.d (.int (i / j))) false|.Mod=>∃i j,x=.sc (.int i)/\y=.sc (.int j)/\0<j/\Q (.d (.int (i % j))) false|_=>False
section
variable{Q:T->Bool->Prop}
theorem vd(i j:Int):binT .Add (.sc (.int i)) (.sc (.int j)) Q=Q (.d (.int (i+j))) false:=by simp[binT]
theorem zd(xs h:List T):binT .Add (.ls xs) (.ls h) Q=∃ds es,bE xs=some ds/\bE h=some es/\ds.length+es.length<=sizeLine/\Q (.lst ((ds++es).map T.d)) true:=by simp[binT]
theorem yd(i j:Int):binT .Sub (.sc (.int i)) (.sc (.int j)) Q=Q (.d (.int (i - j))) false:=by simp[binT]
theorem jd(i j:Int):binT .Mult (.sc (.int i)) (.sc (.int j)) Q=(IntMulOk i j/\Q (.d (.int (i * j))) false):=by simp[binT]
theorem Ic(a:Str)(k:Int):binT .Mult (.sc (.str a)) (.sc (.int k)) Q=((-(2 ^ 31)<=k/\k<2 ^ 31/\a.length * k.toNat<=sizeLine)/\Q (.d (.str (NG a k))) false):=by simp[binT]
theorem Ec(i j:Int):binT .FloorDiv (.sc (.int i)) (.sc (.int j)) Q=((0<j/\j<2 ^ 200)/\Q (.d (.int (i / j))) false):=by simp[binT]
theorem Ac(i j:Int):binT .Mod (.sc (.int i)) (.sc (.int j)) Q=(0<j/\Q (.d (.int (i % j))) false):=by simp[binT]
end
section
variable{Q:T->Prop}
def jj:D->D->(Bool->Prop)->Prop
 | .int i,.int j,Q=>Q (decide (i=j))|.str x,.str y,Q=>Q (decide (x=y))|.bool x,.bool y,Q=>Q (decide (x=y))|a,b,Q=>JF a/\JF b/\Q (Q3 a b)
def SA:D->Bool
 | .none | .bool _ | .int _ | .str _=>true
 |_=>false
noncomputable def Ai:D->D->(Bool->Prop)->Prop
 | .str x,.str y,Q=>Q (inStr y x)|a,.list ds,Q|a,.tuple ds,Q=>((SA a=true/\ds.all SA=true)∨(JF a/\JF (.list ds)))/\Q (ds.any λy=>Q3 y a)
 |a,.dict kvs,Q=>∃b,xD kvs=some b/\UE b a/\Q (lA (kvs.map (·.1)) a).isSome|_,_,_=>False
def zW(f:Int->Int->Bool):D->D->(Bool->Prop)->Prop
 | .int i,.int j,Q=>Q (f i j)|_,_,_=>False
def Dl(a b:D)(Q:Bool->Prop):Prop:=∃x y,a=.bool x/\b=.bool y/\Q (decide (x=y))
noncomputable def NW:CmpOp->D->D->(Bool->Prop)->Prop
 | .Eq,a,b,Q=>jj a b Q|.NotEq,a,b,Q=>jj a b λk=>Q (!k)|.Lt,a,b,Q=>zW (λi j=>decide (i<j)) a b Q|.LtE,a,b,Q=>zW (λi j=>decide (i<=j)) a b Q|.Gt,a,b,Q=>zW (λi j=>decide (j<i)) a b Q|.GtE,a,b,Q=>zW (λi j=>decide (j<=i)) a b Q|.In,a,b,Q=>Ai a b Q|.NotIn,a,b,Q=>Ai a b λk=>Q (!k)|.Is,a,b,Q=>Dl a b Q|_,_,_,_=>False
def g7(h:CmpOp)(x:D)(y:T)(Q:Bool->Prop):Prop:=match y with
 | .dct b u _=>UE b x/\((h=.In/\Q (lA u x).isSome)∨(h=.NotIn/\Q (!(lA u x).isSome)))|.d y=>NW h x y Q|.lst z=>NW h x (.list (ersT z)) Q|.tup z=>NW h x (.tuple (ersT z)) Q
def CH:D->(Bool->Prop)->Prop
 | .bool b,Q=>Q b|.int i,Q=>Q (i != 0)|.none,Q=>Q false|.str z,Q=>z.length<=sizeLine/\Q ((z.length:Int) != 0)|.list ds,Q=>Q (!ds.isEmpty)|.tuple ds,Q=>Q (!ds.isEmpty)|_,_=>False
def Jd:D->(Bool->Prop)->Prop
 | .bool b,Q=>Q b|_,_=>False
def TQ(x:Vw)(k:D)(Q:T->Prop):Prop:=∃b y h n t,x=.dc b y h/\UE b k/\lA y k=some n/\h[n]?=some t/\Q t
def lM(x y:Vw)(Q:T->Prop):Prop:=(∃z i c,x=.sc (.str z)/\y=.sc (.int i)/\z.length<=sizeLine/\eE z.cps.toList i=some c/\Q (.d (.str ⟨#[c]⟩))) ∨
 (∃h i t,x=.ls h/\y=.sc (.int i)/\eE h i=some t/\Q t)∨(∃h i t,x=.tp h/\y=.sc (.int i)/\eE h i=some t/\Q t)
theorem bc(z:Str)(i:Int):lM (.sc (.str z)) (.sc (.int i)) Q=(z.length<=sizeLine/\∃c,eE z.cps.toList i=some c/\Q (.d (.str ⟨#[c]⟩))):=by simp[lM]
theorem BZ(ts:List T)(i:Int):lM (.ls ts) (.sc (.int i)) Q=∃t,eE ts i=some t/\Q t:=by simp[lM]
theorem uc(ts:List T)(i:Int):lM (.tp ts) (.sc (.int i)) Q=∃t,eE ts i=some t/\Q t:=by simp[lM]
def OD{α:Type}(xs:List α)(h x:Option Int):List α:=(xs.drop (HT.sIx xs.length 0 h)).take (HT.sIx xs.length xs.length x - HT.sIx xs.length 0 h)
def FJ(x:Vw)(u v:Option Int)(Q:T->Bool->Prop):Prop:=(∃z,x=.sc (.str z)/\z.length<=sizeLine/\Q (.d (.str (QCa z u v))) false)∨(∃y h,x=.ls y/\bE y=some h/\Q (.lst ((OD h u v).map T.d)) true) ∨
 (∃y h,x=.tp y/\bE y=some h/\¬ (HT.sIx h.length 0 u=0/\HT.sIx h.length h.length v=h.length)/\Q (.d (.tuple (OD h u v))) false)
end
section
variable{Q:T->Bool->Prop}{h x:Option Int}
theorem GX(ts:List T):FJ (.ls ts) h x Q=∃ds,bE ts=some ds/\Q (.lst ((OD ds h x).map T.d)) true:=by simp[FJ]
end
def NF:D->(Option Int->Prop)->Prop
 | .int i,Q=>Q (some i)|_,_=>False
noncomputable def isD(n:String):D->Option Bool
 | .none=>some false|.bool _=>some (n == "bool" || n == "int")
 | .int _=>some (n == "int")|.str _=>some (n == "str")|.list _=>some (n == "list")|.tuple _=>some (n == "tuple")|.dict _=>none
def jN(n:String):Bool:=n == "bool" || n == "int" || n == "str" || n == "list" || n == "tuple" || n == "ValueError"
def YB(l:List Str):D:=.list (l.map PyData.str)
def xX(f:Bi)(vs:List Vw)(Q:T->Bool->Prop):Prop:=match f with
 | .len=>(∃z,vs=[.sc (.str z)]/\z.length<=sizeLine/\Q (.d (.int z.length)) false)∨(∃h,vs=[.ls h]/\Q (.d (.int h.length)) false)∨(∃h,vs=[.tp h]/\Q (.d (.int h.length)) false)|.all=>∃h,∃bs:List Bool,vs=[.ls h]/\bE h=some (bs.map PyData.bool)/\Q (.d (.bool (bs.all id))) false|.any=>∃h,∃bs:List Bool,vs=[.ls h]/\bE h=some (bs.map PyData.bool)/\Q (.d (.bool (bs.any id))) false|.list=>∃h v,vs=[.ls h]/\bE h=some v/\Q (.lst (v.map T.d)) true|.sorted=>(∃h,∃u:List Str,vs=[.ls h]/\bE h=some (u.map PyData.str)/\u.length<64/\∀x:List Str,x.Perm u->sortedS x=true->Q (.lst ((x.map PyData.str).map T.d)) true) ∨
  (∃h,∃ls:List (List Str),vs=[.ls h]/\bE h=some (ls.map YB)/\ls.length<64/\∀y:List (List Str),y.Perm ls->Q (.lst ((y.map YB).map T.d)) true)
section
variable{Q:T->Bool->Prop}
theorem R8(ts:List T):xX .len [.ls ts] Q=Q (.d (.int ts.length)) false:=by simp[xX]
theorem vh(ts:List T):xX .len [.tp ts] Q=Q (.d (.int ts.length)) false:=by simp[xX]
theorem kh(ts:List T):xX .any [.ls ts] Q=∃bs:List Bool,bE ts=some (bs.map PyData.bool)/\Q (.d (.bool (bs.any id))) false:=by simp[xX]
theorem zh(ts:List T):xX .list [.ls ts] Q=∃ds,bE ts=some ds/\Q (.lst (ds.map T.d)) true:=by simp[xX]
end
def v7(x:Vw)(Q:T->Bool->Prop):Prop:=∃h,∃nd:List (Str×D),x=.ls h/\bE h=some (nd.map λp=>PyData.tuple [.str p.1,p.2])/\nd≠[]/\(nd.map λp=>p.1).Nodup/\Q (.dct false (nd.map λp=>.str p.1) ((nd.map λp=>p.2).map T.d)) true
def ZU(x:Vw)(Q:T->Bool->Prop):Prop:=∃z,∃y:List Str,x=.ls z/\bE z=some (y.map PyData.str)/\y.length<4000/\∀h:List Str,h.Nodup->(∀s,s∈h↔s∈y)->Q (.d (.int h.length)) false
def VP(x:Vw)(Q:T->Bool->Prop):Prop:=∃z,∃y:List Str,x=.ls z/\bE z=some (y.map PyData.str)/\y.length<64/\∀h:List Str,h.Nodup->(∀s,s∈h↔s∈y)->sortedS h=true->Q (.lst ((h.map PyData.str).map T.d)) true
def ke(m:Mt)(x:Vw)(vs:List Vw)(Q:T->Bool->Prop):Prop:=match m with
 | .join=>∃z y,∃h:List Str,x=.sc (.str z)/\vs=[.ls y]/\bE y=some (h.map PyData.str)/\(h.map (·.length)).sum+h.length * z.length<=16777216/\Q (.d (.str (QAK z h))) false|_=>False
theorem dg{Q:T->Bool->Prop}(z:Str)(ts:List T):ke .join (.sc (.str z)) [.ls ts] Q=∃h:List Str,bE ts=some (h.map PyData.str)/\(h.map (·.length)).sum+h.length * z.length<=16777216/\Q (.d (.str (QAK z h))) false:=by simp[ke]
def Vw.isS:Vw->Bool
 | .sc (.str _)=>true|_=>false
def isMut:Mt->Bool
 | .append=>true|.pop=>true|.setd=>true|.reverse=>true|.join=>false
def JS(m:Mt)(x:Vw):Bool:=x.isS&&!isMut m
def bL(m:Mt)(s:T)(us:List T)(N:T->T->Prop):Prop:=match m with
 | .append=>∃h t,s=.lst h/\us=[t]/\h.length<sizeLine/\N (.d .none) (.lst (h++[t]))|.pop=>∃h i k t,s=.lst h/\us=[.d (.int i)]/\BQ h.length i=some k/\h[k]?=some t/\N t (.lst (h.eraseIdx k))|.reverse=>∃x:List D,s=.lst (x.map T.d)/\us=[]/\N (.d .none) (.lst (x.reverse.map T.d))|_=>False
theorem Vb{N:T->T->Prop}(ts:List T)(t:T):bL .append (.lst ts) [t] N=(ts.length<sizeLine/\N (.d .none) (.lst (ts++[t]))):=by simp[bL]
theorem Kb{N:T->T->Prop}(ts:List T)(i:Int):bL .pop (.lst ts) [.d (.int i)] N=∃k t,BQ ts.length i=some k/\ts[k]?=some t/\N t (.lst (ts.eraseIdx k)):=by simp[bL]
def VZ:Mt->Bool
 | .append=>true|.pop=>true|.setd=>false|.reverse=>true|.join=>false
def YJ(m:Mt):T->Bool
 | .lst _=>VZ m|_=>false
def Vw.seq:Vw->Option (List T)
 | .ls h=>some h|.tp h=>some h|_=>none
def bC(k:ItK)(vs:List Vw)(R:List T->Prop):Prop:=match k with
 | .val=>(∃z,vs=[.sc (.str z)]/\R (z.cps.toList.map λc=>.d (.str ⟨#[c]⟩)))∨(∃h,vs=[.ls h]/\R h)∨(∃h,vs=[.tp h]/\R h)∨(∃u h,vs=[.dc true u h]/\R (u.map T.d))|.rng1=>∃j,vs=[.sc (.int j)]/\(-(2 ^ 62)<=j/\j<2 ^ 62)/\R ((qC j.toNat).map λ(i:Nat)=>.d (.int (i:Int)))|.zip2=>∃h v y w,vs=[.ls h,.ls v]/\bE h=some y/\bE v=some w/\R ((y.zip w).map λp=>.d (.tuple [p.1,p.2]))|.enum=>∃x h y,vs=[x]/\x.seq=some h/\bE h=some y/\R (y.zipIdx.map λp=>.d (.tuple [.int (p.2:Int),p.1]))|.itm=>(∃u h y,vs=[.dc true u h]/\bE h=some y/\R ((u.zip y).map λp=>.d (.tuple [p.1,p.2])))∨(vs=[.sc (.dict [])]/\R [])
section
variable{R:List T->Prop}
theorem mL(ts:List T):bC .val [.ls ts] R=R ts:=by simp[bC]
theorem iZ(j:Int):bC .rng1 [.sc (.int j)] R=((-(2 ^ 62)<=j/\j<2 ^ 62)/\R ((qC j.toNat).map λ(i:Nat)=>.d (.int (i:Int)))):=by simp[bC]
theorem GQ(x:Vw):bC .enum [x] R=∃ts ds,x.seq=some ts/\bE ts=some ds/\R (ds.zipIdx.map λp=>.d (.tuple [.int (p.2:Int),p.1])):=by apply propext;constructor;rintro⟨_,ts,ds,⟨⟩,h⟩;exact⟨ts,ds,h⟩;rintro⟨ts,ds,h⟩;exact⟨_,ts,ds,rfl,h⟩
theorem FQ(ks:List D)(ts:List T):bC .itm [.dc true ks ts] R=∃ds,bE ts=some ds/\R ((ks.zip ds).map λp=>.d (.tuple [p.1,p.2])):=by apply propext;constructor;rintro(⟨_,_,ds,⟨⟩,h⟩| ⟨⟨⟩,_⟩);exact⟨ds,h⟩;rintro⟨ds,h⟩;exact .inl ⟨_,_,ds,rfl,h⟩
theorem DQ(ks:List D)(ts:List T):bC .val [.dc true ks ts] R=R (ks.map T.d):=by simp[bC]
theorem aZ:bC .itm [.sc (.dict [])] R=R []:=by apply propext;constructor;rintro(⟨_,_,x,⟨⟩,h⟩| ⟨_,h⟩);exact h;exact λh=>.inr ⟨rfl,h⟩
end
section
variable{K:QC}{H w:Hp}{vs:List V}{ds:List D}
def VB:List Nat->List T->kA->Option kA
 |[],[],ρ=>some ρ|i::is,t::ts,ρ=>VB is ts (ρ.set i (some (.nv t)))|_,_,_=>none
def lI:Tg->T->kA->(kA->Prop)->Prop
 | .nm i,t,ρ,Q=>Q (ρ.set i (some (.nv t)))|.tp is,t,ρ,Q=>match t.vw with
  | .tp x=>∃h,VB is x ρ=some h/\Q h|_=>False
def Tg.ix:Tg->List Nat
 | .nm i=>[i]|.tp h=>h
def AX:PX->Option Nat
 | .var i=>some i|_=>none
def SG:Option Sl->Option Sl
 |some (.own t)=>some (.nv t)|s=>s
def lockA(ρ:kA):kA:=ρ.map SG
def lock:List Nat->kA->kA
 |[],ρ=>ρ|i::is,ρ=>lock is (ρ.modify i SG)
def CW:Option Sl->Option Sl
 |some (.own t)=>some (.nv (.d t.er))|s=>s
def frzAt:List Nat->kA->kA
 |[],ρ=>ρ|i::is,ρ=>frzAt is (ρ.modify i CW)
def aF:Option Sl->Option Sl
 |some (.nv t)=>if t.isD=true then some (.nv t) else none|s=>s
def kill:List Nat->kA->kA
 |[],ρ=>ρ|i::is,ρ=>kill is (ρ.modify i aF)
def clear:List Nat->kA->kA
 |[],ρ=>ρ|i::is,ρ=>clear is (ρ.set i none)
def xB:List Nat->kA->Option (List T)
 |[],_=>some []|i::is,ρ=>match ρ[i]? with
  |some (some (.own t))=>(xB is ρ).map (t::·)|_=>none
def rC:List Nat->List T->kA->Option kA
 |[],[],ρ=>some ρ|i::is,t::ts,ρ=>rC is ts (ρ.set i (some (.own t)))|_,_,_=>none
def vD:List Bool->kA->kA
 |b::m,v::ρ=>(if b then none else v)::vD m ρ|_,ρ=>ρ
def pM(k:Nat)(h:List Bool)(ρ:kA):kA:=Qz k none++vD h ρ
def sq{α:Type}(x:T)(ρ:kA)(b:kA->(α->kA->Prop)->Prop)(K:α->kA->Prop):Prop :=
 if x.isD=true then b ρ K else b (lockA ρ) λy _=>K y ρ
def cu(f:kA->TK->Prop):kA->(T×Bool->kA->Prop)->Prop:=λy K=>f y λx n h=>K (x,n) h
def XF:List (T×Bool)->List T
 |[]=>[]|p::r=>p.1::XF r
def oM:List (T×Bool)->List T
 |[]=>[]|p::r=>uA p.1 p.2::oM r
def yC:List (T×Bool)->List Vw
 |[]=>[]|p::r=>(uA p.1 p.2).vw::yC r
def fF:List (T×Bool)->Bool
 |[]=>true|p::r=>JH p.1 p.2&&fF r
def aR:List (T×Bool)->Bool
 |[]=>true|p::r=>JH p.1 p.2&&aR r
def tF(t:T):Option T:=match t.vw with
 | .ls h=>(bE h).map λds=>.lst (ds.map T.d)|_=>if t.isD=true then some t else none
noncomputable def CA:List Md->List (T×Bool)->List T->Option (List T)
 |_,[],[]=>some []|_,[],_::_=>none|md,(x,n)::xs,os=>match md.headD .ny with
  | .ny=>match uA x n with
   | .d d=>(CA md.tail xs os).map (.d d::·)|_=>none
  | .kr=>match tF (uA x n) with
   |some t=>(CA md.tail xs os).map (t::·)|none=>none
  | .nv=>(CA md.tail xs os).map (uA x n::·)|.chg=>match os with
   |o::os=>(CA md.tail xs os).map (o::·)|[]=>none
def NB:List Md->List T->List T
 |_,[]=>[]|md,t::ts=>match md.headD .ny with
  | .chg=>t::NB md.tail ts|_=>NB md.tail ts
def fA:List Md->PX->List Nat
 | .chg::md,.nq (.var j) as=>j::fA md as|_::md,.nq _ as=>fA md as|_,_=>[]
def Md.isMut:Md->Bool
 | .chg=>true|_=>false
structure D3 where
 e:kA->TK->Prop
 t:kA->(Bool->kA->Prop)->Prop
 a:List Md->kA->(List (T×Bool)->kA->Prop)->Prop
def FD:D3:=⟨λ_ _=>False,λ_ _=>False,λ_ _ _=>False⟩
def PD(body:T->(Option T->Prop)->Prop):List T->List T->(List T->Prop)->Prop
 |[],acc,Q=>acc.length<=sizeLine/\Q acc|x::xs,acc,Q=>body x fun
  |some y=>acc.length<sizeLine/\PD body xs (acc++[y]) Q|none=>PD body xs acc Q
def cG(v:Tg)(u:kA)(c:kA->(Bool->kA->Prop)->Prop)(e:kA->TK->Prop)(x:T)(R:Option T->Prop):Prop :=
 lI v x u λz=>c z λb h=>if b=true then e h λy n _=>JH y n=true/\R (some y) else R none
def vc:PX->D->(Bool->Prop)->Prop
 | .bty _ n,d,Q=>∃b,isD n d=some b/\jN n=true/\Q b|_,_,_=>False
def gb(x:T)(Q:T->Prop):Prop:=∃i,x=.d (.int i)/\Q (.d (.int (-i)))
def Ri:Option (Option Sl)->(T->Prop)->Prop
 |some (some (.own t)),Q=>Q t|some (some (.nv t)),Q=>Q t|some none,_=>False|none,_=>False
def ID:Option (Option Sl)->(T->Prop)->Prop
 |some (some (.own t)),Q=>Q t|some (some (.nv _)),_=>False|some none,_=>False|none,_=>False
def T7:Option Nat->(Nat->Prop)->Prop
 |none,_=>False|some j,Q=>Q j
def KZ:PX->Bool
 | .var _=>true|_=>false
def pe(Ψ:PEv):PX->XE->D3
 | .var i,_=>let e:kA->TK->Prop:=λv Q=>Ri v[i]? λt=>Q t false v
  ⟨e,λv Q=>e v λt _ h=>CH t.er λb=>Q b h,FD.a⟩
 | .int i,_=>⟨λv Q=>Q (.d (.int i)) false v,λv Q=>Q (i != 0) v,FD.a⟩|.str x,_=>⟨λv Q=>Q (.d (.str x)) false v,FD.t,FD.a⟩|.bl b,_=>⟨λv Q=>Q (.d (.bool b)) false v,λv Q=>Q b v,FD.a⟩|.non,_=>⟨λv Q=>Q (.d .none) false v,λv Q=>Q false v,FD.a⟩|.glo x,_=>let e:kA->TK->Prop:=λv Q=>match Ψ.va x with
   |some d=>Q (.d d) false v|none=>False
  ⟨e,λv Q=>e v λt _ h=>CH t.er λb=>Q b h,FD.a⟩
 | .bty _ _,_=>FD|.bin op a b,E=>let e:kA->TK->Prop:=λv Q=>(pe Ψ a E).e v λx n h=>sq (uA x n) h (cu (pe Ψ b E).e) λy g=>binT op (uA x n).vw (uA y.1 y.2).vw λz k=>Q z k g
  ⟨e,λv Q=>e v λt _ h=>CH t.er λb=>Q b h,FD.a⟩
 | .cmp op a b,E=>let t:kA->(Bool->kA->Prop)->Prop:=λv Q=>(pe Ψ a E).e v λx n h=>sq (uA x n) h (cu (pe Ψ b E).e) λy g=>g7 op x.er (uA y.1 y.2) λk=>Q k g
  ⟨λv Q=>t v λk h=>Q (.d (.bool k)) false h,t,FD.a⟩
 | .neg a,E=>⟨λv Q=>(pe Ψ a E).e v λx _ h=>gb x λt=>Q t false h,FD.t,FD.a⟩|.and a b,E=>⟨λv Q=>(pe Ψ a E).e v λx _ h=>Jd x.er λc=>if c=true then(pe Ψ b E).e h Q else Q (.d (.bool false)) false h,
   λv Q=>(pe Ψ a E).t v λc h=>if c=true then(pe Ψ b E).t h Q else Q false h,FD.a⟩
 | .or a b,E=>⟨λv Q=>(pe Ψ a E).e v λx _ h=>Jd x.er λc=>if c=true then Q (.d (.bool true)) false h else(pe Ψ b E).e h Q,
   λv Q=>(pe Ψ a E).t v λc h=>if c=true then Q true h else(pe Ψ b E).t h Q,FD.a⟩
 | .not a,E=>⟨λv Q=>(pe Ψ a E).e v λx _ h=>CH x.er λc=>Q (.d (.bool (!c))) false h,λv Q=>(pe Ψ a E).t v λc h=>Q (!c) h,FD.a⟩|.call f as,E=>let e:kA->TK->Prop:=λv Q=>∃W,xB (fA (Ψ.sp f).md as) v=some W/\(fA (Ψ.sp f).md as).Nodup/\(pe Ψ as E).a (Ψ.sp f).md (clear (fA (Ψ.sp f).md as) v) λp h=>∃Z,CA (Ψ.sp f).md p W=some Z/\(Ψ.sp f).run Z (λr X=>∃g,rC (fA (Ψ.sp f).md as) X h=some g/\Q r true g) E
  ⟨e,λv Q=>e v λt _ h=>CH t.er λb=>Q b h,FD.a⟩
 | .isi a c,E=>let t:kA->(Bool->kA->Prop)->Prop:=λv Q=>(pe Ψ a E).e v λx _ h=>vc c x.er λb=>Q b h
  ⟨λv Q=>t v λk h=>Q (.d (.bool k)) false h,t,FD.a⟩
 | .bi f as,E=>let e:kA->TK->Prop:=λv Q=>(pe Ψ as E).a [] v λp h=>xX f (yC p) λz k=>Q z k h
  ⟨e,λv Q=>e v λt _ h=>CH t.er λb=>Q b h,FD.a⟩
 | .mt m o as,E=>let e:kA->TK->Prop:=λv Q=>if isMut m=true then T7 (AX o) λj=>ID v[j]? λt=>YJ m t=true/\(pe Ψ as E).a [] (v.set j (some (.nv t))) λp g=>fF p=true/\g[j]?=some (some (.nv t))/\bL m t (XF p) λr B=>Q r true (g.set j (some (.own B))) else(pe Ψ o E).e v λx n h=>JS m (uA x n).vw=true/\sq (uA x n) h ((pe Ψ as E).a []) λp g=>ke m (uA x n).vw (yC p) λz k=>Q z k g
  ⟨e,λv Q=>e v λt _ h=>CH t.er λb=>Q b h,FD.a⟩
 | .idx a b,E=>let e:kA->TK->Prop:=λv Q=>(pe Ψ a E).e v λx n h=>sq (uA x n) h (cu (pe Ψ b E).e) λy g=>(lM (uA x n).vw (uA y.1 y.2).vw λz=>Q z false g)∨(TQ (uA x n).vw y.1.er λz=>Q z false g)
  ⟨e,λv Q=>e v λt _ h=>CH t.er λb=>Q b h,FD.a⟩
 | .slc a lo hi,E=>⟨λv Q=>(pe Ψ a E).e v λx n h =>
   sq (α:=Option Int) (uA x n) h (if isNop lo=true then λv (R:Option Int->kA->Prop)=>R none v else λv R=>(pe Ψ lo E).e v λl _ g=>NF l.er λo=>R o g) λl g =>
   sq (α:=Option Int) (uA x n) g (if isNop hi=true then λv (R:Option Int->kA->Prop)=>R none v else λv R=>(pe Ψ hi E).e v λu _ q=>NF u.er λo=>R o q) λu q=>FJ (uA x n).vw l u λz k=>Q z k q,FD.t,FD.a⟩
 | .nop,_=>FD|.lst as,E=>⟨λv Q=>(pe Ψ as E).a [] v λp h=>fF p=true/\p.length<=sizeLine/\Q (.lst (XF p)) true h,FD.t,FD.a⟩|.tup as,E=>⟨λv Q=>(pe Ψ as E).a [] v λp h=>fF p=true/\p.length<=sizeLine/\Q (AF (XF p)) true h,FD.t,FD.a⟩|.comp mask tgs tg ik its cond elt,E=>⟨λv Q=>(pe Ψ its E).a [] v λp h=>bC ik (yC p) λs =>
   PD (cG tg (pM tgs.length mask (lockA h)) (if isNop cond=true then λv R=>R true v else(pe Ψ cond (λ_=>False)).t) (pe Ψ elt (λ_=>False)).e) s [] λA=>Q (.lst A) true h,FD.t,FD.a⟩
 | .dnew b,_=>⟨λv Q=>Q (.dct b [] []) true v,FD.t,FD.a⟩|.dsp a b,E=>⟨λv Q=>(pe Ψ a E).e v λy m h=>JH y m=true/\(pe Ψ b E).e h λx n g=>JH x n=true/\UE true y.er/\Q (.dct true [y.er] [x]) true g,FD.t,FD.a⟩|.dof a,E=>⟨λv Q=>(pe Ψ a E).e v λx n h=>v7 (uA x n).vw λz k=>Q z k h,FD.t,FD.a⟩|.lset a,E=>⟨λv Q=>(pe Ψ a E).e v λx n h=>ZU (uA x n).vw λz k=>Q z k h,FD.t,FD.a⟩|.sset a,E=>⟨λv Q=>(pe Ψ a E).e v λx n h=>VP (uA x n).vw λz k=>Q z k h,FD.t,FD.a⟩|.nr,_=>⟨FD.e,FD.t,λ_ v Q=>Q [] v⟩|.nq a as,E=>⟨FD.e,FD.t,λY v Q=>if(Y.headD .ny).isMut=true then KZ a=true/\(pe Ψ as E).a Y.tail v λp h=>Q ((.d .none,true)::p) h
   else(pe Ψ a E).e v λx n h=>sq (α:=List (T×Bool)) (if n=true then .d .none else x) h ((pe Ψ as E).a Y.tail) λp g=>Q ((x,n)::p) g⟩
structure PEnds where
 nx:kA->Prop
 rt:T->kA->Prop
 bk:kA->Prop:=λ_=>False
 ct:kA->Prop:=λ_=>False
def LG:PX->List Nat
 | .var i=>[i]|.idx a _=>LG a|.and a b | .or a b=>LG a++LG b
 | .nq a h=>LG a++LG h|_=>[]
def cS:Option (Option Sl)->Bool
 |some (some (.own _))=>true|some (some (.nv _))=>false|some none=>false|none=>false
def UC(ρ:kA):List Nat->List Nat
 |[]=>[]|i::is=>if cS ρ[i]?=true then i::UC ρ is else UC ρ is
def NC:List Nat->kA->kA->kA
 |[],_,ρ=>ρ|i::L,ρ0,ρ=>NC L ρ0 (ρ.set i (ρ0[i]?.getD none))
def MR(J L:List Nat)(h:kA)(N:kA->Prop)(ρ:kA):Prop:=(∀i∈L,i∉J/\ρ[i]?=h[i]?.map SG)/\N (NC L h ρ)
def iH(body:PEnds->kA->Prop)(z:Tg)(Z:PEnds):List T->kA->Prop
 |[],ρ=>Z.nx ρ|x::xs,ρ=>lI z x ρ λy=>body { Z with nx:=λh=>iH body z Z xs h,ct:=λh=>iH body z Z xs h,bk:=Z.nx } y
def Sj(ρ:kA)(i:Nat)(R:T->kA->Prop):Option (Option Sl)->Prop
 |some (some (.own t))=>R t (ρ.set i none)|some (some (.nv t))=>t.isD=true/\R t ρ|some none=>False|none=>False
def GJ(Ψ:PEv)(E:XE)(y:T->kA->Prop):PX->kA->Prop
 | .var i,ρ=>Sj ρ i y ρ[i]?|e,ρ=>(pe Ψ e E).e ρ λx n h=>JH x n=true/\y x h
def yf:T->D->D->(T->Prop)->Prop
 | .lst ts,.int i,x,Q=>∃n,BQ ts.length i=some n/\Q (.lst (ts.set n (.d x)))|.dct b ks ts,k,x,Q=>UE b k/\ks.length<sizeLine/\Q (cM b ks ts k (.d x))|_,_,_,_=>False
def Gj:PX->Option (Nat×Option PX)
 | .var j=>some (j,none)|.idx (.var j) k=>some (j,some k)|_=>none
def L9(k:D)(t:T)(Q:T->Prop):Prop:=∃h x,t=.dct true h x/\UE true k/\h.length<sizeLine/\((∃n,lA h k=some n/\Q t)∨(lA h k=none/\Q (.dct true (h++[k]) (x++[.dct true [] []]))))
def Vc:T->Bool
 | .dct true _ _=>true|_=>false
def Ie(z:D)(t:T)(Q:T->(T->T)->Prop):Prop:=∃b x h n s,t=.dct b x h/\UE b z/\lA x z=some n/\h[n]?=some s/\Q s λy=>.dct b x (h.set n y)
noncomputable def vA(Ψ:PEv)(E:XE):PT->PEnds->kA->Prop
 | .nil,Z,u=>Z.nx u|.seq s r,Z,u=>vA Ψ E s { Z with nx:=λf=>vA Ψ E r Z f } u|.set i e,Z,u=>(pe Ψ e E).e u λx n h=>JH x n=true/\Z.nx (h.set i (some (.nv (.d x.er))))|.expr e,Z,u=>(pe Ψ e E).e u λ_ _ h=>Z.nx h|.ret e,Z,u=>GJ Ψ E Z.rt e u|.ife c a b,Z,u=>(pe Ψ c E).t u λk h=>if k=true then vA Ψ E a Z h else vA Ψ E b Z h|.for_ tg ik its body,Z,u=>(pe Ψ its E).a [] u λY h=>bC ik (yC Y) λg =>
   if aR Y=true then iH (vA Ψ E body) tg { Z with nx:=λv=>Z.nx (kill tg.ix v) } g h
   else iH (vA Ψ E body) tg { Z with nx:=λv=>MR tg.ix (UC h (LG its)) h Z.nx (kill tg.ix v) } g (lock (UC h (LG its)) h)
 | .own i e,Z,u=>(pe Ψ e E).e u λx n h=>JH x n=true/\Z.nx (h.set i (some (.own x)))|.tset is e,Z,u=>(pe Ψ e E).e u λx n h=>JH x n=true/\lI (.tp is) (.d x.er) h Z.nx|.six o i e,Z,u=>match Gj o with
  |none=>False|some (j,none)=>ID u[j]? λt=>(pe Ψ e E).e (u.set j (some (.nv t))) λx n h=>JH x n=true/\(pe Ψ i E).e h λy m v=>JH y m=true/\v[j]?=some (some (.nv t))/\yf t y.er x.er λX=>Z.nx (v.set j (some (.own X)))|some (j,some k)=>ID u[j]? λt=>(pe Ψ e E).e (u.set j (some (.nv t))) λx n h=>JH x n=true/\(pe Ψ k E).e h λz l v=>JH z l=true/\Ie z.er t λs put=>(pe Ψ i E).e v λy m p=>JH y m=true/\p[j]?=some (some (.nv t))/\yf s y.er x.er λA=>Z.nx (p.set j (some (.own (put A))))
 | .sdf j k,Z,u=>ID u[j]? λt=>Vc t=true/\(pe Ψ k E).e (u.set j (some (.nv t))) λy m h=>JH y m=true/\h[j]?=some (some (.nv t))/\L9 y.er t λX=>Z.nx (h.set j (some (.own X)))|.whl c body,Z,u=>∃W:Nat->kA->Prop,(∃m,W m u)/\∀m u,W m u->(pe Ψ c E).t u λb h=>if b=true then
   vA Ψ E body { Z with nx:=λf=>∃q,q < m/\W q f,ct:=λf=>∃q,q < m/\W q f,bk:=Z.nx } h else Z.nx h
 | .frz is s,Z,u=>vA Ψ E s Z (frzAt is u)
theorem _root_.L2.Same.rd{H w:Hp}(e:Same H w){a:Addr}{u:HO}(h:Rd H a u):Rd w a u:=by
 rcases h with h|⟨o,h⟩
 exact .inl (e _ _ h);exact .inr ⟨o,e _ _ h⟩
theorem _root_.L2.Same.tupl{a:Addr}{xs:List V}(e:Same H w)(h:mD K H a xs):mD K w a xs:=by rcases h with h|h;exact .inl (e.rd h);exact .inr h
theorem KI.mono(e:Same H w){b:Bool}{o:HO}{ks:List D}(h:KI K H b o ks vs):KI K w b o ks vs:=by
 cases b with|true=>obtain⟨f,x,a,k,v,u,z⟩:=h;exact⟨f,x,a,k,v,λp y=>e.tupl (u p y),z⟩|false=>exact h
theorem Rep.mono2(e:Same H w):(∀{v:V}{d:D},Rep K H v d->Rep K w v d)/\∀{vs:List V}{ds:List D},Reps K H vs ds->Reps K w vs ds :=
 Rep.both (P:=Rep K w) (R:=Reps K w) .non .bl .int .str (λh _ r=>.lst (e.seq h) r) (λh _ r=>.tup (e.tupl h) r) (λh q _ r=>.dct (e _ _ h) (q.mono e) r) .nil λ_ _ h r=>.cons h r
theorem Rep.mono(e:Same H w){v:V}{d:D}(h:Rep K H v d):Rep K w v d:=(Rep.mono2 e).1 h
theorem Reps.mono(e:Same H w)(h:Reps K H vs ds):Reps K w vs ds:=(Rep.mono2 e).2 h
theorem Reps.append{ws:List V}{es:List D}(h:Reps K H vs ds)(r:Reps K H ws es):Reps K H (vs++ws) (ds++es):=Reps.ind (R:=λvs ds=>Reps K H (vs++ws) (ds++es)) r (λh t=>.cons h t) h
theorem Reps.reverse(h:Reps K H vs ds):Reps K H vs.reverse ds.reverse:=Reps.ind (R:=λvs ds=>Reps K H vs.reverse ds.reverse) .nil (λr x=>by rw[Wu,Wu];exact x.append (.cons r .nil)) h
theorem Reps.drop{K:QC}{H:Hp}:∀{vs:List V}{ds:List D}(n:Nat),Reps K H vs ds->Reps K H (vs.drop n) (ds.drop n)
 |_,_,0,r=>r|_,_,_+1,.nil=>.nil|_,_,n+1,.cons _ t=>Reps.drop n t
theorem Reps.take{K:QC}{H:Hp}:∀{vs:List V}{ds:List D}(n:Nat),Reps K H vs ds->Reps K H (vs.take n) (ds.take n)
 |_,_,0,_=>.nil|_,_,_+1,.nil=>.nil|_,_,n+1,.cons h t=>.cons h (Reps.take n t)
theorem Reps.bools{K:QC}{H:Hp}:∀{vs:List V}{bs:List Bool},Reps K H vs (bs.map PyData.bool)->vs=bs.map V.bl
 |_,[],.nil=>rfl|_,b::bs,.cons h t=>by cases h;rw[QO,Reps.bools t]
theorem PB{p:Addr}{o:HO}(h:H p=none):Same H (OA H p o):=λb u q=>by rw[xA (VA q h)];exact q
end
mutual
inductive Tr(K:QC)(F H:Hp):Bool->V->T->(Addr->Prop)->Prop where
 |d {st:Bool}{v:V}{x:D}{S:nB}:Rep K F v x->(∀b,¬ S b)->Tr K F H st v (.d x) S
 |lst {st:Bool}{a:Addr}{vs:List V}{ts:List T}{S S':nB}:H a=some (.lst vs)->F a=none->Trs K F H st vs ts S'->¬ S' a->(∀b,S b↔b=a∨S' b)->Tr K F H st (.ref a) (.lst ts) S
 |tup {st:Bool}{a:Addr}{vs:List V}{ts:List T}{S S':nB}:H a=some (.tup vs)->F a=none->Trs K F H st vs ts S'->¬ S' a->(∀b,S b↔b=a∨S' b)->Tr K F H st (.ref a) (.tup ts) S
 |lstF {a:Addr}{vs:List V}{ds:List D}{S:nB}:XC K F a vs->Reps K F vs ds->(∀b,¬ S b)->Tr K F H false (.ref a) (.lst (ds.map T.d)) S
 |dct {st b:Bool}{a:Addr}{o:HO}{ks:List D}{vs:List V}{ts:List T}{S S':nB}:H a=some o->KI K F b o ks vs->F a=none->Trs K F H st vs ts S'->¬ S' a->(∀b,S b↔b=a∨S' b)->Tr K F H st (.ref a) (.dct b ks ts) S
inductive Trs(K:QC)(F H:Hp):Bool->List V->List T->(Addr->Prop)->Prop where
 |nil {st:Bool}{S:nB}:(∀b,¬ S b)->Trs K F H st [] [] S
 |cons {st:Bool}{v:V}{t:T}{vs:List V}{ts:List T}{S S1 S2:nB}:Tr K F H st v t S1->Trs K F H st vs ts S2->(∀b,S1 b->¬ S2 b)->(∀b,S b↔S1 b∨S2 b)->Trs K F H st (v::vs) (t::ts) S
end
section
variable{K:QC}{F H w c:Hp}
section
variable{R:Bool->List V->List T->(Addr->Prop)->Prop}{st b:Bool}{v:V}{t:T}{S:nB}{vs:List V}{ts:List T}{ds ks:List D}{i:Int}{kvs:List (D×D)}
theorem Tr.both{P:Bool->V->T->(Addr->Prop)->Prop}
    (d:∀{st:Bool}{v:V}{x:D}{S:nB},Rep K F v x->(∀b,¬ S b)->P st v (.d x) S)
    (lst:∀{st:Bool}{a:Addr}{vs:List V}{ts:List T}{S S':nB},H a=some (.lst vs)->F a=none->Trs K F H st vs ts S'->¬ S' a->(∀b,S b↔b=a∨S' b)->R st vs ts S'->P st (.ref a) (.lst ts) S)
    (tup:∀{st:Bool}{a:Addr}{vs:List V}{ts:List T}{S S':nB},H a=some (.tup vs)->F a=none->Trs K F H st vs ts S'->¬ S' a->(∀b,S b↔b=a∨S' b)->R st vs ts S'->P st (.ref a) (.tup ts) S)
    (y:∀{a:Addr}{vs:List V}{ds:List D}{S:nB},XC K F a vs->Reps K F vs ds->(∀b,¬ S b)->P false (.ref a) (.lst (ds.map T.d)) S)
    (dct:∀{st b:Bool}{a:Addr}{o:HO}{ks:List D}{vs:List V}{ts:List T}{S S':nB},H a=some o->KI K F b o ks vs->F a=none->Trs K F H st vs ts S'->¬ S' a->(∀b,S b↔b=a∨S' b)->R st vs ts S'->P st (.ref a) (.dct b ks ts) S)
    (u:∀{st:Bool}{S:nB},(∀b,¬ S b)->R st [] [] S)
    (z:∀{st:Bool}{v:V}{t:T}{vs:List V}{ts:List T}{S S1 k:nB},Tr K F H st v t S1->Trs K F H st vs ts k->(∀b,S1 b->¬ k b)->(∀b,S b↔S1 b∨k b)->P st v t S1->R st vs ts k->R st (v::vs) (t::ts) S) :
    (∀{st:Bool}{v:V}{t:T}{S:nB},Tr K F H st v t S->P st v t S)/\∀{st:Bool}{vs:List V}{ts:List T}{S:nB},Trs K F H st vs ts S->R st vs ts S :=
  ⟨λh=>Tr.rec (motive_1:=λst v t S _=>P st v t S) (motive_2:=λst vs ts S _=>R st vs ts S) @d @lst @tup @y @dct @u @z h,
   λh=>Trs.rec (motive_1:=λst v t S _=>P st v t S) (motive_2:=λst vs ts S _=>R st vs ts S) @d @lst @tup @y @dct @u @z h⟩
theorem Tr.mono2(e:Same F w):(∀{st:Bool}{v:V}{t:T}{S:nB},Tr K F H st v t S->(∀b,S b->c b=H b/\w b=none)->Tr K w c st v t S)/\∀{st:Bool}{vs:List V}{ts:List T}{S:nB},Trs K F H st vs ts S->(∀b,S b->c b=H b/\w b=none)->Trs K w c st vs ts S :=
 Tr.both (P:=λst v t S=>(∀b,S b->c b=H b/\w b=none)->Tr K w c st v t S) (R:=λst v t S=>(∀b,S b->c b=H b/\w b=none)->Trs K w c st v t S)
  (λr n _=>.d (r.mono e) n)
  (λ{_ a _ _ _ _} h _ _ n q x k=>.lst ((k a ((q a).mpr (.inl rfl))).1.trans h) (k a ((q a).mpr (.inl rfl))).2 (x λb hb=>k b ((q b).mpr (.inr hb))) n q)
  (λ{_ a _ _ _ _} h _ _ n q x k=>.tup ((k a ((q a).mpr (.inl rfl))).1.trans h) (k a ((q a).mpr (.inl rfl))).2 (x λb hb=>k b ((q b).mpr (.inr hb))) n q)
  (λh r n _=>.lstF (e.seq h) (r.mono e) n)
  (λ{_ _ a _ _ _ _ _ _} h u _ _ n q x k=>.dct ((k a ((q a).mpr (.inl rfl))).1.trans h) (u.mono e) (k a ((q a).mpr (.inl rfl))).2 (x λb hb=>k b ((q b).mpr (.inr hb))) n q)
  (λn _=>.nil n)
  (λ_ _ n q z y k=>.cons (z λb hb=>k b ((q b).mpr (.inl hb))) (y λb hb=>k b ((q b).mpr (.inr hb))) n q)
theorem Tr.mono(e:Same F w)(h:Tr K F H st v t S)(k:∀b,S b->c b=H b/\w b=none):Tr K w c st v t S:=(Tr.mono2 e).1 h k
theorem Trs.mono(e:Same F w)(h:Trs K F H st vs ts S)(k:∀b,S b->c b=H b/\w b=none):Trs K w c st vs ts S:=(Tr.mono2 e).2 h k
theorem Tr.weak2:(∀{st:Bool}{v:V}{t:T}{S:nB},Tr K F H st v t S->Tr K F H false v t S)/\∀{st:Bool}{vs:List V}{ts:List T}{S:nB},Trs K F H st vs ts S->Trs K F H false vs ts S :=
 Tr.both (P:=λ_ v t S=>Tr K F H false v t S) (R:=λ_ v t S=>Trs K F H false v t S) .d (λh f _ n q x=>.lst h f x n q) (λh f _ n q x=>.tup h f x n q) .lstF (λh u f _ n q x=>.dct h u f x n q) .nil λ_ _ n q z y=>.cons z y n q
theorem Tr.weak(h:Tr K F H st v t S):Tr K F H false v t S:=Tr.weak2.1 h
theorem Trs.weak(h:Trs K F H st vs ts S):Trs K F H false vs ts S:=Tr.weak2.2 h
theorem U1{C:nB}{a:Addr}{S':nB}(q:∀b,S b↔b=a∨S' b)(h:C a)(k:∀b,S' b->C b)(b:Addr)(hb:S b):C b:=((q b).mp hb).elim (λe=>e▸h) (k b)
theorem Tr.dom2:(∀{st:Bool}{v:V}{t:T}{S:nB},Tr K F H st v t S->∀b,S b->H b≠none/\F b=none)/\∀{st:Bool}{vs:List V}{ts:List T}{S:nB},Trs K F H st vs ts S->∀b,S b->H b≠none/\F b=none :=
 have y:∀{a:Addr}{o:HO},H a=some o->H a≠none:=λh z=>by rw[h]at z;cases z
 Tr.both (P:=λ_ _ _ S=>∀b,S b->H b≠none/\F b=none) (R:=λ_ _ _ S=>∀b,S b->H b≠none/\F b=none)
  (λ_ n b hb=>absurd hb (n b)) (λh f _ _ q x=>U1 q ⟨y h,f⟩ x) (λh f _ _ q x=>U1 q ⟨y h,f⟩ x) (λ_ _ n b hb=>absurd hb (n b)) (λh _ f _ _ q x=>U1 q ⟨y h,f⟩ x)
  (λn b hb=>absurd hb (n b)) λ_ _ _ q k u b hb=>((q b).mp hb).elim (k b) (u b)
theorem Tr.dom(h:Tr K F H st v t S):∀b,S b->H b≠none/\F b=none:=Tr.dom2.1 h
theorem Trs.dom(h:Trs K F H st vs ts S):∀b,S b->H b≠none/\F b=none:=Tr.dom2.2 h
theorem Tr.kept2(e:Same F w):(∀{st:Bool}{v:V}{t:T}{S:nB},Tr K F H st v t S->(∀b u,S b->H b=some u->w b=some u)->Rep K w v t.er)/\∀{st:Bool}{vs:List V}{ts:List T}{S:nB},Trs K F H st vs ts S->(∀b u,S b->H b=some u->w b=some u)->Reps K w vs (ersT ts) :=
 Tr.both (P:=λ_ v t S=>(∀b u,S b->H b=some u->w b=some u)->Rep K w v t.er) (R:=λ_ v t S=>(∀b u,S b->H b=some u->w b=some u)->Reps K w v (ersT t))
  (λr _ _=>r.mono e)
  (λ{_ a _ _ _ _} h _ _ _ q x k=>by unfold T.er;exact .lst (XC.of (k a _ ((q a).mpr (.inl rfl)) h)) (x λb u hb=>k b u ((q b).mpr (.inr hb))))
  (λ{_ a _ _ _ _} h _ _ _ q x k=>by unfold T.er;exact .tup (mD.of (k a _ ((q a).mpr (.inl rfl)) h)) (x λb u hb=>k b u ((q b).mpr (.inr hb))))
  (λh r _ _=>by unfold T.er;rw[FA];exact .lst (e.seq h) (r.mono e))
  (λ{_ _ a _ _ _ _ _ _} h f _ _ _ q x k=>by unfold T.er;exact .dct (k a _ ((q a).mpr (.inl rfl)) h) (f.mono e) (x λb u hb=>k b u ((q b).mpr (.inr hb))))
  (λ_ _=>.nil)
  (λ_ _ _ q z y k=>.cons (z λb u hb=>k b u ((q b).mpr (.inl hb))) (y λb u hb=>k b u ((q b).mpr (.inr hb))))
theorem Tr.kept(e:Same F w)(h:Tr K F H st v t S)(k:∀b u,S b->H b=some u->w b=some u):Rep K w v t.er:=(Tr.kept2 e).1 h k
theorem Tr.rep(f:Same F H)(h:Tr K F H st v t S):Rep K H v t.er:=h.kept f λ_ _ _ e=>e
theorem Trs.ind(z:∀{st:Bool}{S:nB},(∀b,¬ S b)->R st [] [] S)
  (x:∀{st:Bool}{v:V}{t:T}{vs:List V}{ts:List T}{S S1 y:nB},Tr K F H st v t S1->Trs K F H st vs ts y->(∀b,S1 b->¬ y b)->(∀b,S b↔S1 b∨y b)->R st vs ts y->R st (v::vs) (t::ts) S) (h:Trs K F H st vs ts S):R st vs ts S :=
 (Tr.both (P:=λ_ _ _ _=>True) (λ_ _=>trivial) (λ_ _ _ _ _ _=>trivial) (λ_ _ _ _ _ _=>trivial) (λ_ _ _=>trivial) (λ_ _ _ _ _ _ _=>trivial) z λh t n q _ r=>x h t n q r).2 h
theorem Trs.length(h:Trs K F H st vs ts S):vs.length=ts.length:=Trs.ind (R:=λ_ vs ts _=>vs.length=ts.length) (λ_=>rfl) (λ_ _ _ _ e=>congrArg Nat.succ e) h
theorem Trs.of_reps(h:Reps K F vs ds):Trs K F H st vs (ds.map T.d) (λ_=>False) :=
 Reps.ind (R:=λvs ds=>Trs K F H st vs (ds.map T.d) λ_=>False) (.nil λ_ z=>z) (λh t=>.cons (.d h λ_ z=>z) t (λ_ z=>z.elim) λb=>by simp) h
theorem Trs.un(h:Trs K F H st vs ts S)(e:bE ts=some ds):Reps K F vs ds/\∀b,¬ S b:=by
 have u:=rK e;clear e;revert ds;refine Trs.ind (R:=λ_ vs ts S=>∀{ds:List D},ts=ds.map T.d->Reps K F vs ds/\∀b,¬ S b) (λn ds e=>?_) (λh _ _ q x ds e=>?_) h;cases ds with|nil=>exact⟨.nil,n⟩|cons d r=>cases e
 cases ds with
 |nil=>cases e|cons d r =>
  injection e with e1 e2;obtain⟨z,y⟩:=x e2;subst e1;cases h with|d rep m=>exact⟨.cons rep z,λb hb=>((q b).mp hb).elim (m b) (y b)⟩
theorem Trs.get{i:Nat}(h:Trs K F H st vs ts S)(e:ts[i]?=some t):∃v S1,vs[i]?=some v/\Tr K F H st v t S1/\∀b,S1 b->S b:=by
 revert i;refine Trs.ind (R:=λst vs ts S=>∀{i:Nat},ts[i]?=some t->∃v S1,vs[i]?=some v/\Tr K F H st v t S1/\∀b,S1 b->S b) (λn i e=>by cases e) (λh _ n q x i e=>?_) h;cases i with|zero=>cases e;exact⟨_,_,rfl,h,λb hb=>(q b).mpr (.inl hb)⟩|succ i=>obtain⟨v,S1,u,z,y⟩:=x (i:=i) e;exact⟨v,S1,u,z,λb hb=>(q b).mpr (.inr (y b hb))⟩
theorem Trs.at(r:Trs K F H st vs ts S)(h:eE ts i=some t):∃v S1,eE vs i=some v/\Tr K F H st v t S1/\∀b,S1 b->S b:=by
 unfold eE at h ⊢;rw[r.length];cases e:BQ ts.length i with|none=>rw[e]at h;cases h|some j=>rw[e]at h;exact r.get h
theorem Trs.append{ws:List V}{us:List T}{S1 x:nB}(h:Trs K F H st vs ts S1)(r:Trs K F H st ws us x)(k:∀b,S1 b->¬ x b):Trs K F H st (vs++ws) (ts++us) (λb=>S1 b∨x b) :=
 Trs.ind (R:=λst vs ts S1=>Trs K F H st ws us x->(∀b,S1 b->¬ x b)->Trs K F H st (vs++ws) (ts++us) λb=>S1 b∨x b)
  (λ{_ S} n r _=>by have e:(λb=>S b∨x b)=x:=funext λb=>propext ⟨λz=>z.resolve_left (n b),.inr⟩;rw[e];exact r)
  (λh _ n q y r k=>.cons h (y r λb hb=>k b ((q b).mpr (.inr hb))) (λb hb z=>z.elim (n b hb) (k b ((q b).mpr (.inl hb)))) λb=>by rw[q b,or_assoc]) h r k
theorem Trs.one(h:Tr K F H st v t S):Trs K F H st [v] [t] S:=.cons h (.nil (S:=λ_=>False) λ_ z=>z) (λ_ _ z=>z) λb=>by simp
theorem zH(e:(T.d (.dict kvs)).vw=.ls ts):False:=by
 have e:GB kvs=.ls ts:=e;unfold GB at e;cases h:xD kvs with|none=>rw[h]at e;cases e|some b=>rw[h]at e;cases e
theorem gK(e:(T.d (.dict kvs)).vw=.tp ts):False:=by
 have e:GB kvs=.tp ts:=e;unfold GB at e;cases h:xD kvs with|none=>rw[h]at e;cases e|some b=>rw[h]at e;cases e
theorem Tr.ls(f:Same F H)(h:Tr K F H st v t S)(e:t.vw=.ls ts):∃a vs S',v=.ref a/\XC K H a vs/\Trs K F H false vs ts S'/\∀b,S' b->S b:=by
 cases h with
 |d r n =>
  cases r with|lst q r=>injection e with e;subst e;exact⟨_,_,_,rfl,f.seq q,Trs.of_reps r,λb hb=>hb.elim⟩|dct _ _ _=>exact(zH e).elim|_=>cases e
 |lst h _ r n q=>injection e with e;subst e;exact⟨_,_,_,rfl,XC.of h,r.weak,λb hb=>(q b).mpr (.inr hb)⟩|tup=>cases e|dct=>cases e|lstF h r n=>injection e with e;subst e;exact⟨_,_,_,rfl,f.seq h,Trs.of_reps r,λb hb=>hb.elim⟩
theorem Tr.tp(f:Same F H)(h:Tr K F H st v t S)(e:t.vw=.tp ts):∃a vs S',v=.ref a/\mD K H a vs/\Trs K F H false vs ts S'/\∀b,S' b->S b:=by
 cases h with
 |d r n =>
  cases r with|tup q r=>injection e with e;subst e;exact⟨_,_,_,rfl,f.tupl q,Trs.of_reps r,λb hb=>hb.elim⟩|dct _ _ _=>exact(gK e).elim|_=>cases e
 |tup h _ r n q=>injection e with e;subst e;exact⟨_,_,_,rfl,mD.of h,r.weak,λb hb=>(q b).mpr (.inr hb)⟩|lst=>cases e|lstF=>cases e|dct=>cases e
theorem BU{y:Bool}{o:HO}(h:KI K H y o ks vs)(e:xD (ks.zip ds)=some b):y=b:=by
 cases ks with
 |nil=>cases e|cons k ks =>
  cases ds with
  |nil=>cases e|cons d ds =>
   cases y with
   |true =>
    obtain⟨u,kvs,_,x,_⟩:=h;cases kvs with|nil=>cases x|cons p r=>rw[QO]at x;injection x with x _;subst x;injection e
   |false =>
    rcases h with⟨kvs,_,_,x,_⟩| ⟨_,_,x,_⟩
    rotate_left
    cases x;cases kvs with
    |nil=>cases x|cons p r =>
     rw[QO]at x;injection x with x _;subst x;obtain⟨k,v⟩:=p;cases k with|inl i=>cases e|inr z=>injection e
theorem Tr.dc(f:Same F H)(h:Tr K F H st v t S)(e:t.vw=.dc b ks ts):∃a o vs S',v=.ref a/\H a=some o/\KI K F b o ks vs/\Trs K F H false vs ts S'/\(∀b,S' b->S b)/\∀w c,Same F w->Same w c->(∀b,S b->c b=H b)->c a=some o:=by
 cases h with
 |d r n =>
  cases r with
  |@dct Y a o y m ds h q r =>
   have j:y.length=ds.length:=by rw[q.len,Reps.length r]
   have g:(y.zip ds).map (λx=>x.1)=y:=W9 (Wx j);have u:(y.zip ds).map (λx=>x.2)=ds:=QAA (Wx j.symm);have e:GB (y.zip ds)=.dc b ks ts:=e;unfold GB at e;cases z:xD (y.zip ds) with
   |none=>rw[z]at e;cases e|some X =>
    rw[z]at e;injection e with z1 z2 z3;subst z1;rw[g]at z2;subst z2;have p:ts=ds.map T.d:=by have l:=congrArg (List.map T.d) u;rw[Qb]at l;rw[<- z3,<- l];rfl
    subst p;cases BU q z;exact⟨_,_,_,_,rfl,f _ _ h,q,Trs.of_reps r,λb hb=>hb.elim,λw c g u _=>u _ _ (g _ _ h)⟩
  |_=>cases e
 |dct h q _ r n s=>injection e with z1 z2 z3;subst z1 z2 z3;exact⟨_,_,_,_,rfl,h,q,r.weak,λb hb=>(s b).mpr (.inr hb),λw c _ _ k=>(k _ ((s _).mpr (.inl rfl))).trans h⟩|lst=>cases e|tup=>cases e|lstF=>cases e
theorem Tr.sc{x:D}(h:Tr K F H st v t S)(e:t.vw=.sc x):t=.d x/\Rep K F v x:=by
 cases h with
 |@d _ _ y _ r n =>
  cases y with
  |list ds=>cases e|tuple ds=>cases e|dict ds =>
   have e:GB ds=.sc x:=e;unfold GB at e;cases z:xD ds with|none=>rw[z]at e;injection e with e;subst e;exact⟨rfl,r⟩|some b=>rw[z]at e;cases e
  |_=>injection e with e;subst e;exact⟨rfl,r⟩
 |tup=>cases e|lst=>cases e|lstF=>cases e|dct=>cases e
theorem Tr.int(h:Tr K F H st v t S)(e:t.vw=.sc (.int i)):v=.int i:=by obtain⟨_,r⟩:=h.sc e;cases r;rfl
theorem Tr.str{i:Str}(h:Tr K F H st v t S)(e:t.vw=.sc (.str i)):v=.str i:=by obtain⟨_,r⟩:=h.sc e;cases r;rfl
end
end
def Sl.t:Sl->T
 | .own t=>t|.nv t=>t
def Sl.st:Sl->Bool
 | .own _=>true|.nv _=>false
noncomputable abbrev Ft:=Nat->Addr->Prop
structure Rl(K:QC)(F H:Hp)(S:Ft)(ρ:kA)(σ:St):Prop where
 fh:Same F H
 len:ρ.length=σ.length
 sl:∀(i:Nat) s,ρ[i]?=some (some s)->∃v,σ[i]?=some (some v)/\Tr K F H s.st v s.t (S i)
 dj:∀(i j:Nat) t s,i≠j->ρ[i]?=some (some (.own t))->ρ[j]?=some (some s)->∀b,S i b->¬ S j b
def U(ρ:kA)(S:Ft)(b:Addr):Prop:=∃(i:Nat) (t:T),ρ[i]?=some (some (.own t))/\S i b
structure Stp(F H:Hp)(S:Ft)(ρ:kA)(F' H':Hp)(S':Ft)(ρ':kA):Prop where
 ff:Same F F'
 hh:∀b u,H b=some u->¬ U ρ S b->H' b=some u
 dm:∀b,H' b=none->H b=none
 fn:∀b,F b=none->F' b≠none->U ρ S b∨H b=none
 uu:∀b,U ρ' S' b->U ρ S b∨H b=none
 bo:∀(j:Nat) t,ρ'[j]?=some (some (.nv t))->t.isD=false->ρ[j]?=some (some (.nv t))/\S' j=S j
structure Ste(F H:Hp)(S:Ft)(ρ:kA)(F' H':Hp)(S':Ft)(ρ':kA):Prop extends Stp F H S ρ F' H' S' ρ' where
 ow:∀(j:Nat) t,ρ'[j]?=some (some (.own t))->∃t0,ρ[j]?=some (some (.own t0))
section
variable{K:QC}{F H X m A C:Hp}{S S1 B:Ft}{ρ l Y:kA}{σ:St}
section
variable{v:V}{t:T}{Z W:nB}{i:Nat}{s:Sl}{b p:Addr}{vs:List Nat}{g:Hp}{c:Ft}{y:kA}{n:Bool}
theorem Stp.refl:Stp F H S ρ F H S ρ:=⟨.refl _,λ_ _ h _=>h,λ_ h=>h,λb h z=>absurd h z,λ_ h=>.inl h,λ_ _ h _=>⟨h,rfl⟩⟩
theorem Ste.refl:Ste F H S ρ F H S ρ:=⟨Stp.refl,λ_ t h=>⟨t,h⟩⟩
theorem Stp.trans(a:Stp F H S ρ X m S1 l)(b:Stp X m S1 l A C B Y):Stp F H S ρ A C B Y where
 ff:=a.ff.trans b.ff
 hh:=λx u h n=>b.hh x u (a.hh x u h n) λz=>by rcases a.uu x z with q|q;exact n q;rw[q]at h;cases h
 dm:=λx h=>a.dm x (b.dm x h)
 fn:=λx h z=>by
  by_cases q:X x=none;rcases b.fn x q z with w|w
  ·exact a.uu x w
  exact .inr (a.dm x w);exact a.fn x h q
 uu:=λx h=>by rcases b.uu x h with w|w;exact a.uu x w;exact .inr (a.dm x w)
 bo:=λj t h n=>by obtain⟨o,f⟩:=b.bo j t h n;obtain⟨e,k⟩:=a.bo j t o n;exact⟨e,f.trans k⟩
theorem Ste.trans(a:Ste F H S ρ X m S1 l)(b:Ste X m S1 l A C B Y):Ste F H S ρ A C B Y:=⟨a.toStp.trans b.toStp,λj t h=>by obtain⟨x,z⟩:=b.ow j t h;exact a.ow j x z⟩
theorem Stp.keep(s:Stp F H S ρ X m S1 l){st:Bool}(h:Tr K F H st v t Z)(n:∀b,Z b->¬ U ρ S b):Tr K X m st v t Z :=
 h.mono s.ff λb hb=>by
  obtain⟨x,w⟩:=h.dom b hb;refine⟨?_,?_⟩;cases e:H b with|none=>exact absurd e x|some u=>exact s.hh b u e (n b hb)
  by_cases q:X b=none
  ·exact q
  rcases s.fn b w q with z|z
  ·exact absurd z (n b hb)
  exact absurd z x
theorem Rl.dom(I:Rl K F H S ρ σ)(h:ρ[i]?=some (some s))(hb:S i b):H b≠none/\F b=none:=by obtain⟨v,_,r⟩:=I.sl i s h;exact r.dom b hb
theorem Rl.isD(I:Rl K F H S ρ σ)(h:ρ[i]?=some (some s))(x:s.t.isD=true):¬ S i b:=by
 obtain⟨v,_,r⟩:=I.sl i s h;generalize s.t=t at r x;generalize s.st=st at r;cases r with|d r n=>exact n b|_=>cases x
structure Held(F H:Hp)(S:Ft)(ρ:kA)(Z:nB):Prop where
 dom:∀b,Z b->H b≠none/\F b=none
 nw:∀(i:Nat) s,ρ[i]?=some (some s)->∀b,Z b->¬ S i b
theorem Held.nu(h:Held F H S ρ Z):∀b,Z b->¬ U ρ S b:=λb hb ⟨i,t,z,x⟩=>h.nw i _ z b hb x
theorem Held.step(h:Held F H S ρ Z)(s:Stp F H S ρ X m S1 l)(j:Rl K X m S1 l σ):Held X m S1 l Z where
 dom:=λb hb=>by
  obtain⟨u,k⟩:=h.dom b hb;refine⟨λz=>u (s.dm b z),?_⟩;by_cases q:X b=none;exact q;rcases s.fn b k q with z|z
  ·exact absurd z (h.nu b hb)
  exact absurd z u
 nw:=λi w e b hb z=>by
  cases w with
  |own t=>rcases s.uu b ⟨i,t,e,z⟩ with q|q;exact h.nu b hb q;exact(h.dom b hb).1 q
  |nv t =>
   cases x:t.isD with|true=>exact j.isD e x z|false=>obtain⟨f,a⟩:=s.bo i t e x;rw[a]at z;exact h.nw i _ f b hb z
theorem Held.none:Held F H S ρ λ_=>False:=⟨λ_ z=>z.elim,λ_ _ _ _ z=>z.elim⟩
def vI(F H:Hp)(W:nB):Hp:=open Classical in λb=>if W b then H b else F b
theorem kI(h:W b):vI F H W b=H b:=if_pos h
theorem JC(h:¬ W b):vI F H W b=F b:=if_neg h
theorem BG(h:∀b,W b->F b=none):Same F (vI F H W):=λb u e=>by rw[JC λz=>by rw[h b z]at e;cases e];exact e
theorem T6(f:Same F H):Same (vI F H W) H:=λb u e=>by by_cases hb:W b;rw[kI hb]at e;exact e;rw[JC hb]at e;exact f b u e
theorem Rl.frz(I:Rl K F H S ρ σ){W:nB}(h:Held F H S ρ W):Rl K (vI F H W) H S ρ σ where
 fh:=T6 I.fh
 len:=I.len
 sl:=λi s e=>by obtain⟨v,u,x⟩:=I.sl i s e;refine⟨v,u,x.mono (BG λb hb=>(h.dom b hb).2) λb hb=>⟨rfl,?_⟩⟩;rw[JC λz=>h.nw i s e b z hb];exact(x.dom b hb).2
 dj:=I.dj
theorem Stp.frz(s:Stp F H S ρ X m S1 l){W:nB}(x:∀b,W b->X b=none)(u:∀b,W b->H b=none∨U ρ S b):Stp F H S ρ (vI X m W) m S1 l :=
 ⟨s.ff.trans (BG x),s.hh,s.dm,λb h z=>by by_cases q:W b;exact(u b q).symm;rw[JC q]at z;exact s.fn b h z,s.uu,s.bo⟩
theorem Ste.frz(s:Ste F H S ρ X m S1 l){W:nB}(h:∀b,W b->X b=none)(x:∀b,W b->H b=none∨U ρ S b):Ste F H S ρ (vI X m W) m S1 l:=⟨s.toStp.frz h x,s.ow⟩
theorem Stp.new(s:Stp F H S ρ X m S1 l){p:Addr}(h:m p=none)(o:HO):Stp F H S ρ X (OA m p o) S1 l :=
 ⟨s.ff,λb u e n=>PB h b u (s.hh b u e n),λb e=>by by_cases hb:b=p;rw[hb,DA]at e;cases e;rw[xA hb]at e;exact s.dm b e,s.fn,s.uu,s.bo⟩
theorem Ste.new(s:Ste F H S ρ X m S1 l){p:Addr}(h:m p=none)(o:HO):Ste F H S ρ X (OA m p o) S1 l:=⟨s.toStp.new h o,s.ow⟩
theorem Rl.same(I:Rl K F H S ρ σ)(h:Same H m):Rl K F m S ρ σ where
 fh:=I.fh.trans h
 len:=I.len
 sl:=λi s e=>by
  obtain⟨v,z,x⟩:=I.sl i s e;refine⟨v,z,x.mono (.refl _) λb hb=>⟨?_,(x.dom b hb).2⟩⟩;cases e:H b with|none=>exact absurd e (x.dom b hb).1|some u=>exact h b u e
 dj:=I.dj
theorem Rl.new(I:Rl K F H S ρ σ){p:Addr}(h:H p=none)(o:HO):Rl K F (OA H p o) S ρ σ:=I.same (PB h)
theorem Stp.newT(s:Stp F H S ρ X m S1 l)(h:m p=none)(u:X p=none)(o:HO):Stp F H S ρ (OA X p o) (OA m p o) S1 l :=
 let x:=s.new h o
 ⟨s.ff.trans (PB u),x.hh,x.dm,λb e z=>by by_cases hb:b=p;rw[hb];exact .inr (s.dm p h);rw[xA hb]at z;exact s.fn b e z,s.uu,s.bo⟩
theorem Ste.newT(s:Ste F H S ρ X m S1 l)(h:m p=none)(x:X p=none)(o:HO):Ste F H S ρ (OA X p o) (OA m p o) S1 l:=⟨s.toStp.newT h x o,s.ow⟩
theorem Rl.newT(I:Rl K F H S ρ σ)(h:H p=none)(o:HO):Rl K (OA F p o) (OA H p o) S ρ σ where
 fh:=λb u e=>by by_cases hb:b=p;rw[hb,DA]at e ⊢;exact e;rw[xA hb]at e ⊢;exact I.fh b u e
 len:=I.len
 sl:=λi s e=>by obtain⟨v,k,x⟩:=I.sl i s e;refine⟨v,k,x.mono (PB (I.fh.free h)) λb hb=>?_⟩;have w:b≠p:=λz=>(x.dom b hb).1 (by rw[z];exact h);rw[xA w,xA w];exact⟨rfl,(x.dom b hb).2⟩
 dj:=I.dj
theorem aW(ρ:kA)(i:Nat):(lockA ρ)[i]?=ρ[i]?.map SG:=by unfold lockA;rw[Qa]
theorem XB{ρ:kA}(h:(lockA ρ)[i]?=some (some s)):∃x,ρ[i]?=some (some x)/\s=.nv x.t:=by
 rw[aW]at h;cases e:ρ[i]? with
 |none=>rw[e]at h;cases h|some o =>
  rw[e]at h;cases o with
  |none=>cases h|some x =>
   cases x with|own t=>injection h with h;injection h with h;subst h;exact⟨_,rfl,rfl⟩|nv t=>injection h with h;injection h with h;subst h;exact⟨_,rfl,rfl⟩
theorem pD(b:Addr):¬ U (lockA ρ) S b:=λ⟨i,t,h,_⟩=>by obtain⟨x,_,e⟩:=XB h;cases e
theorem Rl.lockA(I:Rl K F H S ρ σ):Rl K F H S (lockA ρ) σ where
 fh:=I.fh
 len:=by unfold L3.lockA;rw[QG];exact I.len
 sl:=λi s e=>by obtain⟨x,h,rfl⟩:=XB e;obtain⟨v,u,z⟩:=I.sl i x h;exact⟨v,u,z.weak⟩
 dj:=λi j t s _ h=>by obtain⟨x,_,e⟩:=XB h;cases e
theorem Stp.unlockA(s:Stp F H S (L3.lockA ρ) X m S1 l):Stp F H S ρ X m S ρ :=
 ⟨s.ff,λb u e _=>s.hh b u e (pD b),s.dm,λb h z=>(s.fn b h z).elim (λq=>absurd q (pD b)) .inr,λ_ h=>.inl h,λ_ _ h _=>⟨h,rfl⟩⟩
theorem Rl.unlockA(I:Rl K F H S ρ σ)(s:Stp F H S (L3.lockA ρ) X m S1 l)(f:Same X m):Rl K X m S ρ σ where
 fh:=f
 len:=I.len
 sl:=λi sl e=>by obtain⟨v,x,h⟩:=I.sl i sl e;exact⟨v,x,s.keep h λb _=>pD b⟩
 dj:=I.dj
structure VR(K:QC)(vs:List Nat)(g:Hp)(c:Ft)(y:kA)(F H:Hp)(S:Ft)(ρ:kA)(v:V)(t:T)(n:Bool)(Z:nB):Prop where
 tr:Tr K F H n v t Z
 fr:n=true->∀b,Z b->g b=none∨U y c b
 tm:n=false->∀b,Z b->∃(i:Nat) (s:Sl),i∈vs/\ρ[i]?=some (some s)/\S i b
 nw:n=true->∀(i:Nat) s,ρ[i]?=some (some s)->∀b,Z b->¬ S i b
theorem VR.d{vs:List Nat}{g:Hp}{c:Ft}{y:kA}{v:V}{x:D}(n:Bool)(r:Rep K F v x):VR K vs g c y F H S ρ v (.d x) n (λ_=>False) :=
 ⟨.d r λ_ z=>z,λ_ _ z=>z.elim,λ_ _ z=>z.elim,λ_ _ _ _ _ z=>z.elim⟩
theorem VR.held(h:VR K vs g c y F H S ρ v t true Z):Held F H S ρ Z:=⟨λb hb=>h.tr.dom b hb,h.nw rfl⟩
theorem VR.vars{ws:List Nat}(h:VR K vs g c y F H S ρ v t n Z)(k:∀i∈vs,i∈ws):VR K ws g c y F H S ρ v t n Z :=
 ⟨h.tr,h.fr,λe b hb=>let⟨i,s,z,x⟩:=h.tm e b hb;⟨i,s,k i z,x⟩,h.nw⟩
theorem VR.from(s:Stp F H S ρ X m S1 l)(h:VR K vs m S1 l A C B Y v t n Z):VR K vs H S ρ A C B Y v t n Z :=
 ⟨h.tr,λe b hb=>by rcases h.fr e b hb with q|q;exact .inl (s.dm b q);exact(s.uu b q).symm,h.tm,h.nw⟩
theorem VR.frz{vs:List Nat}{v:V}{t:T}{n:Bool}{Z:nB}(s:Ste F H S ρ X m S1 l)(I:Rl K X m S1 l σ)(h:VR K vs H S ρ X m S1 l v t n Z) :
  ∃A o,Ste F H S ρ A m S1 l/\Rl K A m S1 l σ/\Tr K A m false v (uA t n) o/\(JH t n=true->Rep K A v t.er)/\(∀b,o b->∃(i:Nat) (s:Sl),i∈vs/\l[i]?=some (some s)/\S1 i b) /\
   ∀st a t' k,Tr K X m st a t' k->(∀b,k b->∃(i:Nat) (s:Sl),l[i]?=some (some s)/\S1 i b)->Tr K A m st a t' k:=by
 cases n with
 |true =>
  have w:=h.held;have j:=BG (H:=m) λb hb=>(w.dom b hb).2;have f:=h.tr.kept j λb u hb e=>by rw[kI hb];exact e
  refine⟨vI X m Z,λ_=>False,s.frz (λb hb=>(w.dom b hb).2) (h.fr rfl),I.frz w,.d f λ_ z=>z,λ_=>f,λb z=>z.elim,λst a t' k r G=>r.mono j λb hb=>⟨rfl,?_⟩⟩;obtain⟨i,E,L,J⟩:=G b hb;rw[JC λz=>w.nw i E L b z J];exact(r.dom b hb).2
 |false =>
  refine⟨X,Z,s,I,h.tr,?_,h.tm rfl,λ_ _ _ _ r _=>r⟩;intro e;have q:=h.tr;cases t with
  |d x=>cases q with|d r n=>exact r
  |_=>cases e
end
end
noncomputable abbrev fB(K:QC)(vs:List Nat)(F H:Hp)(S:Ft)(ρ:kA)(σ:St)(Q:TK)(R:VK):Prop :=
 ∀v z x y h t n Z,Ste F H S ρ z x y h->Rl K z x y h σ->VR K vs H S ρ z x y h v t n Z->Q t n h->R v x
noncomputable abbrev jH(K:QC)(F H:Hp)(S:Ft)(ρ:kA)(σ:St)(Q:Bool->kA->Prop)(R:Bool->Hp->Prop):Prop :=
 ∀b z x y h,Ste F H S ρ z x y h->Rl K z x y h σ->Q b h->R b x
section
variable{K:QC}{ws:List Nat}{F H N L:Hp}{S S1:Ft}{ρ M:kA}{σ:St}{v w:V}{a b:T}{O Zb:nB}{Q:TK}{R:VK}{sa sb:Bool}
section
variable{J G:Hp}{C:Ft}{A:kA}{p:Addr}{vs xs:List V}{ts:List T}{ds ks:List D}{x y:D}{X:Bool->Prop}{o:HO}{B:CmpOp}{E:Bool->Hp->Prop}{n:String}{k:Bool}{Y:nB}
theorem fB.from(k:fB K ws F H S ρ σ Q R)(s:Ste F H S ρ J G C A):fB K ws J G C A σ Q R:=λv g f u h t n Z z e r q=>k v g f u h t n Z (s.trans z) e (r.from s.toStp) q
theorem jH.from{Q:Bool->kA->Prop}{R:Bool->Hp->Prop}(k:jH K F H S ρ σ Q R)(s:Ste F H S ρ J G C A):jH K J G C A σ Q R:=λb g f u h z e q=>k b g f u h (s.trans z) e q
theorem fB.vars{us:List Nat}(k:fB K ws F H S ρ σ Q R)(h:∀i∈us,i∈ws):fB K us F H S ρ σ Q R:=λv f e u z t n Z s I r q=>k v f e u z t n Z s I (r.vars h) q
theorem fB.d(k:fB K ws F H S ρ σ Q R)(s:Ste F H S ρ N L S1 M)(I:Rl K N L S1 M σ){x:D}{n:Bool}(r:Rep K N v x)(q:Q (.d x) n M):R v L:=k v N L S1 M _ n _ s I (VR.d n r) q
theorem fB.list(k:fB K ws F H S ρ σ Q R)(s:Ste F H S ρ N L S1 M)(I:Rl K N L S1 M σ)(u:L p=none){W:nB}(r:Trs K N L true vs ts W)
  (l:∀b,W b->H b=none∨U ρ S b) (f:Held N L S1 M W) (q:Q (.lst ts) true M):R (.ref p) (OA L p (.lst vs)):=by
 have j:∀b,L b≠none->b≠p:=λb h z=>h (by rw[z];exact u);refine k _ N _ S1 M _ true (λb=>b=p∨W b) (s.new u _) (I.new u _) ⟨.lst DA (I.fh.free u) (r.mono (.refl _) λb hb=>⟨?_,(f.dom b hb).2⟩) (λz=>(f.dom p z).1 u) (λb=>Wn),λ_ b hb=>?_,λz=>(by cases z),λ_ i g e b hb z=>?_⟩ q;rw[xA (j b (f.dom b hb).1)];rcases hb with rfl|hb
 ·exact .inl (s.dm _ u)
 exact l b hb;rcases hb with rfl|hb
 ·exact(I.dom e z).1 u
 exact f.nw i g e b hb z
theorem fB.listD(k:fB K ws F H S ρ σ Q R)(s:Ste F H S ρ N L S1 M)(I:Rl K N L S1 M σ)(h:L p=none)(r:Reps K N vs ds)(q:Q (.lst (ds.map T.d)) true M):R (.ref p) (OA L p (.lst vs)) :=
 k.list s I h (Trs.of_reps r) (λb z=>z.elim) .none q
theorem fB.tupD(k:fB K ws F H S ρ σ Q R)(s:Ste F H S ρ N L S1 M)(I:Rl K N L S1 M σ)(h:L p=none){n:Bool}(r:Reps K N vs ds)(q:Q (.d (.tuple ds)) n M):R (.ref p) (OA L p (.tup vs)) :=
 fB.d k (s.newT h (I.fh.free h) _) (I.newT h _) (.tup (mD.of DA) (r.mono (PB (I.fh.free h)))) q
theorem fB.tup(k:fB K ws F H S ρ σ Q R)(s:Ste F H S ρ N L S1 M)(I:Rl K N L S1 M σ){p:Addr}(u:L p=none){vs:List V}{ts:List T}{W:nB}(r:Trs K N L true vs ts W)
  (l:∀b,W b->H b=none∨U ρ S b) (f:Held N L S1 M W) (q:Q (AF ts) true M):R (.ref p) (OA L p (.tup vs)):=by
 unfold AF at q;cases e:bE ts with
 |some ds=>rw[e]at q;exact k.tupD s I u (r.un e).1 q|none =>
  rw[e]at q;have j:∀b,L b≠none->b≠p:=λb h z=>h (by rw[z];exact u);refine k _ N _ S1 M _ true (λb=>b=p∨W b) (s.new u _) (I.new u _) ⟨.tup DA (I.fh.free u) (r.mono (.refl _) λb hb=>⟨?_,(f.dom b hb).2⟩) (λz=>(f.dom p z).1 u) (λb=>Wn),λ_ b hb=>?_,λz=>(by cases z),λ_ i g e b hb z=>?_⟩ q;rw[xA (j b (f.dom b hb).1)];rcases hb with rfl|hb
  ·exact .inl (s.dm _ u)
  exact l b hb;rcases hb with rfl|hb
  ·exact(I.dom e z).1 u
  exact f.nw i g e b hb z
theorem Tc{B:Operator}(s:Ste F H S ρ N L S1 M)(I:Rl K N L S1 M σ)(Z:Tr K N L sa v a O)(r:Tr K N L sb w b Zb)(h:binT B a.vw b.vw λz n=>Q z n M)(k:fB K ws F H S ρ σ Q R):V7 K B v w L R:=by
 have W:∀{i j:Int},a.vw=.sc (.int i)->b.vw=.sc (.int j)->v=.int i/\w=.int j:=λe u=>⟨Z.int e,r.int u⟩
 cases B with
 |Add =>
  rcases h with⟨i,j,e,u,h⟩| ⟨x,y,e,u,h⟩| ⟨xs0,P,ds,es,e,u,e1,e2,f,q⟩| ⟨xs0,P,ds,es,e,u,e1,e2,hn,hn2,f,q⟩
  obtain⟨rfl,rfl⟩:=W e u;exact k.d s I (.int _) h;obtain rfl:=Z.str e;obtain rfl:=r.str u;exact⟨h.1,k.d s I (.str _) h.2⟩;obtain⟨p,xs,_,rfl,hp,rp,_⟩:=Z.ls I.fh e;obtain⟨p2,ys,_,rfl,hq,rq,_⟩:=r.ls I.fh u;have m:=(rp.un e1).1;have g:=(rq.un e2).1;exact .inl ⟨xs,ys,hp,hq,by rw[m.length,g.length];exact f,λl f=>k.listD s I f (m.append g) q⟩;obtain⟨p,xs,_,rfl,hp,rp,_⟩:=Z.tp I.fh e;obtain⟨p2,ys,_,rfl,hq,rq,_⟩:=r.tp I.fh u;have m:=(rp.un e1).1;have g:=(rq.un e2).1;refine .inr ⟨p,p2,xs,ys,rfl,rfl,hp,hq,?_,by rw[m.length,g.length];exact f,λz=>?_,λ_ l f=>?_⟩;intro z;subst z;cases m;exact hn rfl;subst z;cases g;exact absurd rfl hn2;exact k.tupD s I f (m.append g) q
 |Sub=>obtain⟨i,j,e,u,h⟩:=h;obtain⟨rfl,rfl⟩:=W e u;exact k.d s I (.int _) h|Mult =>
  rcases h with⟨i,j,e,u,h⟩| ⟨x,y,e,u,h⟩
  obtain⟨rfl,rfl⟩:=W e u;exact⟨h.1,k.d s I (.int _) h.2⟩;obtain rfl:=Z.str e;obtain rfl:=r.int u;exact⟨h.1,k.d s I (.str _) h.2⟩
 |FloorDiv=>obtain⟨i,j,e,u,h⟩:=h;obtain⟨rfl,rfl⟩:=W e u;exact⟨h.1,k.d s I (.int _) h.2⟩|Mod=>obtain⟨i,j,e,u,h⟩:=h;obtain⟨rfl,rfl⟩:=W e u;exact⟨h.1,k.d s I (.int _) h.2⟩|_=>exact h.elim
theorem C8(neg:Bool)(u:Rep K L v x)(z:Rep K L w y)(h:jj x y λk=>X (if neg then !k else k))(k:∀c,X c->R (.bl c) L):rEq K neg v w L R:=by
 have l:JF x/\JF y/\X (if neg then !PyData.eqv x y else Q3 x y)->(∃f e,Rep K L v f/\Rep K L w e/\JF f/\JF e/\R (.bl (if neg then !PyData.eqv f e else Q3 f e)) L):=λ⟨r,m,q⟩ =>
  ⟨x,y,u,z,r,m,k _ q⟩
 unfold jj at h;split at h;cases u;cases z;exact k _ h;cases u;cases z;exact k _ h;cases u;cases z;exact k _ h;have g:=l h;rename_i n1 n2 n3;cases u with
 |int i =>
  cases z with|int j=>exact absurd rfl (n1 i j rfl)|_=>exact g
 |str i =>
  cases z with|str j=>exact absurd rfl (n2 i j rfl)|_=>exact g
 |bl i =>
  cases z with|bl j=>exact absurd rfl (n3 i j rfl)|_=>exact g
 |_=>exact g
theorem OZ{F:Hp}{v w:V}{a b:D}(z:Rep K F v a)(h:Rep K F w b)(e:SA a=true)(u:SA b=true):j7 v w=Q3 a b:=by cases z<;>cases h<;>first|exact absurd (show false=true from e) QF|exact absurd (show false=true from u) QF | (simp only[Q3];rfl) | (simp only[Q3])
theorem NS{F:Hp}{v:V}{a:D}(h:Rep K F v a)(z:SA a=true):zG v=true:=by cases h<;>first|rfl|exact absurd (show false=true from z) QF
theorem NQ{F:Hp}(h:Reps K F vs ds)(f:ds.all SA=true):vs.all zG=true :=
 Reps.ind (R:=λvs ds=>ds.all SA=true->vs.all zG=true) (λ_=>rfl) (λh z f=>by rw[qr,Qf]at f ⊢;exact⟨NS h f.1,z f.2⟩) h f
theorem ZL{F:Hp}{v:V}{a:D}(z:Rep K F v a)(u:SA a=true):∀{vs:List V}{ds:List D},Reps K F vs ds->ds.all SA=true->inV v vs=ds.any λy=>Q3 y a
 |_,_,.nil,_=>rfl|_,_,.cons h t,f=>by rw[qr,Qf]at f;have e:=ZL z u t f.2;unfold inV at e ⊢;rw[WN,WN,OZ h z f.1 u,e]
theorem iG{k:List Key}(h:Reps K F xs (k.map kD)):xs=k.map kV:=by
 induction k generalizing xs with
 |nil=>cases h;rfl|cons i k z =>
  cases h with|cons h t=>rw[QO,z t];cases i<;>(cases h;rfl)
theorem aG(q:List Key):∀(kvs:List KE),MG kvs q=(lA (kvs.map λp=>tD p.1) (tD q)).bind λn=>(kvs.map (·.2.2))[n]?
 |[]=>rfl|p::r=>by rw[QO,QO];unfold lA;by_cases e:p.1=q;rw[iP e,if_pos (by rw[e])];rfl;rw[JP e,if_neg λz=>e (eX z),aG q r];cases lA (r.map λp=>tD p.1) (tD q)<;>rfl
theorem VI(q:Key):∀(kvs:List (Key×V)),nK kvs q=(lA (kvs.map λp=>kD p.1) (kD q)).bind λn=>(kvs.map (·.2))[n]?
 |[]=>rfl|p::r=>by rw[QO,QO];unfold lA;by_cases e:p.1=q;rw[lK e,if_pos (by rw[e])];rfl;rw[mK e,if_neg λz=>e (BS z),VI q r];cases lA (r.map λp=>kD p.1) (kD q)<;>rfl
theorem KI.get{a:Addr}{b:Bool}{k:D}(u:L a=some o)(q:KI K L b o ks vs)(f:Rep K L w k)(hk:UE b k):fP K L a w ((lA ks k).bind λn=>vs[n]?):=by
 cases b with
 |true =>
  obtain⟨e,h,rfl,rfl,rfl,j,_⟩:=q;obtain⟨q,rfl⟩:=hk;cases f with|tup i g=>cases iG g;exact⟨e,h,q,u,j,i,(aG q h).symm⟩
 |false =>
  obtain⟨z,rfl⟩:=hk;cases f;rcases q with⟨h,_,rfl,rfl,rfl,_⟩| ⟨e,rfl,rfl,rfl⟩
  exact .inl ⟨h,u,(VI (.inr z) h).symm⟩;exact .inr ⟨e,u,rfl⟩
theorem PQ{b:Bool}{k:D}(q:KI K L b o ks vs):((lA ks k).bind λn=>vs[n]?).isSome=(lA ks k).isSome:=by
 cases e:lA ks k with
 |none=>rfl|some n =>
  have z:=(Qd.mp (MD e)).1;have h:n<vs.length:=by rw[<- q.len];exact z
  simp[h]
theorem FS{b neg:Bool}{a:Addr}(u:L a=some o)(q:KI K L b o ks vs)(z:Rep K L v x)(hk:UE b x)(h:R (.bl (if neg then !(lA ks x).isSome else(lA ks x).isSome)) L):jQ K neg v (.ref a) L R :=
 .inr (.inr ⟨_,q.get u z hk,by rw[PQ q];exact h⟩)
theorem K8(neg:Bool)(z:Rep K L v x)(e:Rep K L w y)(h:Ai x y λk=>X (if neg then !k else k))(k:∀c,X c->R (.bl c) L):jQ K neg v w L R:=by
 unfold Ai at h;split at h;cases z;cases e;exact k _ h;rename_i ds;have u:=e;cases e with
 |lst l f =>
  rcases h.1 with⟨g,fs⟩| ⟨j,i⟩
  refine .inl ⟨_,_,rfl,.inl l,NS z g,NQ f fs,?_⟩;rw[ZL z g f fs];exact k _ h.2;exact .inr (.inl ⟨_,ds,z,.inl u,j,i,k _ h.2⟩)
 rename_i ds;have u:=e;cases e with
 |tup l f =>
  rcases h.1 with⟨g,fs⟩| ⟨j,i⟩
  refine .inl ⟨_,_,rfl,.inr l,NS z g,NQ f fs,?_⟩;rw[ZL z g f fs];exact k _ h.2;exact .inr (.inl ⟨_,ds,z,.inr u,j,i,k _ h.2⟩)
 obtain⟨b,Z,hk,q⟩:=h;cases e with
 |@dct W a o ks vs ds h m r =>
  have s:ks.length=ds.length:=by rw[m.len,Reps.length r]
  rw[W9 (Wx s)]at q;cases BU m Z;exact FS h m z hk (k _ q)
 exact h.elim
theorem kO{g:Int->Int->Bool}(u:Rep K L v x)(z:Rep K L w y)(h:zW g x y X)(k:∀c,X c->R (.bl c) L):RV g v w L R:=by unfold zW at h;split at h;cases u;cases z;exact k _ h;exact h.elim
theorem yT(u:Rep K L v x)(z:Rep K L w y)(h:NW B x y X)(k:∀c,X c->R (.bl c) L):C0 K B v w L R:=by
 cases B with|Eq=>exact C8 false u z h k|NotEq=>exact C8 true u z h k|Lt=>exact kO u z h k|LtE=>exact kO u z h k|Gt=>exact kO u z h k|GtE=>exact kO u z h k|In=>exact K8 false u z h k|NotIn=>exact K8 true u z h k|Is=>obtain⟨a,b,rfl,rfl,q⟩:=h;cases z;cases u;exact⟨_,_,rfl,rfl,k _ q⟩|IsNot=>exact h.elim
theorem f7(f:Same N L)(z:Rep K L v x)(u:Tr K N L sb w b Zb)(h:g7 B x b X)(k:∀c,X c->R (.bl c) L):C0 K B v w L R:=by
 cases b with
 |d y=>exact yT z (u.rep f) h k|lst ts=>exact yT z (u.rep f) h k|tup ts=>exact yT z (u.rep f) h k|dct b ks ts =>
  obtain⟨hk,h⟩:=h;cases u with
  |dct e g _ _ _ _ =>
   rcases h with⟨rfl,q⟩| ⟨rfl,q⟩
   exact FS (neg:=false) e (g.mono f) z hk (k _ q);exact FS (neg:=true) e (g.mono f) z hk (k _ q)
theorem yI(r:Reps K F xs ds):(!ds.isEmpty)=!xs.isEmpty:=by cases r<;>rfl
theorem ZT(z:Rep K L v x)(h:CH x X)(k:∀c,X c->E c L):iF K v L E:=by
 unfold CH at h;split at h;cases z;exact k _ h;cases z;exact k _ h;cases z;exact k _ h;cases z;exact⟨h.1,k _ h.2⟩;cases z with|lst e u=>rw[yI u]at h;exact⟨_,.inl ⟨_,e,rfl⟩,k _ h⟩
 cases z with|tup e u=>rw[yI u]at h;exact⟨_,.inr (.inl ⟨_,e,rfl⟩),k _ h⟩
 exact h.elim
theorem B1(z:Rep K L v x)(h:Jd x X)(k:∀c,X c->E c L):C1 v L E:=by unfold Jd at h;split at h;cases z;exact k _ h;exact h.elim
theorem xc(s:Ste F H S ρ N L S1 M)(I:Rl K N L S1 M σ)(W:Tr K N L sa v a O)(za:∀b,O b->∃(i:Nat) (s:Sl),i∈ws/\M[i]?=some (some s)/\S1 i b)(m:Tr K N L sb w b Zb)(h:lM a.vw b.vw λz=>Q z false M)(k:fB K ws F H S ρ σ Q R):SV K v w L R:=by
 rcases h with⟨z,i,c,j,g,f,e,q⟩| ⟨ts,i,d,j,g,f,q⟩| ⟨ts,i,d,j,g,f,q⟩
 obtain rfl:=W.str j;obtain rfl:=m.int g;exact⟨f,c,e,k.d s I (.str _) q⟩;obtain⟨p,xs,Z',rfl,hp,l,P⟩:=W.ls I.fh j;obtain rfl:=m.int g;obtain⟨x,Z,e,r,u⟩:=l.at f;exact⟨xs,x,.inl hp,e,k _ N L S1 M _ false Z s I ⟨r,λz=>(by cases z),λ_ b hb=>za b (P b (u b hb)),λz=>(by cases z)⟩ q⟩;obtain⟨p,xs,Z',rfl,hp,l,P⟩:=W.tp I.fh j;obtain rfl:=m.int g;obtain⟨x,Z,e,r,u⟩:=l.at f;exact⟨xs,x,.inr hp,e,k _ N L S1 M _ false Z s I ⟨r,λz=>(by cases z),λ_ b hb=>za b (P b (u b hb)),λz=>(by cases z)⟩ q⟩
theorem Kc(s:Ste F H S ρ N L S1 M)(I:Rl K N L S1 M σ)(l:Tr K N L sa v a O)(e:∀b,O b->∃(i:Nat) (s:Sl),i∈ws/\M[i]?=some (some s)/\S1 i b)(j:Rep K L w y)(h:TQ a.vw y λz=>Q z false M)(k:fB K ws F H S ρ σ Q R):SV K v w L R:=by
 obtain⟨b,ks,ts,n,d,ea,hk,hf,W,q⟩:=h;obtain⟨p,o,vs,Z',rfl,P,dk,f,m,_⟩:=l.dc I.fh ea;obtain⟨x,Z,h2,r,u⟩:=f.get W;have g:=(dk.mono I.fh).get P j hk;rw[hf]at g;have g:fP K L p w (vs[n]?):=g;rw[h2]at g;have fin:=k _ N L S1 M _ false Z s I ⟨r,λz=>(by cases z),λ_ b hb=>e b (m b (u b hb)),λz=>(by cases z)⟩ q;cases w with|str z=>exact⟨x,g,fin⟩|ref c=>exact⟨x,g,fin⟩|_=>exact g.elim
theorem Reps.cut(r:Reps K F xs ds)(h z:Option Int):Reps K F (jR xs h z) (OD ds h z):=by unfold jR OD;rw[r.length];exact(r.drop _).take _
theorem B9{m r:Option Int}(s:Ste F H S ρ N L S1 M)(I:Rl K N L S1 M σ)(g:Tr K N L sa v a O)(h:FJ a.vw m r λz n=>Q z n M)(k:fB K ws F H S ρ σ Q R):Tj K v m r L R:=by
 rcases h with⟨z,u,h⟩| ⟨ts,ds,u,e,q⟩| ⟨ts,ds,u,e,n,q⟩
 obtain rfl:=g.str u;exact⟨h.1,k.d s I (.str _) h.2⟩;obtain⟨p,xs,_,rfl,i,f,_⟩:=g.ls I.fh u;exact .inl ⟨p,xs,rfl,i,λl j=>k.listD s I j ((f.un e).1.cut _ _) q⟩;obtain⟨p,xs,_,rfl,i,f,_⟩:=g.tp I.fh u;refine .inr ⟨p,xs,rfl,i,by rw[(f.un e).1.length];exact n,λl j=>k.tupD s I j ((f.un e).1.cut _ _) q⟩
theorem c5{P:Option Int->Prop}{z:Option Int->Hp->Prop}(u:Rep K L v x)(h:NF x P)(k:∀o,P o->z o L):RK v L z:=by unfold NF at h;split at h;cases u;exact k _ h;exact h.elim
def Ni:D->Value
 | .none=>.type "NoneType"|.bool _=>.type "bool"|.int _=>.type "int"|.str _=>.type "str"|.list _=>.type "list"|.tuple _=>.type "tuple"|.dict _=>.type "dict"
theorem Rep.ty(e:Rep K L v x):TyOf K L v (Ni x)∨zo K L v (Ni x):=by
 cases e with
 |non=>exact .inl .non|bl b=>exact .inl (.bl _)|int b=>exact .inl (.int _)|str b=>exact .inl (.str _)|lst h u=>exact .inr (.inl ⟨_,_,rfl,h,rfl⟩)|tup h u=>exact .inr (.inr ⟨_,_,rfl,h,rfl⟩)|@dct b _ _ _ _ _ h q _ =>
  cases b with
  |true=>obtain⟨f,z,rfl,_⟩:=q;exact .inl (.dT h)|false =>
   rcases q with⟨z,_,rfl,_⟩| ⟨f,rfl,_⟩
   exact .inl (.dK h);exact .inl (.dT h)
theorem Pb(h:isD n x=some k)(z:jN n=true):QBN K (Ni x) (.type n)=some k:=by simp only[jN,wU,beq_iff_eq]at z;rcases z with((((rfl|rfl)|rfl)|rfl)|rfl)|rfl<;>cases x<;>simp[isD]at h<;>subst h<;>rfl
theorem kc(z:Rep K L v x)(h:isD n x=some k)(u:jN n=true)(q:R (.bl k) L):E9 K [v,.ty n] L R :=
 ⟨Ni x,.type n,k,z.ty,rfl,Pb h u,q⟩
inductive Tn(K:QC)(F H:Hp)(Y:nB):List V->List T->Prop where
 |nil:Tn K F H Y [] []
 |cons {v:V}{t:T}{vs:List V}{ts:List T}{Z:nB}:Tr K F H false v t Z->(∀b,Z b->Y b)->Tn K F H Y vs ts->Tn K F H Y (v::vs) (t::ts)
theorem fK(ts:List T):∀{xs:List (T×Bool)},oM xs=ts->yC xs=ts.map T.vw
 |[],h=>by subst h;rfl|p::r,h=>by subst h;simp only[yC,oM,QO,fK _ rfl]
theorem Tn.one{x:Vw}(h:Tn K F H Y vs ts)(e:ts.map T.vw=[x]):∃v t Z,vs=[v]/\ts=[t]/\t.vw=x/\Tr K F H false v t Z/\∀b,Z b->Y b:=by
 cases h with
 |nil=>cases e|cons r z t =>
  simp only[QO,Wp]at e;cases t with|nil=>exact⟨_,_,_,rfl,rfl,e.1,r,z⟩|cons _ _ _=>simp at e
theorem Tn.two{x y:Vw}(h:Tn K F H Y vs ts)(e:ts.map T.vw=[x,y]):∃v w t u Z f,vs=[v,w]/\ts=[t,u]/\t.vw=x/\u.vw=y/\Tr K F H false v t Z/\Tr K F H false w u f/\(∀b,Z b->Y b)/\(∀b,f b->Y b):=by
 cases h with|nil=>cases e|cons r z t=>simp only[QO,Wp]at e;obtain⟨v,u,f,rfl,rfl,j,i,g⟩:=t.one e.2;exact⟨_,_,_,_,_,_,rfl,rfl,e.1,j,r,i,z,g⟩
theorem iD:∀{xs:List V}{z:List Str},Reps K F xs (z.map PyData.str)->xs=z.map V.str
 |_,[],.nil=>rfl|_,y::z,.cons h t=>by cases h;rw[QO,iD t]
theorem XI:∀(h:List Str),Reps K F (h.map V.str) (h.map PyData.str)
 |[]=>.nil|y::h=>.cons (.str y) (XI h)
theorem LV{α:Type}{g:α->D}{u:List V}(W:xs.Perm u):∀{l:List α},Reps K F xs (l.map g)->∃z:List α,z.Perm l/\Reps K F u (z.map g):=by
 induction W with
 |nil=>intro l r;exact⟨l,we _,r⟩|cons x _ q =>
  intro l r;cases l with
  |nil=>cases r|cons a l=>cases r with|cons h t=>obtain⟨z,p,v⟩:=q t;exact⟨a::z,p.cons _,.cons h v⟩
 |swap x y l0 =>
  intro l r;cases l with
  |nil=>cases r|cons a l=>cases l with
   |nil=>cases r with|cons h t=>cases t
   |cons b l=>cases r with
    |cons h t=>cases t with|cons I t=>exact⟨b::a::l,List.Perm.swap _ _ _,.cons I (.cons h t)⟩
 |trans _ _ Z s=>intro l r;obtain⟨P,j,f⟩:=Z r;obtain⟨m,i,e⟩:=s f;exact⟨m,i.trans j,e⟩
theorem zS{ls:List (List Str)}(h:Reps K F xs (ls.map YB)):∀x∈xs,∃a,∃ss:List Str,x=.ref a/\XC K F a (ss.map V.str):=by
 induction ls generalizing xs with
 |nil=>cases h;exact λ_ z=>nomatch z
 |cons l ls u =>
  cases h with
  |cons r t =>
   intro x h;rcases QJ.mp h with e|h;subst e;cases r with|lst q r=>exact⟨_,l,rfl,by rw[<- iD r];exact q⟩
   exact u t x h
theorem ud{bi:Bi}(s:Ste F H S ρ N L S1 M)(I:Rl K N L S1 M σ)(g:Tn K N L Y vs ts)(h:xX bi (ts.map T.vw) λz n=>Q z n M)(k:fB K ws F H S ρ σ Q R):xh K bi vs L R:=by
 cases bi with
 |len =>
  rcases h with⟨z,e,h⟩| ⟨j,e,h⟩| ⟨j,e,h⟩
  obtain⟨v,t,Z,rfl,rfl,e,r,_⟩:=g.one e;obtain rfl:=r.str e;exact .inl ⟨_,rfl,h.1,k.d s I (.int _) h.2⟩;obtain⟨v,t,Z,rfl,rfl,e,r,_⟩:=g.one e;obtain⟨p,xs,_,rfl,u,f,_⟩:=r.ls I.fh e;exact .inr ⟨_,xs,rfl,.inl u,by rw[f.length];exact k.d s I (.int _) h⟩;obtain⟨v,t,Z,rfl,rfl,e,r,_⟩:=g.one e;obtain⟨p,xs,_,rfl,u,f,_⟩:=r.tp I.fh e;exact .inr ⟨_,xs,rfl,.inr u,by rw[f.length];exact k.d s I (.int _) h⟩
 |any=>obtain⟨j,bs,e,hb,q⟩:=h;obtain⟨v,t,Z,rfl,rfl,e,r,_⟩:=g.one e;obtain⟨p,xs,_,rfl,u,f,_⟩:=r.ls I.fh e;obtain rfl:=(f.un hb).1.bools;exact⟨bs,u,k.d s I (.bl _) q⟩|all=>obtain⟨j,bs,e,hb,q⟩:=h;obtain⟨v,t,Z,rfl,rfl,e,r,_⟩:=g.one e;obtain⟨p,xs,_,rfl,u,f,_⟩:=r.ls I.fh e;obtain rfl:=(f.un hb).1.bools;exact⟨bs,u,k.d s I (.bl _) q⟩|list=>obtain⟨j,ds,e,hb,q⟩:=h;obtain⟨v,t,Z,rfl,rfl,e,r,_⟩:=g.one e;obtain⟨p,xs,_,rfl,u,f,_⟩:=r.ls I.fh e;exact⟨_,xs,rfl,.inl u,λl W=>k.listD s I W (f.un hb).1 q⟩|sorted =>
  rcases h with⟨j,P,e,hb,i,q⟩| ⟨j,ls,e,hb,i,q⟩
  obtain⟨v,t,Z,rfl,rfl,e,r,_⟩:=g.one e;obtain⟨p,xs,_,rfl,u,f,_⟩:=r.ls I.fh e;obtain rfl:=iD (f.un hb).1;exact⟨_,rfl,.inl ⟨P,u,i,λl m W p1 p2=>k.listD s I W (XI m) (q m p1 p2)⟩⟩;obtain⟨v,t,Z,rfl,rfl,e,r,_⟩:=g.one e;obtain⟨p,xs,_,rfl,u,f,_⟩:=r.ls I.fh e;have rr:=(f.un hb).1;refine⟨_,rfl,.inr ⟨xs,u,by rw[Reps.length rr,QG];exact i,λx hx=>?_,λl ys W u=>?_⟩⟩;obtain⟨a,P,e,sq⟩:=zS rr x hx;exact⟨a,P,e,I.fh.seq sq⟩;obtain⟨ls',p1,r1⟩:=LV u.symm rr;exact k.listD s I W r1 (q ls' p1)
theorem Ub{m:Mt}(s:Ste F H S ρ N L S1 M)(I:Rl K N L S1 M σ)(f:Tr K N L sa v a O)(i:Tn K N L Y vs ts)(h:ke m a.vw (ts.map T.vw) λz n=>Q z n M)(k:fB K ws F H S ρ σ Q R):r6 K m v vs L R:=by
 cases m with|join=>obtain⟨z,us,u,P,e,j,W,q⟩:=h;obtain⟨w,t,Z,rfl,rfl,e,r,_⟩:=i.one e;obtain rfl:=f.str P;obtain⟨p,xs,_,rfl,l,g,_⟩:=r.ls I.fh e;obtain rfl:=iD (g.un j).1;exact⟨z,p,u,rfl,rfl,l,W,k.d s I (.str _) q⟩|_=>exact h.elim
theorem eg{x:Vw}(h:x.isS=true):∃z,x=.sc (.str z):=by
 cases x with
 |sc d=>cases d with|str z=>exact⟨z,rfl⟩|_=>exact(QF h).elim
 |_=>exact(QF h).elim
theorem ug{m:Mt}(u:Tr K N L sa v a O)(h:JS m a.vw=true):kX K m.ty v L:=by
 have h:=yA h;obtain⟨z,e⟩:=eg h.1;obtain rfl:=u.str e;cases m with|join=>rfl|_=>exact(QF h.2).elim
end
end
inductive AV(K:QC)(F H:Hp):List Md->List V->List (T×Bool)->(Addr->Prop)->(Addr->Prop)->Prop where
 |nil {md:List Md}{W Y:nB}:(∀b,¬ W b)->AV K F H md [] [] W Y
 |chg {md:List Md}{v:V}{vs:List V}{x:T}{xs:List (T×Bool)}{W Y:nB}:(md.headD .ny).isMut=true->AV K F H md.tail vs xs W Y->AV K F H md (v::vs) ((x,true)::xs) W Y
 |new {md:List Md}{v:V}{vs:List V}{x:T}{xs:List (T×Bool)}{Z W W' Y:nB}:(md.headD .ny).isMut=false->Tr K F H true v x Z->AV K F H md.tail vs xs W' Y->(∀b,Z b->¬ W' b)->(∀b,W b↔Z b∨W' b) ->
   AV K F H md (v::vs) ((x,true)::xs) W Y
 |tmp {md:List Md}{v:V}{vs:List V}{x:T}{xs:List (T×Bool)}{Z W Y:nB}:(md.headD .ny).isMut=false->Tr K F H false v x Z->(∀b,Z b->Y b)->AV K F H md.tail vs xs W Y ->
   AV K F H md (v::vs) ((x,false)::xs) W Y
section
variable{K:QC}{F H o l:Hp}{S S1:Ft}{ρ g:kA}{σ:St}
section
variable{Y W:nB}{md:List Md}{vs:List V}{xs:List (T×Bool)}{ws:List Nat}{c:Hp}{w:Ft}{y:kA}
theorem AV.sub{u:nB}(h:AV K F H md vs xs W Y)(k:∀b,Y b->u b):AV K F H md vs xs W u:=by
 induction h with|nil h=>exact .nil h|chg h t x=>exact .chg h (x k)|new h r t n q x=>exact .new h r (x k) n q|tmp h r z t x=>exact .tmp h r (λb hb=>k b (z b hb)) (x k)
theorem AV.dom(h:AV K F H md vs xs W Y):∀b,W b->H b≠none/\F b=none:=by
 induction h with|nil h=>exact λb hb=>absurd hb (h b)|chg h t x=>exact x|new h r t n q x=>exact λb hb=>((q b).mp hb).elim (r.dom b) (x b)|tmp h r z t x=>exact x
theorem AV.length(h:AV K F H md vs xs W Y):vs.length=xs.length:=by
 induction h with|nil h=>rfl|chg h t x=>simp[x]|new h r t n q x=>simp[x]|tmp h r z t x=>simp[x]
theorem AV.trs(h:AV K F H md vs xs W Y):(∀(i:Nat),(md.getD i .ny).isMut=false)->fF xs=true->Trs K F H true vs (XF xs) W:=by
 induction h with
 |nil h=>exact λ_ _=>.nil h|@chg md _ _ _ _ _ _ h t u =>
  intro m;have:=m 0;cases md with|nil=>cases h|cons a r=>exact absurd h (by simpa using this)
 |@new md v vs x xs Z W k Y h r t n q u =>
  intro m e;simp only[fF,Qf]at e;exact .cons r (u (λi=>by cases md with|nil=>exact m i|cons a md=>exact m (i+1)) e.2) n q
 |@tmp md v vs x xs Z W Y h r z t u =>
  intro m e;simp only[fF,Qf]at e;refine .cons (S1:=λ_=>False) ?_ (u (λi=>by cases md with|nil=>exact m i|cons a md=>exact m (i+1)) e.2) (λ_ z=>z.elim) λb=>by simp
  cases x with
  |d x=>cases r with|d r n=>exact .d r λ_ z=>z
  |_=>exact absurd e.1 (by simp[JH,T.isD])
theorem db(i:Nat):((([]:List Md).getD i .ny).isMut)=false:=rfl
theorem AV.tn(h:AV K F H md vs xs W Y)(e:Same F o)(k:∀b,W b->o b=H b)(f:∀b,Y b->F b=none->o b=none)(i:md=[]):Tn K o H Y vs (oM xs):=by
 induction h with|nil h=>exact .nil|chg h t a=>subst i;cases h|@new md v vs x xs Z W m Y h r t n q a=>subst i;refine .cons (Z:=λ_=>False) ?_ (λb z=>z.elim) (a (λb hb=>k b ((q b).mpr (.inr hb))) f rfl);exact .d (r.kept e λb u hb j=>by rw[k b ((q b).mpr (.inl hb))];exact j) λ_ z=>z|@tmp md v vs x xs Z W Y h r z t a=>subst i;exact .cons (r.mono e λb hb=>⟨rfl,f b (z b hb) (r.dom b hb).2⟩) z (a k f rfl)
structure AR(K:QC)(ws:List Nat)(md:List Md)(c:Hp)(w:Ft)(y:kA)(F H:Hp)(S:Ft)(ρ:kA)(vs:List V)(xs:List (T×Bool))(W Y:nB):Prop where
 av:AV K F H md vs xs W Y
 fr:∀b,W b->c b=none∨U y w b
 tm:∀b,Y b->∃(i:Nat) (s:Sl),i∈ws/\ρ[i]?=some (some s)/\S i b
 nw:∀(i:Nat) s,ρ[i]?=some (some s)->∀b,W b->¬ S i b
theorem AR.held(h:AR K ws md c w y F H S ρ vs xs W Y):Held F H S ρ W:=⟨h.av.dom,h.nw⟩
theorem AR.from{v u:Hp}{z:Ft}{x:kA}(s:Stp F H S ρ o l S1 g)(h:AR K ws md l S1 g v u z x vs xs W Y):AR K ws md H S ρ v u z x vs xs W Y :=
 ⟨h.av,λb hb=>by rcases h.fr b hb with q|q;exact .inl (s.dm b q);exact(s.uu b q).symm,h.tm,h.nw⟩
theorem AR.vars{us:List Nat}(h:AR K ws md c w y F H S ρ vs xs W Y)(k:∀i∈ws,i∈us):AR K us md c w y F H S ρ vs xs W Y :=
 ⟨h.av,h.fr,λb hb=>let⟨i,s,z,x⟩:=h.tm b hb;⟨i,s,k i z,x⟩,h.nw⟩
theorem AR.frz{ws:List Nat}{vs:List V}{xs:List (T×Bool)}{W Y:nB}(s:Ste F H S ρ o l S1 g)(I:Rl K o l S1 g σ)(h:AR K ws [] H S ρ o l S1 g vs xs W Y) :
  ∃v,Ste F H S ρ v l S1 g/\Rl K v l S1 g σ/\Tn K v l Y vs (oM xs) /\
   ∀st k t' u,Tr K o l st k t' u->(∀b,u b->∃(i:Nat) (s:Sl),g[i]?=some (some s)/\S1 i b)->Tr K v l st k t' u:=by
 have x:=h.held;have f:=BG (H:=l) λb hb=>(x.dom b hb).2;refine⟨vI o l W,s.frz (λb hb=>(x.dom b hb).2) h.fr,I.frz x,h.av.tn f (λb hb=>kI hb) (λb m n=>?_) rfl,λst k t' u r j=>r.mono f λb hb=>⟨rfl,?_⟩⟩;obtain⟨i,a,_,e,p⟩:=h.tm b m;rw[JC λz=>h.nw i a e b z p];exact n;obtain⟨i,a,q,e⟩:=j b hb;rw[JC λz=>x.nw i a q b z e];exact(r.dom b hb).2
def eB:List Md->List V->List V
 |_,[]=>[]|md,v::vs=>match md.headD .ny with
  | .chg=>v::eB md.tail vs|_=>eB md.tail vs
noncomputable abbrev ki(K:QC)(p:PX)(md:List Md)(F H:Hp)(S:Ft)(ρ:kA)(σ:St)(Q:List (T×Bool)->kA->Prop)(R:List V->Hp->Prop):Prop :=
 ∀vs u x z h xs W Y,Ste F H S ρ u x z h->Rl K u x z h σ->AR K (LG p) md H S ρ u x z h vs xs W Y->(eB md vs).map (λv=>some (some v))=(fA md p).map (λj=>σ[j]?)->Q xs h->R vs x
def mh(K:QC)(F H:Hp)(x:XD)(h:Option Addr):Prop:=∃a fs,h=some a/\H a=some (.xd fs)/\Paired (λ(p:Str×V) (q:Str×D)=>p.1=q.1/\Rep K F p.2 q.2) fs x.2
def OE(K:QC)(F H:Hp)(S:Ft)(ρ:kA)(E:XE)(a:XK):Prop:=∀x v u h k z,Stp F H S ρ u h k z->Same u h->mh K u h x v->E x->a x.1 v h
theorem OE.from{E:XE}{u:XK}(h:OE K F H S ρ E u)(s:Stp F H S ρ o l S1 g):OE K o l S1 g E u:=λx k e b a z v f r q=>h x k e b a z (s.trans v) f r q
theorem OE.never:OE K F H S ρ (λ_=>False) (λ_ _ _=>False):=λ_ _ _ _ _ _ _ _ _ z=>z
inductive ArgsR(K:QC)(F H:Hp)(Y:nB):List Md->List V->List T->Prop where
 |nil {md:List Md}:ArgsR K F H Y md [] []
 |chg {md:List Md}{v:V}{vs:List V}{t:T}{ts:List T}:md.headD .ny=.chg->ArgsR K F H Y md.tail vs ts->ArgsR K F H Y md (v::vs) (t::ts)
 |rd {md:List Md}{v:V}{vs:List V}{t:T}{ts:List T}{Z:nB}:md.headD .ny≠.chg->Tr K F H false v t Z->(∀b,Z b->Y b)->ArgsR K F H Y md.tail vs ts->ArgsR K F H Y md (v::vs) (t::ts)
structure Frm(M:nB)(F H F' H':Hp):Prop where
 ff:Same F F'
 fh:Same F' H'
 hh:∀b u,H b=some u->¬ M b->H' b=some u
 dm:∀b,H' b=none->H b=none
 fn:∀b,F b=none->F' b≠none->M b∨H b=none
noncomputable def lift(K:QC)(P:PSp):Sp:=λvs H Q E=>∃(F:Hp) (u:List T) (M Y:nB),Same F H/\ArgsR K F H Y P.md vs u/\Trs K F H true (eB P.md vs) (NB P.md u) M/\(∀b,Y b->¬ M b) /\
 P.run u (λr e=>∀v z h Z k,Frm M F H z h->Tr K z h true v r Z->Trs K z h true (eB P.md vs) e k->(∀b,Z b->¬ k b)->(∀b,Z b∨k b->M b∨H b=none)->Q v h)
  (λx=>∀a z h,Frm M F H z h->mh K z h x a->E x.1 a h)
structure GOk(K:QC)(Γ:Ev)(Ψ:PEv):Prop where
 sp:∀f vs H Q E,lift K (Ψ.sp f) vs H Q E->Γ.sp f vs H Q E
 va:∀x d,Ψ.va x=some d->∀F,Rep K F (Γ.va x) d
structure PSnd(K:QC)(Γ:Ev)(Ψ:PEv)(p:PX):Prop where
 e:∀{E:XE}{EK:XK}{F H:Hp}{S:Ft}{ρ:kA}{σ:St}{Q:TK}{R:VK},Rl K F H S ρ σ->OE K F H S ρ E EK->(pe Ψ p E).e ρ Q->fB K (LG p) F H S ρ σ Q R->(wp K Γ p EK).e σ H R
 t:∀{E:XE}{EK:XK}{F H:Hp}{S:Ft}{ρ:kA}{σ:St}{Q:Bool->kA->Prop}{R:Bool->Hp->Prop},Rl K F H S ρ σ->OE K F H S ρ E EK->(pe Ψ p E).t ρ Q->jH K F H S ρ σ Q R->(wp K Γ p EK).t σ H R
 a:∀{E:XE}{EK:XK}{F H:Hp}{S:Ft}{ρ:kA}{σ:St}{md:List Md}{Q:List (T×Bool)->kA->Prop}{R:List V->Hp->Prop},Rl K F H S ρ σ->OE K F H S ρ E EK->(∀j∈fA md p,∃v,σ[j]?=some (some v))->(pe Ψ p E).a md ρ Q->ki K p md F H S ρ σ Q R->(wp K Γ p EK).a σ H R
end
end
section
variable{K:QC}{Γ:Ev}{Ψ:PEv}{E:XE}{A:XK}{F H G C:Hp}{S S1:Ft}{ρ B:kA}{σ:St}
section
variable{b a U:PX}{RR:List V->Hp->Prop}{P:List (T×Bool)->kA->Prop}{Y Z:nB}{t:T}{st:Bool}{ts:List T}{v:V}
theorem xf(O:PSnd K Γ Ψ b)(I:Rl K F H S ρ σ)(X:OE K F H S ρ E A){x:T}{P:T×Bool->kA->Prop}{RR:VK}(h:sq x ρ (cu (pe Ψ b E).e) P)
  (N:∀w l k S' u y m Z,Ste F H S ρ l k S' u->Rl K l k S' u σ->(∀st v g,Tr K F H st v x g->Tr K l k st v x g)->(x.isD=false->u=ρ/\S'=S)->VR K (LG b) H S ρ l k S' u w y m Z->P (y,m) u->RR w k) :
  (wp K Γ b A).e σ H RR:=by
 unfold sq at h;cases o:x.isD with
 |true =>
  rw[o,if_pos rfl]at h;refine O.e I X h λw l k S' u y m Z s W r q=>N w l k S' u y m Z s W (λst v g p=>?_) (λz=>(by rw[o]at z;cases z)) r q;cases x with
  |d x=>cases p with|d r n=>exact .d (r.mono s.ff) n
  |_=>cases o
 |false =>
  rw[o,if_neg (by simp)]at h;have X':OE K F H S (lockA ρ) E A:=λx dx F2 H2 S2 Q R f r q=>X x dx F2 H2 S ρ R.unlockA f r q;refine O.e I.lockA X' h λw l k S' u y m Z s W r q=>?_;have kp:∀st v t g,Tr K F H st v t g->Tr K l k st v t g:=λst v t g p=>s.keep p λb _=>pD b;refine N w l k S ρ y m Z ⟨s.unlockA,λj t h=>⟨t,h⟩⟩ (I.unlockA s.toStp W.fh) (λst v g p=>kp st v _ g p) (λ_=>⟨rfl,rfl⟩) ⟨r.tr,λe b hb=>?_,λe b hb=>?_,λe i M hi b hb z=>?_⟩ q;exact .inl ((r.fr e b hb).elim id λz=>absurd z (pD b));obtain⟨i,M,h1,L,J⟩:=r.tm e b hb;cases M with
  |own t=>obtain⟨t0,h0⟩:=s.ow i t L;obtain⟨_,_,e0⟩:=XB h0;cases e0|nv t =>
   cases o:t.isD with|true=>exact absurd J (W.isD L o)|false=>obtain⟨g1,g2⟩:=s.bo i t L o;obtain⟨s0,g3,_⟩:=XB g1;rw[g2]at J;exact⟨i,s0,h1,g3,J⟩
  rcases r.fr e b hb with q|q
  ·exact(I.dom hi z).1 q
  exact absurd q (pD b)
theorem uf{md:List Md}(Q:PSnd K Γ Ψ b)(I:Rl K F H S ρ σ)(X:OE K F H S ρ E A)(R:∀j∈fA md b,∃v,σ[j]?=some (some v)){x:T}(h:sq x ρ ((pe Ψ b E).a md) P)
  (O:∀ws g k S' u M W Y,Ste F H S ρ g k S' u->Rl K g k S' u σ->(∀st v e,Tr K F H st v x e->Tr K g k st v x e)->(x.isD=false->u=ρ/\S'=S)->AR K (LG b) md H S ρ g k S' u ws M W Y->(eB md ws).map (λv=>some (some v))=(fA md b).map (λj=>σ[j]?)->P M u->RR ws k) :
  (wp K Γ b A).a σ H RR:=by
 unfold sq at h;cases l:x.isD with
 |true =>
  rw[l,if_pos rfl]at h;refine Q.a I X R h λw g k S' u y W Y s o r p q=>O w g k S' u y W Y s o (λst v e m=>?_) (λz=>(by rw[l]at z;cases z)) r p q;cases x with
  |d x=>cases m with|d r n=>exact .d (r.mono s.ff) n
  |_=>cases l
 |false =>
  rw[l,if_neg (by simp)]at h;have X':OE K F H S (lockA ρ) E A:=λx dx F2 H2 S2 ρ2 s2 f r q=>X x dx F2 H2 S ρ s2.unlockA f r q;refine Q.a I.lockA X' R h λw g k S' u y W Y s o r p q=>?_;have kp:∀st v t e,Tr K F H st v t e->Tr K g k st v t e:=λst v t e m=>s.keep m λb _=>pD b;refine O w g k S ρ y W Y ⟨s.unlockA,λj t h=>⟨t,h⟩⟩ (I.unlockA s.toStp o.fh) (λst v e m=>kp st v _ e m) (λ_=>⟨rfl,rfl⟩) ⟨r.av,λb hb=>?_,λb hb=>?_,λi N hi b hb z=>?_⟩ p q;exact .inl ((r.fr b hb).elim id λz=>absurd z (pD b));obtain⟨i,N,h1,L,J⟩:=r.tm b hb;cases N with
  |own t=>obtain⟨t0,h0⟩:=s.ow i t L;obtain⟨_,_,e0⟩:=XB h0;cases e0|nv t =>
   cases l:t.isD with|true=>exact absurd J (o.isD L l)|false=>obtain⟨g1,g2⟩:=s.bo i t L l;obtain⟨s0,g3,_⟩:=XB g1;rw[g2]at J;exact⟨i,s0,h1,g3,J⟩
  rcases r.fr b hb with q|q
  ·exact(I.dom hi z).1 q
  exact absurd q (pD b)
theorem DD(j:PSnd K Γ Ψ a)(I:Rl K F H S ρ σ)(X:OE K F H S ρ E A){P:TK}{RR:VK}(h:(pe Ψ a E).e ρ P)
  (g:∀v u z S' y x n Z,Ste F H S ρ u z S' y->Rl K u z S' y σ->OE K u z S' y E A->Tr K u z false v (uA x n) Z->(JH x n=true->Rep K u v x.er)->(∀b,Z b->∃(i:Nat) (s:Sl),i∈LG a/\y[i]?=some (some s)/\S' i b)->P x n y->RR v z) :
  (wp K Γ a A).e σ H RR:=by
 refine j.e I X h λv u z S' y x n Z s p r q=>?_;obtain⟨W,m,w,o,f,l,k,_⟩:=r.frz s p;exact g v W z S' y x n m w o (X.from w.toStp) f l k q
theorem pX(ia:PSnd K Γ Ψ a)(ib:PSnd K Γ Ψ b)(I:Rl K F H S ρ σ)(X:OE K F H S ρ E A){P:T->Bool->T->Bool->kA->Prop}{RR:V->V->Hp->Prop}
  (h:(pe Ψ a E).e ρ λx n B=>sq (uA x n) B (cu (pe Ψ b E).e) λy u=>P x n y.1 y.2 u)
  (kk:∀v w j k S' z x n y m g Zb,Ste F H S ρ j k S' z->Rl K j k S' z σ->OE K j k S' z E A->Tr K j k false v (uA x n) g->(∀b,g b->∃(i:Nat) (s:Sl),i∈LG a/\z[i]?=some (some s)/\S' i b)->Tr K j k false w (uA y m) Zb ->
   P x n y m z->RR v w k):(wp K Γ a A).e σ H λv C=>(wp K Γ b A).e σ C λw p=>RR v w p:=by
 refine DD ia I X h λv G C S1 B x n g N I1 X1 l _ J q1=>?_;refine xf ib I1 X1 q1 λw F2 p W u y m Z M I2 kp hs Q R=>?_;obtain⟨F3,Z3,L,I3,O,_,_,k3⟩:=Q.frz M I2;have q:∀b,g b->∃(i:Nat) (s:Sl),i∈LG a/\u[i]?=some (some s)/\W i b:=by
  cases o:(uA x n).isD with
  |true =>
   intro b hb;exfalso;generalize uA x n=t at l o;cases l with|d r n=>exact n b hb|_=>cases o
  |false=>obtain⟨e1,e2⟩:=hs o;rw[e1,e2];exact J
 have f:=N.trans L;exact kk v w F3 p W u x n y m g Z3 f I3 (X.from f.toStp) (k3 _ _ _ _ (kp _ _ _ l) λb hb=>let⟨i,s,_,h2⟩:=q b hb;⟨i,s,h2⟩) q O R
theorem oT(k:PSnd K Γ Ψ U)(I:Rl K F H S ρ σ)(X:OE K F H S ρ E A)(h:(pe Ψ U E).a [] ρ P)
  (w:∀vs z y S' x xs Y,Ste F H S ρ z y S' x->Rl K z y S' x σ->OE K z y S' x E A->Tn K z y Y vs (oM xs)->(∀b,Y b->∃(i:Nat) (s:Sl),i∈LG U/\x[i]?=some (some s)/\S' i b)->P xs x->RR vs y):(wp K Γ U A).a σ H RR:=by
 refine k.a (md:=[]) I X (λj e=>by cases U<;>cases e) h λvs z y S' x xs W Y s g r _ q=>?_;obtain⟨l,u,f,t,_⟩:=r.frz s g;exact w vs l y S' x xs Y u f (X.from u.toStp) t r.tm q
theorem Fe(ia:PSnd K Γ Ψ a)(ib:PSnd K Γ Ψ U)(I:Rl K F H S ρ σ)(X:OE K F H S ρ E A){P1:T->Bool->Prop}{P:T->Bool->List (T×Bool)->kA->Prop}{R1:V->Hp->Prop}{RR:V->List V->Hp->Prop}
  (h:(pe Ψ a E).e ρ λx n B=>P1 x n/\sq (uA x n) B ((pe Ψ U E).a []) λxs z=>P x n xs z)
  (k1:∀v k u x n w,Tr K k u false v (uA x n) w->P1 x n->R1 v u)
  (kk:∀v vs k u S' y x n xs w Y,Ste F H S ρ k u S' y->Rl K k u S' y σ->OE K k u S' y E A->Tr K k u false v (uA x n) w->(∀b,w b->∃(i:Nat) (s:Sl),i∈LG a/\y[i]?=some (some s)/\S' i b)->Tn K k u Y vs (oM xs) ->
   P x n xs y->RR v vs u):(wp K Γ a A).e σ H λv C=>R1 v C/\(wp K Γ U A).a σ C λvs m=>RR v vs m:=by
 refine DD ia I X h λv G C S1 B x n w M I1 X1 g _ q ⟨R,Q⟩=>⟨k1 v G C x n w g R,?_⟩
 refine uf ib I1 X1 (λj hj=>by cases U<;>cases hj) Q λvs F2 m p z xs W Y L I2 kp hs N _ O=>?_;obtain⟨F3,J,I3,tn,k3⟩:=N.frz L I2;have o:∀b,w b->∃(i:Nat) (s:Sl),i∈LG a/\z[i]?=some (some s)/\p i b:=by
  cases l:(uA x n).isD with
  |true =>
   intro b hb;exfalso;generalize uA x n=t at g l;cases g with|d r n=>exact n b hb|_=>cases l
  |false=>obtain⟨e1,e2⟩:=hs l;rw[e1,e2];exact q
 have f:=M.trans J;exact kk v vs F3 m p z x n xs w Y f I3 (X.from f.toStp) (k3 _ _ _ _ (kp _ _ _ g) λb hb=>let⟨i,s,_,h2⟩:=o b hb;⟨i,s,h2⟩) o tn O
def rV(K:QC)(F H:Hp)(Y:nB):Item->T->Prop
 | .one v,t=>∃Z,Tr K F H false v t Z/\∀b,Z b->Y b|.tup vs,t=>∃h,t=.d (.tuple h)/\Reps K F vs h
theorem rV.mono{it:Item}(h:rV K F H Y it t)(e:Same F G)(k:∀b,Y b->C b=H b/\G b=none):rV K G C Y it t:=by
 cases it with|one v=>obtain⟨Z,r,z⟩:=h;exact⟨Z,r.mono e λb hb=>k b (z b hb),z⟩|tup y=>obtain⟨ts,x,r⟩:=h;exact⟨ts,x,r.mono e⟩
theorem sZ{xs:List V}(h:Trs K F H st xs ts Z)(z:∀b,Z b->Y b):Paired (rV K F H Y) (xs.map .one) ts :=
 Trs.ind (R:=λ_ xs ts Z=>(∀b,Z b->Y b)->Paired (rV K F H Y) (xs.map .one) ts) (λ_ _=>.nil) (λh _ _ q x z=>.cons ⟨_,h.weak,λb hb=>z b ((q b).mpr (.inl hb))⟩ (x λb hb=>z b ((q b).mpr (.inr hb)))) h z
theorem JO{Y:nB}{α:Type}(f:α->V)(g:α->D)(h:∀x,Rep K F (f x) (g x)):∀(l:List α),Paired (rV K F H Y) (l.map λx=>.one (f x)) (l.map λx=>T.d (g x))
 |[]=>.nil|x::r=>.cons ⟨λ_=>False,.d (h x) λ_ z=>z,λ_ z=>z.elim⟩ (JO f g h r)
theorem Tr.lsS(f:Same F H)(h:Tr K F H st v t Z)(e:t.vw=.ls ts):∃a vs S',v=.ref a/\XC K H a vs/\Trs K F H false vs ts S'/\(∀b,S' b->Z b)/\∀y x,Same F y->Same y x->(∀b,Z b->x b=H b)->XC K x a vs:=by
 cases h with
 |d r n =>
  cases r with|lst q r=>injection e with e;subst e;exact⟨_,_,_,rfl,f.seq q,Trs.of_reps r,λb hb=>hb.elim,λy x u z _=>(u.trans z).seq q⟩|dct _ _ _=>exact(zH e).elim|_=>cases e
 |lst h _ r n q=>injection e with e;subst e;exact⟨_,_,_,rfl,XC.of h,r.weak,λb hb=>(q b).mpr (.inr hb),λy x _ _ k=>XC.of ((k _ ((q _).mpr (.inl rfl))).trans h)⟩|tup=>cases e|dct=>cases e|lstF h r n=>injection e with e;subst e;exact⟨_,_,_,rfl,f.seq h,Trs.of_reps r,λb hb=>hb.elim,λy x u z _=>(u.trans z).seq h⟩
theorem Tr.tpS(f:Same F H)(h:Tr K F H st v t Z)(e:t.vw=.tp ts):∃a vs S',v=.ref a/\mD K H a vs/\Trs K F H false vs ts S'/\(∀b,S' b->Z b)/\∀y x,Same F y->Same y x->(∀b,Z b->x b=H b)->mD K x a vs:=by
 cases h with
 |d r n =>
  cases r with|tup q r=>injection e with e;subst e;exact⟨_,_,_,rfl,f.tupl q,Trs.of_reps r,λb hb=>hb.elim,λy x u z _=>(u.trans z).tupl q⟩|dct _ _ _=>exact(gK e).elim|_=>cases e
 |tup h _ r n q=>injection e with e;subst e;exact⟨_,_,_,rfl,mD.of h,r.weak,λb hb=>(q b).mpr (.inr hb),λy x _ _ k=>mD.of ((k _ ((q _).mpr (.inl rfl))).trans h)⟩|lst=>cases e|lstF=>cases e|dct=>cases e
theorem Tr.seqS(f:Same F H)(h:Tr K F H st v t Z)(e:t.vw.seq=some ts):∃a vs sz,v=.ref (Src.adr sz)/\xM K H sz vs/\(∃S',Trs K F H false vs ts S')/\a=Src.adr sz/\∀k u,Same F k->Same k u->(∀b,Z b->u b=H b)->xM K u sz vs:=by
 generalize ev:t.vw=w at e;cases w with|ls g=>cases e;obtain⟨a,vs,S',rfl,z,x,_,y⟩:=h.lsS f ev;exact⟨a,vs,.l a,rfl,z,⟨S',x⟩,rfl,y⟩|tp g=>cases e;obtain⟨a,vs,S',rfl,z,x,_,y⟩:=h.tpS f ev;exact⟨a,vs,.t a,rfl,z,⟨S',x⟩,rfl,y⟩|_=>cases e
theorem IH:∀(k:List Key),Reps K F (k.map kV) (k.map kD)
 |[]=>.nil|.inl i::k=>.cons (.int i) (IH k)|.inr z::k=>.cons (.str z) (IH k)
theorem GU{Y:nB}:∀{kvs:List KE}{ds:List D},sG K F kvs->Reps K F (kvs.map (·.2.2)) ds->Paired (rV K F H Y) (kvs.map λp=>.tup [.ref p.2.1,p.2.2]) (((kvs.map λp=>tD p.1).zip ds).map λp=>T.d (.tuple [p.1,p.2]))
 |[],_,_,.nil=>.nil|p::r,_,hk,.cons h t=>by simp only[QO,WG];exact .cons ⟨[_,_],rfl,.cons (.tup (hk p QD) (IH p.1)) (.cons h .nil)⟩ (GU (λp x=>hk p (QE _ x)) t)
theorem FU{Y:nB}:∀{kvs:List KE},sG K F kvs->Paired (rV K F H Y) (kvs.map λp=>.one (.ref p.2.1)) ((kvs.map λp=>tD p.1).map T.d)
 |[],_=>.nil|p::r,hk=>.cons ⟨λ_=>False,.d (.tup (hk p QD) (IH p.1)) λ_ z=>z,λ_ z=>z.elim⟩ (FU λp h=>hk p (QE _ h))
theorem DU{Y:nB}:∀{xs x:List V}{ds es:List D},Reps K F xs ds->Reps K F x es->Paired (rV K F H Y) ((xs.zip x).map λp=>.tup [p.1,p.2]) ((ds.zip es).map λp=>T.d (.tuple [p.1,p.2]))
 |_,_,_,_,.nil,_=>by simp only[List.zip_nil_left,qj];exact .nil|_,_,_,_,.cons _ _,.nil=>by simp only[List.zip_nil_right,qj];exact .nil|_,_,_,_,.cons h t,.cons h' t'=>by simp only[WG,QO];exact .cons ⟨[_,_],rfl,.cons h (.cons h' .nil)⟩ (DU t t')
theorem CQ{Y:nB}:∀{xs:List V}{ds:List D}(_:Reps K F xs ds) (g:Nat->Int) (n:Nat),Paired (rV K F H Y) ((xs.zipIdx n).map λp=>.tup [.int (g p.2),p.1]) ((ds.zipIdx n).map λp=>T.d (.tuple [.int (g p.2),p.1]))
 |_,_,.nil,g,n=>by simp only[List.zipIdx_nil,qj];exact .nil|_,_,.cons h t,g,n=>by simp only[List.zipIdx_cons,QO];exact .cons ⟨[_,_],rfl,.cons (.int _) (.cons h .nil)⟩ (CQ t g (n+1))
theorem OI{ik:ItK}{vs:List V}{RD:List T->Prop}{RR:List Item->(Hp->Prop)->Hp->Prop}(f:Same F H)(J:Tn K F H Y vs ts)(h:bC ik (ts.map T.vw) RD)
  (k:∀xs ys st,Paired (rV K F H Y) xs ys->(∀m l,Same F m->Same m l->(∀b,Y b->l b=H b)->st l)->RD ys->RR xs st H):aC K ik vs H RR:=by
 cases ik with
 |val =>
  rcases h with⟨z,e,h⟩| ⟨Q,e,h⟩| ⟨Q,e,h⟩| ⟨N,Q,e,h⟩
  obtain⟨v,t,Z,rfl,rfl,e,r,_⟩:=J.one e;obtain rfl:=r.str e;exact k _ _ _ (JO (λc=>.str ⟨#[c]⟩) (λc=>.str ⟨#[c]⟩) (λc=>.str _) _) (λ_ _ _ _ _=>trivial) h;obtain⟨v,t,Z,rfl,rfl,e,r,z⟩:=J.one e;obtain⟨p,xs,S',rfl,hp,X,z2,W⟩:=r.lsS f e;exact .inl ⟨xs,hp,k _ _ _ (sZ X λb hb=>z b (z2 b hb)) (λm l y g q=>W m l y g λb hb=>q b (z b hb)) h⟩;obtain⟨v,t,Z,rfl,rfl,e,r,z⟩:=J.one e;obtain⟨p,xs,S',rfl,hp,X,z2,W⟩:=r.tpS f e;exact .inr (.inl ⟨xs,hp,k _ _ _ (sZ X λb hb=>z b (z2 b hb)) (λm l y g q=>W m l y g λb hb=>q b (z b hb)) h⟩);obtain⟨v,t,Z,rfl,rfl,y,L,M⟩:=J.one e;obtain⟨a,o,xs,_,rfl,ha,dk,X,_,W⟩:=L.dc f y;obtain⟨I,s,rfl,rfl,rfl,h4,_⟩:=dk;exact .inr (.inr ⟨I,s,ha,k _ _ _ (FU h4) (λm l y g q=>W m l y g λb hb=>q b (M b hb)) h⟩)
 |rng1=>obtain⟨j,e,h⟩:=h;obtain⟨v,t,Z,rfl,rfl,e,r,_⟩:=J.one e;obtain rfl:=r.int e;exact⟨h.1,k _ _ _ (JO (λ(i:Nat)=>.int (i:Int)) (λ(i:Nat)=>.int (i:Int)) (λc=>.int _) _) (λ_ _ _ _ _=>trivial) h.2⟩|zip2=>obtain⟨ts,Q,O,es,e,R,g4,q⟩:=h;obtain⟨v,w,t,u,Z,Z',rfl,rfl,y,g,L,r2,M,y2⟩:=J.two e;obtain⟨a,xs,_,rfl,hq,X,_,W⟩:=L.lsS f y;obtain⟨b,ys,_,rfl,hq2,rp2,_,hs2⟩:=r2.lsS f g;exact⟨xs,ys,hq,hq2,k _ _ _ (DU (X.un R).1 (rp2.un g4).1) (λm l y g q=>⟨W m l y g λb hb=>q b (M b hb),hs2 m l y g λb hb=>q b (y2 b hb)⟩) q⟩|enum=>obtain⟨x,Q,O,e,g1,R,q⟩:=h;obtain⟨v,t,Z,rfl,rfl,y,L,M⟩:=J.one e;obtain⟨a,xs,sz,rfl,hq,⟨_,X⟩,_,W⟩:=L.seqS f (by rw[y];exact g1);exact⟨sz,xs,rfl,hq,k _ _ _ (CQ (X.un R).1 (λi=>(i:Int)) 0) (λm l y g q=>W m l y g λb hb=>q b (M b hb)) q⟩|itm =>
  rcases h with⟨N,Q,O,e,R,q⟩| ⟨e,q⟩
  rotate_left
  obtain⟨v,t,Z,rfl,rfl,y,L,M⟩:=J.one e;obtain⟨_,X⟩:=L.sc y;generalize ed:PyData.dict []=d at X;cases X with
  |@dct b a o N vs O h q2 r =>
   have ez:N.zip O=[]:=by injection ed with ed;exact ed.symm
   have hl:N.length=O.length:=by rw[q2.len,Reps.length r]
   have ek:N=[]:=by
    cases N with
    |nil=>rfl|cons k N =>
     cases O with|nil=>cases hl|cons d O=>cases ez
   subst ek;have eo:∃I,o=.dT I []:=by
    cases b with
    |true =>
     obtain⟨I,s,y,g,_⟩:=q2;cases s with|nil=>exact⟨I,y⟩|cons p r=>cases g
    |false =>
     rcases q2 with⟨s,n,_,g,_⟩| ⟨I,y,_⟩
     cases s with|nil=>exact absurd rfl n|cons p r=>cases g
     exact⟨I,y⟩
   obtain⟨I,rfl⟩:=eo;exact⟨I,[],f _ _ h,k _ _ _ .nil (λm l y g _=>g _ _ (y _ _ h)) q⟩
  |_=>cases ed
  obtain⟨v,t,Z,rfl,rfl,y,L,M⟩:=J.one e;obtain⟨a,o,xs,_,rfl,ha,dk,X,_,W⟩:=L.dc f y;obtain⟨I,s,rfl,rfl,rfl,h4,_⟩:=dk;exact⟨I,s,ha,k _ _ _ (GU h4 (X.un R).1) (λm l y g q=>W m l y g λb hb=>q b (M b hb)) q⟩
end
end
section
variable{i j:Nat}{Z:nB}
def kH(S:Ft)(i:Nat)(Z:nB):Ft:=λj=>if j=i then Z else S j
theorem zB{S:Ft}:kH S i Z i=Z:=if_pos rfl
theorem JA{S:Ft}(h:j≠i):kH S i Z j=S j:=if_neg h
theorem dA{α:Type}{l:List α}{x y:α}(h:(l.set i x)[j]?=some y):(i=j/\y=x/\i<l.length)∨(i≠j/\l[j]?=some y):=by rw[wR]at h;by_cases e:i=j;subst e;rw[if_pos rfl]at h;by_cases z:i<l.length;rw[if_pos z]at h;cases h;exact .inl ⟨rfl,rfl,z⟩;rw[if_neg z]at h;cases h;rw[if_neg e]at h;exact .inr ⟨e,h⟩
theorem OT{α:Type}{l:List α}{x:α}(h:i<l.length):(l.set i x)[i]?=some x:=by rw[wR,if_pos rfl,if_pos h]
theorem cE{α:Type}{l:List α}{x:α}(h:i≠j):(l.set i x)[j]?=l[j]?:=by rw[wR,if_neg h]
end
section
variable{K:QC}{Γ:Ev}{Ψ:PEv}{E:XE}{L:XK}{F H D G:Hp}{S S1:Ft}{ρ C:kA}{σ:St}
section
variable{Z Y:nB}{J:List Nat}{A X:Hp}{S':Ft}{g:kA}{o:St}{st:Bool}{B:Tg}{k:Nat}{l:List Bool}
theorem Rl.setB(I:Rl K F H S ρ σ)(i:Nat){v:V}{t:T}(r:Tr K F H false v t Z)(hz:∀(j:Nat) u,j≠i->ρ[j]?=some (some (.own u))->∀b,Z b->¬ S j b):Rl K F H (kH S i Z) (ρ.set i (some (.nv t))) (σ.set i (some v)) where
 fh:=I.fh
 len:=by simpa using I.len
 sl:=λj s h=>by
  rcases dA h with⟨rfl,e,m⟩| ⟨w,h⟩
  cases e;exact⟨v,OT (by rw[<- I.len];exact m),by rw[zB];exact r⟩;rw[cE w,JA (Q6 w)];exact I.sl j s h
 dj:=λj k z s n x y b hb hk=>by
  rcases dA x with⟨_,e,_⟩| ⟨f,x⟩
  cases e;rw[JA (Q6 f)]at hb;rcases dA y with⟨e,_,_⟩| ⟨a,y⟩
  subst e;rw[zB]at hk;exact hz j z n x b hk hb;rw[JA (Q6 a)]at hk;exact I.dj j k z s n x y b hb hk
structure Bd(J:List Nat)(F H:Hp)(S:Ft)(ρ:kA)(σ:St)(A X:Hp)(S':Ft)(g:kA)(o:St):Prop where
 ff:Same F A
 hh:Same H X
 fn:∀b,F b=none->A b≠none->H b=none
 out:∀j,j∉J->g[j]?=ρ[j]?/\S' j=S j/\o[j]?=σ[j]?
 inn:∀j t,j∈J->g[j]?≠some (some (.own t))
theorem Bd.U(h:Bd J F H S ρ σ A X S' g o){b:Addr}(u:U g S' b):L3.U ρ S b:=by obtain⟨i,t,x,z⟩:=u;by_cases y:i∈J;exact absurd x (h.inn i t y);obtain⟨w,v,_⟩:=h.out i y;rw[w]at x;rw[v]at z;exact⟨i,t,x,z⟩
theorem Bd.dm(h:Bd J F H S ρ σ A X S' g o)(b:Addr)(e:X b=none):H b=none:=h.hh.free e
theorem AT{Y:nB}(s:∀b,Y b->¬ U ρ S b):∀(w:List Nat) {vs:List V}{ts:List T}{S1:Ft}{C g:kA}{x:St}{J:List Nat},(∀i∈w,i∈J)->Rl K F H S1 C x->(∀b,U C S1 b->U ρ S b)->Tn K F H Y vs ts->VB w ts C=some g ->
  ∃o S',mB w vs x=some o/\Rl K F H S' g o/\(∀j,j∉J->g[j]?=C[j]?/\S' j=S1 j/\o[j]?=x[j]?)/\(∀j t,g[j]?=some (some (.own t))->j∉w/\C[j]?=some (some (.own t)))
 |[],_,_,S1,C,g,x,J,hJ,I,hu,.nil,h=>by simp only[VB,Qr]at h;subst h;exact⟨x,S1,rfl,I,λ_ _=>⟨rfl,rfl,rfl⟩,λj t h=>⟨(by simp),h⟩⟩|[],_,_,_,_,_,_,_,_,_,_,.cons _ _ _,h=>by simp[VB]at h|_::_,_,_,_,_,_,_,_,_,_,_,.nil,h=>by simp[VB]at h|i::w,_,_,S1,C,g,x,J,hJ,I,hu,.cons (v:=v) (t:=t) (Z:=Z) r z tl,h=>by
  simp only[VB]at h;have nu:∀b,Z b->¬ U C S1 b:=λb hb u=>s b (z b hb) (hu b u);have I2:=I.setB i r λj u _ y b hb N=>nu b hb ⟨j,u,y,N⟩;have p:∀b,U (C.set i (some (.nv t))) (kH S1 i Z) b->U ρ S b:=λb ⟨j,u,q,W⟩=>by
   rcases dA q with⟨_,e,_⟩| ⟨n,q⟩
   cases e;rw[JA (Q6 n)]at W;exact hu b ⟨j,u,q,W⟩
  obtain⟨o,S',R,Q,P,O⟩:=AT s w (λj y=>hJ j (QE _ y)) I2 p tl h;refine⟨o,S',R,Q,λj y=>?_,λj u y=>?_⟩;obtain⟨f,a,M⟩:=P j y;have n:i≠j:=λe=>y (e▸hJ i QD);rw[cE n]at f M;rw[JA (Q6 n)]at a;exact⟨f,a,M⟩;obtain⟨f,a⟩:=O j u y;rcases dA a with⟨_,e,_⟩| ⟨n,a⟩
  cases e;exact⟨λm=>(QJ.mp m).elim (λe=>n e.symm) f,a⟩
theorem Tn.of_trs{vs:List V}{ts:List T}(h:Trs K F H st vs ts Z)(z:∀b,Z b->Y b):Tn K F H Y vs ts :=
 Trs.ind (R:=λ_ vs ts Z=>(∀b,Z b->Y b)->Tn K F H Y vs ts) (λ_ _=>.nil) (λh _ _ q x z=>.cons h.weak (λb hb=>z b ((q b).mpr (.inl hb))) (x λb hb=>z b ((q b).mpr (.inr hb)))) h z
theorem NL{it:Item}{t:T}{QP:kA->Prop}{RP:St->Hp->Prop}(I:Rl K F H S ρ σ)(hy:∀b,Y b->¬ U ρ S b)(r:rV K F H Y it t)(h:lI B t ρ QP)
  (k:∀m f w x O,Bd B.ix F H S ρ σ w x O m f->Rl K w x O m f->QP m->RP f x):bindI K B it σ H RP:=by
 have nm:∀(i:Nat) {v:V}{t:T}{Z:nB}{w x:Hp}{O:Ft},Same F w->Same H x->(∀b,F b=none->w b≠none->H b=none)->Rl K w x O ρ σ->O=S->Tr K w x false v t Z->(∀b,Z b->¬ U ρ S b)->QP (ρ.set i (some (.nv t)))->B=.nm i->RP (σ.set i (some v)) x:=by
  intro i v t Z w x O R e2 e3 I2 hS r hz q ht;subst hS ht;refine k _ _ w x (kH O i Z) ⟨R,e2,e3,λj N=>?_,λj u N hu=>?_⟩ (I2.setB i r λj u _ N b hb hs=>hz b hb ⟨j,u,N,hs⟩) q;have n:i≠j:=λe=>N (by subst e;exact QI.mpr rfl);exact⟨cE n,JA (Q6 n),cE n⟩;have e:j=i:=QI.mp N;subst e;rcases dA hu with⟨_,e,_⟩| ⟨n,_⟩
  cases e;exact n rfl
 have tp:∀(y:List Nat) {W:List V}{P:List T}{x:Hp}{g:kA},Same H x->B=.tp y->Tn K F x Y W P->VB y P ρ=some g->QP g->∃o,mB y W σ=some o/\RP o x:=by intro y W P x g e2 ht r e q;subst ht;obtain⟨o,S',g1,g2,g3,g4⟩:=AT hy y (J:=y) (λi hi=>hi) (I.same e2) (λb u=>u) r e;exact⟨o,g1,k _ _ F x S' ⟨.refl _,e2,λb h z=>absurd h z,g3,λj u N hu=>(g4 j u hu).1 N⟩ g2 q⟩
 cases it with
 |one v =>
  obtain⟨Z,r,z⟩:=r;cases B with|nm i=>exact nm i (.refl _) (.refl _) (λb h z=>absurd h z) I rfl r (λb hb=>hy b (z b hb)) h rfl|tp y=>have Q:(match t.vw with | .tp P=>∃g,VB y P ρ=some g/\QP g|_=>False):=h;split at Q;rename_i P e;obtain⟨g,R,q⟩:=Q;obtain⟨a,W,S',rfl,M,rp,z2⟩:=r.tp I.fh e;obtain⟨o,g1,g2⟩:=tp y (.refl _) rfl (Tn.of_trs rp λb hb=>z b (z2 b hb)) R q;exact⟨W,o,M,g1,g2⟩;exact Q.elim
 |tup W =>
  obtain⟨ds,rfl,rd⟩:=r;cases B with|nm i=>intro p M;refine nm i (PB (I.fh.free M)) (PB M) (λb h1 Q=>?_) (I.newT M (.tup W)) rfl (.d (S:=λ_=>False) (.tup (mD.of DA) (rd.mono (PB (I.fh.free M)))) λ_ z=>z) (λb z=>z.elim) h rfl;by_cases hb:b=p;rw[hb];exact M;rw[xA hb]at Q;exact absurd h1 Q|tp y=>intro X s;obtain⟨g,R,q⟩:=h;exact tp y s rfl (Tn.of_trs (Trs.of_reps (st:=false) rd) λb hb=>hb.elim) R q
def k7(k:Nat)(S:Ft):Ft:=λi=>if i<k then λ_=>False else S (i - k)
theorem SM:∀(m:List Bool) (ρ:kA) (i:Nat) s,(vD m ρ)[i]?=some (some s)->ρ[i]?=some (some s)/\m.getD i false=false
 |[],ρ,i,s,h=>by
  have e:vD [] ρ=ρ:=by cases ρ<;>rfl
  rw[e]at h;exact⟨h,rfl⟩
 |b::m,[],i,s,h=>by simp[vD]at h|b::m,v::ρ,0,s,h=>by
  cases b with|true=>simp[vD]at h|false=>simp[vD]at h;simp[h]
 |b::m,v::ρ,i+1,s,h=>by simp only[vD,wv]at h;obtain⟨y,x⟩:=SM m ρ i s h;exact⟨by simpa using y,by simpa using x⟩
theorem PM:∀(m:List Bool) (σ:St) (i:Nat) v,σ[i]?=some (some v)->m.getD i false=false->(zD m σ)[i]?=some (some v)
 |[],σ,i,v,h,_=>by
  have e:zD [] σ=σ:=by cases σ<;>rfl
  rw[e];exact h
 |b::m,[],i,v,h,_=>by simp at h|b::m,w::σ,0,v,h,hb=>by
  have:b=false:=by simpa using hb
  subst this;simpa[zD]using h
 |b::m,w::σ,i+1,v,h,hb=>by simp only[zD,wv];exact PM m σ i v (by simpa using h) (by simpa using hb)
theorem RM:∀(m:List Bool) (ρ:kA),(vD m ρ).length=ρ.length
 |[],ρ=>by cases ρ<;>rfl|_::_,[]=>rfl|b::m,v::ρ=>by simp[vD,RM m ρ]
theorem kG{ρ:kA}{i:Nat}{s:Sl}(h:(pM k l ρ)[i]?=some (some s)):k<=i/\ρ[i - k]?=some (some s)/\l.getD (i - k) false=false:=by unfold pM at h;rcases QA8 i k with z|z;rw[Qx (by simpa using z),wy]at h;split at h<;>cases h;rw[Q1 (by simpa using z)]at h;simp only[qh]at h;obtain⟨y,x⟩:=SM l ρ _ s h;exact⟨z,y,x⟩
theorem Rl.ent(I:Rl K F H S ρ σ)(k:Nat)(l:List Bool):Rl K F H (k7 k S) (pM k l ρ) (uI k l σ) where
 fh:=I.fh
 len:=by simp[pM,uI,RM,NI,I.len]
 sl:=λi s h=>by obtain⟨u,z,y⟩:=kG h;obtain⟨v,a,w⟩:=I.sl _ s z;refine⟨v,?_,?_⟩;unfold uI;rw[Q1 (by simpa using u)];simp only[qh];exact PM l σ _ v a y;unfold k7;rw[if_neg (by omega)];exact w
 dj:=λi j t s n z y b hb x=>by obtain⟨p,f,_⟩:=kG z;obtain⟨m,e,_⟩:=kG y;unfold k7 at hb x;rw[if_neg (by omega)]at hb x;exact I.dj (i - k) (j - k) t s (by omega) f e b hb x
theorem AU(b:Addr):¬ U (pM k l (lockA ρ)) S' b:=λ⟨i,t,h,_⟩=>by obtain⟨_,x,_⟩:=kG h;obtain⟨_,_,e⟩:=XB x;cases e
theorem Paired.get_of{α v:Type}{R:α->v->Prop}{xs:List α}{u:List v}(h:Paired R xs u):∀{i:Nat}{x:α},xs[i]?=some x->∃y,u.drop i=y::u.drop (i+1)/\R x y:=by
 induction h with
 |nil=>intro i x e;simp at e|@cons x y xs u h t a =>
  intro i z e;cases i with|zero=>simp at e;subst e;exact⟨y,by simp,h⟩|succ i=>obtain⟨w,f,b⟩:=a (i:=i) (by simpa using e);exact⟨w,by simpa using f,b⟩
structure Pur(F H A X:Hp):Prop where
 ff:Same F A
 hh:Same H X
 fn:∀b,F b=none->A b≠none->H b=none
theorem Pur.trans{u y:Hp}(a:Pur F H D G)(b:Pur D G u y):Pur F H u y:=⟨a.ff.trans b.ff,a.hh.trans b.hh,λx h z=>by by_cases q:D x=none;exact a.hh.free (b.fn x q z);exact a.fn x h q⟩
theorem Pur.ste(p:Pur F H D G):Ste F H S ρ D G S ρ:=⟨⟨p.ff,λb u h _=>p.hh b u h,λb h=>p.hh.free h,λb h z=>.inr (p.fn b h z),λb h=>.inl h,λ_ _ h _=>⟨h,rfl⟩⟩,λ_ t h=>⟨t,h⟩⟩
theorem Pur.rl(p:Pur F H D G)(f:Same D G)(I:Rl K F H S ρ σ):Rl K D G S ρ σ:=⟨f,I.len,λi s e=>by
 obtain⟨v,y,h⟩:=I.sl i s e;exact⟨v,y,h.mono p.ff λb hb=>by
  obtain⟨x,z⟩:=h.dom b hb;refine⟨?_,?_⟩;cases e:H b with|none=>exact absurd e x|some u=>exact p.hh b u e
  by_cases q:D b=none
  ·exact q
  exact absurd (p.fn b z q) x⟩,I.dj⟩
theorem Stp.pur(s:Stp F H S ρ D G S' g)(n:∀b,¬ U ρ S b):Pur F H D G:=⟨s.ff,λb u h=>s.hh b u h (n b),λb h z=>(s.fn b h z).elim (λq=>absurd q (n b)) id⟩
theorem Pur.trs(p:Pur F H D G){v:List V}{t:List T}(h:Trs K F H st v t Z):Trs K D G st v t Z:=h.mono p.ff λb hb=>by
  obtain⟨x,y⟩:=h.dom b hb;refine⟨?_,?_⟩;cases e:H b with|none=>exact absurd e x|some u=>exact p.hh b u e
  by_cases q:D b=none
  ·exact q
  exact absurd (p.fn b y q) x
theorem K0{ws:List Nat}{P:Nat}{c:kA->(Bool->kA->Prop)->Prop}{e:kA->TK->Prop}{tc:TT}{te:TE}{us:List Nat}
  (ic:∀{F H:Hp}{S:Ft}{ρ:kA}{σ:St}{Q:Bool->kA->Prop}{R:Bool->Hp->Prop},Rl K F H S ρ σ->c ρ Q->jH K F H S ρ σ Q R->tc σ H R)
  (ie:∀{F H:Hp}{S:Ft}{ρ:kA}{σ:St}{Q:TK}{R:VK},Rl K F H S ρ σ->e ρ Q->fB K us F H S ρ σ Q R->te σ H R)
  {F0 H0:Hp}{S0:Ft}{ρ0:kA}(s:Ste F0 H0 S0 ρ0 F H S ρ) (I:Rl K F H S ρ σ) {xs:List Item}{O:List T}{st:Hp->Prop}(pr:Paired (rV K F H Y) xs O) (hyd:∀b,Y b->H b≠none/\F b=none) (hst:∀A X,Same F A->Same A X->(∀b,Y b->X b=H b)->st X) {Q:TK}{R:VK}
  (h:PD (cG B (pM P l (lockA ρ)) c e) O [] λO=>Q (.lst O) true ρ) (k:fB K ws F0 H0 S0 ρ0 σ Q R) :
  sV K xs st B tc te (uI P l σ) H R:=by
 refine V0 ?_;have len:=qZ pr;have yk:∀{A X:Hp},Pur F H A X->∀b,Y b->X b=H b/\A b=none:=λ{A X} p b hb=>by
  obtain⟨d1,d2⟩:=hyd b hb;refine⟨?_,?_⟩;cases e:H b with|none=>exact absurd e d1|some u=>exact p.hh b u e
  by_cases q:A b=none
  ·exact q
  exact absurd (p.fn b d2 q) d1
 refine⟨λi M X=>∃A w W,Pur F H A X/\Same A X/\Trs K A X true M w W/\(∀b,W b->H b=none)/\PD (cG B (pM P l (lockA ρ)) c e) (O.drop i) w λO=>Q (.lst O) true ρ,
  ⟨F,[],λ_=>False,⟨.refl _,.refl _,λb h z=>absurd h z⟩,I.fh,.nil λ_ z=>z,λ_ z=>z.elim,by simpa using h⟩,?_,?_,?_⟩
 rintro i M X _ ⟨A,w,W,p,f,_,_,_⟩;exact hst A X p.ff f λb hb=>(yk p b hb).1;rintro i x M G hx ⟨D,w,W,p1,f1,N,hw,a⟩;obtain⟨y,hd,ry⟩:=Paired.get_of pr hx;rw[hd]at a;unfold PD at a;unfold cG at a;have I1:Rl K D G (k7 P S) (pM P l (lockA ρ)) (uI P l σ):=((p1.rl f1 I).lockA).ent P l;refine NL I1 (λb _=>AU b) (ry.mono p1.ff (yk p1)) a λρ2 σ2 F2 H2 S2 bd I2 a=>?_;have p2:Pur D G F2 H2:=⟨bd.ff,bd.hh,bd.fn⟩
 have nu2:∀b,¬ U ρ2 S2 b:=λb u=>AU b (bd.U u);refine ic I2 a λb F3 H3 S3 ρ3 s3 I3 q=>?_;have p3:Pur F2 H2 F3 H3:=s3.toStp.pur nu2;have nu3:∀b,¬ U ρ3 S3 b:=λb ⟨j,t,h1,_⟩=>by obtain⟨t0,h0⟩:=s3.ow j t h1;by_cases hj:j∈B.ix;exact bd.inn j t0 hj h0;rw[(bd.out j hj).1]at h0;obtain⟨_,h1,_⟩:=kG h0;obtain⟨_,_,e⟩:=XB h1;cases e
 have m:=p1.trans (p2.trans p3);cases b with
 |false=>exact⟨F3,w,W,m,I3.fh,p3.trs (p2.trs N),hw,q⟩|true =>
  refine ie I3 q λv F4 H4 S4 ρ4 z n Z s4 I4 r4 ⟨hk,hl,a⟩=>?_;have p4:Pur F3 H3 F4 H4:=s4.toStp.pur nu3;have ra4:=p4.trs (p3.trs (p2.trs N));have rz:∃Z',Tr K F4 H4 true v z Z'/\∀b,Z' b->H3 b=none:=by
   cases n with
   |true=>exact⟨Z,r4.tr,λb hb=>(r4.fr rfl b hb).elim id λu=>absurd u (nu3 b)⟩|false =>
    cases z with
    |d x =>
     have tr:=r4.tr;cases tr with|d r n=>exact⟨λ_=>False,.d r λ_ z=>z,λ_ z=>z.elim⟩
    |_=>exact absurd hk (by simp[JH,T.isD])
  obtain⟨Z',rz,fz⟩:=rz;refine⟨by rw[N.length];exact hl,F4,_,λb=>W b∨Z' b,m.trans p4,I4.fh,ra4.append (Trs.one rz) λb hb hz=>?_,λb hb=>?_,a⟩;have q1:=(N.dom b hb).1;exact q1 ((p2.trans p3).hh.free (fz b hz));rcases hb with hb|hb
  ·exact hw b hb
  exact m.hh.free (fz b hb)
 rintro M X ⟨A,w,W,p,f,N,hw,a⟩;rw[len,QCI]at a;unfold PD at a;have I':=p.rl f I;refine⟨by rw[N.length];exact a.1,λq hq=>?_⟩;refine fB.list (k.from s) (p.ste) I' hq N (λb hb=>.inl (hw b hb)) ⟨N.dom,λi sl hi b hb z=>?_⟩ a.2;exact(I.dom hi z).1 (hw b hb)
end
end
section
variable{K:QC}{Γ:Ev}{Ψ:PEv}{E:XE}{p:XK}{F H l c:Hp}{S S1:Ft}{ρ y:kA}{σ:St}
theorem Tr.kr{v:V}{u t:T}{Z:nB}(h:Tr K F H false v u Z)(e:tF u=some t):Tr K F H false v t Z:=by
 unfold tF at e;split at e;rename_i ts ev;cases x:bE ts with
 |none=>rw[x]at e;cases e|some f =>
  rw[x]at e;injection e with e;subst e;cases h with
  |d r n =>
   cases r with|lst q r=>injection ev with ev;subst ev;rw[pA]at x;injection x with x;subst x;exact .lstF q r n|dct _ _ _=>exact(zH ev).elim|_=>cases ev
  |lst k w z b a=>injection ev with ev;subst ev;show Tr K F H false _ (.lst (f.map T.d)) Z;rw[<- rK x];exact .lst k w z b a|tup=>cases ev|dct=>cases ev|lstF k w z=>injection ev with ev;subst ev;rw[pA]at x;injection x with x;subst x;exact .lstF k w z
 split at e
 ·injection e with e;subst e;exact h
 cases e
theorem AV.pass{Y:nB}{md:List Md}{vs:List V}{xs:List (T×Bool)}{W:nB}(h:AV K F H md vs xs W Y)(e:Same F l)(k:∀b,W b->l b=H b)(G:∀b,Y b->F b=none->l b=none) :
  ∀{g ts:List T},CA md xs g=some ts->ArgsR K l H Y md vs ts/\NB md ts=g:=by
 induction h with
 |nil h =>
  intro g ts w;cases g with|nil=>simp only[CA,Qr]at w;subst w;exact⟨.nil,rfl⟩|cons _ _=>simp[CA]at w
 |@chg md v vs x xs W Y h t C =>
  intro g ts w;have f:md.headD .ny=.chg:=by generalize md.headD .ny=m at h;cases m<;>first|rfl|cases h
  unfold CA at w;rw[f]at w;cases g with
  |nil=>cases w|cons o g =>
   cases a:CA md.tail xs g with|none=>simp only[a,wr]at w;cases w|some B=>simp only[a,qD,Qr]at w;subst w;obtain⟨s,j⟩:=C k G a;refine⟨.chg f s,?_⟩;unfold NB;rw[f];simp only[j]
 |@new md v vs x xs Z W J Y h r t n q C =>
  intro g ts w;have X:Tr K l H false v (.d x.er) (λ_=>False):=.d (r.kept e λb u hb I=>by rw[k b ((q b).mpr (.inl hb))];exact I) λ_ z=>z;have i:=@C (λb hb=>k b ((q b).mpr (.inr hb))) G;unfold CA at w;cases f:md.headD .ny with
  |chg=>rw[f]at h;cases h|ny =>
   simp only[f,uA]at w;cases a:CA md.tail xs g with|none=>simp only[a,wr]at w;cases w|some B=>simp only[a,qD,Qr]at w;subst w;obtain⟨s,j⟩:=i a;exact⟨.rd (by rw[f];simp) X (λ_ z=>z.elim) s,by unfold NB;rw[f];exact j⟩
  |kr =>
   simp only[f,uA]at w;cases A:tF (.d x.er) with
   |none=>simp only[A]at w;cases w|some u =>
    simp only[A]at w;cases a:CA md.tail xs g with|none=>simp only[a,wr]at w;cases w|some B=>simp only[a,qD,Qr]at w;subst w;obtain⟨s,j⟩:=i a;exact⟨.rd (by rw[f];simp) (X.kr A) (λ_ z=>z.elim) s,by unfold NB;rw[f];exact j⟩
  |nv =>
   simp only[f,uA]at w;cases a:CA md.tail xs g with|none=>simp only[a,wr]at w;cases w|some B=>simp only[a,qD,Qr]at w;subst w;obtain⟨s,j⟩:=i a;exact⟨.rd (by rw[f];simp) X (λ_ z=>z.elim) s,by unfold NB;rw[f];exact j⟩
 |@tmp md v vs x xs Z W Y h r z t C =>
  intro g ts w;have X:Tr K l H false v x Z:=r.mono e λb hb=>⟨rfl,G b (z b hb) (r.dom b hb).2⟩
  have i:=@C k G;unfold CA at w;cases f:md.headD .ny with
  |chg=>rw[f]at h;cases h|ny =>
   simp only[f,uA]at w;cases x with
   |d x =>
    cases a:CA md.tail xs g with|none=>simp only[a,wr]at w;cases w|some B=>simp only[a,qD,Qr]at w;subst w;obtain⟨s,j⟩:=i a;exact⟨.rd (by rw[f];simp) X z s,by unfold NB;rw[f];exact j⟩
   |_=>cases w
  |kr =>
   simp only[f,uA]at w;cases A:tF x with
   |none=>simp only[A]at w;cases w|some u =>
    simp only[A]at w;cases a:CA md.tail xs g with|none=>simp only[a,wr]at w;cases w|some B=>simp only[a,qD,Qr]at w;subst w;obtain⟨s,j⟩:=i a;exact⟨.rd (by rw[f];simp) (X.kr A) z s,by unfold NB;rw[f];exact j⟩
  |nv =>
   simp only[f,uA]at w;cases a:CA md.tail xs g with|none=>simp only[a,wr]at w;cases w|some B=>simp only[a,qD,Qr]at w;subst w;obtain⟨s,j⟩:=i a;exact⟨.rd (by rw[f];simp) X z s,by unfold NB;rw[f];exact j⟩
theorem JD:∀(J:List Nat) (ρ:kA) (i:Nat) s,(clear J ρ)[i]?=some (some s)->i∉J/\ρ[i]?=some (some s)
 |[],ρ,i,s,h=>⟨(by simp),h⟩|j::J,ρ,i,s,h=>by
  unfold clear at h;obtain⟨u,z⟩:=JD J _ i s h;rcases dA z with⟨_,e,_⟩| ⟨n,x⟩
  cases e;exact⟨λm=>(QJ.mp m).elim (λe=>n e.symm) u,x⟩
theorem cN:∀(J:List Nat) (ρ:kA),(clear J ρ).length=ρ.length
 |[],_=>rfl|j::J,ρ=>by unfold clear;rw[cN J];simp
theorem Rl.drop(I:Rl K F H S ρ σ)(x:y.length=ρ.length)(h:∀(i:Nat) s,y[i]?=some (some s)->ρ[i]?=some (some s)):Rl K F H S y σ :=
 ⟨I.fh,x.trans I.len,λi s e=>I.sl i s (h i s e),λi j t s n u z=>I.dj i j t s n (h i _ u) (h j _ z)⟩
theorem yE:∀{J:List Nat}{ρ:kA}{x:List T},xB J ρ=some x->x.length=J.length/\∀(i:Nat) j,J[i]?=some j->∃t,x[i]?=some t/\ρ[j]?=some (some (.own t))
 |[],ρ,x,h=>by simp only[xB,Qr]at h;subst h;exact⟨rfl,λi j e=>by simp at e⟩|j::J,ρ,x,h=>by
  unfold xB at h;split at h;rename_i t e;cases z:xB J ρ with
  |none=>rw[z]at h;cases h|some f =>
   rw[z]at h;injection h with h;subst h;obtain⟨w,v⟩:=yE z;refine⟨by simp[w],λi k hk=>?_⟩;cases i with|zero=>simp at hk;subst hk;exact⟨t,rfl,e⟩|succ i=>obtain⟨u,b,a⟩:=v i k (by simpa using hk);exact⟨u,by simpa using b,a⟩
  cases h
theorem Rl.trs(I:Rl K F H S ρ σ):∀{J:List Nat}{w:List T}{vs:List V},J.Nodup->xB J ρ=some w->vs.map (λv=>some (some v))=J.map (λj=>σ[j]?)->Trs K F H true vs w (λb=>∃j∈J,S j b)
 |[],w,vs,_,h,hv=>by
  simp only[xB,Qr]at h;subst h;cases vs with|nil=>exact .nil λb ⟨j,m,_⟩=>by simp at m|cons _ _=>simp at hv
 |j::J,w,vs,nd,h,hv=>by
  unfold xB at h;split at h;rename_i t e;cases a:xB J ρ with
  |none=>rw[a]at h;cases h|some r =>
   rw[a]at h;injection h with h;subst h;cases vs with
   |nil=>simp at hv|cons v vs =>
    simp only[QO,Wp]at hv;obtain⟨f,q,o⟩:=I.sl j _ e;rw[q]at hv;have:v=f:=by simpa using hv.1
    subst this;have x:=Qk.mp nd;refine .cons o (Rl.trs I x.2 a hv.2) (λb hb ⟨k,hk,z⟩=>?_) λb=>?_;obtain⟨i,n⟩:=W6.mp hk;obtain⟨u,_,g⟩:=(yE a).2 i k n;exact I.dj j k t _ (λz=>x.1 (z▸hk)) e g b hb z;constructor
    ·rintro⟨k,hk,z⟩
     rcases QJ.mp hk with e|e;subst e;exact .inl z;exact .inr ⟨k,e,z⟩
    rintro(z|⟨k,hk,z⟩)
    ·exact⟨j,QD,z⟩
    exact⟨k,QE _ hk,z⟩
  cases h
theorem Rl.setO(I:Rl K F H S ρ σ)(i:Nat){v:V}{t:T}{Z:nB}(f:σ[i]?=some (some v))(r:Tr K F H true v t Z)(hz:∀(j:Nat) s,j≠i->ρ[j]?=some (some s)->∀b,Z b->¬ S j b):Rl K F H (kH S i Z) (ρ.set i (some (.own t))) σ where
 fh:=I.fh
 len:=by simpa using I.len
 sl:=λj s h=>by
  rcases dA h with⟨rfl,e,m⟩| ⟨g,h⟩
  cases e;exact⟨v,f,by rw[zB];exact r⟩;rw[JA (Q6 g)];exact I.sl j s h
 dj:=λj k w s n u x b hb hk=>by
  rcases dA u with⟨e,_,_⟩| ⟨a,u⟩
  subst e;rw[zB]at hb;rcases dA x with⟨e,_,_⟩| ⟨z,x⟩
  exact n e;rw[JA (Q6 z)]at hk;exact hz k s (Q6 z) x b hb hk;rw[JA (Q6 a)]at hb;rcases dA x with⟨e,_,_⟩| ⟨z,x⟩
  subst e;rw[zB]at hk;exact hz j _ n u b hk hb;rw[JA (Q6 z)]at hk;exact I.dj j k w s n u x b hb hk
theorem GK:∀{J:List Nat}{w:List T}{vs:List V}{M:nB}{S1:Ft}{y x:kA},J.Nodup->Rl K F H S1 y σ->Trs K F H true vs w M->vs.map (λv=>some (some v))=J.map (λj=>σ[j]?)->Held F H S1 y M->rC J w y=some x ->
  ∃f,Rl K F H f x σ/\(∀i,i∉J->x[i]?=y[i]?/\f i=S1 i)/\∀i∈J,∀s,x[i]?=some (some s)->(∃t,s=.own t)/\∀b,f i b->M b
 |[],w,vs,M,S1,y,x,nd,I,r,hv,hm,h=>by
  cases w with|nil=>simp only[rC,Qr]at h;subst h;exact⟨S1,I,λ_ _=>⟨rfl,rfl⟩,λi u=>by simp at u⟩|cons _ _=>simp[rC]at h
 |j::J,w,vs,M,S1,y,x,nd,I,r,hv,hm,h=>by
  cases r with
  |nil _=>simp[rC]at h|@cons _ v t vs ts _ Z Q G C n q =>
   simp only[rC]at h;simp only[QO,Wp]at hv;have a:=Qk.mp nd;have R:=I.setO j hv.1.symm G λk s _ hk b hb=>hm.nw k s hk b ((q b).mpr (.inl hb));have W:Held F H (kH S1 j Z) (y.set j (some (.own t))) Q:=⟨λb hb=>hm.dom b ((q b).mpr (.inr hb)),λi s u b hb z=>by
    rcases dA u with⟨rfl,_,_⟩| ⟨X,u⟩
    rw[zB]at z;exact n b z hb;rw[JA (Q6 X)]at z;exact hm.nw i s u b ((q b).mpr (.inr hb)) z⟩
   obtain⟨f,P,B,O⟩:=GK a.2 R C hv.2 W h;refine⟨f,P,λi u=>?_,λi u s Y=>?_⟩;have A:j≠i:=λe=>u (e▸QD);obtain⟨o,g⟩:=B i λm=>u (QE _ m);rw[cE A]at o;rw[JA (Q6 A)]at g;exact⟨o,g⟩;rcases QJ.mp u with e|e
   ·subst e
    obtain⟨o,g⟩:=B i a.1;rw[o]at Y;rcases dA Y with⟨_,e,_⟩| ⟨X,_⟩
    injection e with e;refine⟨⟨t,e⟩,λb hb=>?_⟩;rw[g,zB]at hb;exact(q b).mpr (.inl hb);exact absurd rfl X
   obtain⟨N,L⟩:=O i e s Y;exact⟨N,λb hb=>(q b).mpr (.inr (L b hb))⟩
theorem J7{f:Str}{as:PX}(g:GOk K Γ Ψ)(ia:PSnd K Γ Ψ as)(I:Rl K F H S ρ σ)(X:OE K F H S ρ E p){Q:TK}{R:VK}{ws:List Nat}(h:(pe Ψ (.call f as) E).e ρ Q)(k:fB K ws F H S ρ σ Q R):(wp K Γ (.call f as) p).e σ H R:=by
 obtain⟨os,ho,nd,h⟩:=h;generalize hJ:fA (Ψ.sp f).md as=J at ho nd h;have C:∀j∈J,∃t,ρ[j]?=some (some (.own t)):=λj A=>by obtain⟨i,hi⟩:=W6.mp A;obtain⟨t,_,e⟩:=(yE ho).2 i j hi;exact⟨t,e⟩
 have I0:Rl K F H S (clear J ρ) σ:=I.drop (cN J ρ) λi s e=>(JD J ρ i s e).2;have P:∀b,U (clear J ρ) S b->U ρ S b:=λb ⟨i,t,h1,O⟩=>⟨i,t,(JD J ρ i _ h1).2,O⟩
 have X0:OE K F H S (clear J ρ) E p:=λx dx F2 H2 S2 L m ff r q=>X x dx F2 H2 (λ_ _=>False) [] ⟨m.ff,λb u e n=>m.hh b u e λz=>n (P b z),m.dm,λb e z=>(m.fn b e z).imp (P b) id,λb ⟨i,t,e,_⟩=>by simp at e,λj t e=>by simp at e⟩ ff r q;have hm:∀j∈fA (Ψ.sp f).md as,∃v,σ[j]?=some (some v):=λj A=>by obtain⟨t,e⟩:=C j (hJ▸A);obtain⟨v,h1,_⟩:=I.sl j _ e;exact⟨v,h1⟩
 show(wp K Γ as p).a σ H λvs c=>Γ.sp f vs c R p;refine ia.a I0 X0 hm h λvs l c S1 y xs W Y s1 I1 r1 mv q1=>?_;rw[hJ]at mv;obtain⟨ts,hp,q1⟩:=q1;have hw:=r1.held;have m:=s1.frz (λb hb=>(hw.dom b hb).2) r1.fr;have I2:=I1.frz hw;have yk:∀b,Y b->l b=none->vI l c W b=none:=λb hy hf=>by obtain⟨i,sl,_,O,h3⟩:=r1.tm b hy;rw[JC λz=>r1.nw i sl O b z h3];exact hf
 obtain⟨ar,mt⟩:=r1.av.pass (BG λb hb=>(hw.dom b hb).2) (λb hb=>kI hb) yk hp;generalize vI l c W=F2 at m I2 yk ar;have M0:=I.trs nd ho mv;have hM:Held F H S (clear J ρ) (λb=>∃j∈J,S j b):=⟨λb ⟨j,A,hb⟩=>let⟨t,e⟩:=C j A;I.dom e hb,λi s e b ⟨j,A,hb⟩ z=>by obtain⟨G,B⟩:=JD J ρ i s e;obtain⟨t,et⟩:=C j A;exact I.dj j i t s (λq=>G (q▸A)) et B b hb z⟩
 have N:=hM.step m.toStp I2;have M2:Trs K F2 c true (eB (Ψ.sp f).md vs) (NB (Ψ.sp f).md ts) (λb=>∃j∈J,S j b):=by
  rw[mt];refine M0.mono m.ff λb hb=>?_;refine⟨?_,(N.dom b hb).2⟩;cases e:H b with|none=>exact absurd e (hM.dom b hb).1|some u=>exact m.hh b u e (hM.nu b hb)
 refine g.sp f vs c R p ⟨F2,ts,_,Y,I2.fh,ar,M2,λb hy hb=>?_,?_⟩;obtain⟨i,sl,_,O,h3⟩:=r1.tm b hy;exact N.nw i sl O b hb h3
 ·have up:∀b,(∃j∈J,S j b)->U ρ S b:=λb ⟨j,A,hb⟩=>let⟨t,e⟩:=C j A;⟨j,t,e,hb⟩
  have lk:∀b,(∃j∈J,S j b)∨c b=none->U ρ S b∨H b=none:=λb hb=>hb.imp (up b) (m.dm b);refine(Ψ.sp f).mono ?_ ?_ q1
  rotate_left
  rintro x qx dx F' H' o xr;refine X x dx F' H' (λ_ _=>False) [] ⟨m.ff.trans o.ff,λb u e n=>o.hh b u (m.hh b u e λz=>n (P b z)) λz=>n (up b z),λb e=>m.dm b (o.dm b e),λb e z=>?_,λb ⟨i,t,e,_⟩=>by simp at e,λj t e=>by simp at e⟩ o.fh xr qx;by_cases q:F2 b=none;exact lk b (o.fn b q z);exact(m.fn b e q).imp (P b) id;rintro r os' ⟨L,hput,q⟩ v F' H' Z M' o tr trs dz hf;have I3:Rl K F' H' S1 y σ:=⟨o.fh,I2.len,λi s e=>by
   obtain⟨w,g1,g2⟩:=I2.sl i s e;refine⟨w,g1,g2.mono o.ff λb hb=>?_⟩;obtain⟨d1,d2⟩:=g2.dom b hb;have nM:¬ ∃j∈J,S j b:=λz=>N.nw i s e b z hb;refine⟨?_,?_⟩;cases e:c b with|none=>exact absurd e d1|some u=>exact o.hh b u e nM
   by_cases z:F' b=none
   ·exact z
   exact((o.fn b d2 z).elim nM d1).elim,I2.dj⟩
  have nw3:∀b,(∃j∈J,S j b)∨c b=none->∀(i:Nat) s,y[i]?=some (some s)->¬ S1 i b:=λb hb i s e z=>by rcases hb with hb|hb;exact N.nw i s e b hb z;exact(I2.dom e z).1 hb
  have hM':Held F' H' S1 y M':=⟨trs.dom,λi s e b hb=>nw3 b (hf b (.inr hb)) i s e⟩
  obtain⟨S2,I4,g2,g3⟩:=GK nd I3 trs mv hM' hput;have M:∀i s,L[i]?=some (some s)->(i∈J/\(∃t,s=.own t)/\∀b,S2 i b->M' b)∨(i∉J/\y[i]?=some (some s)/\S2 i=S1 i):=λi s e=>by by_cases hi:i∈J;exact .inl ⟨hi,g3 i hi s e⟩;obtain⟨G,B⟩:=g2 i hi;exact .inr ⟨hi,G▸e,B⟩
  have st:Ste F H S ρ F' H' S2 L:=⟨⟨m.ff.trans o.ff,λb u e n=>o.hh b u (m.hh b u e λz=>n (P b z)) λz=>n (up b z),λb e=>m.dm b (o.dm b e),λb e z=>by
    by_cases q:F2 b=none;exact lk b (o.fn b q z);exact(m.fn b e q).imp (P b) id,
   λb ⟨i,t,h1,O⟩=>by
    rcases M i _ h1 with⟨_,_,e⟩| ⟨_,G,B⟩
    exact lk b (hf b (.inr (e b O)));rw[B]at O;exact(m.uu b ⟨i,t,G,O⟩).imp (P b) id,
   λj t e hd=>by
    rcases M j _ e with⟨_,⟨t',z⟩,_⟩| ⟨_,G,B⟩
    cases z;obtain⟨b1,b2⟩:=m.bo j t G hd;exact⟨(JD J ρ j _ b1).2,B.trans b2⟩⟩,
   λj t e=>by
    rcases M j _ e with⟨A,_,_⟩| ⟨_,G,B⟩
    exact C j A;obtain⟨t0,e0⟩:=m.ow j t G;exact⟨t0,(JD J ρ j _ e0).2⟩⟩
  refine k v F' H' S2 L r true Z st I4 ⟨tr,λ_ b hb=>?_,λz=>(by cases z),λ_ i s e b hb z=>?_⟩ q;exact(lk b (hf b (.inl hb))).symm;rcases M i s e with⟨_,_,B⟩| ⟨_,G,B⟩
  ·exact dz b hb (B b z)
  rw[B]at z;exact nw3 b (hf b (.inl hb)) i s G z
end
section
variable{K:QC}{Γ:Ev}{Ψ:PEv}{E:XE}{O:XK}{F H F1 H1:Hp}{S S1:Ft}{ρ Q:kA}{σ:St}
section
variable{j i:Nat}{t s:T}{b:Bool}{G C:Hp}{B:Ft}{Y:kA}{W P Z:nB}{vs L:List V}{ts us:List T}{a:Addr}{M o:HO}{v A J:V}{x y:D}{ks:List D}{R:Hp->Prop}{N:T->Prop}
theorem gC(z:ρ[j]?=some (some (.own t))){s:Sl}(h:(ρ.set j (some (.nv t)))[i]?=some (some s)):(i=j/\s=.nv t)∨(i≠j/\ρ[i]?=some (some s)):=by
 rcases dA h with⟨rfl,e,_⟩| ⟨n,h⟩
 injection e with e;exact .inl ⟨rfl,e⟩;exact .inr ⟨Q6 n,h⟩
theorem Rl.lock1(I:Rl K F H S ρ σ)(h:ρ[j]?=some (some (.own t))):Rl K F H S (ρ.set j (some (.nv t))) σ where
 fh:=I.fh
 len:=by simpa using I.len
 sl:=λi s e=>by
  rcases gC h e with⟨rfl,rfl⟩| ⟨_,e⟩
  obtain⟨v,g,f⟩:=I.sl i _ h;exact⟨v,g,f.weak⟩;exact I.sl i s e
 dj:=λi k u s n p m=>by
  rcases gC h p with⟨_,z⟩| ⟨r,w⟩
  cases z;rcases gC h m with⟨q,_⟩| ⟨_,l⟩
  ·exact I.dj i k u _ n w (q▸h)
  exact I.dj i k u s n w l
theorem Rl.lock1U(I:Rl K F H S ρ σ)(w:ρ[j]?=some (some (.own t)))(b:Addr)(hb:S j b):¬ U (ρ.set j (some (.nv t))) S b:=λ⟨i,u,h,k⟩=>by
 rcases gC w h with⟨_,z⟩| ⟨n,h⟩
 cases z;exact I.dj i j u _ n h w b k hb
theorem lock1U(k:ρ[j]?=some (some (.own t))){b:Addr}(h:U (ρ.set j (some (.nv t))) S b):U ρ S b:=by
 obtain⟨i,u,w,e⟩:=h;rcases gC k w with⟨_,z⟩| ⟨n,w⟩
 cases z;exact⟨i,u,w,e⟩
theorem OE.lock1(X:OE K F H S ρ E O)(w:ρ[j]?=some (some (.own t))):OE K F H S (ρ.set j (some (.nv t))) E O:=λx k G C B Y h f r q =>
 X x k G C (λ_ _=>False) [] ⟨h.ff,λb u e n=>h.hh b u e λz=>n (lock1U w z),h.dm,λb e z=>(h.fn b e z).imp (lock1U w) id,λb ⟨i,t,e,_⟩=>by simp at e,λj t e=>by simp at e⟩ f r q
theorem YQ(I:Rl K F H S ρ σ)(h:ρ[j]?=some (some (.own t)))(s:Ste F H S (ρ.set j (some (.nv t))) G C B Y)(l:Rl K G C B Y σ){b:Addr}(hb:S j b) :
  ∀(i:Nat) w,i≠j->Y[i]?=some (some w)->¬ B i b:=λi w n e z=>by
 cases w with
 |own u=>rcases s.uu b ⟨i,u,e,z⟩ with q|q;exact I.lock1U h b hb q;exact(I.dom h hb).1 q
 |nv u =>
  cases f:u.isD with
  |true=>exact l.isD e f z|false =>
   obtain⟨k,g⟩:=s.bo i u e f;rw[g]at z;rcases gC h k with⟨q,_⟩| ⟨_,k⟩
   exact n q;exact I.dj j i t _ (Q6 n) h k b hb z
theorem LH{t':T}{v0:V}{m:Hp}{Z':nB}(I:Rl K F H S ρ σ)(w:ρ[j]?=some (some (.own t)))(hv:σ[j]?=some (some v0))(s:Ste F H S (ρ.set j (some (.nv t))) G C B Y)(l:Rl K G C B Y σ)
  (hH:∀b u,C b=some u->¬ S j b->m b=some u) (dm:∀b,m b=none->C b=none) (r:Tr K G m true v0 t' Z') (hz:∀b,Z' b->S j b∨W b∨C b=none) (hw:Held G C B Y W) (frW:∀b,W b->H b=none∨U (ρ.set j (some (.nv t))) S b) :
  Ste F H S ρ G m (kH B j Z') (Y.set j (some (.own t')))/\Rl K G m (kH B j Z') (Y.set j (some (.own t'))) σ/\∀b,S j b∨W b∨C b=none->∀(i:Nat) h,i≠j->Y[i]?=some (some h)->¬ B i b:=by
 have nw:∀b,S j b∨W b∨C b=none->∀(i:Nat) h,i≠j->Y[i]?=some (some h)->¬ B i b:=λb hb i h n e z=>by rcases hb with hb|hb|hb;exact YQ I w s l hb i h n e z;exact hw.nw i h e b hb z;exact(l.dom e z).1 hb
 have uj:∀b,S j b->U ρ S b:=λb hb=>⟨j,t,w,hb⟩
 have lk:∀b,S j b∨W b∨C b=none->U ρ S b∨H b=none:=λb hb=>by rcases hb with hb|hb|hb;exact .inl (uj b hb);exact(frW b hb).symm.imp (lock1U w) id;exact .inr (s.dm b hb)
 have fS:∀b,S j b->G b=none:=λb hb=>by
  by_cases q:G b=none;exact q;rcases s.fn b (I.dom w hb).2 q with z|z
  ·exact absurd z (I.lock1U w b hb)
  exact absurd z (I.dom w hb).1
 have fh:Same G m:=λb u e=>hH b u (l.fh b u e) λz=>by rw[fS b z]at e;cases e
 have I3:Rl K G m B (Y.set j none) σ:=⟨fh,by simpa using l.len,λi h e=>by
   rcases dA e with⟨_,z,_⟩| ⟨n,e⟩
   cases z;obtain⟨v,p,f⟩:=l.sl i h e;refine⟨v,p,f.mono (.refl _) λb hb=>⟨?_,(f.dom b hb).2⟩⟩;cases eb:C b with|none=>exact absurd eb (f.dom b hb).1|some u=>exact hH b u eb λz=>YQ I w s l z i h (Q6 n) e hb,
  λi k u h n g X=>by
   rcases dA g with⟨_,z,_⟩| ⟨_,g⟩
   cases z;rcases dA X with⟨_,z,_⟩| ⟨_,X⟩
   ·cases z
   exact l.dj i k u h n g X⟩
 have I4:=I3.setO j hv r λi h n e b hb=>by
  rcases dA e with⟨_,z,_⟩| ⟨_,e⟩
  cases z;exact nw b (hz b hb) i h n e
 have es:(Y.set j none).set j (some (.own t'))=Y.set j (some (.own t')):=by simp
 rw[es]at I4;refine⟨⟨⟨s.ff,λb u e n=>hH b u (s.hh b u e λz=>n (lock1U w z)) λz=>n (uj b z),λb e=>s.dm b (dm b e),λb e z=>(s.fn b e z).imp (lock1U w) id,λb ⟨i,u,p,f⟩=>?_,λi u e hd=>?_⟩,λi u e=>?_⟩,I4,nw⟩;rcases dA p with⟨rfl,_,_⟩| ⟨n,p⟩
 ·rw[zB]at f
  exact lk b (hz b f)
 rw[JA (Q6 n)]at f;exact(s.uu b ⟨i,u,p,f⟩).imp (lock1U w) id;rcases dA e with⟨rfl,z,_⟩| ⟨n,e⟩
 ·cases z
 obtain⟨g,X⟩:=s.bo i u e hd;rcases gC w g with⟨z,_⟩| ⟨_,g⟩
 exact absurd z.symm n;exact⟨g,by rw[JA (Q6 n)];exact X⟩;rcases dA e with⟨rfl,_,_⟩| ⟨n,e⟩
 ·exact⟨t,w⟩
 obtain⟨t0,e0⟩:=s.ow i u e;rcases gC w e0 with⟨_,z⟩| ⟨_,e0⟩
 cases z;exact⟨t0,e0⟩
theorem Trs.erase{st:Bool}{S:nB}{k:Nat}(h:Trs K F H st vs ts S)(e:ts[k]?=some t):∃v P1 u,vs[k]?=some v/\Tr K F H st v t P1/\Trs K F H st (vs.eraseIdx k) (ts.eraseIdx k) u/\(∀b,P1 b->¬ u b)/\∀b,P1 b∨u b->S b:=by
 revert k;refine Trs.ind (R:=λst vs ts S=>∀{k:Nat},ts[k]?=some t->∃v P1 u,vs[k]?=some v/\Tr K F H st v t P1/\Trs K F H st (vs.eraseIdx k) (ts.eraseIdx k) u/\(∀b,P1 b->¬ u b)/\∀b,P1 b∨u b->S b) (λn k e=>by cases e) (λ{_ _ _ _ _ _ r _} h t n q f k e=>?_) h;cases k with|zero=>cases e;exact⟨_,_,_,rfl,h,t,n,λb hb=>(q b).mpr hb⟩|succ k=>obtain⟨v,P1,u,p,m,l,g,w⟩:=f (k:=k) e;refine⟨v,P1,λb=>r b∨u b,p,m,.cons h l (λb hb z=>n b hb (w b (.inr z))) λb=>Wn,λb hb z=>z.elim (λz=>n b z (w b (.inl hb))) (g b hb),λb hb=>(q b).mpr ?_⟩;rcases hb with hb|hb|hb;exact .inr (w b (.inl hb));exact .inl hb;exact .inr (w b (.inr hb))
theorem SH{α:Type}:∀{l:List α}{k:α},l.Nodup->¬ k∈l->(l++[k]).Nodup
 |[],k,_,_=>by simp|a::r,k,h,hk=>by obtain⟨u,z⟩:=Qk.mp h;show(a::(r++[k])).Nodup;refine Qk.mpr ⟨λm=>?_,SH z λm=>hk (QJ.mpr (Or.inr m))⟩;rcases Qg.mp m with q|q;exact u q;exact hk (QJ.mpr (Or.inl (QI.mp q).symm))
theorem vK(h:F a=none)(r:Trs K F H true L us P)(n:¬ P a):Tr K F (OA H a (.lst L)) true (.ref a) (.lst us) λb=>b=a∨P b :=
 .lst (S':=P) DA h (r.mono (.refl _) λb hb=>⟨xA λz=>n (z▸hb),(r.dom b hb).2⟩) n λb=>Wn
theorem sD(w:Z a)(b:Addr)(u:HO)(e:H b=some u)(hb:¬ Z b):OA H a M b=some u:=by have h:b≠a:=λz=>hb (by rw[z];exact w);rw[xA h];exact e
theorem HB(b:Addr)(e:OA H a M b=none):H b=none:=by by_cases hb:b=a;rw[hb,DA]at e;cases e;rw[xA hb]at e;exact e
theorem f6{m:Mt}{N:T->T->Prop}{R:VK}(f:Same F H)(r:Tr K F H true v s Z)(rv:Trs K F H true vs ts W)(dj:∀b,Z b->¬ W b)(h:bL m s ts N)
  (k:∀w r s' H' S1 Zr,(∀b u,H b=some u->¬ Z b->H' b=some u)->(∀b,H' b=none->H b=none)->Tr K F H' true v s' S1->Tr K F H' true w r Zr->(∀b,Zr b->¬ S1 b)->(∀b,S1 b∨Zr b->Z b∨W b∨H b=none)->N r s'->R w H'):r6 K m v vs H R:=by
 cases m with
 |append =>
  obtain⟨us0,t0,rfl,rfl,h⟩:=h;cases r with
  |@lst _ a p _ _ S' h1 h2 l I g =>
   have e:Z a:=(g a).mpr (.inl rfl);cases rv with
   |@cons _ w t ws us _ W1 W2 X r2 n q =>
    cases r2 with
    |nil n2 =>
     have hW:∀b,W b↔W1 b:=λb=>by rw[q b];simp[n2 b]
     refine⟨a,p,w,rfl,rfl,h1,by rw[l.length];exact h.1,k .non (.d .none) _ _ _ (λ_=>False) (sD e) HB (vK h2 (Trs.append l (Trs.one X) λb hb hw=>dj b ((g b).mpr (.inr hb)) ((hW b).mpr hw)) λz=>z.elim I λz=>dj a e ((hW a).mpr z)) (.d .non λ_ z=>z) (λ_ z=>z.elim) (λb hb=>?_) h.2⟩;rcases hb with(hb|hb|hb)|hb;exact .inl (hb▸e);exact .inl ((g b).mpr (.inr hb));exact .inr (.inl ((hW b).mpr hb));exact hb.elim
 |pop =>
  obtain⟨us0,i,j,t0,rfl,rfl,hi,ht,q⟩:=h;cases r with
  |@lst _ a p _ _ S' h1 h2 l I g =>
   have e:Z a:=(g a).mpr (.inl rfl);obtain⟨w,P1,P2,g1,g2,g3,g4,g5⟩:=l.erase ht;have na:¬ P1 a:=λz=>I (g5 a (.inl z));have nb:¬ P2 a:=λz=>I (g5 a (.inr z));cases rv with
   |cons X r2 n q2 =>
    cases r2;cases X with
    |d X n1 =>
     cases X;refine⟨a,i,p,j,w,rfl,rfl,h1,by rw[l.length];exact hi,g1,k w t0 _ _ _ P1 (sD e) HB (vK h2 g3 nb) (g2.mono (.refl _) λb hb=>⟨xA λz=>na (z▸hb),(g2.dom b hb).2⟩) (λb hb z=>?_) (λb hb=>?_) q⟩;rcases z with z|z
     ·exact na (z▸hb)
     exact g4 b hb z;rcases hb with(hb|hb)|hb
     ·exact .inl (hb▸e)
     exact .inl ((g b).mpr (.inr (g5 b (.inr hb))));exact .inl ((g b).mpr (.inr (g5 b (.inl hb))))
 |reverse =>
  obtain⟨ds,rfl,rfl,q⟩:=h;cases rv;cases r with|@lst _ a p _ _ S' h1 h2 l I g=>have e:Z a:=(g a).mpr (.inl rfl);exact⟨a,p,rfl,rfl,h1,k .non (.d .none) _ _ _ (λ_=>False) (sD e) HB (vK h2 (Trs.of_reps (l.un (pA ds)).1.reverse) λz=>z) (.d .non λ_ z=>z) (λ_ z=>z.elim) (λb hb=>by rcases hb with(hb|hb)|hb;exact .inl (hb▸e);exact hb.elim;exact hb.elim) q⟩
 |_=>exact h.elim
theorem Trs.setD(w:Rep K F A x){S:nB}(n:Nat)(h:Trs K F H true vs ts S):∃P,Trs K F H true (vs.set n A) (ts.set n (.d x)) P/\∀b,P b->S b:=by
 revert n;refine Trs.ind (R:=λst vs ts S=>∀n:Nat,∃P,Trs K F H st (vs.set n A) (ts.set n (.d x)) P/\∀b,P b->S b) (λ{_ S} z n=>⟨S,.nil z,λ_ h=>h⟩) (λ{_ _ _ _ _ _ S1 B} h t m q k n=>?_) h;cases n with|zero=>exact⟨B,.cons (S1:=λ_=>False) (.d w λ_ z=>z) t (λ_ z=>z.elim) λb=>by simp,λb hb=>(q b).mpr (.inr hb)⟩|succ n=>obtain⟨P,e,u⟩:=k n;exact⟨λb=>S1 b∨P b,.cons h e (λb hb z=>m b hb (u b z)) λb=>Wn,λb hb=>(q b).mpr (hb.imp id (u b))⟩
theorem Trs.part{S:nB}(h:Trs K F H true vs ts S)(e:ts[i]?=some t):∃v S1,vs[i]?=some v/\Tr K F H true v t S1/\(∀b,S1 b->S b) /\
  ∀(w:Hp) t' u,(∀b,S b->¬ S1 b->w b=H b)->Tr K F w true v t' u->(∀b,u b->S1 b)->∃P,Trs K F w true vs (ts.set i t') P/\∀b,P b->S b:=by
 revert i;refine Trs.ind (R:=λst vs ts S=>∀{i:Nat},ts[i]?=some t->∃v S1,vs[i]?=some v/\Tr K F H st v t S1/\(∀b,S1 b->S b)/\∀(w:Hp) t' u,(∀b,S b->¬ S1 b->w b=H b)->Tr K F w st v t' u->(∀b,u b->S1 b)->∃P,Trs K F w st vs (ts.set i t') P/\∀b,P b->S b) (λn i e=>by cases e) (λ{_ _ _ _ _ _ m P2} h t n q p i e=>?_) h;cases i with|zero=>cases e;exact⟨_,m,rfl,h,λb hb=>(q b).mpr (.inl hb),λw t' u k r f=>⟨λb=>u b∨P2 b,.cons r (t.mono (.refl _) λb hb=>⟨k b ((q b).mpr (.inr hb)) λz=>n b z hb,(t.dom b hb).2⟩) (λb hb z=>n b (f b hb) z) λb=>Wn,λb hb=>(q b).mpr (hb.imp (f b) id)⟩⟩|succ i=>obtain⟨v,S1,h1,h2,g,I⟩:=p (i:=i) e;refine⟨v,S1,h1,h2,λb hb=>(q b).mpr (.inr (g b hb)),λw t' u k r f=>?_⟩;obtain⟨P,g1,l⟩:=I w t' u (λb hb X=>k b ((q b).mpr (.inr hb)) X) r f;exact⟨λb=>m b∨P b,.cons (h.mono (.refl _) λb hb=>⟨k b ((q b).mpr (.inl hb)) λz=>n b hb (g b z),(h.dom b hb).2⟩) g1 (λb hb z=>n b hb (l b z)) λb=>Wn,λb hb=>(q b).mpr (hb.imp id (l b))⟩
def Si(ks:List D)(k:D):List D:=match lA ks k with
 |some _=>ks|none=>ks++[k]
def Mi{α:Type}(ks:List D)(vs:List α)(k:D)(x:α):List α:=match lA ks k with
 |some n=>vs.set n x|none=>vs++[x]
theorem EN{α u:Type}[DecidableEq α](k:α)(h:u->α)(f:u->u)(hf:∀p,h (f p)=h p):∀(l:List u) (n:Nat),(l.map h).Nodup->(l.map h)[n]?=some k->(∀(g:u->V) (x:V),(∀p,h p=k->g (f p)=x)->(l.map λp=>if h p=k then f p else p).map g=(l.map g).set n x)
 |[],n,_,e=>by simp at e|p::r,0,nd,e=>by
  intro g x m;have e:h p=k:=by simpa using e
  rw[QO]at nd;obtain⟨w,X⟩:=Qk.mp nd;have e2:(r.map λp=>if h p=k then f p else p)=r:=by rw[show r=r.map id from(List.map_id r).symm,Qb];refine We λq hq=>?_;have:h q≠k:=λz=>w (Qe.mpr ⟨q,by simpa using hq,z.trans e.symm⟩);simp[this]
  rw[QO,e2,QO,QO,if_pos e,m p e];rfl
 |p::r,n+1,nd,e=>by
  intro g x m;rw[QO]at nd;obtain⟨w,X⟩:=Qk.mp nd;have e:(r.map h)[n]?=some k:=by simpa using e
  have I:¬ h p=k:=λz=>w (by rw[z];exact qB e);rw[QO,QO,QO,if_neg I,EN k h f hf r n X e g x m];rfl
theorem put_keys{α h u:Type}[DecidableEq α](k:α)(z:h->α)(f:h->h)(g:h->u)(w:∀p,g (f p)=g p)(l:List h):(l.map λp=>if z p=k then f p else p).map g=l.map g:=by rw[Qb];refine We λp _=>?_;show g (if z p=k then f p else p)=g p;split;exact w p;rfl
theorem KI.put{k:D}(f:Same F H)(ha:H a=some o)(dk:KI K F b o ks vs)(ry:Rep K F J k)(hk:UE b k)(hl:ks.length<sizeLine)
  (kk:∀o',KI K F b o' (Si ks k) (Mi ks vs k A)->R (OA H a o')):HP K (.ref a) J A H R:=by
 cases b with
 |true =>
  obtain⟨ep,h,rfl,rfl,rfl,h4,r⟩:=dk;obtain⟨q,rfl⟩:=hk;cases ry with
  |@tup p _ _ hq rq =>
   cases iG rq;refine⟨ep,h,q,ha,λp hp=>f.tupl (h4 p hp),f.tupl hq,by simpa using hl,λX=>kk _ ?_⟩;have u:=aG q h;unfold FK Si Mi;cases e:lA (h.map λp=>tD p.1) (tD q) with
   |none =>
    rw[e]at u;have u:MG h q=none:=u;rw[u];refine⟨X,h++[(q,p,A)],rfl,by simp,by simp,λx g=>?_,?_⟩;rcases Qg.mp g with g|g
    ·exact h4 x g
    rw[QI.mp g];exact hq;rw[QU];refine SH r λm=>cC.mp e ?_;obtain⟨x,g,ex⟩:=Qe.mp m;exact Qe.mpr ⟨x,g,by rw[ex]⟩
   |some n =>
    rw[e]at u;have w:=MD e;have l:(h.map (·.1))[n]?=some q:=by
     rw[Qa]at w ⊢;cases I:h[n]? with|none=>rw[I]at w;cases w|some x=>rw[I]at w;rw[qD,Qr]at w ⊢;exact eX w
    have hs:(MG h q).isSome=true:=by
     rw[u];have:n<h.length:=by have:=(Qd.mp l).1;simpa using this
     simp[this]
    rw[if_pos hs];refine⟨X,_,rfl,(put_keys q (·.1) (λp=>(p.1,p.2.1,A)) (λp=>tD p.1) (λ_=>rfl) h).symm,(EN q (·.1) (λp=>(p.1,p.2.1,A)) (λ_=>rfl) h n r l (·.2.2) A λ_ _=>rfl).symm,λx g=>?_,?_⟩;obtain⟨y,hy,ey⟩:=Qe.mp g;have hy:=h4 y hy;by_cases z:y.1=q;rw[if_pos z]at ey;subst ey;exact hy;rw[if_neg z]at ey;subst ey;exact hy;have:=put_keys q (·.1) (λp:KE=>(p.1,p.2.1,A)) (·.1) (λ_=>rfl) h;rw[this];exact r
 |false =>
  obtain⟨z,rfl⟩:=hk;cases ry;rcases dk with⟨h,hne,rfl,rfl,rfl,r⟩| ⟨ep,rfl,rfl,rfl⟩
  rotate_left
  exact .inr ⟨ep,ha,kk _ (.inl ⟨[(.inr z,A)],by simp,rfl,rfl,rfl,by simp⟩)⟩;refine .inl ⟨h,ha,by simpa using hl,kk _ (.inl ?_)⟩;have u:=VI (.inr z) h;have ez:kD (.inr z)=.str z:=rfl;rw[ez]at u;unfold vS Si Mi;rw[eP];cases e:lA (h.map λp=>kD p.1) (.str z) with
  |none=>rw[e]at u;have u:nK h (.inr z)=none:=u;rw[u];refine⟨h++[(.inr z,A)],by simp,rfl,by simp[ez],by simp,?_⟩;rw[QU];refine SH r λm=>cC.mp e ?_;obtain⟨x,g,ex⟩:=Qe.mp m;exact Qe.mpr ⟨x,g,by rw[ex];rfl⟩|some n =>
   rw[e]at u;have w:=MD e;have l:(h.map (·.1))[n]?=some (.inr z):=by
    rw[Qa]at w ⊢;cases I:h[n]? with|none=>rw[I]at w;cases w|some x=>rw[I]at w;rw[qD,Qr]at w ⊢;exact BS w
   have hs:(nK h (.inr z)).isSome=true:=by
    rw[u];have:n<h.length:=by have:=(Qd.mp l).1;simpa using this
    simp[this]
   rw[if_pos hs];refine⟨_,by simpa using hne,rfl,(put_keys (.inr z) (·.1) (λp=>(p.1,A)) (λp=>kD p.1) (λ_=>rfl) h).symm,(EN (.inr z) (·.1) (λp=>(p.1,A)) (λ_=>rfl) h n r l (·.2) A λ_ _=>rfl).symm,?_⟩;have:=put_keys (.inr z) (·.1) (λp:Key×V=>(p.1,A)) (·.1) (λ_=>rfl) h;rw[this];exact r
theorem NO(h:F a=none)(u:KI K F b o ks L)(r:Trs K F H true L us P)(n:¬ P a):Tr K F (OA H a o) true (.ref a) (.dct b ks us) λb=>b=a∨P b :=
 .dct (S':=P) DA u h (r.mono (.refl _) λb hb=>⟨xA λz=>n (z▸hb),(r.dom b hb).2⟩) n λb=>Wn
theorem VX(f:Same F H)(r:Tr K F H true v s Z)(ry:Rep K F J y)(rx:Rep K F A x)(h:yf s y x N)
  (k:∀s' H' S1,(∀b u,H b=some u->¬ Z b->H' b=some u)->(∀b,H' b=none->H b=none)->Tr K F H' true v s' S1->(∀b,S1 b->Z b)->N s'->R H'):HP K v J A H R:=by
 cases s with
 |lst ts =>
  cases y with
  |int i =>
   obtain⟨n,hn,q⟩:=h;cases ry;cases r with|@lst _ a xs _ _ S' h1 h2 m I l=>have g:Z a:=(l a).mpr (.inl rfl);obtain⟨P,X,p⟩:=m.setD rx n;refine⟨xs,n,h1,by rw[m.length];exact hn,k _ _ _ (sD g) HB (vK h2 X λz=>I (p a z)) (λb hb=>?_) q⟩;rcases hb with hb|hb;exact hb▸g;exact(l b).mpr (.inr (p b hb))
  |_=>exact h.elim
 |dct b ks ts =>
  obtain⟨hk,hl,q⟩:=h;cases r with
  |@dct _ _ a o _ vs _ _ S' h1 dk h2 m I l =>
   have g:Z a:=(l a).mpr (.inl rfl);refine dk.put f h1 ry hk hl λo' w=>?_;unfold Si Mi at w;unfold cM at q;cases e:lA ks y with
   |some n=>rw[e]at w q;obtain⟨P,X,p⟩:=m.setD rx n;refine k _ _ _ (sD g) HB (NO h2 w X λz=>I (p a z)) (λb hb=>?_) q;rcases hb with hb|hb;exact hb▸g;exact(l b).mpr (.inr (p b hb))
   |none=>rw[e]at w q;have X:=Trs.append m (Trs.one (Tr.d (S:=λ_=>False) rx λ_ z=>z)) λ_ _ z=>z;refine k _ _ _ (sD g) HB (NO h2 w X λz=>z.elim I id) (λb hb=>?_) q;rcases hb with hb|hb|hb;exact hb▸g;exact(l b).mpr (.inr hb);exact hb.elim
 |_=>exact h.elim
theorem KI.vs_inj{m:Hp}{f:List D}{u:List V}(h:KI K F b o ks vs)(h':KI K m b o f u):vs=u:=by
 cases b with|true=>obtain⟨l,k,e,_,rfl,_⟩:=h;obtain⟨g,w,z,_,rfl,_⟩:=h';rw[e]at z;cases z;rfl|false=>rcases h with⟨k,_,e,_,rfl,_⟩| ⟨l,e,_,rfl⟩<;>rcases h' with⟨w,_,z,_,rfl,_⟩| ⟨g,z,_,rfl⟩<;>rw[e]at z<;>cases z<;>rfl
theorem C3{F0:Hp}{n:Nat}{w:V}(f:Same F H)(r:Tr K F H true (.ref a) (.dct b ks ts) Z)(l:H a=some o)(q:KI K F0 b o ks vs)(hw:vs[n]?=some w)(ht:ts[n]?=some s)
  (ry:Rep K F J y) (rx:Rep K F A x) (h:yf s y x N)
  (k:∀s' g S1,(∀b u,H b=some u->¬ Z b->g b=some u)->(∀b,g b=none->H b=none)->Tr K F g true (.ref a) (.dct b ks (ts.set n s')) S1->(∀b,S1 b->Z b)->N s'->R g):HP K w J A H R:=by
 cases r with
 |@dct _ _ a o' _ vs' _ _ S' h1 dk h2 h3 h4 p =>
  rw[l]at h1;cases h1;cases q.vs_inj dk;have ha:Z a:=(p a).mpr (.inl rfl);obtain⟨w',S1,g1,g2,g3,g4⟩:=h3.part ht;rw[hw]at g1;cases g1;refine VX f g2 ry rx h λs' g X hh dm rs sub q2=>?_;have keep:∀b,¬ S1 b->H b≠none->g b=H b:=λb hb m=>by
   cases e:H b with|none=>exact absurd e m|some u=>exact hh b u e hb
  have na:¬ S1 a:=λz=>h4 (g3 a z);obtain⟨P,p1,I⟩:=g4 g s' X (λb hb m=>keep b m (h3.dom b hb).1) rs sub;refine k _ g (λb=>b=a∨P b) (λb u e hb=>hh b u e λz=>hb ((p b).mpr (.inr (g3 b z)))) dm (.dct (S':=P) ((keep a na (by rw[l];simp)).trans l) dk h2 p1 (λz=>h4 (I a z)) λb=>Wn) (λb hb=>?_) q2;rcases hb with hb|hb;exact hb▸ha;exact(p b).mpr (.inr (I b hb))
theorem M9{p:Addr}(f:Same F H)(X:H p=none)(r:Tr K F H true v t Z)(ry:Rep K F J y)(h:L9 y t N)
  (k:∀s' l S1,(∀b u,H b=some u->¬ Z b->l b=some u)->(∀b,l b=none->H b=none)->Tr K F l true v s' S1->(∀b,S1 b->Z b∨b=p)->N s'->R l):IJ K v [J,.ref p] (OA H p (.dT 0 [])) λ_ l=>R l:=by
 obtain⟨ks,ts,rfl,hk,hl,h⟩:=h;cases r with
 |@dct _ _ a o _ vs _ _ S' h1 dk h2 h3 h4 h5 =>
  have ha:Z a:=(h5 a).mpr (.inl rfl);obtain⟨ep,w,rfl,rfl,rfl,d4,d5⟩:=dk;obtain⟨q,rfl⟩:=hk;have ap:a≠p:=VA h1 X;have fp:F p=none:=f.free X;have sm:Same H (OA H p (.dT 0 [])):=PB X;cases ry with
  |@tup c _ _ hq rq =>
   cases iG rq;have vf:=aG q w;refine⟨a,c,.ref p,ep,w,q,rfl,rfl,(xA ap).trans h1,λx g=>(f.trans sm).tupl (d4 x g),(f.trans sm).tupl hq,by simpa using hl,λu eu=>?_,λen I=>?_⟩;rcases h with⟨n,e,q⟩| ⟨e,q⟩
   ·have r0:Tr K F H true (.ref a) (.dct true (w.map λp=>tD p.1) ts) Z:=.dct h1 ⟨ep,w,rfl,rfl,rfl,d4,d5⟩ h2 h3 h4 h5
    refine k _ _ Z (λb u e _=>sm b u e) (λb e=>HB b e) (r0.mono (.refl _) λb hb=>⟨xA λz=>(r0.dom b hb).1 (by rw[z];exact X),(r0.dom b hb).2⟩) (λb hb=>.inl hb) q
   rw[e]at vf;rw[vf]at eu;cases eu;rcases h with⟨n,e,q⟩| ⟨e,q2⟩
   ·have hn:=MD e
    rw[e]at vf;have:n<w.length:=by have:=(Qd.mp hn).1;simpa using this
    rw[vf]at en;have en:(w.map (·.2.2))[n]?=none:=en;rw[List.getElem?_eq_none_iff,QG]at en;omega
   have ep2:FK w q c (.ref p)=w++[(q,c,.ref p)]:=by unfold FK;rw[en];rfl
   rw[ep2];have np:¬ S' p:=λz=>(h3.dom p z).1 X;have g0:Tr K F (OA H p (.dT 0 [])) true (.ref p) (.dct true [] []) λb=>b=p :=
    .dct (S':=λ_=>False) (vs:=[]) DA ⟨0,[],rfl,rfl,rfl,λ_ z=>(nomatch z),Q0⟩ fp (.nil λ_ z=>z) (λz=>z) λb=>by simp
   have g3:Trs K F (OA H p (.dT 0 [])) true (w.map (·.2.2)) ts S':=h3.mono (.refl _) λb hb=>⟨xA λz=>np (z▸hb),(h3.dom b hb).2⟩
   have g1:=Trs.append g3 (Trs.one g0) λb hb z=>np (z▸hb);have dk':KI K F true (.dT I (w++[(q,c,.ref p)])) ((w.map λp=>tD p.1)++[tD q]) (w.map (·.2.2)++[.ref p]):=by
    refine⟨I,_,rfl,by simp,by simp,λx g=>?_,?_⟩;rcases Qg.mp g with g|g
    ·exact d4 x g
    rw[QI.mp g];exact hq;rw[QU];refine SH d5 λm=>cC.mp e ?_;obtain⟨x,g,ex⟩:=Qe.mp m;exact Qe.mpr ⟨x,g,by rw[ex]⟩
   refine k _ _ _ (λb u e hb=>?_) (λb e=>HB b (HB b e)) (NO h2 dk' g1 λz=>z.elim h4 ap) (λb hb=>?_) q2;rw[xA λz=>hb (by rw[z];exact ha)];exact sm b u e;rcases hb with hb|hb|hb
   ·exact .inl (hb▸ha)
   exact .inl ((h5 b).mpr (.inr hb));exact .inr hb
end
end
section
variable{K:QC}{Γ:Ev}{Ψ:PEv}
section
variable{p:PX}{F H:Hp}{S:Ft}{ρ:kA}{Z:nB}
noncomputable abbrev yX(K:QC)(Γ:Ev)(Ψ:PEv)(p:PX):Prop:=∀{E:XE}{x:XK}{F H:Hp}{S:Ft}{ρ:kA}{h:St}{Q:TK}{R:VK},Rl K F H S ρ h->OE K F H S ρ E x->(pe Ψ p E).e ρ Q->fB K (LG p) F H S ρ h Q R->(wp K Γ p x).e h H R
theorem SR(f:yX K Γ Ψ p){E:XE}{w:XK}{σ:St}{Q:Bool->kA->Prop}{R:Bool->Hp->Prop}(I:Rl K F H S ρ σ)(X:OE K F H S ρ E w)(h:(pe Ψ p E).e ρ λt _ y=>CH t.er λb=>Q b y)(k:jH K F H S ρ σ Q R) :
  (wp K Γ p w).e σ H λx i=>iF K x i R :=
 f I X h λv l j g z t n Z s u r q=>ZT (r.tr.rep u.fh) q λc a=>k c l j g z s u a
theorem PSnd.of_e(w:∀E ρ Q,(pe Ψ p E).t ρ Q=(pe Ψ p E).e ρ λt _ y=>CH t.er λb=>Q b y)(z:∀v σ H R,(wp K Γ p v).t σ H R=(wp K Γ p v).e σ H λx g=>iF K x g R)(f:∀E,(pe Ψ p E).a=FD.a)(u:yX K Γ Ψ p):PSnd K Γ Ψ p where
 e:=u
 t:=λI X h k=>by rw[w]at h;rw[z];exact SR u I X h k
 a:=λI X _ h k=>by rw[f]at h;exact h.elim
theorem PSnd.of_0(x:∀E,(pe Ψ p E).t=FD.t)(z:∀E,(pe Ψ p E).a=FD.a)(y:yX K Γ Ψ p):PSnd K Γ Ψ p where
 e:=y
 t:=λI X h k=>by rw[x]at h;exact h.elim
 a:=λI X _ h k=>by rw[z]at h;exact h.elim
theorem PSnd.of_t(l:∀E ρ Q,(pe Ψ p E).e ρ Q=(pe Ψ p E).t ρ λb u=>Q (.d (.bool b)) false u)(v:∀z σ H R,(wp K Γ p z).t σ H R=(wp K Γ p z).e σ H λx n=>C1 x n R)(m:∀E,(pe Ψ p E).a=FD.a)
  (f:∀{E:XE}{z:XK}{F H:Hp}{S:Ft}{ρ:kA}{σ:St}{Q:Bool->kA->Prop}{R:VK},Rl K F H S ρ σ->OE K F H S ρ E z->(pe Ψ p E).t ρ Q->jH K F H S ρ σ Q (λb=>R (.bl b))->(wp K Γ p z).e σ H R):PSnd K Γ Ψ p where
 e:=λI X h k=>by rw[l]at h;exact f I X h λb j i g y s w q=>fB.d k s w (.bl b) q
 t:=λI X h k=>by rw[v];exact f I X h λb j i g y s w q=>k b j i g y s w q
 a:=λI X _ h k=>by rw[m]at h;exact h.elim
theorem G7(i:Nat):yX K Γ Ψ (.var i):=by
 intro E f F H S ρ u Q R I X h k;have x:Ri ρ[i]? λt=>Q t false ρ:=h;show(match u[i]? with|some (some v)=>R v H|_=>False);have y:∀s,ρ[i]?=some (some s)->Q s.t false ρ->(match u[i]? with|some (some v)=>R v H|_=>False):=λs e q=>by obtain⟨v,a,w⟩:=I.sl i _ e;rw[a];exact k v F H S ρ s.t false (S i) .refl I ⟨w.weak,λz=>(by cases z),λ_ b hb=>⟨i,s,QI.mpr rfl,e,hb⟩,λz=>(by cases z)⟩ q
 unfold Ri at x;split at x;rename_i e;exact y _ e x;rename_i e;exact y _ e x;exact x.elim;exact x.elim
theorem Jb{m:Mt}{v:V}{s:T}(h:isMut m=true)(x:YJ m s=true)(r:Tr K F H true v s Z):kX K m.ty v H:=by
 unfold YJ at x;split at x;cases r with
 |lst y _ _ _ _ =>
  refine .inl ⟨?_,_,XC.of y⟩;cases m with|append=>rfl|pop=>rfl|reverse=>rfl|_=>cases x
 cases x
theorem Zk{m:Mt}{o g:PX}(io:PSnd K Γ Ψ o)(ia:PSnd K Γ Ψ g):yX K Γ Ψ (.mt m o g):=by
 intro E EK F H S ρ L Q R I X h k;show(wp K Γ o EK).e L H λx J=>kX K m.ty x J/\(wp K Γ g EK).a L J λA l=>r6 K m x A l R;cases hm:isMut m with
 |false =>
  have h:(pe Ψ o E).e ρ λx n M=>JS m (uA x n).vw=true/\sq (uA x n) M ((pe Ψ g E).a []) λf y=>ke m (uA x n).vw (yC f) λz k=>Q z k y:=by have C:(if isMut m=true then _ else _):=h;rw[hm,if_neg (by simp)]at C;exact C
  refine Fe (P1:=λx n=>JS m (uA x n).vw=true) (R1:=λv J=>kX K m.ty v J) (RR:=λv A l=>r6 K m v A l R) io ia I X h (λv F' H' x n Za r p=>ug r p) λv A F' H' S' ρ' x n f Za Y s I' X' r _ tn q=>?_;rw[fK _ rfl]at q;exact Ub s I' r tn q k
 |true =>
  have h:T7 (AX o) λj=>ID ρ[j]? λt=>YJ m t=true/\(pe Ψ g E).a [] (ρ.set j (some (.nv t))) λf y=>fF f=true/\y[j]?=some (some (.nv t))/\bL m t (XF f) λr s'=>Q r true (y.set j (some (.own s'))):=by have C:(if isMut m=true then _ else _):=h;rw[hm,if_pos rfl]at C;exact C
  cases o with
  |var j =>
   have h:ID ρ[j]? _:=h;unfold ID at h;split at h;rename_i t u;obtain⟨ht,q1⟩:=h;obtain⟨v0,hv,B⟩:=I.sl j _ u;have IL:=I.lock1 u;have n0:=I.lock1U u;have B:Tr K F H true v0 t (S j):=B;have XL:=X.lock1 u;show(match L[j]? with|some (some v)=>_|_=>False);rw[hv];refine⟨Jb hm ht B,?_⟩;refine ia.a (md:=[]) IL XL (λj u=>by cases g<;>cases u) q1 λA F2 l S2 y f W Y N I2 G _ P=>?_;obtain⟨he,hj2,P⟩:=P;have r2:Tr K F2 l true v0 t (S j):=N.toStp.keep B n0;have hw:=G.held;have trs:=G.av.trs db he;have wS:∀b,S j b->¬ W b:=λb hb hb2=>by rcases G.fr b hb2 with q|q;exact(B.dom b hb).1 q;exact n0 b hb q
   refine f6 I2.fh r2 trs wS P λw r s' H3 S3 Zr hh dm O rr dz hf q=>?_;obtain⟨st,I3,nw⟩:=LH I u hv N I2 hh dm O (λb hb=>hf b (.inl hb)) hw G.fr;have zr:∀b,Zr b->S j b∨W b∨l b=none:=λb hb=>hf b (.inr hb);refine k w F2 H3 _ _ r true Zr st I3 ⟨rr,λ_ b hb=>?_,λz=>(by cases z),λ_ i sl e b hb z=>?_⟩ q;rcases zr b hb with q|q|q
   ·exact .inr ⟨j,t,u,q⟩
   exact(G.fr b q).imp id (lock1U u);exact .inl (N.dm b q);rcases dA e with⟨rfl,_,_⟩| ⟨n,e⟩
   ·rw[zB]at z
    exact dz b hb z
   rw[JA (Q6 n)]at z;exact nw b (zr b hb) i sl (Q6 n) e z
   all_goals exact h.elim
  |_=>exact h.elim
theorem fB.dct{ws:List Nat}{F H x y:Hp}{S S1:Ft}{ρ h:kA}{σ:St}{Q:TK}{R:VK}(k:fB K ws F H S ρ σ Q R)(s:Ste F H S ρ x y S1 h)(I:Rl K x y S1 h σ){p:Addr}(g:H p=none)(m:x p=none)(j:Held x y S1 h λb=>b=p){o:HO}{b:Bool}{ks:List D}{vs:List V}{ts:List T}{W:nB}(C:KI K x b o ks vs)(r:Trs K x y true vs ts W)
  (B:∀b,W b->H b=none∨U ρ S b) (f:Held x y S1 h W) (a:¬ W p) (q:Q (.dct b ks ts) true h):R (.ref p) (OA y p o):=by
 have Y:∀b u,H b=some u->b≠p:=λb u e=>VA e g;have X:Ste F H S ρ x (OA y p o) S1 h:=⟨⟨s.ff,λb u e n=>by rw[xA (Y b u e)];exact s.hh b u e n,λb e=>s.dm b (HB b e),s.fn,s.uu,s.bo⟩,s.ow⟩
 have E:Rl K x (OA y p o) S1 h σ:=⟨λb u e=>by rw[xA λz=>by rw[z,m]at e;cases e];exact I.fh b u e,I.len,λi w e=>by obtain⟨v,A,l⟩:=I.sl i w e;exact⟨v,A,l.mono (.refl _) λb hb=>⟨xA λz=>j.nw i w e b z hb,(l.dom b hb).2⟩⟩,I.dj⟩
 refine k _ x _ S1 h _ true (λb=>b=p∨W b) X E ⟨.dct DA C m (r.mono (.refl _) λb hb=>⟨xA λz=>a (z▸hb),(f.dom b hb).2⟩) a (λb=>Wn),λ_ b hb=>?_,λz=>(by cases z),λ_ i w e b hb z=>?_⟩ q;rcases hb with hb|hb
 ·exact .inl (hb▸g)
 exact B b hb;rcases hb with hb|hb
 ·exact j.nw i w e b hb z
 exact f.nw i w e b hb z
theorem VR.strict{u y:Hp}{S1:Ft}{h:kA}{ws:List Nat}{v:V}{t:T}{n:Bool}(r:VR K ws H S ρ u y S1 h v t n Z)(e:JH t n=true):∃W,Tr K u y true v t W/\Held u y S1 h W/\∀b,W b->H b=none∨U ρ S b:=by
 cases n with
 |true=>exact⟨Z,r.tr,r.held,r.fr rfl⟩|false =>
  have w:=r.tr;cases t with
  |d x=>cases w with|d q _=>exact⟨λ_=>False,.d q λ_ z=>z,.none,λ_ z=>z.elim⟩
  |_=>cases e
theorem aL{σ:St}(I:Rl K F H S ρ σ){p:Addr}(h:H p=none)(o:HO):Held F (OA H p o) S ρ λb=>b=p :=
 ⟨λb hb=>⟨by rw[hb,DA];simp,by rw[hb];exact I.fh.free h⟩,λi x e b hb z=>(I.dom e z).1 (by rw[hb];exact h)⟩
theorem fY{F:Hp}:∀{nd:List (Str×D)}{vs:List V},Reps K F vs (nd.map λp=>PyData.tuple [.str p.1,p.2])->∃x:be,vs=x.map (λz=>V.ref z.1)/\(∀z∈x,mD K F z.1 [.str z.2.1,z.2.2])/\(x.map λz=>z.2.1)=(nd.map λp=>p.1)/\Reps K F (x.map λz=>z.2.2) (nd.map λp=>p.2)
 |[],vs,h=>by cases h;exact⟨[],rfl,λ_ z=>(nomatch z),rfl,.nil⟩
 | (s,d)::nd,vs,h=>by
  cases h with
  |cons a b =>
   obtain⟨x,rfl,k,v,u⟩:=fY b;cases a with
   |tup q r =>
    cases r with
    |cons c e =>
     cases e with|cons w f=>cases f;cases c;refine⟨(_,s,_)::x,rfl,λz y=>?_,by rw[QO,QO,v],.cons w u⟩;rcases QJ.mp y with rfl|y;exact q;exact k z y
theorem Cg{nd:List (Str×D)}{h:be}(u:nd≠[])(x:(h.map λz=>z.2.1)=(nd.map λp=>p.1))(y:(nd.map λp=>p.1).Nodup):KI K F false (.dK (bU h)) (nd.map λp=>.str p.1) (h.map λz=>z.2.2):=by refine .inl ⟨bU h,λz=>u ?_,rfl,?_,?_,mY (by rw[x];exact y)⟩;have:h=[]:=QAS.mp z;subst this;exact QAS.mp x.symm;have:=congrArg (List.map PyData.str) x;rw[Qb,Qb]at this;unfold bU;rw[Qb];exact this.symm;unfold bU;rw[Qb];rfl
theorem HA(g:GOk K Γ Ψ):∀(p:PX),PSnd K Γ Ψ p
 | .var i=>⟨G7 i,λI X h k=>SR (Γ:=Γ) (Ψ:=Ψ) (G7 i) I X h k,λI X _ h k=>h.elim⟩|.int i=>⟨λI X h k=>fB.d k .refl I (.int i) h,λI X h k=>k _ _ _ _ _ .refl I h,λI X _ h k=>h.elim⟩|.str x=>⟨λI X h k=>fB.d k .refl I (.str x) h,λI X h k=>h.elim,λI X _ h k=>h.elim⟩|.bl b=>⟨λI X h k=>fB.d k .refl I (.bl b) h,λI X h k=>k _ _ _ _ _ .refl I h,λI X _ h k=>h.elim⟩|.non=>⟨λI X h k=>fB.d k .refl I .non h,λI X h k=>k _ _ _ _ _ .refl I h,λI X _ h k=>h.elim⟩|.glo x=>.of_e (λ_ _ _=>rfl) (λ_ _ _ _=>rfl) (λ_=>rfl) λ{E L F H S ρ G Q R} I X h k=>by have h:(match Ψ.va x with|some d=>Q (.d d) false ρ|none=>False):=h;split at h;rename_i d e;exact fB.d k .refl I (g.va x d e F) h;exact h.elim
 | .bty _ _=>⟨λI X h k=>h.elim,λI X h k=>h.elim,λI X _ h k=>h.elim⟩|.bin op a b=>.of_e (λ_ _ _=>rfl) (λ_ _ _ _=>rfl) (λ_=>rfl) λ{E L F H S ρ G Q R} I X h k =>
  pX (P:=λx n y m M=>binT op (uA x n).vw (uA y m).vw λz k=>Q z k M) (RR:=λx y H2=>V7 K op x y H2 R) (HA g a) (HA g b) I X h λv w O N S' B x n y m Za Zb s C X' ra _ rb q=>Tc s C ra rb q k
 | .cmp op a b=>.of_t (λ_ _ _=>rfl) (λ_ _ _ _=>rfl) (λ_=>rfl) λ{E L F H S ρ G Q R} I X h k =>
  pX (P:=λx n y m M=>g7 op x.er (uA y m) λk=>Q k M) (RR:=λx y H2=>C0 K op x y H2 R) (HA g a) (HA g b) I X h λv w O N S' B x n y m Za Zb s C X' ra _ rb q =>
   f7 C.fh (by have:=ra.rep C.fh;rwa [RU]at this) rb q λc qc=>k c O N S' B s C qc
 | .neg a=>.of_0 (λ_=>rfl) (λ_=>rfl) λ{E L F H S ρ G Q R} I X h k=>by
  refine(HA g a).e (Q:=λx _ A=>gb x λt=>Q t false A) I X h λv O N S' B x n Z s C r q=>?_;have tr:=r.tr;obtain⟨i,rfl,q2⟩:=(show gb x λt=>Q t false B from q)
  cases tr with|d rr _=>cases rr;exact fB.d k s C (.int _) q2
 | .and a b=>⟨λ{E L F H S ρ G Q R} I X h k=>by
   refine(HA g a).e (Q:=λx _ A=>Jd x.er λc=>if c=true then(pe Ψ b E).e A Q else Q (.d (.bool false)) false A) (R:=λx J=>C1 x J λc H2=>if c=true then(wp K Γ b L).e G H2 R else R (.bl false) H2) I X h λv O N S' B x n Z s C r q=>?_;refine B1 (r.tr.rep C.fh) q λc qc=>?_;cases c with|false=>exact fB.d k s C (.bl false) qc|true=>exact(HA g b).e C (X.from s.toStp) qc ((k.from s).vars λi hi=>QW _ hi),
  λ{E L F H S ρ G Q R} I X h k=>by
   refine(HA g a).t (Q:=λc A=>if c=true then(pe Ψ b E).t A Q else Q false A) (R:=λc J=>if c=true then(wp K Γ b L).t G J R else R false J) I X h λc O N S' B s C qc=>?_;cases c with|false=>exact k _ O N S' B s C qc|true=>exact(HA g b).t C (X.from s.toStp) qc (jH.from k s),λI X _ h k=>h.elim⟩
 | .or a b=>⟨λ{E L F H S ρ G Q R} I X h k=>by
   refine(HA g a).e (Q:=λx _ A=>Jd x.er λc=>if c=true then Q (.d (.bool true)) false A else(pe Ψ b E).e A Q) (R:=λx J=>C1 x J λc H2=>if c=true then R (.bl true) H2 else(wp K Γ b L).e G H2 R) I X h λv O N S' B x n Z s C r q=>?_;refine B1 (r.tr.rep C.fh) q λc qc=>?_;cases c with|true=>exact fB.d k s C (.bl true) qc|false=>exact(HA g b).e C (X.from s.toStp) qc ((k.from s).vars λi hi=>QW _ hi),
  λ{E L F H S ρ G Q R} I X h k=>by
   refine(HA g a).t (Q:=λc A=>if c=true then Q true A else(pe Ψ b E).t A Q) (R:=λc J=>if c=true then R true J else(wp K Γ b L).t G J R) I X h λc O N S' B s C qc=>?_;cases c with|true=>exact k _ O N S' B s C qc|false=>exact(HA g b).t C (X.from s.toStp) qc (jH.from k s),λI X _ h k=>h.elim⟩
 | .not a=>⟨λ{E L F H S ρ G Q R} I X h k=>by
   refine(HA g a).e (Q:=λx _ A=>CH x.er λc=>Q (.d (.bool (!c))) false A) (R:=λx J=>iF K x J λc H2=>R (.bl (!c)) H2) I X h λv O N S' B x n Z s C r q=>?_;exact ZT (r.tr.rep C.fh) q λc qc=>fB.d k s C (.bl _) qc,
  λ{E L F H S ρ G Q R} I X h k=>(HA g a).t (Q:=λc A=>Q (!c) A) (R:=λc J=>R (!c) J) I X h λc O N S' B s C qc=>k _ O N S' B s C qc,λI X _ h k=>h.elim⟩
 | .call f as=>.of_e (λ_ _ _=>rfl) (λ_ _ _ _=>rfl) (λ_=>rfl) λ{E L F H S ρ G Q R} I X h k=>J7 g (HA g as) I X h k|.isi a c=>by
  have key:∀{E:XE}{L:XK}{F H:Hp}{S:Ft}{ρ:kA}{G:St}{Q:Bool->kA->Prop}{R:VK},Rl K F H S ρ G->OE K F H S ρ E L->(pe Ψ (.isi a c) E).t ρ Q->jH K F H S ρ G Q (λb=>R (.bl b))->(wp K Γ (.isi a c) L).e G H R:=by
   intro E L F H S ρ G Q R I X h k;refine(HA g a).e (Q:=λx _ A=>vc c x.er λb=>Q b A) I X h λv O N S' B x n Z s C r q=>?_;cases c with|bty z n=>obtain⟨b,h1,h2,q⟩:=q;exact kc (r.tr.rep C.fh) h1 h2 (k b O N S' B s C q)|_=>exact q.elim
  refine⟨λI X h k=>key I X h λb O N S' B s C q=>fB.d k s C (.bl b) q,λ{E L F H S ρ G Q R} I X h k=>?_,λI X _ h k=>h.elim⟩;exact key (R:=λv J=>iF K v J R) I X h λb O N S' B s C q=>k b O N S' B s C q
 | .bi f as=>.of_e (λ_ _ _=>rfl) (λ_ _ _ _=>rfl) (λ_=>rfl) λ{E L F H S ρ G Q R} I X h k =>
  oT (P:=λxs A=>xX f (yC xs) λz k=>Q z k A) (RR:=λvs J=>xh K f vs J R) (HA g as) I X h λvs O N S' B xs Y s C X' tn _ q=>by rw[fK _ rfl]at q;exact ud s C tn q k
 | .mt m o as=>.of_e (λ_ _ _=>rfl) (λ_ _ _ _=>rfl) (λ_=>rfl) (Zk (HA g o) (HA g as))|.idx a b=>by
  have he:yX K Γ Ψ (.idx a b):=λ{E L F H S ρ G Q R} I X h k =>
   pX (P:=λx n y m M=>(lM (uA x n).vw (uA y m).vw λz=>Q z false M)∨(TQ (uA x n).vw y.er λz=>Q z false M)) (RR:=λx y H2=>SV K x y H2 R) (HA g a) (HA g b) I X h λv w O N S' B x n y m Za Zb s C X' ra za rb q=>by rcases q with q|q;exact xc s C ra za rb q k;exact Kc s C ra za (by have:=rb.rep C.fh;rwa [RU]at this) q k
  exact⟨he,λI X h k=>SR he I X h k,λI X _ h k=>h.elim⟩
 | .slc a lo hi=>.of_0 (λ_=>rfl) (λ_=>rfl) λ{E L F H S ρ G Q R} I X h k=>by
  have part:∀(p:PX),PSnd K Γ Ψ p->∀{F H:Hp}{S:Ft}{ρ:kA}{x:T}{P:Option Int->kA->Prop}{RP:Option Int->Hp->Prop},Rl K F H S ρ G->OE K F H S ρ E L ->
    sq (α:=Option Int) x ρ (if isNop p=true then λρ (R:Option Int->kA->Prop)=>R none ρ else λρ R=>(pe Ψ p E).e ρ λl _ M=>NF l.er λo=>R o M) P ->
    (∀o O N S' B,Ste F H S ρ O N S' B->Rl K O N S' B G->(∀st v Zx,Tr K F H st v x Zx->Tr K O N st v x Zx)->P o B->RP o N) ->
    (if isNop p=true then λ(R:Option Int->Hp->Prop)=>R none H else λR=>(wp K Γ p L).e G H λl H2=>RK l H2 R) RP:=by
   intro p ip F H S ρ x P RP I X h k;cases hn:isNop p with
   |true=>simp only[hn,if_true]at h ⊢;refine k none F H S ρ .refl I (λ_ _ _ r=>r) ?_;unfold sq at h;split at h<;>exact h|false =>
    simp only[hn,qa,if_false]at h ⊢;have h2:sq x ρ (cu (pe Ψ p E).e) λy B=>NF y.1.er λo=>P o B:=by unfold sq at h ⊢;exact h
    refine xf ip I X h2 λw O N S' B y m Z s C kp _ r q=>c5 (r.tr.rep C.fh) q λo qo=>k o O N S' B s C kp qo
  refine DD (HA g a) I X h λv F1 J S1 A x n Za s1 I1 X1 r1 _ z1 h1=>?_;refine part lo (HA g lo) I1 X1 h1 λl F2 H2 S2 M s2 I2 k2 h2=>?_;refine part hi (HA g hi) I2 (X1.from s2.toStp) h2 λu F3 H3 S3 ρ3 s3 I3 k3 h3=>?_;exact B9 (s1.trans (s2.trans s3)) I3 (k3 _ _ _ (k2 _ _ _ r1)) h3 k
 | .nop=>⟨λI X h k=>h.elim,λI X h k=>h.elim,λI X _ h k=>h.elim⟩|.lst as=>.of_0 (λ_=>rfl) (λ_=>rfl) λ{E L F H S ρ G Q R} I X h k=>by refine(HA g as).a (md:=[]) (R:=λxs J=>xs.length<=sizeLine/\∀p,J p=none->R (.ref p) (OA J p (.lst xs))) I X (λj hj=>by cases as<;>cases hj) h λvs O N S' B xs W Y s C r _ q=>?_;exact⟨by rw[r.av.length];exact q.2.1,λp hp=>fB.list k s C hp (r.av.trs db q.1) r.fr r.held q.2.2⟩|.tup as=>.of_0 (λ_=>rfl) (λ_=>rfl) λ{E L F H S ρ G Q R} I X h k=>by refine(HA g as).a (md:=[]) (R:=λxs J=>xs.length<=sizeLine/\∀p,J p=none->R (.ref p) (OA J p (.tup xs))) I X (λj hj=>by cases as<;>cases hj) h λvs O N S' B xs W Y s C r _ q=>?_;exact⟨by rw[r.av.length];exact q.2.1,λp hp=>fB.tup k s C hp (r.av.trs db q.1) r.fr r.held q.2.2⟩|.comp mask tgs tg ik its cond elt=>.of_0 (λ_=>rfl) (λ_=>rfl) λ{E L F H S ρ G Q R} I X h k=>by
  refine oT (RR:=λvs J=>aC K ik vs J λxs st H2=>sV K xs st tg (if isNop cond=true then λ_ H Q=>Q true H else(wp K Γ cond (λ_ _ _=>False)).t) (wp K Γ elt (λ_ _ _=>False)).e (uI tgs.length mask G) H2 R) (HA g its) I X h λvs F1 J S1 A xs Y s1 I1 X1 tn tm q1=>?_;rw[fK _ rfl]at q1;refine OI I1.fh tn q1 λxs ys st pr hst hc=>?_;refine K0 (us:=LG elt) ?_ ?_ s1 I1 pr (λb hb=>?_) hst hc k;intro F H S ρ G Q R I h k;cases hn:isNop cond with|true=>simp only[hn,if_true]at h ⊢;exact k true F H S ρ .refl I h|false=>simp only[hn,qa,if_false]at h ⊢;exact(HA g cond).t I OE.never h k
  intro F H S ρ G Q R I h k;exact(HA g elt).e I OE.never h k;obtain⟨i,sl,_,h2,h3⟩:=tm b hb;exact I1.dom h2 h3
 | .dof a=>.of_0 (λ_=>rfl) (λ_=>rfl) λ{E L F H S ρ G Q R} I X h k =>
  DD (P:=λx n A=>v7 (uA x n).vw λz k=>Q z k A) (RR:=λx J=>ja K x J R) (HA g a) I X h λv O N S' B x n Z s C _ r _ _ ⟨us,nd,e,hb,ne,ndp,q⟩=>by obtain⟨p,xs,_,rfl,hp,rp,_⟩:=r.ls C.fh e;obtain⟨zs,rfl,t1,t2,t3⟩:=fY (rp.un hb).1;refine⟨p,zs,rfl,hp,λz hz=>C.fh.tupl (t1 z hz),by rw[t2];exact ndp,λd hd=>?_⟩;have e:=fB.dct (o:=.dK (bU zs)) (b:=false) (ks:=nd.map λp=>.str p.1) (vs:=zs.map λz=>z.2.2) (ts:=(nd.map λp=>p.2).map T.d) (W:=λ_=>False) k (s.new hd (.dK (bU zs))) (C.new hd _) (s.dm d hd) (C.fh.free hd) (aL C hd _) (Cg ne t2 ndp) (Trs.of_reps t3) (λ_ z=>z.elim) .none (λz=>z) q;rw[JT]at e;exact e
 | .lset a=>.of_0 (λ_=>rfl) (λ_=>rfl) λ{E L F H S ρ G Q R} I X h k =>
  DD (P:=λx n A=>ZU (uA x n).vw λz k=>Q z k A) (RR:=λx J=>vY K x J R) (HA g a) I X h λv O N S' B x n Z s C _ r _ _ ⟨us,ss,e,hb,l,q⟩=>by obtain⟨p,xs,_,rfl,hp,rp,_⟩:=r.ls C.fh e;obtain rfl:=iD (rp.un hb).1;exact⟨p,ss,rfl,hp,l,λzs nd m=>k.d s C (.int _) (q zs nd m)⟩
 | .sset a=>.of_0 (λ_=>rfl) (λ_=>rfl) λ{E L F H S ρ G Q R} I X h k =>
  DD (P:=λx n A=>VP (uA x n).vw λz k=>Q z k A) (RR:=λx J=>kY K x J R) (HA g a) I X h λv O N S' B x n Z s C _ r _ _ ⟨us,ss,e,hb,l,q⟩=>by obtain⟨p,xs,_,rfl,hp,rp,_⟩:=r.ls C.fh e;obtain rfl:=iD (rp.un hb).1;exact⟨p,ss,rfl,hp,l,λa zs hl nd m so=>k.listD s C hl (XI zs) (q zs nd m so)⟩
 | .dnew b=>.of_0 (λ_=>rfl) (λ_=>rfl) λ{E L F H S ρ G Q R} I X h k=>by
  intro p hp;have hh:=aL I hp (.dT 0 []);have e:=fB.dct (o:=.dT 0 []) (b:=b) (ks:=[]) (vs:=[]) (ts:=[]) (W:=λ_=>False) k (Ste.refl.new hp (.dT 0 [])) (I.new hp _) hp (I.fh.free hp) hh ?_ (.nil λ_ z=>z) (λ_ z=>z.elim) .none (λz=>z) h;rw[JT]at e;exact e;cases b with
  |true=>exact⟨0,[],rfl,rfl,rfl,λ_ z=>(nomatch z),Q0⟩
  |false=>exact .inr ⟨0,rfl,rfl,rfl⟩
 | .dsp a b=>.of_0 (λ_=>rfl) (λ_=>rfl) λ{E L F H S ρ G Q R} I X h k=>by
  intro p hp;have hh:=aL I hp (.dT 0 []);have s0:Ste F H S ρ F (OA H p (.dT 0 [])) S ρ:=Ste.refl.new hp _;refine DD (HA g a) (I.new hp _) (X.from s0.toStp) h λy F1 J S1 A x n Z s1 I1 X1 _ er _ ⟨he,q1⟩=>?_;have hh1:=hh.step s1.toStp I1;have ry:=er he;refine(HA g b).e I1 X1 q1 λv F2 H2 S2 M t m Zb s2 I2 r2 q2=>?_;have hh2:=hh1.step s2.toStp I2;obtain⟨he2,hk,q2⟩:=q2;obtain⟨W,rw,hw,frw⟩:=(r2.from s1.toStp).strict he2;have hp2:H2 p=some (.dT 0 []):=s2.hh p _ (s1.hh p _ DA (hh.nu p rfl)) (hh1.nu p rfl);have np:¬ W p:=λz=>by rcases frw p z with q|q;rw[DA]at q;cases q;exact hh.nu p rfl q
  have ry2:=ry.mono s2.ff;refine⟨hp2,?_⟩;generalize x.er=d at hk ry2 q2;obtain⟨ks,rfl⟩:=hk;cases ry2 with|@tup c _ _ hq rq=>cases iG rq;refine⟨c,ks,rfl,I2.fh.tupl hq,λep=>?_⟩;exact fB.dct (o:=.dT ep [(ks,c,v)]) (b:=true) (vs:=[v]) (ts:=[t]) k (s0.trans (s1.trans s2)) I2 hp (hh2.dom p rfl).2 hh2 ⟨ep,_,rfl,rfl,rfl,λz hz=>by rw[QI.mp hz];exact hq,by simp⟩ (Trs.one rw) (λb hb=>by rcases frw b hb with q|q;exact .inl (HB b q);exact .inr q) hw np q2
 | .nr=>⟨λI X h k=>h.elim,λI X h k=>h.elim,λ{E L F H S ρ G md Q R} I X _ h k=>k [] F H S ρ [] (λ_=>False) (λ_=>False) .refl I ⟨.nil λ_ z=>z,λ_ z=>z.elim,λ_ z=>z.elim,λ_ _ _ _ z=>z.elim⟩ (by cases md with|nil=>rfl|cons m r=>cases m<;>rfl) h⟩
 | .nq a as=>⟨λI X h k=>h.elim,λI X h k=>h.elim,λ{E L F H S ρ G md Q R} I X hm h k=>by
  show(wp K Γ a L).e G H λx J=>(wp K Γ as L).a G J λxs H2=>R (x::xs) H2;have vr2:∀i∈LG as,i∈LG (.nq a as):=λi hi=>QW _ hi;cases hmd:(md.headD .ny).isMut with
  |true =>
   have h2:KZ a=true/\(pe Ψ as E).a md.tail ρ λxs A=>Q ((.d .none,true)::xs) A:=by have h3:(if(md.headD .ny).isMut=true then _ else _):=h;rw[hmd,if_pos rfl]at h3;exact h3
   obtain⟨m,md',rfl⟩:∃m md',md=m::md':=by
    cases md with|nil=>cases hmd|cons m md'=>exact⟨m,md',rfl⟩
   have em:m=.chg:=by have hmd:m.isMut=true:=hmd;cases m<;>first|rfl|cases hmd
   subst em;cases a with
   |var j=>obtain⟨v,hv⟩:=hm j (show j∈j::fA md' as from QD);show(match G[j]? with|some (some v)=>_|_=>False);rw[hv];refine(HA g as).a I X (λi hi=>hm i (QE _ hi)) h2.2 λvs O N S' B xs W Y s C r mv q=>?_;refine k (v::vs) O N S' B _ W Y s C ⟨.chg hmd r.av,r.fr,(r.vars vr2).tm,r.nw⟩ ?_ q;show(some (some v))::(eB md' vs).map _=G[j]?::(fA md' as).map _;have mv:(eB md' vs).map (λv=>some (some v))=(fA md' as).map (λj=>G[j]?):=mv;rw[hv,mv]
   |_=>exact absurd h2.1 (by simp[KZ])
  |false =>
   have h2:(pe Ψ a E).e ρ λx n A=>sq (α:=List (T×Bool)) (if n=true then .d .none else x) A ((pe Ψ as E).a md.tail) λxs M=>Q ((x,n)::xs) M:=by have h3:(if(md.headD .ny).isMut=true then _ else _):=h;rw[hmd,if_neg (by simp)]at h3;exact h3
   have hroots:fA md (.nq a as)=fA md.tail as:=by
    cases md with|nil=>cases as<;>rfl|cons m md'=>have hmd:m.isMut=false:=hmd;cases m<;>first|rfl|cases hmd
   have hmv:∀v vs,eB md (v::vs)=eB md.tail vs:=λv vs=>by unfold eB;generalize md.headD .ny=m at hmd;cases m<;>first | (cases vs<;>rfl)|cases hmd
   refine(HA g a).e I X h2 λv F1 J S1 A x n Z s1 I1 r1 q1=>?_;refine uf (HA g as) I1 (X.from s1.toStp) (λi hi=>hm i (by rw[hroots];exact hi)) q1 λvs F2 H2 S2 M xs W Y s2 I2 kp hs r2 mv q2=>?_;have s12:=s1.trans s2;have r2':=(r2.from s1.toStp).vars vr2;have mv':(eB md (v::vs)).map (λv=>some (some v))=(fA md (.nq a as)).map (λj=>G[j]?):=by rw[hroots,hmv];exact mv
   cases n with
   |true =>
    have hd:=r1.held;have hd2:=hd.step s2.toStp I2;refine k (v::vs) F2 H2 S2 M _ (λb=>Z b∨W b) Y s12 I2 ⟨.new hmd (s2.toStp.keep r1.tr hd.nu) r2.av (λb hb hw=>?_) λb=>Wn,λb hb=>?_,r2'.tm,λi sl e b hb=>?_⟩ mv' q2;rcases r2.fr b hw with q|q
    ·exact(hd.dom b hb).1 q
    exact hd.nu b hb q;rcases hb with hb|hb
    ·exact r1.fr rfl b hb
    exact r2'.fr b hb;rcases hb with hb|hb
    ·exact hd2.nw i sl e b hb
    exact r2.nw i sl e b hb
   |false =>
    have za:∀b,Z b->∃(i:Nat) (s:Sl),i∈LG a/\M[i]?=some (some s)/\S2 i b:=by
     cases hd:x.isD with
     |true =>
      intro b hb;exfalso;have tr:=r1.tr;cases x with
      |d x=>cases tr with|d r n=>exact n b hb
      |_=>cases hd
     |false=>obtain⟨e1,e2⟩:=hs hd;rw[e1,e2];exact r1.tm rfl
    refine k (v::vs) F2 H2 S2 M _ W (λb=>Z b∨Y b) s12 I2 ⟨.tmp hmd (kp _ _ _ r1.tr) (λb hb=>.inl hb) (r2.av.sub λb hb=>.inr hb),r2'.fr,λb hb=>?_,r2.nw⟩ mv' q2;rcases hb with hb|hb;obtain⟨i,sl,h1,h2⟩:=za b hb;exact⟨i,sl,Qt _ h1,h2⟩;exact r2'.tm b hb⟩
end
end
structure Sts(C J:List Nat)(F H:Hp)(S:Ft)(ρ:kA)(σ:St)(F' H':Hp)(S':Ft)(ρ':kA)(σ':St):Prop where
 ff:Same F F'
 hh:∀b u,H b=some u->¬ U ρ S b->H' b=some u
 dm:∀b,H' b=none->H b=none
 fn:∀b,F b=none->F' b≠none->U ρ S b∨H b=none
 uu:∀b,U ρ' S' b->U ρ S b∨H b=none
 bo:∀(j:Nat) t,j∉J->ρ'[j]?=some (some (.nv t))->t.isD=false->ρ[j]?=some (some (.nv t))/\S' j=S j/\σ'[j]?=σ[j]?
 sg:∀j∈C,σ'[j]?=σ[j]?
structure Stc(C:List Nat)(F H:Hp)(S:Ft)(ρ:kA)(σ:St)(F' H':Hp)(S':Ft)(ρ':kA)(σ':St):Prop where
 ff:Same F F'
 hh:∀b u,H b=some u->¬ U ρ S b->H' b=some u
 dm:∀b,H' b=none->H b=none
 fn:∀b,F b=none->F' b≠none->U ρ S b∨H b=none
 uu:∀b,U ρ' S' b->U ρ S b∨H b=none
 sg:∀j∈C,σ'[j]?=σ[j]?
section
variable{K:QC}{Γ:Ev}{Ψ:PEv}{E:XE}{M:XK}{F H p X B L:Hp}{S S1 G:Ft}{ρ y Y:kA}{σ g A:St}{C J:List Nat}
section
variable{t:T}{Z:nB}{i:Nat}
theorem Stp.sts(s:Stp F H S ρ p X S1 y):Sts C J F H S ρ σ p X S1 y σ:=⟨s.ff,s.hh,s.dm,s.fn,s.uu,λj t _ e h=>let⟨z,x⟩:=s.bo j t e h;⟨z,x,rfl⟩,λ_ _=>rfl⟩
theorem Sts.refl:Sts C J F H S ρ σ F H S ρ σ:=Stp.refl.sts
theorem Sts.trans(a:Sts C J F H S ρ σ p X S1 y g)(b:Sts C [] p X S1 y g B L G Y A):Sts C J F H S ρ σ B L G Y A where
 ff:=a.ff.trans b.ff
 hh:=λx u h n=>b.hh x u (a.hh x u h n) λz=>by rcases a.uu x z with q|q;exact n q;rw[q]at h;cases h
 dm:=λx h=>a.dm x (b.dm x h)
 fn:=λx h z=>by
  by_cases q:p x=none;rcases b.fn x q z with w|w
  ·exact a.uu x w
  exact .inr (a.dm x w);exact a.fn x h q
 uu:=λx h=>by rcases b.uu x h with w|w;exact a.uu x w;exact .inr (a.dm x w)
 bo:=λj t v h n=>by obtain⟨o,m,l⟩:=b.bo j t (by simp) h n;obtain⟨f,e,k⟩:=a.bo j t v o n;exact⟨f,m.trans e,l.trans k⟩
 sg:=λj v=>(b.sg j v).trans (a.sg j v)
theorem Sts.c(s:Sts C J F H S ρ σ p X S1 y g):Stc C F H S ρ σ p X S1 y g:=⟨s.ff,s.hh,s.dm,s.fn,s.uu,s.sg⟩
theorem Stc.trans(a:Stc C F H S ρ σ p X S1 y g)(b:Stc C p X S1 y g B L G Y A):Stc C F H S ρ σ B L G Y A where
 ff:=a.ff.trans b.ff
 hh:=λx u h n=>b.hh x u (a.hh x u h n) λz=>by rcases a.uu x z with q|q;exact n q;rw[q]at h;cases h
 dm:=λx h=>a.dm x (b.dm x h)
 fn:=λx h z=>by
  by_cases q:p x=none;rcases b.fn x q z with w|w
  ·exact a.uu x w
  exact .inr (a.dm x w);exact a.fn x h q
 uu:=λx h=>by rcases b.uu x h with w|w;exact a.uu x w;exact .inr (a.dm x w)
 sg:=λj v=>(b.sg j v).trans (a.sg j v)
theorem OE.fromS(h:OE K F H S ρ E M)(s:Sts C J F H S ρ σ p X S1 y g):OE K p X S1 y E M:=λx k B L G Y v f r q =>
 h x k B L (λ_ _=>False) [] ⟨s.ff.trans v.ff,λb u e n=>v.hh b u (s.hh b u e n) (λz=>(s.uu b z).elim n λw=>(by rw[w]at e;cases e)),λb e=>s.dm b (v.dm b e),λb e z=>by
  by_cases q:p b=none;rcases v.fn b q z with w|w
  ·exact s.uu b w
  exact .inr (s.dm b w);exact s.fn b e q,λb ⟨i,t,e,_⟩=>by simp at e,λj t e=>by simp at e⟩ f r q
structure EndsOk(K:QC)(C:List Nat)(F H:Hp)(S:Ft)(ρ:kA)(σ:St)(Z:PEnds)(Dn:Ends):Prop where
 nx:∀F' H' S' ρ' σ',Sts C [] F H S ρ σ F' H' S' ρ' σ'->Rl K F' H' S' ρ' σ'->Z.nx ρ'->Dn.nx σ' H'
 rt:∀v t W F' H' S' ρ' σ',Stc C F H S ρ σ F' H' S' ρ' σ'->Rl K F' H' S' ρ' σ'->Tr K F' H' true v t W->Held F' H' S' ρ' W->(∀b,W b->H b=none∨U ρ S b)->Z.rt t ρ'->Dn.rt v H'
 bk:∀F' H' S' ρ' σ',Sts C [] F H S ρ σ F' H' S' ρ' σ'->Rl K F' H' S' ρ' σ'->Z.bk ρ'->Dn.bk σ' H'
 ct:∀F' H' S' ρ' σ',Sts C [] F H S ρ σ F' H' S' ρ' σ'->Rl K F' H' S' ρ' σ'->Z.ct ρ'->Dn.ct σ' H'
theorem ym(s:Sts C J F H S ρ σ p X S1 y g){W:nB}(h:∀b,W b->X b=none∨U y S1 b):∀b,W b->H b=none∨U ρ S b:=λb hb=>by rcases h b hb with q|q;exact .inl (s.dm b q);exact(s.uu b q).symm
theorem EndsOk.from{Z:PEnds}{b:Ends}(ok:EndsOk K C F H S ρ σ Z b)(s:Sts C [] F H S ρ σ p X S1 y g):EndsOk K C p X S1 y g Z b :=
 ⟨λa k w z x u I q=>ok.nx a k w z x (s.trans u) I q,λv t W a k w z x u I r h e q=>ok.rt v t W a k w z x (s.c.trans u) I r h (ym s e) q,
  λa k w z x u I q=>ok.bk a k w z x (s.trans u) I q,λa k w z x u I q=>ok.ct a k w z x (s.trans u) I q⟩
theorem Sts.setD(s:Sts C J F H S ρ σ p X S1 y g)(i:Nat)(a:i∉C)(v:V)(k:t.isD=true)(Z:nB):Sts C J F H S ρ σ p X (kH S1 i Z) (y.set i (some (.nv t))) (g.set i (some v)) :=
 ⟨s.ff,s.hh,s.dm,s.fn,λb ⟨j,u,z,w⟩=>by
  rcases dA z with⟨_,e,_⟩| ⟨n,z⟩
  cases e;rw[JA (Q6 n)]at w;exact s.uu b ⟨j,u,z,w⟩,
 λj u h e x=>by
  rcases dA e with⟨_,e,_⟩| ⟨n,e⟩
  injection e with e;injection e with e;subst e;rw[k]at x;cases x;rw[JA (Q6 n),cE n];exact s.bo j u h e x,
 λj h=>by have n:i≠j:=λe=>a (e▸h);rw[cE n];exact s.sg j h⟩
theorem Rl.setD(I:Rl K F H S ρ σ)(i:Nat){v:V}{x:D}(r:Rep K F v x):Rl K F H (kH S i λ_=>False) (ρ.set i (some (.nv (.d x)))) (σ.set i (some v)) :=
 I.setB i (.d r λ_ z=>z) λ_ _ _ _ _ z=>z.elim
theorem Rl.setN(I:Rl K F H S ρ σ)(i:Nat){v:V}(r:Tr K F H true v t Z)(hz:∀(j:Nat) s,j≠i->ρ[j]?=some (some s)->∀b,Z b->¬ S j b):Rl K F H (kH S i Z) (ρ.set i (some (.own t))) (σ.set i (some v)) where
 fh:=I.fh
 len:=by simpa using I.len
 sl:=λj s h=>by
  rcases dA h with⟨rfl,e,l⟩| ⟨w,h⟩
  cases e;exact⟨v,OT (by rw[<- I.len];exact l),by rw[zB];exact r⟩;rw[cE w,JA (Q6 w)];exact I.sl j s h
 dj:=λj k a s n u x b hb hk=>by
  rcases dA u with⟨e,_,_⟩| ⟨f,u⟩
  subst e;rw[zB]at hb;rcases dA x with⟨e,_,_⟩| ⟨z,x⟩
  exact n e;rw[JA (Q6 z)]at hk;exact hz k s (Q6 z) x b hb hk;rw[JA (Q6 f)]at hb;rcases dA x with⟨e,_,_⟩| ⟨z,x⟩
  subst e;rw[zB]at hk;exact hz j _ n u b hk hb;rw[JA (Q6 z)]at hk;exact I.dj j k a s n u x b hb hk
theorem Sts.setN(s:Sts C J F H S ρ σ p X S1 y g)(i:Nat)(w:i∉C)(v:V)(t:T)(a:∀b,Z b->H b=none∨U ρ S b):Sts C J F H S ρ σ p X (kH S1 i Z) (y.set i (some (.own t))) (g.set i (some v)) :=
 ⟨s.ff,s.hh,s.dm,s.fn,λb ⟨j,u,z,x⟩=>by
  rcases dA z with⟨rfl,_,_⟩| ⟨n,z⟩
  rw[zB]at x;exact(a b x).symm;rw[JA (Q6 n)]at x;exact s.uu b ⟨j,u,z,x⟩,
 λj u h e k=>by
  rcases dA e with⟨_,e,_⟩| ⟨n,e⟩
  cases e;rw[JA (Q6 n),cE n];exact s.bo j u h e k,
 λj h=>by have n:i≠j:=λe=>w (e▸h);rw[cE n];exact s.sg j h⟩
theorem XM:∀(u:List Nat) (ds:List D) {ρ x:kA},VB u (ds.map T.d) ρ=some x->∀(j:Nat) t,x[j]?=some (some (.nv t))->t.isD=false->j∉u/\ρ[j]?=some (some (.nv t))
 |[],[],ρ,x,h,j,t,e,hd=>by simp only[qj,VB,Qr]at h;subst h;exact⟨(by simp),e⟩|[],_::_,_,_,h,_,_,_,_=>by simp[VB]at h|_::_,[],_,_,h,_,_,_,_=>by simp[VB]at h|i::u,d::ds,ρ,x,h,j,t,e,hd=>by
  simp only[QO,VB]at h;obtain⟨w,v⟩:=XM u ds h j t e hd;rcases dA v with⟨_,q,_⟩| ⟨n,q⟩
  injection q with q;injection q with q;subst q;cases hd;exact⟨λm=>(QJ.mp m).elim (λz=>n z.symm) w,q⟩
theorem Rl.frz1(I:Rl K F H S ρ σ)(h:ρ[i]?=some (some (.own t))):Rl K (vI F H (S i)) H (kH S i λ_=>False) (ρ.set i (some (.nv (.d t.er)))) σ/\Sts C [] F H S ρ σ (vI F H (S i)) H (kH S i λ_=>False) (ρ.set i (some (.nv (.d t.er)))) σ:=by
 obtain⟨v,m,r⟩:=I.sl i _ h;have k:=BG (H:=H) λb (hb:S i b)=>(r.dom b hb).2;have P:Rl K F H S (ρ.set i none) σ:=I.drop (by simp) λj s e=>by
  rcases dA e with⟨_,z,_⟩| ⟨_,e⟩
  cases z;exact e
 have l:Held F H S (ρ.set i none) (S i):=⟨r.dom,λj s e b hb z=>by
  rcases dA e with⟨_,q,_⟩| ⟨n,e⟩
  cases q;exact I.dj i j t s n h e b hb z⟩
 have O:=P.frz l;have f:Rep K (vI F H (S i)) v t.er:=Tr.kept k r λb u hb e=>by rw[kI hb];exact e
 have a:=O.setD i f;have N:(ρ.set i none).set i (some (.nv (.d t.er)))=ρ.set i (some (.nv (.d t.er))):=by simp
 have W:σ.set i (some v)=σ:=by apply wn;intro j;rw[wR];split;rename_i e;subst e;split;exact m.symm;rename_i n;rw[qM (by omega)];rfl
 rw[N,W]at a;refine⟨a,⟨k,λb u e _=>e,λb e=>e,λb e z=>.inl ?_,λb ⟨j,u,x,w⟩=>.inl ?_,λj u _ e o=>?_,λ_ _=>rfl⟩⟩;by_cases hb:S i b
 ·exact⟨i,t,h,hb⟩
 rw[JC hb]at z;exact absurd e z;rcases dA x with⟨_,q,_⟩| ⟨n,x⟩
 ·cases q
 rw[JA (Q6 n)]at w;exact⟨j,u,x,w⟩;rcases dA e with⟨_,q,_⟩| ⟨n,e⟩
 ·injection q with q;injection q with q;subst q;cases o
 exact⟨e,JA (Q6 n),rfl⟩
theorem rW{f:Option Sl->Option Sl}:ρ.modify i f=match ρ[i]? with|some o=>ρ.set i (f o)|none=>ρ:=by
 apply wn;intro j;rw[QAF];cases h:ρ[i]? with|none=>simp only;by_cases e:i=j;subst e;simp[h];simp[e]|some o=>simp only;rw[wR];by_cases e:i=j;subst e;obtain⟨x,rfl⟩:=Qd.mp h;simp[x];simp[e]
theorem FP{α:Type}{l:List α}{o:α}(h:l[i]?=some o):l.set i o=l:=by apply wn;intro j;rw[wR];split;rename_i e;subst e;rw[if_pos (Qd.mp h).1,h];rfl
theorem Rl.frzAt:∀(x:List Nat) {F:Hp}{S:Ft}{ρ:kA},Rl K F H S ρ σ->∃z S',Rl K z H S' (frzAt x ρ) σ/\Sts C [] F H S ρ σ z H S' (frzAt x ρ) σ
 |[],F,S,ρ,I=>⟨F,S,I,.refl⟩|i::x,F,S,ρ,I=>by
  have one:∃p S1,Rl K p H S1 (ρ.modify i CW) σ/\Sts C [] F H S ρ σ p H S1 (ρ.modify i CW) σ:=by
   rw[rW];cases h:ρ[i]? with
   |none=>exact⟨F,S,I,.refl⟩|some o =>
    cases o with
    |none=>have e:ρ.set i (CW none)=ρ:=FP h;simp only[e];exact⟨F,S,I,.refl⟩|some u =>
     cases u with|nv t=>have e:ρ.set i (CW (some (.nv t)))=ρ:=FP h;simp only[e];exact⟨F,S,I,.refl⟩|own t=>exact⟨_,_,I.frz1 h⟩
  obtain⟨p,S1,a,w⟩:=one;obtain⟨B,G,k,v⟩:=Rl.frzAt x a;exact⟨B,G,k,w.trans v⟩
end
end
noncomputable def MJ(C:List Nat):PT->Bool
 | .seq s r=>MJ C s&&MJ C r|.set i _=>!C.contains i|.own i _=>!C.contains i|.ife _ a b=>MJ C a&&MJ C b|.for_ x _ _ h=>x.ix.all (λi=>!C.contains i)&&MJ C h|.nil=>true|.expr _=>true|.ret _=>true|.tset y _=>y.all λi=>!C.contains i|.six _ _ _=>true|.sdf _ _=>true|.whl _ h=>MJ C h|.frz _ s=>MJ C s
section
variable{K:QC}{Γ:Ev}{Ψ:PEv}{E:XE}{O:XK}{F H D B F2 N:Hp}{S S1 P:Ft}{ρ A M:kA}{σ G R:St}{C J:List Nat}
theorem Sts.bind{L:List Nat}(s:Sts C J F H S ρ σ D B S1 A G)(b:Bd L D B S1 A G F2 N P M R)(v:∀j∈L,j∈J)(w:∀j∈L,j∉C):Sts C J F H S ρ σ F2 N P M R :=
 ⟨s.ff.trans b.ff,λx u e n=>b.hh x u (s.hh x u e n),λx e=>s.dm x (b.dm x e),λx e z=>by
  by_cases q:D x=none;exact .inr (s.dm x (b.fn x q z));exact s.fn x e q,λx u=>s.uu x (b.U u),λj t h e y=>by
  obtain⟨l,i,g⟩:=b.out j λz=>h (v j z);rw[l]at e;obtain⟨f,a,k⟩:=s.bo j t h e y;exact⟨f,i.trans a,g.trans k⟩,λj h=>(b.out j λz=>w j z h).2.2.trans (s.sg j h)⟩
theorem SU{g:Tg}{body:PEnds->kA->Prop}{tb:TS}{Z:PEnds}{o:Ends}{xs:List Item}{p:List T}{st:Hp->Prop}{Y:nB}
  (ib:∀{F H:Hp}{S:Ft}{ρ:kA}{σ:St}{Z:PEnds}{o:Ends},Rl K F H S ρ σ->OE K F H S ρ E O->body Z ρ->EndsOk K C F H S ρ σ Z o->tb o σ H)
  (I:Rl K F H S ρ σ) (X:OE K F H S ρ E O) (hC:∀j∈g.ix,j∉C) (pr:Paired (rV K F H Y) xs p) (hy:∀b,Y b->¬ U ρ S b/\H b≠none/\F b=none) (hst:∀f k,Same F f->Same f k->(∀b,Y b->k b=H b)->st k) (h:iH body g Z p ρ)
  (onx:∀f k S' z w,Sts C g.ix F H S ρ σ f k S' z w->Rl K f k S' z w->Z.nx z->o.nx w k)
  (ort:∀v t W f k S' z w,Stc C F H S ρ σ f k S' z w->Rl K f k S' z w->Tr K f k true v t W->Held f k S' z W->(∀b,W b->H b=none∨U ρ S b)->Z.rt t z->o.rt v k):Pd K xs st g tb o σ H:=by
 intro J hJ;have len:=qZ pr;have yk:∀{D B:Hp}{S1:Ft}{A:kA}{G:St},Sts C g.ix F H S ρ σ D B S1 A G->∀b,Y b->B b=H b/\D b=none:=λ{D B S1 A G} s b hb=>by
  obtain⟨n,d1,d2⟩:=hy b hb;refine⟨?_,?_⟩;cases e:H b with|none=>exact absurd e d1|some u=>exact s.hh b u e n
  by_cases q:D b=none
  ·exact q
  exact((s.fn b d2 q).elim n d1).elim
 refine⟨λi m w k=>i<=xs.length/\m=xs.length - i/\∃z f S',Sts C g.ix F H S ρ σ f k S' z w/\Rl K f k S' z w/\iH body g Z (p.drop i) z,⟨_,Q9 _,rfl,ρ,F,S,.refl,I,by simpa using h⟩,?_⟩;rintro i m G B ⟨hi,rfl,A,D,S1,L,I1,h1⟩;have hs:=hst D B L.ff I1.fh λb hb=>(yk L b hb).1;rcases QA8 i xs.length with l|hge;refine .inr ⟨hJ.go i B hs l,λw k=>i+1<=xs.length/\∃z f S',Sts C g.ix F H S ρ σ f k S' z w/\Rl K f k S' z w/\iH body g Z (p.drop (i+1)) z,λw k ⟨a,b⟩=>⟨_,by omega,a,rfl,b⟩,λx N hyl=>?_⟩;obtain⟨it,hx,hm⟩:=hJ.yld i B x N hs l hyl;obtain⟨y,hd,ry⟩:=Paired.get_of pr hx;rw[hd]at h1;unfold iH at h1;have key:L3.bindI K g it G B λR N=>tb { o with nx:=λw k=>i+1<=xs.length/\∃z f S',Sts C g.ix F H S ρ σ f k S' z w/\Rl K f k S' z w/\iH body g Z (p.drop (i+1)) z,ct:=λw k=>i+1<=xs.length/\∃z f S',Sts C g.ix F H S ρ σ f k S' z w/\Rl K f k S' z w/\iH body g Z (p.drop (i+1)) z,bk:=o.nx } R N:=by
  refine NL I1 (λb hb u=>?_) (ry.mono L.ff (yk L)) h1 λM R F2 H3 P bd I2 h2=>?_;rcases L.uu b u with q|q
  ·exact(hy b hb).1 q
  exact(hy b hb).2.1 q;have s2:=L.bind bd (λj hj=>hj) hC;exact ib I2 (X.fromS s2) h2 ⟨λf k S' z w Q I' q=>⟨l,z,f,S',s2.trans Q,I',q⟩,λv t W f k S' z w Q I' r hw fr q=>ort v t W f k S' z w (s2.c.trans Q) I' r hw (ym s2 fr) q,
   λf k S' z w Q I' q=>onx f k S' z w (s2.trans Q) I' q,λf k S' z w Q I' q=>⟨l,z,f,S',s2.trans Q,I',q⟩⟩
 exact OL hm key;have e:p.drop i=[]:=WE (by omega);rw[e]at h1;exact .inl ⟨hJ.stop i B hs hge,onx D B S1 A G L I1 h1⟩
theorem jG:∀(J:List Nat) (ρ:kA) (i:Nat) s,(kill J ρ)[i]?=some (some s)->ρ[i]?=some (some s)/\(i∈J->∀t,s=.nv t->t.isD=true)
 |[],ρ,i,s,h=>⟨h,λz=>by simp at z⟩|j::J,ρ,i,s,h=>by
  unfold kill at h;obtain⟨x,w⟩:=jG J _ i s h;rw[QAF]at x;by_cases e:j=i;subst e;simp only[reduceIte]at x;cases q:ρ[j]? with
  |none=>rw[q]at x;cases x|some o =>
   rw[q]at x;have x:aF o=some s:=by simpa using x
   cases o with
   |none=>cases x|some v =>
    cases v with
    |own t=>cases x;exact⟨rfl,λ_ u z=>by cases z⟩|nv t =>
     have x:(if t.isD=true then some (Sl.nv t) else none)=some s:=x;cases y:t.isD with|true=>rw[y,if_pos rfl]at x;cases x;exact⟨rfl,λ_ u z=>by cases z;exact y⟩|false=>rw[y]at x;simp at x
  simp only[e,if_false]at x;refine⟨by simpa using x,λm=>w ((QJ.mp m).elim (λz=>absurd z.symm e) id)⟩
theorem lL:∀(J:List Nat) (ρ:kA),(kill J ρ).length=ρ.length
 |[],_=>rfl|j::J,ρ=>by unfold kill;rw[lL J];simp
theorem Sts.kill(s:Sts C J F H S ρ σ D B S1 A G):Sts C [] F H S ρ σ D B S1 (L3.kill J A) G :=
 ⟨s.ff,s.hh,s.dm,s.fn,λb ⟨i,t,y,x⟩=>s.uu b ⟨i,t,(jG J A i _ y).1,x⟩,λj t _ e h=>by obtain⟨y,x⟩:=jG J A j _ e;by_cases z:j∈J;rw[x z t rfl]at h;cases h;exact s.bo j t z y h,s.sg⟩
theorem JQ:∀(L:List Nat) (ρ:kA) (j:Nat),(lock L ρ)[j]?=if j∈L then ρ[j]?.map SG else ρ[j]?
 |[],ρ,j=>by simp[lock]|i::L,ρ,j=>by
  have x:∀o,SG (SG o)=SG o:=λo=>by
   match o with
   |none=>rfl|some (.own _)=>rfl|some (.nv _)=>rfl
  unfold lock;rw[JQ L,QAF];by_cases e:i=j;subst e;cases h:ρ[i]? with|none=>simp|some o=>simp[x]
  have y:¬ j=i:=λz=>e z.symm;simp[e,y]
theorem iQ:∀(L:List Nat) (ρ:kA),(lock L ρ).length=ρ.length
 |[],_=>rfl|i::L,ρ=>by unfold lock;rw[iQ L];simp
theorem pK:∀(L:List Nat) (x ρ:kA) (j:Nat),(∀i∈L,i<ρ.length)->(NC L x ρ)[j]?=if j∈L then some (x[j]?.getD none) else ρ[j]?
 |[],x,ρ,j,_=>by simp[NC]|i::L,x,ρ,j,h=>by unfold NC;rw[pK L x _ j (λk hk=>by simpa using h k (QE _ hk)),wR];by_cases e:i=j;subst e;simp[h i QD];have y:¬ j=i:=λz=>e z.symm;simp[e,y]
theorem oK:∀(L:List Nat) (h ρ:kA),(NC L h ρ).length=ρ.length
 |[],_,_=>rfl|i::L,h,ρ=>by unfold NC;rw[oK L];simp
theorem oH{ρ:kA}:∀(x:List Nat),∀i∈UC ρ x,∃t,ρ[i]?=some (some (.own t))
 |[],i,h=>by simp[UC]at h|j::x,i,h=>by
  unfold UC at h;split at h
  ·rename_i ho
   rcases QJ.mp h with e|e
   ·subst e
    unfold cS at ho;split at ho;rename_i t e;exact⟨t,e⟩
    all_goals cases ho
   exact oH x i e
  exact oH x i h
theorem IK{ρ:kA}{i:Nat}{t:T}(h:ρ[i]?=some (some (.own t))):∀(x:List Nat),i∈x->i∈UC ρ x
 |[],hi=>by simp at hi|j::x,hi=>by
  unfold UC;rcases QJ.mp hi with e|e;subst e;have:cS ρ[i]?=true:=by rw[h];rfl
  rw[if_pos this];exact QD;have:=IK h x e;split;exact QE _ this;exact this
section
variable{L:List Nat}(y:∀i∈L,∃t,ρ[i]?=some (some (.own t)))
include y
theorem ZJ{i:Nat}{s:Sl}(h:(lock L ρ)[i]?=some (some s)):(i∈L/\∃t,ρ[i]?=some (some (.own t))/\s=.nv t)∨(i∉L/\ρ[i]?=some (some s)):=by rw[JQ]at h;by_cases x:i∈L;rw[if_pos x]at h;obtain⟨t,e⟩:=y i x;rw[e]at h;injection h with h;injection h with h;exact .inl ⟨x,t,e,h.symm⟩;rw[if_neg x]at h;exact .inr ⟨x,h⟩
theorem uF{b:Addr}(h:U (lock L ρ) S b):U ρ S b:=by
 obtain⟨i,t,x,z⟩:=h;rcases ZJ y x with⟨_,u,_,e⟩| ⟨_,x⟩
 cases e;exact⟨i,t,x,z⟩
theorem Rl.lock(I:Rl K F H S ρ σ):Rl K F H S (L3.lock L ρ) σ where
 fh:=I.fh
 len:=by rw[iQ];exact I.len
 sl:=λi s e=>by
  rcases ZJ y e with⟨_,t,h,rfl⟩| ⟨_,h⟩
  obtain⟨v,u,x⟩:=I.sl i _ h;exact⟨v,u,x.weak⟩;exact I.sl i s h
 dj:=λi j t s n k w=>by
  rcases ZJ y k with⟨_,_,_,z⟩| ⟨_,u⟩
  cases z;rcases ZJ y w with⟨_,a,x,_⟩| ⟨_,x⟩
  ·exact I.dj i j t _ n u x
  exact I.dj i j t s n u x
theorem Rl.lockU(I:Rl K F H S ρ σ){i:Nat}(x:i∈L){b:Addr}(hb:S i b):¬ U (L3.lock L ρ) S b:=λ⟨j,t,h,v⟩=>by
 obtain⟨w,e⟩:=y i x;rcases ZJ y h with⟨_,_,_,z⟩| ⟨u,h⟩
 cases z;exact I.dj j i t _ (λz=>u (z▸x)) h e b v hb
theorem JV(I:Rl K F H S ρ σ)(s:Sts C [] F H S (lock L ρ) σ D B S1 A G)(W:Rl K D B S1 A G)(hl:∀i∈L,A[i]?=ρ[i]?.map SG) :
  ∃P,Rl K D B P (NC L ρ A) G/\Sts C [] F H S ρ σ D B P (NC L ρ A) G:=by
 classical
 have l1:∀i∈L,∃t,ρ[i]?=some (some (.own t))/\A[i]?=some (some (.nv t)):=λi h=>by obtain⟨t,e⟩:=y i h;have:=hl i h;rw[e]at this;exact⟨t,e,this⟩
 have hlt:∀i∈L,i<A.length:=λi h=>by obtain⟨t,_,e⟩:=l1 i h;exact(Qd.mp e).1
 let P:Ft:=λi=>if i∈L then S i else S1 i
 have l:∀i∈L,P i=S i:=λi h=>if_pos h;have g:∀i,i∉L->P i=S1 i:=λi h=>if_neg h;have get:∀i a,(NC L ρ A)[i]?=some (some a)->(i∈L/\∃t,ρ[i]?=some (some (.own t))/\A[i]?=some (some (.nv t))/\a=.own t)∨(i∉L/\A[i]?=some (some a)):=λi a e=>by rw[pK L ρ A i hlt]at e;by_cases h:i∈L;rw[if_pos h]at e;obtain⟨t,f,Y⟩:=l1 i h;rw[f]at e;injection e with e;have e:some (Sl.own t)=some a:=e;injection e with e;exact .inl ⟨h,t,f,Y,e.symm⟩;rw[if_neg h]at e;exact .inr ⟨h,e⟩
 have Q:∀i∈L,∀k a,k∉L->A[k]?=some (some a)->∀b,S i b->¬ S1 k b:=λi h k a hk e b hb z=>by
  obtain⟨t,f,_⟩:=l1 i h;cases a with
  |own u=>rcases s.uu b ⟨k,u,e,z⟩ with q|q;exact I.lockU y h hb q;exact(I.dom f hb).1 q
  |nv u =>
   cases o:u.isD with
   |true=>exact W.isD e o z|false =>
    obtain⟨m,p,_⟩:=s.bo k u (by simp) e o;rw[p]at z;rcases ZJ y m with⟨q,_⟩| ⟨_,m⟩
    exact hk q;exact I.dj i k t _ (λq=>hk (q▸h)) f m b hb z
 refine⟨P,⟨W.fh,by rw[oK];exact W.len,λi a e=>?_,λi k t a n f Y b hb hk=>?_⟩,⟨s.ff,λb u e n=>s.hh b u e λz=>n (uF y z),s.dm,λb e z=>(s.fn b e z).imp (uF y) id,λb ⟨i,t,h1,h2⟩=>?_,λj t _ e o=>?_,s.sg⟩⟩;rcases get i a e with⟨h,t,f,Y,rfl⟩| ⟨h,f⟩
 ·rw[l i h]
  obtain⟨v,m,p⟩:=I.sl i _ f;cases o:t.isD with
  |true =>
   obtain⟨v',g3,g4⟩:=W.sl i _ Y;refine⟨v',g3,?_⟩;have nb:∀b,¬ S i b:=λb=>I.isD f o;cases t with
   |d x =>
    have g4:Tr K D B false v' (.d x) (S1 i):=g4;cases g4 with|d r _=>exact .d r nb
   |_=>cases o
  |false =>
   obtain⟨_,_,g5⟩:=s.bo i t (by simp) Y o;refine⟨v,g5.trans m,?_⟩;have p:Tr K F H true v t (S i):=p;refine p.mono s.ff λb hb=>?_;obtain⟨d1,d2⟩:=p.dom b hb;have nu:=I.lockU y h hb;refine⟨?_,?_⟩;cases eb:H b with|none=>exact absurd eb d1|some u=>exact s.hh b u eb nu
   by_cases q:D b=none
   ·exact q
   exact((s.fn b d2 q).elim nu d1).elim
 rw[g i h];exact W.sl i a f;rcases get i _ f with⟨h,t',X,a2,_⟩| ⟨h,X⟩
 ·rw[l i h]at hb
  rcases get k a Y with⟨w,t2,Z,b2,_⟩| ⟨w,Z⟩
  rw[l k w]at hk;exact I.dj i k t' _ n X Z b hb hk;rw[g k w]at hk;exact Q i h k a w Z b hb hk
 rw[g i h]at hb;rcases get k a Y with⟨w,t2,Z,b2,_⟩| ⟨w,Z⟩
 rw[l k w]at hk;exact Q k w i _ h X b hk hb;rw[g k w]at hk;exact W.dj i k t a n X Z b hb hk;rcases get i _ h1 with⟨h,t',X,a2,_⟩| ⟨h,X⟩
 ·rw[l i h]at h2
  exact .inl ⟨i,t',X,h2⟩
 rw[g i h]at h2;exact(s.uu b ⟨i,t,X,h2⟩).imp (uF y) id;rcases get j _ e with⟨_,_,_,_,z⟩| ⟨hj,f⟩
 ·cases z
 obtain⟨m,p,g3⟩:=s.bo j t (by simp) f o;rcases ZJ y m with⟨q,_⟩| ⟨_,m⟩
 exact absurd q hj;exact⟨m,(g j hj).trans p,g3⟩
end
theorem lO{i:Nat}(h:(!C.contains i)=true):i∉C:=λz=>by have:C.contains i=true:=Qp.mpr z;rw[this]at h;cases h
theorem gQ{x:List Nat}(h:(x.all λi=>!C.contains i)=true):∀i∈x,i∉C:=λi y=>lO (qH.mp h i y)
theorem hV:∀{xs:List (T×Bool)},aR xs=true->∀t∈oM xs,t.isD=true
 |[],_,t,h=>by simp[oM]at h|p::r,h,t,y=>by
  simp only[aR,Qf]at h;simp only[oM,QJ]at y;rcases y with rfl|y;obtain⟨x,n⟩:=p;cases n with
  |true=>rfl|false =>
   have z:=h.1;cases x with|d x=>rfl|_=>cases z
  exact hV h.2 t y
theorem Tn.bare{Y:nB}{vs:List V}{ts:List T}(h:Tn K F H Y vs ts):(∀t∈ts,t.isD=true)->Tn K F H (λ_=>False) vs ts:=by
 induction h with
 |nil=>exact λ_=>.nil|@cons v t vs ts Z r z a w =>
  intro y;refine .cons (Z:=λ_=>False) ?_ (λ_ z=>z) (w λu k=>y u (QE _ k));have y:=y t QD;cases t with
  |d x=>cases r with|d q _=>exact .d q λ_ z=>z
  |_=>cases y
theorem IX{v:V}{t:T}{W:nB}{Z:PEnds}{h:Ends}(ok:EndsOk K C F H S ρ σ Z h)(s:Ste F H S ρ D B S1 A)(I:Rl K D B S1 A σ)(r:Tr K D B true v t W)(x:Held D B S1 A W)(y:∀b,W b->H b=none∨U ρ S b)(q:Z.rt t A):h.rt v B :=
 ok.rt v t W D B S1 A σ (s.toStp.sts (J:=[])).c I r x y q
theorem J4(g:GOk K Γ Ψ):∀(e:PX) {F H:Hp}{S:Ft}{ρ:kA}{σ:St}{Z:PEnds}{k:Ends},Rl K F H S ρ σ->OE K F H S ρ E O->GJ Ψ E Z.rt e ρ->EndsOk K C F H S ρ σ Z k->(wp K Γ e O).e σ H k.rt:=by
  intro e F H S ρ σ Z k I X h ok;have f:∀e,(pe Ψ e E).e ρ (λx n A=>JH x n=true/\Z.rt x A)->(wp K Γ e O).e σ H k.rt:=λe h=>by refine(HA g e).e (Q:=λx n A=>JH x n=true/\Z.rt x A) I X h λv F' H' S' l x n Za s J r ⟨Y,q⟩=>?_;obtain⟨W,m,o,fr⟩:=r.strict Y;exact IX ok s J m o fr q
  cases e with
  |var i =>
   have y:Sj ρ i Z.rt ρ[i]?:=h;show(match σ[i]? with|some (some v)=>k.rt v _|_=>False)
   match a:ρ[i]?,y with
   |some (some (.own t)),y =>
    obtain⟨v,w,r⟩:=I.sl i _ a;rw[w];have I0:Rl K F H S (ρ.set i none) σ:=I.drop (by simp) λj s e=>by
     rcases dA e with⟨_,z,_⟩| ⟨_,e⟩
     cases z;exact e
    refine ok.rt v t (S i) F H S (ρ.set i none) σ ⟨.refl _,λb u e _=>e,λb e=>e,λb e z=>absurd e z,λb ⟨j,u,w,L⟩=>.inl ?_,λ_ _=>rfl⟩ I0 r ⟨r.dom,λj s e b hb z=>?_⟩ (λb hb=>.inr ⟨i,t,a,hb⟩) y;rcases dA w with⟨_,z,_⟩| ⟨_,w⟩
    ·cases z
    exact⟨j,u,w,L⟩;rcases dA e with⟨_,q,_⟩| ⟨n,e⟩
    ·cases q
    exact I.dj i j t s n a e b hb z
   |some (some (.nv t)),y =>
    obtain⟨v,w,r⟩:=I.sl i _ a;rw[w];obtain⟨p,y⟩:=y;cases t with
    |d x =>
     have r:Tr K F H false v (.d x) (S i):=r;cases r with|d q n=>exact IX (W:=λ_=>False) ok .refl I (.d q λ_ z=>z) .none (λ_ z=>z.elim) y
    |_=>cases p
   |some none,y=>exact y.elim|none,y=>exact y.elim
  |_=>exact f _ h
theorem NH(g:GOk K Γ Ψ):∀(p:PT) {F H:Hp}{S:Ft}{ρ:kA}{σ:St}{Z:PEnds}{Dn:Ends},MJ C p=true->Rl K F H S ρ σ->OE K F H S ρ E O->vA Ψ E p Z ρ->EndsOk K C F H S ρ σ Z Dn->tP K Γ O p Dn σ H
 | .nil,_,_,_,_,_,_,_,c,I,X,h,ok=>ok.nx _ _ _ _ _ .refl I h|.seq s r,_,_,_,_,_,_,_,c,I,X,h,ok=>by obtain⟨c1,c2⟩:=yA c;exact NH g s c1 I X h ⟨λF' H' S' L σ' s' J q=>NH g r c2 J (X.fromS s') q (ok.from s'),ok.rt,ok.bk,ok.ct⟩|.set i e,F,H,S,ρ,σ,Z,Dn,c,I,X,h,ok=>by have hi:=lO c;refine DD (RR:=λx B=>Dn.nx (σ.set i (some x)) B) (HA g e) I X h λv F' H' S' L x n Za s J X' r er _ ⟨he,q⟩=>?_;exact ok.nx _ _ _ _ _ (s.toStp.sts.setD i hi v rfl _) (J.setD i (er he)) q|.expr e,F,H,S,ρ,σ,Z,Dn,c,I,X,h,ok=>(HA g e).e I X h λv F' H' S' L x n Za s J r q=>ok.nx _ _ _ _ _ s.toStp.sts J q|.ret e,F,H,S,ρ,σ,Z,Dn,c,I,X,h,ok=>J4 g e I X h ok|.ife t a b,F,H,S,ρ,σ,Z,Dn,c,I,X,h,ok=>by
  obtain⟨c1,c2⟩:=yA c;refine(HA g t).t I X h λk F' H' S' L s J q=>?_;cases k with|true=>exact NH g a c1 J (X.from s.toStp) q (ok.from s.toStp.sts)|false=>exact NH g b c2 J (X.from s.toStp) q (ok.from s.toStp.sts)
 | .for_ tg ik its body,F,H,S,ρ,σ,Z,Dn,c,I,X,h,ok=>by
  obtain⟨c1,c2⟩:=yA c;have hC:=gQ c1;refine oT (RR:=λvs B=>aC K ik vs B λxs st N=>Pd K xs st tg (tP K Γ O body) Dn σ N) (HA g its) I X h λvs D B S1 A xs Y s1 I1 X1 tn tm q=>?_;rw[fK _ rfl]at q;have ok1:=ok.from s1.toStp.sts;cases ha:aR xs with
  |true=>have tn':=tn.bare (hV ha);refine OI I1.fh tn' q λits ys st pr hst hc=>?_;rw[ha,if_pos rfl]at hc;refine SU (λI X h ok=>NH g body c2 I X h ok) I1 X1 hC pr (λb z=>z.elim) hst hc ?_ ?_;exact λF' H' S' L σ' s' I' q=>ok1.nx _ _ _ _ _ s'.kill (I'.drop (lL _ _) λi sl e=>(jG _ _ i sl e).1) q;exact λv t W F' H' S' L σ' s' I' r hw fr q=>ok1.rt v t W F' H' S' L σ' s' I' r hw fr q|false =>
   refine OI I1.fh tn q λits' ys st pr hst hc=>?_;rw[ha,if_neg (by simp)]at hc;have hL:=oH (ρ:=A) (LG its);have IL:=I1.lock hL;have sL:Sts C [] D B S1 A σ D B (λ_ _=>False) [] σ:=⟨.refl _,λb u e _=>e,λb e=>e,λb e z=>absurd e z,λb ⟨i,t,e,_⟩=>by simp at e,λj t _ e=>by simp at e,λ_ _=>rfl⟩
   have XL:OE K D B S1 (lock (UC A (LG its)) A) E O:=λx dx F2 N P M s2 f r q =>
    X1 x dx F2 N (λ_ _=>False) [] ⟨s2.ff,λb u e n=>s2.hh b u e λz=>n (uF hL z),s2.dm,λb e z=>(s2.fn b e z).imp (uF hL) id,λb ⟨i,t,e,_⟩=>by simp at e,λj t e=>by simp at e⟩ f r q
   refine SU (λI X h ok=>NH g body c2 I X h ok) IL XL hC pr (λb hb=>?_) hst hc ?_ ?_;obtain⟨i,sl,h1,h2,h3⟩:=tm b hb;refine⟨λu=>?_,I1.dom h2 h3⟩;cases sl with
   |own t=>exact I1.lockU hL (IK h2 _ h1) h3 u|nv t =>
    obtain⟨j,t',e1,e2⟩:=u;rcases ZJ hL e1 with⟨_,_,_,z⟩| ⟨_,e1⟩
    cases z;exact I1.dj j i t' _ (λz=>by subst z;rw[h2]at e1;cases e1) e1 h2 b e2 h3
   intro F' H' S' L σ' s' I' ⟨q1,q2⟩;have sk:=s'.kill;have Ik:=I'.drop (lL tg.ix L) λi sl e=>(jG _ _ i sl e).1;obtain⟨P,I2,s2⟩:=JV hL I1 sk Ik λi hi=>(q1 i hi).2;exact ok1.nx _ _ _ _ _ s2 I2 q2;intro v t W F' H' S' L σ' s' I' r hw fr q;exact ok1.rt v t W F' H' S' L σ' ⟨s'.ff,λb u e n=>s'.hh b u e λz=>n (uF hL z),s'.dm,λb e z=>(s'.fn b e z).imp (uF hL) id,λb u=>(s'.uu b u).imp (uF hL) id,s'.sg⟩ I' r hw (λb hb=>(fr b hb).imp id (uF hL)) q
 | .own i e,F,H,S,ρ,σ,Z,Dn,c,I,X,h,ok=>by refine(HA g e).e (Q:=λx n A=>JH x n=true/\Z.nx (A.set i (some (.own x)))) I X h λv F' H' S' L x n Za s J r ⟨he,q⟩=>?_;obtain⟨W,r2,hw,fr⟩:=r.strict he;exact ok.nx _ _ _ _ _ (s.toStp.sts.setN i (lO c) v x fr) (J.setN i r2 λj sl _ e b hb=>hw.nw j sl e b hb) q|.tset is e,F,H,S,ρ,σ,Z,Dn,c,I,X,h,ok=>by
  have hc:=gQ c;refine DD (RR:=λx B=>DE K (.tp is) x σ B Dn.nx) (HA g e) I X h λv F' H' S' L x n Za s J X' r er _ ⟨he,q⟩=>?_;have q2:lI (.tp is) (.d x.er) L λM=>Z.nx M/\∀(j:Nat) t,M[j]?=some (some (.nv t))->t.isD=false->j∉is:=by
   generalize x.er=d at q;cases d with
   |tuple ds=>obtain⟨M,e,q⟩:=q;exact⟨M,e,q,λj t h1 h2=>(XM is ds e j t h1 h2).1⟩|dict kvs =>
    have q:(match GB kvs with | .tp ts=>∃M,VB is ts L=some M/\Z.nx M|_=>False):=q;unfold GB at q;cases ek:xD kvs with|none=>rw[ek]at q;exact q.elim|some b=>rw[ek]at q;exact q.elim
   |_=>exact q.elim
  refine NL (Y:=λ_=>False) (it:=.one v) J (λb z=>z.elim) ⟨λ_=>False,.d (er he) λ_ z=>z,λ_ z=>z⟩ q2 λM R F2 N P bd J2 qn=>?_;have st:=(s.toStp.sts (σ:=σ) (C:=C) (J:=is)).bind bd (λj hj=>hj) hc;exact ok.nx _ _ _ _ _ ⟨st.ff,st.hh,st.dm,st.fn,st.uu,λj t _ e hd=>st.bo j t (qn.2 j t e hd) e hd,st.sg⟩ J2 qn.1
 | .six o i e,F,H,S,ρ,σ,Z,Dn,c,I,X,h,ok=>by
  have later:∀{j:Nat}{t:T}{v0:V},ρ[j]?=some (some (.own t))->Tr K F H true v0 t (S j)->∀{F' H':Hp}{S':Ft}{L:kA},Ste F H S (ρ.set j (some (.nv t))) F' H' S' L->Tr K F' H' true v0 t (S j)/\∀b,S j b->H' b=H b:=λ{j t v0} hj r0 {F' H' S' L} s=>⟨s.toStp.keep r0 (I.lock1U hj),λb hb=>by
   cases e:H b with|none=>exact absurd e (r0.dom b hb).1|some u=>exact s.hh b u e (I.lock1U hj b hb)⟩
  cases o with
  |var j =>
   have h:ID ρ[j]? _:=h;unfold ID at h;split at h;rename_i t hj;obtain⟨v0,hv,r0⟩:=I.sl j _ hj;have r0:Tr K F H true v0 t (S j):=r0;show(wp K Γ e O).e σ H λv B=>(wp K Γ (.var j) O).e σ B λov N=>(wp K Γ i O).e σ N λiv H3=>HP K ov iv v H3 λH4=>Dn.nx σ H4;refine DD (HA g e) (I.lock1 hj) (X.lock1 hj) h λxv D B S1 A x n Zx s1 I1 X1 _ er1 _ ⟨he,q1⟩=>?_;have rx:=er1 he;show(match σ[j]? with|some (some v)=>_|_=>False);rw[hv];refine DD (HA g i) I1 X1 q1 λiv F2 N P M y m Zy s2 I2 X2 _ er2 _ ⟨he2,hj2,q2⟩=>?_;have s12:=s1.trans s2;refine VX I2.fh (later hj r0 s12).1 (er2 he2) (rx.mono s2.ff) q2 λt' H3 S3 hh dm rt sub q=>?_;obtain⟨st,I3,_⟩:=LH (W:=λ_=>False) I hj hv s12 I2 hh dm rt (λb hb=>.inl (sub b hb)) .none (λ_ z=>z.elim);exact ok.nx _ _ _ _ _ st.toStp.sts I3 q
   all_goals exact h.elim
  |idx a k =>
   cases a with
   |var j =>
    have h:ID ρ[j]? _:=h;unfold ID at h;split at h;rename_i t hj;obtain⟨v0,hv,r0⟩:=I.sl j _ hj;have r0:Tr K F H true v0 t (S j):=r0;show(wp K Γ e O).e σ H λv B=>(wp K Γ (.var j) O).e σ B λov N=>(wp K Γ k O).e σ N λzv H3=>SV K ov zv H3 λow H4=>(wp K Γ i O).e σ H4 λiv H5=>HP K ow iv v H5 λH6=>Dn.nx σ H6;refine DD (HA g e) (I.lock1 hj) (X.lock1 hj) h λxv D B S1 A x n Zx s1 I1 X1 _ er1 _ ⟨he,q1⟩=>?_;have rx:=er1 he;show(match σ[j]? with|some (some v)=>_|_=>False);rw[hv];refine DD (HA g k) I1 X1 q1 λzv F2 N P M z l Zz s2 I2 X2 _ er2 _ ⟨hez,b,ks,ts,n,s,et,hk,hf,ht,q2⟩=>?_;have s12:=s1.trans s2;have rz:=er2 hez;subst et;obtain⟨r2,k2⟩:=later hj r0 s12;obtain⟨a,o,vs,ea,ho,dk,hw⟩:∃a o vs,v0=.ref a/\N a=some o/\KI K F2 b o ks vs/\∃w,vs[n]?=some w/\S j a:=by
     cases r2 with|dct h1 dk h2 h3 h4 h5=>obtain⟨w,_,g1,_⟩:=h3.get ht;exact⟨_,_,_,rfl,h1,dk,w,g1,(h5 _).mpr (.inl rfl)⟩
    obtain⟨w,hw,sa⟩:=hw;subst ea;have gd:=(dk.mono I2.fh).get ho (rz.mono I2.fh) hk;rw[hf]at gd;have gd:fP K N a zv (vs[n]?):=gd;rw[hw]at gd;have fin:(wp K Γ i O).e σ N λiv H5=>HP K w iv xv H5 λH6=>Dn.nx σ H6:=by
     refine DD (HA g i) I2 X2 q2 λiv F3 H3 S3 ρ3 y m Zy s3 I3 X3 _ er3 _ ⟨he3,hj3,q3⟩=>?_;have s13:=s12.trans s3;obtain⟨r3,k3⟩:=later hj r0 s13;have ho3:H3 a=some o:=by rw[k3 a sa,<- k2 a sa];exact ho
     refine C3 I3.fh r3 ho3 dk hw ht (er3 he3) ((rx.mono s2.ff).mono s3.ff) q3 λt' H4 S4 hh dm rt sub q=>?_;obtain⟨st,I4,_⟩:=LH (W:=λ_=>False) I hj hv s13 I3 hh dm rt (λb hb=>.inl (sub b hb)) .none (λ_ z=>z.elim);exact ok.nx _ _ _ _ _ st.toStp.sts I4 q
    cases zv with|str z=>exact⟨w,gd,fin⟩|ref c=>exact⟨w,gd,fin⟩|_=>exact gd.elim
    all_goals exact h.elim
   |_=>exact h.elim
  |_=>exact h.elim
 | .sdf j k,F,H,S,ρ,σ,Z,Dn,c,I,X,h,ok=>by
  have h:ID ρ[j]? _:=h;unfold ID at h;split at h;rename_i t hj;obtain⟨v0,hv,r0⟩:=I.sl j _ hj;have r0:Tr K F H true v0 t (S j):=r0;obtain⟨hd,h⟩:=h;show(match σ[j]? with|some (some v)=>kX K "dict" v H/\(wp K Γ k O).e σ H λx B=>∀p,B p=none->IJ K v [x,.ref p] (OA B p (.dT 0 [])) λ_ N=>Dn.nx σ N|_=>False);rw[hv];constructor;cases r0 with
  |@dct _ b _ _ _ _ _ _ _ h1 dk _ _ _ _ =>
   cases b with|true=>obtain⟨ep,kvs,rfl,_⟩:=dk;exact .inr (.inr (.inl ⟨rfl,.inr ⟨ep,kvs,h1⟩⟩))|false=>cases hd
  |_=>cases hd
  refine DD (HA g k) (I.lock1 hj) (X.lock1 hj) h λiv D B S1 A y m Zy s1 I1 X1 _ er _ ⟨he,hj1,q1⟩=>?_;intro p hp;have r1:=s1.toStp.keep r0 (I.lock1U hj);refine M9 I1.fh hp r1 (er he) q1 λt' H3 S3 hh dm rt sub q=>?_;obtain⟨st,I3,_⟩:=LH (W:=λ_=>False) I hj hv s1 I1 hh dm rt (λb hb=>(sub b hb).imp id λ(z:b=p)=>.inr (by rw[z];exact hp)) .none (λ_ z=>z.elim);exact ok.nx _ _ _ _ _ st.toStp.sts I3 q
  all_goals exact h.elim
 | .whl t body,F,H,S,ρ,σ,Z,Dn,c,I,X,h,ok=>by
  obtain⟨W,⟨m0,w0⟩,turn⟩:=h;refine⟨λm σ' H'=>∃L F' S',Sts C [] F H S ρ σ F' H' S' L σ'/\Rl K F' H' S' L σ'/\W m L,⟨m0,ρ,F,S,.refl,I,w0⟩,?_⟩;rintro m G B ⟨A,D,S1,s1,I1,w1⟩;refine(HA g t).t I1 (X.fromS s1) (turn m A w1) λk F' H' S' L s' J q=>?_;have s2:=s1.trans s'.toStp.sts;cases k with
  |false=>exact ok.nx _ _ _ _ _ s2 J q|true =>
   refine⟨λσ' H'=>∃m',m' < m/\∃L F' S',Sts C [] F H S ρ σ F' H' S' L σ'/\Rl K F' H' S' L σ'/\W m' L,λ_ _ z=>z,?_⟩;refine NH g body c J (X.fromS s2) q ⟨?_,?_,?_,?_⟩;exact λF' H' S' L σ' s' I' ⟨m',hm,w⟩=>⟨m',hm,L,F',S',s2.trans s',I',w⟩
   exact λv t W F' H' S' L σ' s' I' r hw fr q=>ok.rt v t W F' H' S' L σ' (s2.c.trans s') I' r hw (ym s2 fr) q;exact λF' H' S' L σ' s' I' q=>ok.nx _ _ _ _ _ (s2.trans s') I' q;exact λF' H' S' L σ' s' I' ⟨m',hm,w⟩=>⟨m',hm,L,F',S',s2.trans s',I',w⟩
 | .frz is s,F,H,S,ρ,σ,Z,Dn,c,I,X,h,ok=>by obtain⟨F',S',I',s'⟩:=I.frzAt (C:=C) is;exact NH g s c I' (X.fromS s') h (ok.from s')
end
section
variable{z:Ev}{n:Need}
noncomputable def sj(x:Str)(n:String):Bool:=(x==("bool":Str)&&n == "bool")||(x==("int":Str)&&n == "int")||(x==("str":Str)&&n == "str")||(x==("list":Str)&&n == "list")||(x==("tuple":Str)&&n == "tuple")||(x==("ValueError":Str)&&n == "ValueError")
theorem K9{x:Str}{n:String}(h:sj x n=true):bootBuiltins x=some (.type n):=by simp only[sj,wU,Qf,beq_iff_eq]at h;rcases h with((((⟨rfl,rfl⟩| ⟨rfl,rfl⟩)|⟨rfl,rfl⟩)|⟨rfl,rfl⟩)|⟨rfl,rfl⟩)|⟨rfl,rfl⟩<;>kernel_rfl
structure Need where
 fn:List Str
 va:List Str
 no:List Str
def Hl(n:Need):ItK->Bool
 | .val=>true|.rng1=>n.no.contains ("range":Str)|.enum=>n.no.contains ("enumerate":Str)|.zip2=>n.no.contains ("zip":Str)|.itm=>true
noncomputable def uB(n:Need):PX->Bool
 | .glo x=>n.va.contains x|.bty x t=>n.no.contains x&&sj x t|.bin _ a b | .cmp _ a b | .and a b | .or a b | .idx a b | .nq a b | .dsp a b=>uB n a&&uB n b
 | .not a | .neg a | .lst a | .tup a=>uB n a
 | .slc a b c=>uB n a&&(uB n b&&uB n c)|.dof a=>n.no.contains "dict" && uB n a|.lset a=>n.no.contains "len" && (n.no.contains "set" && uB n a)|.sset a=>n.no.contains "sorted" && (n.no.contains "set" && uB n a)|.call f y=>n.fn.contains f&&uB n y|.bi f y=>n.no.contains f.nm&&uB n y|.isi a c=>n.no.contains ("isinstance":Str)&&(uB n a&&uB n c)|.mt _ o y=>uB n o&&uB n y|.comp _ _ _ w u h v=>Hl n w&&(uB n u&&(uB n h&&uB n v))|_=>true
noncomputable def kF(n:Need):PT->Bool
 | .seq s r=>kF n s&&kF n r|.set _ e=>uB n e|.own _ e=>uB n e|.expr e=>uB n e|.ret e=>uB n e|.ife c a b=>uB n c&&(kF n a&&kF n b)|.for_ _ y x h=>Hl n y&&(uB n x&&kF n h)|.tset _ e=>uB n e|.six o i e=>uB n o&&(uB n i&&uB n e)|.sdf i k=>uB n (gf i k)|.whl c b=>uB n c&&kF n b|.frz _ s=>kF n s|.nil=>true
def XO(z:Ev)(n:Need):Glob:=⟨z,λf=>f∈n.fn,λx=>x∈n.va,λx=>x∈n.no⟩
theorem UZ{x:ItK}(h:Hl n x=true):Yg (XO z n) x:=by
 cases x with|val=>trivial|itm=>trivial|_=>exact Qp.mp h
theorem yD:∀(p:PX),uB n p=true->LA (XO z n) p:=by
 intro p;induction p with
 |glo x=>intro h;exact Qp.mp h|bty x t=>intro h;obtain⟨v,u⟩:=yA h;exact⟨Qp.mp v,K9 u⟩|bin _ a b y w|cmp _ a b y w|and a b y w|or a b y w|idx a b y w|nq a b y w|dsp a b y w=>intro h;obtain⟨v,u⟩:=yA h;exact⟨y v,w u⟩
 |not a y|neg a y|lst a y|tup a y=>intro h;exact y h
 |slc a b c y w i=>intro h;obtain⟨v,e⟩:=yA h;obtain⟨u,k⟩:=yA e;exact⟨y v,w u,i k⟩|call f l y=>intro h;obtain⟨v,u⟩:=yA h;exact⟨Qp.mp v,y u⟩|dof a y=>intro h;obtain⟨v,u⟩:=yA h;exact⟨Qp.mp v,y u⟩|lset a y=>intro h;obtain⟨v,u⟩:=yA h;obtain⟨k,g⟩:=yA u;exact⟨Qp.mp v,Qp.mp k,y g⟩|sset a y=>intro h;obtain⟨v,u⟩:=yA h;obtain⟨k,g⟩:=yA u;exact⟨Qp.mp v,Qp.mp k,y g⟩|bi f l y=>intro h;obtain⟨v,u⟩:=yA h;exact⟨Qp.mp v,y u⟩|isi a c y i=>intro h;obtain⟨v,e⟩:=yA h;obtain⟨u,k⟩:=yA e;exact⟨Qp.mp v,y u,i k⟩|mt _ o l q y=>intro h;obtain⟨v,u⟩:=yA h;exact⟨q v,y u⟩|comp _ _ _ Z m j Y X s r=>intro h;obtain⟨v,h⟩:=yA h;obtain⟨u,h⟩:=yA h;obtain⟨k,g⟩:=yA h;exact⟨UZ v,X u,s k,r g⟩|_=>intro _;trivial
theorem fW:∀(p:PT),kF n p=true->zF (XO z n) p:=by
 intro p;induction p with
 |seq s r f l=>intro h;obtain⟨u,y⟩:=yA h;exact⟨f u,l y⟩|set _ e|own _ e|expr e|ret e|tset _ e=>intro h;exact yD _ h
 |six o i e=>intro h;obtain⟨u,x⟩:=yA h;obtain⟨y,w⟩:=yA x;exact⟨yD _ u,yD _ y,yD _ w⟩|sdf i k=>intro h;exact yD _ h|frz _ s f=>intro h;exact f h|whl c b v=>intro h;obtain⟨u,y⟩:=yA h;exact⟨yD _ u,v y⟩|ife c a b m v=>intro h;obtain⟨u,x⟩:=yA h;obtain⟨y,w⟩:=yA x;exact⟨yD _ u,m y,v w⟩|for_ _ q j g v=>intro h;obtain⟨u,x⟩:=yA h;obtain⟨y,w⟩:=yA x;exact⟨UZ u,yD _ y,v w⟩|_=>intro _;trivial
noncomputable def JL(N h:List Str)(sc:Scope):Bool:=sc.kind==.function&&!sc.isCoroutine&&!sc.isGenerator&&yL N&&N.take h.length==h &&
 h.all (λx=>sc.names.lookup x==some .local||sc.names.lookup x==some .cell)&&sc.names.all λy=>y.2 != .free
theorem MQ{N x:List Str}{sc:Scope}(h:JL N x sc=true):FnScope N x sc:=by simp only[JL,Qf,qH,wU,beq_iff_eq,Q8,bne_iff_ne,ne_eq]at h;obtain⟨⟨⟨⟨⟨⟨b,a⟩,k⟩,w⟩,v⟩,u⟩,y⟩:=h;exact⟨b,a,k,LI w,v,u,y⟩
def ZC(n:Need)(b:PT)(N h:List Str)(st:Stmt):Bool:=JL N h (cB st)&&MO b ⟨N,cB st⟩ (RC st)&&kF n b
def Ga:Md->T->Sl
 | .chg,t=>.own t|_,t=>.nv t
def lE:List Md->List T->kA
 |_,[]=>[]|md,t::ts=>some (Ga (md.headD .ny) t)::lE md.tail ts
def nA(N:List Str)(md:List Md)(ts:List T):kA:=lE md ts++Qz (N.length - ts.length) none
def AB:Nat->List Md->Nat->List Nat
 |_,_,0=>[]|k,md,n+1=>match md.headD .ny with
  | .chg=>k::AB (k+1) md.tail n|_=>AB (k+1) md.tail n
def KY:Option (List T)->(List T->Prop)->Prop
 |some os,Q=>Q os|none,_=>False
def MA(P:PSp)(n:Nat)(Q:T->List T->Prop):PEnds where
 nx:=λh=>KY (xB (AB 0 P.md n) h) (Q (.d .none))
 rt:=λt h=>KY (xB (AB 0 P.md n) h) (Q t)
def LR(h:Str->Option Value)(x:Str):V:=((h x).bind AJ).getD .non
def Ug(K:QC)(h:Str->Option Value)(Ψ:PEv):Ev:=⟨λf=>lift K (Ψ.sp f),LR h⟩
structure ValsOk(P:Program)(w:World)(K:QC)(mg:Str->Option Value)(Ψ:PEv)(va:List Str):Prop where
 rep:∀x d,Ψ.va x=some d->∀F,Rep K F (LR mg x) d
 has:∀x∈va,∃u v,mg x=some u/\AJ u=some v
theorem zU{u:Value}{v:V}(h:AJ u=some v):sA v u:=by cases u<;>first | (obtain rfl:=qE h;first|rfl|exact⟨_,rfl⟩)|exact nomatch (show(none:Option V)=some v from h)
end
section
variable{P:Program}{w:World}{K:QC}{mg:Str->Option Value}{base:Heap}{Ψ:PEv}
section
variable{k:Nat}{F H:Hp}{Y M:nB}{md:List Md}{vs:List V}{ts:List T}{N l:List Str}{R:PSp}{x o:Str}{st:Stmt}{f:Addr}{p:FuncData}{n:Need}
def jC(P:Program)(w:World)(K:QC)(mg:Str->Option Value)(base:Heap)(Ψ:PEv)(k:Nat)(f:Str):Prop :=
 ∃(a:Addr) (p:FuncData) (l:List Str),FnOk P w K mg base D2 k a p l (lift K (Ψ.sp f))/\mg f=some (.ref a)/\WB K (.ref a)=true/\ZI K p l []
theorem jC.mono{j:Nat}{f:Str}(h:jC P w K mg base Ψ j f)(hk:j<=k):jC P w K mg base Ψ k f:=by obtain⟨a,p,l,z,y⟩:=h;exact⟨a,p,l,z.mono hk,y⟩
theorem ArgsR.length(h:ArgsR K F H Y md vs ts):vs.length=ts.length:=by
 induction h with|nil=>rfl|chg _ _ e=>exact congrArg Nat.succ e|rd _ _ _ _ e=>exact congrArg Nat.succ e
theorem OH:∀(m:List Md) (ts:List T),(lE m ts).length=ts.length
 |_,[]=>rfl|m,d::ds=>by unfold lE;rw[QM,QM,OH]
theorem YY{m:Md}(h:m≠.chg)(t:T):Ga m t=.nv t:=by cases m<;>first|rfl|exact absurd rfl h
theorem rH(md:List Md)(v:V)(vs:List V):eB md (v::vs)=match md.headD .ny with | .chg=>v::eB md.tail vs|_=>eB md.tail vs:=by first | (rw[eB];done) | (rw[eB];cases md.headD .ny<;>rfl)
theorem uL(md:List Md)(v:T)(vs:List T):NB md (v::vs)=match md.headD .ny with | .chg=>v::NB md.tail vs|_=>NB md.tail vs:=by first | (rw[NB];done) | (rw[NB];cases md.headD .ny<;>rfl)
theorem GM(md:List Md)(t:T)(ts:List T):lE md (t::ts)=some (Ga (md.headD .ny) t)::lE md.tail ts:=by rw[lE]
theorem X7(h:ArgsR K F H Y md vs ts)(r:Trs K F H true (eB md vs) (NB md ts) M) :
  ∃Z:Ft,(∀(i:Nat) s,(lE md ts)[i]?=some (some s)->∃v,vs[i]?=some v/\Tr K F H s.st v s.t (Z i))/\(∀(i:Nat) t,(lE md ts)[i]?=some (some (.own t))->∀b,Z i b->M b)/\(∀(i:Nat) t,(lE md ts)[i]?=some (some (.nv t))->∀b,Z i b->Y b) /\
   ∀(i j:Nat) t u,i≠j->(lE md ts)[i]?=some (some (.own t))->(lE md ts)[j]?=some (some (.own u))->∀b,Z i b->¬ Z j b:=by
 induction h generalizing M with
 |nil=>exact⟨λ_ _=>False,λi s e=>by simp[lE]at e,λi t e=>by simp[lE]at e,λi t e=>by simp[lE]at e,λi j t u _ e=>by simp[lE]at e⟩|@chg md v vs t ts a O A =>
  have J:eB md (v::vs)=v::eB md.tail vs:=by rw[rH,a]
  have I:NB md (t::ts)=t::NB md.tail ts:=by rw[uL,a]
  rw[J,I]at r;cases r with
  |@cons _ _ _ _ _ _ L Z2 W Q n q =>
   obtain⟨Z,E,g,C,B⟩:=A Q;have G:lE md (t::ts)=some (.own t)::lE md.tail ts:=by rw[GM,a];rfl
   rw[G];refine⟨λi=>match i with|0=>L|i+1=>Z i,λi s e=>?_,λi u e b hb=>?_,λi u e b hb=>?_,λi j u w X e m b hb y=>?_⟩;cases i with|zero=>simp at e;subst e;exact⟨v,rfl,W⟩|succ i=>exact E i s (by simpa using e)
   cases i with|zero=>exact(q b).mpr (.inl hb)|succ i=>exact(q b).mpr (.inr (g i u (by simpa using e) b hb))
   cases i with|zero=>simp at e|succ i=>exact C i u (by simpa using e) b hb
   cases i with
   |zero =>
    cases j with|zero=>exact X rfl|succ j=>exact n b hb (g j w (by simpa using m) b y)
   |succ i =>
    cases j with|zero=>exact n b y (g i u (by simpa using e) b hb)|succ j=>exact B i j u w (λz=>X (by rw[z])) (by simpa using e) (by simpa using m) b hb y
 |@rd md v vs t ts L a W S O A =>
  have J:eB md (v::vs)=eB md.tail vs:=by rw[rH];cases e:md.headD .ny<;>first|exact absurd e a|rfl
  have I:NB md (t::ts)=NB md.tail ts:=by rw[uL];cases e:md.headD .ny<;>first|exact absurd e a|rfl
  rw[J,I]at r;obtain⟨Z,E,g,C,B⟩:=A r;have G:lE md (t::ts)=some (.nv t)::lE md.tail ts:=by rw[GM,YY a]
  rw[G];refine⟨λi=>match i with|0=>L|i+1=>Z i,λi s e=>?_,λi u e b hb=>?_,λi u e b hb=>?_,λi j u w X e m b hb y=>?_⟩;cases i with|zero=>simp at e;subst e;exact⟨v,rfl,W⟩|succ i=>exact E i s (by simpa using e)
  cases i with|zero=>simp at e|succ i=>exact g i u (by simpa using e) b hb
  cases i with|zero=>exact S b hb|succ i=>exact C i u (by simpa using e) b hb
  cases i with
  |zero=>simp at e|succ i =>
   cases j with|zero=>simp at m|succ j=>exact B i j u w (λz=>X (by rw[z])) (by simpa using e) (by simpa using m) b hb y
theorem YX(f:Same F H)(h:ArgsR K F H Y md vs ts)(r:Trs K F H true (eB md vs) (NB md ts) M)(E:∀b,Y b->¬ M b) :
  ∃S,Rl K F H S (nA N md ts) (jE N vs)/\∀b,U (nA N md ts) S b->M b:=by
 obtain⟨Z,B,a,A,W⟩:=X7 h r;have X:=h.length;have get:∀(i:Nat) s,(nA N md ts)[i]?=some (some s)->(lE md ts)[i]?=some (some s):=λi s e=>by
  unfold nA at e;rcases QA8 i ts.length with z|z
  ·rwa [Qx (by rw[OH];exact z)]at e
  rw[Q1 (by rw[OH];exact z),wy]at e;split at e<;>cases e
 refine⟨Z,⟨f,?_,λi s e=>?_,λi j t s n q m b hb y=>?_⟩,λb ⟨i,t,e,hb⟩=>a i t (get i _ e) b hb⟩;unfold nA jE;rw[QL,QL,OH,QG,qh,qh,X];obtain⟨v,g,C⟩:=B i s (get i s e);refine⟨v,?_,C⟩;unfold jE;rw[Qx (by rw[QG];exact(Qd.mp g).1),Qa,g];rfl;cases s with|own u=>exact W i j t u n (get i _ q) (get j _ m) b hb y|nv u=>exact E b (A j u (get j _ m) b y) (a i t (get i _ q) b hb)
theorem lN:∀{md:List Md}{k n:Nat}{vs:List V}{σ:St},vs.length=n->(∀(i:Nat) v,vs[i]?=some v->σ[k+i]?=some (some v))->(eB md vs).map (λv=>some (some v))=(AB k md n).map λj=>σ[j]?
 |md,k,0,vs,σ,h,g=>by
  cases vs with|nil=>rfl|cons _ _=>cases h
 |md,k,n+1,vs,σ,h,g=>by
  cases vs with
  |nil=>cases h|cons v vs =>
   have y:=lN (md:=md.tail) (k:=k+1) (n:=n) (vs:=vs) (σ:=σ) (by simpa using h) λi w z=>by have:=g (i+1) w (by simpa using z);rw[show k+1+i=k+(i+1) by omega];exact this
   have u:=g 0 v rfl;rw[rH];unfold AB;cases e:md.headD .ny with|chg=>simp only[QO,y];rw[show σ[k]?=some (some v) from u]|_=>exact y
theorem HL:∀{md:List Md}{k n j:Nat},j∈AB k md n->k<=j
 |md,k,0,j,h=>by simp[AB]at h|md,k,n+1,j,h=>by
  unfold AB at h;cases e:md.headD .ny with
  |chg=>rw[e]at h;rcases QJ.mp h with z|z;omega;have:=HL z;omega
  |_=>rw[e]at h;have:=HL h;omega
theorem xR:∀(md:List Md) (k n:Nat),(AB k md n).Nodup
 |md,k,0=>Q0|md,k,n+1=>by
  have h:=xR md.tail (k+1) n;unfold AB;cases e:md.headD .ny with|chg=>exact Qk.mpr ⟨λz=>by have:=HL z;omega,h⟩|_=>exact h
theorem NZ{b:PT}(F:Fun K x o st f p)(IB:ZC n b N l st=true)(hc:MJ (AB 0 R.md l.length) b=true)
  (fns:∀g∈n.fn,jC P w K mg base Ψ k g) (G:ValsOk P w K mg Ψ n.va) (nos:∀y∈n.no,mg y=none)
  (body:∀ts Q E,R.run ts Q E->ts.length=l.length/\vA Ψ (λ_=>False) b (MA R l.length Q) (nA N R.md ts)):FnOk P w K mg base D2 (k+1) f p l (lift K R):=by
 obtain⟨c12,c3⟩:=yA IB;obtain⟨c1,c2⟩:=yA c12;have S:=MQ c1;refine F.ok S (λvs H Q E h=>?_) (λcdv A L s H vs Q E hr h=>?_);obtain⟨F',ts,M,Y,h1,h2,h3,h4,h5⟩:=h;rw[h2.length];exact(body ts _ _ h5).1;obtain⟨F',ts,M,Y,h1,h2,h3,h4,h5⟩:=h;have q:=(body ts _ _ h5).2;have hlen:=(body ts _ _ h5).1;have ok:OkS ((ES D2 P w K mg base N o (cB st) f cdv A L s H E).nox) ⟨N,cB st⟩ (XO (Ug K mg Ψ) n) E0:={
  N:=rfl
  sc:=rfl
  calm:=rfl
  un:=by have:=hr.un;show(A.deeper _).units+66<cLine;omega
  fn:=λg hg=>by obtain⟨a,gd,gps,g1,g2,g3,g4⟩:=fns g hg;exact⟨D2,k,a,gd,gps,g1,hr,g2,g3,g4,Nf,λ_ _ _ _ _ z=>z⟩
  val:=λy hy=>by obtain⟨u,v,e1,e2⟩:=G.has y hy;refine⟨u,e1,?_⟩;show sA (LR mg y) u;unfold LR;rw[e1];show sA ((AJ u).getD .non) u;rw[e2];exact zU e2
  no:=λy hy=>nos y hy
  po:=PassesOwn.never
  nd:=S.nd
  cel:=λ_=>rfl }
 refine⟨_,(Fj b ok c2 (fW b c3)).1,?_⟩;obtain⟨S0,I,hU⟩:=YX (N:=N) h1 h2 h3 h4;have g:GOk K (Ug K mg Ψ) Ψ:=⟨λ_ _ _ _ _ h=>h,λy d e F=>G.rep y d e F⟩
 have hvl:vs.length=l.length:=h2.length.trans hlen;have fin:∀v t W C B J m X,Stc (AB 0 R.md l.length) F' H S0 (nA N R.md ts) (jE N vs) C B J m X->Rl K C B J m X->Tr K C B true v t W->Held C B J m W->(∀b,W b->H b=none∨U (nA N R.md ts) S0 b) ->
   KY (xB (AB 0 R.md l.length) m) (λos=>∀v F3 H3 Z M',Frm M F' H F3 H3->Tr K F3 H3 true v t Z->Trs K F3 H3 true (eB R.md vs) os M'->(∀b,Z b->¬ M' b)->(∀b,Z b∨M' b->M b∨H b=none)->Q v H3)->Q v B:=by
  intro v t W C B J m X s I2 r hw fr q;cases eo:xB (AB 0 R.md l.length) m with
  |none=>rw[eo]at q;exact q.elim|some os =>
   rw[eo]at q;have hv:(eB R.md vs).map (λv=>some (some v))=(AB 0 R.md l.length).map λj=>X[j]?:=by rw[lN (md:=R.md) (k:=0) (n:=l.length) (vs:=vs) (σ:=jE N vs) hvl λi w hw=>?_];exact We λj O=>(s.sg j O).symm;unfold jE;rw[QA4,Qx (by rw[QG];exact(Qd.mp hw).1),Qa,hw];rfl
   have trs:=I2.trs (xR _ _ _) eo hv;have own:∀j∈AB 0 R.md l.length,∃t,m[j]?=some (some (.own t)):=λj O=>by obtain⟨i,hi⟩:=W6.mp O;obtain⟨t,_,e⟩:=(yE eo).2 i j hi;exact⟨t,e⟩
   have lk:∀b,U (nA N R.md ts) S0 b∨H b=none->M b∨H b=none:=λb hb=>hb.imp (hU b) id;refine q v C B W _ ⟨s.ff,I2.fh,λb u e n=>s.hh b u e λz=>n (hU b z),s.dm,λb e z=>lk b (s.fn b e z)⟩ r trs (λb hb ⟨j,O,z⟩=>?_) λb hb=>?_;obtain⟨t',e⟩:=own j O;exact hw.nw j _ e b hb z;rcases hb with hb|⟨j,O,z⟩
   ·exact lk b (fr b hb).symm
   obtain⟨t',e⟩:=own j O;exact lk b (s.uu b ⟨j,t',e,z⟩)
 refine NH g b hc I (λ_ _ _ _ _ _ _ _ _ z=>z.elim) q ⟨?_,?_,λ_ _ _ _ _ _ _ z=>z.elim,λ_ _ _ _ _ _ _ z=>z.elim⟩;intro C B J m X s I2 q;exact fin .non (.d .none) (λ_=>False) C B J m X s.c I2 (.d .non λ_ z=>z) .none (λ_ z=>z.elim) q;intro v t W C B J m X s I2 r hw fr q;exact fin v t W C B J m X s I2 r hw fr q
theorem FZ{h:PEv}{b:PT}(F:Fun K x o st f p)(a:mg x=some (.ref f))(hb:ZI K p l [])(IB:ZC n b N l st=true)(e:MJ (AB 0 R.md l.length) b=true)
  (v:∀g∈n.fn,jC P w K mg base Ψ k g) (z:ValsOk P w K mg Ψ n.va) (u:∀y∈n.no,mg y=none)
  (body:∀ts Q E,R.run ts Q E->ts.length=l.length/\vA Ψ (λ_=>False) b (MA R l.length Q) (nA N R.md ts)) (i:h.sp x=R):jC P w K mg base h (k+1) x :=
 ⟨f,p,l,by rw[i];exact NZ F IB e v z u body,a,F.kp,hb⟩
end
end
def AK:PSp where
 md:=[.kr]
 run:=λy Q _=>∃x:List Int,x.length<=63/\(∀n∈x,QAT n<=1048576)/\y=[.lst ((x.map PyData.int).map T.d)]/\Q (.d (.bool true)) []
 mono:=λh _ ⟨x,v,u,z,q⟩=>⟨x,v,u,z,h _ _ q⟩
def To:PSp:=⟨[],λ_ _ _=>False,λ_ _ h=>h⟩
theorem CM{K:QC}{F:Hp}:∀(ns:List Int),Reps K F (ns.map V.int) (ns.map PyData.int)
 |[]=>.nil|n::r=>.cons (.int n) (CM r)
theorem UK{K:QC}{F:Hp}:∀(ns:List Str),Reps K F (ns.map V.str) (ns.map PyData.str)
 |[]=>.nil|n::r=>.cons (.str n) (UK r)
theorem Mb(K:QC)(H:Hp)(a:Addr)(ns:List Int)(x:ns.length<=63)(h:∀n∈ns,QAT n<=1048576)(y:XC K H a (ns.map V.int)):lift K AK [.ref a] H (λv _=>v=.bl true) λ_ _ _=>False:=by
 refine⟨H,[.lst ((ns.map PyData.int).map T.d)],λ_=>False,λ_=>False,.refl _,.rd (Z:=λ_=>False) (by simp[AK]) (.lstF y (CM ns) λ_ z=>z) (λ_ z=>z) .nil,.nil λ_ z=>z,λ_ z=>z.elim,ns,x,h,rfl,λv k w Z u _ r _ _ _=>?_⟩;cases r with|d r _=>cases r;rfl
theorem GR{ns:List Int}:∀n∈ns,QAG (.int n)<=w8 (ns.map QAL.int):=by
 induction ns with|nil=>intro n h;cases h|cons m ns x=>intro n h;show _<=QAG (.int m)+1+w8 (ns.map QAL.int);rcases QJ.mp h with rfl|h;omega;have:=x n h;omega
theorem K7{ns:List Int}(h:QAL.layableAll [.list (ns.map .int)]=true):∀n∈ns,QAT n<=1048576:=by
 intro n z;have v:=(PySem.W.layableW_iff.mp (PySem.W.layableW_arg h _ QD)).2.2;have k:w8 (ns.map QAL.int)<=2 ^ 20:=v;have y:=GR n z;have u:QAG (.int n)=if n==0 then 0 else n.natAbs.log2+1:=rfl
 rw[PySem.intBits_le_iff];by_cases x:n=0;subst x;exact Nat.pow_pos (by decide);have:(n==0)=false:=by simpa using x
 rw[u,this]at y;have w:n.natAbs.log2+1<=1048576:=by have:n.natAbs.log2+1<=w8 (ns.map QAL.int):=y;omega
 exact(Nat.log2_lt (show n.natAbs≠0 by omega)).mp (by omega)
def pB(K:QC)(x:Str)(st:Stmt):Prop:=∃f h,Q5 K mainGlobals x=some (some (.ref f))/\Fun K x x st f h
def sI(K:QC)(x:Str)(d:D):Prop:=∃u v,Q5 K mainGlobals x=some (some u)/\AJ u=some v/\∀F,Rep K F v d
theorem mX{K:QC}{x:Str}{f:Addr}{xs:List Str}{w:Option Addr}{its:List Value}{n:Nat}{v:Array (Option Value)}(a:Q5 K mainGlobals x=some (some (.ref f)))
  (l:K.lookup f=some ⟨.type "tuple",w,.seq its.toArray n,v⟩) (h:its.map AJ=xs.map λy=>some (.str y)) (hz:xs.length<=sizeLine):sI K x (.tuple (xs.map PyData.str)):=by
 refine⟨_,_,a,rfl,λF=>.tup (.inr ⟨_,its.toArray,n,l,rfl,rfl,?_,?_⟩) (UK xs)⟩;have:=congrArg qq h;simp at this;simp;omega;have z:∀(its:List Value) (xs:List Str),its.map AJ=xs.map (λy=>some (.str y))->bA (xs.map V.str) its:=by
  intro its;induction its with
  |nil =>
   intro xs h;cases xs with|nil=>exact .nil|cons _ _=>simp at h
  |cons u its k =>
   intro xs h;cases xs with|nil=>simp at h|cons y xs=>simp only[QO,Wp]at h;exact .cons (zU h.1) (k xs h.2)
 simpa using z its xs h
section
variable{P:Program}{w:World}{K:QC}{mg:Str->Option Value}{base h:Heap}{Ψ:PEv}
section
variable{x:Str}{st:Stmt}{N z:List Str}{k:Nat}{n:Need}
theorem sI.inMg(X:K.In h)(G:h.Ns mainGlobals mg){d:D}(v:sI K x d):(∀F,Rep K F (LR mg x) d)/\∃u v,mg x=some u/\AJ u=some v:=by
 obtain⟨u,v,b,y,a⟩:=v;have e:=QBj X G b;refine⟨λF=>?_,u,v,e,y⟩;have:LR mg x=v:=by unfold LR;rw[e];show(AJ u).getD .non=v;rw[y];rfl
 rw[this];exact a F
theorem GZ{R:PSp}{u:PEv}{b:PT}(X:K.In h)(G:h.Ns mainGlobals mg)(D:pB K x st)(IB:ZC n b N z st=true)(p:MJ (AB 0 R.md z.length) b=true)
  (hb:∀(kV j m:Value) (r:Option Addr) (l ct:Value) (us:List Value),us.length=z.length->bindArgs (wX x x (kE st) (RC st) (cB st) .none kV j m r l ct) ⟨us,[]⟩=pure (z.zip us))
  (i:∀g∈n.fn,jC P w K mg base Ψ k g) (v:ValsOk P w K mg Ψ n.va) (e:∀y∈n.no,Q5 K mainGlobals y=some none)
  (body:∀ts Q E,R.run ts Q E->ts.length=z.length/\vA Ψ (λ_=>False) b (MA R z.length Q) (nA N R.md ts)) (q:u.sp x=R):jC P w K mg base u (k+1) x:=by
 obtain⟨f,s,a,F⟩:=D;exact FZ F (QBj X G a) (F.binds hb) IB p i v (λy o=>QBk X G (e y o)) body q
theorem XA{b:PT}(X:K.In h)(G:h.Ns mainGlobals mg)(D:pB K x st)(IB:ZC n b N z st=true)(j:MJ (AB 0 (Ψ.sp x).md z.length) b=true)
  (hb:∀(kV e i:Value) (l:Option Addr) (f ct:Value) (us:List Value),us.length=z.length->bindArgs (wX x x (kE st) (RC st) (cB st) .none kV e i l f ct) ⟨us,[]⟩=pure (z.zip us))
  (a:∀g∈n.fn,jC P w K mg base Ψ k g) (u:ValsOk P w K mg Ψ n.va) (v:∀y∈n.no,Q5 K mainGlobals y=some none)
  (body:∀ts Q E,(Ψ.sp x).run ts Q E->ts.length=z.length/\vA Ψ (λ_=>False) b (MA (Ψ.sp x) z.length Q) (nA N (Ψ.sp x).md ts)):jC P w K mg base Ψ (k+1) x :=
 GZ X G D IB j hb a u v body rfl
theorem Nb{j:Addr}(X:K.In h)(G:h.Ns mainGlobals mg)(D:pB K "law" st)(r:z=[x])(g:mg "law"=some (.ref j))(q:Ψ.sp "law"=AK)
  (hb:∀(kV v i:Value) (l:Option Addr) (b ct:Value) (us:List Value),us.length=z.length->bindArgs (wX "law" "law" (kE st) (RC st) (cB st) .none kV v i l b ct) ⟨us,[]⟩=pure (z.zip us))
  (H:∀base:Heap,K.In base->base.Ns mainGlobals mg->∀f y,Fun K "law" "law" st f y->mg "law"=some (.ref f)->FnOk P w K mg base D2 k f y z (lift K (Ψ.sp "law"))) :
  ∃y:FuncData,(∀(s:Shared) (u:Value),BindsTo s y ⟨[u],[]⟩ [(x,u)])/\∀base:Heap,K.In base->base.Ns mainGlobals mg->FnOk P w K mg base D2 k j y [x] (lift K AK):=by
 obtain⟨f,y,a,F⟩:=D;have e:=g.symm.trans (QBj X G a);cases e;subst r;refine⟨y,λs u=>?_,λbase p o=>?_⟩;obtain⟨W,Z,kV,v,i,l,b,ct,m,rfl,lk,Y⟩:=F.ex;exact .of_eq (hb kV v i l b ct [u] rfl);rw[<- q];exact H base p o j y F g
end
end
theorem iB{α:Type}{body:T->(Option T->Prop)->Prop}(g f:α->T):∀(l:List α) (h:List T) (Q:List T->Prop),(∀x∈l,∀R:Option T->Prop,R (some (f x))->body (g x) R)->h.length+l.length<=sizeLine->Q (h++l.map f)->PD body (l.map g) h Q
 |[],h,Q,_,hl,q=>by simp only[qj,PD];exact⟨by simpa using hl,by simpa using q⟩|x::r,h,Q,hb,hl,q=>by simp only[QO,PD];refine hb x QD _ ?_;simp only[QM]at hl;refine⟨by omega,iB g f r _ Q (λy z=>hb y (QE _ z)) (by simp;omega) (by simpa using q)⟩
theorem UA{α:Type}{body:T->(Option T->Prop)->Prop}(g f:α->T)(p:α->Bool):∀(l:List α) (h:List T) (Q:List T->Prop),(∀x∈l,∀R:Option T->Prop,R (if p x=true then some (f x) else none)->body (g x) R)->h.length+l.length<=sizeLine->Q (h++(l.filter p).map f)->PD body (l.map g) h Q
 |[],h,Q,_,hl,q=>by simp only[qj,PD];exact⟨by simpa using hl,by simpa using q⟩|x::r,h,Q,hb,hl,q=>by
  simp only[QO,PD];refine hb x QD _ ?_;simp only[QM]at hl;cases u:p x with|true=>refine⟨by omega,UA g f p r _ Q (λy z=>hb y (QE _ z)) (by simp;omega) ?_⟩;rw[Wc,if_pos u]at q;simpa using q|false=>refine UA g f p r _ Q (λy z=>hb y (QE _ z)) (by omega) ?_;rw[Wc,if_neg (by rw[u];simp)]at q;exact q
theorem zP{α:Type}{xs:List α}{i:Int}(y:0<=i)(x:i<xs.length):∃v,eE xs i=some v/\xs[i.toNat]?=some v:=by
 have h:i.toNat<xs.length:=by omega
 have e:((i.toNat:Nat):Int)=i:=by omega
 have q:=GG (Qw h);rw[e]at q;exact⟨xs[i.toNat],q,Qw h⟩
theorem kP{α h:Type}(f:α->h)(xs:List α)(i:Int):eE (xs.map f) i=(eE xs i).map f:=by
 unfold eE;rw[QG];cases BQ xs.length i with|none=>rfl|some j=>exact Qa
theorem lB{Ψ:PEv}{E:XE}{α:Type}{body:PT}{u:Tg}{Z:PEnds}(g:α->T)(W:List α->kA->Prop)(k:∀ρ,W [] ρ->Z.nx ρ)
  (v:∀x xs ρ (N:kA->Prop),(∀y,W xs y->N y)->W (x::xs) ρ->lI u (g x) ρ λz=>vA Ψ E body { Z with nx:=N,ct:=N,bk:=Z.nx } z):∀(xs:List α) (ρ:kA),W xs ρ->iH (vA Ψ E body) u Z (xs.map g) ρ
 |[],ρ,w=>k ρ w|x::xs,ρ,w=>v x xs ρ (λh=>iH (vA Ψ E body) u Z (xs.map g) h) (λh a=>lB g W k v xs h a) w
def M7(y:List (Str×PSp))(h:List (Str×D)):PEv:=⟨λf=>(y.lookup f).getD To,λx=>h.lookup x⟩
theorem KA{P:Program}{w:World}{K:QC}{v:Str->Option Value}{h:Heap}{a:List (Str×PSp)}{y:List (Str×D)}{u:List Str}(X:K.In h)(G:h.Ns mainGlobals v)(k:∀p∈y,sI K p.1 p.2)
  (z:(u.all λx=>(y.map qw).contains x)=true):ValsOk P w K v (M7 a y) u:=by
 refine⟨λx d e F=>((k (x,d) (qX e)).inMg X G).1 F,λx b=>?_⟩;have:=qH.mp z x b;obtain⟨p,f,e⟩:=Qe.mp (Qp.mp this);rw[<- e];exact((k p f).inMg X G).2
theorem EA{α:Type}[BEq α][LawfulBEq α]{l m:List α}(h:(l.all λx=>m.contains x)=true):∀x∈l,x∈m:=λx y=>Qp.mp (qH.mp h x y)
section
variable{a b c:PX}{i:Nat}{n:Int}{x:Str}{m:Mt}{f:Str}{g:Bi}{u:Operator}{w:CmpOp}{is:List Bool}{h:List Str}{z:Tg}{v:ItK}{y:String}
theorem x3:LG (.var i)=[i]:=rfl
theorem eV:LG (.nq a b)=LG a++LG b:=rfl
theorem hX:LG .nr=[]:=rfl
end
def nC{α:Type}(o:Option α)(K:α->Prop):Prop:=∃a,o=some a/\K a
theorem nC.mk{α:Type}{o:Option α}{a:α}{K:α->Prop}(e:o=some a)(k:K a):nC o K:=⟨a,e,k⟩
theorem xC{α:Type}{a:α}{K:α->Prop}:nC (some a) K=K a:=propext ⟨λ⟨_,e,k⟩=>by cases e;exact k,λk=>⟨a,rfl,k⟩⟩
theorem vO{α:Type}{o:Option α}{a:α}{K:α->Prop}(h:o=some a):nC o K=K a:=by rw[h];exact xC
theorem OF{α h:Type}{o:Option α}{f:α->h}{K:h->Prop}:nC (o.map f) K=nC o λa=>K (f a):=by
 cases o with|none=>exact propext ⟨λ⟨_,e,_⟩=>(by cases e),λ⟨_,e,_⟩=>(by cases e)⟩|some a=>rw[qD,xC,xC]
def oB(Ψ:PEv)(e:PX)(E:XE)(ρ:kA)(K:TK):Prop:=(pe Ψ e E).e ρ K
def OK(Ψ:PEv)(e:PX)(E:XE)(ρ:kA)(K:Bool->kA->Prop):Prop:=(pe Ψ e E).t ρ K
def PK(Ψ:PEv)(e:PX)(E:XE)(md:List Md)(ρ:kA)(K:List (T×Bool)->kA->Prop):Prop:=(pe Ψ e E).a md ρ K
def jD(p:PSp)(ts:List T)(K:T->List T->Prop)(E:XE):Prop:=p.run ts K E
def P7(x:T)(n:Bool)(Ψ:PEv)(b:PX)(E:XE)(ρ:kA)(K:TK):Prop:=sq (uA x n) ρ (cu (pe Ψ b E).e) λy h=>K y.1 y.2 h
def O3(x:T)(n:Bool)(Ψ:PEv)(b:PX)(E:XE)(md:List Md)(ρ:kA)(K:List (T×Bool)->kA->Prop):Prop:=sq (if n=true then .d .none else x) ρ ((pe Ψ b E).a md) K
def An(x:T)(n:Bool)(Ψ:PEv)(b:PX)(E:XE)(ρ:kA)(K:List (T×Bool)->kA->Prop):Prop:=sq (uA x n) ρ ((pe Ψ b E).a []) K
def RI(i:Nat)(σ ρ:kA)(K:TK):Prop:=Ri σ[i]? λt=>K t false ρ
def jY(i:Nat)(σ:kA)(ρ:kA)(j:Nat)(R:T->kA->Prop):Prop:=Sj ρ j R σ[i]?
def eK(Ψ:PEv)(E:XE)(r:PT)(Z:PEnds)(i:Nat)(x:T)(n:Bool)(ρ:kA):Prop:=JH x n=true/\vA Ψ E r Z (ρ.set i (some (.nv (.d x.er))))
def Of(Ψ:PEv)(E:XE)(r:PT)(Z:PEnds)(i:Nat)(x:T)(n:Bool)(ρ:kA):Prop:=JH x n=true/\vA Ψ E r Z (ρ.set i (some (.own x)))
def YC(x:T)(n:Bool)(P:Prop):Prop:=JH x n=true/\P
def YF(h:Operator)(x:T)(n:Bool)(y:T)(m:Bool)(Q:T->Bool->Prop):Prop:=binT h (uA x n).vw (uA y m).vw Q
def dC(h:CmpOp)(x y:T)(Q:Bool->Prop):Prop:=g7 h x.er y Q
def V3(x:T)(Q:Bool->Prop):Prop:=CH x.er Q
def yo(x:T)(Q:Bool->Prop):Prop:=Jd x.er Q
def YZ(c:PX)(x:T)(Q:Bool->Prop):Prop:=vc c x.er Q
def pP(f:Bi)(xs:List (T×Bool))(Q:T->Bool->Prop):Prop:=xX f (yC xs) Q
def CC(x:T)(n:Bool)(y:T)(m:Bool)(Q:T->Prop):Prop:=lM (uA x n).vw (uA y m).vw Q∨TQ (uA x n).vw y.er Q
def Je(Ψ:PEv)(E:XE)(c:PX)(q:PT)(Z:PEnds)(ρ:kA):Prop:=vA Ψ E (.whl c q) Z ρ
def ze(t y x:T)(Q:T->Prop):Prop:=yf t y.er x.er Q
def Ae(z t:T)(Q:T->(T->T)->Prop):Prop:=Ie z.er t Q
def df(y t:T)(Q:T->Prop):Prop:=L9 y.er t Q
def DP(x:T)(n:Bool)(l u:Option Int)(Q:T->Bool->Prop):Prop:=FJ (uA x n).vw l u Q
def dL(xs:List (T×Bool))(C:List T->Prop):Prop:=fF xs=true/\C (XF xs)
def pL(h:ItK)(xs:List (T×Bool))(R:List T->Prop):Prop:=bC h (yC xs) R
def Kk(m:Mt)(x:T)(n:Bool)(xs:List (T×Bool))(Q:T->Bool->Prop):Prop:=ke m (uA x n).vw (yC xs) Q
def CB(md:List Md)(xs:List (T×Bool))(C:List T->Prop):Prop:=nC (CA md xs []) C
def bG(Ψ:PEv)(E:XE)(x:List Bool)(y:List Str)(u:Tg)(h z:PX)(ρ:kA):T->(Option T->Prop)->Prop:=cG u (pM y.length x (lockA ρ)) (if isNop h=true then λρ R=>R true ρ else(pe Ψ h E).t) (pe Ψ z E).e
def K1(h:Tg)(x:T)(ρ:kA)(K:kA->Prop):Prop:=lI h x ρ K
section
variable{Ψ:PEv}{E:XE}{ρ:kA}{K:TK}{L:Bool->kA->Prop}{M:List (T×Bool)->kA->Prop}{a b c X its Y U:PX}{Z:T->kA->Prop}
section
variable{i j:Nat}{x:D}{v:CmpOp}{f t u:Str}{p:PSp}{md:List Md}{n:Bool}{w m:List Bool}{g:List Str}{o:Tg}{q:ItK}{R:Option T->Prop}{s:Option Sl}{σ:kA}{ts:List T}
theorem ui:oB Ψ (.var i) E ρ K=RI i ρ ρ K:=rfl
theorem Kh:OK Ψ (.var i) E ρ L=RI i ρ ρ λt _ ρ=>V3 t λb=>L b ρ:=rfl
theorem Xi{i:Int}:oB Ψ (.int i) E ρ K=K (.d (.int i)) false ρ:=rfl
theorem ai{x:Str}:oB Ψ (.str x) E ρ K=K (.d (.str x)) false ρ:=rfl
theorem Nn{x:Bool}:oB Ψ (.bl x) E ρ K=K (.d (.bool x)) false ρ:=rfl
theorem Zi:oB Ψ .non E ρ K=K (.d .none) false ρ:=rfl
theorem yH{x:Str}{d:D}(h:Ψ.va x=some d):oB Ψ (.glo x) E ρ K=K (.d d) false ρ:=by show(match Ψ.va x with|some d=>K (.d d) false ρ|none=>False)=_;rw[h]
theorem Fi{v:Operator}:oB Ψ (.bin v a b) E ρ K=oB Ψ a E ρ λx n e=>P7 x n Ψ b E e λy m h=>YF v x n y m λz k=>K z k h:=rfl
theorem Vh:OK Ψ (.cmp v a b) E ρ L=oB Ψ a E ρ λx n z=>P7 x n Ψ b E z λy m h=>dC v x (uA y m) λk=>L k h:=rfl
theorem Di:oB Ψ (.cmp v a b) E ρ K=OK Ψ (.cmp v a b) E ρ λk h=>K (.d (.bool k)) false h:=rfl
theorem Gi:oB Ψ (.and a b) E ρ K=oB Ψ a E ρ λx _ h=>yo x λc=>if c=true then oB Ψ b E h K else K (.d (.bool false)) false h:=rfl
theorem Uh:OK Ψ (.and a b) E ρ L=OK Ψ a E ρ λc h=>if c=true then OK Ψ b E h L else L false h:=rfl
theorem tJ:OK Ψ (.or a b) E ρ L=OK Ψ a E ρ λc h=>if c=true then L true h else OK Ψ b E h L:=rfl
theorem tI:OK Ψ (.not a) E ρ L=OK Ψ a E ρ λc h=>L (!c) h:=rfl
theorem rA(h:Ψ.sp f=p)(G:p.md=md)(F:(md.all λm=>!m.isMut)=true):oB Ψ (.call f X) E ρ K=PK Ψ X E md ρ λxs y=>CB md xs λts=>jD p ts (λr l=>l=[]/\K r true y) E:=by
 have B:∀(md:List Md) (X:PX),(md.all λm=>!m.isMut)=true->fA md X=[]:=by
  intro md;induction md with
  |nil=>intro X _;cases X<;>rfl|cons m md C =>
   intro X h;rw[qr,Qf]at h;cases m with
   |chg=>cases h.1|_=>cases X with|nq a X=>exact C X h.2|_=>rfl
 show(∃l,xB (fA (Ψ.sp f).md X) ρ=some l/\(fA (Ψ.sp f).md X).Nodup/\(pe Ψ X E).a (Ψ.sp f).md (clear (fA (Ψ.sp f).md X) ρ) λxs y=>∃ts,CA (Ψ.sp f).md xs l=some ts/\(Ψ.sp f).run ts (λr W=>∃z,rC (fA (Ψ.sp f).md X) W y=some z/\K r true z) E)=_;rw[h,G,B md X F];have A:∀(r:T) (l:List T) (y:kA),(∃z,rC [] l y=some z/\K r true z)=(l=[]/\K r true y):=by
  intro r l y;cases l with|nil=>exact propext ⟨λ⟨_,e,k⟩=>by cases e;exact⟨rfl,k⟩,λk=>⟨_,rfl,k.2⟩⟩|cons _ _=>exact propext ⟨λ⟨_,e,k⟩=>(by cases e),λk=>(by cases k.1)⟩
 have:=λ(y:kA)=>funext λr=>funext λl=>A r l y;simp only[this];exact propext ⟨λ⟨_,e,_,k⟩=>by cases e;exact k,λk=>⟨_,rfl,Q0,k⟩⟩
theorem M1:OK Ψ (.call f X) E ρ L=oB Ψ (.call f X) E ρ λt _ h=>V3 t λb=>L b h:=rfl
theorem EL:OK Ψ (.isi a c) E ρ L=oB Ψ a E ρ λx _ h=>YZ c x λb=>L b h:=rfl
theorem Vi:oB Ψ (.isi a c) E ρ K=OK Ψ (.isi a c) E ρ λk h=>K (.d (.bool k)) false h:=rfl
theorem On{f:Bi}:oB Ψ (.bi f X) E ρ K=PK Ψ X E [] ρ λxs h=>pP f xs λz k=>K z k h:=rfl
theorem Xb{m:Mt}{z:Str}(h:isMut m=false):JS m (uA (.d (.str z)) n).vw=true:=by cases n<;>cases m<;>first|rfl|cases h
theorem Td:oB Ψ (.mt .join a X) E ρ K=oB Ψ a E ρ λx n y=>JS .join (uA x n).vw=true/\An x n Ψ X E y λxs h=>Kk .join x n xs λz k=>K z k h:=rfl
theorem Yi:oB Ψ (.mt .pop (.var j) X) E ρ K=ID ρ[j]? λt=>YJ .pop t=true/\PK Ψ X E [] (ρ.set j (some (.nv t))) λxs h=>fF xs=true/\h[j]?=some (some (.nv t))/\bL .pop t (XF xs) λr s'=>K r true (h.set j (some (.own s'))):=rfl
theorem Ad{x:Bool}:oB Ψ (.dnew x) E ρ K=K (.dct x [] []) true ρ:=rfl
theorem Ci:oB Ψ (.dsp a b) E ρ K=oB Ψ a E ρ λy m z=>YC y m (oB Ψ b E z λx n h=>YC x n (UE true y.er/\K (.dct true [y.er] [x]) true h)):=rfl
theorem HG(h:Ψ.sp f=p)(P:p.md=.chg::md)(O:(md.all λm=>!m.isMut)=true):oB Ψ (.call f (.nq (.var j) X)) E ρ K=ID ρ[j]? λt=>PK Ψ X E md (ρ.set j none) λxs y=>CB md xs λts=>jD p (t::ts) (λr l=>∃t',l=[t']/\K r true (y.set j (some (.own t')))) E:=by
 have J:∀(md:List Md) (X:PX),(md.all λm=>!m.isMut)=true->fA md X=[]:=by
  intro md;induction md with
  |nil=>intro X _;cases X<;>rfl|cons m md N =>
   intro X h;rw[qr,Qf]at h;cases m with
   |chg=>cases h.1|_=>cases X with|nq a X=>exact N X h.2|_=>rfl
 show(∃l,xB (fA (Ψ.sp f).md (.nq (.var j) X)) ρ=some l/\(fA (Ψ.sp f).md (.nq (.var j) X)).Nodup/\(pe Ψ (.nq (.var j) X) E).a (Ψ.sp f).md (clear (fA (Ψ.sp f).md (.nq (.var j) X)) ρ) λxs y=>∃ts,CA (Ψ.sp f).md xs l=some ts/\(Ψ.sp f).run ts (λr W=>∃A,rC (fA (Ψ.sp f).md (.nq (.var j) X)) W y=some A/\K r true A) E)=_;rw[h,P];have Q:fA (.chg::md) (.nq (.var j) X)=[j]:=by show j::fA md X=[j];rw[J md X O]
 rw[Q];have B:∀(r:T) (l:List T) (y:kA),(∃A,rC [j] l y=some A/\K r true A)=(∃t',l=[t']/\K r true (y.set j (some (.own t')))):=by
  intro r l y
  match l with
  |[]=>exact propext ⟨λ⟨_,e,k⟩=>(by cases e),λ⟨_,e,k⟩=>(by cases e)⟩|[t]=>exact propext ⟨λ⟨_,e,k⟩=>by cases e;exact⟨t,rfl,k⟩,λ⟨_,e,k⟩=>by cases e;exact⟨_,rfl,k⟩⟩|_::_::_=>exact propext ⟨λ⟨_,e,k⟩=>(by cases e),λ⟨_,e,k⟩=>(by cases e)⟩
 have C:=λ(y:kA)=>funext λr=>funext λl=>B r l y;simp only[C];have F:∀(t:T) (xs:List (T×Bool)) (G:List T->Prop),(∃ts,CA (.chg::md) ((.d .none,true)::xs) [t]=some ts/\G ts)=CB md xs λts=>G (t::ts):=by
  intro t xs G;show(∃ts,(CA md xs []).map (t::·)=some ts/\G ts)=nC (CA md xs []) λts=>G (t::ts);cases CA md xs []with|none=>exact propext ⟨λ⟨_,e,_⟩=>(by cases e),λ⟨_,e,_⟩=>(by cases e)⟩|some ts=>exact propext ⟨λ⟨_,e,k⟩=>by cases e;exact⟨_,rfl,k⟩,λ⟨_,e,k⟩=>by cases e;exact⟨_,rfl,k⟩⟩
 have I:∀t,ρ[j]?=some (some (.own t))->xB [j] ρ=some [t]:=λt e=>by unfold xB;rw[e];rfl
 have S:∀(l:List T),((pe Ψ (.nq (.var j) X) E).a (.chg::md) (clear [j] ρ) λxs y=>∃ts,CA (.chg::md) xs l=some ts/\p.run ts (λr W=>∃t',W=[t']/\K r true (y.set j (some (.own t')))) E)=(PK Ψ X E md (ρ.set j none) λxs y=>∃ts,CA (.chg::md) ((.d .none,true)::xs) l=some ts/\p.run ts (λr W=>∃t',W=[t']/\K r true (y.set j (some (.own t')))) E):=λl=>propext ⟨λh=>h.2,λh=>⟨rfl,h⟩⟩;simp only[S]
 match e:ρ[j]? with
 |some (some (.own t))=>show _=(PK Ψ X E md (ρ.set j none) λxs y=>CB md xs λts=>jD p (t::ts) (λr l=>∃t',l=[t']/\K r true (y.set j (some (.own t')))) E);rw[I t e];have:=λxs (y:kA)=>F t xs λts=>p.run ts (λr W=>∃t',W=[t']/\K r true (y.set j (some (.own t')))) E;refine propext ⟨λ⟨_,e,_,k⟩=>?_,λk=>⟨_,rfl,by simp,?_⟩⟩;cases e;simp only[this]at k;exact k;simp only[this];exact k|some (some (.nv t))=>exact propext ⟨λ⟨_,z,_⟩=>(by unfold xB at z;rw[e]at z;cases z),λk=>k.elim⟩|some none=>exact propext ⟨λ⟨_,z,_⟩=>(by unfold xB at z;rw[e]at z;cases z),λk=>k.elim⟩|none=>exact propext ⟨λ⟨_,z,_⟩=>(by unfold xB at z;rw[e]at z;cases z),λk=>k.elim⟩
theorem U2:oB Ψ (.mt .append (.var j) X) E ρ K=ID ρ[j]? λt=>YJ .append t=true/\PK Ψ X E [] (ρ.set j (some (.nv t))) λxs h=>fF xs=true/\h[j]?=some (some (.nv t))/\bL .append t (XF xs) λr s'=>K r true (h.set j (some (.own s'))):=rfl
theorem Ui:oB Ψ (.idx a b) E ρ K=oB Ψ a E ρ λx n k=>P7 x n Ψ b E k λy m h=>CC x n y m λz=>K z false h:=rfl
theorem Y2{i:Int}:oB Ψ (.slc a .nop (.int i)) E ρ K=oB Ψ a E ρ λx n h=>DP x n none (some i) λz k=>K z k h:=by
 show(pe Ψ a E).e ρ (λx n h=>sq (uA x n) h (λρ (R:Option Int->kA->Prop)=>R none ρ) λl r=>sq (uA x n) r (λρ (R:Option Int->kA->Prop)=>R (some i) ρ) λu y=>FJ (uA x n).vw l u λz k=>K z k y)=_;have:∀x n h,(sq (uA x n) h (λρ (R:Option Int->kA->Prop)=>R none ρ) λl r=>sq (uA x n) r (λρ (R:Option Int->kA->Prop)=>R (some i) ρ) λu y=>FJ (uA x n).vw l u λz k=>K z k y)=FJ (uA x n).vw none (some i) λz k=>K z k h:=by intro x n h;unfold sq;split<;>rfl
 simp only[this];rfl
theorem Ki:oB Ψ (.lst X) E ρ K=PK Ψ X E [] ρ λxs y=>xs.length<=sizeLine/\dL xs λts=>K (.lst ts) true y:=by have:∀(xs:List (T×Bool)) y,(xs.length<=sizeLine/\dL xs λts=>K (.lst ts) true y)=(fF xs=true/\xs.length<=sizeLine/\K (.lst (XF xs)) true y):=λxs y=>propext ⟨λh=>⟨h.2.1,h.1,h.2.2⟩,λh=>⟨h.2.1,h.1,h.2.2⟩⟩;simp only[this];rfl
theorem si:oB Ψ (.tup X) E ρ K=PK Ψ X E [] ρ λxs y=>xs.length<=sizeLine/\dL xs λts=>K (AF ts) true y:=by have:∀(xs:List (T×Bool)) y,(xs.length<=sizeLine/\dL xs λts=>K (AF ts) true y)=(fF xs=true/\xs.length<=sizeLine/\K (AF (XF xs)) true y):=λxs y=>propext ⟨λh=>⟨h.2.1,h.1,h.2.2⟩,λh=>⟨h.2.1,h.1,h.2.2⟩⟩;simp only[this];rfl
theorem Ed:oB Ψ (.comp w g o q its U Y) E ρ K=PK Ψ its E [] ρ λxs y=>pL q xs λh =>
   PD (bG Ψ (λ_=>False) w g o U Y y) h [] λz=>K (.lst z) true y:=rfl
theorem dh{x:T}:bG Ψ E [] [t] (.nm 0) .nop Y ρ x R=oB Ψ Y E (some (.nv x)::lockA ρ) λy n _=>YC y n (R (some y)):=rfl
theorem Vd{y:D}:bG Ψ E [] [t,u] (.tp [0,1]) .nop Y ρ (.d (.tuple [x,y])) R=oB Ψ Y E (some (.nv (.d x))::some (.nv (.d y))::lockA ρ) λy n _=>YC y n (R (some y)):=xC
theorem Em{b:Bool}{x:T}:bG Ψ E (b::m) [t] (.nm 0) .nop Y ρ x R=oB Ψ Y E (some (.nv x)::vD (b::m) (lockA ρ)) λy n _=>YC y n (R (some y)):=rfl
theorem Am{b:Bool}{y:D}:bG Ψ E (b::m) [t,u] (.tp [0,1]) .nop Y ρ (.d (.tuple [x,y])) R=oB Ψ Y E (some (.nv (.d x))::some (.nv (.d y))::vD (b::m) (lockA ρ)) λy n _=>YC y n (R (some y)):=xC
theorem T8{x:T}:bG Ψ E [] [t] (.nm 0) (.cmp v a b) Y ρ x R=OK Ψ (.cmp v a b) E (some (.nv x)::lockA ρ) λk h=>if k=true then oB Ψ Y E h λy n _=>YC y n (R (some y)) else R none:=rfl
theorem Li:PK Ψ .nr E md ρ M=M [] ρ:=rfl
theorem ye:PK Ψ (.nq a X) E [] ρ M=oB Ψ a E ρ λx n y=>O3 x n Ψ X E [] y λxs h=>M ((x,n)::xs) h:=rfl
theorem G2:PK Ψ (.nq a X) E (.kr::md) ρ M=oB Ψ a E ρ λx n y=>O3 x n Ψ X E md y λxs h=>M ((x,n)::xs) h:=rfl
theorem N2:PK Ψ (.nq a X) E (.nv::md) ρ M=oB Ψ a E ρ λx n y=>O3 x n Ψ X E md y λxs h=>M ((x,n)::xs) h:=rfl
theorem Rh:GJ Ψ E Z (.var i) ρ=jY i ρ ρ i Z:=rfl
theorem xn{x:Bool}:GJ Ψ E Z (.bl x) ρ=Z (.d (.bool x)) ρ:=propext ⟨λh=>h.2,λh=>⟨rfl,h⟩⟩
theorem Ld:GJ Ψ E Z (.call f X) ρ=oB Ψ (.call f X) E ρ λx n h=>YC x n (Z x h):=rfl
theorem Eh{v:Operator}:GJ Ψ E Z (.bin v a b) ρ=oB Ψ (.bin v a b) E ρ λx n h=>YC x n (Z x h):=rfl
theorem Ah:GJ Ψ E Z (.cmp v a b) ρ=oB Ψ (.cmp v a b) E ρ λx n h=>YC x n (Z x h):=rfl
theorem bn{f:Bi}:GJ Ψ E Z (.bi f X) ρ=oB Ψ (.bi f X) E ρ λx n h=>YC x n (Z x h):=rfl
theorem Th:GJ Ψ E Z (.idx a b) ρ=oB Ψ (.idx a b) E ρ λx n h=>YC x n (Z x h):=rfl
theorem Sh:GJ Ψ E Z (.tup X) ρ=oB Ψ (.tup X) E ρ λx n h=>YC x n (Z x h):=rfl
theorem Hd:GJ Ψ E Z (.comp w g o q its U Y) ρ=oB Ψ (.comp w g o q its U Y) E ρ λx n h=>YC x n (Z x h):=rfl
theorem Tp:RI (i+1) (s::σ) ρ K=RI i σ ρ K:=rfl
theorem jq{t:T}:RI 0 (some (.nv t)::σ) ρ K=K t false ρ:=rfl
theorem Ap{t:T}:RI 0 (some (.own t)::σ) ρ K=K t false ρ:=rfl
theorem Ip:RI i (lockA σ) ρ K=RI i σ ρ K:=by
 unfold RI lockA;rw[Qa];cases σ[i]? with
 |none=>rfl|some s=>cases s with|none=>rfl|some s=>cases s<;>rfl
theorem Ep{b:Bool}:RI (i+1) (vD (b::m) (lockA (s::σ))) ρ K=RI i (vD m (lockA σ)) ρ K:=rfl
theorem Ln:RI 0 (vD (false::m) (lockA (s::σ))) ρ K=RI 0 (lockA (s::σ)) ρ K:=rfl
theorem Op:jY (i+1) (s::σ) ρ j Z=jY i σ ρ j Z:=rfl
theorem Rp:jY 0 (some (.nv (.d x))::σ) ρ j Z=Z (.d x) ρ:=propext ⟨λh=>h.2,λh=>⟨rfl,h⟩⟩
theorem Pp{t:T}:jY 0 (some (.own t)::σ) ρ j Z=Z t (ρ.set j none):=rfl
theorem jp:P7 (.d x) n Ψ b E ρ K=oB Ψ b E ρ K:=by cases n<;>rfl
theorem ko{x:T}:P7 x true Ψ b E ρ K=oB Ψ b E ρ K:=rfl
theorem Io:P7 (.lst ts) false Ψ b E ρ K=oB Ψ b E (lockA ρ) λy m _=>K y m ρ:=rfl
theorem Np:O3 (.d x) n Ψ b E md ρ M=PK Ψ b E md ρ M:=by cases n<;>rfl
theorem Lp{x:T}:O3 x true Ψ b E md ρ M=PK Ψ b E md ρ M:=rfl
theorem Mp:O3 (.lst ts) false Ψ b E md ρ M=PK Ψ b E md (lockA ρ) λxs _=>M xs ρ:=rfl
theorem Cp:An (.d x) n Ψ b E ρ M=PK Ψ b E [] ρ M:=by cases n<;>rfl
end
end
section
variable{Ψ:PEv}{E:XE}{ρ σ:kA}{Z:PEnds}{s r q:PT}{i:Nat}{e c its:PX}{o:Option Sl}{n:Bool}{v:D}{P:Prop}{ds:List D}{x:T}
section
variable{j:Nat}{is:List Nat}{A B:Prop}
theorem zA:vA Ψ E .nil Z ρ=Z.nx ρ:=rfl
theorem Dh:vA Ψ E (.seq (.set i e) r) Z (o::σ)=oB Ψ e E (o::σ) λx n h=>eK Ψ E r Z i x n h:=rfl
theorem Hh:vA Ψ E (.seq (.own i e) r) Z (o::σ)=oB Ψ e E (o::σ) λx n h=>Of Ψ E r Z i x n h:=rfl
theorem Gd:vA Ψ E (.seq (.expr e) r) Z (o::σ)=oB Ψ e E (o::σ) λ_ _ h=>vA Ψ E r Z h:=rfl
theorem Gh:vA Ψ E (.seq (.ret e) r) Z (o::σ)=GJ Ψ E Z.rt e (o::σ):=rfl
theorem Lh:vA Ψ E (.seq (.ife c s .nil) r) Z (o::σ)=OK Ψ c E (o::σ) λk h=>if k=true then vA Ψ E s { Z with nx:=λy=>vA Ψ E r Z y } h else vA Ψ E r Z h:=rfl
theorem Oh{u:Tg}{k:ItK}:vA Ψ E (.seq (.for_ u k its q) r) Z (o::σ)=PK Ψ its E [] (o::σ) λxs h=>pL k xs λy =>
   if aR xs=true then iH (vA Ψ E q) u { Z with nx:=λz=>vA Ψ E r Z (kill u.ix z) } y h
   else iH (vA Ψ E q) u { Z with nx:=λz=>MR u.ix (UC h (LG its)) h (λw=>vA Ψ E r Z w) (kill u.ix z) } y (lock (UC h (LG its)) h):=rfl
theorem Ch{a:PX}:vA Ψ E (.seq (.six (.var j) a e) r) Z (o::σ)=ID (o::σ)[j]? λt=>oB Ψ e E ((o::σ).set j (some (.nv t))) λx n z=>YC x n (oB Ψ a E z λy m h=>YC y m (h[j]?=some (some (.nv t))/\ze t y x λt'=>vA Ψ E r Z (h.set j (some (.own t'))))):=rfl
theorem Fd{a k:PX}:vA Ψ E (.seq (.six (.idx (.var j) k) a e) r) Z (o::σ)=ID (o::σ)[j]? λt=>oB Ψ e E ((o::σ).set j (some (.nv t))) λx n w=>YC x n (oB Ψ k E w λz l u=>YC z l (Ae z t λs put=>oB Ψ a E u λy m h=>YC y m (h[j]?=some (some (.nv t))/\ze s y x λs'=>vA Ψ E r Z (h.set j (some (.own (put s'))))))):=rfl
theorem Fh{k:PX}:vA Ψ E (.seq (.sdf j k) r) Z (o::σ)=ID (o::σ)[j]? λt=>Vc t=true/\oB Ψ k E ((o::σ).set j (some (.nv t))) λy m h=>YC y m (h[j]?=some (some (.nv t))/\df y t λt'=>vA Ψ E r Z (h.set j (some (.own t')))):=rfl
theorem Dd:vA Ψ E (.seq (.tset is e) r) Z (o::σ)=oB Ψ e E (o::σ) λx n y=>YC x n (K1 (.tp is) (.d x.er) y λh=>vA Ψ E r Z h):=rfl
theorem Nh:vA Ψ E (.seq (.frz is s) r) Z (o::σ)=vA Ψ E (.seq s r) Z (frzAt is (o::σ)):=rfl
theorem Bh:vA Ψ E (.seq (.whl c q) r) Z (o::σ)=Je Ψ E c q { Z with nx:=λh=>vA Ψ E r Z h } (o::σ):=rfl
theorem Gp:eK Ψ E r Z i (.d v) n ρ=vA Ψ E r Z (ρ.set i (some (.nv (.d v)))):=propext ⟨λh=>h.2,λh=>⟨by cases n<;>rfl,h⟩⟩
theorem mo:eK Ψ E r Z i (.lst (ds.map T.d)) true ρ=vA Ψ E r Z (ρ.set i (some (.nv (.d (.list ds))))):=by unfold eK T.er;rw[FA];exact propext ⟨λh=>h.2,λh=>⟨rfl,h⟩⟩
theorem xp:Of Ψ E r Z i x true ρ=vA Ψ E r Z (ρ.set i (some (.own x))):=propext ⟨λh=>h.2,λh=>⟨rfl,h⟩⟩
theorem zq:YC (.d v) n P=P:=propext ⟨λh=>h.2,λh=>⟨by cases n<;>rfl,h⟩⟩
theorem yq:YC x true P=P:=propext ⟨λh=>h.2,λh=>⟨rfl,h⟩⟩
theorem y6:(([]:List T)=[]/\P)=P:=propext ⟨λh=>h.2,λh=>⟨rfl,h⟩⟩
theorem Ml:(if(true:Bool)=true then A else B)=A:=rfl
theorem Nl:(if(false:Bool)=true then A else B)=B:=rfl
theorem Bp{v h:Option Sl}:vA Ψ E r Z (WQ (h::σ) 0 v)=vA Ψ E r Z (v::σ):=rfl
theorem Up{v h y:Option Sl}:vA Ψ E r Z (WQ (h::y::σ) 1 v)=vA Ψ E r Z (h::v::σ):=rfl
theorem Xp{v y h z:Option Sl}:vA Ψ E r Z (WQ (y::h::z::σ) 2 v)=vA Ψ E r Z (y::h::v::σ):=rfl
theorem Vp{v z y h u:Option Sl}:vA Ψ E r Z (WQ (z::y::h::u::σ) 3 v)=vA Ψ E r Z (z::y::h::v::σ):=rfl
theorem Kp{v u z y h w:Option Sl}:vA Ψ E r Z (WQ (u::z::y::h::w::σ) 4 v)=vA Ψ E r Z (u::z::y::h::v::σ):=rfl
theorem Zp{v w u z y h k:Option Sl}:vA Ψ E r Z (WQ (w::u::z::y::h::k::σ) 5 v)=vA Ψ E r Z (w::u::z::y::h::v::σ):=rfl
theorem Yp{v k w u z y h a:Option Sl}:vA Ψ E r Z (WQ (k::w::u::z::y::h::a::σ) 6 v)=vA Ψ E r Z (k::w::u::z::y::h::v::σ):=rfl
theorem Jp{v a k w u z y h b:Option Sl}:vA Ψ E r Z (WQ (a::k::w::u::z::y::h::b::σ) 7 v)=vA Ψ E r Z (a::k::w::u::z::y::h::v::σ):=rfl
theorem gp{v b a k w u z y h f:Option Sl}:vA Ψ E r Z (WQ (b::a::k::w::u::z::y::h::f::σ) 8 v)=vA Ψ E r Z (b::a::k::w::u::z::y::h::v::σ):=rfl
theorem bp{v f b a k w u z y h g:Option Sl}:vA Ψ E r Z (WQ (f::b::a::k::w::u::z::y::h::g::σ) 9 v)=vA Ψ E r Z (f::b::a::k::w::u::z::y::h::v::σ):=rfl
theorem Zn{v l g f b a k w u z y h:Option Sl}:vA Ψ E r Z (WQ (l::g::f::b::a::k::w::u::z::y::h::σ) 10 v)=vA Ψ E r Z (l::g::f::b::a::k::w::u::z::y::v::σ):=rfl
theorem Yn{v m l g f b a k w u z h y:Option Sl}:vA Ψ E r Z (WQ (m::l::g::f::b::a::k::w::u::z::h::y::σ) 11 v)=vA Ψ E r Z (m::l::g::f::b::a::k::w::u::z::h::v::σ):=rfl
theorem Jn{v p m l g f b a k w u y h z:Option Sl}:vA Ψ E r Z (WQ (p::m::l::g::f::b::a::k::w::u::y::h::z::σ) 12 v)=vA Ψ E r Z (p::m::l::g::f::b::a::k::w::u::y::h::v::σ):=rfl
end
end
section
variable{d:D}{n m:Bool}{i j:Int}{z y:Str}{b:Bool}{xs:List (T×Bool)}{ts:List T}{ds es:List D}{md:List Md}{t:T}{C:List T->Prop}{Q:T->Bool->Prop}{L:Bool->Prop}{R:T->Prop}{W:List T->Prop}
section
variable{ρ:kA}{P:kA->Prop}{e f k:D}{w:CmpOp}{ks:List D}{x:Str}{kvs:List (D×D)}{l u:Option Int}
theorem jf{i:Int}{x:D}{Q:T->Prop}(a:0<=i)(v:i<ds.length)(q:Q (.lst ((ds.set i.toNat x).map T.d))):ze (.lst (ds.map T.d)) (.d (.int i)) (.d x) Q:=by
 have h:i.toNat<ds.length:=by omega
 refine⟨i.toNat,?_,by rw[<- QB6];exact q⟩;unfold BQ;rw[QG];rw[if_pos a,if_pos v]
theorem S8{l:List Nat}{i:Int}{K:Nat->Prop}(o:0<=i)(g:i<l.length)(k:∀v,v∈l->K v):nC (eE l i) K:=by obtain⟨v,a,h⟩:=zP o g;exact⟨v,a,k v (qB h)⟩
theorem nT{i:Int}{K:D->Prop}(o:0<=i)(g:i<ds.length)(k:∀v,v∈ds->K v):nC (eE ds i) K:=by obtain⟨v,a,h⟩:=zP o g;exact⟨v,a,k v (qB h)⟩
theorem Zh{J:List Nat}{v:kA}{N:kA->Prop}:MR J [] v N ρ=N ρ:=propext ⟨λh=>h.2,λh=>⟨λ_ z=>(nomatch z),h⟩⟩
theorem aA{α:Type}(f:α->D)(l:List α):l.map (λc=>T.d (f c))=(l.map f).map T.d:=by rw[Qb];rfl
theorem GD:(uA (.lst (ds.map T.d)) n).vw=.ls (ds.map T.d):=by cases n;rfl;show Vw.ls ((ersT (ds.map T.d)).map T.d)=_;rw[FA]
theorem Ih:CB md [] C=C []:=xC
theorem zp:CB [] ((.d d,n)::xs) C=CB [] xs λts=>C (.d d::ts):=by
 have e:CA [] ((.d d,n)::xs) []=(CA [] xs []).map (.d d::·):=by cases n<;>rfl
 unfold CB;rw[e,OF]
theorem yp:CB [] ((.lst (ds.map T.d),true)::xs) C=CB [] xs λts=>C (.d (.list ds)::ts):=by have e:CA [] ((.lst (ds.map T.d),true)::xs) []=(CA [] xs []).map (.d (.list (ersT (ds.map T.d)))::·):=rfl;unfold CB;rw[e,OF,FA]
theorem vp:CB (.nv::md) ((t,false)::xs) C=CB md xs λts=>C (t::ts):=by have e:CA (.nv::md) ((t,false)::xs) []=(CA md xs []).map (t::·):=rfl;unfold CB;rw[e,OF]
theorem G9:tF (.lst (ds.map T.d))=some (.lst (ds.map T.d)):=by simp only[tF,T.vw,pA,qD]
theorem vo{u:T}(h:tF (uA t n)=some u):CB (.kr::md) ((t,n)::xs) C=CB md xs λts=>C (u::ts):=by
 have e:CA (.kr::md) ((t,n)::xs) []=(CA md xs []).map (u::·):=by show(match tF (uA t n) with|some t=>(CA md xs []).map (t::·)|none=>none)=_;rw[h]
 unfold CB;rw[e,OF]
theorem cn:CB (.kr::md) ((.lst (ds.map T.d),n)::xs) C=CB md xs λts=>C (.lst (ds.map T.d)::ts):=vo (by cases n;exact G9;show tF (.d (.list (ersT (ds.map T.d))))=_;rw[FA];simp only[tF,T.vw,pA,qD])
theorem zi:dL [] C=C []:=propext ⟨λh=>h.2,λh=>⟨rfl,h⟩⟩
theorem fo:dL ((.lst (ds.map T.d),true)::xs) C=dL xs λts=>C (.lst (ds.map T.d)::ts):=by show((JH (.lst (ds.map T.d)) true&&fF xs)=true/\C (.lst (ds.map T.d)::XF xs))=(fF xs=true/\C (.lst (ds.map T.d)::XF xs));rw[show JH (.lst (ds.map T.d)) true=true from rfl,QBY]
theorem Fp:dL ((.d d,n)::xs) C=dL xs λts=>C (.d d::ts):=by show((JH (.d d) n&&fF xs)=true/\C (.d d::XF xs))=(fF xs=true/\C (.d d::XF xs));rw[show JH (.d d) n=true by cases n<;>rfl,QBY]
theorem Pn{i:Nat}:K1 (.nm i) t ρ P=P (ρ.set i (some (.nv t))):=rfl
theorem Km{h:Tg}:lI h t ρ P=K1 h t ρ P:=rfl
theorem Yh:YF .Add (.d (.int i)) n (.d (.int j)) m Q=Q (.d (.int (i+j))) false:=by unfold YF;rw[oA,oA];exact vd i j
theorem oh:YF .Sub (.d (.int i)) n (.d (.int j)) m Q=Q (.d (.int (i - j))) false:=by unfold YF;rw[oA,oA];exact yd i j
theorem rh:YF .Mult (.d (.int i)) n (.d (.int j)) m Q=(IntMulOk i j/\Q (.d (.int (i * j))) false):=by unfold YF;rw[oA,oA];exact jd i j
theorem ph:YF .Mult (.d (.str z)) n (.d (.int j)) m Q=((-(2 ^ 31)<=j/\j<2 ^ 31/\z.length * j.toNat<=sizeLine)/\Q (.d (.str (NG z j))) false):=by unfold YF;rw[oA,oA];exact Ic z j
theorem Jh:YF .FloorDiv (.d (.int i)) n (.d (.int j)) m Q=((0<j/\j<2 ^ 200)/\Q (.d (.int (i / j))) false):=by unfold YF;rw[oA,oA];exact Ec i j
theorem eh:YF .Mod (.d (.int i)) n (.d (.int j)) m Q=(0<j/\Q (.d (.int (i % j))) false):=by unfold YF;rw[oA,oA];exact Ac i j
theorem Im:YF .Add (.lst (ds.map T.d)) n (.lst (es.map T.d)) m Q=(ds.length+es.length<=sizeLine/\Q (.lst ((ds++es).map T.d)) true):=by unfold YF;rw[GD,GD,zd,pA,pA];exact propext ⟨λ⟨_,_,v,h,k⟩=>by cases v;cases h;exact k,λk=>⟨_,_,rfl,rfl,k⟩⟩
theorem Xk:AF [.d d,.d e]=.d (.tuple [d,e]):=rfl
theorem Vk{g:D}:AF [.d d,.d e,.d f,.d g]=.d (.tuple [d,e,f,g]):=rfl
theorem Eg:dC .Eq (.d (.int i)) (.d (.int j)) L=L (decide (i=j)):=rfl
theorem Ag:dC .Eq (.d (.str z)) (.d (.str y)) L=L (decide (z=y)):=rfl
theorem Og:dC .NotEq (.d (.int i)) (.d (.int j)) L=L (!decide (i=j)):=rfl
theorem Mg:dC .NotEq (.d (.str z)) (.d (.str y)) L=L (!decide (z=y)):=rfl
theorem bm:dC .Lt (.d (.int i)) (.d (.int j)) L=L (decide (i<j)):=rfl
theorem B0:dC w (.d d) (.lst (ds.map T.d)) L=NW w d (.list ds) L:=by show NW w d (.list (ersT (ds.map T.d))) L=_;rw[FA]
theorem cm:dC .Gt (.d (.int i)) (.d (.int j)) L=L (decide (j<i)):=rfl
theorem am{u:T}:dC w t (uA u false) L=dC w t u L:=rfl
theorem Rg:dC .In (.d (.str z)) (.d (.list ds)) L=(((SA (.str z)=true/\ds.all SA=true)∨(JF (.str z)/\JF (.list ds)))/\L (ds.any λy=>Q3 y (.str z))):=rfl
theorem Mc:dC .NotIn (.d (.str z)) (.d (.list ds)) L=(((SA (.str z)=true/\ds.all SA=true)∨(JF (.str z)/\JF (.list ds)))/\L (!(ds.any λy=>Q3 y (.str z)))):=rfl
theorem Lc:dC .NotIn (.d (.str z)) (.lst (ds.map T.d)) L=(((SA (.str z)=true/\ds.all SA=true)∨(JF (.str z)/\JF (.list ds)))/\L (!(ds.any λy=>Q3 y (.str z)))):=by exact B0
theorem Ng:dC .NotEq (.d (.list ds)) (.d (.list es)) L=(JF (.list ds)/\JF (.list es)/\L (!PyData.eqv (.list ds) (.list es))):=rfl
theorem N8:dC .In (.d d) (.dct b ks ts) L=(UE b d/\L (lA ks d).isSome):=by show(UE b d/\((CmpOp.In=.In/\L (lA ks d).isSome)∨(CmpOp.In=.NotIn/\L (!(lA ks d).isSome))))=_;simp
theorem J1:dC .NotIn (.d d) (.dct b ks ts) L=(UE b d/\L (!(lA ks d).isSome)):=by show(UE b d/\((CmpOp.NotIn=.In/\L (lA ks d).isSome)∨(CmpOp.NotIn=.NotIn/\L (!(lA ks d).isSome))))=_;simp
theorem Pg:dC .In (.d (.str z)) (.lst (ds.map T.d)) L=(((SA (.str z)=true/\ds.all SA=true)∨(JF (.str z)/\JF (.list ds)))/\L (ds.any λy=>Q3 y (.str z))):=by exact B0
theorem Do:V3 (.d (.bool b)) L=L b:=rfl
theorem Eo:yo (.d (.bool b)) L=L b:=rfl
theorem cc{k:String}(h:isD k d=some b)(hk:jN k=true):YZ (.bty x k) (.d d) L=L b:=by show(∃b,isD k d=some b/\jN k=true/\L b)=_;exact propext ⟨λ⟨_,e,_,q⟩=>by rw[h]at e;cases e;exact q,λq=>⟨_,h,hk,q⟩⟩
theorem Kg:YZ (.bty x "str") (.d (.str z)) L=L true:=cc rfl rfl
theorem Zg:YZ (.bty x "tuple") (.d (.tuple ds)) L=L true:=cc rfl rfl
theorem Yk:pP .len [(.d (.list ds),n)] Q=Q (.d (.int ds.length)) false:=by unfold pP yC;rw[oA];refine(R8 _).trans ?_;rw[QG]
theorem ak:pP .len [(.d (.tuple ds),n)] Q=Q (.d (.int ds.length)) false:=by unfold pP yC;rw[oA];refine(vh _).trans ?_;rw[QG]
theorem Jk:pP .len [(.lst (ds.map T.d),n)] Q=Q (.d (.int ds.length)) false:=by unfold pP yC;rw[GD];refine(R8 _).trans ?_;rw[QG]
theorem xg:pP .any [(.lst (ds.map T.d),n)] Q=∃bs:List Bool,ds=bs.map PyData.bool/\Q (.d (.bool (bs.any id))) false:=by unfold pP yC;rw[GD];refine(kh _).trans ?_;simp only[pA,Qr]
theorem vg:pP .list [(.d (.list ds),n)] Q=Q (.lst (ds.map T.d)) true:=by unfold pP yC;rw[oA];refine(zh _).trans ?_;rw[pA];exact xC
theorem y0:TQ (.ls ts) k R=False:=propext ⟨λ⟨_,_,_,_,_,e,_⟩=>(by cases e),Qc⟩
theorem Yc:TQ (.tp ts) k R=False:=propext ⟨λ⟨_,_,_,_,_,e,_⟩=>(by cases e),Qc⟩
theorem Zc{x:D}:TQ (.sc x) k R=False:=propext ⟨λ⟨_,_,_,_,_,e,_⟩=>(by cases e),Qc⟩
theorem Uo:CC (.lst (ds.map T.d)) n (.d (.int i)) m R=nC (eE ds i) λd=>R (.d d):=by unfold CC;rw[GD,oA,y0,or_false];refine(BZ _ _).trans ?_;show nC (eE (ds.map T.d) i) R=_;rw[kP,OF]
theorem bj:CC (.d (.list ds)) n (.d (.int i)) m R=nC (eE ds i) λd=>R (.d d):=by unfold CC;rw[oA,oA,show(T.d (.list ds)).vw=.ls (ds.map T.d) from rfl,y0,or_false];refine(BZ _ _).trans ?_;show nC (eE (ds.map T.d) i) R=_;rw[kP,OF]
theorem f9:CC (.d (.tuple ds)) n (.d (.int i)) m R=nC (eE ds i) λd=>R (.d d):=by unfold CC;rw[oA,oA,show(T.d (.tuple ds)).vw=.tp (ds.map T.d) from rfl,Yc,or_false];refine(uc _ _).trans ?_;show nC (eE (ds.map T.d) i) R=_;rw[kP,OF]
theorem Xo:CC (.d (.str z)) n (.d (.int i)) m R=(z.length<=sizeLine/\nC (eE z.cps.toList i) λc=>R (.d (.str ⟨#[c]⟩))):=by unfold CC;rw[oA,oA,show(T.d (.str z)).vw=.sc (.str z) from rfl,Zc,or_false];exact bc _ _
theorem fj:CC (.lst [.d d,.d e,.d f]) n t m R=CC (.lst ([d,e,f].map T.d)) n t m R:=rfl
theorem cj{g:D}:CC (.lst [.d d,.d e,.d f,.d g]) n t m R=CC (.lst ([d,e,f,g].map T.d)) n t m R:=rfl
theorem l9{q:Bool}{l:Nat}(o:xD kvs=some q)(g:UE q k)(a:lA (kvs.map (·.1)) k=some l)(h:(kvs.map (·.2))[l]?=some e)(v:R (.d e)):CC (.d (.dict kvs)) n (.d k) m R:=by
 unfold CC;rw[oA];refine .inr ?_;show TQ (GB kvs) k R;unfold GB;rw[o];refine⟨q,_,_,l,.d e,rfl,g,a,?_,v⟩;rw[Qa]at h ⊢;cases z:kvs[l]? with|none=>rw[z]at h;cases h|some p=>rw[z]at h;cases h;rfl
theorem Po:DP (.d (.list ds)) n l u Q=Q (.lst ((OD ds l u).map T.d)) true:=by unfold DP;rw[oA];refine(GX _).trans ?_;rw[pA];exact xC
theorem Lj:DP (.lst (ds.map T.d)) n l u Q=Q (.lst ((OD ds l u).map T.d)) true:=by unfold DP;rw[GD];refine(GX _).trans ?_;rw[pA];exact xC
theorem Bk:Kk .join (.d (.str z)) n [(.lst (ds.map T.d),m)] Q=∃h:List Str,ds=h.map PyData.str/\(h.map (·.length)).sum+h.length * z.length<=16777216/\Q (.d (.str (QAK z h))) false:=by unfold Kk yC;rw[oA,GD];refine(dg z _).trans ?_;simp only[pA,Qr]
theorem Uk{P:Prop}:(JS .join (uA (.d (.str z)) n).vw=true/\P)=P:=propext ⟨λh=>h.2,λh=>⟨Xb rfl,h⟩⟩
theorem Bo:pL .val [(.d (.list ds),n)] W=W (ds.map T.d):=by unfold pL yC;rw[oA];exact mL _
theorem oj:pL .val [(.lst (ds.map T.d),n)] W=W (ds.map T.d):=by unfold pL yC;rw[GD];exact mL _
theorem mj:pL .rng1 [(.d (.int j),n)] W=((-(2 ^ 62)<=j/\j<2 ^ 62)/\W ((qC j.toNat).map λ(i:Nat)=>.d (.int (i:Int)))):=by unfold pL yC;rw[oA];exact iZ j
theorem pj:pL .enum [(.d (.list ds),n)] W=W (ds.zipIdx.map λp=>.d (.tuple [.int (p.2:Int),p.1])):=by unfold pL yC;rw[oA];refine(GQ _).trans ?_;exact propext ⟨λ⟨_,_,v,h,k⟩=>by cases v;rw[pA]at h;cases h;exact k,λk=>⟨_,_,rfl,pA _,k⟩⟩
theorem Ce:pL .enum [(.lst (ds.map T.d),n)] W=W (ds.zipIdx.map λp=>.d (.tuple [.int (p.2:Int),p.1])):=by unfold pL yC;rw[GD];refine(GQ _).trans ?_;exact propext ⟨λ⟨_,_,v,h,k⟩=>by cases v;rw[pA]at h;cases h;exact k,λk=>⟨_,_,rfl,pA _,k⟩⟩
theorem Ue(h:kvs=[]∨xD kvs=some true):pL .itm [(.d (.dict kvs),n)] W=W (kvs.map λp=>.d (.tuple [p.1,p.2])):=by
 unfold pL yC;rw[oA];show bC .itm [GB kvs] W=_;rcases h with rfl|h;exact aZ;unfold GB;rw[h];refine(FQ _ _).trans ?_;have e:(kvs.map λp=>T.d p.2)=(kvs.map (·.2)).map T.d:=by rw[Qb];rfl
 have v:((kvs.map (·.1)).zip (kvs.map (·.2))).map (λp=>T.d (.tuple [p.1,p.2]))=kvs.map λp=>T.d (.tuple [p.1,p.2]):=by rw[QBl,Qb];rfl
 refine propext ⟨λ⟨ds,a,k⟩=>?_,λk=>⟨kvs.map (·.2),by rw[e,pA],?_⟩⟩;rw[e,pA]at a;cases a;rw[v]at k;exact k;rw[v];exact k
def eZ(Q:T->List T->Prop):PEnds:={ nx:=λ_=>Q (.d .none) [],rt:=λt _=>Q t [] }
theorem Bg{Q:T->List T->Prop}{t:T}:(eZ Q).rt t ρ=Q t []:=rfl
theorem iA{Ψ:PEv}{b:PT}{p:PSp}{N v:List Str}{ds:List T}{Q:T->List T->Prop}(ρ:kA)(g:ds.length=v.length)(o:AB 0 p.md v.length=[])(a:nA N p.md ds=ρ)(h:vA Ψ (λ_=>False) b (eZ Q) ρ):ds.length=v.length/\vA Ψ (λ_=>False) b (MA p v.length Q) (nA N p.md ds):=by
 have e:MA p v.length Q=eZ Q:=by unfold MA;rw[o];rfl
 rw[e,a];exact⟨g,h⟩
end
end
end L2.L3
namespace L2.L3.K19
open PySem PySem.Spec PyProof.Rows L2 L2.L3
section
variable{c k i m s v:Int}{K Q:T->List T->Prop}{E:XE}{Ψ:PEv}{X ns st:List Str}{n c1:Nat}{Z:PEnds}{sc:Sl}{es:rB}{o6 o7 o8 Y o13 o9 o10 o11:Option Sl}{p q:Pt}{r:Rm}{l:Inn}{a b g:Str}{w:Wy}{e:Str×Str}
def AA(i:Nat):Stmt:=qK.main.body.getD i (.Pass ⟨0,0,0,0⟩)
def pG:List Str:=["edges","starts","goal","rooms","came_from","firsts","chains"]
def gD:List Str:=["edges","starts","goal"]
def TF:Need:=⟨["rooms_of","points_reached","lay_chain","chain_from","full_names"],["BEGIN"],["sorted"]⟩
def MC:PT :=
  (.seq (.expr (.call "lay_chain" (.nq (.var 3) (.nq (.var 4) (.nq (.tup (.nq (.var 2) (.nq (.str "to") .nr))) .nr)))))
  (.seq (.set 4 (.call "points_reached" (.nq (.var 3) .nr)))
  .nil))
noncomputable def lG:PT :=
  (.seq (.own 3 (.call "rooms_of" (.nq (.var 0) (.nq (.var 1) (.nq (.var 2) .nr)))))
  (.seq (.set 4 (.call "points_reached" (.nq (.var 3) .nr)))
  (.seq (.whl (.cmp .In (.tup (.nq (.var 2) (.nq (.str "to") .nr))) (.var 4)) MC)
  (.seq (.set 5 (.comp [] ["point"] (.nm 0) .val (.nq (.idx (.var 3) (.glo "BEGIN")) .nr) (.cmp .Gt (.idx (.idx (.var 4) (.var 0)) (.glo "BEGIN")) (.int 0)) (.idx (.var 0) (.int 0))))
  (.seq (.set 6 (.comp [] ["first"] (.nm 0) .val (.nq (.var 5) .nr) .nop (.call "chain_from" (.nq (.var 4) (.nq (.var 0) (.nq (.var 3) .nr))))))
  (.seq (.ret (.tup (.nq (.bi .sorted (.nq (.var 6) .nr)) (.nq (.call "full_names" (.nq (.var 4) .nr)) .nr))))
  .nil))))))
theorem SJ:ZC TF lG pG gD (AA 3)=true:=by kernel_rfl
def zM:List Str:=["edges","starts","goal","rooms","name","first","second"]
def HF:List Str:=["edges","starts","goal"]
def kL:Need:=⟨["add_name","add_way"],["BEGIN","WIDE"],[]⟩
noncomputable def mF:PT :=
  (.seq (.ife (.cmp .NotEq (.var 4) (.var 2)) (.seq (.expr (.call "add_name" (.nq (.var 3) (.nq (.var 4) .nr))))
  (.seq (.expr (.call "add_way" (.nq (.var 3) (.nq (.glo "BEGIN") (.nq (.tup (.nq (.var 4) (.nq (.str "to") .nr))) (.nq (.glo "WIDE") .nr))))))
  .nil)) .nil)
  .nil)
noncomputable def lF:PT :=
  (.seq (.ife (.and (.cmp .NotEq (.var 5) (.var 2)) (.cmp .NotEq (.var 5) (.var 6))) (.seq (.expr (.call "add_name" (.nq (.var 3) (.nq (.var 5) .nr))))
  (.seq (.expr (.call "add_name" (.nq (.var 3) (.nq (.var 6) .nr))))
  (.seq (.expr (.call "add_way" (.nq (.var 3) (.nq (.tup (.nq (.var 5) (.nq (.str "from") .nr))) (.nq (.tup (.nq (.var 6) (.nq (.str "to") .nr))) (.nq (.glo "WIDE") .nr))))))
  .nil))) .nil)
  .nil)
def PL:PT :=
  (.seq (.own 3 (.dsp (.glo "BEGIN") (.dnew true)))
  (.seq (.for_ (.nm 4) .val (.nq (.var 1) .nr) mF)
  (.seq (.for_ (.tp [5,6]) .val (.nq (.var 0) .nr) lF)
  (.seq (.ret (.var 3))
  .nil))))
theorem bR:ZC kL PL zM HF (AA 4)=true:=by kernel_rfl
def vM:List Str:=["rooms","name"]
def MF:List Str:=["rooms","name"]
def xL:Need:=⟨["add_way"],[],[]⟩
def VH:PT :=
  (.seq (.expr (.call "add_way" (.nq (.var 0) (.nq (.tup (.nq (.var 1) (.nq (.str "to") .nr))) (.nq (.tup (.nq (.var 1) (.nq (.str "from") .nr))) (.nq (.int 1) .nr))))))
  .nil)
theorem dR:ZC xL VH vM MF (AA 5)=true:=by kernel_rfl
def XN:List Str:=["rooms","here","there","room"]
def mH:List Str:=["rooms","here","there","room"]
def nW:Need:=⟨[],[],[]⟩
def tN:PT :=
  (.seq (.sdf 0 (.var 1))
  (.seq (.sdf 0 (.var 2))
  (.seq (.six (.idx (.var 0) (.var 1)) (.var 2) (.var 3))
  (.seq (.six (.idx (.var 0) (.var 2)) (.var 1) (.int 0))
  .nil))))
theorem fT:ZC nW tN XN mH (AA 6)=true:=by kernel_rfl
def ME:List Str:=["rooms","came_from","waiting","here","there","room"]
def sC:List Str:=["rooms"]
def MI:Need:=⟨[],["BEGIN"],["len"]⟩
def dB:PT :=
  (.seq (.ife (.and (.cmp .Gt (.var 5) (.int 0)) (.cmp .NotIn (.var 4) (.var 1))) (.seq (.six (.var 1) (.var 4) (.var 3))
  (.seq (.expr (.mt .append (.var 2) (.nq (.var 4) .nr)))
  .nil)) .nil)
  .nil)
def TD:PT :=
  (.seq (.set 3 (.mt .pop (.var 2) (.nq (.int 0) .nr)))
  (.seq (.for_ (.tp [4,5]) .itm (.nq (.idx (.var 0) (.var 3)) .nr) dB)
  .nil))
def GE:PT :=
  (.seq (.own 1 (.dsp (.glo "BEGIN") .non))
  (.seq (.own 2 (.lst (.nq (.glo "BEGIN") .nr)))
  (.seq (.whl (.cmp .Gt (.bi .len (.nq (.var 2) .nr)) (.int 0)) TD)
  (.seq (.ret (.var 1))
  .nil))))
theorem dI:ZC MI GE ME sC (AA 7)=true:=by kernel_rfl
def CJ:List Str:=["rooms","came_from","last","there","here"]
def jF:List Str:=["rooms","came_from","last"]
def oQ:Need:=⟨[],["BEGIN"],[]⟩
noncomputable def sE:PT :=
  (.seq (.set 4 (.idx (.var 1) (.var 3)))
  (.seq (.six (.idx (.var 0) (.var 4)) (.var 3) (.bin .Sub (.idx (.idx (.var 0) (.var 4)) (.var 3)) (.int 1)))
  (.seq (.six (.idx (.var 0) (.var 3)) (.var 4) (.bin .Add (.idx (.idx (.var 0) (.var 3)) (.var 4)) (.int 1)))
  (.seq (.set 3 (.var 4))
  .nil))))
def dG:PT :=
  (.seq (.set 3 (.var 2))
  (.seq (.whl (.cmp .NotEq (.var 3) (.glo "BEGIN")) sE)
  .nil))
theorem OO:ZC oQ dG CJ jF (AA 8)=true:=by kernel_rfl
def iI:List Str:=["rooms","first","goal","chain","name"]
def gE:List Str:=["rooms","first","goal"]
def TH:Need:=⟨["name_behind"],[],[]⟩
def AD:PT :=
  (.seq (.expr (.mt .append (.var 3) (.nq (.var 4) .nr)))
  (.seq (.set 4 (.call "name_behind" (.nq (.var 0) (.nq (.var 4) .nr))))
  .nil))
def sF:PT :=
  (.seq (.own 3 (.lst .nr))
  (.seq (.set 4 (.var 1))
  (.seq (.whl (.cmp .NotEq (.var 4) (.var 2)) AD)
  (.seq (.ret (.var 3))
  .nil))))
theorem tM:ZC TH sF iI gE (AA 9)=true:=by kernel_rfl
def IG:List Str:=["rooms","name","here"]
def BD:List Str:=["rooms","name"]
def dM:Need:=⟨[],[],[]⟩
noncomputable def rE:PT :=
  (.seq (.set 2 (.tup (.nq (.var 1) (.nq (.str "from") .nr))))
  (.seq (.ret (.idx (.comp [] ["there"] (.nm 0) .val (.nq (.idx (.var 0) (.var 2)) .nr) (.and (.cmp .NotEq (.idx (.var 0) (.int 0)) (.var 2)) (.cmp .Gt (.idx (.idx (.var 1) (.var 0)) (.var 3)) (.int 0))) (.idx (.var 0) (.int 0))) (.int 0)))
  .nil))
theorem LL:ZC dM rE IG BD (AA 10)=true:=by kernel_rfl
def eI:List Str:=["came_from"]
def fE:List Str:=["came_from"]
def rO:Need:=⟨[],[],["sorted"]⟩
noncomputable def rF:PT :=
  (.seq (.ret (.bi .sorted (.nq (.comp [] ["point"] (.nm 0) .val (.nq (.var 0) .nr) (.and (.cmp .Eq (.idx (.var 0) (.int 1)) (.str "to")) (.cmp .NotIn (.tup (.nq (.idx (.var 0) (.int 0)) (.nq (.str "from") .nr))) (.var 1))) (.idx (.var 0) (.int 0))) .nr)))
  .nil)
theorem sM:ZC rO rF eI fE (AA 11)=true:=by kernel_rfl
def DJ:List Str:=["edges","seers","needs","ground","holders","others"]
def yF:List Str:=["edges","seers","needs"]
def JJ:Need:=⟨["ground_alone","told_through"],[],[]⟩
noncomputable def gG:PT :=
  (.seq (.set 3 (.call "ground_alone" (.nq (.var 0) (.nq (.var 1) (.nq (.var 2) .nr)))))
  (.seq (.set 4 (.comp [] ["name","chains"] (.tp [0,1]) .val (.nq (.var 3) .nr) .nop (.var 0)))
  (.seq (.set 5 (.comp [] ["name","number"] (.tp [0,1]) .val (.nq (.var 2) .nr) (.cmp .NotIn (.var 0) (.var 6)) (.var 0)))
  (.seq (.ret (.tup (.nq (.var 3) (.nq (.comp [] ["name"] (.nm 0) .val (.nq (.var 5) .nr) .nop (.tup (.nq (.var 0) (.nq (.idx (.call "told_through" (.nq (.var 1) (.nq (.var 2) (.nq (.var 5) (.nq (.var 0) .nr))))) (.int 1)) .nr)))) .nr))))
  .nil))))
theorem RO:ZC JJ gG DJ yF (AA 13)=true:=by kernel_rfl
def oG:List Str:=["edges","seers","needs","ground","found","grown","name","number","chains"]
def dD:List Str:=["edges","seers","needs"]
def SF:Need:=⟨["told_through"],[],["len"]⟩
noncomputable def HC:PT :=
  (.seq (.ife (.cmp .NotIn (.var 6) (.var 4)) (.seq (.set 8 (.idx (.call "told_through" (.nq (.var 0) (.nq (.var 1) (.nq (.var 4) (.nq (.var 6) .nr))))) (.int 0)))
  (.seq (.ife (.cmp .GtE (.bi .len (.nq (.var 8) .nr)) (.var 7)) (.seq (.expr (.mt .append (.var 3) (.nq (.tup (.nq (.var 6) (.nq (.slc (.var 8) .nop (.var 7)) .nr))) .nr)))
  (.seq (.expr (.mt .append (.var 4) (.nq (.var 6) .nr)))
  (.seq (.set 5 (.bl true))
  .nil))) .nil)
  .nil)) .nil)
  .nil)
def GC:PT :=
  (.seq (.set 5 (.bl false))
  (.seq (.for_ (.tp [6,7]) .val (.nq (.var 2) .nr) HC)
  .nil))
noncomputable def hG:PT :=
  (.seq (.own 3 (.comp [false,false,false,false,false,false,true,true] ["name","number"] (.tp [0,1]) .val (.nq (.var 2) .nr) (.cmp .In (.var 0) (.var 3)) (.tup (.nq (.var 0) (.nq (.lst .nr) .nr)))))
  (.seq (.own 4 (.comp [false,false,false,false,false,false,true,false,true] ["name","chains"] (.tp [0,1]) .val (.nq (.var 3) .nr) .nop (.var 0)))
  (.seq (.set 5 (.bl true))
  (.seq (.whl (.var 5) GC)
  (.seq (.ret (.var 3))
  .nil)))))
theorem RJ:ZC SF hG oG dD (AA 14)=true:=by kernel_rfl
def nG:List Str:=["edges","seers","people","goal"]
def cD:List Str:=["edges","seers","people","goal"]
def RF:Need:=⟨["apart_chains"],[],[]⟩
def SD:PT :=
  (.seq (.ret (.call "apart_chains" (.nq (.comp [] ["edge"] (.nm 0) .val (.nq (.var 0) .nr) (.cmp .In (.idx (.var 0) (.int 0)) (.var 3)) (.var 0)) (.nq (.var 1) (.nq (.var 3) .nr)))))
  .nil)
theorem PJ:ZC RF SD nG cD (AA 15)=true:=by kernel_rfl
def ZN:List Str:=["_law_cell_here","_law_k","_law_m"]
def fH:List Str:=["_law_cell_here","_law_k"]
def lW:Need:=⟨[],[],[]⟩
noncomputable def dJ:PT :=
  (.seq (.set 2 (.bin .Mod (.bin .Add (.bin .Mult (.bin .Mod (.var 0) (.int 2147483647)) (.int 48271)) (.bin .Mult (.bin .Add (.bin .Add (.bin .Mult (.var 1) (.var 1)) (.bin .Mult (.int 3) (.var 1))) (.int 7)) (.int 69621))) (.int 2147483647)))
  (.seq (.ret (.bin .Mod (.bin .Mult (.var 2) (.var 2)) (.int 2147483647)))
  .nil))
theorem uT:ZC lW dJ ZN fH (AA 18)=true:=by kernel_rfl
def YN:List Str:=["_law_cell_here","_law_many","_law_m","_law_base","_law_some","_law_size","_law_at","_law_out","_law_k","_law_signs"]
def dH:List Str:=["_law_cell_here","_law_many"]
def NM:Need:=⟨["_law_mixed"],[],["range"]⟩
noncomputable def uE:PT :=
  (.seq (.own 9 (.comp [] ["_law_place"] (.nm 0) .rng1 (.nq (.var 5) .nr) .nop (.var 4)))
  (.seq (.six (.var 9) (.var 6) (.idx (.var 4) (.bin .Mod (.bin .Add (.bin .FloorDiv (.var 2) (.int 4200)) (.bin .Mult (.int 3) (.var 8))) (.int 20))))
  (.seq (.six (.var 9) (.bin .Mod (.bin .Add (.var 6) (.int 1)) (.var 5)) (.idx (.var 4) (.bin .Mod (.bin .Add (.bin .FloorDiv (.var 2) (.int 84000)) (.bin .FloorDiv (.var 8) (.int 20))) (.int 20))))
  (.seq (.expr (.mt .append (.var 7) (.nq (.mt .join (.str "") (.nq (.var 9) .nr)) .nr)))
  .nil))))
noncomputable def cJ:PT :=
  (.seq (.set 2 (.call "_law_mixed" (.nq (.var 0) (.nq (.int 3) .nr))))
  (.seq (.set 3 (.idx (.str "abcdefghijklmnpqrstvwxyz") (.bin .Mod (.var 2) (.int 24))))
  (.seq (.set 4 (.str "bcdfghjklmnpqrstvwxz"))
  (.seq (.ife (.and (.cmp .Eq (.bin .Mod (.bin .FloorDiv (.var 2) (.int 25)) (.int 3)) (.int 0)) (.cmp .Lt (.var 1) (.int 9))) (.seq (.ret (.comp [false,false,false,false,false,false,false,false,true] ["_law_k"] (.nm 0) .rng1 (.nq (.var 1) .nr) .nop (.bin .Mult (.var 4) (.bin .Sub (.var 2) (.var 0)))))
  .nil) .nil)
  (.seq (.set 5 (.bin .Add (.int 2) (.bin .Mod (.bin .FloorDiv (.var 2) (.int 75)) (.int 7))))
  (.seq (.set 6 (.bin .Mod (.bin .FloorDiv (.var 2) (.int 525)) (.var 5)))
  (.seq (.own 7 (.lst .nr))
  (.seq (.for_ (.nm 8) .rng1 (.nq (.var 1) .nr) uE)
  (.seq (.ret (.var 7))
  .nil)))))))))
theorem xT:ZC NM cJ YN dH (AA 19)=true:=by kernel_rfl
def YR:List Str:=["_law_script","_law_number","_law_cell_here"]
def DI:List Str:=["_law_script"]
def bZ:Need:=⟨[],[],[]⟩
def RL:PT :=
  (.seq (.set 1 (.bin .Mod (.bin .Add (.bin .Add (.bin .Mult (.var 1) (.int 1000003)) (.var 2)) (.int 1)) (.int 2147483647)))
  .nil)
def SL:PT :=
  (.seq (.set 1 (.int 0))
  (.seq (.for_ (.nm 2) .val (.nq (.var 0) .nr) RL)
  (.seq (.ret (.var 1))
  .nil)))
theorem RW:ZC bZ SL YR DI (AA 20)=true:=by kernel_rfl
def oV:List Str:=["_law_script","_law_most","_law_seed","_law_m","_law_names_here","_law_edges","_law_k","_law_cell_here","_law_j","_law_n","_law_one","_law_other","_law_starts","_law_name"]
def LK:List Str:=["_law_script","_law_most"]
def iU:Need:=⟨["_law_fold","_law_mixed","_law_names"],[],["enumerate","range","len"]⟩
noncomputable def nF:PT :=
  (.seq (.ife (.cmp .Eq (.bin .Mod (.bin .FloorDiv (.var 9) (.int 256)) (.idx (.lst (.nq (.int 1) (.nq (.int 2) (.nq (.int 4) .nr)))) (.bin .Mod (.bin .FloorDiv (.var 3) (.int 27)) (.int 3)))) (.int 0)) (.seq (.expr (.mt .append (.var 5) (.nq (.tup (.nq (.idx (.var 4) (.var 10)) (.nq (.idx (.var 4) (.var 11)) .nr))) .nr)))
  .nil) .nil)
  .nil)
noncomputable def xJ:PT :=
  (.seq (.set 9 (.call "_law_mixed" (.nq (.bin .Add (.var 2) (.var 7)) (.nq (.bin .Add (.bin .Add (.bin .Mult (.int 2) (.var 6)) (.var 8)) (.int 20)) .nr))))
  (.seq (.set 10 (.bin .Mod (.var 9) (.bi .len (.nq (.var 4) .nr))))
  (.seq (.set 11 (.bin .Mod (.bin .FloorDiv (.var 9) (.int 16)) (.bi .len (.nq (.var 4) .nr))))
  (.seq (.ife (.cmp .Gt (.bin .Mod (.bin .FloorDiv (.var 3) (.int 9)) (.int 3)) (.int 0)) (.seq (.set 11 (.bin .Mod (.bin .Add (.bin .Add (.var 10) (.int 1)) (.bin .Mod (.bin .FloorDiv (.var 9) (.int 16)) (.int 3))) (.bi .len (.nq (.var 4) .nr))))
  .nil) .nil)
  nF))))
def vJ:PT :=
  (.seq (.for_ (.nm 8) .rng1 (.nq (.bin .Add (.int 1) (.bin .Mod (.bin .FloorDiv (.var 3) (.int 5000)) (.int 2))) .nr) xJ)
  .nil)
noncomputable def kJ:PT :=
  (.seq (.ife (.cmp .Eq (.bin .Mod (.call "_law_mixed" (.nq (.var 2) (.nq (.bin .Add (.int 200) (.var 6)) .nr))) (.idx (.lst (.nq (.int 2) (.nq (.int 3) (.nq (.int 2) (.nq (.int 6) .nr))))) (.bin .Mod (.bin .FloorDiv (.var 3) (.int 81)) (.int 4)))) (.int 0)) (.seq (.expr (.mt .append (.var 12) (.nq (.var 13) .nr)))
  .nil) .nil)
  .nil)
def YH:PT :=
  (.seq (.frz [5,12] (.ret (.tup (.nq (.var 4) (.nq (.var 5) (.nq (.var 12) (.nq (.idx (.var 4) (.bin .Mod (.bin .FloorDiv (.var 3) (.int 1296)) (.bi .len (.nq (.var 4) .nr)))) .nr)))))))
  .nil)
noncomputable def jP:PT :=
  (.seq (.set 2 (.call "_law_fold" (.nq (.var 0) .nr)))
  (.seq (.set 3 (.call "_law_mixed" (.nq (.var 2) (.nq (.int 1) .nr))))
  (.seq (.set 4 (.call "_law_names" (.nq (.var 2) (.nq (.bin .Add (.int 2) (.bin .Mod (.var 3) (.bin .Sub (.var 1) (.int 1)))) .nr))))
  (.seq (.own 5 (.lst .nr))
  (.seq (.for_ (.tp [6,7]) .enum (.nq (.slc (.var 0) .nop (.int 63)) .nr) vJ)
  (.seq (.own 12 (.lst .nr))
  (.seq (.for_ (.tp [6,13]) .enum (.nq (.var 4) .nr) kJ)
  (.seq (.ife (.cmp .Eq (.bin .Mod (.bin .FloorDiv (.var 3) (.int 324)) (.int 4)) (.int 0)) (.seq (.own 12 (.bin .Add (.var 12) (.slc (.var 12) .nop (.int 1))))
  .nil) .nil)
  YH))))))))
theorem L0:ZC iU jP oV LK (AA 21)=true:=by kernel_rfl
def pV:List Str:=["_law_edges","_law_starts","_law_goal","_law_cut","_law_come","_law_name","_law_turn","_law_one","_law_other"]
def MK:List Str:=["_law_edges","_law_starts","_law_goal","_law_cut"]
def c6:Need:=⟨[],[],["range","any"]⟩
def mJ:PT :=
  (.seq (.ife (.and (.cmp .NotEq (.var 5) (.var 2)) (.cmp .NotIn (.var 5) (.var 3))) (.seq (.six (.var 4) (.var 5) (.bl true))
  .nil) .nil)
  .nil)
def lJ:PT :=
  (.seq (.ife (.and (.cmp .In (.var 7) (.var 4)) (.and (.cmp .NotEq (.var 8) (.var 2)) (.cmp .NotIn (.var 8) (.var 3)))) (.seq (.six (.var 4) (.var 8) (.bl true))
  .nil) .nil)
  .nil)
def fJ:PT :=
  (.seq (.for_ (.tp [7,8]) .val (.nq (.var 0) .nr) lJ)
  .nil)
noncomputable def yP:PT :=
  (.seq (.own 4 (.dnew false))
  (.seq (.for_ (.nm 5) .val (.nq (.var 1) .nr) mJ)
  (.seq (.for_ (.nm 6) .rng1 (.nq (.int 10) .nr) fJ)
  (.seq (.ret (.bi .any (.nq (.comp [false,false,false,false,false,false,false,true,true] ["_law_one","_law_other"] (.tp [0,1]) .val (.nq (.var 0) .nr) .nop (.and (.cmp .In (.var 0) (.var 6)) (.cmp .Eq (.var 1) (.var 4)))) .nr)))
  .nil))))
theorem N0:ZC c6 yP pV MK (AA 22)=true:=by kernel_rfl
def JN:List Str:=["_law_script","_law_names_here","_law_seed","_law_m","_law_needs_here","_law_k","_law_name","_law_n","_law_cut"]
def cH:List Str:=["_law_script","_law_names_here"]
def MM:Need:=⟨["_law_fold","_law_mixed"],[],["enumerate","len"]⟩
noncomputable def xE:PT :=
  (.seq (.set 7 (.call "_law_mixed" (.nq (.var 2) (.nq (.bin .Add (.int 600) (.var 5)) .nr))))
  (.seq (.expr (.mt .append (.var 4) (.nq (.tup (.nq (.var 6) (.nq (.bin .Add (.int 1) (.idx (.lst (.nq (.int 0) (.nq (.bin .Mod (.var 7) (.int 2)) (.nq (.bin .Mod (.var 7) (.int 3)) (.nq (.bin .Mod (.var 7) (.int 5)) .nr))))) (.bin .Mod (.var 3) (.int 4)))) .nr))) .nr)))
  .nil))
def oF:PT :=
  (.seq (.ret (.var 4))
  .nil)
noncomputable def bJ:PT :=
  (.seq (.set 2 (.call "_law_fold" (.nq (.var 0) .nr)))
  (.seq (.set 3 (.call "_law_mixed" (.nq (.var 2) (.nq (.int 3) .nr))))
  (.seq (.own 4 (.lst .nr))
  (.seq (.for_ (.tp [5,6]) .enum (.nq (.var 1) .nr) xE)
  (.seq (.set 8 (.bin .Mod (.bin .FloorDiv (.var 3) (.int 4)) (.bi .len (.nq (.var 1) .nr))))
  (.seq (.own 4 (.bin .Add (.slc (.var 4) (.var 8) .nop) (.slc (.var 4) .nop (.var 8))))
  (.seq (.ife (.cmp .Eq (.bin .Mod (.bin .FloorDiv (.var 3) (.int 64)) (.int 2)) (.int 1)) (.seq (.expr (.mt .reverse (.var 4) .nr))
  .nil) .nil)
  oF)))))))
theorem vT:ZC MM bJ JN cH (AA 23)=true:=by kernel_rfl
def iN:List Str:=["_law_found"]
def bH:List Str:=["_law_found"]
def gW:Need:=⟨[],[],["isinstance","list","all","str"]⟩
noncomputable def uJ:PT :=
  (.seq (.ife (.not (.isi (.var 0) (.bty "list" "list"))) (.seq (.ret (.bl false))
  .nil) .nil)
  (.seq (.ret (.bi .all (.nq (.comp [] ["_law_name"] (.nm 0) .val (.nq (.var 0) .nr) .nop (.isi (.var 0) (.bty "str" "str"))) .nr)))
  .nil))
theorem kT:ZC gW uJ iN bH (AA 24)=true:=by kernel_rfl
def KN:List Str:=["_law_chain_here","_law_edges","_law_starts","_law_goal"]
def gH:List Str:=["_law_chain_here","_law_edges","_law_starts","_law_goal"]
def OM:Need:=⟨["_law_texts"],[],["len","set","all","range"]⟩
noncomputable def nJ:PT :=
  (.seq (.ife (.or (.not (.call "_law_texts" (.nq (.var 0) .nr))) (.or (.cmp .Eq (.bi .len (.nq (.var 0) .nr)) (.int 0)) (.or (.cmp .NotIn (.idx (.var 0) (.int 0)) (.var 2)) (.cmp .In (.var 3) (.var 0))))) (.seq (.ret (.bl false))
  .nil) .nil)
  (.seq (.ife (.or (.cmp .NotEq (.lset (.var 0)) (.bi .len (.nq (.var 0) .nr))) (.cmp .NotIn (.tup (.nq (.idx (.var 0) (.neg (.int 1))) (.nq (.var 3) .nr))) (.var 1))) (.seq (.ret (.bl false))
  .nil) .nil)
  (.seq (.ret (.bi .all (.nq (.comp [] ["_law_k"] (.nm 0) .rng1 (.nq (.bin .Sub (.bi .len (.nq (.var 0) .nr)) (.int 1)) .nr) .nop (.cmp .In (.tup (.nq (.idx (.var 1) (.var 0)) (.nq (.idx (.var 1) (.bin .Add (.var 0) (.int 1))) .nr))) (.var 2))) .nr)))
  .nil)))
theorem bT:ZC OM nJ KN gH (AA 25)=true:=by kernel_rfl
def VN:List Str:=["_law_chains","_law_met","_law_chain_here"]
def lH:List Str:=["_law_chains"]
def mW:Need:=⟨[],[],["list","len","set"]⟩
def fG:PT :=
  (.seq (.set 1 (.bin .Add (.var 1) (.bi .list (.nq (.var 2) .nr))))
  .nil)
def oJ:PT :=
  (.seq (.set 1 (.lst .nr))
  (.seq (.for_ (.nm 2) .val (.nq (.var 0) .nr) fG)
  (.seq (.ret (.cmp .Eq (.lset (.var 1)) (.bi .len (.nq (.var 1) .nr))))
  .nil)))
theorem cT:ZC mW oJ VN lH (AA 26)=true:=by kernel_rfl
def kM:List Str:=["_law_ground_here","_law_edges","_law_seers","_law_needs_here","_law_ahead","_law_row","_law_chain_here"]
def LF:List Str:=["_law_ground_here","_law_edges","_law_seers","_law_needs_here"]
def vL:Need:=⟨["_law_apart","_law_chain"],[],["isinstance","list","str","len","tuple","dict","any"]⟩
noncomputable def pF:PT :=
  (.seq (.ife (.or (.not (.call "_law_chain" (.nq (.var 6) (.nq (.var 1) (.nq (.var 2) (.nq (.idx (.var 5) (.int 0)) .nr)))))) (.bi .any (.nq (.comp [] ["_law_name"] (.nm 0) .val (.nq (.var 6) .nr) .nop (.cmp .NotIn (.var 0) (.var 5))) .nr))) (.seq (.ret (.bl false))
  .nil) .nil)
  .nil)
def aE:PT :=
  (.seq (.for_ (.nm 6) .val (.nq (.idx (.var 5) (.int 1)) .nr) pF)
  (.seq (.expr (.mt .append (.var 4) (.nq (.idx (.var 5) (.int 0)) .nr)))
  .nil))
noncomputable def mI:PT :=
  (.seq (.ife (.or (.not (.isi (.var 5) (.bty "tuple" "tuple"))) (.or (.cmp .NotEq (.bi .len (.nq (.var 5) .nr)) (.int 2)) (.not (.isi (.idx (.var 5) (.int 0)) (.bty "str" "str"))))) (.seq (.ret (.bl false))
  .nil) .nil)
  (.seq (.ife (.or (.cmp .In (.idx (.var 5) (.int 0)) (.var 4)) (.or (.cmp .NotIn (.idx (.var 5) (.int 0)) (.dof (.var 3))) (.not (.isi (.idx (.var 5) (.int 1)) (.bty "list" "list"))))) (.seq (.ret (.bl false))
  .nil) .nil)
  (.seq (.ife (.cmp .In (.idx (.var 5) (.int 0)) (.var 2)) (.seq (.ife (.cmp .NotEq (.idx (.var 5) (.int 1)) (.lst .nr)) (.seq (.ret (.bl false))
  .nil) .nil)
  .nil) (.seq (.ife (.or (.cmp .NotEq (.bi .len (.nq (.idx (.var 5) (.int 1)) .nr)) (.idx (.dof (.var 3)) (.idx (.var 5) (.int 0)))) (.not (.call "_law_apart" (.nq (.idx (.var 5) (.int 1)) .nr)))) (.seq (.ret (.bl false))
  .nil) .nil)
  .nil))
  aE)))
noncomputable def ZH:PT :=
  (.seq (.ife (.not (.isi (.var 0) (.bty "list" "list"))) (.seq (.ret (.bl false))
  .nil) .nil)
  (.seq (.own 4 (.lst .nr))
  (.seq (.for_ (.nm 5) .val (.nq (.var 0) .nr) mI)
  (.seq (.ret (.bl true))
  .nil))))
theorem cR:ZC vL ZH kM LF (AA 27)=true:=by kernel_rfl
def ZR:List Str:=["_law_cuts_here","_law_held","_law_edges","_law_seers","_law_needs_here","_law_others","_law_inner","_law_row","_law_other"]
def FI:List Str:=["_law_cuts_here","_law_held","_law_edges","_law_seers","_law_needs_here"]
def pQ:Need:=⟨["_law_texts","_law_led"],[],["len","isinstance","list","zip","tuple","sorted","set"]⟩
noncomputable def KH:PT :=
  (.seq (.ife (.or (.not (.isi (.var 7) (.bty "tuple" "tuple"))) (.or (.cmp .NotEq (.bi .len (.nq (.var 7) .nr)) (.int 2)) (.or (.cmp .NotEq (.idx (.var 7) (.int 0)) (.idx (.var 8) (.int 0))) (.not (.call "_law_texts" (.nq (.idx (.var 7) (.int 1)) .nr)))))) (.seq (.ret (.bl false))
  .nil) .nil)
  (.seq (.ife (.or (.cmp .NotEq (.idx (.var 7) (.int 1)) (.sset (.idx (.var 7) (.int 1)))) (.or (.cmp .GtE (.bi .len (.nq (.idx (.var 7) (.int 1)) .nr)) (.idx (.var 8) (.int 1))) (.cmp .In (.idx (.var 8) (.int 0)) (.idx (.var 7) (.int 1))))) (.seq (.ret (.bl false))
  .nil) .nil)
  (.seq (.ife (.call "_law_led" (.nq (.comp [] ["_law_pair"] (.nm 0) .val (.nq (.var 6) .nr) (.or (.cmp .In (.idx (.var 0) (.int 1)) (.var 2)) (.cmp .Eq (.idx (.var 0) (.int 1)) (.idx (.var 9) (.int 0)))) (.var 0)) (.nq (.var 3) (.nq (.idx (.var 8) (.int 0)) (.nq (.idx (.var 7) (.int 1)) .nr))))) (.seq (.ret (.bl false))
  .nil) .nil)
  .nil)))
noncomputable def TL:PT :=
  (.seq (.set 5 (.comp [] ["_law_name","_law_number"] (.tp [0,1]) .val (.nq (.var 4) .nr) (.cmp .NotIn (.var 0) (.var 3)) (.tup (.nq (.var 0) (.nq (.var 1) .nr)))))
  (.seq (.ife (.or (.not (.isi (.var 0) (.bty "list" "list"))) (.cmp .NotEq (.bi .len (.nq (.var 0) .nr)) (.bi .len (.nq (.var 5) .nr)))) (.seq (.ret (.bl false))
  .nil) .nil)
  (.seq (.set 6 (.comp [] ["_law_pair"] (.nm 0) .val (.nq (.var 2) .nr) (.cmp .In (.idx (.var 0) (.int 0)) (.var 2)) (.var 0)))
  (.seq (.for_ (.tp [7,8]) .zip2 (.nq (.var 0) (.nq (.var 5) .nr)) KH)
  (.seq (.ret (.bl true))
  .nil)))))
theorem SW:ZC pQ TL ZR FI (AA 28)=true:=by kernel_rfl
def y9:List Str:=["_law_script","_law_names_here","_law_edges","_law_starts","_law_goal","_law_seers","_law_needs_here","_law_ground_here","_law_cuts_here","_law_held"]
def xS:List Str:=["_law_script"]
def i8:Need:=⟨["_law_web","_law_needs","ground_by","_law_ground","_law_cuts"],[],["sorted","set","list","any"]⟩
noncomputable def V1:PT :=
  (.seq (.tset [1,2,3,4] (.call "_law_web" (.nq (.var 0) (.nq (.int 10) .nr))))
  (.seq (.set 5 (.sset (.var 3)))
  (.seq (.set 6 (.call "_law_needs" (.nq (.var 0) (.nq (.var 1) .nr))))
  (.seq (.tset [7,8] (.call "ground_by" (.nq (.bi .list (.nq (.var 2) .nr)) (.nq (.bi .list (.nq (.var 5) .nr)) (.nq (.bi .list (.nq (.var 6) .nr)) .nr)))))
  (.seq (.ife (.not (.call "_law_ground" (.nq (.var 7) (.nq (.var 2) (.nq (.var 5) (.nq (.var 6) .nr)))))) (.seq (.ret (.bl false))
  .nil) .nil)
  (.seq (.set 9 (.comp [] ["_law_row"] (.nm 0) .val (.nq (.var 7) .nr) .nop (.idx (.var 0) (.int 0))))
  (.seq (.ife (.bi .any (.nq (.comp [] ["_law_name"] (.nm 0) .val (.nq (.var 5) .nr) .nop (.cmp .NotIn (.var 0) (.var 10))) .nr)) (.seq (.ret (.bl false))
  .nil) .nil)
  (.seq (.ret (.call "_law_cuts" (.nq (.var 8) (.nq (.var 9) (.nq (.var 2) (.nq (.var 5) (.nq (.var 6) .nr)))))))
  .nil))))))))
theorem Cc:ZC i8 V1 y9 xS (AA 29)=true:=by kernel_rfl
def kB:PSp where
 md:=[]
 run:=λy Q _=>∃c k:Int,y=[.d (.int c),.d (.int k)]/\(0<=k/\k<=1000)/\∀v:Int,0<=v->Q (.d (.int v)) []
 mono:=λh _ z=>by obtain⟨c,k,e,l,q⟩:=z;exact⟨c,k,e,l,λv x=>h _ _ (q v x)⟩
theorem eD:jD kB [.d (.int c),.d (.int k)] K E=((0<=k/\k<=1000)/\∀v:Int,0<=v->K (.d (.int v)) []):=propext ⟨λ⟨_,_,e,q⟩=>by cases e;exact q,λq=>⟨c,k,rfl,q⟩⟩
theorem NY(ds Q E)(h:kB.run ds Q E):ds.length=fH.length/\vA Ψ (λ_=>False) dJ (MA kB fH.length Q) (nA ZN kB.md ds):=by obtain⟨c,k,rfl,⟨u,z⟩,q⟩:=h;refine iA [some (.nv (.d (.int c))),some (.nv (.d (.int k))),none] rfl rfl rfl ?_;delta dJ;simp?[↓zA];have a:=Qn c (show(2147483647:Int)≠0 by decide);have b:=Qi c (show(0:Int)<2147483647 by decide);have y:0<=(c % 2147483647 * 48271+(k * k+3 * k+7) * 69621) % 2147483647:=Qn _ (by decide);have x:(c % 2147483647 * 48271+(k * k+3 * k+7) * 69621) % 2147483647<2147483647:=Qi _ (by decide);exact⟨eM.ok (.inr ⟨by omega,by omega⟩),eM.ok (.inr ⟨by omega,by omega⟩),eM.ok (.inr ⟨by omega,by omega⟩),eM.ok (.inr ⟨by omega,by omega⟩),eM.ok (.inl ⟨by omega,by omega⟩),q _ (Qn _ (by decide))⟩
def nD:PSp where
 md:=[.kr]
 run:=λx Q _=>∃ns:List Int,x=[.lst ((ns.map PyData.int).map T.d)]/\∀v:Int,Q (.d (.int v)) []
 mono:=λh _ z=>by obtain⟨ns,e,q⟩:=z;exact⟨ns,e,λv=>h _ _ (q v)⟩
theorem OP{ns:List Int}:jD nD [.lst ((ns.map PyData.int).map T.d)] K E=∀v:Int,K (.d (.int v)) []:=propext ⟨λ⟨h,e,q⟩=>q,λq=>⟨ns,rfl,q⟩⟩
theorem L5(ds Q E)(h:nD.run ds Q E):ds.length=DI.length/\vA Ψ (λ_=>False) SL (MA nD DI.length Q) (nA YR nD.md ds):=by obtain⟨ns,rfl,q⟩:=h;refine iA [some (.nv (.lst ((ns.map PyData.int).map T.d))),none,none] rfl rfl rfl ?_;delta SL;simp?[↓zA];rw[<- aA];refine lB (λ(n:Int)=>T.d (.int n)) (λl y=>∃a o,0<=a/\a<2147483647/\y=[some (.nv (.lst ((ns.map PyData.int).map T.d))),some (.nv (.d (.int a))),o]) ?_ ?_ _ _ ⟨0,_,by decide,by decide,by rw[aA]⟩;rintro y ⟨a,o,_,_,rfl⟩;simp?[↓zA];exact q a;rintro x l y N z ⟨a,o,f,u,rfl⟩;delta RL;simp?[↓zA];exact⟨eM.ok (.inr ⟨by decide,by decide⟩),z _ ⟨_,_,Qn _ (by decide),Qi _ (by decide),rfl⟩⟩
def O5(s:Str):Prop:=s.length<=9/\∀c∈s.cps.toList,c<128
theorem FW(xs:List (Array Nat)):∀(h:Array Nat),(xs.foldl (·++·) h).toList=h.toList++(xs.map QB1).flatten:=by
 induction xs with|nil=>intro h;simp|cons a xs x=>intro h;rw[WH,x];simp
theorem BK(x:Str)(k:Int):(NG x k).cps.toList=(Qz k.toNat x.cps.toList).flatten:=by
 unfold NG Txt.mul;split;rename_i h;have:k.toNat=0:=by omega
 rw[this];rfl;rename_i h;split;rename_i y;rw[wU]at y;rcases y with y|y;have:k=1:=by simpa using y
 subst this;simp;have z:x.length=0:=by simpa using y
 have:x.cps.toList=[]:=by
  have:x.cps.toList.length=0:=by rw[QX];exact z
  exact qu.mp this
 rw[this];simp;show((Qz k.toNat x.cps).foldl (·++·) #[]).toList=_;rw[FW];simp
theorem S9{c:Nat}(u:c<128)(hk:k<=9):O5 (NG ⟨#[c]⟩ k):=by
 have h:=BK ⟨#[c]⟩ k;have e:(Qz k.toNat ([c]:List Nat)).flatten=Qz k.toNat c:=by
  generalize k.toNat=n;induction n with|zero=>rfl|succ n z=>rw[wB,wC,z,wB];rfl
 have h:(NG ⟨#[c]⟩ k).cps.toList=Qz k.toNat c:=h.trans e;refine⟨?_,λx y=>?_⟩;have:=congrArg qq h;rw[QX,qh]at this;show(NG ⟨#[c]⟩ k).cps.size<=9;omega;rw[h]at y;rw[List.eq_of_mem_replicate y];exact u
theorem tH:∀(X:List Str),(QCL (Ql "") X).cps.toList=(X.map λy=>y.cps.toList).flatten
 |[]=>rfl|[y]=>by simp[QCL]|y::z::r=>by have h:=tH (z::r);show((y.cps++(Ql "").cps)++(QCL (Ql "") (z::r)).cps).toList=_;rw[QBX,QBX,h,show(Ql "").cps.toList=[] by decide +kernel,wG];rfl
def one(y:Str):Prop:=∃c,c<128/\y=⟨#[c]⟩
theorem V6(G:X.length<=9)(h:∀y∈X,one y):O5 (QAK (Ql "") X):=by
 have e:(QAK (Ql "") X).cps.toList=(X.map λy=>y.cps.toList).flatten:=by rw[show QAK (Ql "") X=QCL (Ql "") X from QBF _ _];exact tH X
 have f:∀(X:List Str),(∀y∈X,one y)->((X.map λy=>y.cps.toList).flatten).length=X.length/\∀c∈(X.map λy=>y.cps.toList).flatten,c<128:=by
  intro X;induction X with
  |nil=>intro _;exact⟨rfl,λc j=>by simp at j⟩|cons y r A =>
   intro h;obtain⟨C,B⟩:=A λz F=>h z (QE _ F);obtain⟨c,j,rfl⟩:=h y QD;rw[QO,wC];refine⟨?_,λx u=>?_⟩;rw[QL,C,QM];show 1+r.length=r.length+1;omega;rcases Qg.mp u with u|u
   ·have:x=c:=by simpa using u
    rw[this];exact j
   exact B x u
 obtain⟨W,o⟩:=f X h;refine⟨?_,by rw[e];exact o⟩;have:=congrArg qq e;rw[QX,W]at this;show(QAK (Ql "") X).cps.size<=9;omega
noncomputable def ZD:PSp where
 md:=[]
 run:=λf Q _=>∃c k:Int,f=[.d (.int c),.d (.int k)]/\(2<=k/\k<=10)/\∀ns:List Str,ns.length=k.toNat->(∀s∈ns,O5 s)->ns.Nodup->Q (.lst ((ns.map PyData.str).map T.d)) []
 mono:=λh _ z=>by obtain⟨c,k,e,l,q⟩:=z;exact⟨c,k,e,l,λns u y x=>h _ _ (q ns u y x)⟩
theorem DV(h:2<=k/\k<=10)(q:∀ns:List Str,ns.length=k.toNat->(∀s∈ns,O5 s)->ns.Nodup->K (.lst ((ns.map PyData.str).map T.d)) []):jD ZD [.d (.int c),.d (.int k)] K E:=⟨c,k,rfl,h,q⟩
theorem bh:(Ql "abcdefghijklmnpqrstvwxyz").cps.toList.length=24/\((Ql "abcdefghijklmnpqrstvwxyz").cps.toList.all λc=>decide (c<128))=true:=by decide +kernel
theorem G1:(Ql "bcdfghjklmnpqrstvwxz").cps.toList.length=20/\((Ql "bcdfghjklmnpqrstvwxz").cps.toList.all λc=>decide (c<128))=true:=by decide +kernel
theorem Fm{K:Nat->Prop}(y:0<=i)(x:i<24)(k:∀c,c<128->K c):nC (eE (Ql "abcdefghijklmnpqrstvwxyz").cps.toList i) K :=
 S8 y (by rw[bh.1];exact x) λv h=>k v (of_decide_eq_true (qH.mp bh.2 v h))
theorem Gm{K:Nat->Prop}(y:0<=i)(x:i<20)(k:∀c,c<128->K c):nC (eE (Ql "bcdfghjklmnpqrstvwxz").cps.toList i) K :=
 S8 y (by rw[G1.1];exact x) λv h=>k v (of_decide_eq_true (qH.mp G1.2 v h))
theorem Dm{K:Nat->Prop}(y:0<=i)(x:i<20)(k:∀c,c<128->(Ql "bcdfghjklmnpqrstvwxz").cps.toList[i.toNat]?=some c->K c):nC (eE (Ql "bcdfghjklmnpqrstvwxz").cps.toList i) K:=by obtain⟨v,z,h⟩:=zP y (show i<((Ql "bcdfghjklmnpqrstvwxz").cps.toList.length:Int) by rw[G1.1];exact x);exact⟨v,z,k v (of_decide_eq_true (qH.mp G1.2 v (qB h))) h⟩
theorem pk:(Ql "bcdfghjklmnpqrstvwxz").cps.toList.Nodup:=by decide +kernel
theorem Fl{j:Int}{c:Nat}(y:0<=i)(x:i<20)(h:0<=j)(a:(Ql "bcdfghjklmnpqrstvwxz").cps.toList[i.toNat]?=some c)(b:(Ql "bcdfghjklmnpqrstvwxz").cps.toList[j.toNat]?=some c):i=j:=by have:=(List.getElem?_inj (by rw[G1.1];omega) pk).mp (a.trans b.symm);omega
theorem X8:∀{X:List Str}{n c:Nat},(∀y∈X,one y)->X[n]?=some ⟨#[c]⟩->((X.map λy=>y.cps.toList).flatten)[n]?=some c
 |[],_,_,_,h=>(nomatch h)
 |y::r,n,c,h,e=>by
  obtain⟨d,_,rfl⟩:=h y QD;show(d::(r.map λy=>y.cps.toList).flatten)[n]?=_;cases n with|zero=>rw[QAp]at e ⊢;cases e;rfl|succ n=>rw[wv]at e ⊢;exact X8 (λz x=>h z (QE _ x)) e
theorem X6{c:Nat}(h:∀y∈X,one y)(e:X[n]?=some ⟨#[c]⟩):(QAK (Ql "") X).cps.toList[n]?=some c:=by rw[show QAK (Ql "") X=QCL (Ql "") X from QBF _ _,tH];exact X8 h e
theorem T9{c:Nat}:((qC k.toNat).map λ(i:Nat)=>NG ⟨#[c]⟩ (k - (i:Int))).Nodup:=by
 refine List.pairwise_map.mpr (wt (λ{a b} y hb x e=>?_) List.pairwise_lt_range);have h:∀n:Int,(NG ⟨#[c]⟩ n).cps.toList.length=n.toNat:=λn=>by rw[BK,List.length_flatten,List.map_replicate,List.sum_replicate_nat];show n.toNat * 1=_;omega
 have hb:=WS.mp hb;have:=congrArg (λs:Str=>s.cps.toList.length) e;simp only[h]at this;omega
theorem Y8:(Ql "bcdfghjklmnpqrstvwxz").length<=sizeLine:=by decide +kernel
theorem og:(Ql "abcdefghijklmnpqrstvwxyz").length<=sizeLine:=by decide +kernel
theorem oU(h:∀y∈X,one y){c:Nat}(u:c<128):∀y∈X.set n ⟨#[c]⟩,one y:=λy x=>by rcases List.mem_or_eq_of_mem_set x with z|z;exact h y z;exact⟨c,u,z⟩
theorem UT:∀{X:List Str},(∀y∈X,one y)->(X.map (·.length)).sum=X.length
 |[],_=>rfl|y::r,h=>by obtain⟨c,_,rfl⟩:=h y QD;rw[QO,List.sum_cons,UT λz x=>h z (QE _ x),QM];show 1+r.length=r.length+1;omega
noncomputable def yg(c k m:Int)(c1:Nat)(sz h:Int)(ns:List Str)(o8 o9:Option Sl):kA:=[some (.nv (.d (.int c))),some (.nv (.d (.int k))),some (.nv (.d (.int m))),some (.nv (.d (.str ⟨#[c1]⟩))),some (.nv (.d (.str (Ql "bcdfghjklmnpqrstvwxz")))),some (.nv (.d (.int sz))),some (.nv (.d (.int h))),some (.own (.lst ((ns.map PyData.str).map T.d))),o8,o9]
theorem E5{sz h:Int}{o8 o9:Option Sl}{i:Nat}(m0:0<=m)(M:c1<128)(H:2<=sz)(S:sz<=8)(P:0<=h)(a1:h<sz)(hl:ns.length<=9)(q:∀s o,O5 s->(∃d,(Ql "bcdfghjklmnpqrstvwxz").cps.toList[((m / 4200+3 * (i:Int)) % 20).toNat]?=some d/\s.cps.toList[h.toNat]?=some d)->Z.nx (yg c k m c1 sz h (ns++[s]) (some (.nv (.d (.int (i:Int))))) o)) :
  vA Ψ (λ_=>False) uE Z (yg c k m c1 sz h ns (some (.nv (.d (.int (i:Int))))) o9):=by
 have hz:sizeLine=16777216:=QS;delta yg at q ⊢;delta uE;simp?[↓zA];refine⟨by omega,by omega,iB (λ(i:Nat)=>T.d (.int (i:Int))) (λ_=>.d (.str ⟨#[c1]⟩)) _ _ _ (λx _ R N=>?_) (by rw[qS,Qy];omega) ?_⟩;simp?[↓zA];exact N;rw[Qo,aA];have O:(qC sz.toNat).map (λ_=>PyData.str ⟨#[c1]⟩)=((qC sz.toNat).map λ_=>(⟨#[c1]⟩:Str)).map PyData.str:=by rw[Qb];rfl
 rw[O];have A:∀y∈(qC sz.toNat).map λ_=>(⟨#[c1]⟩:Str),one y:=λy A=>by obtain⟨_,_,e⟩:=Qe.mp A;exact⟨c1,M,e.symm⟩
 have u:((qC sz.toNat).map λ_=>(⟨#[c1]⟩:Str)).length=sz.toNat:=by rw[QG,qS]
 generalize (qC sz.toNat).map (λ_=>(⟨#[c1]⟩:Str))=X at A u;refine⟨eM.ok (.inl ⟨by decide,by decide⟩),Y8,Dm (Qn _ (by decide)) (Qi _ (by decide)) λW G B=>jf P (by rw[QG];omega) ?_⟩;rw[<- QB6];refine⟨Y8,Gm (Qn _ (by decide)) (Qi _ (by decide)) λI F=>?_⟩;refine⟨by omega,jf (Qn _ (by omega)) (by rw[QG,wH,u];have:=Qi (h+1) (show 0<sz by omega);omega) ?_⟩;rw[<- QB6];have z:=oU (oU A (n:=h.toNat) G) (n:=((h+1) % sz).toNat) F;have C:((X.set h.toNat ⟨#[W]⟩).set ((h+1) % sz).toNat ⟨#[I]⟩).length=sz.toNat:=by rw[wH,wH,u]
 have j:((X.set h.toNat ⟨#[W]⟩).set ((h+1) % sz).toNat ⟨#[I]⟩)[h.toNat]?=some ⟨#[W]⟩:=by
  have J:((h+1) % sz).toNat≠h.toNat:=by by_cases d:h+1=sz;rw[d,Int.emod_self];omega;rw[Int.emod_eq_of_lt (by omega) (by omega)];omega
  rw[qT J,qd (by omega)]
 generalize (X.set h.toNat ⟨#[W]⟩).set ((h+1) % sz).toNat ⟨#[I]⟩=zs at z C j;simp?[↓zA];refine⟨zs,rfl,by rw[UT z,show(Ql "").length=0 by decide +kernel];omega,?_⟩;have L:=V6 (by omega) z;have f:=q _ (some (.own (.lst ((zs.map PyData.str).map T.d)))) L ⟨W,B,X6 z j⟩;refine⟨?_,?_⟩;rw[QG,QG];omega;rw[QU,QU]at f;exact f
noncomputable def FG:PT :=
  (.seq (.set 5 (.bin .Add (.int 2) (.bin .Mod (.bin .FloorDiv (.var 2) (.int 75)) (.int 7))))
  (.seq (.set 6 (.bin .Mod (.bin .FloorDiv (.var 2) (.int 525)) (.var 5)))
  (.seq (.own 7 (.lst .nr))
  (.seq (.for_ (.nm 8) .rng1 (.nq (.var 1) .nr) uE)
  (.seq (.ret (.var 7))
  .nil)))))
noncomputable def rN:PT->PT:=λr =>
  (.seq (.set 2 (.call "_law_mixed" (.nq (.var 0) (.nq (.int 3) .nr))))
  (.seq (.set 3 (.idx (.str "abcdefghijklmnpqrstvwxyz") (.bin .Mod (.var 2) (.int 24))))
  (.seq (.set 4 (.str "bcdfghjklmnpqrstvwxz"))
  (.seq (.ife (.and (.cmp .Eq (.bin .Mod (.bin .FloorDiv (.var 2) (.int 25)) (.int 3)) (.int 0)) (.cmp .Lt (.var 1) (.int 9))) (.seq (.ret (.comp [false,false,false,false,false,false,false,false,true] ["_law_k"] (.nm 0) .rng1 (.nq (.var 1) .nr) .nop (.bin .Mult (.var 4) (.bin .Sub (.var 2) (.var 0)))))
  .nil) .nil)
  r))))
theorem uZ:cJ=rN FG:=rfl
theorem u6(H:0<=m)(k0:2<=k)(k1:k<=10)(hc:c1<128)(q:∀ns:List Str,ns.length=k.toNat->(∀s∈ns,O5 s)->ns.Nodup->Q (.lst ((ns.map PyData.str).map T.d)) []) :
  vA Ψ (λ_=>False) FG (eZ Q) [some (.nv (.d (.int c))),some (.nv (.d (.int k))),some (.nv (.d (.int m))),some (.nv (.d (.str ⟨#[c1]⟩))),some (.nv (.d (.str (Ql "bcdfghjklmnpqrstvwxz")))),none,none,none,none,none]:=by
 delta FG;simp?[↓zA];have s0:=Qn (m / 75) (show(7:Int)≠0 by decide);have s1:=Qi (m / 75) (show(0:Int)<7 by decide);have A:2<=2+m / 75 % 7:=by omega
 have W:2+m / 75 % 7<=8:=by omega
 generalize 2+m / 75 % 7=sz at A W;have S:=Qn (m / 525) (show sz≠0 by omega);have R:=Qi (m / 525) (show 0<sz by omega);generalize m / 525 % sz=av at S R;refine⟨by omega,Q9 _,by omega,by omega,lB (λ(i:Nat)=>T.d (.int (i:Int))) (λl G=>∃ns o8 o9,ns.length+l.length=k.toNat/\(∀s∈ns,O5 s)/\(∃n,l=List.range' ns.length n)/\ns.Nodup/\(∀s∈ns,∃(i:Nat) (d:Nat),i<ns.length/\(Ql "bcdfghjklmnpqrstvwxz").cps.toList[((m / 4200+3 * (i:Int)) % 20).toNat]?=some d/\s.cps.toList[av.toNat]?=some d)/\G=yg c k m c1 sz av ns o8 o9) ?_ ?_ _ _ ⟨[],_,_,by rw[qS,Qy,QA4],λs B=>(nomatch B),⟨k.toNat,List.range_eq_range'⟩,Q0,λs B=>(nomatch B),rfl⟩⟩;rintro G ⟨ns,o8,o9,I,u,_,nd,_,rfl⟩;delta yg;simp?[↓zA];exact q ns (by rw[Qy]at I;omega) u nd
 ·rintro i l G N hN ⟨ns,o8,o9,I,u,⟨n,f⟩,nd,C,rfl⟩
  obtain⟨ei,f⟩:i=ns.length/\∃n,l=List.range' (ns.length+1) n:=by
   cases n with|zero=>cases f|succ n=>rw[List.range'_succ]at f;exact⟨(List.cons.inj f).1,n,(List.cons.inj f).2⟩
  rw[QM]at I;refine E5 (o8:=some (.nv (.d (.int (i:Int))))) (o9:=o9) H hc A W S R (by omega) λs o B O=>hN _ ⟨ns++[s],_,_,by rw[QL,Qm];omega,λy h=>by rcases Qg.mp h with h|h;exact u y h;rw[QI.mp h];exact B,by rw[QL];exact f,?nd,?C,rfl⟩
  case nd=>obtain⟨d,M,L⟩:=O;refine qJ.mpr ⟨nd,Qk.mpr ⟨Qh,Q0⟩,λx z y h e=>?_⟩;rw[QI.mp h]at e;obtain⟨j,P,h1,J,F⟩:=C x z;rw[e,L]at F;cases F;have:=Fl (Qn _ (by decide)) (Qi _ (by decide)) (Qn _ (by decide)) M J;omega
  case C=>intro x z;rw[QL,Qm];rcases Qg.mp z with z|z;obtain⟨j,P,h1,J,F⟩:=C x z;exact⟨j,P,by omega,J,F⟩;obtain⟨d,M,L⟩:=O;rw[QI.mp z];exact⟨i,d,by omega,M,L⟩
theorem MY(C:Ψ.sp "_law_mixed"=kB)(ds Q E)(h:ZD.run ds Q E):ds.length=dH.length/\vA Ψ (λ_=>False) cJ (MA ZD dH.length Q) (nA YN ZD.md ds):=by
 obtain⟨c,k,rfl,⟨W,o⟩,q⟩:=h;refine iA [some (.nv (.d (.int c))),some (.nv (.d (.int k))),none,none,none,none,none,none,none,none] rfl rfl rfl ?_;rw[uZ];have y:∀(m:Int) (c1:Nat),0<=m->c1<128->_:=λm c1 u z=>u6 (Ψ:=Ψ) (c:=c) (m:=m) (c1:=c1) u W o z q;generalize FG=r at y;delta rN;simp?[↓rA (md:=[]) C rfl rfl,↓eD];refine λm u=>⟨og,Fm (Qn _ (by decide)) (Qi _ (by decide)) λc1 z=>?_⟩
 have y:=y m c1 u z;split;split
 ·rename_i j
  have j:=of_decide_eq_true j;have F:sizeLine=16777216:=QS;refine⟨by omega,by omega,iB (λ(i:Nat)=>T.d (.int (i:Int))) (λi=>.d (.str (NG ⟨#[c1]⟩ (k - (i:Int))))) _ _ _ (λx f R B=>?_) (by rw[qS,Qy];omega) ?_⟩;simp?[↓zA];have f:=WS.mp f;refine⟨by omega,by omega,?_,B⟩;show 1 * (k - (x:Int)).toNat<=sizeLine;omega;rw[Qo,aA];have:=q ((qC k.toNat).map λ(i:Nat)=>NG ⟨#[c1]⟩ (k - (i:Int))) (by rw[QG,qS]) λs A=>by obtain⟨i,_,rfl⟩:=Qe.mp A;exact S9 z (by omega)
  have this:=this T9;rw[show((qC k.toNat).map λ(i:Nat)=>NG ⟨#[c1]⟩ (k - (i:Int))).map PyData.str=(qC k.toNat).map λ(i:Nat)=>PyData.str (NG ⟨#[c1]⟩ (k - (i:Int))) by rw[Qb];rfl]at this;exact this
 exact y;exact y
def pr(p:Str×Str):D:=.tuple [.str p.1,.str p.2]
noncomputable def aV(sc h m:Sl)(ns:List Str)(es:rB)(o6 o7 o8 o9 o10 o11 Y o13:Option Sl):kA:=[some sc,some (.nv (.d (.int 10))),some h,some m,some (.nv (.d (.list (ns.map PyData.str)))),some (.own (.lst ((es.map pr).map T.d))),o6,o7,o8,o9,o10,o11,Y,o13]
theorem td{K:D->Prop}(z:0<=i)(y:i<ns.length)(k:∀s∈ns,K (.str s)):nC (eE (ns.map PyData.str) i) K :=
 nT z (by rw[QG];exact y) λv h=>by obtain⟨s,x,rfl⟩:=Qe.mp h;exact k s x
theorem uh{l:List Int}{K:D->Prop}(u:0<=i)(z:i<l.length)(y:∀s∈l,0<s)(k:∀s,0<s->K (.int s)):nC (eE (l.map PyData.int) i) K :=
 nT u (by rw[QG];exact z) λv h=>by obtain⟨s,x,rfl⟩:=Qe.mp h;exact k s (y s x)
theorem n9{z:Sl}{n a b:Int}(F:es.length<=200)(B:0<=a)(A:a<ns.length)(W:0<=b)(o:b<ns.length)
  (q:∀es',es'.length<=es.length+1->(∀p∈es',p∈es∨p.1∈ns/\p.2∈ns)->Z.nx (aV sc z (.nv (.d (.int m))) ns es' o6 o7 o8 (some (.nv (.d (.int n)))) (some (.nv (.d (.int a)))) (some (.nv (.d (.int b)))) Y o13)) :
  vA Ψ (λ_=>False) nF Z (aV sc z (.nv (.d (.int m))) ns es o6 o7 o8 (some (.nv (.d (.int n)))) (some (.nv (.d (.int a)))) (some (.nv (.d (.int b)))) Y o13):=by
 have C:sizeLine=16777216:=QS;delta aV at q ⊢;delta nF;simp?[↓zA];refine⟨by omega,uh (l:=[1,2,4]) (Qn _ (by decide)) (Qi _ (by decide)) (by decide) λd j=>?_⟩;simp?[↓zA];refine⟨j,?_⟩;split;refine td B A λx f=>td W o λy u=>?_;refine⟨by omega,?_,?_⟩;rw[QG,QG];omega;have:=q (es++[(x,y)]) (by rw[QL];exact QV _) λp h=>by rcases Qg.mp h with h|h;exact .inl h;rw[QI.mp h];exact .inr ⟨f,u⟩
 rw[QU,QU]at this;exact this;exact q es (wD _) λp h=>.inl h
theorem Ke(u:Ψ.sp "_law_mixed"=kB){i j:Nat}(z:es.length<=200)(G:0<ns.length)(J:i<63)(I:j<2)
  (q:∀es' o9 o10 o11,es'.length<=es.length+1->(∀p∈es',p∈es∨p.1∈ns/\p.2∈ns)->Z.nx (aV sc (.nv (.d (.int s))) (.nv (.d (.int m))) ns es' (some (.nv (.d (.int (i:Int))))) (some (.nv (.d (.int c)))) (some (.nv (.d (.int (j:Int))))) o9 o10 o11 Y o13)) :
  vA Ψ (λ_=>False) xJ Z (aV sc (.nv (.d (.int s))) (.nv (.d (.int m))) ns es (some (.nv (.d (.int (i:Int))))) (some (.nv (.d (.int c)))) (some (.nv (.d (.int (j:Int))))) o9 o10 o11 Y o13):=by
 have F:sizeLine=16777216:=QS;have x:∀n a b:Int,0<=a->a<ns.length->0<=b->b<ns.length->vA Ψ (λ_=>False) nF Z (aV sc (.nv (.d (.int s))) (.nv (.d (.int m))) ns es (some (.nv (.d (.int (i:Int))))) (some (.nv (.d (.int c)))) (some (.nv (.d (.int (j:Int))))) (some (.nv (.d (.int n)))) (some (.nv (.d (.int a)))) (some (.nv (.d (.int b)))) Y o13):=λn a b C B A W=>n9 z C B A W λes' o f=>q es' _ _ _ o f;have h:(0:Int)<ns.length:=by omega
 delta aV at x ⊢;delta xJ;simp?[↓rA (md:=[]) u rfl rfl];refine⟨eM.ok (.inl ⟨by decide,by decide⟩),QCY eD ⟨⟨by omega,by omega⟩,λn y=>?_⟩⟩;simp?[QG];refine⟨h,h,?_⟩;split;exact⟨h,x _ _ _ (Qn _ (by omega)) (Qi _ h) (Qn _ (by omega)) (Qi _ h)⟩;exact x _ _ _ (Qn _ (by omega)) (Qi _ h) (Qn _ (by omega)) (Qi _ h)
theorem Ze(S:Ψ.sp "_law_mixed"=kB){i:Nat}(hl:es.length<=126)(M:0<ns.length)(P:i<63)
  (q:∀es' o8 o9 o10 o11,es'.length<=es.length+2->(∀p∈es',p∈es∨p.1∈ns/\p.2∈ns)->Z.nx (aV sc (.nv (.d (.int s))) (.nv (.d (.int m))) ns es' (some (.nv (.d (.int (i:Int))))) (some (.nv (.d (.int c)))) o8 o9 o10 o11 Y o13)) :
  vA Ψ (λ_=>False) vJ Z (aV sc (.nv (.d (.int s))) (.nv (.d (.int m))) ns es (some (.nv (.d (.int (i:Int))))) (some (.nv (.d (.int c)))) o8 o9 o10 o11 Y o13):=by
 have hz:sizeLine=16777216:=QS;delta aV;delta vJ;simp?[↓zA];have I:=Qn (m / 5000) (show(2:Int)≠0 by decide);have G:=Qi (m / 5000) (show(0:Int)<2 by decide);generalize m / 5000 % 2=t at I G;refine⟨by omega,by omega,lB (λ(j:Nat)=>T.d (.int (j:Int))) (λl y=>∃es' o8 o9 o10 o11,(∀j∈l,j<2)/\es'.length+l.length<=es.length+2/\(∀p∈es',p∈es∨p.1∈ns/\p.2∈ns)/\y=aV sc (.nv (.d (.int s))) (.nv (.d (.int m))) ns es' (some (.nv (.d (.int (i:Int))))) (some (.nv (.d (.int c)))) o8 o9 o10 o11 Y o13) ?_ ?_ _ _ ⟨es,_,_,_,_,λj O=>by have:=WS.mp O;omega,by rw[qS];omega,λp W=>.inl W,rfl⟩⟩;rintro y ⟨es',L,o,x,h,_,C,B,rfl⟩;exact q es' _ o x h (by rw[Qy]at C;omega) B;rintro j l y N R ⟨es',L,o,x,h,F,C,B,rfl⟩;rw[QM]at C;exact Ke (j:=j) (o9:=o) (o10:=x) (o11:=h) S (by omega) M P (F j QD) λA J f u f1 H=>R _ ⟨A,_,J,f,u,λk hk=>F k (QE _ hk),by omega,λp W=>by rcases H p W with z|z;exact B p z;exact .inr z,rfl⟩
noncomputable def v3(sc:Sl)(s m:Int)(ns:List Str)(es:rB)(st:List Str)(o6 o7 o8 o9 o10 o11 o13:Option Sl):kA:=[some sc,some (.nv (.d (.int 10))),some (.nv (.d (.int s))),some (.nv (.d (.int m))),some (.nv (.d (.list (ns.map PyData.str)))),some (.own (.lst ((es.map pr).map T.d))),o6,o7,o8,o9,o10,o11,some (.own (.lst ((st.map PyData.str).map T.d))),o13]
theorem Ye(f:Ψ.sp "_law_mixed"=kB){i:Nat}{x:Str}(o:st.length<=10)(W:i<10)
  (y:Z.nx (v3 sc s m ns es st (some (.nv (.d (.int (i:Int))))) o7 o8 o9 o10 o11 (some (.nv (.d (.str x))))))
  (h:Z.nx (v3 sc s m ns es (st++[x]) (some (.nv (.d (.int (i:Int))))) o7 o8 o9 o10 o11 (some (.nv (.d (.str x)))))) :
  vA Ψ (λ_=>False) kJ Z (v3 sc s m ns es st (some (.nv (.d (.int (i:Int))))) o7 o8 o9 o10 o11 (some (.nv (.d (.str x))))):=by
 have j:sizeLine=16777216:=QS;delta v3 at y h ⊢;delta kJ;simp?[↓rA (md:=[]) f rfl rfl];refine QCY eD ⟨⟨by omega,by omega⟩,λn z=>?_⟩;simp?[↓zA];refine⟨by omega,uh (l:=[2,3,2,6]) (Qn _ (by decide)) (Qi _ (by decide)) (by decide) λd u=>?_⟩;simp?[↓zA];refine⟨u,?_⟩;split;refine⟨by rw[QG,QG];omega,?_⟩;rw[QU,QU]at h;exact h;exact y
def L1(ns:List Str)(es:rB)(st:List Str)(g:Str):Prop:=ns.length<=10/\(∀s∈ns,O5 s)/\es.length<=126/\(∀p∈es,p.1∈ns/\p.2∈ns)/\st.length<=11/\(∀s∈st,s∈ns)/\g∈ns
def t9(ns:List Str)(es:rB)(st:List Str)(g:Str):D:=.tuple [.list (ns.map PyData.str),.list (es.map pr),.list (st.map PyData.str),.str g]
theorem m9(f:0<ns.length)(q:∀g∈ns,Q (.d (t9 ns es st g)) []) :
  vA Ψ (λ_=>False) YH (eZ Q) (v3 sc s m ns es st o6 o7 o8 o9 o10 o11 o13):=by
 have u:sizeLine=16777216:=QS;have h:(0:Int)<ns.length:=by omega
 delta v3;delta YH;simp?[QG];have z:(T.lst ((es.map pr).map T.d)).er=.list (es.map pr):=by show PyData.list (ersT ((es.map pr).map T.d))=_;rw[FA]
 have y:(T.lst ((st.map PyData.str).map T.d)).er=.list (st.map PyData.str):=by show PyData.list (ersT ((st.map PyData.str).map T.d))=_;rw[FA]
 rw[z,y];exact⟨h,td (Qn _ (by omega)) (Qi _ h) λg x=>⟨by omega,q g x⟩⟩
theorem LO{α:Type}(l:List α)(k:Nat):(OD l none (some (k:Int))).length<=k:=by
 unfold OD;rw[wW];have:HT.sIx l.length l.length (some (k:Int))<=k:=by unfold HT.sIx;simp only;split<;>omega
 omega
theorem u7{α:Type}{l:List α}{a b:Option Int}{x:α}(h:x∈OD l a b):x∈l:=List.mem_of_mem_drop (QAH h)
theorem GO{α h:Type}(f:α->h)(l:List α)(a b:Option Int):OD (l.map f) a b=(OD l a b).map f:=by unfold OD;rw[QG,List.map_take,List.map_drop]
theorem FR{α:Type}{l:List α}{p:α×Nat}(h:p∈l.zipIdx):p.2<l.length/\p.1∈l:=by have h:=List.mem_zipIdx_iff_getElem?.mp h;exact⟨(Qd.mp h).1,qB h⟩
noncomputable def UF:PSp where
 md:=[.kr]
 run:=λy Q _=>∃x:List Int,y=[.lst ((x.map PyData.int).map T.d),.d (.int 10)]/\∀ns es st g,L1 ns es st g->ns.Nodup->Q (.d (t9 ns es st g)) []
 mono:=λh _ z=>by obtain⟨x,e,q⟩:=z;exact⟨x,e,λns es st g w n=>h _ _ (q ns es st g w n)⟩
theorem j4{cs:List Int}(q:∀ns es st g,L1 ns es st g->ns.Nodup->K (.d (t9 ns es st g)) []):jD UF [.lst ((cs.map PyData.int).map T.d),.d (.int 10)] K E:=⟨cs,rfl,q⟩
theorem Ta(h0:Ψ.sp "_law_fold"=nD)(I:Ψ.sp "_law_mixed"=kB)(h2:Ψ.sp "_law_names"=ZD)(ds Q E)(h:UF.run ds Q E):ds.length=LK.length/\vA Ψ (λ_=>False) jP (MA UF LK.length Q) (nA oV UF.md ds):=by
 obtain⟨o,rfl,q⟩:=h;have hz:sizeLine=16777216:=QS;refine iA [some (.nv (.lst ((o.map PyData.int).map T.d))),some (.nv (.d (.int 10))),none,none,none,none,none,none,none,none,none,none,none,none] rfl rfl rfl ?_;delta jP;simp?[↓rA (md:=[.kr]) h0 rfl rfl,↓rA (md:=[]) I rfl rfl,↓rA (md:=[]) h2 rfl rfl];refine QCY OP λv=>?_;simp?[↓rA (md:=[]) I rfl rfl,↓rA (md:=[]) h2 rfl rfl];refine QCY eD ⟨⟨by decide,by decide⟩,λm hm=>?_⟩;simp?[↓rA (md:=[]) h2 rfl rfl];have k0:=Qn m (show(10 - 1:Int)≠0 by decide);have k1:=Qi m (show(0:Int)<10 - 1 by decide);refine⟨by decide,DV ⟨by omega,by omega⟩ λns hnl hns hnd=>?_⟩;have hn9:ns.length<=10:=by omega
 have C:0<ns.length:=by omega
 simp?[↓zA];rw[GO];refine⟨Q9 _,lB (λ(p:D×Nat)=>T.d (.tuple [.int (p.2:Int),p.1])) (λl f=>∃es o6 o7 o8 o9 o10 o11,(∀p∈l,p.2<63/\∃c,p.1=.int c)/\es.length+2 * l.length<=126/\(∀p∈es,p.1∈ns/\p.2∈ns)/\f=aV (.nv (.lst ((o.map PyData.int).map T.d))) (.nv (.d (.int v))) (.nv (.d (.int m))) ns es o6 o7 o8 o9 o10 o11 none none) ?_ ?_ _ _ ⟨[],_,_,_,_,_,_,λp u=>?_,?_,λp u=>(nomatch u),rfl⟩⟩;rintro f ⟨es,o6,o7,o8,o9,o10,o11,_,el,j,rfl⟩;delta aV;simp?[↓zA];refine⟨Q9 _,lB (λ(p:D×Nat)=>T.d (.tuple [.int (p.2:Int),p.1])) (λl f=>∃st o6 o13,(∀p∈l,p.2<10/\∃x∈ns,p.1=.str x)/\st.length+l.length<=10/\(∀s∈st,s∈ns)/\f=v3 (.nv (.lst ((o.map PyData.int).map T.d))) v m ns es st o6 (aF o7) o8 o9 o10 o11 o13) ?_ ?_ _ _ ⟨[],_,_,λp u=>?_,?_,λp u=>(nomatch u),rfl⟩⟩;rintro f ⟨st,P,B,_,L,W,rfl⟩;rw[Qy]at L;have hr:=λ(st:List Str) (s1:st.length<=11) (s2:∀s∈st,s∈ns)=>m9 (Ψ:=Ψ) (sc:=.nv (.lst ((o.map PyData.int).map T.d))) (s:=v) (m:=m) (es:=es) (st:=st) (o6:=aF P) (o7:=aF o7) (o8:=o8) (o9:=o9) (o10:=o10) (o11:=o11) (o13:=aF B) C λg hg=>q ns es st g ⟨hn9,hns,by rw[Qy]at el;omega,j,s1,s2,hg⟩ hnd;unfold v3 at hr;delta v3;simp?[↓zA];split;rw[GO];have c1:=LO st 1;refine⟨by rw[QG,QG];show st.length+(OD st none (some ((1:Nat):Int))).length<=_;omega,?_⟩;have:=hr (st++OD st none (some 1)) (by rw[QL];show st.length+(OD st none (some ((1:Nat):Int))).length<=_;omega) λs H=>by rcases Qg.mp H with h|h;exact W s h;exact W s (u7 h)
 rw[QU]at this;exact this;exact hr st (by omega) W;rintro⟨x,i⟩ l f N G ⟨st,P,B,A,L,W,rfl⟩;obtain⟨hi,y,hy,e⟩:=A _ QD;have e:x=.str y:=e;subst e;rw[QM]at L;refine nC.mk rfl ?_;exact Ye (i:=i) (x:=y) I (by omega) hi (G _ ⟨st,_,_,λp u=>A p (QE _ u),by omega,W,rfl⟩) (G _ ⟨st++[y],_,_,λp u=>A p (QE _ u),by rw[QL,Qm];omega,λs H=>by rcases Qg.mp H with h|h;exact W s h;rw[QI.mp h];exact hy,rfl⟩);obtain⟨F,J⟩:=FR u;rw[QG]at F;obtain⟨x,hx,e⟩:=Qe.mp J;exact⟨by omega,x,hx,e.symm⟩;rw[QBm,QG,Qy];omega;rintro⟨x,i⟩ l f N G ⟨es,P,p7,p8,p9,S,R,A,el,j,rfl⟩;obtain⟨hi,c,e⟩:=A _ QD;have e:x=.int c:=e;subst e;rw[QM]at el;refine nC.mk rfl ?_;exact Ze (i:=i) (c:=c) (o8:=p8) (o9:=p9) (o10:=S) (o11:=R) I (by omega) C hi λes' r8 r9 O M f1 f2=>G _ ⟨es',_,_,r8,r9,O,M,λp u=>A p (QE _ u),by omega,λp u=>by rcases f2 p u with z|z;exact j p z;exact z,rfl⟩;obtain⟨F,J⟩:=FR u;have c1:=LO o 63;rw[QG]at F;obtain⟨x,hx,e⟩:=Qe.mp J;exact⟨Qq F c1,x,e.symm⟩;have c1:=LO o 63;rw[QBm,QG,Qy];have c1:(OD o none (some 63)).length<=63:=c1;omega
theorem DO(a b:Str):Q3 (.str a) (.str b)=decide (a=b):=by rw[qW,decide_eq_true_iff];simp[Q3]
theorem UB(l:List Str)(z:Str):((l.map PyData.str).any λy=>Q3 y (.str z))=decide (z∈l):=by rw[QB7,qW,Wa,decide_eq_true_iff];constructor;rintro⟨x,u,e⟩;have e:Q3 (.str x) (.str z)=true:=e;rw[DO,decide_eq_true_iff]at e;exact e▸u;intro h;exact⟨z,h,by show Q3 (.str z) (.str z)=true;rw[DO];exact dT rfl⟩
theorem bB(l:List Str):(l.map PyData.str).all SA=true:=by rw[QB4,qH];exact λ_ _=>rfl
theorem LN{l:List Str}{z:Str}:PyData.str z∈l.map PyData.str↔z∈l:=by constructor;intro h;obtain⟨x,y,e⟩:=Qe.mp h;cases e;exact y;exact QAR
def P6(g:Str)(cut:List Str)(s:Str):Bool:=!decide (s=g)&&!decide (s∈cut)
inductive Led(es:rB)(st:List Str)(g:Str)(cut:List Str):Str->Prop
 |st {s:Str}:s∈st->P6 g cut s=true->Led es st g cut s
 |ed {a b:Str}:Led es st g cut a->(a,b)∈es->P6 g cut b=true->Led es st g cut b
theorem vF:∀{ks ns:List Str},ks.Nodup->(∀s∈ks,s∈ns)->ks.length<=ns.length
 |[],_,_,_=>Q9 _|s::r,ns,h,hs=>by obtain⟨f,u⟩:=Qk.mp h;have z:=hs s QD;have:=vF (ks:=r) (ns:=ns.erase s) u λx y=>(QBK (λ(e:x=s)=>f (e▸y))).mpr (hs x (QE _ y));rw[QAm z]at this;have j:=Ws z;rw[QM];omega
noncomputable abbrev Pt:=Str×Str
theorem yO(h:pr p=pr q):p=q:=by obtain⟨a,b⟩:=p;obtain⟨c,d⟩:=q;injection h with h;injection h with h1 h;injection h with h2 _;injection h1 with h1;injection h2 with h2;exact QCZ h1 h2
theorem PZ{x k:D}{r:List D}(h:x≠k):lA (x::r) k=(lA r k).map (·+1):=by unfold lA;rw[if_neg h];cases r<;>rfl
theorem U8{x k:D}{r:List D}(h:x=k):lA (x::r) k=some 0:=by unfold lA;rw[if_pos h]
def look{α:Type}:List (Pt×α)->Pt->Option α
 |[],_=>none|e::l,p=>if e.1=p then some e.2 else look l p
def put{α:Type}:List (Pt×α)->Pt->α->List (Pt×α)
 |[],p,v=>[(p,v)]|e::l,p,v=>if e.1=p then(e.1,v)::l else e::put l p v
def uD{α:Type}(l:List (Pt×α)):List D:=l.map λe=>pr e.1
theorem EI{α:Type}{p:Pt}:∀{l:List (Pt×α)},look l p=none->lA (uD l) (pr p)=none/\∀w,put l p w=l++[(p,w)]
 |[],_=>⟨rfl,λ_=>rfl⟩|e::l,h=>by unfold look at h;by_cases c:e.1=p;rw[if_pos c]at h;cases h;rw[if_neg c]at h;obtain⟨y,x⟩:=EI h;refine⟨?_,λw=>?_⟩;show lA (pr e.1::uD l) (pr p)=none;rw[PZ (λz=>c (yO z)),y];rfl;show(if e.1=p then(e.1,w)::l else e::put l p w)=_;rw[if_neg c,x];rfl
theorem FC{α:Type}{p:Pt}{v:α}(f:α->T):∀{l:List (Pt×α)},look l p=some v->∃n,lA (uD l) (pr p)=some n/\(l.map λe=>f e.2)[n]?=some (f v)/\∀w,uD (put l p w)=uD l/\(l.map λe=>f e.2).set n (f w)=(put l p w).map λe=>f e.2
 |[],h=>by cases h|e::l,h=>by unfold look at h;by_cases c:e.1=p;rw[if_pos c]at h;injection h with h;refine⟨0,?_,?_,λw=>?_⟩;exact U8 (congrArg pr c);show some (f e.2)=_;rw[h];have:put (e::l) p w=(e.1,w)::l:=if_pos c;rw[this];exact⟨rfl,rfl⟩;rw[if_neg c]at h;obtain⟨n,o,j,u⟩:=FC f h;refine⟨n+1,?_,j,λw=>?_⟩;show lA (pr e.1::uD l) (pr p)=some (n+1);rw[PZ (λz=>c (yO z)),o];rfl;have:put (e::l) p w=e::put l p w:=if_neg c;rw[this];obtain⟨y,x⟩:=u w;refine⟨?_,?_⟩;show pr e.1::uD (put l p w)=pr e.1::uD l;rw[y];show f e.2::(l.map λe=>f e.2).set n (f w)=f e.2::(put l p w).map λe=>f e.2;rw[x]
theorem HD{α:Type}{p q:Pt}{w:α}:∀{l:List (Pt×α)},look (put l p w) q=if p=q then some w else look l q
 |[]=>rfl|e::l=>by
  by_cases c:e.1=p;have h:put (e::l) p w=(e.1,w)::l:=if_pos c;rw[h];show(if e.1=q then some w else look l q)=if p=q then some w else(if e.1=q then some e.2 else look l q)
  rw[c];split<;>rfl;have h:put (e::l) p w=e::put l p w:=if_neg c;rw[h];show(if e.1=q then some e.2 else look (put l p w) q)=if p=q then some w else(if e.1=q then some e.2 else look l q)
  rw[HD];by_cases d:e.1=q;rw[if_pos d,if_pos d,if_neg (λz=>c (d.trans z.symm))];rw[if_neg d,if_neg d]
theorem xU{α:Type}{p:Pt}{w:α}:∀{l:List (Pt×α)},(put l p w).length<=l.length+1
 |[]=>QV _|e::l=>by by_cases c:e.1=p;rw[show put (e::l) p w=(e.1,w)::l from if_pos c,QM,QM];omega;have:=xU (p:=p) (w:=w) (l:=l);rw[show put (e::l) p w=e::put l p w from if_neg c,QM,QM];omega
theorem BC(p:Pt):UE true (pr p):=⟨[.inr p.1,.inr p.2],rfl⟩
noncomputable abbrev Inn:=List (Pt×Int)
noncomputable abbrev Rm:=List (Pt×Inn)
def LD(l:Inn):T:=.dct true (uD l) (l.map λe=>T.d (.int e.2))
def BA(r:Rm):T:=.dct true (uD r) (r.map λe=>LD e.2)
def sdf(r:Rm)(p:Pt):Rm:=match look r p with
 |some _=>r|none=>r++[(p,[])]
theorem ET{Q:T->Prop}(y:r.length<sizeLine)(q:Q (BA (sdf r p))):df (.d (pr p)) (BA r) Q:=by
 refine⟨uD r,_,rfl,BC p,by unfold uD;rw[QG];exact y,?_⟩;unfold sdf at q;cases h:look r p with
 |some v=>rw[h]at q;obtain⟨n,x,_⟩:=FC LD h;exact .inl ⟨n,x,q⟩|none =>
  rw[h]at q;refine .inr ⟨(EI h).1,?_⟩;have e:BA (r++[(p,[])])=.dct true (uD r++[pr p]) ((r.map λe=>LD e.2)++[.dct true [] []]):=by unfold BA uD;rw[QU,QU];rfl
  show Q (T.dct true (uD r++[pr p]) ((r.map λe=>LD e.2)++[.dct true [] []]));rw[<- e];exact q
theorem NN{Q:T->Prop}(o:l.length<sizeLine)(q:Q (LD (put l p v))):ze (LD l) (.d (pr p)) (.d (.int v)) Q:=by
 refine⟨BC p,by unfold uD;rw[QG];exact o,?_⟩;have e:cM true (uD l) (l.map λe=>T.d (.int e.2)) (pr p) (.d (.int v))=LD (put l p v):=by
  unfold cM;cases h:look l p with|none=>obtain⟨x,y⟩:=EI h;rw[x,y];unfold LD uD;rw[QU,QU];rfl|some u=>obtain⟨n,x,y,j⟩:=FC (λi:Int=>T.d (.int i)) h;rw[x];obtain⟨f,z⟩:=j v;show T.dct true (uD l) ((l.map λe=>T.d (.int e.2)).set n (T.d (.int v)))=_;unfold LD;rw[f,z]
 show Q (cM true (uD l) (l.map λe=>T.d (.int e.2)) (pr p) (.d (.int v)));rw[e];exact q
theorem FH{Q:T->(T->T)->Prop}(h:look r p=some l)(q:∀f:T->T,(∀x,f (LD x)=BA (put r p x))->Q (LD l) f):Ae (.d (pr p)) (BA r) Q:=by obtain⟨n,o,j,u⟩:=FC LD h;refine⟨true,uD r,_,n,LD l,rfl,BC p,o,j,q _ λx=>?_⟩;obtain⟨z,y⟩:=u x;show T.dct true (uD r) ((r.map λe=>LD e.2).set n (LD x))=_;unfold BA;rw[z,y]
def YA:Pt:=("","begin")
def tO(n:Str):Pt:=(n,"to")
def fR(n:Str):Pt:=(n,"from")
theorem Mj:("begin":Str)≠"to":=by decide +kernel
theorem Nj:("begin":Str)≠"from":=by decide +kernel
theorem Hj:("to":Str)≠"from":=by decide +kernel
theorem EB:YA≠tO a:=λh=>Mj (congrArg Prod.snd h)
theorem FE:YA≠fR a:=λh=>Nj (congrArg Prod.snd h)
theorem RA:tO a≠fR b:=λh=>Hj (congrArg Prod.snd h)
theorem LB(h:tO a=tO b):a=b:=congrArg qw h
theorem aH(h:fR a=fR b):a=b:=congrArg qw h
def uX(p q:Pt):Prop:=(p=YA/\∃n,q=tO n)∨(∃n,p=tO n/\q=fR n)∨(∃a b,a≠b/\p=fR a/\q=tO b)
theorem bF(h:uX p q):¬ uX q p:=by
 rintro k;rcases h with⟨rfl,n,rfl⟩| ⟨n,rfl,rfl⟩| ⟨a,b,u,rfl,rfl⟩<;>rcases k with⟨x,m,y⟩| ⟨m,x,y⟩| ⟨c,d,z,x,y⟩
 exact EB x.symm;exact FE y;exact RA x;exact FE x.symm;exact RA x.symm;exact z ((aH x).symm.trans (LB y));exact EB x.symm;exact u ((aH y).trans (LB x).symm);exact RA x
theorem IF(h:uX p q):p≠q:=λe=>bF h (by rw[e]at h ⊢;exact h)
noncomputable abbrev Wy:=Pt×Pt×Int
def lk(r:Rm)(p:Pt):Inn:=(look r p).getD []
noncomputable def JB(r:Rm)(w:Wy):Rm:=put (put (sdf (sdf r w.1) w.2.1) w.1 (put (lk (sdf (sdf r w.1) w.2.1) w.1) w.2.1 w.2.2)) w.2.1 (put (lk (put (sdf (sdf r w.1) w.2.1) w.1 (put (lk (sdf (sdf r w.1) w.2.1) w.1) w.2.1 w.2.2)) w.2.1) w.1 0)
theorem eQ{α:Type}{p q:Pt}{v:α}:∀{l:List (Pt×α)},look (l++[(p,v)]) q=(look l q).or (if p=q then some v else none)
 |[]=>rfl|e::l=>by show(if e.1=q then some e.2 else look (l++[(p,v)]) q)=(if e.1=q then some e.2 else look l q).or (if p=q then some v else none);by_cases c:e.1=q;rw[if_pos c,if_pos c];rfl;rw[if_neg c,if_neg c];exact eQ
theorem aQ:look (sdf r p) q=(look r q).or (if p=q then some [] else none):=by
 unfold sdf;cases h:look r p with
 |some v =>
  show look r q=_;cases y:look r q with
  |some x=>rfl|none =>
   show none=if p=q then some [] else none
   rw[if_neg];intro e;rw[e,y]at h;cases h
 |none=>show look (r++[(p,[])]) q=_;exact eQ
theorem SN:(sdf r p).length<=r.length+1:=by unfold sdf;split;omega;rw[QL,Qm];omega
theorem MH{α:Type}{p:Pt}{w:α}{e:Pt×α}:∀{l:List (Pt×α)},e∈put l p w->e=(p,w)∨e∈l
 |[],h=>.inl (QI.mp h)|x::l,h=>by by_cases c:x.1=p;rw[show put (x::l) p w=(x.1,w)::l from if_pos c]at h;rcases QJ.mp h with h|h;exact .inl (by rw[h,c]);exact .inr (QE _ h);rw[show put (x::l) p w=x::put l p w from if_neg c]at h;rcases QJ.mp h with h|h;exact .inr (by rw[h];exact QD);exact(MH h).imp_right (QE _)
theorem IN{α:Type}{p:Pt}{w:α}{q:Pt}:∀{l:List (Pt×α)},(∃v,(q,v)∈put l p w)↔q=p∨∃v,(q,v)∈l
 |[]=>by
  constructor;rintro⟨v,h⟩;exact .inl (congrArg qw (QI.mp h));rintro(rfl|⟨v,h⟩)
  ·exact⟨w,QI.mpr rfl⟩
  exact(nomatch h)
 |x::l=>by
  by_cases c:x.1=p;rw[show put (x::l) p w=(x.1,w)::l from if_pos c];constructor;rintro⟨v,h⟩;rcases QJ.mp h with h|h;exact .inl ((congrArg qw h).trans c);exact .inr ⟨v,QE _ h⟩;rintro(rfl|⟨v,h⟩)
  ·exact⟨w,by rw[c];exact QD⟩
  rcases QJ.mp h with h|h
  ·exact⟨w,by rw[<- h];exact QD⟩
  exact⟨v,QE _ h⟩;rw[show put (x::l) p w=x::put l p w from if_neg c];have y:=IN (p:=p) (w:=w) (q:=q) (l:=l);constructor;rintro⟨v,h⟩;rcases QJ.mp h with h|h;exact .inr ⟨v,by rw[h];exact QD⟩;exact(y.mp ⟨v,h⟩).imp_right λ⟨v,h⟩=>⟨v,QE _ h⟩
  rintro(h|⟨v,h⟩)
  ·obtain⟨v,h⟩:=y.mpr (.inl h)
   exact⟨v,QE _ h⟩
  rcases QJ.mp h with h|h
  ·exact⟨v,by rw[h];exact QD⟩
  obtain⟨v,h⟩:=y.mpr (.inr ⟨v,h⟩);exact⟨v,QE _ h⟩
def bX(r:Rm)(p q:Pt):Prop:=∃v,(q,v)∈lk r p
def Key(r:Rm)(p:Pt):Prop:=∃l,look r p=some l
def Pos(r:Rm):Prop:=∀p,∀e∈lk r p,(0<e.2↔uX p e.1)
def B2(r:Rm):Prop:=∀p q,bX r p q->Key r q
def Sz(r:Rm)(n:Nat):Prop:=r.length<=n/\∀p,(lk r p).length<=n
theorem nE:lk (put r p l) q=if p=q then l else lk r q:=by unfold lk;rw[HD];split<;>rfl
theorem mE:lk (sdf r p) q=lk r q:=by
 unfold lk;rw[aQ];cases look r q with|some x=>rfl|none=>show(if p=q then some [] else none).getD []=[];split<;>rfl
theorem jI:Key (put r p l) q↔p=q∨Key r q:=by unfold Key;rw[HD];by_cases h:p=q;rw[if_pos h];exact⟨λ_=>.inl h,λ_=>⟨_,rfl⟩⟩;rw[if_neg h];exact⟨.inr,λz=>z.resolve_left h⟩
theorem zE:Key (sdf r p) q↔p=q∨Key r q:=by
 unfold Key;rw[aQ];cases look r q with|some x=>exact⟨λ_=>.inr ⟨_,rfl⟩,λ_=>⟨_,rfl⟩⟩|none=>show(∃l,(if p=q then some [] else none)=some l)↔_;by_cases h:p=q;rw[if_pos h];exact⟨λ_=>.inl h,λ_=>⟨_,rfl⟩⟩;rw[if_neg h];exact⟨λ⟨_,e⟩=>(nomatch e),λz=>(z.resolve_left h)⟩
theorem EH(h:w.1≠w.2.1)(p:Pt):lk (JB r w) p=if w.2.1=p then put (lk r p) w.1 0 else if w.1=p then put (lk r p) w.2.1 w.2.2 else lk r p:=by unfold JB;rw[nE,nE,nE,mE,mE,mE,mE,if_neg h,mE,mE];by_cases y:w.2.1=p;rw[if_pos y,if_pos y,y];rw[if_neg y,if_neg y];by_cases x:w.1=p;rw[if_pos x,if_pos x,x];rw[if_neg x,if_neg x]
theorem yG:Key (JB r w) p↔p=w.1∨p=w.2.1∨Key r p:=by
 unfold JB;rw[jI,jI,zE,zE];constructor;rintro(h|h|h|h|h)
 ·exact .inr (.inl h.symm)
 exact .inl h.symm;exact .inr (.inl h.symm);exact .inl h.symm;exact .inr (.inr h);rintro(h|h|h)
 ·exact .inr (.inl h.symm)
 exact .inl h.symm;exact .inr (.inr (.inr (.inr h)))
theorem xI(h:w.1≠w.2.1):bX (JB r w) p q↔bX r p q∨(p=w.1/\q=w.2.1)∨(p=w.2.1/\q=w.1):=by
 unfold bX;rw[EH h];by_cases x:w.2.1=p;rw[if_pos x,IN];constructor;rintro(e|e)
 ·exact .inr (.inr ⟨x.symm,e⟩)
 exact .inl e;rintro(e|⟨u,y⟩| ⟨u,y⟩)
 ·exact .inr e
 exact absurd (u.symm.trans x.symm) h;exact .inl y;rw[if_neg x];by_cases f:w.1=p;rw[if_pos f,IN];constructor;rintro(e|e)
 ·exact .inr (.inl ⟨f.symm,e⟩)
 exact .inl e;rintro(e|⟨u,y⟩| ⟨u,y⟩)
 ·exact .inr e
 exact .inl y;exact absurd u.symm x;rw[if_neg f];exact⟨.inl,λz=>z.elim id λz=>z.elim (λe=>absurd e.1.symm f) λe=>absurd e.1.symm x⟩
def tG(w:Wy):Prop:=uX w.1 w.2.1/\0<w.2.2
theorem nY(g:tG w)(y:Pos r):Pos (JB r w):=by intro p e h;rw[EH (IF g.1)]at h;by_cases f:w.2.1=p;rw[if_pos f]at h;rcases MH h with z|z;rw[z,<- f];exact⟨λx=>absurd x (w9 0),λx=>absurd x (bF g.1)⟩;exact y p e z;rw[if_neg f]at h;by_cases u:w.1=p;rw[if_pos u]at h;rcases MH h with z|z;rw[z,<- u];exact⟨λ_=>g.1,λ_=>g.2⟩;exact y p e z;rw[if_neg u]at h;exact y p e h
theorem IZ(g:tG w)(x:B2 r):B2 (JB r w):=by
 intro p q h;rw[yG];rcases(xI (IF g.1)).mp h with h|⟨_,h⟩| ⟨_,h⟩
 exact .inr (.inr (x p q h));exact .inr (.inl h);exact .inl h
theorem DK{α:Type}{w:α}{l:List (Pt×α)}(h:l.length<=n):(put l p w).length<=n+1:=QY xU (by omega)
theorem jO{α:Type}{p:Pt}{w:α}:∀{l:List (Pt×α)},(look l p).isSome=true->(put l p w).length=l.length
 |[],h=>by cases h|e::l,h=>by by_cases c:e.1=p;rw[show put (e::l) p w=(e.1,w)::l from if_pos c];rfl;rw[show put (e::l) p w=e::put l p w from if_neg c,QM,QM];rw[show look (e::l) p=look l p from if_neg c]at h;rw[jO h]
theorem UQ(h:Key r p):(look r p).isSome=true:=by obtain⟨l,e⟩:=h;rw[e];rfl
theorem gZ:(JB r w).length<=r.length+2:=by have x:Key (sdf (sdf r w.1) w.2.1) w.1:=zE.mpr (.inr (zE.mpr (.inl rfl)));have h:Key (sdf (sdf r w.1) w.2.1) w.2.1:=zE.mpr (.inl rfl);unfold JB;rw[jO (UQ (jI.mpr (.inr h))),jO (UQ x)];have:=SN (r:=r) (p:=w.1);have:=SN (r:=sdf r w.1) (p:=w.2.1);omega
theorem DH(g:w.1≠w.2.1)(h:Sz r n):Sz (JB r w) (n+2):=by
 refine⟨QY gZ (by have:=h.1;omega),λp=>?_⟩;rw[EH g];have x:=h.2 p;split;exact QY (DK x) (by omega);split
 ·exact QY (DK x) (by omega)
 omega
theorem EU:∀{ws:List Wy}{r:Rm},(∀w∈ws,tG w)->∀{p q:Pt},bX (ws.foldl JB r) p q↔bX r p q∨(∃v,(p,q,v)∈ws)∨∃v,(q,p,v)∈ws
 |[],r,_,p,q=>⟨.inl,λz=>z.elim id λz=>z.elim (λ⟨_,z⟩=>(nomatch z)) λ⟨_,z⟩=>(nomatch z)⟩
 |w::ws,r,h,p,q=>by
  rw[WH,EU (λw x=>h w (QE _ x)),xI (IF (h w QD).1)];constructor;rintro((z|⟨rfl,rfl⟩| ⟨rfl,rfl⟩)|⟨v,z⟩| ⟨v,z⟩)
  ·exact .inl z
  exact .inr (.inl ⟨_,QD⟩);exact .inr (.inr ⟨_,QD⟩);exact .inr (.inl ⟨v,QE _ z⟩);exact .inr (.inr ⟨v,QE _ z⟩);rintro(z|⟨v,z⟩| ⟨v,z⟩)
  ·exact .inl (.inl z)
  rcases QJ.mp z with z|z
  ·rw[<- z]
   exact .inl (.inr (.inl ⟨rfl,rfl⟩))
  exact .inr (.inl ⟨v,z⟩);rcases QJ.mp z with z|z
  ·rw[<- z]
   exact .inl (.inr (.inr ⟨rfl,rfl⟩))
  exact .inr (.inr ⟨v,z⟩)
theorem tR:∀{ws:List Wy}{r:Rm}{n:Nat},(∀w∈ws,tG w)->Pos r->B2 r->Key r YA->Sz r n->Pos (ws.foldl JB r)/\B2 (ws.foldl JB r)/\Key (ws.foldl JB r) YA/\Sz (ws.foldl JB r) (n+2 * ws.length)
 |[],r,n,_,h1,h2,h3,h4=>⟨h1,h2,h3,h4⟩|w::ws,r,n,h,h1,h2,h3,h4=>by have g:=h w QD;have:=tR (ws:=ws) (r:=JB r w) (n:=n+2) (λw x=>h w (QE _ x)) (nY g h1) (IZ g h2) (yG.mpr (.inr (.inr h3))) (DH (IF g.1) h4);rw[WH,QM,show n+2 * (ws.length+1)=n+2+2 * ws.length by omega];exact this
def mP(g:Str)(n:Str):List Wy:=if n=g then[] else[(tO n,fR n,1),(YA,tO n,2)]
def BR(g:Str)(e:Str×Str):List Wy:=if e.1=g∨e.1=e.2 then[] else[(tO e.1,fR e.1,1),(tO e.2,fR e.2,1),(fR e.1,tO e.2,2)]
def RG:Rm:=[(YA,[])]
def jA(es:rB)(st:List Str)(g:Str):Rm:=(es.flatMap (BR g)).foldl JB ((st.flatMap (mP g)).foldl JB RG)
theorem xj:(0:Int)<1:=by decide
theorem Rn:(0:Int)<2:=by decide
theorem eT{n:Str}:(mP g n).length<=2:=by unfold mP;split;exact Q9 _;exact QV _
theorem iT:(BR g e).length<=3:=by unfold BR;split;exact Q9 _;exact QV _
theorem bK{n:Str}:∀w∈mP g n,tG w:=by
 intro w h;unfold mP at h;split at h;exact(nomatch h);rcases QJ.mp h with rfl|h
 ·exact⟨.inr (.inl ⟨n,rfl,rfl⟩),xj⟩
 rw[QI.mp h];exact⟨.inl ⟨rfl,n,rfl⟩,Rn⟩
theorem cK:∀w∈BR g e,tG w:=by
 intro w x;unfold BR at x;split at x;exact(nomatch x);rename_i h;rcases QJ.mp x with rfl|x;exact⟨.inr (.inl ⟨e.1,rfl,rfl⟩),xj⟩;rcases QJ.mp x with rfl|x
 ·exact⟨.inr (.inl ⟨e.2,rfl,rfl⟩),xj⟩
 rw[QI.mp x];exact⟨.inr (.inr ⟨e.1,e.2,λz=>h (.inr z),rfl,rfl⟩),Rn⟩
theorem YL{α:Type}{f:α->List Wy}{k:Nat}(h:∀x,(f x).length<=k):∀(l:List α),(l.flatMap f).length<=k * l.length
 |[]=>QV _|x::l=>by have:=YL h l;have:=h x;rw[QAn,QL,QM,Nat.mul_succ];omega
theorem CG{α:Type}{f:α->List Wy}(h:∀x,∀w∈f x,tG w)(l:List α):∀w∈l.flatMap f,tG w:=λw z=>by obtain⟨x,_,y⟩:=QAy.mp z;exact h x w y
structure RmOk(r:Rm)(n:Nat):Prop where
 pos:Pos r
 dom:B2 r
 bg:Key r YA
 sz:Sz r n
theorem YE:RmOk RG 1:=by
 have e:∀p,lk RG p=[]:=λp=>by show(if YA=p then some [] else none).getD []=[];split<;>rfl
 refine⟨λp y x=>?_,λp q ⟨v,h⟩=>?_,⟨[],if_pos rfl⟩,QV _,λp=>?_⟩;rw[e]at x;exact(nomatch x);rw[e]at h;exact(nomatch h);rw[e];exact Q9 _
theorem RmOk.add{r:Rm}{n:Nat}(h:RmOk r n){ws:List Wy}(g:∀w∈ws,tG w):RmOk (ws.foldl JB r) (n+2 * ws.length):=by obtain⟨u,z,y,x⟩:=tR g h.pos h.dom h.bg h.sz;exact⟨u,z,y,x⟩
theorem dQ(z:es.length<=126)(y:st.length<=11):RmOk (jA es st g) 1000:=by have a:=(YE.add (CG (f:=mP g) (λ_=>bK) st)).add (CG (f:=BR g) (λ_=>cK) es);have x:=YL (f:=mP g) (k:=2) (λ_=>eT) st;have h:=YL (f:=BR g) (k:=3) (λ_=>iT) es;exact⟨a.pos,a.dom,a.bg,QY a.sz.1 (by omega),λp=>QY (a.sz.2 p) (by omega)⟩
def E8(r:Rm)(p q:Pt):Prop:=∃v,(q,v)∈lk r p/\0<v
inductive Rch(r:Rm):Pt->Prop
 |bg:Rch r YA
 |go {p q:Pt}:Rch r p->E8 r p q->Rch r q
theorem ig{n:Str}:(p,q,v)∈mP g n↔n≠g/\((p,q,v)=(tO n,fR n,1)∨(p,q,v)=(YA,tO n,2)):=by unfold mP;split;rename_i h;exact⟨λz=>(nomatch z),λz=>absurd h z.1⟩;rename_i h;rw[QJ,QI];exact⟨λz=>⟨h,z⟩,λz=>z.2⟩
theorem Jg:(p,q,v)∈BR g e↔(e.1≠g/\e.1≠e.2)/\((p,q,v)=(tO e.1,fR e.1,1)∨(p,q,v)=(tO e.2,fR e.2,1)∨(p,q,v)=(fR e.1,tO e.2,2)):=by unfold BR;split;rename_i h;exact⟨λz=>(nomatch z),λz=>h.elim (λh=>absurd h z.1.1) λh=>absurd h z.1.2⟩;rename_i h;rw[QJ,QJ,QI];exact⟨λz=>⟨⟨λe=>h (.inl e),λe=>h (.inr e)⟩,z⟩,λz=>z.2⟩
theorem bD{cut:List Str}{s:Str}:P6 g cut s=true↔s≠g/\s∉cut:=by unfold P6;rw[Qf,Q8,Q8,decide_eq_false_iff_not,decide_eq_false_iff_not]
end
section
variable{es:rB}{st:List Str}{g:Str}{x:List Str}
theorem fL{s:Str}(h:Led es st g x s):s≠g/\s∉x:=by
 cases h with|st _ h=>exact bD.mp h|ed _ _ h=>exact bD.mp h
end
section
variable{r:Rm}{ks:List Pt}{vs:List D}
theorem JX:∀{ws:List Wy}{r:Rm}{n:Nat},(∀w∈ws,tG w)->Sz r n->Sz (ws.foldl JB r) (n+2 * ws.length)
 |[],r,n,_,h4=>h4|w::ws,r,n,h,h4=>by have:=JX (ws:=ws) (r:=JB r w) (n:=n+2) (λw x=>h w (QE _ x)) (DH (IF (h w QD).1) h4);rw[WH,QM,show n+2 * (ws.length+1)=n+2+2 * ws.length by omega];exact this
inductive CF(r:Rm):List Pt->List D->Prop
 |bg:CF r [YA] [.none]
 |add {ks:List Pt}{vs:List D}{p q:Pt}:CF r ks vs->p∈ks->E8 r p q->q∉ks->CF r (ks++[q]) (vs++[pr p])
theorem CF.len(h:CF r ks vs):vs.length=ks.length:=by
 induction h with|bg=>rfl|add _ _ _ _ x=>rw[QL,QL,x];rfl
theorem CF.hb(h:CF r ks vs):YA∈ks:=by
 induction h with|bg=>exact QD|add _ _ _ _ x=>exact Qt _ x
theorem CF.rch(h:CF r ks vs):∀k∈ks,Rch r k:=by
 induction h with|bg=>intro k hk;rw[QI.mp hk];exact .bg|add _ y w _ x=>intro k hk;rcases Qg.mp hk with z|z;exact x k z;rw[QI.mp z];exact .go (x _ y) w
theorem CF.nd(h:CF r ks vs):ks.Nodup:=by
 induction h with
 |bg=>exact Qk.mpr ⟨λz=>(nomatch z),Q0⟩
 |add _ _ _ n x=>refine qJ.mpr ⟨x,Qk.mpr ⟨λz=>(nomatch z),Q0⟩,λa y b hb z=>?_⟩;rw[QI.mp hb]at z;exact n (z▸y)
theorem HH(x:B2 r)(hb:Key r YA){p:Pt}(h:Rch r p):Key r p:=by
 cases h with|bg=>exact hb|go _ w=>obtain⟨v,m,_⟩:=w;exact x _ _ ⟨v,m⟩
theorem eO{p:Pt}{l:Inn}:∀{r:Rm},look r p=some l->p∈r.map (·.1)
 |[],h=>by cases h|e::r,h=>by by_cases c:e.1=p;rw[<- c];exact QD;rw[show look (e::r) p=look r p from if_neg c]at h;exact QE _ (eO (r:=r) h)
theorem XG:∀{ks ns:List Pt},ks.Nodup->(∀s∈ks,s∈ns)->ks.length<=ns.length
 |[],_,_,_=>Q9 _|s::r,ns,h,hs=>by obtain⟨v,u⟩:=Qk.mp h;have z:=hs s QD;have:=XG (ks:=r) (ns:=ns.erase s) u λx y=>(QBK (λ(e:x=s)=>v (e▸y))).mpr (hs x (QE _ y));rw[QAm z]at this;have w:=Ws z;rw[QM];omega
theorem CF.le(y:B2 r)(hb:Key r YA)(h:CF r ks vs):ks.length<=r.length:=by
 have:=XG (ns:=r.map (·.1)) h.nd λs x=>by obtain⟨l,e⟩:=HH y hb (h.rch s x);exact eO e
 rw[QG]at this;exact this
structure Srch(r:Rm)(ks:List Pt)(vs:List D)(ws:List Pt):Prop where
 cf:CF r ks vs
 sub:∀w∈ws,w∈ks
 clo:∀k∈ks,k∉ws->∀q,E8 r k q->q∈ks
structure Srch1(r:Rm)(here:Pt)(ks:List Pt)(vs:List D)(ws:List Pt)(l:Inn):Prop where
 cf:CF r ks vs
 sub:∀w∈ws,w∈ks
 clo:∀k∈ks,k∉ws->k≠here->∀q,E8 r k q->q∈ks
 her:here∈ks
 don:∀e∈lk r here,0<e.2->e.1∈ks∨e∈l
 all:∀e∈l,e∈lk r here
end
section
variable{r:Rm}{ks ws:List Pt}{vs:List D}
theorem zf:Srch r [YA] [.none] [YA]:=⟨.bg,λ_ h=>h,λk h n=>absurd h n⟩
theorem Srch.pop{w:Pt}(h:Srch r ks vs (w::ws)):Srch1 r w ks vs ws (lk r w):=by refine⟨h.cf,λx v=>h.sub x (QE _ v),λk hk n u=>h.clo k hk λz=>?_,h.sub w QD,λe y _=>.inr y,λe y=>y⟩;rcases QJ.mp z with z|z;exact u z;exact n z
theorem Srch1.skip{y:Pt}{e:Pt×Int}{l:Inn}(h:Srch1 r y ks vs ws (e::l))(c:0<e.2->e.1∈ks):Srch1 r y ks vs ws l:=by
 refine⟨h.cf,h.sub,h.clo,h.her,λx u p=>?_,λx u=>h.all x (QE _ u)⟩;rcases h.don x u p with z|z;exact .inl z;rcases QJ.mp z with z|z
 ·rw[z]at p ⊢;exact .inl (c p)
 exact .inr z
theorem Srch1.add{u:Pt}{e:Pt×Int}{l:Inn}(h:Srch1 r u ks vs ws (e::l))(c:0<e.2)(n:e.1∉ks):Srch1 r u (ks++[e.1]) (vs++[pr u]) (ws++[e.1]) l:=by
 have f:=h.all e QD;refine⟨h.cf.add h.her ⟨e.2,f,c⟩ n,λx v=>?_,λk hk a b q w=>?_,Qt _ h.her,λx v p=>?_,λx v=>h.all x (QE _ v)⟩;rcases Qg.mp v with z|z
 ·exact Qt _ (h.sub x z)
 exact QW _ z;rcases Qg.mp hk with z|z
 ·exact Qt _ (h.clo k z (λy=>a (Qt _ y)) b q w)
 exact absurd (QW _ z) a;rcases h.don x v p with z|z
 ·exact .inl (Qt _ z)
 rcases QJ.mp z with z|z
 ·rw[z];exact .inl (QW _ QD)
 exact .inr z
theorem Srch1.fin{x:Pt}(h:Srch1 r x ks vs ws []):Srch r ks vs ws:=by refine⟨h.cf,h.sub,λk hk n q w=>?_⟩;by_cases e:k=x;subst e;obtain⟨v,m,p⟩:=w;rcases h.don (q,v) m p with z|z;exact z;exact(nomatch z);exact h.clo k hk n e q w
theorem Srch.done(h:Srch r ks vs [])(p:Pt):p∈ks↔Rch r p:=by
 refine⟨h.cf.rch p,λz=>?_⟩;induction z with|bg=>exact h.cf.hb|go _ w x=>exact h.clo _ x (λz=>(nomatch z)) _ w
end
def eC(Q:T->List T->Prop):PEnds:={ nx:=λh=>KY (xB [0] h) (Q (.d .none)),rt:=λt h=>KY (xB [0] h) (Q t) }
theorem zJ{Ψ:PEv}{b:PT}{p:PSp}{N x:List Str}{ds:List T}{Q:T->List T->Prop}(ρ:kA)(z:ds.length=x.length)(u:AB 0 p.md x.length=[0])(y:nA N p.md ds=ρ)(h:vA Ψ (λ_=>False) b (eC Q) ρ):ds.length=x.length/\vA Ψ (λ_=>False) b (MA p x.length Q) (nA N p.md ds):=by
 have e:MA p x.length Q=eC Q:=by unfold MA;rw[u];rfl
 rw[e,y];exact⟨z,h⟩
def EW(r:Rm)(h t:Pt)(v:Int):kA:=[some (.own (BA r)),some (.nv (.d (pr h))),some (.nv (.d (pr t))),some (.nv (.d (.int v)))]
section
variable{Ψ:PEv}{Z:PEnds}{q:PT}{r:Rm}{h t:Pt}{v:Int}
theorem Cm(x:r.length<sizeLine)(k:vA Ψ (λ_=>False) q Z (EW (sdf r h) h t v)):vA Ψ (λ_=>False) (.seq (.sdf 0 (.var 1)) q) Z (EW r h t v):=by delta EW at k ⊢;simp?[↓zA];refine⟨rfl,ET x ?_⟩;exact k
theorem Bm(x:r.length<sizeLine)(k:vA Ψ (λ_=>False) q Z (EW (sdf r t) h t v)):vA Ψ (λ_=>False) (.seq (.sdf 0 (.var 2)) q) Z (EW r h t v):=by delta EW at k ⊢;simp?[↓zA];refine⟨rfl,ET x ?_⟩;exact k
theorem Um{l:Inn}(e:look r h=some l)(x:l.length<sizeLine)(k:vA Ψ (λ_=>False) q Z (EW (put r h (put l t v)) h t v)):vA Ψ (λ_=>False) (.seq (.six (.idx (.var 0) (.var 1)) (.var 2) (.var 3)) q) Z (EW r h t v):=by delta EW at k ⊢;simp?[↓zA];refine FH e λf y=>NN x ?_;rw[y];exact k
theorem Xm{l:Inn}(e:look r t=some l)(x:l.length<sizeLine)(k:vA Ψ (λ_=>False) q Z (EW (put r t (put l h 0)) h t v)):vA Ψ (λ_=>False) (.seq (.six (.idx (.var 0) (.var 2)) (.var 1) (.int 0)) q) Z (EW r h t v):=by delta EW at k ⊢;simp?[↓zA];refine FH e λf y=>NN x ?_;rw[y];exact k
end
section
variable{r:Rm}{K:T->List T->Prop}{Ψ:PEv}
theorem VE{p:Pt}(h:Key r p):look r p=some (lk r p):=by obtain⟨l,e⟩:=h;unfold lk;rw[e];rfl
noncomputable def OC:PSp where
 md:=[.chg]
 run:=λx Q _=>∃(r:Rm) (w:Wy),x=[BA r,.d (pr w.1),.d (pr w.2.1),.d (.int w.2.2)]/\(w.1≠w.2.1/\Sz r 5000)/\Q (.d .none) [BA (JB r w)]
 mono:=λh _ z=>by obtain⟨r,w,e,l,q⟩:=z;exact⟨r,w,e,l,h _ _ q⟩
theorem YK(w:Wy){E:XE}(h:w.1≠w.2.1)(s:Sz r 5000)(q:K (.d .none) [BA (JB r w)]):jD OC [BA r,.d (pr w.1),.d (pr w.2.1),.d (.int w.2.2)] K E:=⟨r,w,rfl,⟨h,s⟩,q⟩
theorem M5(ds Q E)(h:OC.run ds Q E):ds.length=mH.length/\vA Ψ (λ_=>False) tN (MA OC mH.length Q) (nA XN OC.md ds):=by obtain⟨r,w,rfl,⟨u,x⟩,q⟩:=h;have a:sizeLine=16777216:=QS;refine zJ (EW r w.1 w.2.1 w.2.2) rfl rfl rfl ?_;have e:=x.1;have b:=SN (r:=r) (p:=w.1);have z:Key (sdf (sdf r w.1) w.2.1) w.1:=zE.mpr (.inr (zE.mpr (.inl rfl)));have y:Key (sdf (sdf r w.1) w.2.1) w.2.1:=zE.mpr (.inl rfl);have k:=x.2 w.1;have v:=x.2 w.2.1;refine Cm (by omega) (Bm (by omega) (Um (VE z) (by rw[mE,mE];omega) (Xm (VE (jI.mpr (.inr y))) (by rw[nE,if_neg u,mE,mE];omega) ?_)));exact q
def oD:PSp where
 md:=[.chg]
 run:=λx Q _=>∃(r:Rm) (n:Str),x=[BA r,.d (.str n)]/\Sz r 5000/\Q (.d .none) [BA (JB r (tO n,fR n,1))]
 mono:=λh _ z=>by obtain⟨r,w,e,l,q⟩:=z;exact⟨r,w,e,l,h _ _ q⟩
theorem ZK{n:Str}{E:XE}(s:Sz r 5000)(q:K (.d .none) [BA (JB r (tO n,fR n,1))]):jD oD [BA r,.d (.str n)] K E:=⟨r,n,rfl,s,q⟩
theorem N5(y:Ψ.sp "add_way"=OC)(ds Q E)(h:oD.run ds Q E):ds.length=MF.length/\vA Ψ (λ_=>False) VH (MA oD MF.length Q) (nA vM oD.md ds):=by obtain⟨r,n,rfl,x,q⟩:=h;have z:sizeLine=16777216:=QS;refine zJ [some (.own (BA r)),some (.nv (.d (.str n)))] rfl rfl rfl ?_;delta VH;simp?[↓HG (md:=[]) y rfl rfl];refine⟨by omega,by omega,?_⟩;exact YK (tO n,fR n,1) RA x ⟨_,rfl,q⟩
def vX(es:rB)(st:List Str)(g:Str)(r:Rm)(o4 o5 o6:Option Sl):kA:=[some (.nv (.d (.list (es.map pr)))),some (.nv (.d (.list (st.map PyData.str)))),some (.nv (.d (.str g))),some (.own (BA r)),o4,o5,o6]
end
section
variable{Ψ:PEv}{Z:PEnds}{es:rB}{st:List Str}{g:Str}{r:Rm}
theorem Rj(h:Ψ.va "BEGIN"=some (pr YA)){q:PT}{o3 o4 o5 o6:Option Sl}(k:vA Ψ (λ_=>False) q Z (vX es st g RG o4 o5 o6)) :
  vA Ψ (λ_=>False) (.seq (.own 3 (.dsp (.glo "BEGIN") (.dnew true))) q) Z [some (.nv (.d (.list (es.map pr)))),some (.nv (.d (.list (st.map PyData.str)))),some (.nv (.d (.str g))),o3,o4,o5,o6]:=by
 simp?[↓yH h];exact⟨BC YA,k⟩
theorem Pj(b:Ψ.sp "add_name"=oD)(a:Ψ.sp "add_way"=OC)(v:Ψ.va "BEGIN"=some (pr YA))(u:Ψ.va "WIDE"=some (.int 2)){n:Str}{o5 o6:Option Sl}(h:Sz r 4900)(k:Z.nx (vX es st g ((mP g n).foldl JB r) (some (.nv (.d (.str n)))) o5 o6)) :
  vA Ψ (λ_=>False) mF Z (vX es st g r (some (.nv (.d (.str n)))) o5 o6):=by
 have f:sizeLine=16777216:=QS;delta vX at k ⊢;delta mF;simp?[↓yH v,↓yH u,↓HG (md:=[]) b rfl rfl,↓HG (md:=[]) a rfl rfl];by_cases e:n=g;rw[dT e];unfold mP at k;rw[if_pos e]at k;exact k;rw[dF e];unfold mP at k;rw[if_neg e]at k;have z:Sz r 5000:=⟨QY h.1 (by omega),λp=>QY (h.2 p) (by omega)⟩
 have x:=DH (w:=(tO n,fR n,1)) RA h;have y:Sz (JB r (tO n,fR n,1)) 5000:=⟨QY x.1 (by omega),λp=>QY (x.2 p) (by omega)⟩
 refine ZK z ⟨_,rfl,?_⟩;refine⟨by omega,?_⟩;exact YK (YA,tO n,2) EB y ⟨_,rfl,k⟩
theorem Oj(j:Ψ.sp "add_name"=oD)(i:Ψ.sp "add_way"=OC)(f:Ψ.va "WIDE"=some (.int 2)){a b:Str}{o4:Option Sl}(y:Sz r 4900)(k:Z.nx (vX es st g ((BR g (a,b)).foldl JB r) o4 (some (.nv (.d (.str a)))) (some (.nv (.d (.str b)))))) :
  vA Ψ (λ_=>False) lF Z (vX es st g r o4 (some (.nv (.d (.str a)))) (some (.nv (.d (.str b))))):=by
 have l:sizeLine=16777216:=QS;delta vX at k ⊢;delta lF;simp?[↓yH f,↓HG (md:=[]) j rfl rfl,↓HG (md:=[]) i rfl rfl];unfold BR at k;by_cases e:a=g;rw[dT e];rw[if_pos (.inl e)]at k;exact k;rw[dF e];by_cases h:a=b;rw[dT h];rw[if_pos (.inr h)]at k;exact k;rw[dF h];rw[if_neg (λz=>z.elim e h)]at k;have v:Sz r 5000:=⟨QY y.1 (by omega),λp=>QY (y.2 p) (by omega)⟩
 have x:=DH (w:=(tO a,fR a,1)) RA y;have u:=DH (w:=(tO b,fR b,1)) RA x;refine ZK v ⟨_,rfl,?_⟩;refine ZK ⟨QY x.1 (by omega),λp=>QY (x.2 p) (by omega)⟩ ⟨_,rfl,?_⟩;refine⟨by omega,by omega,?_⟩;exact YK (fR a,tO b,2) RA.symm ⟨QY u.1 (by omega),λp=>QY (u.2 p) (by omega)⟩ ⟨_,rfl,k⟩
end
section
variable{E:XE}{Ψ:PEv}{r:Rm}{p q:Pt}{l:Inn}{n m:Bool}{R:T->Prop}{W:List T->Prop}{ρ:kA}{b:PX}{M:List (T×Bool)->kA->Prop}{md:List Md}{ks:List Pt}{vs:List D}
noncomputable def TC:PSp where
 md:=[]
 run:=λy Q _=>∃(x:rB) (st:List Str) (g:Str),y=[.d (.list (x.map pr)),.d (.list (st.map PyData.str)),.d (.str g)]/\(x.length<=126/\st.length<=11)/\Q (BA (jA x st g)) []
 mono:=λh _ z=>by obtain⟨x,st,g,e,l,q⟩:=z;exact⟨x,st,g,e,l,h _ _ q⟩
theorem BV{es:rB}{st:List Str}{g:Str}{K:T->List T->Prop}(x:es.length<=126)(h:st.length<=11)(q:K (BA (jA es st g)) []):jD TC [.d (.list (es.map pr)),.d (.list (st.map PyData.str)),.d (.str g)] K E:=⟨es,st,g,rfl,⟨x,h⟩,q⟩
theorem uW(X:Ψ.sp "add_name"=oD)(o:Ψ.sp "add_way"=OC)(j:Ψ.va "BEGIN"=some (pr YA))(i:Ψ.va "WIDE"=some (.int 2))(ds Q E)(h:TC.run ds Q E):ds.length=HF.length/\vA Ψ (λ_=>False) PL (MA TC HF.length Q) (nA zM TC.md ds):=by obtain⟨x,st,g,rfl,⟨Z,Y⟩,q⟩:=h;refine iA [some (.nv (.d (.list (x.map pr)))),some (.nv (.d (.list (st.map PyData.str)))),some (.nv (.d (.str g))),none,none,none,none] rfl rfl rfl ?_;refine Rj j ?_;delta vX;simp?[↓zA];rw[<- aA];refine lB (λ(s:Str)=>T.d (.str s)) (λl ρ=>∃r u,RmOk r (1+4 * (11 - l.length))/\l.length<=11/\(l.flatMap (mP g)).foldl JB r=(st.flatMap (mP g)).foldl JB RG/\ρ=vX x st g r u none none) ?_ ?_ _ _ ⟨RG,_,?_,Y,rfl,rfl⟩;rintro ρ ⟨r,u,ok,_,e,rfl⟩;have e:r=(st.flatMap (mP g)).foldl JB RG:=e;delta vX;simp?[↓zA];rw[<- aA];refine lB (λ(p:Str×Str)=>T.d (pr p)) (λl ρ=>∃r w v,Sz r (45+6 * (126 - l.length))/\l.length<=126/\(l.flatMap (BR g)).foldl JB r=jA x st g/\ρ=vX x st g r (aF u) w v) ?_ ?_ _ _ ⟨r,_,_,?_,Z,by rw[e];rfl,rfl⟩;rintro ρ ⟨r,w,v,_,_,e,rfl⟩;have e:r=jA x st g:=e;subst e;delta vX;simp?[↓zA];exact q;rintro⟨a,b⟩ l ρ N f ⟨r,w,v,s,k,e,rfl⟩;rw[QM]at s k;rw[QAn,QAo]at e;refine nC.mk rfl ?_;refine Oj (a:=a) (b:=b) X o i ⟨QY s.1 (by omega),λp=>QY (s.2 p) (by omega)⟩ (f _ ⟨_,_,_,?_,by omega,e,rfl⟩);have z:Sz ((BR g (a,b)).foldl JB r) (45+6 * (126 - (l.length+1))+2 * (BR g (a,b)).length):=JX cK s;have y:=iT (g:=g) (e:=(a,b));exact⟨QY z.1 (by omega),λp=>QY (z.2 p) (by omega)⟩;exact⟨QY ok.sz.1 (by rw[Qy];omega),λp=>QY (ok.sz.2 p) (by rw[Qy];omega)⟩;rintro s l ρ N f ⟨r,u,ok,k,e,rfl⟩;rw[QM]at ok k;rw[QAn,QAo]at e;refine Pj (n:=s) X o j i ⟨QY ok.sz.1 (by omega),λp=>QY (ok.sz.2 p) (by omega)⟩ (f _ ⟨_,_,?_,by omega,e,rfl⟩);have z:=ok.add (ws:=mP g s) bK;have y:=eT (g:=g) (n:=s);exact⟨z.pos,z.dom,z.bg,QY z.sz.1 (by omega),λp=>QY (z.sz.2 p) (by omega)⟩;exact⟨YE.pos,YE.dom,YE.bg,QY YE.sz.1 (by omega),λp=>QY (YE.sz.2 p) (by omega)⟩
def DS(l:Inn):D:=.dict (l.map λe=>(pr e.1,.int e.2))
def Ob(r:Rm):List (D×D):=r.map λe=>(pr e.1,DS e.2)
theorem JW(h:look r p=some l):xD (Ob r)=some true:=by
 cases r with|nil=>cases h|cons e r=>rfl
theorem pZ(l:Inn):(l.map λe=>(pr e.1,PyData.int e.2))=[]∨xD (l.map λe=>(pr e.1,PyData.int e.2))=some true:=by
 cases l with|nil=>exact .inl rfl|cons e r=>exact .inr rfl
theorem g9(h:Key r p)(k:R (.d (DS (lk r p)))):CC (.d (.dict (Ob r))) n (.d (pr p)) m R:=by
 have e:=VE h;obtain⟨i,u,y,_⟩:=FC (λl=>T.d (DS l)) e;have w:(Ob r).map (·.1)=uD r:=by unfold Ob uD;rw[Qb];rfl
 refine l9 (JW e) (BC p) (by rw[w];exact u) ?_ k;have v:(Ob r).map (·.2)=r.map λe=>DS e.2:=by unfold Ob;rw[Qb];rfl
 rw[v];rw[Qa]at y ⊢;cases z:r[i]? with|none=>rw[z]at y;cases y|some x=>rw[z]at y;injection y with y;injection y with y;show some (DS x.2)=_;rw[y]
theorem Be:pL .itm [(.d (DS l),n)] W=W (l.map λe=>.d (.tuple [pr e.1,.int e.2])):=by unfold DS;rw[Ue (pZ l),Qb];rfl
theorem XH{K:TK}:P7 (BA r) false Ψ b E ρ K=oB Ψ b E (lockA ρ) λy m _=>K y m ρ:=rfl
theorem mV{K:TK}:P7 (LD l) false Ψ b E ρ K=oB Ψ b E (lockA ρ) λy m _=>K y m ρ:=rfl
theorem dP:O3 (BA r) false Ψ b E md ρ M=PK Ψ b E md (lockA ρ) λxs _=>M xs ρ:=rfl
theorem T1:O3 (LD l) false Ψ b E md ρ M=PK Ψ b E md (lockA ρ) λxs _=>M xs ρ:=rfl
def D7(t:T)(r:Rm):Prop:=t=BA r∨t=.d (.dict (Ob r))
theorem se{b:Bool}{ks:List D}{ts:List T}{n m:Bool}{k:D}{l:Nat}{t:T}(z:UE b k)(y:lA ks k=some l)(x:ts[l]?=some t)(h:R t):CC (.dct b ks ts) false (.d k) m R:=.inr ⟨b,ks,ts,l,t,rfl,z,y,x,h⟩
theorem RE(h:Key r p)(k:R (LD (lk r p))):CC (BA r) false (.d (pr p)) m R:=by obtain⟨i,y,x,_⟩:=FC LD (VE h);exact se (n:=false) (BC p) y x k
theorem UN{v:Int}(h:look l p=some v)(k:R (.d (.int v))):CC (LD l) false (.d (pr p)) m R:=by obtain⟨i,y,x,_⟩:=FC (λv:Int=>T.d (.int v)) h;exact se (n:=false) (BC p) y x k
theorem YT(l:Inn):bE (l.map λe=>T.d (.int e.2))=some (l.map λe=>.int e.2):=by rw[show(l.map λe=>T.d (.int e.2))=(l.map λe=>PyData.int e.2).map T.d by rw[Qb];rfl,pA]
theorem i9:pL .itm [(LD l,false)] W=W (l.map λe=>.d (.tuple [pr e.1,.int e.2])):=by
 refine(FQ _ _).trans ?_;have e:((uD l).zip (l.map λe=>PyData.int e.2)).map (λp=>T.d (.tuple [p.1,p.2]))=l.map λe=>T.d (.tuple [pr e.1,.int e.2]):=by unfold uD;rw[QBl,Qb];rfl
 refine propext ⟨λ⟨x,h,k⟩=>?_,λk=>⟨_,YT l,by rw[e];exact k⟩⟩;rw[YT]at h;cases h;rw[e]at k;exact k
theorem u3{a:PX}:LG (.idx a b)=LG a:=rfl
theorem Kd:aR [(LD l,false)]=false:=rfl
def T2(ks:List Pt)(vs:List D):T:=.dct true (ks.map pr) (vs.map T.d)
theorem uY:pr q∈ks.map pr↔q∈ks:=by constructor;intro h;obtain⟨x,y,e⟩:=Qe.mp h;rw[<- yO e];exact y;exact QAR
theorem BO(ks:List Pt)(q:Pt):(lA (ks.map pr) (pr q)).isSome=decide (q∈ks):=by rw[qW,KL,uY,decide_eq_true_iff]
theorem U9{x:D}{Q:T->Prop}(n:q∉ks)(h:ks.length<sizeLine)(k:Q (T2 (ks++[q]) (vs++[x]))):ze (T2 ks vs) (.d (pr q)) (.d x) Q:=by refine⟨BC q,by rw[QG];exact h,?_⟩;show Q (cM true (ks.map pr) (vs.map T.d) (pr q) (.d x));unfold cM;rw[cC.mpr (λz=>n (uY.mp z))];unfold T2 at k;rw[QU,QU]at k;exact k
theorem Pc{L:Bool->Prop}:dC .NotIn (.d (pr q)) (T2 ks vs) L=L (!decide (q∈ks)):=by unfold T2;rw[J1,BO];exact propext ⟨λh=>h.2,λh=>⟨BC q,h⟩⟩
def FM(h:T)(ks:List Pt)(vs:List D)(ws:List Pt)(o3 o4 o5:Option Sl):kA:=[some (.nv h),some (.own (T2 ks vs)),some (.own (.lst ((ws.map pr).map T.d))),o3,o4,o5]
end
section
variable{Ψ:PEv}{Z:PEnds}{x:T}{r:Rm}{ks ws:List Pt}{vs:List D}
section
variable{w:Pt}{o3 o4 o5:Option Sl}
theorem Ij{p q:Pt}{v:Int}(b:ks.length<sizeLine)(a:ws.length<sizeLine)(u:(0<v->q∈ks)->Z.nx (FM x ks vs ws (some (.nv (.d (pr p)))) (some (.nv (.d (pr q)))) (some (.nv (.d (.int v))))))
  (k:0<v->q∉ks->Z.nx (FM x (ks++[q]) (vs++[pr p]) (ws++[q]) (some (.nv (.d (pr p)))) (some (.nv (.d (pr q)))) (some (.nv (.d (.int v)))))) :
  vA Ψ (λ_=>False) dB Z (FM x ks vs ws (some (.nv (.d (pr p)))) (some (.nv (.d (pr q)))) (some (.nv (.d (.int v))))):=by
 delta FM at u k ⊢;delta dB;simp?[↓Pc];by_cases h:0<v;rw[dT h];by_cases y:q∈ks;rw[dT y];exact u λ_=>y;rw[dF y];simp only[WR,↓reduceIte];refine U9 y b ?_;refine⟨by rw[QG,QG];exact a,?_⟩;have:=k h y;rw[QU,QU]at this;exact this;rw[dF h];exact u λz=>absurd z h
theorem da{q:PT}(k:vA Ψ (λ_=>False) q Z (FM x ks vs ws (some (.nv (.d (pr w)))) o4 o5)) :
  vA Ψ (λ_=>False) (.seq (.set 3 (.mt .pop (.var 2) (.nq (.int 0) .nr))) q) Z (FM x ks vs (w::ws) o3 o4 o5):=by
 delta FM at k ⊢;simp?[↓zA];refine⟨0,.d (pr w),?_,rfl,rfl,k⟩;unfold BQ;rw[if_pos (by decide),if_pos (by rw[QG,QG,QM];omega)];rfl
theorem ga(y:D7 x r)(hk:Key r w)
  (k:iH (vA Ψ (λ_=>False) dB) (.tp [4,5]) { Z with nx:=λh=>Z.nx (kill [4,5] h) } ((lk r w).map λe=>T.d (.tuple [pr e.1,.int e.2])) (FM x ks vs ws (some (.nv (.d (pr w)))) o4 o5)) :
  vA Ψ (λ_=>False) (.seq (.for_ (.tp [4,5]) .itm (.nq (.idx (.var 0) (.var 3)) .nr) dB) .nil) Z (FM x ks vs ws (some (.nv (.d (pr w)))) o4 o5):=by
 rcases y with rfl|rfl;delta FM at k ⊢;simp?[↓XH];refine RE hk ?_;simp?[↓T1,↓i9,Kd,u3];exact k;delta FM at k ⊢;simp?[↓zA];refine g9 hk ?_;simp?[↓Be];exact k
theorem Ej(m:D7 x r)(a:B2 r)(hb:Key r YA)(Y:r.length<=1000)(h:Srch r ks vs (w::ws))(W:2 * (r.length - ks.length)+ws.length+1<=3000)
  (hz:∀z u y o3 o4 o5,Srch r z u y->2 * (r.length - z.length)+y.length<=2 * (r.length - ks.length)+ws.length->Z.nx (FM x z u y o3 o4 o5)) :
  vA Ψ (λ_=>False) TD Z (FM x ks vs (w::ws) o3 o4 o5):=by
 have K:sizeLine=16777216:=QS;refine da ?_;have o:=h.pop;have hk:Key r w:=HH a hb (h.cf.rch w (h.sub w QD));refine ga m hk ?_;refine lB (λ(e:Pt×Int)=>T.d (.tuple [pr e.1,.int e.2])) (λl k=>∃z u y o4 o5,Srch1 r w z u y l/\2 * (r.length - z.length)+y.length<=2 * (r.length - ks.length)+ws.length/\k=FM x z u y (some (.nv (.d (pr w)))) o4 o5) ?_ ?_ _ _ ⟨ks,vs,ws,_,_,o,QV _,rfl⟩;rintro k ⟨z,u,y,g,f,s,l,rfl⟩;exact hz z u y _ (aF g) (aF f) s.fin l;rintro⟨q,v⟩ l k N i ⟨z,u,y,g,f,s,e,rfl⟩;refine nC.mk rfl ?_;have X:=s.cf.le a hb;refine Ij (p:=w) (q:=q) (v:=v) (by omega) (by omega) (λc=>i _ ⟨z,u,y,_,_,s.skip c,e,rfl⟩) λc n=>?_;have b:=s.add c n;have j:=b.cf.le a hb;rw[QL,Qm]at j;exact i _ ⟨_,_,_,_,_,b,by rw[QL,QL,Qm];omega,rfl⟩
theorem jk(h:Ψ.va "BEGIN"=some (pr YA)){q:PT}(k:vA Ψ (λ_=>False) q Z (FM x [YA] [.none] [YA] none none none)) :
  vA Ψ (λ_=>False) (.seq (.own 1 (.dsp (.glo "BEGIN") .non)) (.seq (.own 2 (.lst (.nq (.glo "BEGIN") .nr))) q)) Z [some (.nv x),none,none,none,none,none]:=by
 have y:sizeLine=16777216:=QS;simp?[↓yH h];exact⟨BC YA,by omega,k⟩
end
end
theorem BH{Ψ:PEv}{E:XE}{c:PX}{q:PT}{Z:PEnds}{ρ:kA}(W:Nat->kA->Prop)(m:Nat)(u:W m ρ)(z:∀m ρ,W m ρ->OK Ψ c E ρ λb x=>if b=true then vA Ψ E q { Z with nx:=λh=>∃y,y < m/\W y h,ct:=λh=>∃y,y < m/\W y h,bk:=Z.nx } x else Z.nx x):Je Ψ E c q Z ρ:=⟨W,⟨m,u⟩,z⟩
noncomputable def pC:PSp where
 md:=[.nv]
 run:=λv Q _=>∃(u:T) (r:Rm),v=[u]/\(D7 u r/\B2 r/\Key r YA/\r.length<=1000)/\∀x y,CF r x y->(∀p,p∈x↔Rch r p)->Q (T2 x y) []
 mono:=λh _ z=>by obtain⟨u,r,e,l,q⟩:=z;exact⟨u,r,e,l,λx y a b=>h _ _ (q x y a b)⟩
theorem BM{h:T}{r:Rm}{K:T->List T->Prop}{E:XE}(u:D7 h r)(z:B2 r)(y:Key r YA)(x:r.length<=1000)(q:∀ks vs,CF r ks vs->(∀p,p∈ks↔Rch r p)->K (T2 ks vs) []):jD pC [h] K E:=⟨h,r,rfl,⟨u,z,y,x⟩,q⟩
theorem HY{Ψ:PEv}(n:Ψ.va "BEGIN"=some (pr YA))(ds Q E)(h:pC.run ds Q E):ds.length=sC.length/\vA Ψ (λ_=>False) GE (MA pC sC.length Q) (nA ME pC.md ds):=by
 obtain⟨b,r,rfl,⟨o,l,hb,j⟩,q⟩:=h;refine iA [some (.nv b),none,none,none,none,none] rfl rfl rfl ?_;refine jk n ?_;delta FM;simp?[↓zA];refine BH (λm a=>m<=3000/\∃y z x o3 o4 o5,Srch r y z x/\m=2 * (r.length - y.length)+x.length/\a=FM b y z x o3 o4 o5) (2 * (r.length - 1)+1) ⟨by omega,[YA],[.none],[YA],none,none,none,zf,rfl,rfl⟩ ?_;rintro m a ⟨X,y,z,x,o3,o4,o5,s,e,rfl⟩;cases x with|nil=>delta FM;simp?[QG];rw[dF (by omega)];simp?[↓zA];exact q y z s.cf s.done|cons w x=>rw[QM]at e;have f:=λ(Z:PEnds) i=>Ej (Ψ:=Ψ) (Z:=Z) (o3:=o3) (o4:=o4) (o5:=o5) o l hb j s (by omega) i;unfold FM at f;delta FM;simp?[QG];rw[dT (by omega)];refine f _ λk v u o3 o4 o5 g p=>⟨_,by omega,by omega,k,v,u,o3,o4,o5,g,rfl,rfl⟩
theorem mG{α:Type}{x:α}{r:List α}:eE (x::r) 0=some x:=GG (j:=0) rfl
theorem pJ{α:Type}{x y:α}{r:List α}:eE (x::y::r) 1=some y:=GG (j:=1) rfl
def sm:List Pt->(Pt->Int)->Int
 |[],_=>0|x::l,f=>f x+sm l f
section
variable{f g:Pt->Int}
theorem vB:∀{l:List Pt},(∀x∈l,f x=g x)->sm l f=sm l g
 |[],_=>rfl|x::l,h=>by show f x+sm l f=g x+sm l g;rw[h x QD,vB λy z=>h y (QE _ z)]
theorem xH:∀(l:List Pt),sm l (λx=>f x+g x)=sm l f+sm l g
 |[]=>rfl|x::l=>by show f x+g x+sm l _=f x+sm l f+(g x+sm l g);rw[xH l];omega
theorem UI:∀(l:List Pt),sm l (λx=>- f x)=- sm l f
 |[]=>rfl|x::l=>by show - f x+sm l _=- (f x+sm l f);rw[UI l];omega
theorem eG:∀(l:List Pt),sm l (λ_=>0)=0
 |[]=>rfl|x::l=>by show 0+sm l _=0;rw[eG l];rfl
theorem KM:∀{l:List Pt},(∀x∈l,0<=f x)->0<=sm l f
 |[],_=>QCT _|x::l,h=>by have v:=h x QD;have u:=KM (l:=l) λy z=>h y (QE _ z);show 0<=f x+sm l f;omega
theorem vH:∀{l:List Pt},(∀x∈l,0<=f x)->∀{y:Pt},y∈l->f y<=sm l f
 |x::l,h,y,z=>by have w:=h x QD;have u:∀y∈l,0<=f y:=λy z=>h y (QE _ z);show f y<=f x+sm l f;rcases QJ.mp z with e|e;have v:=KM u;rw[e];omega;have v:=vH u e;omega
theorem BX:∀{l:List Pt},(∀x∈l,0<=f x)->∀{y z:Pt},y∈l->z∈l->y≠z->f y+f z<=sm l f
 |x::l,h,y,z,v,hz,ne=>by
  have a:=h x QD;have w:∀y∈l,0<=f y:=λy v=>h y (QE _ v);show f y+f z<=f x+sm l f;rcases QJ.mp v with e|e;rcases QJ.mp hz with u|u
  ·exact absurd (e.trans u.symm) ne
  have k:=vH w u;rw[e];omega;rcases QJ.mp hz with u|u
  ·have k:=vH w e
   rw[u];omega
  have k:=BX w e u ne;omega
theorem FX:∀{l:List Pt},0<sm l f->∃x∈l,0<f x
 |[],h=>absurd h (w9 0)|x::l,h=>by by_cases c:0<f x;exact⟨x,QD,c⟩;have h:0<f x+sm l f:=h;obtain⟨y,z,p⟩:=FX (l:=l) (by omega);exact⟨y,QE _ z,p⟩
theorem GT{k:Pt->Pt->Int}{m:List Pt}:∀(l:List Pt),sm l (λx=>sm m λy=>k x y)=sm m λy=>sm l λx=>k x y
 |[]=>(eG m).symm|x::l=>by show sm m (λy=>k x y)+sm l _=sm m λy=>k x y+sm l λx=>k x y;rw[GT l,xH]
theorem ON{u:Pt}{k:Int}:∀{l:List Pt},u∉l->sm l (λx=>if x=u then k else 0)=0
 |[],_=>rfl|x::l,h=>by show(if x=u then k else 0)+sm l _=0;rw[if_neg (λ(e:x=u)=>h (e▸QD)),ON λz=>h (QE _ z)];rfl
theorem BI{u:Pt}{k:Int}:∀{l:List Pt},l.Nodup->u∈l->sm l (λx=>if x=u then k else 0)=k
 |x::l,nd,h=>by obtain⟨v,y⟩:=Qk.mp nd;show(if x=u then k else 0)+sm l _=k;by_cases e:x=u;rw[if_pos e,ON (by rw[<- e];exact v)];omega;rw[if_neg e,BI y ((QJ.mp h).resolve_left λz=>e z.symm)];omega
theorem CP(p:Pt->Bool):∀(l:List Pt),sm l f=sm (l.filter p) f+sm (l.filter λx=>!p x) f
 |[]=>rfl|x::l=>by
  show f x+sm l f=_;rw[Wc,Wc,CP p l];cases p x with|true=>show _=(f x+sm (l.filter p) f)+sm (l.filter λx=>!p x) f;omega|false=>show _=sm (l.filter p) f+(f x+sm (l.filter λx=>!p x) f);omega
theorem R3{a:Pt->Pt->Int}(l:List Pt)(h:∀x∈l,∀y∈l,a x y=- a y x):sm l (λx=>sm l λy=>a x y)=0:=by
 have w:sm l (λx=>sm l λy=>a x y)=sm l λy=>sm l λx=>a x y:=GT l;have v:(sm l λy=>sm l λx=>a x y)=- sm l (λy=>sm l λx=>a y x):=by rw[<- UI];refine vB λy z=>?_;rw[<- UI];exact vB λx u=>h x u y z
 omega
end
section
variable{p q u v:Pt}{r:Rm}{w:Wy}{es:rB}{st:List Str}{g:Str}
def rm(r:Rm)(p q:Pt):Int:=(look (lk r p) q).getD 0
def UH(r:Rm)(p q:Pt):Prop:=∃v,look (lk r p) q=some v
def C7(r:Rm):Prop:=∀p,((lk r p).map (·.1)).Nodup
theorem UG{α:Type}{q:Pt}{v:α}:∀{l:List (Pt×α)},look l q=some v->(q,v)∈l
 |[],h=>by cases h|e::l,h=>by by_cases c:e.1=q;rw[show look (e::l) q=some e.2 from if_pos c]at h;injection h with h;rw[<- c,<- h];exact QD;rw[show look (e::l) q=look l q from if_neg c]at h;exact QE _ (UG h)
theorem KO{α:Type}{q:Pt}{v:α}:∀{l:List (Pt×α)},(l.map (·.1)).Nodup->(q,v)∈l->look l q=some v
 |e::l,nd,h=>by obtain⟨k,y⟩:=Qk.mp nd;rcases QJ.mp h with c|c;rw[<- c];exact if_pos rfl;have x:e.1≠q:=λz=>k (Qe.mpr ⟨(q,v),c,z.symm⟩);rw[show look (e::l) q=look l q from if_neg x];exact KO y c
theorem put_keys{α:Type}{p:Pt}{w:α}:∀{l:List (Pt×α)},(put l p w).map (·.1)=if p∈l.map (·.1) then l.map (·.1) else l.map (·.1)++[p]
 |[]=>rfl|e::l=>by by_cases c:e.1=p;rw[show put (e::l) p w=(e.1,w)::l from if_pos c,if_pos (by rw[<- c];exact QD)];rfl;rw[show put (e::l) p w=e::put l p w from if_neg c];rw[QO,QO,put_keys];by_cases h:p∈l.map (·.1);rw[if_pos h,if_pos (QE _ h)];rw[if_neg h,if_neg (λz=>(QJ.mp z).elim (λz=>c z.symm) h)];rfl
theorem JG{α:Type}{w:α}{l:List (Pt×α)}(h:(l.map (·.1)).Nodup):((put l p w).map (·.1)).Nodup:=by rw[put_keys];split;exact h;rename_i n;refine qJ.mpr ⟨h,Qk.mpr ⟨λz=>(nomatch z),Q0⟩,λa x b hb z=>?_⟩;rw[QI.mp hb]at z;exact n (z▸x)
theorem HR(nd:C7 r):E8 r p q↔0<rm r p q:=by
 unfold E8 rm;constructor;rintro⟨v,m,h⟩;rw[KO (nd p) m];exact h;intro h;cases e:look (lk r p) q with|none=>rw[e]at h;exact absurd h (w9 0)|some v=>rw[e]at h;exact⟨v,UG e,h⟩
def TV(r:Rm)(u v:Pt):Rm:=put (put r u (put (lk r u) v (rm r u v - 1))) v (put (lk (put r u (put (lk r u) v (rm r u v - 1))) v) u (rm (put r u (put (lk r u) v (rm r u v - 1))) v u+1))
theorem ZS(h:u≠v)(p:Pt):lk (TV r u v) p=if v=p then put (lk r v) u (rm r v u+1) else if u=p then put (lk r u) v (rm r u v - 1) else lk r p:=by
 have e:rm (put r u (put (lk r u) v (rm r u v - 1))) v u=rm r v u:=by unfold rm;rw[nE,if_neg h]
 unfold TV;rw[e,nE,nE,nE,if_neg h]
theorem yS(h:u≠v)(p q:Pt):rm (TV r u v) p q=rm r p q+(if p=v/\q=u then 1 else 0) - (if p=u/\q=v then 1 else 0):=by show(look (lk (TV r u v) p) q).getD 0=_;rw[ZS h];by_cases y:v=p;rw[if_pos y,HD,if_neg (c:=p=u/\q=v) (λz=>h (z.1.symm.trans y.symm))];by_cases x:u=q;rw[if_pos x,if_pos ⟨y.symm,x.symm⟩,<- y,<- x];show rm r v u+1=rm r v u+1 - 0;omega;rw[if_neg x,if_neg (λz=>x z.2.symm),y];show rm r p q=rm r p q+0 - 0;omega;rw[if_neg y,if_neg (c:=p=v/\q=u) (λz=>y z.1.symm)];by_cases x:u=p;rw[if_pos x,HD];by_cases k:v=q;rw[if_pos k,if_pos ⟨x.symm,k.symm⟩,<- x,<- k];show rm r u v - 1=rm r u v+0 - 1;omega;rw[if_neg k,if_neg (λz=>k z.2.symm),x];show rm r p q=rm r p q+0 - 0;omega;rw[if_neg x,if_neg (λz=>x z.1.symm)];show rm r p q=rm r p q+0 - 0;omega
theorem aB:UH r p q↔bX r p q:=by
 unfold UH bX;constructor;rintro⟨v,h⟩;exact⟨v,UG h⟩;rintro⟨v,h⟩;generalize lk r p=l at h;induction l with
 |nil=>exact(nomatch h)
 |cons e l x =>
  by_cases c:e.1=q;exact⟨e.2,if_pos c⟩;rcases QJ.mp h with z|z
  ·exact absurd (by rw[<- z]) c
  obtain⟨w,y⟩:=x z;exact⟨w,(show look (e::l) q=look l q from if_neg c).trans y⟩
theorem U7(h:u≠v)(a:UH r u v)(k:UH r v u):UH (TV r u v) p q↔UH r p q:=by unfold UH;rw[ZS h];by_cases y:v=p;rw[if_pos y,HD];by_cases x:u=q;rw[if_pos x,<- y,<- x];exact⟨λ_=>k,λ_=>⟨_,rfl⟩⟩;rw[if_neg x,y];rw[if_neg y];by_cases x:u=p;rw[if_pos x,HD];by_cases z:v=q;rw[if_pos z,<- x,<- z];exact⟨λ_=>a,λ_=>⟨_,rfl⟩⟩;rw[if_neg z,x];rw[if_neg x]
theorem v6(h:u≠v)(nd:C7 r):C7 (TV r u v):=by
 intro p;rw[ZS h];split;exact JG (nd v);split
 ·exact JG (nd u)
 exact nd p
theorem AN(h:¬ UH r p q):rm r p q=0:=by
 unfold rm;cases e:look (lk r p) q with|none=>rfl|some v=>exact absurd ⟨v,e⟩ h
def Hi(p q:Pt)(v:Int):Prop:=(∃n,p=tO n/\q=fR n/\v=1)∨(∃n,p=YA/\q=tO n/\v=2)∨(∃a b,a≠b/\p=fR a/\q=tO b/\v=2)∨(¬ uX p q/\v=0)
def Sd(P:Pt->Pt->Int->Prop)(r:Rm):Prop:=∀p,∀e∈lk r p,P p e.1 e.2
theorem HW{P:Pt->Pt->Int->Prop}(a:w.1≠w.2.1)(f:P w.1 w.2.1 w.2.2)(b:P w.2.1 w.1 0)(h:Sd P r):Sd P (JB r w):=by intro p e x;rw[EH a]at x;by_cases k:w.2.1=p;rw[if_pos k]at x;rcases MH x with z|z;rw[z,<- k];exact b;exact h p e z;rw[if_neg k]at x;by_cases y:w.1=p;rw[if_pos y]at x;rcases MH x with z|z;rw[z,<- y];exact f;exact h p e z;rw[if_neg y]at x;exact h p e x
theorem LP(h:(r.map (·.1)).Nodup):((sdf r p).map (·.1)).Nodup:=by
 unfold sdf;cases e:look r p with|some v=>exact h|none=>show(List.map (λe:Pt×Inn=>e.1) (r++[(p,[])])).Nodup;rw[QU];refine qJ.mpr ⟨h,Qk.mpr ⟨λz=>(nomatch z),Q0⟩,λa y b hb z=>?_⟩;have hb:b=p:=QI.mp hb;rw[z,hb]at y;obtain⟨x,k,f⟩:=Qe.mp y;have:=KO h (show(p,x.2)∈r by rw[<- f];exact k);rw[e]at this;cases this
theorem vZ(x:w.1≠w.2.1)(h:C7 r):C7 (JB r w):=by
 intro p;rw[EH x];split;exact JG (h p);split
 ·exact JG (h p)
 exact h p
theorem gB:Key r p↔p∈r.map (·.1):=by
 constructor;rintro⟨l,e⟩;exact eO e;intro h;induction r with
 |nil=>exact(nomatch h)
 |cons e r x =>
  by_cases c:e.1=p;exact⟨e.2,if_pos c⟩;rcases QJ.mp h with z|z
  ·exact absurd z.symm c
  obtain⟨l,y⟩:=x z;exact⟨l,(show look (e::r) p=look r p from if_neg c).trans y⟩
structure Tbl0(r:Rm):Prop where
 ndk:(r.map (·.1)).Nodup
 ndi:C7 r
 cap:Sd Hi r
 kind:∀p,Key r p->p=YA∨∃n,p=tO n∨p=fR n
 sym:∀p q,bX r p q->bX r q p/\Key r p
theorem XQ(h:uX p q):(p=YA∨∃n,p=tO n∨p=fR n)/\(q=YA∨∃n,q=tO n∨q=fR n):=by
 rcases h with⟨h,n,e⟩| ⟨n,h,e⟩| ⟨a,b,_,h,e⟩
 exact⟨.inl h,.inr ⟨n,.inl e⟩⟩;exact⟨.inr ⟨n,.inl h⟩,.inr ⟨n,.inr e⟩⟩;exact⟨.inr ⟨a,.inr h⟩,.inr ⟨b,.inl e⟩⟩
theorem U3(k:uX w.1 w.2.1)(f:Hi w.1 w.2.1 w.2.2)(t:Tbl0 r):Tbl0 (JB r w):=by
 have y:=IF k;refine⟨?_,vZ y t.ndi,HW y f (.inr (.inr (.inr ⟨bF k,rfl⟩))) t.cap,λp h=>?_,λp q h=>?_⟩;unfold JB;exact JG (JG (LP (LP t.ndk)));rcases yG.mp h with z|z|z
 ·rw[z];exact(XQ k).1
 rw[z];exact(XQ k).2;exact t.kind p z;rw[xI y,yG];rcases(xI y).mp h with z|⟨x,a⟩| ⟨x,a⟩
 obtain⟨e,b⟩:=t.sym p q z;exact⟨.inl e,.inr (.inr b)⟩;exact⟨.inr (.inr ⟨a,x⟩),.inl x⟩;exact⟨.inr (.inl ⟨a,x⟩),.inr (.inl x)⟩
theorem XT:∀{ws:List Wy}{r:Rm},(∀w∈ws,uX w.1 w.2.1/\Hi w.1 w.2.1 w.2.2)->Tbl0 r->Tbl0 (ws.foldl JB r)
 |[],_,_,t=>t|w::ws,r,h,t=>XT (ws:=ws) (λw x=>h w (QE _ x)) (U3 (h w QD).1 (h w QD).2 t)
theorem zK{p:Pt}:∀{ws:List Wy}{r:Rm},Key (ws.foldl JB r) p↔Key r p∨∃w∈ws,p=w.1∨p=w.2.1
 |[],r=>⟨.inl,λz=>z.elim id λ⟨_,m,_⟩=>(nomatch m)⟩
 |w::ws,r=>by
  rw[WH,zK (ws:=ws),yG];constructor;rintro((z|z|z)|⟨x,m,z⟩)
  ·exact .inr ⟨w,QD,.inl z⟩
  exact .inr ⟨w,QD,.inr z⟩;exact .inl z;exact .inr ⟨x,QE _ m,z⟩;rintro(z|⟨x,m,z⟩)
  ·exact .inl (.inr (.inr z))
  rcases QJ.mp m with rfl|m
  ·rcases z with z|z
   ·exact .inl (.inl z)
   exact .inl (.inr (.inl z))
  exact .inr ⟨x,m,z⟩
def zX(es:rB)(st:List Str)(g:Str):List Wy:=st.flatMap (mP g)++es.flatMap (BR g)
theorem iE:jA es st g=(zX es st g).foldl JB RG:=by unfold jA zX;rw[QAo]
theorem pE{v:Int}:(p,q,v)∈zX es st g↔(∃n∈st,n≠g/\((p,q,v)=(tO n,fR n,1)∨(p,q,v)=(YA,tO n,2)))∨(∃e∈es,(e.1≠g/\e.1≠e.2)/\((p,q,v)=(tO e.1,fR e.1,1)∨(p,q,v)=(tO e.2,fR e.2,1)∨(p,q,v)=(fR e.1,tO e.2,2))):=by
 unfold zX;rw[Qg,QAy,QAy];constructor;rintro(⟨n,m,h⟩| ⟨e,m,h⟩)
 ·exact .inl ⟨n,m,ig.mp h⟩
 exact .inr ⟨e,m,Jg.mp h⟩;rintro(⟨n,m,h⟩| ⟨e,m,h⟩)
 ·exact .inl ⟨n,m,ig.mpr h⟩
 exact .inr ⟨e,m,Jg.mpr h⟩
theorem vC:∀w∈zX es st g,uX w.1 w.2.1/\Hi w.1 w.2.1 w.2.2:=by
 rintro⟨p,q,v⟩ h;rcases pE.mp h with⟨n,_,_,e|e⟩| ⟨e,_,⟨_,x⟩,z|z|z⟩
 cases e;exact⟨.inr (.inl ⟨n,rfl,rfl⟩),.inl ⟨n,rfl,rfl,rfl⟩⟩;cases e;exact⟨.inl ⟨rfl,n,rfl⟩,.inr (.inl ⟨n,rfl,rfl,rfl⟩)⟩;cases z;exact⟨.inr (.inl ⟨_,rfl,rfl⟩),.inl ⟨_,rfl,rfl,rfl⟩⟩;cases z;exact⟨.inr (.inl ⟨_,rfl,rfl⟩),.inl ⟨_,rfl,rfl,rfl⟩⟩;cases z;exact⟨.inr (.inr ⟨_,_,x,rfl,rfl⟩),.inr (.inr (.inl ⟨_,_,x,rfl,rfl,rfl⟩))⟩
theorem AH(p:Pt):lk RG p=[]:=by show(if YA=p then some [] else none).getD []=[];split<;>rfl
theorem Ge:Tbl0 RG:=by refine⟨Qk.mpr ⟨λz=>(nomatch z),Q0⟩,λp=>?_,λp e x=>?_,λp h=>?_,λp q h=>?_⟩;rw[AH];exact Q0;rw[AH]at x;exact(nomatch x);exact .inl (QI.mp (gB.mp h));obtain⟨v,h⟩:=h;rw[AH]at h;exact(nomatch h)
end
section
variable{es:rB}{st:List Str}{g:Str}
section
variable{p q:Pt}{n:Str}
theorem aD:Tbl0 (jA es st g):=by rw[iE];exact XT vC Ge
theorem HZ:∀w∈zX es st g,tG w:=λw h=>by unfold zX at h;rcases Qg.mp h with z|z;exact CG (f:=mP g) (λ_=>bK) st w z;exact CG (f:=BR g) (λ_=>cK) es w z
theorem mC:bX (jA es st g) p q↔(∃v,(p,q,v)∈zX es st g)∨∃v,(q,p,v)∈zX es st g:=by
 rw[iE,EU HZ];constructor;rintro(⟨v,h⟩| h)
 ·rw[AH]at h;exact(nomatch h)
 exact h;exact .inr
theorem LM(h:Key (jA es st g) (tO n)):bX (jA es st g) (tO n) (fR n):=by
 rw[iE]at h;rcases zK.mp h with z|⟨⟨p,q,v⟩,m,z⟩
 exact absurd (QI.mp (gB.mp z)).symm EB;refine mC.mpr (.inl ⟨1,pE.mpr ?_⟩);have z:tO n=p∨tO n=q:=z;rcases pE.mp m with⟨k,mk,x,e|e⟩| ⟨e,u,x,y|y|y⟩
 cases e;rcases z with z|z;rw[LB z];exact .inl ⟨k,mk,x,.inl rfl⟩;exact absurd z RA;cases e;rcases z with z|z;exact absurd z.symm EB;rw[LB z];exact .inl ⟨k,mk,x,.inl rfl⟩;cases y;rcases z with z|z;rw[LB z];exact .inr ⟨e,u,x,.inl rfl⟩;exact absurd z RA;cases y;rcases z with z|z;rw[LB z];exact .inr ⟨e,u,x,.inr (.inl rfl)⟩;exact absurd z RA;cases y;rcases z with z|z;exact absurd z RA;rw[LB z];exact .inr ⟨e,u,x,.inr (.inl rfl)⟩
theorem TW:Hi p q (rm (jA es st g) p q)∨(¬ UH (jA es st g) p q/\rm (jA es st g) p q=0):=by by_cases h:UH (jA es st g) p q;obtain⟨v,e⟩:=h;have:=aD (es:=es) (st:=st) (g:=g) |>.cap p (q,v) (UG e);unfold rm;rw[e];exact .inl this;exact .inr ⟨h,AN h⟩
theorem um:0<=rm (jA es st g) p q:=by rcases TW (es:=es) (st:=st) (g:=g) (p:=p) (q:=q) with(⟨_,_,_,e⟩| ⟨_,_,_,e⟩| ⟨_,_,_,_,_,e⟩| ⟨_,e⟩)|⟨_,e⟩<;>rw[e]<;>decide
theorem gI(h:¬ uX p q):rm (jA es st g) p q=0:=by
 rcases TW (es:=es) (st:=st) (g:=g) (p:=p) (q:=q) with(⟨n,y,x,_⟩| ⟨n,y,x,_⟩| ⟨a,b,z,y,x,_⟩| ⟨_,e⟩)|⟨_,e⟩
 exact absurd (.inr (.inl ⟨n,y,x⟩)) h;exact absurd (.inl ⟨y,n,x⟩) h;exact absurd (.inr (.inr ⟨a,b,z,y,x⟩)) h;exact e;exact e
theorem Gc(h:q≠fR n):rm (jA es st g) (tO n) q=0:=gI λl=>by
 rcases l with⟨e,_⟩| ⟨m,y,x⟩| ⟨a,b,_,e,_⟩
 exact EB e.symm;exact h (by rw[x,LB y]);exact RA e
theorem Lg:rm (jA es st g) (tO n) (fR n)<=1:=by
 rcases TW (es:=es) (st:=st) (g:=g) (p:=tO n) (q:=fR n) with(⟨_,_,_,e⟩| ⟨m,h,_,_⟩| ⟨a,b,x,h,y,_⟩| ⟨_,e⟩)|⟨_,e⟩
 rw[e];decide;exact absurd h.symm EB;exact absurd h RA;rw[e];decide;rw[e];decide
theorem Hc(h:Key (jA es st g) (tO n)):rm (jA es st g) (tO n) (fR n)=1:=by
 have a:=aB.mpr (LM h);rcases TW (es:=es) (st:=st) (g:=g) (p:=tO n) (q:=fR n) with(⟨_,_,_,e⟩| ⟨m,x,_,_⟩| ⟨a,b,y,x,u,_⟩| ⟨l,e⟩)|⟨z,e⟩
 exact e;exact absurd x.symm EB;exact absurd x RA;exact absurd (.inr (.inl ⟨n,rfl,rfl⟩)) l;exact absurd a z
theorem gm(h:p≠tO n):rm (jA es st g) p (fR n)=0:=gI λl=>by
 rcases l with⟨_,m,e⟩| ⟨m,y,x⟩| ⟨a,b,_,_,e⟩
 exact RA e.symm;exact h (by rw[y,aH x]);exact RA e.symm
theorem om:rm (jA es st g) p YA=0:=gI λl=>by
 rcases l with⟨_,m,e⟩| ⟨m,x,h⟩| ⟨a,b,_,_,e⟩
 exact EB e;exact FE h;exact EB e
theorem Hg(h:p≠fR n):rm (jA es st g) p (tO n)=0∨rm (jA es st g) p (tO n)=2:=by
 rcases TW (es:=es) (st:=st) (g:=g) (p:=p) (q:=tO n) with(⟨_,_,e,_⟩| ⟨m,_,_,e⟩| ⟨a,b,_,_,_,e⟩| ⟨l,e⟩)|⟨_,e⟩
 exact absurd e RA;exact .inr e;exact .inr e;exact .inl e;exact .inl e
theorem Fc{v:Int}(h:(p,tO n,v)∈zX es st g):rm (jA es st g) p (tO n)=2:=by
 have a:UH (jA es st g) p (tO n):=aB.mpr (mC.mpr (.inl ⟨v,h⟩));have l:uX p (tO n):=(vC _ h).1;rcases TW (es:=es) (st:=st) (g:=g) (p:=p) (q:=tO n) with(⟨_,_,e,_⟩| ⟨m,_,_,e⟩| ⟨a,b,_,_,_,e⟩| ⟨x,e⟩)|⟨z,e⟩
 exact absurd e RA;exact e;exact e;exact absurd l x;exact absurd a z
end
end
section
variable{es:rB}{st:List Str}{g:Str}
def ZF(es:rB)(st:List Str)(g:Str):List Pt:=(jA es st g).map (·.1)
def fl(es:rB)(st:List Str)(g:Str)(r:Rm)(p q:Pt):Int:=rm (jA es st g) p q - rm r p q
def out(es:rB)(st:List Str)(g:Str)(r:Rm)(p:Pt):Int:=sm (ZF es st g) (fl es st g r p)
structure Base(es:rB)(st:List Str)(g:Str)(r:Rm):Prop where
 ndi:C7 r
 adj:∀p q,UH r p q↔UH (jA es st g) p q
 keys:r.map (·.1)=ZF es st g
 nn:∀p q,0<=rm r p q
 anti:∀p q,fl es st g r p q=- fl es st g r q p
structure Flow(es:rB)(st:List Str)(g:Str)(r:Rm):Prop extends Base es st g r where
 cons:∀x,x≠YA->x≠tO g->out es st g r x=0
theorem VF:(ZF es st g).Nodup:=aD.ndk
theorem V8:Flow es st g (jA es st g):=by
 have e:∀p q,fl es st g (jA es st g) p q=0:=λp q=>by unfold fl;omega
 refine⟨⟨aD.ndi,λp q=>Wn,rfl,λp q=>um,λp q=>by rw[e,e];rfl⟩,λx _ _=>?_⟩;unfold out;rw[vB (g:=λ_=>0) λq _=>e x q];exact eG _
theorem FB{p q:Pt}(h:UH (jA es st g) p q):UH (jA es st g) q p:=aB.mpr (aD.sym p q (aB.mp h)).1
theorem tB{p q:Pt}(h:UH (jA es st g) p q):p∈ZF es st g:=gB.mp (aD.sym p q (aB.mp h)).2
theorem cP{p q:Pt}(h:UH (jA es st g) p q):p≠q:=by
 rcases mC.mp (aB.mp h) with⟨v,m⟩| ⟨v,m⟩
 exact IF (vC _ m).1;exact(IF (vC _ m).1).symm
section
variable{r:Rm}
theorem Base.dom(b:Base es st g r):B2 r:=λp q h=>by have a:=(b.adj p q).mp (aB.mpr h);rw[gB,b.keys];exact tB (FB a)
theorem Base.bg(b:Base es st g r):Key r YA:=by rw[gB,b.keys];refine gB.mp ?_;show Key (jA es st g) YA;rw[iE];exact zK.mpr (.inl ⟨[],if_pos rfl⟩)
theorem Base.len(b:Base es st g r):r.length=(jA es st g).length:=by have:=congrArg qq b.keys;unfold ZF at this;rw[QG,QG]at this;exact this
theorem Base.adjw(b:Base es st g r){p q:Pt}(h:0<rm r p q):UH (jA es st g) p q:=(b.adj p q).mp (by
 unfold rm at h;cases e:look (lk r p) q with|none=>rw[e]at h;exact absurd h (w9 0)|some v=>exact⟨v,e⟩)
theorem sO{u:Pt}{l:Inn}(h:u∈r.map (·.1)):(put r u l).map (·.1)=r.map (·.1):=by rw[put_keys,if_pos h]
theorem Base.pushed(b:Base es st g r){u v:Pt}(h:0<rm r u v):Base es st g (TV r u v):=by
 have a:=b.adjw h;have y:=cP a;have e:=yS (r:=r) y;refine⟨v6 y b.ndi,λp q=>?_,?_,λp q=>?_,λp q=>?_⟩;rw[U7 y ((b.adj u v).mpr a) ((b.adj v u).mpr (FB a))];exact b.adj p q;have k:u∈r.map (·.1):=by rw[b.keys];exact tB a
 have kv:v∈r.map (·.1):=by rw[b.keys];exact tB (FB a)
 unfold TV;rw[sO (by rw[sO k];exact kv),sO k];exact b.keys;rw[e];have:=b.nn p q;by_cases c:p=u/\q=v;rw[if_pos c,c.1,c.2];split<;>omega;rw[if_neg c];split<;>omega;unfold fl;rw[e,e];have:=b.anti p q;unfold fl at this;by_cases x:p=v/\q=u;rw[if_pos x,if_pos (c:=q=u/\p=v) ⟨x.2,x.1⟩,if_neg (c:=p=u/\q=v) (λz=>y (z.1.symm.trans x.1)),if_neg (c:=q=v/\p=u) (λz=>y (z.2.symm.trans x.1))];omega;rw[if_neg x,if_neg (c:=q=u/\p=v) (λz=>x ⟨z.2,z.1⟩)];by_cases w:p=u/\q=v;rw[if_pos w,if_pos (c:=q=v/\p=u) ⟨w.2,w.1⟩];omega;rw[if_neg w,if_neg (c:=q=v/\p=u) (λz=>w ⟨z.2,z.1⟩)];omega
theorem nU(b:Base es st g r){u v:Pt}(h:0<rm r u v)(x:Pt):out es st g (TV r u v) x=out es st g r x+(if x=u then 1 else 0) - (if x=v then 1 else 0):=by
 have a:=b.adjw h;have f:=cP a;unfold out;have e:∀q,fl es st g (TV r u v) x q=fl es st g r x q+((if q=v then(if x=u then 1 else 0) else 0)+-(if q=u then(if x=v then 1 else 0) else 0)):=λq=>by unfold fl;rw[yS f];by_cases k:x=u;have w:x≠v:=λz=>f (k.symm.trans z);rw[if_neg (c:=x=v/\q=u) (λz=>w z.1),if_pos k,if_neg w];by_cases y:q=v;rw[if_pos (c:=x=u/\q=v) ⟨k,y⟩,if_pos y];split<;>omega;rw[if_neg (c:=x=u/\q=v) (λz=>y z.2),if_neg y];split<;>omega;rw[if_neg (c:=x=u/\q=v) (λz=>k z.1),if_neg k];by_cases w:x=v;rw[if_pos w];by_cases y:q=u;rw[if_pos (c:=x=v/\q=u) ⟨w,y⟩,if_pos y];split<;>omega;rw[if_neg (c:=x=v/\q=u) (λz=>y z.2),if_neg y];split<;>omega;rw[if_neg (c:=x=v/\q=u) (λz=>w z.1),if_neg w];split<;>split<;>omega
 rw[vB λq _=>e q,xH,xH,UI,BI VF (tB (FB a)),BI VF (tB a)];omega
end
section
variable{r y:Rm}{ks:List Pt}
theorem CF.find{vs:List D}(h:CF r ks vs){q:Pt}(m:q∈ks)(b:q≠YA):∃z u p k v,CF r z u/\p∈z/\E8 r p q/\q∉z/\ks=z++q::k/\vs=u++pr p::v:=by
 induction h with|bg=>exact absurd (QI.mp m) b|@add ks vs p x c i w n f=>by_cases e:q∈ks;obtain⟨z,u,a,k,v,Z,Y,X,s,o,l⟩:=f e;exact⟨z,u,a,k++[x],v++[pr p],Z,Y,X,s,by rw[o,qR];rfl,by rw[l,qR];rfl⟩;have j:q=x:=QI.mp ((Qg.mp m).resolve_left e);subst j;exact⟨ks,vs,p,[],[],c,i,w,n,rfl,rfl⟩
structure LC(es:rB)(st:List Str)(g:Str)(y r:Rm)(here:Pt)(ks:List Pt):Prop extends Base es st g r where
 cons:∀x,x≠YA->x≠tO g->out es st g r x=if x=here then 1 else 0
 val:out es st g r YA=out es st g y YA+if here=YA then 1 else 0
 fresh:∀p,∀q∈ks,rm y p q<=rm r p q
theorem lZ(f:Flow es st g y)(ks:List Pt):LC es st g y y (tO g) ks:=by refine⟨f.toBase,λx u h=>?_,?_,λp q _=>QCT _⟩;rw[if_neg h];exact f.cons x u h;rw[if_neg (λz=>EB z.symm)];omega
theorem J6{h p:Pt}{u:List Pt}(nd:C7 y)(l:LC es st g y r h ks)(i:h∈ks)(hb:h≠YA)(w:E8 y p h)(f:h∉u)(e:∀q∈u,q∈ks):0<rm r p h/\LC es st g y (TV r p h) p u:=by have v:0<rm r p h:=Int.lt_of_lt_of_le ((HR nd).mp w) (l.fresh p h i);have b:=cP (l.adjw v);refine⟨v,l.toBase.pushed v,λx a j=>?_,?_,λx q k=>?_⟩;rw[nU l.toBase v,l.cons x a j];split<;>split<;>omega;rw[nU l.toBase v,l.val,if_neg hb,if_neg (c:=YA=h) (λz=>hb z.symm)];by_cases c:p=YA;rw[if_pos c,if_pos c.symm];omega;rw[if_neg c,if_neg (λz=>c z.symm)];omega;have a:=l.fresh x q (e q k);rw[yS b,if_neg (c:=x=p/\q=h) (λz=>f (z.2▸k))];split<;>omega
theorem Lb(l:LC es st g y r YA ks):Flow es st g r/\out es st g r YA=out es st g y YA+1:=by refine⟨⟨l.toBase,λx h z=>?_⟩,?_⟩;rw[l.cons x h z,if_neg h];rw[l.val,if_pos rfl]
end
end
section
variable{es:rB}{st:List Str}{g:Str}{r:Rm}
section
variable{p q y:Pt}{n a:Str}{ks:List Pt}
theorem kK(b:Base es st g r)(h:rm (jA es st g) q p=0):fl es st g r p q=rm r q p:=by have:=b.anti p q;unfold fl at this ⊢;omega
def DR(r:Rm)(n:Str):Int:=rm r (fR n) (tO n)
theorem TR(b:Base es st g r)(n:Str):fl es st g r (tO n) (fR n)=DR r n:=kK b (gI λl=>bF (.inr (.inl ⟨n,rfl,rfl⟩)) l)
theorem sK(b:Base es st g r)(n:Str):DR r n<=1:=by rw[<- TR b];have x:=Lg (es:=es) (st:=st) (g:=g) (n:=n);have h:=b.nn (tO n) (fR n);unfold fl;omega
theorem EX(b:Base es st g r)(h:p∉ZF es st g∨q∉ZF es st g):rm r p q=0:=by refine AN λa=>?_;have a:=(b.adj p q).mp a;rcases h with h|h;exact h (tB a);exact h (tB (FB a))
theorem R7(l:List Pt)(nd:l.Nodup)(u:Pt)(k:Int)(h:u∉l->k=0):sm l (λx=>if x=u then k else 0)=k:=by by_cases m:u∈l;exact BI nd m;rw[ON m,h m]
def inn(r:Rm)(n:Str)(y:Pt):Int:=if y=fR n then 0 else rm r (tO n) y
theorem ZO(f:Flow es st g r)(h:n≠g):sm (ZF es st g) (inn r n)=DR r n:=by
 have c:=f.cons (tO n) (λz=>EB z.symm) (λz=>h (LB z));unfold out at c;have e:∀y,fl es st g r (tO n) y=(if y=fR n then DR r n else 0)+- inn r n y:=λy=>by unfold inn;by_cases e:y=fR n;rw[if_pos e,if_pos e,e,TR f.toBase];omega;rw[if_neg e,if_neg e];unfold fl;rw[Gc e];omega
 rw[vB λy _=>e y,xH,UI,R7 _ VF (fR n) (DR r n) (λz=>EX f.toBase (.inl z))]at c;omega
theorem YO(b:Base es st g r)(n:Str)(y:Pt):0<=inn r n y:=by unfold inn;split;decide;exact b.nn _ _
def m5(r:Rm)(n:Str)(y:Pt):Int:=if y=tO n then 0 else rm r y (fR n)
theorem mU(f:Flow es st g r)(n:Str):sm (ZF es st g) (m5 r n)=DR r n:=by
 have c:=f.cons (fR n) (λz=>FE z.symm) (λz=>RA z.symm);unfold out at c;have e:∀y,fl es st g r (fR n) y=- (if y=tO n then DR r n else 0)+m5 r n y:=λy=>by unfold m5;by_cases e:y=tO n;rw[if_pos e,if_pos e,e];have:=f.anti (fR n) (tO n);rw[TR f.toBase]at this;omega;rw[if_neg e,if_neg e,kK f.toBase (gm e)];omega
 rw[vB λy _=>e y,xH,UI,R7 _ VF (tO n) (DR r n) (λz=>EX f.toBase (.inr z))]at c;omega
theorem Ha(b:Base es st g r)(n:Str)(y:Pt):0<=m5 r n y:=by unfold m5;split;decide;exact b.nn _ _
def KR(r:Rm)(n:Str):Prop:=0<rm r (tO n) YA
def O1(r:Rm)(a b:Str):Prop:=a≠b/\0<rm r (tO b) (fR a)
theorem SI(b:Base es st g r)(h:KR r n):n∈st/\n≠g:=by
 rcases mC.mp (aB.mp (b.adjw h)) with⟨v,m⟩| ⟨v,m⟩
 exact absurd (vC _ m).1 λl=>by
  rcases l with⟨e,_⟩| ⟨_,_,e⟩| ⟨_,_,_,e,_⟩
  exact EB e.symm;exact FE e;exact RA e
 rcases pE.mp m with⟨k,mk,x,e|e⟩| ⟨e,_,_,y|y|y⟩
 ·exact absurd (congrArg qw e) EB
 have:=congrArg (λw:Wy=>w.2.1) e;rw[LB this];exact⟨mk,x⟩;exact absurd (congrArg qw y) EB;exact absurd (congrArg qw y) EB;exact absurd (congrArg qw y) FE
theorem bb(b:Base es st g r){c:Str}(h:O1 r a c):(a,c)∈es/\a≠g:=by
 rcases mC.mp (aB.mp (b.adjw h.2)) with⟨v,m⟩| ⟨v,m⟩
 exact absurd (vC _ m).1 λl=>by
  rcases l with⟨e,_⟩| ⟨k,z,x⟩| ⟨_,_,_,e,_⟩
  exact EB e.symm;exact h.1 ((aH x).trans (LB z).symm);exact RA e
 rcases pE.mp m with⟨k,mk,u,e|e⟩| ⟨e,f,u,y|y|y⟩
 ·exact absurd (congrArg qw e).symm RA
 exact absurd (congrArg qw e).symm FE;exact absurd (congrArg qw y).symm RA;exact absurd (congrArg qw y).symm RA;have z:a=e.1:=aH (congrArg qw y);have x:c=e.2:=LB (congrArg (λw:Wy=>w.2.1) y);rw[z,x];exact⟨f,u.1⟩
theorem GS:inn r n YA=rm r (tO n) YA:=by unfold inn;exact if_neg FE
theorem fO(h:a≠n):inn r n (fR a)=rm r (tO n) (fR a):=by unfold inn;exact if_neg λz=>h (aH z)
theorem S5(h:a≠n):m5 r a (tO n)=rm r (tO n) (fR a):=by unfold m5;exact if_neg λz=>h (LB z).symm
theorem PH(b:Base es st g r)(h:0<rm r p q):p∈ZF es st g/\q∈ZF es st g:=⟨tB (b.adjw h),tB (FB (b.adjw h))⟩
theorem PU(f:Flow es st g r)(n:Str)(h:n≠g):rm r (tO n) YA<=1:=by by_cases c:0<rm r (tO n) YA;have z:=vH (λx _=>YO f.toBase n x) (PH f.toBase c).2;rw[ZO f h,GS]at z;exact QBG z (sK f.toBase n);omega
theorem R6(f:Flow es st g r)(h:KR r n):DR r n=1:=by have ng:=(SI f.toBase h).2;have z:=vH (λx _=>YO f.toBase n x) (PH f.toBase h).2;rw[ZO f ng,GS]at z;have:=sK f.toBase n;unfold KR at h;omega
theorem R5(f:Flow es st g r)(h:O1 r a n)(ng:n≠g):DR r n=1:=by have z:=vH (λx _=>YO f.toBase n x) (PH f.toBase h.2).2;rw[ZO f ng,fO h.1]at z;have:=sK f.toBase n;have:=h.2;omega
theorem oX(f:Flow es st g r)(ng:n≠g){x:Pt}(u:0<inn r n x)(h:0<inn r n y):x=y:=by
 have w:x∈ZF es st g:=by unfold inn at u;split at u;exact absurd u (w9 0);exact(PH f.toBase u).2
 have v:y∈ZF es st g:=by unfold inn at h;split at h;exact absurd h (w9 0);exact(PH f.toBase h).2
 by_cases e:x=y;exact e;have k:=BX (λz _=>YO f.toBase n z) w v e;rw[ZO f ng]at k;have:=sK f.toBase n;omega
theorem tU(f:Flow es st g r){b:Str}(ng:n≠g)(x:O1 r a n)(h:O1 r b n):a=b :=
 aH (oX f ng (by rw[fO x.1];exact x.2) (by rw[fO h.1];exact h.2))
theorem UO(f:Flow es st g r)(x:KR r n)(h:O1 r a n):False :=
 FE (oX f (SI f.toBase x).2 (by rw[GS];exact x) (by rw[fO h.1];exact h.2))
theorem SY(f:Flow es st g r)(h:DR r n=1):∃y,y≠tO n/\0<rm r y (fR n):=by obtain⟨y,_,x⟩:=FX (f:=m5 r n) (l:=ZF es st g) (by rw[mU f,h];decide);unfold m5 at x;split at x;exact absurd x (w9 0);rename_i ne;exact⟨y,ne,x⟩
theorem e8(b:Base es st g r)(h:UH r y (fR n)):∃m,y=tO m:=by
 rcases mC.mp (aB.mp ((b.adj _ _).mp h)) with⟨v,m⟩| ⟨v,m⟩
 rcases(vC _ m).1 with⟨_,k,e⟩| ⟨k,e,_⟩| ⟨_,k,_,_,e⟩
 ·exact absurd e.symm RA
 exact⟨k,e⟩;exact absurd e.symm RA;rcases(vC _ m).1 with⟨e,_⟩| ⟨k,e,_⟩| ⟨_,k,_,_,e⟩
 ·exact absurd e.symm FE
 exact absurd e.symm RA;exact⟨k,e⟩
theorem xZ(b:Base es st g r)(h:UH r y YA):∃m,y=tO m:=by
 rcases mC.mp (aB.mp ((b.adj _ _).mp h)) with⟨v,m⟩| ⟨v,m⟩
 rcases(vC _ m).1 with⟨_,k,e⟩| ⟨k,_,e⟩| ⟨_,k,_,_,e⟩
 ·exact absurd e EB
 exact absurd e FE;exact absurd e EB;rcases(vC _ m).1 with⟨_,k,e⟩| ⟨k,e,_⟩| ⟨_,k,_,e,_⟩
 ·exact⟨k,e⟩
 exact absurd e EB;exact absurd e FE
theorem ub(f:Flow es st g r)(h:DR r n=1):∃m,O1 r n m:=by obtain⟨y,z,x⟩:=SY f h;obtain⟨m,rfl⟩:=e8 f.toBase ((f.adj _ _).mpr (f.toBase.adjw x));exact⟨m,λe=>z (by rw[e]),x⟩
theorem iM(f:Flow es st g r){v:Int}(m:(p,tO n,v)∈zX es st g):0<rm r p (tO n):=by
 have c:=Fc m;have l:=(vC _ m).1;have h:fl es st g r p (tO n)=rm r (tO n) p:=kK f.toBase (gI (bF l));unfold fl at h;rw[c]at h;have o:rm r (tO n) p<=1:=by
  rcases pE.mp m with⟨k,mk,z,e|e⟩| ⟨e,s,z,y|y|y⟩
  exact absurd (congrArg (λw:Wy=>w.2.1) e) RA;have b:p=YA:=congrArg qw e;have u:n=k:=LB (congrArg (λw:Wy=>w.2.1) e);rw[b];exact PU f n (by rw[u];exact z);exact absurd (congrArg (λw:Wy=>w.2.1) y) RA;exact absurd (congrArg (λw:Wy=>w.2.1) y) RA;have b:p=fR e.1:=congrArg qw y;have u:n=e.2:=LB (congrArg (λw:Wy=>w.2.1) y);rw[b];by_cases c:0<rm r (tO n) (fR e.1);have j:e.1≠n:=by rw[u];exact z.2
  have i:=vH (λx _=>Ha f.toBase e.1 x) (PH f.toBase c).1;rw[mU f,S5 j]at i;exact QBG i (sK f.toBase _);omega
 omega
theorem MP{l m:List Pt}(v:l.Nodup)(u:m.Nodup)(h:∀x,x∈l↔x∈m):l.length=m.length:=by have a:=XG v λx z=>(h x).mp z;have b:=XG u λx z=>(h x).mpr z;omega
def uG(ks:List Pt)(x:Pt):Bool:=decide (x.2="to")&&!decide (fR x.1∈ks)
theorem vE{x:Pt}:uG ks x=true↔∃n,x=tO n/\fR n∉ks:=by unfold uG;rw[Qf,Q8,decide_eq_true_iff,decide_eq_false_iff_not];constructor;rintro⟨u,z⟩;exact⟨x.1,QCZ rfl u,z⟩;rintro⟨n,rfl,h⟩;exact⟨rfl,h⟩
theorem PN(p:Pt->Bool):∀(l:List Pt),sm l (λx=>if p x=true then 1 else 0)=(l.filter p).length
 |[]=>rfl|x::l=>by show(if p x=true then 1 else 0)+sm l _=_;rw[PN p l,Wc];by_cases c:p x=true;rw[if_pos c,if_pos c,QM];omega;rw[if_neg c,if_neg c];omega
theorem IQ(f:Flow es st g r)(nd:ks.Nodup)(hk:∀p,p∈ks↔Rch r p)(M:tO g∉ks):out es st g r YA=(ks.filter (uG ks)).length:=by
 have sub:∀p∈ks,p∈ZF es st g:=λp L=>by have:=gB.mp (HH f.toBase.dom f.toBase.bg ((hk p).mp L));rw[f.keys]at this;exact this
 have o:∀x∈ks,∀y,y∉ks->rm r x y=0:=λx w y u=>by have:=f.nn x y;by_cases c:0<rm r x y;exact absurd ((hk y).mpr (.go ((hk x).mp w) ((HR f.ndi).mpr c))) u;omega
 have I:sm ((ZF es st g).filter λx=>decide (x∈ks)) (λx=>out es st g r x)=out es st g r YA:=by
  have hb:YA∈ks:=(hk YA).mpr .bg;have e:∀x∈(ZF es st g).filter (λx=>decide (x∈ks)),out es st g r x=if x=YA then out es st g r YA else 0:=λx w=>by by_cases c:x=YA;rw[if_pos c,c];rw[if_neg c];exact f.cons x c λz=>M (z▸of_decide_eq_true (Qj.mp w).2)
  rw[vB e];exact BI (VF.sublist qG) (Qj.mpr ⟨sub _ hb,dT hb⟩)
 have G:∀x∈(ZF es st g).filter (λx=>decide (x∈ks)),sm ((ZF es st g).filter λy=>!decide (y∈ks)) (fl es st g r x)=if uG ks x=true then 1 else 0:=λx w=>by
  have W:x∈ks:=of_decide_eq_true (Qj.mp w).2;have Z:=(Qj.mp w).1;have k:∀y∈(ZF es st g).filter (λy=>!decide (y∈ks)),y∉ks/\fl es st g r x y=rm (jA es st g) x y:=λy u=>by have:=(Qj.mp u).2;rw[Q8,decide_eq_false_iff_not]at this;refine⟨this,?_⟩;unfold fl;rw[o x W y this];omega
  have B:∀y∈(ZF es st g).filter (λy=>!decide (y∈ks)),∀n,y=tO n->fl es st g r x y=0:=λy u n e=>by
   obtain⟨C,O⟩:=k y u;rw[O,e];by_cases A:x=fR n;rw[A];exact gI λl=>bF (.inr (.inl ⟨n,rfl,rfl⟩)) l;rcases Hg (es:=es) (st:=st) (g:=g) A with z|z
   ·exact z
   have a:UH (jA es st g) x (tO n):=by refine wF λJ=>?_;rw[AN J]at z;exact absurd z (by decide)
   rcases mC.mp (aB.mp a) with⟨v,m⟩| ⟨v,m⟩
   have:=iM f m;rw[o x W (tO n) (e▸C)]at this;exact absurd this (w9 0);rw[gI (bF (vC _ m).1)]
  rcases aD.kind x (gB.mpr Z) with e|⟨n,e|e⟩
  have i:¬ uG ks x=true:=λz=>by obtain⟨n,j,_⟩:=vE.mp z;exact EB (e.symm.trans j)
  rw[if_neg i];rw[vB (g:=λ_=>0),eG];intro y u;by_cases t:∃n,y=tO n;obtain⟨n,t⟩:=t;exact B y u n t;rw[(k y u).2,e];exact gI λl=>by
   rcases l with⟨_,z⟩| ⟨n,z,_⟩| ⟨_,b,_,_,z⟩
   exact t z;exact EB z;exact t ⟨b,z⟩
  by_cases X:fR n∈ks
  ·have i:¬ uG ks x=true:=λz=>by
    obtain⟨m,j,h⟩:=vE.mp z;rw[<- LB (e.symm.trans j)]at h;exact h X
   rw[if_neg i,vB (g:=λ_=>0),eG];intro y u;rw[(k y u).2,e];exact Gc λz=>(k y u).1 (z▸X)
  rw[if_pos (vE.mpr ⟨n,e,X⟩)];have K:Key (jA es st g) (tO n):=by rw[<- e];exact gB.mpr Z
  have N:fR n∈ZF es st g:=tB (FB (aB.mpr (LM K)));rw[vB (g:=λy=>if y=fR n then 1 else 0)];exact BI (VF.sublist qG) (Qj.mpr ⟨N,by rw[dF X];rfl⟩);intro y u;rw[(k y u).2,e];by_cases c:y=fR n;rw[if_pos c,c,Hc K];rw[if_neg c,Gc c];have i:¬ uG ks x=true:=λz=>by obtain⟨m,j,_⟩:=vE.mp z;exact RA (j.symm.trans e)
  rw[if_neg i,vB (g:=λ_=>0),eG];intro y u;by_cases t:∃n,y=tO n;obtain⟨n,t⟩:=t;exact B y u n t;rw[(k y u).2,e];exact gI λl=>by
   rcases l with⟨z,_⟩| ⟨n,z,_⟩| ⟨_,b,_,_,z⟩
   exact FE z.symm;exact RA z.symm;exact t ⟨b,z⟩
 have F:∀x,out es st g r x=sm ((ZF es st g).filter λy=>decide (y∈ks)) (fl es st g r x)+sm ((ZF es st g).filter λy=>!decide (y∈ks)) (fl es st g r x):=λx=>CP _ _;have E:sm ((ZF es st g).filter λx=>decide (x∈ks)) (λx=>out es st g r x)=sm ((ZF es st g).filter λx=>decide (x∈ks)) (λx=>if uG ks x=true then 1 else 0):=by rw[vB λx _=>F x,xH,R3 _ λx _ y _=>f.anti x y,vB G];omega
 rw[<- I,E,PN];have:(((ZF es st g).filter λx=>decide (x∈ks)).filter (uG ks)).length=(ks.filter (uG ks)).length:=by refine MP ((VF.sublist qG).sublist qG) (nd.sublist qG) λx=>?_;rw[Qj,Qj,Qj,decide_eq_true_iff];exact⟨λ⟨⟨_,s⟩,Y⟩=>⟨s,Y⟩,λ⟨s,Y⟩=>⟨⟨sub x s,s⟩,Y⟩⟩
 rw[this]
theorem S6(f:Flow es st g r):out es st g r YA=(((lk r YA).map (·.1)).filter λy=>decide (0<rm r y YA)).length:=by
 have e:∀y∈ZF es st g,fl es st g r YA y=if decide (0<rm r y YA)=true then 1 else 0:=λy z=>by rw[kK f.toBase om];have u:=f.nn y YA;by_cases c:0<rm r y YA;rw[dT c,if_pos rfl];obtain⟨n,e⟩:=xZ f.toBase ((f.adj _ _).mpr (f.toBase.adjw c));rw[e]at c ⊢;have:=PU f n (SI f.toBase c).2;omega;rw[dF c,if_neg (by decide)];omega
 unfold out;rw[vB e,PN];have:((ZF es st g).filter λy=>decide (0<rm r y YA)).length=(((lk r YA).map (·.1)).filter λy=>decide (0<rm r y YA)).length:=by refine MP (VF.sublist qG) ((f.ndi YA).sublist qG) λy=>?_;rw[Qj,Qj,decide_eq_true_iff];refine⟨λ⟨_,h⟩=>⟨?_,h⟩,λ⟨_,h⟩=>⟨(PH f.toBase h).1,h⟩⟩;obtain⟨v,x⟩:=(f.adj YA y).mpr (FB (f.toBase.adjw h));exact Qe.mpr ⟨(y,v),UG x,rfl⟩
 rw[this]
theorem c7(f:Flow es st g r)(hk:∀p,p∈ks↔Rch r p)(Y:tO g∉ks){cut:List Str}(o:∀n,tO n∈ks->fR n∉ks->n∈cut):¬ ∃a,(a,g)∈es/\Led es st g cut a:=by
 have w:∀p∈ks,∀n v,(p,tO n,v)∈zX es st g->tO n∈ks:=λp X n v m=>(hk _).mpr (.go ((hk _).mp X) ((HR f.ndi).mpr (iM f m)));have x:∀n,Led es st g cut n->fR n∈ks:=λn h=>by
  induction h with|@st s h k=>obtain⟨i,u⟩:=bD.mp k;have t:=w YA ((hk _).mpr .bg) s 2 (pE.mpr (.inl ⟨s,h,i,.inr rfl⟩));exact wF λz=>u (o s t z)|@ed a b l m k j=>obtain⟨i,u⟩:=bD.mp k;by_cases e:a=b;rw[<- e];exact j;have t:=w (fR a) j b 2 (pE.mpr (.inr ⟨(a,b),m,⟨(fL l).1,e⟩,.inr (.inr rfl)⟩));exact wF λz=>u (o b t z)
 rintro⟨a,m,l⟩;exact Y (w (fR a) (x a l) g 2 (pE.mpr (.inr ⟨(a,g),m,⟨(fL l).1,(fL l).1⟩,.inr (.inr rfl)⟩)))
end
end
inductive Run(r:Rm)(g f:Str):List Str->Str->Prop
 |nil:Run r g f [] f
 |go {c:List Str}{n m:Str}:Run r g f c n->n≠g->O1 r n m->Run r g f (c++[n]) m
inductive Chn(es:rB)(st:List Str)(g:Str):List Str->Str->Prop
 |st {f:Str}:f∈st->f≠g->Chn es st g [] f
 |go {c:List Str}{n m:Str}:Chn es st g c n->n≠g->(n,m)∈es->Chn es st g (c++[n]) m
section
variable{es:rB}{st:List Str}{g:Str}{r:Rm}
section
variable{s n:Str}{c:List Str}
theorem Run.chn(f:Flow es st g r)(x:KR r s)(h:Run r g s c n):Chn es st g c n:=by
 induction h with|nil=>exact .st (SI f.toBase x).1 (SI f.toBase x).2|go _ ng y z=>exact .go z ng (bb f.toBase y).1
theorem Run.thr1(f:Flow es st g r)(y:KR r s)(h:Run r g s c n)(ng:n≠g):DR r n=1:=by
 cases h with|nil=>exact R6 f y|go _ _ x=>exact R5 f x ng
theorem Run.pred(h:Run r g s c n):∀x,x∈c∨x=n->x=s∨∃y∈c,O1 r y x:=by
 induction h with
 |nil=>intro x u;exact u.elim (λz=>(nomatch z)) .inl
 |@go c n m _ _ v w =>
  intro x u;rcases u with u|rfl;have:x∈c∨x=n:=(Qg.mp u).imp_right QI.mp;rcases w x this with z|⟨y,k,z⟩
  exact .inl z;exact .inr ⟨y,Qt _ k,z⟩;exact .inr ⟨n,QW _ QD,v⟩
theorem Run.ng(h:Run r g s c n):∀x∈c,x≠g:=by
 induction h with
 |nil=>exact λx y=>(nomatch y)
 |go _ k _ u=>intro x y;rcases Qg.mp y with z|z;exact u x z;rw[QI.mp z];exact k
theorem Run.nd(f:Flow es st g r)(w:KR r s)(h:Run r g s c n):c.Nodup/\n∉c:=by
 induction h with
 |nil=>exact⟨Q0,λz=>(nomatch z)⟩
 |@go c n m h k x u =>
  have nd:(c++[n]).Nodup:=qJ.mpr ⟨u.1,Qk.mpr ⟨λz=>(nomatch z),Q0⟩,λa i b hb z=>by rw[QI.mp hb]at z;exact u.2 (z▸i)⟩;refine⟨nd,λz=>?_⟩;rcases Qg.mp z with z|z;rcases h.pred m (.inl z) with e|⟨y,v,e⟩
  ·rw[e]at x;exact UO f w x
  rw[tU f (h.ng m z) e x]at v;exact u.2 v;exact x.1 (QI.mp z).symm
theorem Run.apart(f:Flow es st g r){s':Str}(q:KR r s)(b:KR r s'){l:List Str}{p:Str}(h:Run r g s c n)(h':Run r g s' l p):∀x∈c,x∈l->s=s':=by
 induction h with
 |nil=>exact λx a=>(nomatch a)
 |@go c n m h k X i =>
  intro x a v;rcases Qg.mp a with z|z;exact i x z v;have z:=QI.mp z;subst z;rcases h.pred x (.inr rfl) with e|⟨y,j,e⟩<;>rcases h'.pred x (.inl v) with u|⟨o,w,u⟩
  exact e.symm.trans u;rw[e]at u;exact(UO f q u).elim;rw[u]at e;exact(UO f b e).elim;rw[tU f k e u]at j;exact i o j w
end
end
section
variable{es:rB}{st:List Str}{g:Str}
section
variable{y c:List Str}
theorem m7{n:Str}(h:Chn es st g c n)(u:∀x∈c,x∉y)(ng:n≠g)(z:n∉y):Led es st g y n:=by
 induction h with|st h _=>exact .st h (bD.mpr ⟨ng,z⟩)|@go c n m _ k e v=>exact .ed (v (λx w=>u x (Qt _ w)) k (u n (QW _ QD))) e (bD.mpr ⟨ng,z⟩)
theorem G0(h:Chn es st g c g)(w:¬ ∃a,(a,g)∈es/\Led es st g y a):∃x∈c,x∈y:=by
 refine wF λz=>?_;have v:∀x∈c,x∉y:=λx u m=>z ⟨x,u,m⟩;cases h with|st _ e=>exact e rfl|@go c n _ h k e=>exact w ⟨n,e,m7 h (λx u=>v x (Qt _ u)) k (v n (QW _ QD))⟩
def ED:List (List Str)->Prop
 |[]=>True|c::cs=>(∀d∈cs,∀x∈c,x∉d)/\ED cs
theorem x8{y:List Str}:∀{cs:List (List Str)},ED cs->(∀c∈cs,∃x∈c,x∈y)->∃v:List Str,v.length=cs.length/\v.Nodup/\(∀p∈v,p∈y)/\∀p∈v,∃c∈cs,p∈c
 |[],_,_=>⟨[],rfl,Q0,λ_ z=>(nomatch z),λ_ z=>(nomatch z)⟩
 |c::cs,a,h=>by
  obtain⟨v,j,i,f,b⟩:=x8 (cs:=cs) a.2 λd w=>h d (QE _ w);obtain⟨x,k,e⟩:=h c QD;refine⟨x::v,by rw[QM,QM,j],Qk.mpr ⟨λz=>?_,i⟩,λp u=>?_,λp u=>?_⟩;obtain⟨d,w,u⟩:=b x z;exact a.1 d w x k u;rcases QJ.mp u with z|z
  ·rw[z];exact e
  exact f p z;rcases QJ.mp u with z|z
  ·exact⟨c,QD,by rw[z];exact k⟩
  obtain⟨d,w,u⟩:=b p z;exact⟨d,QE _ w,u⟩
theorem OW{cs:List (List Str)}(a:ED cs)(h:∀c∈cs,Chn es st g c g)(x:¬ ∃a,(a,g)∈es/\Led es st g y a):cs.length<=y.length:=by obtain⟨k,w,v,u,_⟩:=x8 a λc z=>G0 (h c z) x;rw[<- w];exact vF v u
end
end
section
variable{ks:List Pt}{vs:List D}{p:Pt}
def KC(ks:List Pt)(vs:List D):List (D×D):=(ks.map pr).zip vs
theorem Dc(ks:List Pt)(vs:List D):(T2 ks vs).er=.dict (KC ks vs):=by show PyData.dict ((ks.map pr).zip (ersT (vs.map T.d)))=_;rw[FA];rfl
theorem xK(h:vs.length=ks.length):(KC ks vs).map (·.1)=ks.map pr:=W9 (by rw[QG];omega)
theorem i7(h:vs.length=ks.length):(KC ks vs).map (·.2)=vs:=QAA (by rw[QG];omega)
theorem fI(h:vs.length=ks.length)(m:p∈ks):xD (KC ks vs)=some true:=by
 cases ks with
 |nil=>exact(nomatch m)
 |cons x ks=>cases vs with|nil=>cases h|cons y vs=>rfl
theorem RQ{q:Pt}{u:List Pt}:∀{y:List Pt},q∉y->lA ((y++q::u).map pr) (pr q)=some y.length
 |[],_=>U8 rfl|x::y,h=>by show lA (pr x::(y++q::u).map pr) (pr q)=_;rw[PZ (λz=>h (by rw[yO z];exact QD)),RQ λz=>h (QE _ z)];rfl
theorem ae{h z:List Pt}{y x:List D}{q:Pt}{n m:Bool}{R:T->Prop}(v:y.length=h.length)(a:x.length=z.length)(w:q∉h)(k:R (.d (pr p))):CC (.d (.dict (KC (h++q::z) (y++pr p::x)))) n (.d (pr q)) m R:=by
 have u:(y++pr p::x).length=(h++q::z).length:=by rw[QL,QL,QM,QM,v,a]
 refine l9 (fI u (p:=q) (QW _ QD)) (BC q) (by rw[xK u];exact RQ w) ?_ k;rw[i7 u,<- v,Q1 (QV _),QBH];rfl
theorem RS(a b:Pt):Q3 (pr a) (pr b)=decide (a=b):=by
 rw[qW,decide_eq_true_iff];have e:Q3 (pr a) (pr b)=(Q3 (.str a.1) (.str b.1)&&(Q3 (.str a.2) (.str b.2)&&true)):=by simp[pr,Q3,PyData.eqvAll]
 rw[e,DO,DO,Bool.and_true,Qf,decide_eq_true_iff,decide_eq_true_iff];exact⟨λh=>QCZ h.1 h.2,λh=>by rw[h];exact⟨rfl,rfl⟩⟩
def kC(es:rB)(st:List Str):Prop:=(∀s∈st,qb s=true)/\∀e∈es,qb e.1=true/\qb e.2=true
theorem ZE{a b:Str}(x:qb a=true)(h:qb b=true):JF (pr (a,b)):=by refine⟨?_,?_⟩;simp only[pr,WU,wP,x,h,Bool.and_self];simp only[pr,QAa,WI];decide
theorem BP:qb "to"=true:=by decide +kernel
theorem FT:qb "from"=true:=by decide +kernel
theorem ZM:qb ""=true/\qb "begin"=true:=by decide +kernel
theorem rZ{es:rB}{st:List Str}{g:Str}(h:kC es st)(k:p∈ZF es st g):JF (pr p):=by
 have k:Key (jA es st g) p:=gB.mpr k;rw[iE]at k;rcases zK.mp k with z|⟨⟨u,v,c⟩,m,z⟩
 rw[QI.mp (gB.mp z)];exact ZE ZM.1 ZM.2;have z:p=u∨p=v:=z;rcases pE.mp m with⟨n,w,_,e|e⟩| ⟨e,x,_,y|y|y⟩
 cases e;rcases z with z|z<;>subst z;exact ZE (h.1 n w) BP;exact ZE (h.1 n w) FT;cases e;rcases z with z|z<;>subst z;exact ZE ZM.1 ZM.2;exact ZE (h.1 n w) BP;cases y;rcases z with z|z<;>subst z;exact ZE (h.2 e x).1 BP;exact ZE (h.2 e x).1 FT;cases y;rcases z with z|z<;>subst z;exact ZE (h.2 e x).2 BP;exact ZE (h.2 e x).2 FT;cases y;rcases z with z|z<;>subst z;exact ZE (h.2 e x).1 FT;exact ZE (h.2 e x).2 BP
def nP(r:Rm)(x:List (D×D))(last:D)(h:Pt)(o4:Option Sl):kA:=[some (.own (BA r)),some (.nv (.d (.dict x))),some (.nv (.d last)),some (.nv (.d (pr h))),o4]
end
section
variable{Ψ:PEv}{Z:PEnds}{q:PT}{r:Rm}{h:List (D×D)}{last:D}{u v:Pt}
theorem Dk(hk:Key r u)(a:UH r u v)(z:(lk r u).length<sizeLine)(k:vA Ψ (λ_=>False) q Z (nP (put r u (put (lk r u) v (rm r u v - 1))) h last v (some (.nv (.d (pr u)))))) :
  vA Ψ (λ_=>False) (.seq (.six (.idx (.var 0) (.var 4)) (.var 3) (.bin .Sub (.idx (.idx (.var 0) (.var 4)) (.var 3)) (.int 1))) q) Z (nP r h last v (some (.nv (.d (pr u))))):=by
 obtain⟨x,y⟩:=a;have e:rm r u v=x:=by unfold rm;rw[y];rfl
 rw[e]at k;delta nP at k ⊢;simp?[↓XH];refine RE hk ?_;simp?[↓mV];refine UN y ?_;simp?[↓zA];refine FH (VE hk) λf w=>NN z ?_;rw[w];exact k
theorem Ck(hk:Key r v)(a:UH r v u)(z:(lk r v).length<sizeLine)(k:vA Ψ (λ_=>False) q Z (nP (put r v (put (lk r v) u (rm r v u+1))) h last v (some (.nv (.d (pr u)))))) :
  vA Ψ (λ_=>False) (.seq (.six (.idx (.var 0) (.var 3)) (.var 4) (.bin .Add (.idx (.idx (.var 0) (.var 3)) (.var 4)) (.int 1))) q) Z (nP r h last v (some (.nv (.d (pr u))))):=by
 obtain⟨x,y⟩:=a;have e:rm r v u=x:=by unfold rm;rw[y];rfl
 rw[e]at k;delta nP at k ⊢;simp?[↓XH];refine RE hk ?_;simp?[↓mV];refine UN y ?_;simp?[↓zA];refine FH (VE hk) λf w=>NN z ?_;rw[w];exact k
end
theorem Base.inn{es:rB}{st:List Str}{g:Str}{r:Rm}(b:Base es st g r)(p:Pt):(lk r p).length<=(jA es st g).length:=by
 have:=XG (ns:=ZF es st g) (b.ndi p) λq h=>by obtain⟨e,x,z⟩:=Qe.mp h;have a:UH r p q:=aB.mpr ⟨e.2,by rw[<- z];exact x⟩;exact tB (FB ((b.adj p q).mp a))
 unfold ZF at this;rw[QG,QG]at this;exact this
section
variable{Ψ:PEv}{Z:PEnds}{es:rB}{st:List Str}{g:Str}
theorem t6{m r:Rm}{ks:List Pt}{vs:List D}{x:Pt}{last:D}{o4:Option Sl}{z v:List Pt}{b u:List D}(hsz:(jA es st g).length<=1000)(R:C7 m)(I:CF m z b)(H:ks=z++v)(S:vs=b++u)(h9:u.length=v.length)(F:x∈z)(hb:x≠YA)(i:LC es st g m r x z)
  (k:∀h y n l p A,CF m h y->ks=h++n->vs=y++l->l.length=n.length->h.length<z.length->p∈h->LC es st g m A p h->Z.nx (nP A (KC ks vs) last p (some (.nv (.d (pr p)))))) :
  vA Ψ (λ_=>False) sE Z (nP r (KC ks vs) last x o4):=by
 have hz:sizeLine=16777216:=QS;obtain⟨h,y,p,j,e,J,Q,w,B,X,G⟩:=I.find F hb;have M:=I.len;have L:=J.len;have l2:e.length=j.length:=by rw[X,G,QL,QL,QM,QM]at M;omega
 have s:ks=h++x::(j++v):=by rw[H,X,qR];rfl
 have o:vs=y++pr p::(e++u):=by rw[S,G,qR];rfl
 obtain⟨W,K⟩:=J6 R i F hb w B λq P=>by rw[X];exact Qt _ P
 have a:=i.adjw W;have C:=cP a;have O:Key r p:=by rw[gB,i.keys];exact tB a
 have N:Key r x:=by rw[gB,i.keys];exact tB (FB a)
 have E:=i.toBase.inn;have Y:vA Ψ (λ_=>False) (.seq (.set 3 (.var 4)) .nil) Z (nP (TV r p x) (KC ks vs) last x (some (.nv (.d (pr p))))):=by have:=k h y (x::(j++v)) (pr p::(e++u)) p (TV r p x) J s o (by rw[QM,QM,QL,QL];omega) (by rw[X,QL,QM];omega) Q K;unfold nP at this;delta nP;simp?[↓zA];exact this
 have f:vA Ψ (λ_=>False) (.seq (.six (.idx (.var 0) (.var 4)) (.var 3) (.bin .Sub (.idx (.idx (.var 0) (.var 4)) (.var 3)) (.int 1))) (.seq (.six (.idx (.var 0) (.var 3)) (.var 4) (.bin .Add (.idx (.idx (.var 0) (.var 3)) (.var 4)) (.int 1))) (.seq (.set 3 (.var 4)) .nil))) Z (nP r (KC ks vs) last x (some (.nv (.d (pr p))))):=by have i1:=E p;have i2:=E x;refine Dk O ((i.adj _ _).mpr a) (by omega) (Ck ?_ ?_ ?_ Y);exact jI.mpr (.inr N);show UH _ x p;have:=(i.adj x p).mpr (FB a);unfold UH at this ⊢;rw[nE,if_neg C];exact this;rw[nE,if_neg C];omega
 unfold nP at f;delta nP;delta sE;simp?[↓zA];rw[s,o]at f ⊢;refine ae L (by rw[QL,QL];omega) B ?_;simp?[↓zA];exact f
end
section
variable{es:rB}{st c:List Str}{g a f:Str}{ks:List Pt}{vs:List D}{K:T->List T->Prop}{E:XE}{Ψ:PEv}{W:List T->Prop}{n m:Bool}{ρ:kA}{R:T->Prop}{r:Rm}{Z:PEnds}{L:Bool->Prop}{Q:T->Bool->Prop}{i:Nat}{cs:List (List Str)}
noncomputable def FF:PSp where
 md:=[.chg]
 run:=λu Q _=>∃(es:rB) (st:List Str) (g:Str) (x:Rm) (ks:List Pt) (vs:List D),u=[BA x,.d (.dict (KC ks vs)),.d (pr (tO g))]/\((jA es st g).length<=1000/\kC es st/\Flow es st g x/\CF x ks vs/\tO g∈ks)/\∀y,Flow es st g y->out es st g y YA=out es st g x YA+1->Q (.d .none) [BA y]
 mono:=λh _ z=>by obtain⟨es,st,g,x,ks,vs,e,l,q⟩:=z;exact⟨es,st,g,x,ks,vs,e,l,λy a b=>h _ _ (q y a b)⟩
theorem u4{h:Rm}(w:(jA es st g).length<=1000)(v:kC es st)(u:Flow es st g h)(z:CF h ks vs)(y:tO g∈ks)(q:∀x,Flow es st g x->out es st g x YA=out es st g h YA+1->K (.d .none) [BA x]):jD FF [BA h,.d (.dict (KC ks vs)),.d (pr (tO g))] K E:=⟨es,st,g,h,ks,vs,rfl,⟨w,v,u,z,y⟩,q⟩
theorem zb(F:Ψ.va "BEGIN"=some (pr YA))(ds Q E)(h:FF.run ds Q E):ds.length=jF.length/\vA Ψ (λ_=>False) dG (MA FF jF.length Q) (nA CJ FF.md ds):=by
 obtain⟨es,st,g,b,ks,vs,rfl,⟨P,O,fl,cf,M⟩,q⟩:=h;refine zJ [some (.own (BA b)),some (.nv (.d (.dict (KC ks vs)))),some (.nv (.d (pr (tO g)))),none,none] rfl rfl rfl ?_;delta dG;simp?[↓zA];refine BH (λm ρ=>∃r x y w v z o4,m=x.length/\CF b x y/\ks=x++w/\vs=y++v/\v.length=w.length/\z∈x/\LC es st g b r z x/\ρ=nP r (KC ks vs) (pr (tO g)) z o4) ks.length ⟨b,ks,vs,[],[],tO g,_,rfl,cf,by rw[wG],by rw[wG],rfl,M,lZ fl ks,rfl⟩ ?_;rintro m ρ ⟨r,x,y,w,v,z,o4,em,G,ek,ev,N,B,A,rfl⟩;have s:JF (pr z):=rZ O (by have:=HH fl.toBase.dom fl.toBase.bg (G.rch z B);rw[gB,fl.keys]at this;exact this);have X:JF (pr YA):=ZE ZM.1 ZM.2;have u:∀L:Bool->Prop,L (!decide (z=YA))->dC .NotEq (.d (pr z)) (.d (pr YA)) L:=λL l=>by show JF (pr z)/\JF (pr YA)/\L (!PyData.eqv (pr z) (pr YA));rw[RS];exact⟨s,X,l⟩
 by_cases e:z=YA;subst e;delta nP;simp?[↓yH F];refine u _ ?_;rw[dT rfl];obtain⟨H,S⟩:=Lb A;exact q r H S;have C:=λ(Z:PEnds) J=>t6 (Ψ:=Ψ) (Z:=Z) (last:=pr (tO g)) (o4:=o4) P fl.ndi G ek ev N B e A J;unfold nP at C;delta nP;simp?[↓yH F];refine u _ ?_;rw[dF e];refine C _ λk o Y j p I a1 a2 a3 a4 a5 a6 a7=>⟨k.length,by omega,I,k,o,Y,j,p,_,rfl,a1,a2,a3,a4,a6,a7,rfl⟩
theorem gX{l:Inn}:pL .val [(LD l,false)] W=W ((l.map λe=>pr e.1).map T.d):=DQ _ _
theorem e9{kvs:List (D×D)}(h:xD kvs=some true):pL .val [(.d (.dict kvs),n)] W=W ((kvs.map (·.1)).map T.d):=by unfold pL yC;rw[oA];show bC .val [GB kvs] W=_;unfold GB;rw[h];exact DQ _ _
theorem A8{a b h:PX}{t:Str}{x:T}{R:Option T->Prop}:bG Ψ E [] [t] (.nm 0) (.and a b) h ρ x R=OK Ψ (.and a b) E (some (.nv x)::lockA ρ) λk z=>if k=true then oB Ψ h E z λy n _=>YC y n (R (some y)) else R none:=rfl
theorem sP{p:Pt}:CC (.d (pr p)) n (.d (.int 0)) m R=R (.d (.str p.1)):=by delta pr;rw[f9,mG,xC]
theorem re{p:Pt}:CC (.d (pr p)) n (.d (.int 1)) m R=R (.d (.str p.2)):=by delta pr;rw[f9,pJ,xC]
theorem v8:(T.d (.tuple [.str a,.str "from"]))=.d (pr (fR a)):=rfl
theorem gY:(T.d (.tuple [.str a,.str "to"]))=.d (pr (tO a)):=rfl
noncomputable def fC:PSp where
 md:=[.nv]
 run:=λx Q _=>∃(es:rB) (st:List Str) (g:Str) (r:Rm) (n:Str),x=[BA r,.d (.str n)]/\((jA es st g).length<=1000/\Flow es st g r/\DR r n=1)/\∀m,O1 r n m->Q (.d (.str m)) []
 mono:=λh _ z=>by obtain⟨es,st,g,r,n,e,l,q⟩:=z;exact⟨es,st,g,r,n,e,l,λm a=>h _ _ (q m a)⟩
theorem jS{n:Str}(y:(jA es st g).length<=1000)(x:Flow es st g r)(h:DR r n=1)(q:∀m,O1 r n m->K (.d (.str m)) []):jD fC [BA r,.d (.str n)] K E:=⟨es,st,g,r,n,rfl,⟨y,x,h⟩,q⟩
theorem bW(ds Q E)(h:fC.run ds Q E):ds.length=BD.length/\vA Ψ (λ_=>False) rE (MA fC BD.length Q) (nA IG fC.md ds):=by
 obtain⟨es,st,g,r,n,rfl,⟨H,fl,F⟩,q⟩:=h;have P:sizeLine=16777216:=QS;have S:=fl.toBase.inn (fR n);obtain⟨l,j⟩:=ub fl F;have X:UH r (fR n) (tO l):=(fl.adj _ _).mpr (FB (fl.toBase.adjw j.2));have A:Key r (fR n):=by rw[gB,fl.keys];exact tB ((fl.adj _ _).mp X)
 refine iA [some (.nv (BA r)),some (.nv (.d (.str n))),none] rfl rfl rfl ?_;delta rE;simp?[v8,↓XH];refine⟨by omega,RE A ?_⟩;simp?[↓T1,↓gX];have M:((lk r (fR n)).map λe=>pr e.1).map T.d=((lk r (fR n)).map (·.1)).map λp=>T.d (pr p):=by rw[Qb,Qb];rfl
 rw[M];refine UA (λp=>T.d (pr p)) (λ(p:Pt)=>T.d (.str p.1)) (λp=>!decide (p.1=n)&&decide (0<rm r p (fR n))) ((lk r (fR n)).map (·.1)) [] _ (λx C R w=>?_) (by show 0+((lk r (fR n)).map (·.1)).length<=_;rw[QG];omega) ?_;obtain⟨e,G,J⟩:=Qe.mp C;have N:UH r (fR n) x:=aB.mpr ⟨e.2,by rw[<- J];exact G⟩;have k:UH r x (fR n):=(fl.adj _ _).mpr (FB ((fl.adj _ _).mp N));have Y:Key r x:=by rw[gB,fl.keys];exact tB ((fl.adj _ _).mp k)
 obtain⟨v,b⟩:=k;have I:rm r x (fR n)=v:=by unfold rm;rw[b];rfl
 rw[I]at w;simp?[↓A8,↓sP,↓XH];by_cases c:x.1=n;rw[dT c]at w ⊢;exact w;rw[dF c]at w ⊢;simp only[WR,↓reduceIte];refine RE Y ?_;simp?[↓mV];refine UN b ?_;simp?[↓sP];by_cases d:0<v;rw[dT d]at w ⊢;exact w;rw[dF d]at w ⊢;exact w;have o:tO l∈((lk r (fR n)).map (·.1)).filter λp=>!decide (p.1=n)&&decide (0<rm r p (fR n)):=by obtain⟨v,b⟩:=X;refine Qj.mpr ⟨Qe.mpr ⟨_,UG b,rfl⟩,?_⟩;rw[dF (show ¬ (tO l).1=n from λz=>j.1 z.symm),dT j.2];rfl
 cases s:((lk r (fR n)).map (·.1)).filter λp=>!decide (p.1=n)&&decide (0<rm r p (fR n)) with
 |nil=>rw[s]at o;exact(nomatch o)
 |cons y O =>
  have B:y∈((lk r (fR n)).map (·.1)).filter λp=>!decide (p.1=n)&&decide (0<rm r p (fR n)):=by rw[s];exact QD
  have u:=(Qj.mp B).2;rw[Qf,Q8,decide_eq_false_iff_not,decide_eq_true_iff]at u;obtain⟨m,rfl⟩:=e8 fl.toBase ((fl.adj _ _).mpr (fl.toBase.adjw u.2));rw[Qo,aA (λp:Pt=>PyData.str p.1)];simp?[↓zA];rw[QO,mG];simp?[↓zA];exact q m ⟨λz=>u.1 z.symm,u.2⟩
noncomputable def EC:PSp where
 md:=[.nv]
 run:=λx Q _=>∃(es:rB) (st:List Str) (g:Str) (r:Rm) (f:Str),x=[BA r,.d (.str f),.d (.str g)]/\((jA es st g).length<=1000/\Flow es st g r/\KR r f)/\∀c,Run r g f c g->Q (.lst ((c.map PyData.str).map T.d)) []
 mono:=λh _ z=>by obtain⟨es,st,g,r,n,e,l,q⟩:=z;exact⟨es,st,g,r,n,e,l,λm a=>h _ _ (q m a)⟩
theorem FV(y:(jA es st g).length<=1000)(x:Flow es st g r)(h:KR r f)(q:∀c,Run r g f c g->K (.lst ((c.map PyData.str).map T.d)) []):jD EC [BA r,.d (.str f),.d (.str g)] K E:=⟨es,st,g,r,f,rfl,⟨y,x,h⟩,q⟩
theorem P9(fl:Flow es st g r)(w:KR r f){n:Str}(h:Run r g f c n):(∀x∈c,tO x∈ZF es st g)/\tO n∈ZF es st g:=by
 induction h with
 |nil=>exact⟨λx y=>(nomatch y),(PH fl.toBase w).1⟩
 |go _ _ v u=>refine⟨λx y=>?_,(PH fl.toBase v.2).1⟩;rcases Qg.mp y with z|z;exact u.1 x z;rw[QI.mp z];exact u.2
theorem jU(fl:Flow es st g r)(y:KR r f){n:Str}(h:Run r g f c n):c.length<=(jA es st g).length:=by
 have nd:=(h.nd fl y).1;have:=XG (ks:=c.map tO) (ns:=ZF es st g) (WP tO (λa b u z=>u (LB z)) nd) λp w=>by obtain⟨x,v,e⟩:=Qe.mp w;rw[<- e];exact(P9 fl y h).1 x v
 unfold ZF at this;rw[QG,QG]at this;exact this
def Bc(r:Rm)(f g:Str)(c:List Str)(n:Str):kA:=[some (.nv (BA r)),some (.nv (.d (.str f))),some (.nv (.d (.str g))),some (.own (.lst ((c.map PyData.str).map T.d))),some (.nv (.d (.str n)))]
theorem e7(y:Ψ.sp "name_behind"=fC){n:Str}(x:(jA es st g).length<=1000)(fl:Flow es st g r)(h:DR r n=1)(u:c.length<=1000)(k:∀m,O1 r n m->Z.nx (Bc r f g (c++[n]) m)) :
  vA Ψ (λ_=>False) AD Z (Bc r f g c n):=by
 have z:sizeLine=16777216:=QS;delta Bc at k ⊢;delta AD;simp?[↓dP,↓rA (md:=[.nv]) y rfl rfl];refine⟨by rw[QG,QG];omega,jS x fl h λm nx=>?_⟩;have:=k m nx;rw[QU,QU]at this;simp?[↓zA];exact this
theorem OY(l:Ψ.sp "name_behind"=fC)(ds Q E)(h:EC.run ds Q E):ds.length=gE.length/\vA Ψ (λ_=>False) sF (MA EC gE.length Q) (nA iI EC.md ds):=by
 obtain⟨es,st,g,r,f,rfl,⟨j,fl,u⟩,q⟩:=h;have v:sizeLine=16777216:=QS;refine iA [some (.nv (BA r)),some (.nv (.d (.str f))),some (.nv (.d (.str g))),none,none] rfl rfl rfl ?_;delta sF
 simp?[↓zA];refine⟨Q9 _,BH (λm ρ=>∃c n,m+c.length=1001/\Run r g f c n/\ρ=Bc r f g c n) 1001 ⟨[],f,rfl,.nil,rfl⟩ ?_⟩;rintro m ρ ⟨c,n,p,y,rfl⟩;have o:=jU fl u y;by_cases e:n=g;subst e;delta Bc;simp?[↓zA];exact q c y;have w:=λ(Z:PEnds) v=>e7 (Ψ:=Ψ) (Z:=Z) (f:=f) (g:=g) (c:=c) l j fl (y.thr1 fl u e) (by omega) v;unfold Bc at w;delta Bc;simp?[↓zA];rw[dF e];refine w _ λb k=>?_;have x:=y.go e k;have z:=jU fl u x;rw[QL,Qm]at z;exact⟨m - 1,by omega,c++[n],b,by rw[QL,Qm];omega,x,rfl⟩
theorem Oc{q:Pt}(x:vs.length=ks.length)(hb:YA∈ks):dC .NotIn (.d (pr q)) (.d (.dict (KC ks vs))) L=L (!decide (q∈ks)):=by show(∃b,xD (KC ks vs)=some b/\UE b (pr q)/\L (!(lA ((KC ks vs).map (·.1)) (pr q)).isSome))=_;rw[fI x hb,xK x,BO];exact propext ⟨λ⟨_,_,_,h⟩=>h,λh=>⟨true,rfl,BC q,h⟩⟩
theorem M8{q:Pt}(x:vs.length=ks.length)(hb:YA∈ks):dC .In (.d (pr q)) (.d (.dict (KC ks vs))) L=L (decide (q∈ks)):=by show(∃b,xD (KC ks vs)=some b/\UE b (pr q)/\L (lA ((KC ks vs).map (·.1)) (pr q)).isSome)=_;rw[fI x hb,xK x,BO];exact propext ⟨λ⟨_,_,_,h⟩=>h,λh=>⟨true,rfl,BC q,h⟩⟩
theorem zg{ss:List Str}(x:ss.length<64)(q:∀h:List Str,h.Perm ss->sortedS h=true->Q (.lst ((h.map PyData.str).map T.d)) true):pP .sorted [(.lst ((ss.map PyData.str).map T.d),n)] Q:=by unfold pP yC;rw[GD];exact .inl ⟨_,ss,rfl,pA _,x,q⟩
theorem kg{ls:List (List Str)}(x:ls.length<64)(q:∀h:List (List Str),h.Perm ls->Q (.lst ((h.map YB).map T.d)) true):pP .sorted [(.d (.list (ls.map YB)),n)] Q:=by unfold pP yC;rw[oA];exact .inr ⟨_,ls,rfl,pA _,x,q⟩
def OJ(ks:List Pt):List Str:=(ks.filter (uG ks)).map λp=>p.1
noncomputable def EE:PSp where
 md:=[]
 run:=λx Q _=>∃(ks:List Pt) (vs:List D),x=[.d (.dict (KC ks vs))]/\(vs.length=ks.length/\YA∈ks/\ks.length<=1000/\(ks.filter (uG ks)).length<64)/\∀cut:List Str,cut.Perm (OJ ks)->sortedS cut=true->Q (.lst ((cut.map PyData.str).map T.d)) []
 mono:=λh _ z=>by obtain⟨ks,vs,e,l,q⟩:=z;exact⟨ks,vs,e,l,λm a b=>h _ _ (q m a b)⟩
theorem SX(z:vs.length=ks.length)(y:YA∈ks)(x:ks.length<=1000)(h:(ks.filter (uG ks)).length<64)(q:∀cut:List Str,cut.Perm (OJ ks)->sortedS cut=true->K (.lst ((cut.map PyData.str).map T.d)) []):jD EE [.d (.dict (KC ks vs))] K E:=⟨ks,vs,rfl,⟨z,y,x,h⟩,q⟩
theorem G5(ds Q E)(h:EE.run ds Q E):ds.length=fE.length/\vA Ψ (λ_=>False) rF (MA EE fE.length Q) (nA eI EE.md ds):=by obtain⟨ks,vs,rfl,⟨u,hb,j,k⟩,q⟩:=h;have b:sizeLine=16777216:=QS;refine iA [some (.nv (.d (.dict (KC ks vs))))] rfl rfl rfl ?_;delta rF;simp?[↓e9 (fI u hb),xK u];rw[<- aA];refine UA (λp=>T.d (pr p)) (λ(p:Pt)=>T.d (.str p.1)) (uG ks) ks [] _ (λx e R y=>?_) (by show 0+ks.length<=_;omega) ?_;have y:R (if(decide (x.2="to")&&!decide (fR x.1∈ks))=true then some (T.d (.str x.1)) else none):=y;simp?[↓A8,↓sP,↓re,v8,↓Oc u hb];by_cases c:x.2="to";rw[dT c]at y ⊢;refine⟨by omega,?_⟩;by_cases d:fR x.1∈ks;rw[dT d]at y ⊢;exact y;rw[dF d]at y ⊢;exact y;rw[dF c]at y ⊢;exact y;rw[Qo,aA (λp:Pt=>PyData.str p.1),show((ks.filter (uG ks)).map λp=>PyData.str p.1)=(OJ ks).map PyData.str by unfold OJ;rw[Qb];rfl];refine zg (by unfold OJ;rw[QG];exact k) λz w v=>?_;simp?[↓zA];exact q z w v
theorem BW(f:Flow es st g r):(((lk r YA).map (·.1)).filter λy=>decide (0<rm r y YA)).length<=st.length:=by
 have u:∀y∈((lk r YA).map (·.1)).filter (λy=>decide (0<rm r y YA)),y=tO y.1/\KR r y.1:=λy x=>by have h:=of_decide_eq_true (Qj.mp x).2;obtain⟨n,rfl⟩:=xZ f.toBase ((f.adj _ _).mpr (f.toBase.adjw h));exact⟨rfl,h⟩
 have nd:(((lk r YA).map (·.1)).filter λy=>decide (0<rm r y YA)).Nodup:=(f.ndi YA).sublist qG;have:=vF (ks:=(((lk r YA).map (·.1)).filter λy=>decide (0<rm r y YA)).map (·.1)) (ns:=st) (by
  refine WP _ (λa b h=>h) (wt (λ{a b} k hb v z=>?_) nd);exact v (by rw[(u a k).1,(u b hb).1,z])) λs w=>by
  obtain⟨y,x,e⟩:=Qe.mp w;rw[<- e];exact(SI f.toBase (u y x).2).1
 rw[QG]at this;exact this
theorem yJ{α v:Type}{body:T->(Option T->Prop)->Prop}(P:α->v->Prop)(g:α->T)(f:v->T):∀(l:List α) (h:List T) (Q:List T->Prop),(∀x∈l,∀R:Option T->Prop,(∀y,P x y->R (some (f y)))->body (g x) R)->h.length+l.length<=sizeLine->(∀u,Paired P l u->Q (h++u.map f))->PD body (l.map g) h Q
 |[],h,Q,_,hl,q=>by have:=q [] .nil;rw[qj,wG]at this;exact⟨by rw[Qy]at hl;omega,this⟩|x::r,h,Q,hb,hl,q=>by
  rw[QM]at hl;refine hb x QD _ λy k=>⟨by omega,?_⟩
  refine yJ P g f r _ Q (λz w=>hb z (QE _ w)) (by rw[QL,Qm];omega) λu b=>?_;have:=q (y::u) (.cons k b);rw[QO]at this;rw[qR];exact this
theorem k9{r:PT}:eK Ψ E r Z i (T2 ks vs) true ρ=vA Ψ E r Z (ρ.set i (some (.nv (.d (.dict (KC ks vs)))))):=by unfold eK;rw[Dc];exact propext ⟨λh=>h.2,λh=>⟨rfl,h⟩⟩
def Gg(c:List Str):T:=.lst ((c.map PyData.str).map T.d)
theorem Uc(cs:List (List Str)):ersT (cs.map Gg)=cs.map YB:=by rw[CO,Qb];congr 1;funext c;show PyData.list (ersT ((c.map PyData.str).map T.d))=_;rw[FA];rfl
theorem Bn{r:PT}:eK Ψ E r Z i (.lst (cs.map Gg)) true ρ=vA Ψ E r Z (ρ.set i (some (.nv (.d (.list (cs.map YB)))))):=by
 have e:(T.lst (cs.map Gg)).er=.list (cs.map YB):=by show PyData.list (ersT (cs.map Gg))=_;rw[Uc]
 unfold eK;rw[e];exact propext ⟨λh=>h.2,λh=>⟨rfl,h⟩⟩
theorem gg{a b:List T}:AF [.lst a,.lst b]=.tup [.lst a,.lst b]:=rfl
theorem rJ:∀{cs:List (List Str)},ED cs↔cs.Pairwise λc d=>∀x∈c,x∉d
 |[]=>⟨λ_=>.nil,λ_=>trivial⟩|c::cs=>by rw[QAb,<- rJ];exact Wn
theorem pT{ds:List (List Str)}(h:ds.Perm cs)(a:ED cs):ED ds:=rJ.mpr ((h.pairwise_iff (λ{a b} z x u y=>z x y u)).mpr (rJ.mp a))
structure Good(es:rB)(st:List Str)(g:Str)(cs:List (List Str))(cut:List Str):Prop where
 chn:∀c∈cs,Chn es st g c g/\c.Nodup/\∀x∈c,x≠g
 apart:ED cs
 len:cs.length=cut.length
 few:cut.length<=11
 nd:cut.Nodup
 srt:sortedS cut=true
 ng:g∉cut
 led:¬ ∃a,(a,g)∈es/\Led es st g cut a
 okn:∀s∈cut,qb s=true
end
section
variable{es:rB}{st:List Str}{g:Str}{r:Rm}
theorem JK(f:Flow es st g r):∀{fs:List Str}{cs:List (List Str)},fs.Nodup->(∀s∈fs,KR r s)->Paired (λs c=>Run r g s c g) fs cs->ED cs/\(∀c∈cs,∃s∈fs,Run r g s c g)
 |_,_,_,_,.nil=>⟨trivial,λ_ h=>(nomatch h)⟩
 |s::fs,c::cs,nd,hf,.cons h t=>by
  obtain⟨b,a⟩:=Qk.mp nd;obtain⟨l,k⟩:=JK f a (λs j=>hf s (QE _ j)) t;refine⟨⟨λd w x i e=>?_,l⟩,λd w=>?_⟩;obtain⟨u,y,v⟩:=k d w;have:=Run.apart f (hf s QD) (hf u (QE _ y)) h v x i e;exact b (this▸y);rcases QJ.mp w with z|z
  ·rw[z];exact⟨s,QD,h⟩
  obtain⟨u,y,v⟩:=k d z;exact⟨u,QE _ y,v⟩
def Ei(r:Rm):List Pt:=((lk r YA).map λe=>e.1).filter λy=>decide (0<rm r y YA)
def LS(r:Rm):List Str:=(Ei r).map λp=>p.1
theorem LZ(f:Flow es st g r):∀y∈Ei r,y=tO y.1/\KR r y.1:=λy x=>by have h:=of_decide_eq_true (Qj.mp x).2;obtain⟨n,rfl⟩:=xZ f.toBase ((f.adj _ _).mpr (f.toBase.adjw h));exact⟨rfl,h⟩
theorem Vg(f:Flow es st g r):(LS r).Nodup:=by have nd:(Ei r).Nodup:=(f.ndi YA).sublist qG;refine WP _ (λa b h=>h) (wt (λ{a b} y hb x z=>?_) nd);exact x (by rw[(LZ f a y).1,(LZ f b hb).1,z])
theorem HS(f:Flow es st g r):∀s∈LS r,KR r s:=λs x=>by obtain⟨y,h,e⟩:=Qe.mp x;rw[<- e];exact(LZ f y h).2
theorem AI(f:Flow es st g r):out es st g r YA=(LS r).length/\(LS r).length<=st.length:=by have x:=S6 f;have h:=BW f;unfold LS;rw[QG];exact⟨x,h⟩
theorem SK{α x:Type}{P:α->x->Prop}{l:List α}{m:List x}(h:Paired P l m):l.length=m.length:=qZ h
theorem O6(f:Flow es st g r)(C:kC es st)(G:st.length<=11){ks:List Pt}{vs:List D}(W:CF r ks vs)(hk:∀p,p∈ks↔Rch r p)(q:tO g∉ks){cs ds:List (List Str)}(Y:Paired (λs c=>Run r g s c g) (LS r) cs)(j:ds.Perm cs){cut:List Str}(w:cut.Perm (OJ ks))(sc:sortedS cut=true):Good es st g ds cut:=by
 obtain⟨L,J⟩:=JK f (Vg f) (HS f) Y;obtain⟨Q,P⟩:=AI f;have O:=IQ f W.nd hk q;have N:(OJ ks).length=(ks.filter (uG ks)).length:=by unfold OJ;rw[QG]
 have M:=SK Y;have u:∀s,s∈OJ ks↔tO s∈ks/\fR s∉ks:=λs=>by unfold OJ;rw[Qe];constructor;rintro⟨y,B,e⟩;obtain⟨v,x⟩:=Qj.mp B;obtain⟨n,X,k⟩:=vE.mp x;subst X;have e:n=s:=e;subst e;exact⟨v,k⟩;rintro⟨v,x⟩;exact⟨tO s,Qj.mpr ⟨v,vE.mpr ⟨s,rfl,x⟩⟩,rfl⟩
 have l:(OJ ks).Nodup:=by unfold OJ;refine WP _ (λa b h=>h) (wt (λ{a b} F hb A z=>?_) (W.nd.sublist (qG (p:=uG ks))));obtain⟨n,I,_⟩:=vE.mp (Qj.mp F).2;obtain⟨m,X,_⟩:=vE.mp (Qj.mp hb).2;subst I X;have z:n=m:=z;exact A (by rw[z])
 have K:=w.length_eq;refine⟨λc E=>?_,pT j L,by rw[j.length_eq,K];omega,by omega,w.nodup_iff.mpr l,sc,λz=>q ((u g).mp (w.mem_iff.mp z)).1,?_,λs o=>?_⟩;obtain⟨s,o,i⟩:=J c (j.mem_iff.mp E);have Z:=HS f s o;exact⟨i.chn f Z,(i.nd f Z).1,i.ng⟩;exact c7 f hk q λn v x=>w.mem_iff.mpr ((u n).mpr ⟨v,x⟩);have v:=((u s).mp (w.mem_iff.mp o)).1;have x:=gB.mp (HH f.toBase.dom f.toBase.bg ((hk _).mp v));rw[f.keys]at x;have k:=(rZ C x).1;simp only[pr,tO,WU,wP,Qf]at k;exact k.1
end
noncomputable def uP(es:rB)(st:List Str)(g:Str)(r:Rm)(h:List (D×D))(o5 o6:Option Sl):kA:=[some (.nv (.d (.list (es.map pr)))),some (.nv (.d (.list (st.map PyData.str)))),some (.nv (.d (.str g))),some (.own (BA r)),some (.nv (.d (.dict h))),o5,o6]
section
variable{Ψ:PEv}{Z:PEnds}{es:rB}{st:List Str}{g:Str}{r:Rm}
section
variable{q:PT}{h:List (D×D)}{o6:Option Sl}
theorem Nm(v:Ψ.sp "rooms_of"=TC)(z:Ψ.sp "points_reached"=pC)(y:es.length<=126)(x:st.length<=11)(k:∀ks vs,CF (jA es st g) ks vs->(∀p,p∈ks↔Rch (jA es st g) p)->vA Ψ (λ_=>False) q Z (uP es st g (jA es st g) (KC ks vs) none none)) :
  vA Ψ (λ_=>False) (.seq (.own 3 (.call "rooms_of" (.nq (.var 0) (.nq (.var 1) (.nq (.var 2) .nr))))) (.seq (.set 4 (.call "points_reached" (.nq (.var 3) .nr))) q)) Z [some (.nv (.d (.list (es.map pr)))),some (.nv (.d (.list (st.map PyData.str)))),some (.nv (.d (.str g))),none,none,none,none]:=by
 have ok:=dQ (g:=g) y x;delta uP at k;simp?[↓rA (md:=[]) v rfl rfl,↓rA (md:=[.nv]) z rfl rfl];refine BV y x ?_;simp?[↓dP,↓rA (md:=[.nv]) z rfl rfl];refine BM (.inl rfl) ok.dom ok.bg ok.sz.1 λks vs u hk=>?_;simp?[↓k9];exact k ks vs u hk
theorem Mm(w:Ψ.sp "points_reached"=pC)(j:Ψ.sp "lay_chain"=FF){ks:List Pt}{vs:List D}(v:(jA es st g).length<=1000)(a:kC es st)(f:Flow es st g r)(l:CF r ks vs)(b:tO g∈ks)
  (k:∀z x y,Flow es st g z->out es st g z YA=out es st g r YA+1->CF z x y->(∀p,p∈x↔Rch z p)->Z.nx (uP es st g z (KC x y) none none)) :
  vA Ψ (λ_=>False) MC Z (uP es st g r (KC ks vs) none none):=by
 have m:sizeLine=16777216:=QS;delta uP at k ⊢;delta MC;simp?[gY,↓HG (md:=[]) j rfl rfl,↓rA (md:=[.nv]) w rfl rfl];refine⟨by omega,u4 v a f l b λz u e=>⟨_,rfl,?_⟩⟩;simp?[↓dP,↓rA (md:=[.nv]) w rfl rfl];refine BM (.inl rfl) u.toBase.dom u.toBase.bg (by rw[u.toBase.len];exact v) λx y i hk=>?_;simp?[↓k9];exact k z x y u e i hk
theorem Lm(w:Ψ.va "BEGIN"=some (pr YA)){o5:Option Sl}(Y:(jA es st g).length<=1000)(f:Flow es st g r)(k:vA Ψ (λ_=>False) q Z (uP es st g r h (some (.nv (.d (.list ((LS r).map PyData.str))))) o6)) :
  vA Ψ (λ_=>False) (.seq (.set 5 (.comp [] ["point"] (.nm 0) .val (.nq (.idx (.var 3) (.glo "BEGIN")) .nr) (.cmp .Gt (.idx (.idx (.var 4) (.var 0)) (.glo "BEGIN")) (.int 0)) (.idx (.var 0) (.int 0)))) q) Z (uP es st g r h o5 o6):=by
 have X:sizeLine=16777216:=QS;have W:=f.toBase.inn YA;delta uP at k ⊢;simp?[↓XH,↓yH w];refine RE f.toBase.bg ?_;simp?[↓T1,↓gX];have o:((lk r YA).map λe=>pr e.1).map T.d=((lk r YA).map λe=>e.1).map λp=>T.d (pr p):=by rw[Qb,Qb];rfl
 rw[o];refine UA (λp=>T.d (pr p)) (λ(p:Pt)=>T.d (.str p.1)) (λy=>decide (0<rm r y YA)) ((lk r YA).map λe=>e.1) [] _ (λx i R z=>?_) (by show 0+((lk r YA).map λe=>e.1).length<=_;rw[QG];omega) ?_;obtain⟨e,j,m⟩:=Qe.mp i;have s:UH r YA x:=aB.mpr ⟨e.2,by rw[<- m];exact j⟩;have u:UH r x YA:=(f.adj _ _).mpr (FB ((f.adj _ _).mp s));have b:Key r x:=by rw[gB,f.keys];exact tB ((f.adj _ _).mp u)
 obtain⟨v,a⟩:=u;have l:rm r x YA=v:=by unfold rm;rw[a];rfl
 rw[l]at z;simp?[↓XH,↓yH w];refine RE b ?_;simp?[↓mV,↓yH w];refine UN a ?_;simp?[↓sP];by_cases d:0<v;rw[dT d]at z ⊢;exact z;rw[dF d]at z ⊢;exact z;rw[Qo,aA (λp:Pt=>PyData.str p.1)];have n:((((lk r YA).map λe=>e.1).filter λy=>decide (0<rm r y YA)).map λp=>PyData.str p.1)=(LS r).map PyData.str:=by unfold LS Ei;rw[Qb];rfl
 rw[n];simp?[↓zA];exact k
theorem Hm(a:Ψ.sp "chain_from"=EC)(u:(jA es st g).length<=1000)(b:st.length<=11)(f:Flow es st g r)(k:∀cs,Paired (λs c=>Run r g s c g) (LS r) cs->vA Ψ (λ_=>False) q Z (uP es st g r h (some (.nv (.d (.list ((LS r).map PyData.str))))) (some (.nv (.d (.list (cs.map YB))))))) :
  vA Ψ (λ_=>False) (.seq (.set 6 (.comp [] ["first"] (.nm 0) .val (.nq (.var 5) .nr) .nop (.call "chain_from" (.nq (.var 4) (.nq (.var 0) (.nq (.var 3) .nr)))))) q) Z (uP es st g r h (some (.nv (.d (.list ((LS r).map PyData.str))))) o6):=by
 have e:sizeLine=16777216:=QS;have i:=(AI f).2;delta uP at k ⊢;simp?[↓zA];rw[<- aA PyData.str (LS r)];refine yJ (λs c=>Run r g s c g) (λs=>T.d (.str s)) Gg (LS r) [] _ (λx z R w=>?_) (by show 0+(LS r).length<=_;omega) λcs v=>?_;simp?[↓dP,↓rA (md:=[.nv]) a rfl rfl];refine FV u f (HS f x z) λc y=>?_;simp?[↓zA];exact w c y;rw[Qo];simp?[↓Bn];exact k cs v
end
end
section
variable{es es':rB}{g x:Str}{F sr u:List Str}{n:Int}
noncomputable def VD:PSp where
 md:=[]
 run:=λv Q _=>∃(es:rB) (st:List Str) (g:Str),v=[.d (.list (es.map pr)),.d (.list (st.map PyData.str)),.d (.str g)]/\(es.length<=126/\st.length<=11/\kC es st)/\∀y cut,Good es st g y cut->Q (.tup [.lst ((y.map YB).map T.d),.lst ((cut.map PyData.str).map T.d)]) []
 mono:=λh _ z=>by obtain⟨es,st,g,e,l,q⟩:=z;exact⟨es,st,g,e,l,λy cut a=>h _ _ (q y cut a)⟩
theorem GV{st:List Str}{K:T->List T->Prop}{E:XE}(z:es.length<=126)(y:st.length<=11)(h:kC es st)(q:∀cs cut,Good es st g cs cut->K (.tup [.lst ((cs.map YB).map T.d),.lst ((cut.map PyData.str).map T.d)]) []):jD VD [.d (.list (es.map pr)),.d (.list (st.map PyData.str)),.d (.str g)] K E:=⟨es,st,g,rfl,⟨z,y,h⟩,q⟩
theorem PY{Ψ:PEv}(R:Ψ.sp "rooms_of"=TC)(C:Ψ.sp "points_reached"=pC)(P:Ψ.sp "lay_chain"=FF)(O:Ψ.sp "chain_from"=EC)(B:Ψ.sp "full_names"=EE)(N:Ψ.va "BEGIN"=some (pr YA))(ds Q E)(h:VD.run ds Q E):ds.length=gD.length/\vA Ψ (λ_=>False) lG (MA VD gD.length Q) (nA pG VD.md ds):=by
 obtain⟨es,st,g,rfl,⟨Y,b,A⟩,q⟩:=h;have W:sizeLine=16777216:=QS;have i:(jA es st g).length<=1000:=(dQ (g:=g) Y b).sz.1;refine iA [some (.nv (.d (.list (es.map pr)))),some (.nv (.d (.list (st.map PyData.str)))),some (.nv (.d (.str g))),none,none,none,none] rfl rfl rfl ?_;refine Nm R C Y b λl v S L=>?_;have b0:=AI (V8 (es:=es) (st:=st) (g:=g));delta uP;simp?[↓zA];refine BH (λm X=>∃r z a,(m:Int)+out es st g r YA=12/\Flow es st g r/\CF r z a/\(∀p,p∈z↔Rch r p)/\X=uP es st g r (KC z a) none none) (12 - out es st g (jA es st g) YA).toNat ⟨jA es st g,l,v,by omega,V8,S,L,rfl⟩ ?_;rintro m X ⟨r,z,a,em,f,y,hk,rfl⟩;have bd:=AI f;by_cases k:tO g∈z;have w:=λ(Z:PEnds) W=>Mm (Ψ:=Ψ) (Z:=Z) C P i A f y k W;unfold uP at w;delta uP;simp?[gY,↓M8 y.len y.hb];refine⟨by omega,?_⟩;rw[dT k];refine w _ λG o j s e H M=>⟨m - 1,?_,G,o,j,?_,s,H,M,rfl⟩
 have:=AI s;omega;have:=AI s;omega;have K:vA Ψ (λ_=>False) (.seq (.set 5 (.comp [] ["point"] (.nm 0) .val (.nq (.idx (.var 3) (.glo "BEGIN")) .nr) (.cmp .Gt (.idx (.idx (.var 4) (.var 0)) (.glo "BEGIN")) (.int 0)) (.idx (.var 0) (.int 0)))) (.seq (.set 6 (.comp [] ["first"] (.nm 0) .val (.nq (.var 5) .nr) .nop (.call "chain_from" (.nq (.var 4) (.nq (.var 0) (.nq (.var 3) .nr)))))) (.seq (.ret (.tup (.nq (.bi .sorted (.nq (.var 6) .nr)) (.nq (.call "full_names" (.nq (.var 4) .nr)) .nr)))) .nil))) (eZ Q) (uP es st g r (KC z a) none none):=by refine Lm N i f (Hm O i b f λcs w=>?_);have lc:=SK w;have l3:=IQ f y.nd hk k;delta uP;simp?[↓rA (md:=[]) B rfl rfl];refine kg (by omega) λds I=>?_;simp?[↓rA (md:=[]) B rfl rfl];refine SX y.len y.hb (QY (y.le f.toBase.dom f.toBase.bg) (by rw[f.toBase.len];exact i)) (by omega) λcut J sc=>?_;simp?[gg];exact⟨by omega,q ds cut (O6 f A b y hk k w I J sc)⟩
 unfold uP at K;delta uP;simp?[gY,↓M8 y.len y.hb];refine⟨by omega,?_⟩;rw[dF k];exact K
def gF(es:rB)(F:List Str):rB:=es.filter λe=>decide (e.1∈F)
theorem zI{e:Str×Str}:e∈gF es F↔e∈es/\e.1∈F:=by unfold gF;rw[Qj,decide_eq_true_iff]
def rG(es:rB)(sr:List Str)(x:Str)(F:List Str)(n:Int):Prop:=∃h:List (List Str),ED h/\(∀c∈h,Chn (gF es F) sr x c x)/\n<=(h.length:Int)
theorem Chn.sub(v:∀e∈es,e∈es')(z:∀s∈sr,s∈u){c:List Str}{n:Str}(h:Chn es sr g c n):Chn es' u g c n:=by
 induction h with|st a b=>exact .st (z _ a) b|go _ b c y=>exact .go y b (v _ c)
theorem rG.sub{v:List Str}{z:Int}(j:∀e∈es,e∈es')(i:∀s∈sr,s∈u)(f:∀y∈F,y∈v)(w:z<=n)(h:rG es sr x F n):rG es' u x v z:=by obtain⟨p,a,c,l⟩:=h;refine⟨p,a,λd b=>Chn.sub (λe k=>?_) i (c d b),QBG w l⟩;obtain⟨o,m⟩:=zI.mp k;exact zI.mpr ⟨j e o,f _ m⟩
theorem tQ{cs:List (List Str)}{cut:List Str}(h:Good (gF es F) sr x cs cut):rG es sr x F n↔n<=(cs.length:Int):=by constructor;rintro⟨z,a,c,l⟩;have:=OW a c h.led;rw[<- h.len]at this;exact QBG l (Int.ofNat_le.mpr this);exact λl=>⟨cs,h.apart,λc y=>(h.chn c y).1,l⟩
inductive Held(es:rB)(sr:List Str)(nd:List (Str×Int)):Str->Prop
 |see {x:Str}{n:Int}:(x,n)∈nd->x∈sr->Held es sr nd x
 |tell {x:Str}{n:Int}(F:List Str):(x,n)∈nd->(∀y∈F,Held es sr nd y)->rG es sr x F n->Held es sr nd x
end
section
variable{es es':rB}{sr y:List Str}{nd u:List (Str×Int)}
theorem DZ{S:List Str}(e:∀x∈S,Held es sr nd x)(k:∀x n,(x,n)∈nd->x∈sr->x∈S)(w:∀x n,(x,n)∈nd->x∉S->¬ rG es sr x S n)(x:Str):x∈S↔Held es sr nd x:=by
 refine⟨e x,λh=>?_⟩;induction h with|see a b=>exact k _ _ a b|@tell x n F a _ m v=>by_cases z:x∈S;exact z;exact absurd (m.sub (λ_ h=>h) (λ_ h=>h) v (QCT _)) (w x n a z)
theorem LU{x:Str}(h:Held es sr nd x):∃n,(x,n)∈nd:=by
 cases h with|see a _=>exact⟨_,a⟩|tell _ a=>exact⟨_,a⟩
end
noncomputable def oC:PSp where
 md:=[.ny,.ny,.kr]
 run:=λv Q _=>∃(y:rB) (x F:List Str) (g:Str),v=[.d (.list (y.map pr)),.d (.list (x.map PyData.str)),.lst ((F.map PyData.str).map T.d),.d (.str g)]/\(y.length<=126/\x.length<=11/\kC y x)/\∀u cut,Good (gF y F) x g u cut->Q (.tup [.lst ((u.map YB).map T.d),.lst ((cut.map PyData.str).map T.d)]) []
 mono:=λh _ z=>by obtain⟨y,x,F,g,e,l,q⟩:=z;exact⟨y,x,F,g,e,l,λu cut a=>h _ _ (q u cut a)⟩
theorem NP{es:rB}{sr F:List Str}{g:Str}{K:T->List T->Prop}{E:XE}(y:es.length<=126)(x:sr.length<=11)(h:kC es sr)(q:∀cs cut,Good (gF es F) sr g cs cut->K (.tup [.lst ((cs.map YB).map T.d),.lst ((cut.map PyData.str).map T.d)]) []):jD oC [.d (.list (es.map pr)),.d (.list (sr.map PyData.str)),.lst ((F.map PyData.str).map T.d),.d (.str g)] K E:=⟨es,sr,F,g,rfl,⟨y,x,h⟩,q⟩
theorem D5{Ψ:PEv}(k:Ψ.sp "apart_chains"=VD)(ds Q E)(h:oC.run ds Q E):ds.length=cD.length/\vA Ψ (λ_=>False) SD (MA oC cD.length Q) (nA nG oC.md ds):=by
 obtain⟨y,v,F,g,rfl,⟨f,b,w⟩,q⟩:=h;have m:sizeLine=16777216:=QS;have a:(gF y F).length<=126:=QY (WM _ _) f;have u:kC (gF y F) v:=⟨w.1,λe i=>w.2 e (zI.mp i).1⟩
 refine iA [some (.nv (.d (.list (y.map pr)))),some (.nv (.d (.list (v.map PyData.str)))),some (.nv (.lst ((F.map PyData.str).map T.d))),some (.nv (.d (.str g)))] rfl rfl rfl ?_;delta SD;simp?[↓rA (md:=[]) k rfl rfl];rw[<- aA pr y];refine UA (λp=>T.d (pr p)) (λ(p:Str×Str)=>T.d (pr p)) (λp=>decide (p.1∈F)) y [] _ (λx n R z=>?_) (by show 0+y.length<=_;omega) ?_;simp?[↓sP,UB,bB,SA,true_or];by_cases d:x.1∈F;rw[dT d]at z ⊢;exact z;rw[dF d]at z ⊢;exact z;rw[Qo,aA pr];simp?[↓rA (md:=[]) k rfl rfl];refine GV a b u λl cut j=>?_;simp?[↓zA];exact q l cut j
section
variable{Ψ:PEv}{E:XE}{ρ:kA}{K:TK}{a b c h:PX}{ds:List D}{n m:Bool}{L:Bool->Prop}
def C9(x:T)(n:Bool)(Ψ:PEv)(b:PX)(E:XE)(ρ:kA)(K:TK):Prop:=sq (α:=Option Int) (uA x n) ρ (λρ R=>(pe Ψ b E).e ρ λu _ y=>NF u.er λo=>R o y) λu y=>FJ (uA x n).vw none u λz k=>K z k y
def bf(x:T)(n:Bool)(Ψ:PEv)(b:PX)(E:XE)(ρ:kA)(K:TK):Prop:=sq (α:=Option Int) (uA x n) ρ (λρ R=>(pe Ψ b E).e ρ λu _ y=>NF u.er λo=>R o y) λl y=>FJ (uA x n).vw l none λz k=>K z k y
def lU(x:T)(Q:Option Int->Prop):Prop:=NF x.er Q
theorem Df{i:Int}{Q:Option Int->Prop}:lU (.d (.int i)) Q=Q (some i):=rfl
theorem UX{x:T}{R:Option Int->kA->Prop}:sq (α:=Option Int) x ρ (λρ (R:Option Int->kA->Prop)=>R none ρ) R=R none ρ:=by unfold sq;split<;>rfl
theorem K2{j:Nat}:oB Ψ (.slc a .nop (.var j)) E ρ K=oB Ψ a E ρ λx n v=>C9 x n Ψ (.var j) E v K:=by show(pe Ψ a E).e ρ (λx n v=>sq (α:=Option Int) (uA x n) v (λρ (R:Option Int->kA->Prop)=>R none ρ) λl w=>sq (α:=Option Int) (uA x n) w (λρ R=>(pe Ψ (.var j) E).e ρ λu _ y=>NF u.er λo=>R o y) λu y=>FJ (uA x n).vw l u λz k=>K z k y)=_;simp only[UX];rfl
theorem Hn{x:D}:C9 (.d x) n Ψ b E ρ K=oB Ψ b E ρ λu _ y=>lU u λo=>DP (.d x) n none o λz k=>K z k y:=by cases n<;>rfl
theorem lh{t u:Str}{x y:D}{R:Option T->Prop}{v:CmpOp}:bG Ψ E [] [t,u] (.tp [0,1]) (.cmp v a b) h ρ (.d (.tuple [x,y])) R=OK Ψ (.cmp v a b) E (some (.nv (.d x))::some (.nv (.d y))::lockA ρ) λk z=>if k=true then oB Ψ h E z λy n _=>YC y n (R (some y)) else R none:=xC
theorem Ji{j:Nat}{es:PX}:oB Ψ (.mt .reverse (.var j) es) E ρ K=ID ρ[j]? λt=>YJ .reverse t=true/\PK Ψ es E [] (ρ.set j (some (.nv t))) λxs x=>fF xs=true/\x[j]?=some (some (.nv t))/\bL .reverse t (XF xs) λr s'=>K r true (x.set j (some (.own s'))):=rfl
theorem Yb{N:T->T->Prop}:bL .reverse (.lst (ds.map T.d)) [] N=N (.d .none) (.lst (ds.reverse.map T.d)):=by refine propext ⟨λ⟨x,e,_,k⟩=>?_,λk=>⟨ds,rfl,rfl,k⟩⟩;injection e with e;have:=congrArg ersT e;rw[FA,FA]at this;rw[this];exact k
theorem jn{t:T}{Q:T->Bool->Prop}:YF .Add (.d (.list ds)) n t m Q=YF .Add (.lst (ds.map T.d)) false t m Q:=by unfold YF;rw[oA];rfl
end
theorem EQ{α:Type}(l:List α)(k:Nat):OD l none (some (k:Int))=l.take k:=by
 unfold OD;have x:HT.sIx l.length 0 none=0:=rfl;rw[x,List.drop_zero,QB5];have h:HT.sIx l.length l.length (some (k:Int))=min k l.length:=by unfold HT.sIx;simp only;split<;>omega
 rw[h,List.take_eq_take_iff];omega
theorem Y0{α:Type}(l:List α)(k:Nat):OD l (some (k:Int)) none=l.drop k:=by
 unfold OD;have x:HT.sIx l.length l.length none=l.length:=rfl;have h:HT.sIx l.length 0 (some (k:Int))=min k l.length:=by unfold HT.sIx;simp only;split<;>omega
 rw[x,h,List.take_of_length_le (by rw[W7];omega)];by_cases c:k<=l.length;rw[Nat.min_eq_left c];rw[Nat.min_eq_right (by omega),QCI,WE (by omega)]
theorem E6(a b:List D):(T.tup [.lst (a.map T.d),.lst (b.map T.d)]).er=.tuple [.list a,.list b]:=by show PyData.tuple [.list (ersT (a.map T.d)),.list (ersT (b.map T.d))]=_;rw[FA,FA]
theorem oe{a b:List D}{m:Bool}{t:T}{R:T->Prop}:CC (.tup [.lst (a.map T.d),.lst (b.map T.d)]) true t m R=CC (.d (.tuple [.list a,.list b])) false t m R:=by
 have e:uA (.tup [.lst (a.map T.d),.lst (b.map T.d)]) true=.d (.tuple [.list a,.list b]):=by show T.d (T.tup [.lst (a.map T.d),.lst (b.map T.d)]).er=_;rw[E6]
 unfold CC;rw[e];rfl
section
variable{Ψ:PEv}{E:XE}{ρ:kA}{a c h:PX}{W:List T->Prop}{R:Option T->Prop}{C:List T->Prop}{xs:List (T×Bool)}{ds:List D}{n m:Bool}
section
variable{md:List Md}{ts:List T}{b:Bool}{t u:Str}
theorem UR{v:PX}{M:List (T×Bool)->kA->Prop}:PK Ψ (.nq a v) E (.ny::md) ρ M=oB Ψ a E ρ λx n z=>O3 x n Ψ v E md z λxs y=>M ((x,n)::xs) y:=rfl
theorem xo{d:D}:CB (.ny::md) ((.d d,n)::xs) C=CB md xs λts=>C (.d d::ts):=by
 have e:CA (.ny::md) ((.d d,n)::xs) []=(CA md xs []).map (.d d::·):=by cases n<;>rfl
 unfold CB;rw[e,OF]
theorem Xe:pL .val [(.lst ts,false)] W=W ts:=by unfold pL yC;exact mL ts
theorem gh{m:List Bool}{x y:D}{v:CmpOp}:bG Ψ E (b::m) [t,u] (.tp [0,1]) (.cmp v a c) h ρ (.d (.tuple [x,y])) R=OK Ψ (.cmp v a c) E (some (.nv (.d x))::some (.nv (.d y))::vD (b::m) (lockA ρ)) λk z=>if k=true then oB Ψ h E z λy n _=>YC y n (R (some y)) else R none:=xC
theorem Sm{m:List Bool}{x y:T}:bG Ψ E (b::m) [t,u] (.tp [0,1]) .nop h ρ (.tup [x,y]) R=oB Ψ h E (some (.nv x)::some (.nv y)::vD (b::m) (lockA ρ)) λy n _=>YC y n (R (some y)):=xC
theorem Dp:dL ((.lst [],true)::xs) C=dL xs λts=>C (.lst []::ts):=fo (ds:=[])
theorem fg{d:D}:AF [.d d,.lst ts]=.tup [.d d,.lst ts]:=rfl
theorem Sg{i j:Int}{L:Bool->Prop}:dC .GtE (.d (.int i)) (.d (.int j)) L=L (decide (j<=i)):=rfl
end
end
noncomputable abbrev Rw:=Str×List (List Str)
def uH(r:Rw):T:=.tup [.d (.str r.1),.lst ((r.2.map YB).map T.d)]
def NE(p:Str×Int):D:=.tuple [.str p.1,.int p.2]
noncomputable def UW(es:rB)(sr:List Str)(nd:List (Str×Int))(h:List Rw)(F:List Str)(b:Bool)(o6 o7 o8:Option Sl):kA:=[some (.nv (.d (.list (es.map pr)))),some (.nv (.d (.list (sr.map PyData.str)))),some (.nv (.d (.list (nd.map NE)))),some (.own (.lst (h.map uH))),some (.own (.lst ((F.map PyData.str).map T.d))),some (.nv (.d (.bool b))),o6,o7,o8]
section
variable{Ψ:PEv}{Z:PEnds}{es:rB}{sr:List Str}{nd:List (Str×Int)}{q:PT}
section
variable{o5 o6 o7 o8:Option Sl}{u:List Rw}
def bM(sr:List Str)(nd:List (Str×Int)):List Rw:=(nd.filter λp=>decide (p.1∈sr)).map λp=>(p.1,[])
theorem El(v:nd.length<=100){o4:Option Sl}(k:vA Ψ (λ_=>False) q Z [some (.nv (.d (.list (es.map pr)))),some (.nv (.d (.list (sr.map PyData.str)))),some (.nv (.d (.list (nd.map NE)))),some (.own (.lst ((bM sr nd).map uH))),o4,o5,o6,o7,o8]) :
  vA Ψ (λ_=>False) (.seq (.own 3 (.comp [false,false,false,false,false,false,true,true] ["name","number"] (.tp [0,1]) .val (.nq (.var 2) .nr) (.cmp .In (.var 0) (.var 3)) (.tup (.nq (.var 0) (.nq (.lst .nr) .nr))))) q) Z [some (.nv (.d (.list (es.map pr)))),some (.nv (.d (.list (sr.map PyData.str)))),some (.nv (.d (.list (nd.map NE)))),none,o4,o5,o6,o7,o8]:=by
 have y:sizeLine=16777216:=QS;simp?[↓zA];rw[<- aA NE nd];refine UA (λp=>T.d (NE p)) (λ(p:Str×Int)=>uH (p.1,[])) (λp=>decide (p.1∈sr)) nd [] _ (λx z R h=>?_) (by show 0+nd.length<=_;omega) ?_;obtain⟨x,n⟩:=x;delta NE;simp?[↓gh,UB,bB,SA,true_or];by_cases d:x∈sr;rw[dT d]at h ⊢;simp?[↓Dp,↓fg];exact⟨by omega,by omega,h⟩;rw[dF d]at h ⊢;exact h;rw[Qo];have e:(nd.filter λp=>decide (p.1∈sr)).map (λp=>uH (p.1,[]))=(bM sr nd).map uH:=by unfold bM;rw[Qb];rfl
 rw[e];exact k
theorem Al(v:u.length<=100)(k:vA Ψ (λ_=>False) q Z [some (.nv (.d (.list (es.map pr)))),some (.nv (.d (.list (sr.map PyData.str)))),some (.nv (.d (.list (nd.map NE)))),some (.own (.lst (u.map uH))),some (.own (.lst (((u.map λr=>r.1).map PyData.str).map T.d))),o5,o6,o7,o8]) :
  vA Ψ (λ_=>False) (.seq (.own 4 (.comp [false,false,false,false,false,false,true,false,true] ["name","chains"] (.tp [0,1]) .val (.nq (.var 3) .nr) .nop (.var 0))) q) Z [some (.nv (.d (.list (es.map pr)))),some (.nv (.d (.list (sr.map PyData.str)))),some (.nv (.d (.list (nd.map NE)))),some (.own (.lst (u.map uH))),none,o5,o6,o7,o8]:=by
 have y:sizeLine=16777216:=QS;simp?[↓Xe];refine iB uH (λr=>T.d (.str r.1)) u [] _ (λx z R h=>?_) (by show 0+u.length<=_;omega) ?_;delta uH;simp?[↓Sm];exact h;rw[Qo,aA (λr:Rw=>PyData.str r.1)];have e:(u.map λr=>PyData.str r.1)=(u.map λr=>r.1).map PyData.str:=by rw[Qb];rfl
 rw[e];exact k
theorem AL:∀{cs:List (List Str)}(m:Nat),ED cs->ED (cs.take m)
 |[],m,_=>by rw[List.take_nil];trivial|_::_,0,_=>trivial|_::_,m+1,h=>⟨λd x=>h.1 d (QAH x),AL m h.2⟩
theorem Tl(o:Ψ.sp "told_through"=oC){F:List Str}{b:Bool}{x:Str}{n:Int}(i:es.length<=126)(g:sr.length<=11)(j:kC es sr)(r:u.length<=100)(p:F.length<=100)
  (f:x∈F->∀o8,Z.nx (UW es sr nd u F b (some (.nv (.d (.str x)))) (some (.nv (.d (.int n)))) o8))
  (e:x∉F->¬ rG es sr x F n->∀o8,Z.nx (UW es sr nd u F b (some (.nv (.d (.str x)))) (some (.nv (.d (.int n)))) o8))
  (h:0<=n) (a:x∉F->rG es sr x F n->∀cs o8,ED cs->(∀c∈cs,Chn (gF es F) sr x c x/\c.Nodup/\∀y∈c,y≠x)->(cs.length:Int)=n->Z.nx (UW es sr nd (u++[(x,cs)]) (F++[x]) true (some (.nv (.d (.str x)))) (some (.nv (.d (.int n)))) o8)) :
  vA Ψ (λ_=>False) HC Z (UW es sr nd u F b (some (.nv (.d (.str x)))) (some (.nv (.d (.int n)))) o8):=by
 have s:sizeLine=16777216:=QS;delta UW at f e a ⊢;delta HC;simp?[UB,bB,SA,true_or];by_cases d:x∈F;rw[dT d];exact f d _;rw[dF d];simp?[↓UR,↓xo,↓rA (md:=[.ny,.ny,.kr]) o rfl rfl];refine NP i g j λcs cut v=>?_;have k:=tQ (n:=n) v;simp?[↓oe,↓mG,↓Sg,QG];by_cases c:n<=(cs.length:Int);rw[dT c];simp?[↓K2,↓Hn,↓Df,↓fg];rw[GO];refine⟨by omega,by omega,by rw[QG,QG];omega,?_⟩;obtain⟨m,rfl⟩:=Int.eq_ofNat_of_zero_le h;have w:OD cs none (some (m:Int))=cs.take m:=EQ cs m;have:=a d (k.mpr c) (OD cs none (some (m:Int))) (some (.nv (.d (.list (cs.map YB))))) (by rw[w];exact AL m v.apart) (λc l=>v.chn c (QAH (w▸l))) (by rw[w,wW];omega);rw[QU,QU,QU]at this;exact this;rw[dF c];exact e d (λz=>c (k.mp z)) _
end
end
structure GI(es:rB)(sr:List Str)(nd:List (Str×Int))(rs:List Rw)(F:List Str):Prop where
 e:F=rs.map λr=>r.1
 ndp:F.Nodup
 held:∀x∈F,Held es sr nd x
 see:∀x n,(x,n)∈nd->x∈sr->x∈F
 non:∀r∈rs,r.1∈sr->r.2=[]
 row:∀(l:List Rw) (x:Str) (cs:List (List Str)) (r:List Rw),rs=l++(x,cs)::r->x∉sr->(∃n,(x,n)∈nd/\(cs.length:Int)=n)/\ED cs/\∀c∈cs,Chn (gF es (l.map λr=>r.1)) sr x c x/\c.Nodup/\∀y∈c,y≠x
section
variable{es:rB}{sr:List Str}{nd:List (Str×Int)}{u:List Rw}{F:List Str}
theorem GI.len(g:GI es sr nd u F):F.length<=nd.length:=by
 have:=vF (ns:=nd.map λp=>p.1) g.ndp λs x=>by obtain⟨n,h⟩:=LU (g.held s x);exact Qe.mpr ⟨_,h,rfl⟩
 rw[QG]at this;exact this
theorem GI.rlen(g:GI es sr nd u F):u.length=F.length:=by rw[g.e,QG]
theorem Ol(h:(nd.map λp=>p.1).Nodup):GI es sr nd (bM sr nd) ((bM sr nd).map λr=>r.1):=by
 have e:((bM sr nd).map λr=>r.1)=(nd.filter λp=>decide (p.1∈sr)).map λp=>p.1:=by unfold bM;rw[Qb];rfl
 refine⟨rfl,?_,λx y=>?_,λx n y k=>?_,λr v _=>?_,λl x j r i y=>?_⟩;rw[e];exact h.sublist (qG.map _);rw[e]at y;obtain⟨p,z,rfl⟩:=Qe.mp y;obtain⟨b,a⟩:=Qj.mp z;exact .see (n:=p.2) b (of_decide_eq_true a);rw[e];exact Qe.mpr ⟨(x,n),Qj.mpr ⟨y,dT k⟩,rfl⟩;unfold bM at v;obtain⟨p,_,rfl⟩:=Qe.mp v;rfl;have w:(x,j)∈bM sr nd:=by rw[i];exact QW _ QD
 unfold bM at w;obtain⟨p,z,g⟩:=Qe.mp w;have f:p.1=x:=congrArg qw g;exact absurd (f▸of_decide_eq_true (Qj.mp z).2) y
theorem GI.add(g:GI es sr nd u F){x:Str}{n:Int}(w:(x,n)∈nd)(i:x∉F)(m:rG es sr x F n)(cs:List (List Str))(W:ED cs)(Z:∀c∈cs,Chn (gF es F) sr x c x/\c.Nodup/\∀y∈c,y≠x)(Y:(cs.length:Int)=n):GI es sr nd (u++[(x,cs)]) (F++[x]):=by
 refine⟨by rw[QU,<- g.e];rfl,qJ.mpr ⟨g.ndp,Qk.mpr ⟨λz=>(nomatch z),Q0⟩,λa p b hb e=>?_⟩,λy h=>?_,λy k h v=>Qt _ (g.see y k h v),λr o v=>?_,λl y X r f h=>?_⟩;rw[QI.mp hb]at e;exact i (e▸p);rcases Qg.mp h with z|z
 ·exact g.held y z
 rw[QI.mp z];exact .tell F w g.held m;rcases Qg.mp o with z|z
 ·exact g.non r z v
 rw[QI.mp z]at v;exact absurd (g.see x n w v) i;rcases List.eq_nil_or_concat r with rfl|⟨j,z,rfl⟩
 ·obtain⟨s,q⟩:=QCJ f rfl
  cases q;subst s;rw[<- g.e];exact⟨⟨n,w,Y⟩,W,Z⟩
 rw[List.concat_eq_append,<- QB8,<- qR]at f;exact g.row l y X j (QCJ f rfl).1 h
end
noncomputable def IC:PSp where
 md:=[]
 run:=λw Q _=>∃(u:rB) (y:List Str) (nd:List (Str×Int)),w=[.d (.list (u.map pr)),.d (.list (y.map PyData.str)),.d (.list (nd.map NE))]/\(u.length<=126/\y.length<=11/\kC u y/\nd.length<=90/\(nd.map λp=>p.1).Nodup/\∀p∈nd,0<=p.2)/\∀v F,GI u y nd v F->(∀x,x∈F↔Held u y nd x)->Q (.lst (v.map uH)) []
 mono:=λh _ z=>by obtain⟨u,y,nd,e,l,q⟩:=z;exact⟨u,y,nd,e,l,λv F a b=>h _ _ (q v F a b)⟩
theorem HV{es:rB}{sr:List Str}{nd:List (Str×Int)}{K:T->List T->Prop}{E:XE}(l:es.length<=126/\sr.length<=11/\kC es sr/\nd.length<=90/\(nd.map λp=>p.1).Nodup/\∀p∈nd,0<=p.2)(q:∀h F,GI es sr nd h F->(∀x,x∈F↔Held es sr nd x)->K (.lst (h.map uH)) []):jD IC [.d (.list (es.map pr)),.d (.list (sr.map PyData.str)),.d (.list (nd.map NE))] K E:=⟨es,sr,nd,rfl,l,q⟩
section
variable{Ψ:PEv}{Z:PEnds}{es:rB}{sr:List Str}{nd:List (Str×Int)}{u:List Rw}{F:List Str}
theorem Pl(M:Ψ.sp "told_through"=oC)(I:es.length<=126)(G:sr.length<=11)(L:kC es sr)(S:nd.length<=90)(E:∀p∈nd,0<=p.2){b:Bool}{o6 o7 o8:Option Sl}(g:GI es sr nd u F)
  (k:∀v w a o6 o7 o8,GI es sr nd v w->F.length<=w.length->(a=true->F.length<w.length)->(a=false->∀x n,(x,n)∈nd->x∉w->¬ rG es sr x w n)->Z.nx (UW es sr nd v w a o6 o7 o8)) :
  vA Ψ (λ_=>False) GC Z (UW es sr nd u F b o6 o7 o8):=by
 delta UW;delta GC;simp?[↓zA];rw[<- aA NE nd];refine lB (λ(p:Str×Int)=>T.d (NE p)) (λl s=>∃v w a o6 o7 o8,GI es sr nd v w/\(∀p∈l,p∈nd)/\F.length<=w.length/\(a=true->F.length<w.length)/\(a=false->∀x n,(x,n)∈nd->(x,n)∈l∨x∈w∨¬ rG es sr x w n)/\s=UW es sr nd v w a o6 o7 o8) ?_ ?_ _ _ ⟨u,F,false,_,_,_,g,λ_ z=>z,QV _,λz=>(nomatch z),λ_ x n h=>.inl h,rfl⟩;rintro s ⟨v,w,a,B,A,K,f,_,r,q,o,rfl⟩;exact k v w a _ _ _ f r q λhb x n j i=>((o hb x n j).resolve_left λz=>(nomatch z)).resolve_left i;rintro⟨x,n⟩ l s N W ⟨v,w,a,B,A,K,f,m,r,q,o,rfl⟩;have j:=m _ QD;have X:∀p∈l,p∈nd:=λp J=>m p (QE _ J);have g1:=f.len;have H:=f.rlen;refine nC.mk rfl ?_;refine Tl (x:=x) (n:=n) M I G L (by omega) (by omega) (λi o8=>W _ ⟨v,w,a,_,_,_,f,X,r,q,λhb y k Y=>?_,rfl⟩) (λi nm o8=>W _ ⟨v,w,a,_,_,_,f,X,r,q,λhb y k Y=>?_,rfl⟩) (E _ j) λi C O o8 R Q P=>W _ ⟨_,_,true,_,_,_,f.add j i C O R Q P,X,?_,λ_=>?_,λz=>(nomatch z),rfl⟩;rcases o hb y k Y with z|z
 ·rcases QJ.mp z with e|z
  ·cases e
   exact .inr (.inl i)
  exact .inl z
 exact .inr z;rcases o hb y k Y with z|z
 ·rcases QJ.mp z with e|z
  ·cases e
   exact .inr (.inr nm)
  exact .inl z
 exact .inr z;rw[QL,Qm];omega;rw[QL,Qm];omega
end
theorem RY{Ψ:PEv}(X:Ψ.sp "told_through"=oC)(ds Q E)(h:IC.run ds Q E):ds.length=dD.length/\vA Ψ (λ_=>False) hG (MA IC dD.length Q) (nA oG IC.md ds):=by
 obtain⟨es,sr,nd,rfl,⟨o,l,r,j,s,i⟩,q⟩:=h;refine iA [some (.nv (.d (.list (es.map pr)))),some (.nv (.d (.list (sr.map PyData.str)))),some (.nv (.d (.list (nd.map NE)))),none,none,none,none,none,none] rfl rfl rfl ?_;have v:=Ol (es:=es) (sr:=sr) s;have C:=v.len;have B:=v.rlen;refine El (by omega) (Al (by omega) ?_);simp?[↓zA];refine BH (λm w=>∃y F b o6 o7 o8,m=2 * (nd.length - F.length)+(if b=true then 1 else 0)/\GI es sr nd y F/\(b=false->∀x n,(x,n)∈nd->x∉F->¬ rG es sr x F n)/\w=UW es sr nd y F b o6 o7 o8) _ ⟨_,_,true,none,none,none,rfl,v,λz=>(nomatch z),rfl⟩ ?_;rintro m w ⟨y,F,b,o6,o7,o8,e,g,Y,rfl⟩;cases b with
 |true =>
  have k:=λ(Z:PEnds) p=>Pl (Ψ:=Ψ) (Z:=Z) (b:=true) (o6:=o6) (o7:=o7) (o8:=o8) X o l r j i g p;unfold UW at k;delta UW;simp?[↓zA];refine k _ λu A f o6 o7 o8 a G K W=>⟨_,?_,u,A,f,o6,o7,o8,rfl,a,W,rfl⟩
  have:=a.len;cases f with|true=>have:=K rfl;rw[e,if_pos rfl];omega|false=>rw[e,if_pos rfl,if_neg QF];omega
 |false=>delta UW;simp?[↓zA];exact q y F g λx=>DZ g.held g.see (Y rfl) x
def dE(r:Rw):D:=.tuple [.str r.1,.list (r.2.map YB)]
def O2(y:Str×List Str):D:=.tuple [.str y.1,.list (y.2.map PyData.str)]
theorem i4(h:List Rw):ersT (h.map uH)=h.map dE:=by rw[CO,Qb];congr 1;funext r;show PyData.tuple [.str r.1,.list (ersT ((r.2.map YB).map T.d))]=_;rw[FA];rfl
section
variable{Ψ:PEv}{E:XE}{ρ:kA}{r:PT}{Z:PEnds}{i:Nat}{n:Bool}{md:List Md}{xs:List (T×Bool)}{C:List T->Prop}{ds:List D}
theorem Od{x:List Rw}:eK Ψ E r Z i (.lst (x.map uH)) true ρ=vA Ψ E r Z (ρ.set i (some (.nv (.d (.list (x.map dE)))))):=by
 have e:(T.lst (x.map uH)).er=.list (x.map dE):=by show PyData.list (ersT (x.map uH))=_;rw[i4]
 unfold eK;rw[e];exact propext ⟨λh=>h.2,λh=>⟨rfl,h⟩⟩
theorem dn:CB (.kr::md) ((.d (.list ds),n)::xs) C=CB md xs λts=>C (.lst (ds.map T.d)::ts):=vo (by rw[oA];simp only[tF,T.vw,pA,qD])
theorem lg{d:D}{ts:List T}:AF [.d d,.lst ts]=.tup [.d d,.lst ts]:=rfl
end
def YI(es:rB)(sr F:List Str)(x:Str)(y:Str×List Str):Prop:=y.1=x/\∃h,Good (gF es F) sr x h y.2
def HJ(nd:List (Str×Int))(F:List Str):List Str:=(nd.filter λp=>!decide (p.1∈F)).map λp=>p.1
noncomputable def eJ:PSp where
 md:=[]
 run:=λk Q _=>∃(u:rB) (y:List Str) (nd:List (Str×Int)),k=[.d (.list (u.map pr)),.d (.list (y.map PyData.str)),.d (.list (nd.map NE))]/\(u.length<=126/\y.length<=11/\kC u y/\nd.length<=90/\(nd.map λp=>p.1).Nodup/\∀p∈nd,0<=p.2)/\∀w F v,GI u y nd w F->(∀x,x∈F↔Held u y nd x)->Paired (YI u y F) (HJ nd F) v->Q (.tup [.d (.list (w.map dE)),.lst ((v.map O2).map T.d)]) []
 mono:=λh _ z=>by obtain⟨u,y,nd,e,l,q⟩:=z;exact⟨u,y,nd,e,l,λw F v a b c=>h _ _ (q w F v a b c)⟩
theorem R9{es:rB}{sr:List Str}{nd:List (Str×Int)}{K:T->List T->Prop}{E:XE}(l:es.length<=126/\sr.length<=11/\kC es sr/\nd.length<=90/\(nd.map λp=>p.1).Nodup/\∀p∈nd,0<=p.2)(q:∀y F h,GI es sr nd y F->(∀x,x∈F↔Held es sr nd x)->Paired (YI es sr F) (HJ nd F) h->K (.tup [.d (.list (y.map dE)),.lst ((h.map O2).map T.d)]) []):jD eJ [.d (.list (es.map pr)),.d (.list (sr.map PyData.str)),.d (.list (nd.map NE))] K E:=⟨es,sr,nd,rfl,l,q⟩
noncomputable def A2(es:rB)(sr:List Str)(nd:List (Str×Int))(h:List Rw)(o4 o5:Option Sl):kA:=[some (.nv (.d (.list (es.map pr)))),some (.nv (.d (.list (sr.map PyData.str)))),some (.nv (.d (.list (nd.map NE)))),some (.nv (.d (.list (h.map dE)))),o4,o5]
section
variable{Ψ:PEv}{Z:PEnds}{es:rB}{sr:List Str}{nd:List (Str×Int)}{h:List Rw}{F:List Str}{q:PT}{o4 o5:Option Sl}
theorem Ym(v:h.length<=100)(k:vA Ψ (λ_=>False) q Z (A2 es sr nd h (some (.nv (.d (.list ((h.map λr=>r.1).map PyData.str))))) o5)) :
  vA Ψ (λ_=>False) (.seq (.set 4 (.comp [] ["name","chains"] (.tp [0,1]) .val (.nq (.var 3) .nr) .nop (.var 0))) q) Z (A2 es sr nd h o4 o5):=by
 have z:sizeLine=16777216:=QS;delta A2 at k ⊢;simp?[↓zA];rw[<- aA dE h];refine iB (λr=>T.d (dE r)) (λr=>T.d (.str r.1)) h [] _ (λx u R y=>?_) (by show 0+h.length<=_;omega) ?_;delta dE;simp?[↓zA];exact y;rw[Qo,aA (λr:Rw=>PyData.str r.1),show(h.map λr=>PyData.str r.1)=(h.map λr=>r.1).map PyData.str by rw[Qb];rfl];simp?[↓zA];exact k
theorem Jm(v:nd.length<=100)(k:vA Ψ (λ_=>False) q Z (A2 es sr nd h (some (.nv (.d (.list (F.map PyData.str))))) (some (.nv (.d (.list ((HJ nd F).map PyData.str))))))) :
  vA Ψ (λ_=>False) (.seq (.set 5 (.comp [] ["name","number"] (.tp [0,1]) .val (.nq (.var 2) .nr) (.cmp .NotIn (.var 0) (.var 6)) (.var 0))) q) Z (A2 es sr nd h (some (.nv (.d (.list (F.map PyData.str))))) o5):=by
 have z:sizeLine=16777216:=QS;delta A2 at k ⊢;simp?[↓zA];rw[<- aA NE nd];refine UA (λp=>T.d (NE p)) (λ(p:Str×Int)=>T.d (.str p.1)) (λp=>!decide (p.1∈F)) nd [] _ (λx u R y=>?_) (by show 0+nd.length<=_;omega) ?_;obtain⟨x,n⟩:=x;delta NE;simp?[↓lh,UB,bB,SA,true_or];by_cases d:x∈F;rw[dT d]at y ⊢;exact y;rw[dF d]at y ⊢;exact y;rw[Qo,aA (λp:Str×Int=>PyData.str p.1),show((nd.filter λp=>!decide (p.1∈F)).map λp=>PyData.str p.1)=(HJ nd F).map PyData.str by unfold HJ;rw[Qb];rfl];simp?[↓zA];exact k
theorem im(f:Ψ.sp "told_through"=oC){Q:T->List T->Prop}{z:List Str}(w:es.length<=126)(v:sr.length<=11)(b:kC es sr)(m:z.length<=100)(k:∀u,Paired (YI es sr F) z u->Q (.tup [.d (.list (h.map dE)),.lst ((u.map O2).map T.d)]) []) :
  vA Ψ (λ_=>False) (.seq (.ret (.tup (.nq (.var 3) (.nq (.comp [] ["name"] (.nm 0) .val (.nq (.var 5) .nr) .nop (.tup (.nq (.var 0) (.nq (.idx (.call "told_through" (.nq (.var 1) (.nq (.var 2) (.nq (.var 5) (.nq (.var 0) .nr))))) (.int 1)) .nr)))) .nr)))) .nil) (eZ Q) (A2 es sr nd h (some (.nv (.d (.list (F.map PyData.str))))) (some (.nv (.d (.list (z.map PyData.str)))))):=by
 have j:sizeLine=16777216:=QS;delta A2;simp?[↓zA];rw[<- aA PyData.str z];refine yJ (YI es sr F) (λs=>T.d (.str s)) (λy=>T.d (O2 y)) z [] _ (λx l R e=>?_) (by show 0+z.length<=_;omega) λu a=>?_;simp?[↓UR,↓xo,↓dn,↓rA (md:=[.ny,.ny,.kr]) f rfl rfl];refine NP w v b λi cut g=>?_;simp?[↓oe,↓pJ];exact⟨by omega,e (x,cut) ⟨rfl,i,g⟩⟩;rw[Qo,aA O2 u];simp?[↓lg];exact⟨by omega,k u a⟩
theorem Zm(z:Ψ.sp "ground_alone"=IC)(l:es.length<=126/\sr.length<=11/\kC es sr/\nd.length<=90/\(nd.map λp=>p.1).Nodup/\∀p∈nd,0<=p.2)(k:∀h F,GI es sr nd h F->(∀x,x∈F↔Held es sr nd x)->vA Ψ (λ_=>False) q Z (A2 es sr nd h o4 o5)) :
  vA Ψ (λ_=>False) (.seq (.set 3 (.call "ground_alone" (.nq (.var 0) (.nq (.var 1) (.nq (.var 2) .nr))))) q) Z [some (.nv (.d (.list (es.map pr)))),some (.nv (.d (.list (sr.map PyData.str)))),some (.nv (.d (.list (nd.map NE)))),none,o4,o5]:=by
 delta A2 at k;simp?[↓rA (md:=[]) z rfl rfl];refine HV l λh F g y=>?_;simp?[↓Od];exact k h F g y
end
theorem Ef{Ψ:PEv}(f:Ψ.sp "ground_alone"=IC)(b:Ψ.sp "told_through"=oC)(ds Q E)(h:eJ.run ds Q E):ds.length=yF.length/\vA Ψ (λ_=>False) gG (MA eJ yF.length Q) (nA DJ eJ.md ds):=by obtain⟨i,y,nd,rfl,l,q⟩:=h;refine iA [some (.nv (.d (.list (i.map pr)))),some (.nv (.d (.list (y.map PyData.str)))),some (.nv (.d (.list (nd.map NE)))),none,none,none] rfl rfl rfl ?_;delta gG;refine Zm f l λz F g a=>?_;obtain⟨v,u,k,j,_⟩:=l;have n:=g.len;have m:=g.rlen;refine Ym (by omega) ?_;rw[<- g.e];refine Jm (by omega) (im b v u k ?_ λx w=>q z F x g a w);unfold HJ;rw[QG];exact QY (WM _ _) (by omega)
def Nd(ns:List Str)(nd:List (Str×Int)):Prop:=(nd.map λp=>p.1).Perm ns/\∀p∈nd,1<=p.2/\p.2<=5
noncomputable def AC:PSp where
 md:=[.kr]
 run:=λu Q _=>∃(y:List Int) (x:List Str),u=[.lst ((y.map PyData.int).map T.d),.d (.list (x.map PyData.str))]/\(0<x.length/\x.length<=10)/\∀nd,Nd x nd->Q (.lst ((nd.map NE).map T.d)) []
 mono:=λh _ z=>by obtain⟨y,x,e,l,q⟩:=z;exact⟨y,x,e,l,λnd a=>h _ _ (q nd a)⟩
theorem CV{h:List Int}{ns:List Str}{K:T->List T->Prop}{E:XE}(l:0<ns.length/\ns.length<=10)(q:∀nd,Nd ns nd->K (.lst ((nd.map NE).map T.d)) []):jD AC [.lst ((h.map PyData.int).map T.d),.d (.list (ns.map PyData.str))] K E:=⟨h,ns,rfl,l,q⟩
noncomputable def eU(sc:Sl)(ns:List Str)(v m:Int)(nd:List (Str×Int))(o5 o6 o7 o8:Option Sl):kA:=[some sc,some (.nv (.d (.list (ns.map PyData.str)))),some (.nv (.d (.int v))),some (.nv (.d (.int m))),some (.own (.lst ((nd.map NE).map T.d))),o5,o6,o7,o8]
section
variable{Ψ:PEv}{Z:PEnds}{sc:Sl}{ns:List Str}{v m:Int}{nd:List (Str×Int)}{o5 o6 o7 o8:Option Sl}{q:PT}
theorem gk(a:Ψ.sp "_law_mixed"=kB){x:Str}{i:Nat}(s:0<=m)(Y:i<10)(X:nd.length<=100)(k:∀(n:Int) o7,1<=n/\n<=5->Z.nx (eU sc ns v m (nd++[(x,n)]) (some (.nv (.d (.int (i:Int))))) (some (.nv (.d (.str x)))) o7 o8)) :
  vA Ψ (λ_=>False) xE Z (eU sc ns v m nd (some (.nv (.d (.int (i:Int))))) (some (.nv (.d (.str x)))) o7 o8):=by
 have p:sizeLine=16777216:=QS;delta eU at k ⊢;delta xE;simp?[↓rA (md:=[]) a rfl rfl];refine QCY eD ⟨⟨by omega,by omega⟩,λn r=>?_⟩;have w:=Qn n (show(2:Int)≠0 by decide);have u:=Qn n (show(3:Int)≠0 by decide);have y:=Qn n (show(5:Int)≠0 by decide);have g:=Qi n (show(0:Int)<2 by decide);have f:=Qi n (show(0:Int)<3 by decide);have b:=Qi n (show(0:Int)<5 by decide);simp?[↓zA];refine⟨by omega,nT (Qn _ (by decide)) (Qi _ (by decide)) λd h=>?_⟩;have e:∃j:Int,d=.int j/\0<=j/\j<=4:=by
  rcases QJ.mp h with z|h;exact⟨0,z,by decide,by decide⟩;rcases QJ.mp h with z|h
  ·exact⟨_,z,w,by omega⟩
  rcases QJ.mp h with z|h
  ·exact⟨_,z,u,by omega⟩
  exact⟨_,QI.mp h,y,by omega⟩
 obtain⟨j,rfl,o,l⟩:=e;simp?[↓zA];refine⟨by omega,by rw[QG,QG];omega,?_⟩;have:=k (1+j) (some (.nv (.d (.int n)))) ⟨by omega,by omega⟩;rw[QU,QU]at this;exact this
end
section
variable{Ψ:PEv}{E:XE}{ρ:kA}{K:TK}{a b:PX}{ds:List D}
theorem F7{j:Nat}:oB Ψ (.slc a (.var j) .nop) E ρ K=oB Ψ a E ρ λx n y=>bf x n Ψ (.var j) E y K:=by show(pe Ψ a E).e ρ (λx n y=>sq (α:=Option Int) (uA x n) y (λρ R=>(pe Ψ (.var j) E).e ρ λu _ h=>NF u.er λo=>R o h) λl v=>sq (α:=Option Int) (uA x n) v (λρ (R:Option Int->kA->Prop)=>R none ρ) λu h=>FJ (uA x n).vw l u λz k=>K z k h)=_;simp only[UX];rfl
theorem Xn:bf (.lst (ds.map T.d)) false Ψ b E ρ K=oB Ψ b E (lockA ρ) λu _ _=>lU u λo=>DP (.lst (ds.map T.d)) false o none λz k=>K z k ρ:=rfl
theorem Gn:C9 (.lst (ds.map T.d)) false Ψ b E ρ K=oB Ψ b E (lockA ρ) λu _ _=>lU u λo=>DP (.lst (ds.map T.d)) false none o λz k=>K z k ρ:=rfl
end
section
variable{Ψ:PEv}{Z:PEnds}{sc:Sl}{ns:List Str}{v m:Int}{nd:List (Str×Int)}{o5 o6 o7 o8:Option Sl}{q:PT}
theorem ck(y:0<ns.length)(z:nd.length<=100)(k:∀c:Nat,vA Ψ (λ_=>False) q Z (eU sc ns v m (nd.drop c++nd.take c) o5 o6 o7 (some (.nv (.d (.int (c:Int))))))) :
  vA Ψ (λ_=>False) (.seq (.set 8 (.bin .Mod (.bin .FloorDiv (.var 3) (.int 4)) (.bi .len (.nq (.var 1) .nr)))) (.seq (.own 4 (.bin .Add (.slc (.var 4) (.var 8) .nop) (.slc (.var 4) .nop (.var 8)))) q)) Z (eU sc ns v m nd o5 o6 o7 o8):=by
 have x:sizeLine=16777216:=QS;have u:=Qn (m / 4) (show(ns.length:Int)≠0 by omega);obtain⟨c,h⟩:∃c:Nat,m / 4 % (ns.length:Int)=(c:Int):=⟨(m / 4 % (ns.length:Int)).toNat,by omega⟩
 delta eU at k ⊢;simp?[↓F7,↓Xn,↓K2,↓Gn,↓Df,QG,h,EQ,Y0];refine⟨by omega,by rw[wW,W7,QG];omega,?_⟩;rw[<- List.map_take,<- List.map_drop,<- QU];exact k c
theorem nk(z:Ψ.sp "_law_fold"=nD)(x:Ψ.sp "_law_mixed"=kB){h:List Int}(k:∀v m,0<=m->vA Ψ (λ_=>False) q Z (eU (.nv (.lst ((h.map PyData.int).map T.d))) ns v m [] o5 o6 o7 o8)) :
  vA Ψ (λ_=>False) (.seq (.set 2 (.call "_law_fold" (.nq (.var 0) .nr))) (.seq (.set 3 (.call "_law_mixed" (.nq (.var 2) (.nq (.int 3) .nr)))) (.seq (.own 4 (.lst .nr)) q))) Z [some (.nv (.lst ((h.map PyData.int).map T.d))),some (.nv (.d (.list (ns.map PyData.str)))),none,none,none,o5,o6,o7,o8]:=by
 have u:sizeLine=16777216:=QS;delta eU at k;simp?[↓rA (md:=[.kr]) z rfl rfl,↓rA (md:=[]) x rfl rfl];refine QCY OP λv=>?_;simp?[↓rA (md:=[]) x rfl rfl];refine QCY eD ⟨⟨by decide,by decide⟩,λm y=>?_⟩;simp?[↓zA];exact⟨by omega,k v m y⟩
theorem uk(C:Ψ.sp "_law_mixed"=kB)(K:0<=m)(W:ns.length<=10)(k:∀nd o5 o6 o7,nd.map (λp=>p.1)=ns->(∀p∈nd,1<=p.2/\p.2<=5)->vA Ψ (λ_=>False) q Z (eU sc ns v m nd o5 o6 o7 o8)) :
  vA Ψ (λ_=>False) (.seq (.for_ (.tp [5,6]) .enum (.nq (.var 1) .nr) xE) q) Z (eU sc ns v m [] o5 o6 o7 o8):=by
 have j:∀p∈(ns.map PyData.str).zipIdx,p.2<10/\∃x,p.1=PyData.str x:=λp u=>by obtain⟨y,i⟩:=p;obtain⟨f,o⟩:=FR u;rw[QG]at f;obtain⟨x,_,e⟩:=Qe.mp o;exact⟨Qq f W,x,e.symm⟩
 delta eU;simp?[↓zA];refine lB (λ(p:D×Nat)=>T.d (.tuple [.int (p.2:Int),p.1])) (λl w=>∃nd o5 o6 o7,(∀p∈l,p.2<10/\∃x,p.1=PyData.str x)/\(nd.map λp=>p.1).map PyData.str++l.map (λp=>p.1)=ns.map PyData.str/\(∀p∈nd,1<=p.2/\p.2<=5)/\w=eU sc ns v m nd o5 o6 o7 o8) ?_ ?_ _ _ ⟨[],_,_,_,j,by rw[qj,qj,Qo,List.zipIdx_map_fst],λ_ z=>(nomatch z),rfl⟩;rintro w ⟨nd,X,s,r,_,e,b,rfl⟩;rw[qj,wG]at e;exact k nd _ _ _ (List.map_inj_right (λx y h=>by injection h) |>.mp e) b;rintro⟨y,i⟩ l w N B ⟨nd,X,s,r,g,e,b,rfl⟩;obtain⟨A,x,a⟩:=g _ QD;have a:y=.str x:=a;subst a;have Y:nd.length<=100:=by have:=congrArg qq e;rw[QL,QG,QG,QG,QG]at this;omega
 refine nC.mk rfl ?_;refine gk (x:=x) (i:=i) C K A Y λn o7 hb=>B _ ⟨nd++[(x,n)],_,_,_,λp u=>g p (QE _ u),?_,λp u=>?_,rfl⟩;rw[<- e,QU,QU,qR];rfl;rcases Qg.mp u with z|z
 ·exact b p z
 rw[QI.mp z];exact hb
theorem vk{Q:T->List T->Prop}(k:∀h:List (Str×Int),h.Perm nd->Q (.lst ((h.map NE).map T.d)) []) :
  vA Ψ (λ_=>False) (.seq (.ife (.cmp .Eq (.bin .Mod (.bin .FloorDiv (.var 3) (.int 64)) (.int 2)) (.int 1)) (.seq (.expr (.mt .reverse (.var 4) .nr)) .nil) .nil) oF) (eZ Q) (eU sc ns v m nd o5 o6 o7 o8):=by
 delta eU oF;simp?[↓zA];split;simp?[↓Ji,↓Yb];rw[<- List.map_reverse];exact k _ (List.reverse_perm nd);exact k _ (we _)
end
theorem LY{Ψ:PEv}(l:Ψ.sp "_law_fold"=nD)(w:Ψ.sp "_law_mixed"=kB)(ds Q E)(h:AC.run ds Q E):ds.length=cH.length/\vA Ψ (λ_=>False) bJ (MA AC cH.length Q) (nA JN AC.md ds):=by
 obtain⟨g,u,rfl,⟨f,a⟩,q⟩:=h;refine iA [some (.nv (.lst ((g.map PyData.int).map T.d))),some (.nv (.d (.list (u.map PyData.str)))),none,none,none,none,none,none,none] rfl rfl rfl ?_;delta bJ;refine nk l w λv m j=>uk w j a λnd r o n e b=>?_;have s:nd.length=u.length:=by rw[<- e,QG]
 refine ck f (by omega) λc=>vk λy p=>q y ?_;have k:(nd.drop c++nd.take c).Perm nd:=List.perm_append_comm.trans (by rw[QBD]);have z:=p.trans k;exact⟨by rw[<- e];exact z.map _,λx i=>b x (z.mem_iff.mp i)⟩
theorem u2{Ψ:PEv}{E:XE}{ρ:kA}{a:PX}{K:TK}:oB Ψ (.sset a) E ρ K=oB Ψ a E ρ λx n h=>VP (uA x n).vw λz k=>K z k h:=rfl
theorem Xd{ss:List Str}{n:Bool}{Q:T->Bool->Prop}(h:ss.length<64)(q:∀x:List Str,x.Nodup->(∀s,s∈x↔s∈ss)->sortedS x=true->Q (.lst ((x.map PyData.str).map T.d)) true):VP (uA (.d (.list (ss.map PyData.str))) n).vw Q:=by rw[oA];exact⟨_,ss,rfl,pA _,h,q⟩
theorem Af{s:Str}(h:O5 s):qb s=true:=by unfold qb;rw[Array.all_eq_true_iff_forall_mem];intro c x;have:=h.2 c (QBI.mpr x);exact dT (by omega)
theorem A6(a:D)(b:List D):(T.tup [.d a,.lst (b.map T.d)]).er=.tuple [a,.list b]:=by show PyData.tuple [a,.list (ersT (b.map T.d))]=_;rw[FA]
theorem yU:∀{l:List Str}{p:Str},risingS p l=true->(p::l).Pairwise λa b=>a.cps.toList<=b.cps.toList
 |[],p,_=>List.pairwise_singleton _ _|x::r,p,h=>by obtain⟨z,w⟩:=yA h;have v:=yU w;rw[Q8,ltCps_eq,decide_eq_false_iff_not]at z;have z:=List.not_lt.mp z;refine QAb.mpr ⟨λy u=>?_,v⟩;rcases QJ.mp u with rfl|u;exact z;exact List.le_trans z ((QAb.mp v).1 y u)
theorem XX{l:List Str}(h:sortedS l=true):l.Pairwise λa b=>a.cps.toList<=b.cps.toList:=by
 cases l with|nil=>exact .nil|cons x r=>exact yU h
theorem X9{a b:Str}(h:a.cps.toList=b.cps.toList):a=b:=by obtain⟨⟨a⟩⟩:=a;obtain⟨⟨b⟩⟩:=b;cases h;rfl
theorem VU{k:Nat}:∀{l:List D},(∀x∈l,x.canLay0=true/\x.depth<=k)->wP l=true/\WI l<=k
 |[],_=>by simp[wP,WI]|x::l,h=>by obtain⟨v,a⟩:=h x QD;obtain⟨z,w⟩:=VU (l:=l) λy u=>h y (QE _ u);simp only[wP,WI,v,z,Bool.and_self,true_and];omega
theorem rS{k:Nat}{l:List D}(hk:k<60)(h:∀x∈l,x.canLay0=true/\x.depth<=k):JF (.list l):=by obtain⟨y,z⟩:=VU h;refine⟨?_,?_⟩;simp only[WU];exact y;simp only[QAa];omega
theorem F5{l:List Str}(h:∀s∈l,qb s=true):JF (.list (l.map PyData.str)):=rS (k:=1) (by decide) λx y=>by obtain⟨s,z,rfl⟩:=Qe.mp y;simp only[WU,QAa];exact⟨h s z,by omega⟩
section
variable{Ψ:PEv}{E:XE}{ρ:kA}{a b:PX}{K:T->Bool->kA->Prop}{n m:Bool}{Q:T->Bool->Prop}{L:Bool->Prop}{ds:List D}{Z:PEnds}{r:PT}{i:Nat}
theorem V2:oB Ψ (.lset a) E ρ K=oB Ψ a E ρ λx n h=>ZU (uA x n).vw λz k=>K z k h:=rfl
theorem Mn:oB Ψ (.neg (.int 1)) E ρ K=K (.d (.int (-1))) false ρ:=propext ⟨λ⟨_,e,q⟩=>by cases e;exact q,λq=>⟨1,rfl,q⟩⟩
theorem vi:eK Ψ E r Z i (.lst []) true ρ=vA Ψ E r Z (ρ.set i (some (.nv (.d (.list []))))):=mo (ds:=[])
theorem N6{x:Str}:YZ (.bty x "list") (.d (.list ds)) L=L true:=cc rfl rfl
theorem cZ{α:Type}{l:List α}(q:Q (.d (.bool true)) false):pP .all [(.lst ((l.map λ_=>PyData.bool true).map T.d),n)] Q:=by unfold pP yC;rw[GD];refine⟨_,l.map λ_=>true,rfl,by rw[pA,Qb];rfl,?_⟩;rw[QB4];show Q (.d (.bool (l.all λ_=>true))) false;rw[qH.mpr λ_ _=>rfl];exact q
theorem eS{α:Type}{l:List α}(q:Q (.d (.bool false)) false):pP .any [(.lst ((l.map λ_=>PyData.bool false).map T.d),n)] Q:=by rw[xg];refine⟨l.map λ_=>false,by rw[Qb];rfl,?_⟩;rw[QB7];show Q (.d (.bool (l.any λ_=>false))) false;rw[QAh.mpr λ_ _=>QF];exact q
theorem YU{ss:List Str}(h:ss.length<4000)(nd:ss.Nodup)(q:Q (.d (.int ss.length)) false):ZU (uA (.d (.list (ss.map PyData.str))) n).vw Q:=by rw[oA];refine⟨_,ss,rfl,pA _,h,λz y x=>?_⟩;rw[Nat.le_antisymm (vF y λs=>(x s).mp) (vF nd λs=>(x s).mpr)];exact q
theorem M3{a b:List Str}(v:sortedS a=true)(hb:sortedS b=true)(u:a.Nodup)(z:b.Nodup)(h:∀s,s∈a↔s∈b):a=b :=
 ((List.perm_ext_iff_of_nodup u z).mpr λs=>h s).eq_of_pairwise (λx y _ _ k w=>X9 (List.le_antisymm k w)) (XX v) (XX hb)
theorem G3{ss:List Str}(h:ss.length<64)(nd:ss.Nodup)(x:sortedS ss=true)(q:Q (.lst ((ss.map PyData.str).map T.d)) true):VP (uA (.d (.list (ss.map PyData.str))) n).vw Q:=by rw[oA];refine⟨_,ss,rfl,pA _,h,λv y u z=>?_⟩;rw[M3 z x y nd u];exact q
end
section
variable{es:rB}{st:List Str}{a b:Str}{L:Bool->Prop}
theorem Aa(h:kC es st):JF (.list (es.map pr)):=rS (k:=2) (by decide) λx y=>by obtain⟨e,z,rfl⟩:=Qe.mp y;obtain⟨v,u⟩:=h.2 e z;simp only[pr,WU,QAa,wP,WI,v,u];decide
theorem Zd(es:rB)(e:Str×Str):((es.map pr).any λy=>Q3 y (pr e))=decide (e∈es):=by rw[QB7,qW,Wa,decide_eq_true_iff];constructor;rintro⟨x,u,z⟩;have z:Q3 (pr x) (pr e)=true:=z;rw[RS,decide_eq_true_iff]at z;exact z▸u;intro h;exact⟨e,h,by show Q3 (pr e) (pr e)=true;rw[RS];exact dT rfl⟩
theorem XZ(h:kC es st)(m:(a,b)∈es)(l:L true):dC .In (.d (.tuple [.str a,.str b])) (.d (.list (es.map pr))) L:=by obtain⟨z,x⟩:=h.2 _ m;refine⟨.inr ⟨ZE z x,Aa h⟩,?_⟩;have:=Zd es (a,b);rw[dT m]at this;show L ((es.map pr).any λy=>Q3 y (pr (a,b)));rw[this];exact l
theorem j6(h:kC es st)(m:(a,b)∈es)(l:L false):dC .NotIn (.d (.tuple [.str a,.str b])) (.d (.list (es.map pr))) L:=XZ (L:=λk=>L (!k)) h m l
end
section
variable{es:rB}{st:List Str}{g:Str}
section
variable{c:List Str}{n:Str}
theorem Xc(h:Chn es st g c g):c≠[]:=λe=>by
 cases h with|st _ h=>exact h rfl|go=>exact List.append_ne_nil_of_right_ne_nil _ (List.cons_ne_nil _ _) e
theorem t7(h:Chn es st g c n):∃x∈st,(c++[n])[0]?=some x:=by
 induction h with|st h _=>exact⟨_,h,rfl⟩|go _ _ _ y=>obtain⟨x,z,e⟩:=y;exact⟨x,z,by rw[Qx (by rw[QL,Qm];omega)];exact e⟩
theorem vR(h:Chn es st g c n):∀k,k<c.length->∃x y,(c++[n])[k]?=some x/\(c++[n])[k+1]?=some y/\(x,y)∈es:=by
 induction h with
 |st h _=>exact λk hk=>(nomatch hk)
 |@go c n m _ _ w u =>
  intro k hk;rw[QL,Qm]at hk;have e:∀j,j<c.length+1->(c++[n]++[m])[j]?=(c++[n])[j]?:=λj v=>Qx (by rw[QL,Qm];exact v);rw[e k hk];by_cases z:k<c.length;rw[e (k+1) (by omega)];exact u k z;have a:k=c.length:=by omega
  subst a;refine⟨n,m,?_,?_,w⟩;rw[Q1 (QV _),QBH];rfl;rw[Q1 (by rw[QL,Qm];omega),QL,Qm,QBH];rfl
end
end
section
variable{ks:List Str}{s:Str}
theorem rR:∀{cs:List (List Str)},ED cs->(∀c∈cs,c.Nodup)->cs.flatten.Nodup
 |[],_,_=>.nil|c::cs,h,hn=>by rw[wC];refine qJ.mpr ⟨hn c QD,rR h.2 λd x=>hn d (QE _ x),λa z b hb e=>?_⟩;subst e;obtain⟨d,x,y⟩:=QCK.mp hb;exact h.1 d x a z y
def sT(ks:List Str)(s:Str):List Str:=if s∈ks then ks else ks++[s]
theorem eR{x:Str}(h:x∈sT ks s):x∈ks∨x=s:=by unfold sT at h;split at h;exact .inl h;rw[Qg,QI]at h;exact h
theorem iR(ks:List Str)(s:Str):(sT ks s).length<=ks.length+1:=by unfold sT;split;exact wD _;rw[QL,Qm];exact QV _
def AS(ks:List Str):T:=.dct false (ks.map PyData.str) (ks.map λ_=>T.d (.bool true))
theorem OQ(ks:List Str)(z:Str):(lA (ks.map PyData.str) (.str z)).isSome=decide (z∈ks):=by rw[qW,KL,LN,decide_eq_true_iff]
theorem V4(ks:List Str)(s:Str):cM false (ks.map PyData.str) (ks.map λ_=>T.d (.bool true)) (.str s) (.d (.bool true))=AS (sT ks s):=by
 unfold cM sT AS;cases h:lA (ks.map PyData.str) (.str s) with|none=>rw[if_neg λz=>cC.mp h (LN.mpr z),QU,QU];rfl|some n=>rw[if_pos (LN.mp (qB (MD h)))];show T.dct false _ ((ks.map λ_=>T.d (.bool true)).set n (.d (.bool true)))=_;rw[List.map_const',List.set_replicate_self]
theorem ZX{Q:T->Prop}(h:ks.length<sizeLine)(q:Q (AS (sT ks s))):ze (AS ks) (.d (.str s)) (.d (.bool true)) Q:=by refine⟨⟨s,rfl⟩,by rw[QG];exact h,?_⟩;show Q (cM false (ks.map PyData.str) (ks.map λ_=>T.d (.bool true)) (.str s) (.d (.bool true)));rw[V4];exact q
theorem L8{z:Str}{L:Bool->Prop}:dC .In (.d (.str z)) (AS ks) L=L (decide (z∈ks)):=by unfold AS;rw[N8,OQ];exact propext ⟨λh=>h.2,λh=>⟨⟨z,rfl⟩,h⟩⟩
noncomputable def KU(es:rB)(st:List Str)(g:Str)(cut:List Str)(ks:List Str)(o5 o6 o7 o8:Option Sl):kA:=[some (.nv (.d (.list (es.map pr)))),some (.nv (.d (.list (st.map PyData.str)))),some (.nv (.d (.str g))),some (.nv (.d (.list (cut.map PyData.str)))),some (.own (AS ks)),o5,o6,o7,o8]
end
section
variable{Ψ:PEv}{Z:PEnds}{es:rB}{st:List Str}{g:Str}{y ks:List Str}{o5 o6 o7 o8:Option Sl}
theorem Hb{s:Str}(b:ks.length<sizeLine)(a:s∈st)(h:∀x∈ks,Led es st g y x)(q:∀z,z.length<=ks.length+1->(∀x∈z,Led es st g y x)->Z.nx (KU es st g y z (some (.nv (.d (.str s)))) o6 o7 o8)) :
  vA Ψ (λ_=>False) mJ Z (KU es st g y ks (some (.nv (.d (.str s)))) o6 o7 o8):=by
 delta KU at q ⊢;have w:=q ks (wD _) h;delta mJ;simp?[UB,bB,SA,true_or];by_cases v:s=g;rw[dT v];exact w;rw[dF v];by_cases u:s∈y;rw[dT u];exact w;rw[dF u];simp only[WR,↓reduceIte];refine ZX b (q _ (iR _ _) λx k=>(eR k).elim (h x) λe=>e▸.st a (bD.mpr ⟨v,u⟩))
theorem Gb{a b:Str}(i:ks.length<sizeLine)(j:(a,b)∈es)(h:∀x∈ks,Led es st g y x)(q:∀z,z.length<=ks.length+1->(∀x∈z,Led es st g y x)->Z.nx (KU es st g y z o5 o6 (some (.nv (.d (.str a)))) (some (.nv (.d (.str b)))))) :
  vA Ψ (λ_=>False) lJ Z (KU es st g y ks o5 o6 (some (.nv (.d (.str a)))) (some (.nv (.d (.str b))))):=by
 delta KU at q ⊢;have u:=q ks (wD _) h;delta lJ;simp?[↓L8,UB,bB,SA,true_or];by_cases k:a∈ks;rw[dT k];by_cases w:b=g;rw[dT w];exact u;rw[dF w];by_cases v:b∈y;rw[dT v];exact u;rw[dF v];simp only[WR,↓reduceIte];refine ZX i (q _ (iR _ _) λx f=>(eR f).elim (h x) λe=>e▸.ed (h a k) j (bD.mpr ⟨w,v⟩));rw[dF k];exact u
theorem Fb(s:es.length<=126)(Y:ks.length<=2000)(h:∀x∈ks,Led es st g y x)(q:∀u o7 o8,u.length<=ks.length+126->(∀x∈u,Led es st g y x)->Z.nx (KU es st g y u o5 o6 o7 o8)) :
  vA Ψ (λ_=>False) fJ Z (KU es st g y ks o5 o6 o7 o8):=by
 have X:sizeLine=16777216:=QS;delta KU;delta fJ;simp?[↓zA];rw[<- aA];refine lB (λ(p:Str×Str)=>T.d (pr p)) (λl v=>∃u o7 o8,u.length+l.length<=ks.length+126/\(∀p∈l,p∈es)/\(∀x∈u,Led es st g y x)/\v=KU es st g y u o5 o6 o7 o8) ?_ ?_ _ _ ⟨ks,_,_,by omega,λ_ z=>z,h,rfl⟩;rintro v ⟨u,f,e,k,_,i,rfl⟩;exact q u _ _ k i;rintro⟨a,b⟩ l v N o ⟨u,f,e,k,m,i,rfl⟩;rw[QM]at k;refine nC.mk rfl ?_;exact Gb (a:=a) (b:=b) (by omega) (m _ QD) i λw r j=>o _ ⟨w,_,_,by omega,λp n=>m p (QE _ n),j,rfl⟩
end
section
variable{K:T->List T->Prop}{Ψ:PEv}
noncomputable def SE:PSp where
 md:=[]
 run:=λy Q _=>∃(x:rB) (st:List Str) (g:Str) (cut:List Str),y=[.d (.list (x.map pr)),.d (.list (st.map PyData.str)),.d (.str g),.d (.list (cut.map PyData.str))]/\(x.length<=126/\st.length<=11/\¬ ∃a,(a,g)∈x/\Led x st g cut a)/\Q (.d (.bool false)) []
 mono:=λh _ z=>by obtain⟨x,st,g,cut,e,l,q⟩:=z;exact⟨x,st,g,cut,e,l,h _ _ q⟩
theorem k4{es:rB}{st:List Str}{g:Str}{cut:List Str}{E:XE}(y:es.length<=126)(x:st.length<=11)(h:¬ ∃a,(a,g)∈es/\Led es st g cut a)(q:K (.d (.bool false)) []):jD SE [.d (.list (es.map pr)),.d (.list (st.map PyData.str)),.d (.str g),.d (.list (cut.map PyData.str))] K E:=⟨es,st,g,cut,rfl,⟨y,x,h⟩,q⟩
theorem Ia(ds Q E)(h:SE.run ds Q E):ds.length=MK.length/\vA Ψ (λ_=>False) yP (MA SE MK.length Q) (nA pV SE.md ds):=by obtain⟨w,st,g,cut,rfl,⟨F,Z,J⟩,q⟩:=h;have M:sizeLine=16777216:=QS;refine iA [some (.nv (.d (.list (w.map pr)))),some (.nv (.d (.list (st.map PyData.str)))),some (.nv (.d (.str g))),some (.nv (.d (.list (cut.map PyData.str)))),none,none,none,none,none] rfl rfl rfl ?_;delta yP;simp?[↓zA];rw[<- aA];refine lB (λ(s:Str)=>T.d (.str s)) (λl u=>∃y k,y.length+l.length<=11/\(∀s∈l,s∈st)/\(∀x∈y,Led w st g cut x)/\u=KU w st g cut y k none none none) ?_ ?_ _ _ ⟨[],_,by rw[Qy];omega,λ_ z=>z,λ_ z=>(nomatch z),rfl⟩;rintro u ⟨y,k,f,_,i,rfl⟩;rw[Qy]at f;delta KU;simp?[↓zA];refine lB (λ(i:Nat)=>T.d (.int (i:Int))) (λl u=>∃y o6 o7 o8,y.length+126 * l.length<=1271/\(∀x∈y,Led w st g cut x)/\u=KU w st g cut y (aF k) o6 o7 o8) ?_ ?_ _ _ ⟨y,_,_,_,by rw[qS];show y.length+126 * 10<=1271;omega,i,rfl⟩;rintro u ⟨y,C,Y,X,_,i,rfl⟩;delta KU;simp?[↓zA];rw[<- aA pr w];refine iB (λ(p:Str×Str)=>T.d (pr p)) (λ_=>T.d (.bool false)) w _ _ (λx G R W=>?_) (by rw[Qy];omega) ?_;obtain⟨a,b⟩:=x;delta pr;simp?[↓L8];by_cases r:a∈y;rw[dT r];simp?[↓zA];rw[dF λ(e:b=g)=>J ⟨a,e▸G,i a r⟩];exact W;rw[dF r];exact W;rw[Qo,aA];refine eS ?_;simp?[↓zA];exact q;rintro j l u N o ⟨y,C,Y,X,L,i,rfl⟩;rw[QM]at L;exact Fb (o6:=some (.nv (.d (.int (j:Int))))) (o7:=Y) (o8:=X) F (by omega) i λv B A Z n=>o _ ⟨v,_,B,A,by omega,n,rfl⟩;rintro s l u N o ⟨y,k,f,m,i,rfl⟩;rw[QM]at f;exact Hb (s:=s) (by omega) (m s QD) i λv Z n=>o _ ⟨v,_,by omega,λp I=>m p (QE _ I),n,rfl⟩
def MB:PSp where
 md:=[]
 run:=λy Q _=>∃x:List Str,y=[.d (.list (x.map PyData.str))]/\x.length<=1000/\Q (.d (.bool true)) []
 mono:=λh _ z=>by obtain⟨x,e,l,q⟩:=z;exact⟨x,e,l,h _ _ q⟩
theorem UM{ss:List Str}{E:XE}(h:ss.length<=1000)(q:K (.d (.bool true)) []):jD MB [.d (.list (ss.map PyData.str))] K E:=⟨ss,rfl,h,q⟩
theorem GY(ds Q E)(h:MB.run ds Q E):ds.length=bH.length/\vA Ψ (λ_=>False) uJ (MA MB bH.length Q) (nA iN MB.md ds):=by obtain⟨y,rfl,v,q⟩:=h;have u:sizeLine=16777216:=QS;refine iA [some (.nv (.d (.list (y.map PyData.str))))] rfl rfl rfl ?_;delta uJ;simp?[↓EL,↓N6];rw[<- aA];refine iB (λ(s:Str)=>T.d (.str s)) (λ_=>T.d (.bool true)) y _ _ (λx _ R z=>?_) (by rw[Qy];omega) ?_;simp?[↓Vi,↓EL,↓Kg];exact z;rw[Qo,aA];refine cZ ?_;simp?[↓zA];exact q
def Y6(c:List Str)(es:rB)(st:List Str)(g:Str):kA:=[some (.nv (.d (.list (c.map PyData.str)))),some (.nv (.d (.list (es.map pr)))),some (.nv (.d (.list (st.map PyData.str)))),some (.nv (.d (.str g)))]
end
section
variable{Ψ:PEv}{Z:PEnds}{c:List Str}{es:rB}{st:List Str}{g:Str}{q:PT}
theorem Xl(v:Ψ.sp "_law_texts"=MB){x:Str}(z:c.length<=1000)(h:c[0]?=some x)(y:x∈st)(u:g∉c)(k:vA Ψ (λ_=>False) q Z (Y6 c es st g)) :
  vA Ψ (λ_=>False) (.seq (.ife (.or (.not (.call "_law_texts" (.nq (.var 0) .nr))) (.or (.cmp .Eq (.bi .len (.nq (.var 0) .nr)) (.int 0)) (.or (.cmp .NotIn (.idx (.var 0) (.int 0)) (.var 2)) (.cmp .In (.var 3) (.var 0))))) (.seq (.ret (.bl false)) .nil) .nil) q) Z (Y6 c es st g):=by
 have a:eE (c.map PyData.str) 0=some (.str x):=GG (j:=0) (by rw[Qa,h];rfl);have w:¬ (c.length:Int)=0:=by have:=(Qd.mp h).1;omega
 delta Y6 at k ⊢;simp?[↓tJ,↓rA (md:=[]) v rfl rfl];refine UM z ?_;simp?[↓tJ,↓vO a,UB,bB,SA,true_or,QG,dF w,dT y,dF u];exact k
theorem Vl(y:kC es st){x:Str}(w:c.length<=1000)(h:c[c.length - 1]?=some x)(z:(x,g)∈es)(nd:c.Nodup)(k:vA Ψ (λ_=>False) q Z (Y6 c es st g)) :
  vA Ψ (λ_=>False) (.seq (.ife (.or (.cmp .NotEq (.lset (.var 0)) (.bi .len (.nq (.var 0) .nr))) (.cmp .NotIn (.tup (.nq (.idx (.var 0) (.neg (.int 1))) (.nq (.var 3) .nr))) (.var 1))) (.seq (.ret (.bl false)) .nil) .nil) q) Z (Y6 c es st g):=by
 have v:sizeLine=16777216:=QS;have u:eE (c.map PyData.str) (-1)=some (.str x):=by have:=(Qd.mp h).1;unfold eE BQ;rw[QG,if_neg (by decide),if_pos (by omega),Option.bind_some,show(-1+(c.length:Int)).toNat=c.length - 1 by omega,Qa,h];rfl
 delta Y6 at k ⊢;simp?[↓tJ,↓V2];refine YU (by omega) nd ?_;simp?[↓tJ,↓Mn,↓vO u,QG];refine⟨by omega,j6 y z ?_⟩;simp?[↓zA];exact k
theorem Kl{Q:T->List T->Prop}(v:kC es st)(m:c.length<=1000)(a:∀k,k+1<c.length->∃x y,c[k]?=some x/\c[k+1]?=some y/\(x,y)∈es)(k:Q (.d (.bool true)) []) :
  vA Ψ (λ_=>False) (.seq (.ret (.bi .all (.nq (.comp [] ["_law_k"] (.nm 0) .rng1 (.nq (.bin .Sub (.bi .len (.nq (.var 0) .nr)) (.int 1)) .nr) .nop (.cmp .In (.tup (.nq (.idx (.var 1) (.var 0)) (.nq (.idx (.var 1) (.bin .Add (.var 0) (.int 1))) .nr))) (.var 2))) .nr))) .nil) (eZ Q) (Y6 c es st g):=by
 have l:sizeLine=16777216:=QS;delta Y6;simp?[QG];refine⟨by omega,by omega,?_⟩;refine iB (λ(i:Nat)=>T.d (.int (i:Int))) (λ_=>T.d (.bool true)) _ _ _ (λi h R b=>?_) (by rw[Qy,qS];omega) ?_;have h:=WS.mp h;obtain⟨x,y,u,z,w⟩:=a i (by omega);have f:eE (c.map PyData.str) (i:Int)=some (.str x):=GG (by rw[Qa,u];rfl);have e:eE (c.map PyData.str) ((i:Int)+1)=some (.str y):=GG (j:=i+1) (by rw[Qa,z];rfl);simp?[↓vO f,↓vO e];exact⟨by omega,XZ v w b⟩;rw[Qo,aA];refine cZ ?_;simp?[↓zA];exact k
end
section
variable{K:T->List T->Prop}{Ψ:PEv}
noncomputable def AE:PSp where
 md:=[]
 run:=λu Q _=>∃(c:List Str) (y:rB) (st:List Str) (g:Str),u=[.d (.list (c.map PyData.str)),.d (.list (y.map pr)),.d (.list (st.map PyData.str)),.d (.str g)]/\(kC y st/\c.length<=1000/\Chn y st g c g/\c.Nodup/\∀x∈c,x≠g)/\Q (.d (.bool true)) []
 mono:=λh _ z=>by obtain⟨c,y,st,g,e,l,q⟩:=z;exact⟨c,y,st,g,e,l,h _ _ q⟩
theorem x4{c:List Str}{es:rB}{st:List Str}{g:Str}{E:XE}(h:kC es st/\c.length<=1000/\Chn es st g c g/\c.Nodup/\∀x∈c,x≠g)(q:K (.d (.bool true)) []):jD AE [.d (.list (c.map PyData.str)),.d (.list (es.map pr)),.d (.list (st.map PyData.str)),.d (.str g)] K E:=⟨c,es,st,g,rfl,h,q⟩
theorem yb(r:Ψ.sp "_law_texts"=MB)(ds Q E)(h:AE.run ds Q E):ds.length=gH.length/\vA Ψ (λ_=>False) nJ (MA AE gH.length Q) (nA KN AE.md ds):=by obtain⟨c,s,st,g,rfl,⟨l,a,w,nd,ng⟩,q⟩:=h;have n:=List.length_pos_iff.mpr (Xc w);obtain⟨x,m,f⟩:=t7 w;obtain⟨y,z,e,b,p⟩:=vR w (c.length - 1) (by omega);rw[Qx n]at f;rw[Qx (by omega)]at e;rw[show c.length - 1+1=c.length by omega,Q1 (QV _),QBH]at b;cases b;refine iA (Y6 c s st g) rfl rfl rfl ?_;delta nJ;refine Xl r a f m (λz=>ng g z rfl) (Vl l a e p nd (Kl l a (λk hk=>?_) q));obtain⟨u,v,j,i,o⟩:=vR w k (by omega);rw[Qx (by omega)]at j i;exact⟨u,v,j,i,o⟩
def GF:PSp where
 md:=[]
 run:=λy Q _=>∃x:List (List Str),y=[.d (.list (x.map YB))]/\(x.flatten.Nodup/\x.flatten.length<=1000)/\Q (.d (.bool true)) []
 mono:=λh _ z=>by obtain⟨x,e,l,q⟩:=z;exact⟨x,e,l,h _ _ q⟩
theorem t4{cs:List (List Str)}{E:XE}(x:cs.flatten.Nodup)(h:cs.flatten.length<=1000)(q:K (.d (.bool true)) []):jD GF [.d (.list (cs.map YB))] K E:=⟨cs,rfl,⟨x,h⟩,q⟩
theorem xb(ds Q E)(h:GF.run ds Q E):ds.length=lH.length/\vA Ψ (λ_=>False) oJ (MA GF lH.length Q) (nA VN GF.md ds):=by
 obtain⟨y,rfl,⟨nd,a⟩,q⟩:=h;have w:sizeLine=16777216:=QS;refine iA [some (.nv (.d (.list (y.map YB)))),none,none] rfl rfl rfl ?_;delta oJ;simp?[↓vi];refine⟨by omega,?_⟩;rw[<- aA];refine lB (λc=>T.d (YB c)) (λl z=>∃(x:List Str) (u:Option Sl),x++l.flatten=y.flatten/\z=[some (.nv (.d (.list (y.map YB)))),some (.nv (.d (.list (x.map PyData.str)))),u]) ?_ ?_ _ _ ⟨[],_,rfl,rfl⟩;rintro z ⟨x,u,e,rfl⟩;rw[List.flatten_nil,wG]at e;subst e;simp?[↓V2];refine YU (by omega) nd ?_;simp?[QG];exact q;rintro c l z N v ⟨x,u,e,rfl⟩;rw[wC,<- qR]at e;have k:x.length+c.length<=1000:=by have:=congrArg qq e;rw[QL,QL]at this;omega
 show vA Ψ (λ_=>False) fG _ [some (.nv (.d (.list (y.map YB)))),some (.nv (.d (.list (x.map PyData.str)))),some (.nv (.d (.list (c.map PyData.str))))];delta fG;simp?[↓jn,QG];rw[<- QU];exact⟨by omega,v _ ⟨x++c,_,e,rfl⟩⟩
def kv(nd:List (Str×Int)):List (D×D):=nd.map λp=>(.str p.1,.int p.2)
def dN(nd:List (Str×Int)):T:=.dct false (nd.map λp=>.str p.1) ((nd.map λp=>PyData.int p.2).map T.d)
end
section
variable{Ψ:PEv}{E:XE}{ρ:kA}{a:PX}{K:TK}{n m:Bool}{Q:T->Bool->Prop}{L:Bool->Prop}{nd:List (Str×Int)}{R:T->Prop}{z:Str}
theorem Mh{c:PX}{s t r:PT}{o:Option Sl}{σ:kA}{Z:PEnds}:vA Ψ E (.seq (.ife c s t) r) Z (o::σ)=OK Ψ c E (o::σ) λk x=>if k=true then vA Ψ E s { Z with nx:=λh=>vA Ψ E r Z h } x else vA Ψ E t { Z with nx:=λh=>vA Ψ E r Z h } x:=rfl
theorem Vm{i:Nat}{t:T}{N:kA->Prop}:lI (.nm i) t ρ N=N (ρ.set i (some (.nv t))):=rfl
theorem Xh{f:Bi}{x:PX}{L:Bool->kA->Prop}:OK Ψ (.bi f x) E ρ L=oB Ψ (.bi f x) E ρ λt _ h=>V3 t λb=>L b h:=rfl
theorem xm{h:CmpOp}{t:T}:dC h t (uA (.lst []) true) L=dC h t (.d (.list [])) L:=rfl
theorem v9:oB Ψ (.dof a) E ρ K=oB Ψ a E ρ λx n h=>v7 (uA x n).vw λz k=>K z k h:=rfl
theorem j9(x:nd≠[])(h:(nd.map λp=>p.1).Nodup)(q:Q (dN nd) true):v7 (uA (.d (.list (nd.map NE))) n).vw Q:=by
 rw[oA];refine⟨_,nd.map λp=>(p.1,.int p.2),rfl,?_,λz=>x (QAS.mp z),?_,?_⟩;rw[pA,Qb];rfl;rw[Qb];exact h;have u:((nd.map λp=>(p.1,PyData.int p.2)).map λp=>PyData.str p.1)=nd.map λp=>.str p.1:=by rw[Qb];rfl
 have y:((nd.map λp=>(p.1,PyData.int p.2)).map λp=>p.2)=nd.map λp=>.int p.2:=by rw[Qb];rfl
 rw[u,y];exact q
theorem MZ:uA (dN nd) true=.d (.dict (kv nd)):=by show T.d (.dict ((nd.map λp=>.str p.1).zip (ersT ((nd.map λp=>PyData.int p.2).map T.d))))=_;rw[FA,QBl];rfl
theorem Ul:(kv nd).map (·.1)=(nd.map λp=>p.1).map PyData.str:=by unfold kv;rw[Qb,Qb];rfl
theorem XU(h:nd≠[]):xD (kv nd)=some false:=by
 cases nd with|nil=>exact absurd rfl h|cons p r=>rfl
theorem Nc(x:nd≠[])(h:z∈nd.map λp=>p.1)(q:L false):dC .NotIn (.d (.str z)) (uA (dN nd) true) L:=by rw[MZ];refine⟨false,XU x,⟨z,rfl⟩,?_⟩;rw[Ul,OQ,dT h];exact q
theorem jo:∀{nd:List (Str×Int)}{z:Str}{n:Int},(nd.map λp=>p.1).Nodup->(z,n)∈nd->∃l,lA ((kv nd).map (·.1)) (.str z)=some l/\((kv nd).map (·.2))[l]?=some (.int n)
 | (y,k)::r,z,n,h,m=>by obtain⟨b,v⟩:=Qk.mp h;show ∃l,lA (PyData.str y::(kv r).map (·.1)) (.str z)=some l/\(PyData.int k::(kv r).map (·.2))[l]?=some (PyData.int n);unfold lA;rcases QJ.mp m with e|e;cases e;exact⟨0,if_pos rfl,rfl⟩;obtain⟨l,u,x⟩:=jo v e;refine⟨l+1,?_,x⟩;rw[if_neg λw=>?_,u];rfl;injection w with w;exact b (w▸Qe.mpr ⟨_,e,rfl⟩)
theorem lj{v:Int}(h:(nd.map λp=>p.1).Nodup)(x:(z,v)∈nd)(q:R (.d (.int v))):CC (dN nd) true (.d (.str z)) m R:=by obtain⟨l,u,y⟩:=jo h x;have:=l9 (n:=false) (m:=m) (XU λw=>by rw[w]at x;cases x) ⟨z,rfl⟩ u y q;unfold CC at this ⊢;rw[oA]at this;rw[MZ];exact this
end
noncomputable def gM(h:List Rw)(es:rB)(sr:List Str)(nd:List (Str×Int))(A:List Str)(o5 o6:Option Sl):kA:=[some (.nv (.d (.list (h.map dE)))),some (.nv (.d (.list (es.map pr)))),some (.nv (.d (.list (sr.map PyData.str)))),some (.nv (.d (.list (nd.map NE)))),some (.own (.lst ((A.map PyData.str).map T.d))),o5,o6]
theorem Db{h:List Rw}{es:rB}{sr:List Str}{nd:List (Str×Int)}{A:List Str}{o5 o6 v:Option Sl}:WQ (gM h es sr nd A o5 o6) 5 v=gM h es sr nd A v o6:=rfl
def TN(x:Str)(cs:List (List Str)):Option Sl:=some (.nv (.d (.tuple [.str x,.list (cs.map YB)])))
section
variable{Ψ:PEv}{Z:PEnds}{h:List Rw}{es:rB}{sr:List Str}{nd:List (Str×Int)}{A:List Str}{x:Str}{cs:List (List Str)}{q:PT}{o6:Option Sl}
theorem Jl(k:vA Ψ (λ_=>False) q Z (gM h es sr nd A (TN x cs) o6)) :
  vA Ψ (λ_=>False) (.seq (.ife (.or (.not (.isi (.var 5) (.bty "tuple" "tuple"))) (.or (.cmp .NotEq (.bi .len (.nq (.var 5) .nr)) (.int 2)) (.not (.isi (.idx (.var 5) (.int 0)) (.bty "str" "str"))))) (.seq (.ret (.bl false)) .nil) .nil) q) Z (gM h es sr nd A (TN x cs) o6):=by
 delta gM TN at k ⊢;simp?[↓tJ,↓tI,↓EL,↓Zg,↓Kg,↓mG];exact k
theorem il(y:nd≠[])(v:x∉A)(z:x∈nd.map λp=>p.1)(u:(nd.map λp=>p.1).Nodup)(k:vA Ψ (λ_=>False) q Z (gM h es sr nd A (TN x cs) o6)) :
  vA Ψ (λ_=>False) (.seq (.ife (.or (.cmp .In (.idx (.var 5) (.int 0)) (.var 4)) (.or (.cmp .NotIn (.idx (.var 5) (.int 0)) (.dof (.var 3))) (.not (.isi (.idx (.var 5) (.int 1)) (.bty "list" "list"))))) (.seq (.ret (.bl false)) .nil) .nil) q) Z (gM h es sr nd A (TN x cs) o6):=by
 delta gM TN at k ⊢;simp?[↓tJ,↓mG,UB,bB,SA,true_or,dF v,↓v9];refine j9 y u (Nc y z ?_);simp?[↓tI,↓EL,↓N6,↓pJ];exact k
theorem ml(f:Ψ.sp "_law_apart"=GF)(e:x∈sr->cs=[])(u:(nd.map λp=>p.1).Nodup)(b:x∉sr->(x,(cs.length:Int))∈nd/\cs.flatten.Nodup/\cs.flatten.length<=1000)(k:vA Ψ (λ_=>False) q Z (gM h es sr nd A (TN x cs) o6)) :
  vA Ψ (λ_=>False) (.seq (.ife (.cmp .In (.idx (.var 5) (.int 0)) (.var 2)) (.seq (.ife (.cmp .NotEq (.idx (.var 5) (.int 1)) (.lst .nr)) (.seq (.ret (.bl false)) .nil) .nil) .nil) (.seq (.ife (.or (.cmp .NotEq (.bi .len (.nq (.idx (.var 5) (.int 1)) .nr)) (.idx (.dof (.var 3)) (.idx (.var 5) (.int 0)))) (.not (.call "_law_apart" (.nq (.idx (.var 5) (.int 1)) .nr)))) (.seq (.ret (.bl false)) .nil) .nil) .nil)) q) Z (gM h es sr nd A (TN x cs) o6):=by
 delta gM TN at k ⊢;simp?[↓Mh,↓mG,UB,bB,SA,true_or];by_cases d:x∈sr;rw[dT d];have:=e d;subst this;have o:JF (.list []):=rS (k:=0) (by decide) λ_ z=>(nomatch z)
 simp?[↓pJ,↓xm,qj];refine⟨Q9 _,o,o,?_⟩;rw[QBL _ o.1];exact k;rw[dF d];obtain⟨y,a,v⟩:=b d;simp?[↓tJ,↓mG,↓pJ,↓v9];refine j9 (λw=>by rw[w]at y;cases y) u ?_;simp?[↓ko,↓mG];refine lj u y ?_;simp?[↓tI,↓pJ,QG,↓rA (md:=[]) f rfl rfl];refine t4 a v ?_;simp?[↓zA];exact k
theorem gl(e:Ψ.sp "_law_chain"=AE)(u:kC es sr){c:List Str}(v:c.length<=1000)(w:Chn es sr x c x/\c.Nodup/\∀y∈c,y≠x)(b:∀y∈c,y∈A)(k:Z.nx (gM h es sr nd A (TN x cs) (some (.nv (.d (.list (c.map PyData.str))))))) :
  vA Ψ (λ_=>False) pF Z (gM h es sr nd A (TN x cs) (some (.nv (.d (.list (c.map PyData.str)))))):=by
 have f:sizeLine=16777216:=QS;delta gM TN at k ⊢;delta pF;simp?[↓tJ,↓tI,↓mG,↓rA (md:=[]) e rfl rfl];refine x4 ⟨u,v,w⟩ ?_;simp?[↓Xh];rw[<- aA PyData.str c];refine iB (λs=>T.d (.str s)) (λ_=>T.d (.bool false)) c [] _ (λy z R a=>?_) (by show 0+c.length<=_;omega) ?_;simp?[UB,bB,SA,true_or,dT (b y z)];exact a;rw[Qo,aA];refine eS ?_;simp?[↓zA];exact k
theorem ul(e:Ψ.sp "_law_chain"=AE)(v:kC es sr)(n:A.length<=1000)(a:∀c∈cs,c.length<=1000/\(Chn es sr x c x/\c.Nodup/\∀y∈c,y≠x)/\∀y∈c,y∈A)(k:∀o6,Z.nx (gM h es sr nd (A++[x]) (TN x cs) o6)) :
  vA Ψ (λ_=>False) aE Z (gM h es sr nd A (TN x cs) o6):=by
 have j:sizeLine=16777216:=QS;delta gM TN;delta aE;simp?[↓pJ];rw[<- aA YB cs];refine lB (λc=>T.d (YB c)) (λl u=>∃o6,(∀c∈l,c∈cs)/\u=gM h es sr nd A (TN x cs) o6) ?_ ?_ _ _ ⟨_,λ_ z=>z,rfl⟩;rintro u ⟨o6,_,rfl⟩;delta gM TN at k ⊢;simp?[↓mG];refine⟨by rw[QG,QG];omega,?_⟩;have:=k (aF o6);rw[QU,QU]at this;exact this;rintro c l u N b ⟨o6,m,rfl⟩;obtain⟨i,g,f⟩:=a c (m c QD);exact gl e v i g f (b _ ⟨_,λd w=>m d (QE _ w),rfl⟩)
end
section
variable{es:rB}{sr F:List Str}{nd:List (Str×Int)}{g:Str}{Ψ:PEv}{ds:List D}
noncomputable def BF:PSp where
 md:=[]
 run:=λds Q _=>∃(es:rB) (sr:List Str) (nd:List (Str×Int)) (x:List Rw) (F:List Str),ds=[.d (.list (x.map dE)),.d (.list (es.map pr)),.d (.list (sr.map PyData.str)),.d (.list (nd.map NE))]/\(GI es sr nd x F/\kC es sr/\nd.length<=90/\(nd.map λp=>p.1).Nodup)/\Q (.d (.bool true)) []
 mono:=λh _ z=>by obtain⟨es,sr,nd,x,F,e,l,q⟩:=z;exact⟨es,sr,nd,x,F,e,l,h _ _ q⟩
theorem y4{h:List Rw}{K:T->List T->Prop}{E:XE}(l:GI es sr nd h F/\kC es sr/\nd.length<=90/\(nd.map λp=>p.1).Nodup)(q:K (.d (.bool true)) []):jD BF [.d (.list (h.map dE)),.d (.list (es.map pr)),.d (.list (sr.map PyData.str)),.d (.list (nd.map NE))] K E:=⟨es,sr,nd,h,F,rfl,l,q⟩
theorem l7{A:List Str}{c:List Str}{n:Str}(h:Chn (gF es A) sr g c n):∀y∈c,y∈A:=by
 induction h with
 |st _ _=>exact λ_ z=>(nomatch z)
 |go _ _ e x=>intro y u;rcases Qg.mp u with z|z;exact x y z;rw[QI.mp z];exact(zI.mp e).2
theorem x6{ns:List Str}{cs:List (List Str)}(x:cs.flatten.Nodup)(z:∀c∈cs,∀y∈c,y∈ns):cs.flatten.length<=ns.length:=vF x λs h=>by obtain⟨c,v,u⟩:=QCK.mp h;exact z c v s u
theorem Ea(L:Ψ.sp "_law_apart"=GF)(J:Ψ.sp "_law_chain"=AE)(ds Q E)(h:BF.run ds Q E):ds.length=LF.length/\vA Ψ (λ_=>False) ZH (MA BF LF.length Q) (nA kM BF.md ds):=by
 obtain⟨es,sr,nd,i,F,rfl,⟨k,B,O,Z⟩,q⟩:=h;refine iA [some (.nv (.d (.list (i.map dE)))),some (.nv (.d (.list (es.map pr)))),some (.nv (.d (.list (sr.map PyData.str)))),some (.nv (.d (.list (nd.map NE)))),none,none,none] rfl rfl rfl ?_;have R:=k.len;have P:=k.rlen;delta ZH;simp?[↓tI,↓EL,↓N6];refine⟨Q9 _,?_⟩;rw[<- aA dE i];refine lB (λr=>T.d (dE r)) (λl m=>∃(p:List Rw) (o b:Option Sl),i=p++l/\m=gM i es sr nd (p.map λr=>r.1) o b) ?_ ?_ _ _ ⟨[],_,_,rfl,rfl⟩;rintro m ⟨p,o,b,_,rfl⟩;delta gM;simp?[↓zA];exact q
 ·rintro⟨x,v⟩ l m N G ⟨p,o,b,e,rfl⟩
  have A:x∈F:=by rw[k.e,e,QU];exact QW _ QD
  obtain⟨M,a⟩:=LU (k.held x A);have I:x∉p.map λr=>r.1:=λz=>by have:=k.ndp;rw[k.e,e,QU]at this;exact(qJ.mp this).2.2 x z x QD rfl
  have Y:(p.map λr=>r.1).length<=90:=by have:=congrArg qq e;rw[QL]at this;rw[QG];omega
  have u:=k.row p x v l e;have X:x∉sr->∀c∈v,∀y∈c,y∈p.map λr=>r.1:=λd c w=>l7 ((u d).2.2 c w).1;have W:x∉sr->v.flatten.Nodup:=λd=>rR (u d).2.1 λc w=>((u d).2.2 c w).2.1;have fl:x∉sr->v.flatten.length<=90:=λd=>QY (x6 (W d) (X d)) Y;have f:x∈sr->v=[]:=λd=>k.non (x,v) (by rw[e];exact QW _ QD) d;rw[Vm,Db,show(some (Sl.nv (T.d (dE (x,v)))):Option Sl)=TN x v from rfl];delta mI;refine Jl ?_;refine il (λz=>by rw[z]at a;cases a) I (Qe.mpr ⟨_,a,rfl⟩) Z ?_;refine ml L f Z (λd=>⟨?_,W d,QY (fl d) (by decide)⟩) ?_
  rotate_left
  refine ul J B (by omega) (λc w=>?_) λb=>?_
  rotate_left
  refine G _ ⟨p++[(x,v)],TN x v,b,by rw[qR];exact e,?_⟩;rw[QU];rfl;obtain⟨⟨n,s,j⟩,_⟩:=u d;rw[j];exact s;have d:x∉sr:=λd=>by rw[f d]at w;cases w
  obtain⟨s,j,K⟩:=(u d).2.2 c w;have S:c.length<=90:=QY (vF j (X d c w)) Y;exact⟨by omega,⟨s.sub (λe C=>(zI.mp C).1) λ_ h=>h,j,K⟩,X d c w⟩
theorem Ve{es:List D}{n m:Bool}{W:List T->Prop}:pL .zip2 [(.d (.list ds),n),(.d (.list es),m)] W=W ((ds.zip es).map λp=>.d (.tuple [p.1,p.2])):=by unfold pL yC;rw[oA,yC,oA,yC];refine propext ⟨λ⟨u,z,d,e,y,x,h,k⟩=>?_,λk=>⟨_,_,ds,es,rfl,pA ds,pA es,k⟩⟩;injection y with a b;injection b with b;injection a with a;injection b with b;subst a b;rw[pA]at x h;cases x;cases h;exact k
theorem Om{E:XE}{ρ:kA}{a b h:PX}{t:Str}{x:T}{R:Option T->Prop}:bG Ψ E [] [t] (.nm 0) (.or a b) h ρ x R=OK Ψ (.or a b) E (some (.nv x)::lockA ρ) λk z=>if k=true then oB Ψ h E z λy n _=>YC y n (R (some y)) else R none:=rfl
theorem vm{h:CmpOp}{t:T}{L:Bool->Prop}:dC h t (uA (.lst (ds.map T.d)) true) L=dC h t (.d (.list ds)) L:=by show dC h t (.d (.list (ersT (ds.map T.d)))) L=_;rw[FA]
theorem Led.sub{es':rB}{st:List Str}{cut:List Str}(h:∀e∈es,e∈es'){a:Str}(l:Led es st g cut a):Led es' st g cut a:=by
 induction l with|st a b=>exact .st a b|ed _ e b x=>exact .ed x (h _ e) b
def OS(nd:List (Str×Int))(F:List Str):List (Str×Int):=nd.filter λp=>!decide (p.1∈F)
def Ph(es:rB)(sr F:List Str)(q:(Str×List Str)×(Str×Int)):Prop:=q.1.1=q.2.1/\(∃h,Good (gF es F) sr q.2.1 h q.1.2)/\(q.1.2.length:Int)<q.2.2
theorem p0(nm:∀x n,(x,n)∈nd->x∉F->¬ rG es sr x F n){v:List (Str×List Str)}(k:Paired (YI es sr F) (HJ nd F) v):v.length=(OS nd F).length/\∀q∈v.zip (OS nd F),Ph es sr F q:=by
 have u:∀p∈OS nd F,¬ rG es sr p.1 F p.2:=λp h=>by obtain⟨a,e⟩:=Qj.mp h;refine nm p.1 p.2 a λz=>?_;rw[dT z]at e;cases e
 rw[show HJ nd F=(OS nd F).map λp=>p.1 from rfl]at k;generalize OS nd F=l at k u;induction l generalizing v with
 |nil=>cases k;exact⟨rfl,λ_ z=>(nomatch z)⟩
 |cons p l i =>
  cases v with
  |nil=>cases k|cons y v =>
   rw[QO]at k;cases k with|cons h t=>obtain⟨a,o,b⟩:=h;obtain⟨m,j⟩:=i t λq w=>u q (QE _ w);refine⟨congrArg Nat.succ m,λq w=>?_⟩;rw[WG]at w;rcases QJ.mp w with rfl|w;have f:=u p QD;rw[tQ b,b.len]at f;refine⟨a,⟨o,b⟩,?_⟩;show(y.2.length:Int)<p.2;omega;exact j q w
noncomputable def yK(h:List (Str×List Str))(F:List Str)(es:rB)(sr:List Str)(nd:List (Str×Int))(o5 o6 o7 o8:Option Sl):kA:=[some (.nv (.d (.list (h.map O2)))),some (.nv (.d (.list (F.map PyData.str)))),some (.nv (.d (.list (es.map pr)))),some (.nv (.d (.list (sr.map PyData.str)))),some (.nv (.d (.list (nd.map NE)))),o5,o6,o7,o8]
def nQ(nd:List (Str×Int)):Option Sl:=some (.nv (.d (.list (nd.map NE))))
def B8(es:rB):Option Sl:=some (.nv (.d (.list (es.map pr))))
def Z0(x:Str)(cut:List Str):Option Sl:=some (.nv (.d (.tuple [.str x,.list (cut.map PyData.str)])))
def lY(x:Str)(n:Int):Option Sl:=some (.nv (.d (.tuple [.str x,.int n])))
end
section
variable{Ψ:PEv}{Z:PEnds}{z:List (Str×List Str)}{F:List Str}{es:rB}{sr:List Str}{nd:List (Str×Int)}{q:PT}{o5 o6 o7 o8:Option Sl}{x:Str}{n:Int}{h:List Str}{L:List (Str×Int)}
theorem xl(w:nd.length<=100)(k:vA Ψ (λ_=>False) q Z (yK z F es sr nd (nQ (OS nd F)) o6 o7 o8)) :
  vA Ψ (λ_=>False) (.seq (.set 5 (.comp [] ["_law_name","_law_number"] (.tp [0,1]) .val (.nq (.var 4) .nr) (.cmp .NotIn (.var 0) (.var 3)) (.tup (.nq (.var 0) (.nq (.var 1) .nr))))) q) Z (yK z F es sr nd o5 o6 o7 o8):=by
 have u:sizeLine=16777216:=QS;delta yK nQ at k ⊢;simp?[↓zA];rw[<- aA NE nd];refine UA (λp=>T.d (NE p)) (λp=>T.d (NE p)) (λp=>!decide (p.1∈F)) nd [] _ (λx v R y=>?_) (by show 0+nd.length<=_;omega) ?_;obtain⟨x,n⟩:=x;delta NE at y ⊢;simp?[↓lh,UB,bB,SA,true_or];by_cases d:x∈F;rw[dT d]at y ⊢;exact y;rw[dF d]at y ⊢;simp?[WR,↓reduceIte];exact⟨by omega,y⟩;rw[Qo,aA NE];simp?[↓zA];exact k
theorem yl(y:z.length=L.length)(k:vA Ψ (λ_=>False) q Z (yK z F es sr nd (nQ L) o6 o7 o8)) :
  vA Ψ (λ_=>False) (.seq (.ife (.or (.not (.isi (.var 0) (.bty "list" "list"))) (.cmp .NotEq (.bi .len (.nq (.var 0) .nr)) (.bi .len (.nq (.var 5) .nr)))) (.seq (.ret (.bl false)) .nil) .nil) q) Z (yK z F es sr nd (nQ L) o6 o7 o8):=by
 delta yK nQ at k ⊢;simp?[↓tJ,↓tI,↓EL,↓N6,QG,y];exact k
theorem jl(w:es.length<=126)(k:vA Ψ (λ_=>False) q Z (yK z F es sr nd o5 (B8 (gF es F)) o7 o8)) :
  vA Ψ (λ_=>False) (.seq (.set 6 (.comp [] ["_law_pair"] (.nm 0) .val (.nq (.var 2) .nr) (.cmp .In (.idx (.var 0) (.int 0)) (.var 2)) (.var 0))) q) Z (yK z F es sr nd o5 o6 o7 o8):=by
 have u:sizeLine=16777216:=QS;delta yK B8 at k ⊢;simp?[↓zA];rw[<- aA pr es];refine UA (λp=>T.d (pr p)) (λp=>T.d (pr p)) (λp=>decide (p.1∈F)) es [] _ (λx v R y=>?_) (by show 0+es.length<=_;omega) ?_;obtain⟨x,n⟩:=x;delta pr at y ⊢;simp?[↓T8,↓mG,UB,bB,SA,true_or];by_cases d:x∈F;rw[dT d]at y ⊢;exact y;rw[dF d]at y ⊢;exact y;rw[Qo,aA pr];simp?[↓zA];exact k
theorem Ek(u:Ψ.sp "_law_texts"=MB)(y:h.length<=1000)(k:vA Ψ (λ_=>False) q Z (yK z F es sr nd o5 o6 (Z0 x h) (lY x n))) :
  vA Ψ (λ_=>False) (.seq (.ife (.or (.not (.isi (.var 7) (.bty "tuple" "tuple"))) (.or (.cmp .NotEq (.bi .len (.nq (.var 7) .nr)) (.int 2)) (.or (.cmp .NotEq (.idx (.var 7) (.int 0)) (.idx (.var 8) (.int 0))) (.not (.call "_law_texts" (.nq (.idx (.var 7) (.int 1)) .nr)))))) (.seq (.ret (.bl false)) .nil) .nil) q) Z (yK z F es sr nd o5 o6 (Z0 x h) (lY x n)):=by
 delta yK Z0 lY at k ⊢;simp?[↓tJ,↓tI,↓EL,↓Zg,↓mG,↓pJ,↓rA (md:=[]) u rfl rfl];refine UM y ?_;simp?[↓zA];exact k
theorem Ak(ok:∀s∈h,qb s=true)(a:h.length<=11)(y:h.Nodup)(u:sortedS h=true)(w:(h.length:Int)<n)(v:x∉h)(k:vA Ψ (λ_=>False) q Z (yK z F es sr nd o5 o6 (Z0 x h) (lY x n))) :
  vA Ψ (λ_=>False) (.seq (.ife (.or (.cmp .NotEq (.idx (.var 7) (.int 1)) (.sset (.idx (.var 7) (.int 1)))) (.or (.cmp .GtE (.bi .len (.nq (.idx (.var 7) (.int 1)) .nr)) (.idx (.var 8) (.int 1))) (.cmp .In (.idx (.var 8) (.int 0)) (.idx (.var 7) (.int 1))))) (.seq (.ret (.bl false)) .nil) .nil) q) Z (yK z F es sr nd o5 o6 (Z0 x h) (lY x n)):=by
 have o:=F5 ok;delta yK Z0 lY at k ⊢;simp?[↓tJ,↓pJ,↓u2];refine G3 (by omega) y u ?_;simp?[↓vm];refine⟨o,o,?_⟩;rw[QBL _ o.1];simp?[↓tJ,↓mG,↓pJ,↓Sg,QG,UB,bB,SA,true_or,dF (show ¬ n<=(h.length:Int) by omega),dF v];exact k
theorem Tk(w:Ψ.sp "_law_led"=SE){v:rB}(g:v.length<=126)(f:sr.length<=11)(j:¬ ∃a,(a,x)∈v/\Led v sr x h a)(k:vA Ψ (λ_=>False) q Z (yK z F es sr nd o5 (B8 v) (Z0 x h) (lY x n))) :
  vA Ψ (λ_=>False) (.seq (.ife (.call "_law_led" (.nq (.comp [] ["_law_pair"] (.nm 0) .val (.nq (.var 6) .nr) (.or (.cmp .In (.idx (.var 0) (.int 1)) (.var 2)) (.cmp .Eq (.idx (.var 0) (.int 1)) (.idx (.var 9) (.int 0)))) (.var 0)) (.nq (.var 3) (.nq (.idx (.var 8) (.int 0)) (.nq (.idx (.var 7) (.int 1)) .nr))))) (.seq (.ret (.bl false)) .nil) .nil) q) Z (yK z F es sr nd o5 (B8 v) (Z0 x h) (lY x n)):=by
 have m:sizeLine=16777216:=QS;delta yK Z0 lY B8 at k ⊢;simp?[↓M1,↓rA (md:=[]) w rfl rfl];rw[<- aA pr v];refine UA (λp=>T.d (pr p)) (λp=>T.d (pr p)) (λp=>decide (p.2∈F)||decide (p.2=x)) v [] _ (λy o R u=>?_) (by show 0+v.length<=_;omega) ?_;obtain⟨a,b⟩:=y;delta pr at u ⊢;simp?[↓Om,↓tJ,↓mG,↓pJ,UB,bB,SA,true_or];by_cases d:b∈F;rw[dT d]at u ⊢;exact u;rw[dF d]at u ⊢;simp?[↓mG,↓pJ];rw[QAq]at u;by_cases e:b=x;rw[dT e]at u ⊢;exact u;rw[dF e]at u ⊢;exact u;rw[Qo,aA pr];simp?[↓mG,↓pJ];refine k4 (QY (WM _ _) g) f (λ⟨a,w,l⟩=>j ⟨a,(Qj.mp w).1,l.sub λe i=>(Qj.mp i).1⟩) ?_;simp?[↓zA];exact k
theorem Sk(b:Ψ.sp "_law_texts"=MB)(a:Ψ.sp "_law_led"=SE)(v:es.length<=126)(u:sr.length<=11){cs:List (List Str)}(y:Good (gF es F) sr x cs h)(w:(h.length:Int)<n)(k:Z.nx (yK z F es sr nd o5 (B8 (gF es F)) (Z0 x h) (lY x n))) :
  vA Ψ (λ_=>False) KH Z (yK z F es sr nd o5 (B8 (gF es F)) (Z0 x h) (lY x n)):=by
 have e:=y.few;delta KH;refine Ek b (by omega) ?_;refine Ak y.okn e y.nd y.srt w y.ng ?_;exact Tk a (QY (WM _ _) v) u y.led k
end
noncomputable def DF:PSp where
 md:=[]
 run:=λw Q _=>∃(v:List (Str×List Str)) (F:List Str) (u:rB) (y:List Str) (nd:List (Str×Int)),w=[.d (.list (v.map O2)),.d (.list (F.map PyData.str)),.d (.list (u.map pr)),.d (.list (y.map PyData.str)),.d (.list (nd.map NE))]/\(u.length<=126/\y.length<=11/\nd.length<=90/\(∀x n,(x,n)∈nd->x∉F->¬ rG u y x F n)/\Paired (YI u y F) (HJ nd F) v)/\Q (.d (.bool true)) []
 mono:=λh _ z=>by obtain⟨v,F,u,y,nd,e,l,q⟩:=z;exact⟨v,F,u,y,nd,e,l,h _ _ q⟩
theorem v4{h:List (Str×List Str)}{F:List Str}{es:rB}{sr:List Str}{nd:List (Str×Int)}{K:T->List T->Prop}{E:XE}(l:es.length<=126/\sr.length<=11/\nd.length<=90/\(∀x n,(x,n)∈nd->x∉F->¬ rG es sr x F n)/\Paired (YI es sr F) (HJ nd F) h)(q:K (.d (.bool true)) []):jD DF [.d (.list (h.map O2)),.d (.list (F.map PyData.str)),.d (.list (es.map pr)),.d (.list (sr.map PyData.str)),.d (.list (nd.map NE))] K E:=⟨h,F,es,sr,nd,rfl,l,q⟩
theorem jb{Ψ:PEv}(X:Ψ.sp "_law_texts"=MB)(s:Ψ.sp "_law_led"=SE)(ds Q E)(h:DF.run ds Q E):ds.length=FI.length/\vA Ψ (λ_=>False) TL (MA DF FI.length Q) (nA ZR DF.md ds):=by obtain⟨a,F,z,v,nd,rfl,⟨f,i,Z,nm,m⟩,q⟩:=h;obtain⟨g,b⟩:=p0 nm m;refine iA (yK a F z v nd none none none none) rfl rfl rfl ?_;delta TL;refine xl (by omega) ?_;refine yl g ?_;refine jl f ?_;generalize OS nd F=L at b;delta yK nQ;simp?[↓Ve];rw[List.zip_map,Qb];refine lB (λq:(Str×List Str)×(Str×Int)=>T.d (.tuple [O2 q.1,NE q.2])) (λl u=>∃k w,(∀q∈l,Ph z v F q)/\u=yK a F z v nd (nQ L) (B8 (gF z F)) k w) ?_ ?_ _ _ ⟨_,_,b,rfl⟩;rintro u ⟨k,w,_,rfl⟩;delta yK;simp?[↓zA];exact q;rintro⟨⟨y,cut⟩,x,n⟩ l u N p ⟨k,w,r,rfl⟩;obtain⟨e,⟨W,Y⟩,o⟩:=r _ QD;have e:y=x:=e;subst e;refine nC.mk rfl ?_;exact Sk X s f i Y o (p _ ⟨_,_,λq j=>r q (QE _ j),rfl⟩)
noncomputable def fM(h:List Int)(ns:List Str)(es:rB)(st:List Str)(g:Str)(o5 o6 o7 o8 o9:Option Sl):kA:=[some (.nv (.lst ((h.map PyData.int).map T.d))),some (.nv (.d (.list (ns.map PyData.str)))),some (.nv (.d (.list (es.map pr)))),some (.nv (.d (.list (st.map PyData.str)))),some (.nv (.d (.str g))),o5,o6,o7,o8,o9]
def oP(l:List Str):Option Sl:=some (.nv (.d (.list (l.map PyData.str))))
def S7(h:List Rw):Option Sl:=some (.nv (.d (.list (h.map dE))))
def yj(h:List (Str×List Str)):Option Sl:=some (.nv (.d (.list (h.map O2))))
section
variable{Ψ:PEv}{Z:PEnds}{is:List Int}{ns:List Str}{es:rB}{st:List Str}{g:Str}{h:List Str}{nd:List (Str×Int)}{q:PT}{o5 o6 o7 o8 o9:Option Sl}{z:List Rw}{u:List (Str×List Str)}{F:List Str}
theorem Rk(x:Ψ.sp "_law_web"=UF)(k:∀ns es st g,L1 ns es st g->ns.Nodup->vA Ψ (λ_=>False) q Z (fM is ns es st g none none none none none)) :
  vA Ψ (λ_=>False) (.seq (.tset [1,2,3,4] (.call "_law_web" (.nq (.var 0) (.nq (.int 10) .nr)))) q) Z [some (.nv (.lst ((is.map PyData.int).map T.d))),none,none,none,none,none,none,none,none,none]:=by
 simp?[↓rA (md:=[.kr]) x rfl rfl];refine j4 λns es st g w n=>?_;exact⟨rfl,_,rfl,k ns es st g w n⟩
theorem Pk(x:st.length<=11)(k:∀h:List Str,h.Nodup->(∀s,s∈h↔s∈st)->vA Ψ (λ_=>False) q Z (fM is ns es st g (oP h) o6 o7 o8 o9)) :
  vA Ψ (λ_=>False) (.seq (.set 5 (.sset (.var 3))) q) Z (fM is ns es st g o5 o6 o7 o8 o9):=by
 delta fM oP at *;simp?[↓u2];refine Xd (by omega) λh n m _=>?_;simp?[↓zA];exact k h n m
theorem Nk(y:Ψ.sp "_law_needs"=AC)(x:0<ns.length/\ns.length<=10)(k:∀nd,Nd ns nd->vA Ψ (λ_=>False) q Z (fM is ns es st g o5 (nQ nd) o7 o8 o9)) :
  vA Ψ (λ_=>False) (.seq (.set 6 (.call "_law_needs" (.nq (.var 0) (.nq (.var 1) .nr)))) q) Z (fM is ns es st g o5 o6 o7 o8 o9):=by
 delta fM nQ at *;simp?[↓rA (md:=[.kr]) y rfl rfl];refine CV x λnd ok=>?_;simp?[↓zA];exact k nd ok
theorem Mk(y:Ψ.sp "ground_by"=eJ)(l:es.length<=126/\h.length<=11/\kC es h/\nd.length<=90/\(nd.map λp=>p.1).Nodup/\∀p∈nd,0<=p.2)(k:∀z F u,GI es h nd z F->(∀x,x∈F↔Held es h nd x)->Paired (YI es h F) (HJ nd F) u->vA Ψ (λ_=>False) q Z (fM is ns es st g (oP h) (nQ nd) (S7 z) (yj u) o9)) :
  vA Ψ (λ_=>False) (.seq (.tset [7,8] (.call "ground_by" (.nq (.bi .list (.nq (.var 2) .nr)) (.nq (.bi .list (.nq (.var 5) .nr)) (.nq (.bi .list (.nq (.var 6) .nr)) .nr))))) q) Z (fM is ns es st g (oP h) (nQ nd) o7 o8 o9):=by
 delta fM oP nQ S7 yj at *;simp?[↓rA (md:=[]) y rfl rfl];refine R9 l λz F u a b c=>?_;refine⟨rfl,?_⟩;rw[A6];exact⟨_,rfl,k z F u a b c⟩
theorem Lk(x:Ψ.sp "_law_ground"=BF)(l:GI es h nd z F/\kC es h/\nd.length<=90/\(nd.map λp=>p.1).Nodup)(k:vA Ψ (λ_=>False) q Z (fM is ns es st g (oP h) (nQ nd) (S7 z) o8 o9)) :
  vA Ψ (λ_=>False) (.seq (.ife (.not (.call "_law_ground" (.nq (.var 7) (.nq (.var 2) (.nq (.var 5) (.nq (.var 6) .nr)))))) (.seq (.ret (.bl false)) .nil) .nil) q) Z (fM is ns es st g (oP h) (nQ nd) (S7 z) o8 o9):=by
 delta fM oP nQ S7 at *;simp?[↓tI,↓rA (md:=[]) x rfl rfl];refine y4 l ?_;simp?[↓zA];exact k
theorem Hk(a:z.length<=100)(k:vA Ψ (λ_=>False) q Z (fM is ns es st g o5 o6 (S7 z) o8 (oP (z.map λr=>r.1)))) :
  vA Ψ (λ_=>False) (.seq (.set 9 (.comp [] ["_law_row"] (.nm 0) .val (.nq (.var 7) .nr) .nop (.idx (.var 0) (.int 0)))) q) Z (fM is ns es st g o5 o6 (S7 z) o8 o9):=by
 have v:sizeLine=16777216:=QS;delta fM oP S7 at *;simp?[↓zA];rw[<- aA dE z];refine iB (λr=>T.d (dE r)) (λr=>T.d (.str r.1)) z [] _ (λx w R y=>?_) (by show 0+z.length<=_;omega) ?_;delta dE;simp?[↓mG];exact y;rw[Qo,aA (λr:Rw=>PyData.str r.1),show(z.map λr=>PyData.str r.1)=(z.map λr=>r.1).map PyData.str by rw[Qb];rfl];simp?[↓zA];exact k
theorem Gk(b:h.length<=100)(w:∀s∈h,s∈F)(k:vA Ψ (λ_=>False) q Z (fM is ns es st g (oP h) o6 o7 o8 (oP F))) :
  vA Ψ (λ_=>False) (.seq (.ife (.bi .any (.nq (.comp [] ["_law_name"] (.nm 0) .val (.nq (.var 5) .nr) .nop (.cmp .NotIn (.var 0) (.var 10))) .nr)) (.seq (.ret (.bl false)) .nil) .nil) q) Z (fM is ns es st g (oP h) o6 o7 o8 (oP F)):=by
 have a:sizeLine=16777216:=QS;delta fM oP at *;simp?[↓Xh];rw[<- aA PyData.str h];refine iB (λs=>T.d (.str s)) (λ_=>T.d (.bool false)) h [] _ (λy x R v=>?_) (by show 0+h.length<=_;omega) ?_;simp?[UB,bB,SA,true_or,dT (w y x)];exact v;rw[Qo,aA];refine eS ?_;simp?[↓zA];exact k
theorem Fk{Q:T->List T->Prop}(y:Ψ.sp "_law_cuts"=DF)(l:es.length<=126/\h.length<=11/\nd.length<=90/\(∀x n,(x,n)∈nd->x∉F->¬ rG es h x F n)/\Paired (YI es h F) (HJ nd F) u)(k:Q (.d (.bool true)) []) :
  vA Ψ (λ_=>False) (.seq (.ret (.call "_law_cuts" (.nq (.var 8) (.nq (.var 9) (.nq (.var 2) (.nq (.var 5) (.nq (.var 6) .nr))))))) .nil) (eZ Q) (fM is ns es st g (oP h) (nQ nd) o7 (yj u) (oP F)):=by
 delta fM oP nQ yj;simp?[↓rA (md:=[]) y rfl rfl];refine v4 l ?_;simp?[↓zA];exact k
end
theorem vb{Ψ:PEv}(O:Ψ.sp "_law_web"=UF)(N:Ψ.sp "_law_needs"=AC)(M:Ψ.sp "ground_by"=eJ)(L:Ψ.sp "_law_ground"=BF)(J:Ψ.sp "_law_cuts"=DF)(ds Q E)(h:AK.run ds Q E):ds.length=xS.length/\vA Ψ (λ_=>False) V1 (MA AK xS.length Q) (nA y9 AK.md ds):=by
 obtain⟨C,hl,hb,rfl,q⟩:=h;refine iA [some (.nv (.lst ((C.map PyData.int).map T.d))),none,none,none,none,none,none,none,none,none] rfl rfl rfl ?_;delta V1;refine Rk O λb P st g w A=>?_;obtain⟨l,W,j,i,Z,Y,X⟩:=w;have u:∀s∈b,qb s=true:=λs y=>Af (W s y);refine Pk Z λf K B=>Nk N ⟨Ws X,l⟩ λnd ok=>?_;have z:∀s∈f,s∈b:=λs y=>Y s ((B s).mp y);have R:=QY (vF K z) l;have o:kC P f:=⟨λs y=>u s (z s y),λe r=>⟨u _ (i e r).1,u _ (i e r).2⟩⟩
 have ln:nd.length=b.length:=by rw[<- ok.1.length_eq,QG]
 have k:(nd.map λp=>p.1).Nodup:=ok.1.nodup_iff.mpr A;refine Mk M ⟨j,by omega,o,by omega,k,λp a=>by have:=ok.2 p a;omega⟩ λH F S v I a=>?_;have g1:=v.len;have g2:=v.rlen;refine Lk L ⟨v,o,by omega,k⟩ (Hk (by omega) ?_);rw[<- v.e];refine Gk (by omega) (λs y=>?_) (Fk J ⟨j,by omega,by omega,λx n h G m=>G ((I x).mpr (.tell _ h v.held m)),a⟩ q);obtain⟨p,a,e⟩:=Qe.mp (ok.1.mem_iff.mpr (z s y));exact v.see s p.2 (e▸a) y
end L2.L3.K19
namespace L2.L3
open PySem PySem.Spec PyProof.Rows
section
variable{K:QC}{x:Str}
def Ii(y:List Addr)(h:Heap):QC:=y.filterMap λa=>(h.get? a).map λo=>(a,o)
theorem MS{h:Heap}:∀(y:List Addr),(Ii y h).In h
 |[],a,o,e=>nomatch e
 |b::y,a,o,e=>by
  unfold Ii at e;rw[ww]at e;cases c:h.get? b with
  |none=>rw[c]at e;exact MS y a o e|some z =>
   rw[c]at e;have e:List.lookup a ((b,z)::Ii y h)=some o:=e;rw[WZ]at e;cases d:a==b with|true=>rw[d]at e;cases e;rw[beq_iff_eq.mp d];exact c|false=>rw[d]at e;exact MS y a o e
noncomputable abbrev vj:=(Str×Str×Arguments×FuncBody×Scope)×(Addr×List (Str×Addr)×Value×Addr)×Bool
def km(h:FuncData)(b:Bool):vj:=((h.name,h.qualname,h.params,h.body,h.scope),(h.globals,h.closure,h.defaults,h.builtins),b)
def GA(K:QC)(x:Str):Option vj:=match Q5 K mainGlobals x with
 |some (some (.ref f))=>(match K.lookup f with
  |some ⟨_,_,.func fd,_⟩=>some (km fd (QAc K fd.code x&&WB K (.ref f)))|_=>none)
 |_=>none
def KB(x:Str)(st:Stmt):Option vj:=some (km (wX x x (kE st) (RC st) (cB st) .none .none .none .none none .none .none) true)
theorem seen_def{st:Stmt}(h:GA K x=KB x st):pB K x st:=by unfold GA at h;split at h;rename_i f hf;split at h;rename_i oc od fd osl hl;unfold KB at h;injection h with h;obtain⟨p,o,n,m,l,j,i,g,e,b,a,k,w,v,u⟩:=fd;unfold km at h;injection h with h1 h2;injection h2 with h2 h3;injection h1 with b1 h1;injection h1 with b2 h1;injection h1 with b3 h1;injection h1 with b4 b5;injection h2 with c1 h2;injection h2 with c2 h2;injection h2 with c3 c4;obtain⟨y,z⟩:=QAI.mp h3;simp only at b1 b2 b3 b4 b5 c1 c2 c3 c4 y;subst b1 b2 b3 b4 b5 c1 c2 c3 c4;exact⟨f,_,hf,fc hl y z⟩;cases h;cases h
noncomputable def DN(K:QC)(x:Str):Option (List (Option V)):=match Q5 K mainGlobals x with
 |some (some (.ref f))=>(match K.lookup f with
  |some ⟨.type t,_,.seq its _,_⟩=>if t="tuple" then some (its.toList.map AJ) else none|_=>none)
 |_=>none
def CN(K:QC)(x:Str):Option V:=match Q5 K mainGlobals x with
 |some (some u)=>AJ u|_=>none
def uC(K:QC)(x:Str):Bool:=match Q5 K mainGlobals x with
 |some none=>true|_=>false
theorem seen_no(h:uC K x=true):Q5 K mainGlobals x=some none:=by unfold uC at h;split at h;assumption;cases h
theorem seen_int{i:Int}(h:CN K x=some (.int i)):sI K x (.int i):=by unfold CN at h;split at h;rename_i u hu;exact⟨u,_,hu,h,λ_=>.int i⟩;cases h
theorem seen_strs{xs:List Str}(h:DN K x=some (xs.map λy=>some (.str y)))(hz:xs.length<=sizeLine):sI K x (.tuple (xs.map PyData.str)):=by unfold DN at h;split at h;rename_i f hf;split at h;rename_i t od its n osl hl;split at h;rename_i et;subst et;injection h with h;exact mX (its:=its.toList) hf (by simpa using hl) h hz;cases h;cases h;cases h
theorem walk_seen{l:PySem.W.OpenLaw}{k:Nat}{q:Program}{loose:List Str}{XP:(Str->Option Value)->Heap->Prop}{YP:World->Heap->Prop}{d:DefRec}{Fs:QC->Prop}
  (S:l.most=some 63) (B:d.params.defaults=[]) (Q:Room k callerA) (hY:∀(w:World) (h:Heap),YP w h->∃K:QC,K.In h/\Fs K)
  (F:∀(w:World) (j:Str->Option Value) (X:Addr) (h:Heap) (K:QC),K.In h->Fs K->h.Ns mainGlobals j->j d.name=some (.ref X) ->
   ∃C:FuncData,(∀(s:Shared) (u:Value),BindsTo s C ⟨[u],[]⟩ [(x,u)]) /\
    ∀y:Heap,K.In y->y.Ns mainGlobals j->FnOk l.prog w K j y D2 k X C [x] (lift K AK)) :
  PySem.W.WalkO q loose XP YP l.row.toRowW d [] (λf vs=>PySem.call f vs):=by
 intro w J I j mb G Y X o pm cd doc dV kV ho hd hcd L A hg args E as m p P Z hlo;obtain rfl:dV=.none:=PySem.W.Dflts.none L B;obtain rfl:kV=.none:=PySem.W.Dflts.noKw L;obtain⟨a,vs,O,rfl,rfl,n,i,v⟩:=Att.script_of S m Z;obtain⟨K,M,fs⟩:=hY w _ Y;obtain⟨C,hb,hF⟩:=F w j X _ K M fs G.T.g A;refine PySem.W.enter_call (QAZ (nZ M G.T.g G.T.b G.T.builtins G.T.nolimit hg n i (QY v (by decide)) Q hF hb (λH hO hS=>Mb _ H a O v (K7 p) hS) λH e N=>λz=>z) λr N R=>?_);obtain⟨rfl,h2,h3,h4⟩:=R;exact⟨.inl ⟨.bool true,.bool true,[],rfl,λ_=>rfl,.bool true,Att.post_true l _,λ_=>⟨List.Pairwise.nil,λ_ hm=>(nomatch hm)⟩⟩,h2,h3,h4⟩
end
end L2.L3
namespace L2.L3.K19
open PySem PySem.Spec PyProof.Rows L2 L2.L3
noncomputable def Oo:List (Str×PSp):=[("_law_fold",nD),("_law_mixed",kB),("_law_names",ZD),("_law_web",UF),("_law_needs",AC),("add_way",OC),("add_name",oD),("rooms_of",TC),("points_reached",pC),("lay_chain",FF),("name_behind",fC),("chain_from",EC),("full_names",EE),("apart_chains",VD),("told_through",oC),("ground_alone",IC),("ground_by",eJ),("_law_apart",GF),("_law_texts",MB),("_law_chain",AE),("_law_ground",BF),("_law_led",SE),("_law_cuts",DF),("law",AK)]
def rj:List (Str×D):=[("BEGIN",.tuple ((["","begin"]:List Str).map PyData.str)),("WIDE",.int 2)]
def Ψ:PEv:=M7 Oo rj
theorem CL:Ψ.sp "_law_fold"=nD:=by kernel_rfl
theorem DG:Ψ.sp "_law_mixed"=kB:=by kernel_rfl
theorem xN:Ψ.sp "_law_names"=ZD:=by kernel_rfl
theorem jV:Ψ.sp "_law_web"=UF:=by kernel_rfl
theorem vN:Ψ.sp "_law_needs"=AC:=by kernel_rfl
theorem jJ:Ψ.sp "add_way"=OC:=by kernel_rfl
theorem DL:Ψ.sp "add_name"=oD:=by kernel_rfl
theorem UL:Ψ.sp "rooms_of"=TC:=by kernel_rfl
theorem BE:Ψ.sp "points_reached"=pC:=by kernel_rfl
theorem VJ:Ψ.sp "lay_chain"=FF:=by kernel_rfl
theorem AG:Ψ.sp "name_behind"=fC:=by kernel_rfl
theorem cI:Ψ.sp "chain_from"=EC:=by kernel_rfl
theorem bI:Ψ.sp "full_names"=EE:=by kernel_rfl
theorem xG:Ψ.sp "apart_chains"=VD:=by kernel_rfl
theorem ND:Ψ.sp "told_through"=oC:=by kernel_rfl
theorem vG:Ψ.sp "ground_alone"=IC:=by kernel_rfl
theorem XJ:Ψ.sp "ground_by"=eJ:=by kernel_rfl
theorem bN:Ψ.sp "_law_apart"=GF:=by kernel_rfl
theorem II:Ψ.sp "_law_texts"=MB:=by kernel_rfl
theorem uN:Ψ.sp "_law_chain"=AE:=by kernel_rfl
theorem BL:Ψ.sp "_law_ground"=BF:=by kernel_rfl
theorem yV:Ψ.sp "_law_led"=SE:=by kernel_rfl
theorem SQ:Ψ.sp "_law_cuts"=DF:=by kernel_rfl
theorem F8:Ψ.sp "law"=AK:=by kernel_rfl
theorem EJ:Ψ.va "BEGIN"=some (pr YA):=by kernel_rfl
theorem Y9:Ψ.va "WIDE"=some (.int 2):=by kernel_rfl
theorem Zl{α:Type}{us:List α}(h:us.length=0):us=[]:=qu.mp h
theorem XS{α:Type}{us:List α}(h:us.length=1):∃y,us=[y]:=by
 cases us with|nil=>cases h|cons x r=>obtain rfl:=Zl (W5 h);exact⟨x,rfl⟩
theorem VS{α:Type}{us:List α}(h:us.length=2):∃u z,us=[u,z]:=by
 cases us with|nil=>cases h|cons x r=>obtain⟨y,rfl⟩:=XS (W5 h);exact⟨x,y,rfl⟩
theorem KS{α:Type}{us:List α}(h:us.length=3):∃w v u,us=[w,v,u]:=by
 cases us with|nil=>cases h|cons x r=>obtain⟨z,y,rfl⟩:=VS (W5 h);exact⟨x,z,y,rfl⟩
theorem iW{α:Type}{us:List α}(h:us.length=4):∃a k w v,us=[a,k,w,v]:=by
 cases us with|nil=>cases h|cons x r=>obtain⟨u,z,y,rfl⟩:=KS (W5 h);exact⟨x,u,z,y,rfl⟩
theorem Yl{α:Type}{us:List α}(h:us.length=5):∃e b a k w,us=[e,b,a,k,w]:=by
 cases us with|nil=>cases h|cons x r=>obtain⟨v,u,z,y,rfl⟩:=iW (W5 h);exact⟨x,v,u,z,y,rfl⟩
theorem all{P:Program}{w:World}{K:QC}{h:Heap}{j:Str->Option Value}{fa:Addr}(X:K.In h)(G:h.Ns mainGlobals j)(hfa:j "law"=some (.ref fa))(d_l_fold:pB K "_law_fold" (AA 20))(d_l_mixed:pB K "_law_mixed" (AA 18))(d_l_names:pB K "_law_names" (AA 19))(d_l_web:pB K "_law_web" (AA 21))(d_l_needs:pB K "_law_needs" (AA 23))(d_add_way:pB K "add_way" (AA 6))(d_add_name:pB K "add_name" (AA 5))(d_rooms_of:pB K "rooms_of" (AA 4))(e:pB K "points_reached" (AA 7))(Q:pB K "lay_chain" (AA 8))(W:pB K "name_behind" (AA 10))(J:pB K "chain_from" (AA 9))(I:pB K "full_names" (AA 11))(n:pB K "apart_chains" (AA 3))(l:pB K "told_through" (AA 15))(m:pB K "ground_alone" (AA 14))(S:pB K "ground_by" (AA 13))(d_l_apart:pB K "_law_apart" (AA 26))(d_l_texts:pB K "_law_texts" (AA 24))(d_l_chain:pB K "_law_chain" (AA 25))(d_l_ground:pB K "_law_ground" (AA 27))(d_l_led:pB K "_law_led" (AA 22))(d_l_cuts:pB K "_law_cuts" (AA 28))(d_law:pB K "law" (AA 29))(w_BEGIN:sI K "BEGIN" (.tuple ((["","begin"]:List Str).map PyData.str)))(w_WIDE:sI K "WIDE" (.int 2))(z_all:Q5 K mainGlobals "all"=some none)(z_any:Q5 K mainGlobals "any"=some none)(z_dict:Q5 K mainGlobals "dict"=some none)(O:Q5 K mainGlobals "enumerate"=some none)(E:Q5 K mainGlobals "isinstance"=some none)(z_len:Q5 K mainGlobals "len"=some none)(z_list:Q5 K mainGlobals "list"=some none)(z_range:Q5 K mainGlobals "range"=some none)(z_set:Q5 K mainGlobals "set"=some none)(z_sorted:Q5 K mainGlobals "sorted"=some none)(z_str:Q5 K mainGlobals "str"=some none)(z_tuple:Q5 K mainGlobals "tuple"=some none)(z_zip:Q5 K mainGlobals "zip"=some none) :
  ∃fd:FuncData,(∀(s:Shared) (u:Value),BindsTo s fd ⟨[u],[]⟩ [("_law_script",u)])/\∀x:Heap,K.In x->x.Ns mainGlobals j->FnOk P w K j x D2 24 fa fd ["_law_script"] (lift K AK):=by
 have r:∀p∈rj,sI K p.1 p.2:=by intro p hp;simp only[rj,QJ,Qh,or_false]at hp;rcases hp with rfl|rfl;exact w_BEGIN;exact w_WIDE
 have Y:∀y∈(["all","any","dict","enumerate","isinstance","len","list","range","set","sorted","str","tuple","zip"]:List Str),Q5 K mainGlobals y=some none:=by intro y v;simp only[QJ,Qh,or_false]at v;rcases v with rfl|rfl|rfl|rfl|rfl|rfl|rfl|rfl|rfl|rfl|rfl|rfl|rfl;exact z_all;exact z_any;exact z_dict;exact O;exact E;exact z_len;exact z_list;exact z_range;exact z_set;exact z_sorted;exact z_str;exact z_tuple;exact z_zip
 refine Nb X G d_law rfl hfa F8 (λ_ _ _ _ _ _ Z k=>by obtain⟨_,rfl⟩:=XS k;rfl) λx kb nb f fd F hm=>?_;have N:jC P w K j x Ψ 1 "_law_fold":=XA X G d_l_fold RW (by kernel_rfl) (λ_ _ _ _ _ _ Z k=>by obtain⟨_,rfl⟩:=XS k;rfl) (λg z=>by cases z) (KA X G r (by kernel_rfl)) (λy v=>Y y (EA (by kernel_rfl) y v)) (by rw[CL];exact L5 );have b:jC P w K j x Ψ 2 "_law_mixed":=XA X G d_l_mixed uT (by kernel_rfl) (λ_ _ _ _ _ _ Z k=>by obtain⟨_,_,rfl⟩:=VS k;rfl) (λg z=>by cases z) (KA X G r (by kernel_rfl)) (λy v=>Y y (EA (by kernel_rfl) y v)) (by rw[DG];exact NY );have H_l_names:jC P w K j x Ψ 3 "_law_names":=XA X G d_l_names xT (by kernel_rfl) (λ_ _ _ _ _ _ Z k=>by obtain⟨_,_,rfl⟩:=VS k;rfl) (λg z=>by simp only[NM,QJ,Qh,or_false]at z;rcases z with rfl<;>first|exact b.mono (by decide)) (KA X G r (by kernel_rfl)) (λy v=>Y y (EA (by kernel_rfl) y v)) (by rw[xN];exact MY DG);have H_l_web:jC P w K j x Ψ 4 "_law_web":=XA X G d_l_web L0 (by kernel_rfl) (λ_ _ _ _ _ _ Z k=>by obtain⟨_,_,rfl⟩:=VS k;rfl) (λg z=>by simp only[iU,QJ,Qh,or_false]at z;rcases z with rfl|rfl|rfl<;>first|exact N.mono (by decide)|exact b.mono (by decide)|exact H_l_names.mono (by decide)) (KA X G r (by kernel_rfl)) (λy v=>Y y (EA (by kernel_rfl) y v)) (by rw[jV];exact Ta CL DG xN);have H_l_needs:jC P w K j x Ψ 5 "_law_needs":=XA X G d_l_needs vT (by kernel_rfl) (λ_ _ _ _ _ _ Z k=>by obtain⟨_,_,rfl⟩:=VS k;rfl) (λg z=>by simp only[MM,QJ,Qh,or_false]at z;rcases z with rfl|rfl<;>first|exact N.mono (by decide)|exact b.mono (by decide)) (KA X G r (by kernel_rfl)) (λy v=>Y y (EA (by kernel_rfl) y v)) (by rw[vN];exact LY CL DG);have C:jC P w K j x Ψ 6 "add_way":=XA X G d_add_way fT (by kernel_rfl) (λ_ _ _ _ _ _ Z k=>by obtain⟨_,_,_,_,rfl⟩:=iW k;rfl) (λg z=>by cases z) (KA X G r (by kernel_rfl)) (λy v=>Y y (EA (by kernel_rfl) y v)) (by rw[jJ];exact M5 );have H_add_name:jC P w K j x Ψ 7 "add_name":=XA X G d_add_name dR (by kernel_rfl) (λ_ _ _ _ _ _ Z k=>by obtain⟨_,_,rfl⟩:=VS k;rfl) (λg z=>by simp only[xL,QJ,Qh,or_false]at z;rcases z with rfl<;>first|exact C.mono (by decide)) (KA X G r (by kernel_rfl)) (λy v=>Y y (EA (by kernel_rfl) y v)) (by rw[DL];exact N5 jJ);have H_rooms_of:jC P w K j x Ψ 8 "rooms_of":=XA X G d_rooms_of bR (by kernel_rfl) (λ_ _ _ _ _ _ Z k=>by obtain⟨_,_,_,rfl⟩:=KS k;rfl) (λg z=>by simp only[kL,QJ,Qh,or_false]at z;rcases z with rfl|rfl<;>first|exact H_add_name.mono (by decide)|exact C.mono (by decide)) (KA X G r (by kernel_rfl)) (λy v=>Y y (EA (by kernel_rfl) y v)) (by rw[UL];exact uW DL jJ EJ Y9);have i:jC P w K j x Ψ 9 "points_reached":=XA X G e dI (by kernel_rfl) (λ_ _ _ _ _ _ Z k=>by obtain⟨_,rfl⟩:=XS k;rfl) (λg z=>by cases z) (KA X G r (by kernel_rfl)) (λy v=>Y y (EA (by kernel_rfl) y v)) (by rw[BE];exact HY EJ);have H:jC P w K j x Ψ 10 "lay_chain":=XA X G Q OO (by kernel_rfl) (λ_ _ _ _ _ _ Z k=>by obtain⟨_,_,_,rfl⟩:=KS k;rfl) (λg z=>by cases z) (KA X G r (by kernel_rfl)) (λy v=>Y y (EA (by kernel_rfl) y v)) (by rw[VJ];exact zb EJ);have A:jC P w K j x Ψ 11 "name_behind":=XA X G W LL (by kernel_rfl) (λ_ _ _ _ _ _ Z k=>by obtain⟨_,_,rfl⟩:=VS k;rfl) (λg z=>by cases z) (KA X G r (by kernel_rfl)) (λy v=>Y y (EA (by kernel_rfl) y v)) (by rw[AG];exact bW );have M:jC P w K j x Ψ 12 "chain_from":=XA X G J tM (by kernel_rfl) (λ_ _ _ _ _ _ Z k=>by obtain⟨_,_,_,rfl⟩:=KS k;rfl) (λg z=>by simp only[TH,QJ,Qh,or_false]at z;rcases z with rfl<;>first|exact A.mono (by decide)) (KA X G r (by kernel_rfl)) (λy v=>Y y (EA (by kernel_rfl) y v)) (by rw[cI];exact OY AG);have L:jC P w K j x Ψ 13 "full_names":=XA X G I sM (by kernel_rfl) (λ_ _ _ _ _ _ Z k=>by obtain⟨_,rfl⟩:=XS k;rfl) (λg z=>by cases z) (KA X G r (by kernel_rfl)) (λy v=>Y y (EA (by kernel_rfl) y v)) (by rw[bI];exact G5 );have q:jC P w K j x Ψ 14 "apart_chains":=XA X G n SJ (by kernel_rfl) (λ_ _ _ _ _ _ Z k=>by obtain⟨_,_,_,rfl⟩:=KS k;rfl) (λg z=>by simp only[TF,QJ,Qh,or_false]at z;rcases z with rfl|rfl|rfl|rfl|rfl<;>first|exact H_rooms_of.mono (by decide)|exact i.mono (by decide)|exact H.mono (by decide)|exact M.mono (by decide)|exact L.mono (by decide)) (KA X G r (by kernel_rfl)) (λy v=>Y y (EA (by kernel_rfl) y v)) (by rw[xG];exact PY UL BE VJ cI bI EJ);have a:jC P w K j x Ψ 15 "told_through":=XA X G l PJ (by kernel_rfl) (λ_ _ _ _ _ _ Z k=>by obtain⟨_,_,_,_,rfl⟩:=iW k;rfl) (λg z=>by simp only[RF,QJ,Qh,or_false]at z;rcases z with rfl<;>first|exact q.mono (by decide)) (KA X G r (by kernel_rfl)) (λy v=>Y y (EA (by kernel_rfl) y v)) (by rw[ND];exact D5 xG);have o:jC P w K j x Ψ 16 "ground_alone":=XA X G m RJ (by kernel_rfl) (λ_ _ _ _ _ _ Z k=>by obtain⟨_,_,_,rfl⟩:=KS k;rfl) (λg z=>by simp only[SF,QJ,Qh,or_false]at z;rcases z with rfl<;>first|exact a.mono (by decide)) (KA X G r (by kernel_rfl)) (λy v=>Y y (EA (by kernel_rfl) y v)) (by rw[vG];exact RY ND);have H_ground_by:jC P w K j x Ψ 17 "ground_by":=XA X G S RO (by kernel_rfl) (λ_ _ _ _ _ _ Z k=>by obtain⟨_,_,_,rfl⟩:=KS k;rfl) (λg z=>by simp only[JJ,QJ,Qh,or_false]at z;rcases z with rfl|rfl<;>first|exact o.mono (by decide)|exact a.mono (by decide)) (KA X G r (by kernel_rfl)) (λy v=>Y y (EA (by kernel_rfl) y v)) (by rw[XJ];exact Ef vG ND);have H_l_apart:jC P w K j x Ψ 18 "_law_apart":=XA X G d_l_apart cT (by kernel_rfl) (λ_ _ _ _ _ _ Z k=>by obtain⟨_,rfl⟩:=XS k;rfl) (λg z=>by cases z) (KA X G r (by kernel_rfl)) (λy v=>Y y (EA (by kernel_rfl) y v)) (by rw[bN];exact xb );have B:jC P w K j x Ψ 19 "_law_texts":=XA X G d_l_texts kT (by kernel_rfl) (λ_ _ _ _ _ _ Z k=>by obtain⟨_,rfl⟩:=XS k;rfl) (λg z=>by cases z) (KA X G r (by kernel_rfl)) (λy v=>Y y (EA (by kernel_rfl) y v)) (by rw[II];exact GY );have H_l_chain:jC P w K j x Ψ 20 "_law_chain":=XA X G d_l_chain bT (by kernel_rfl) (λ_ _ _ _ _ _ Z k=>by obtain⟨_,_,_,_,rfl⟩:=iW k;rfl) (λg z=>by simp only[OM,QJ,Qh,or_false]at z;rcases z with rfl<;>first|exact B.mono (by decide)) (KA X G r (by kernel_rfl)) (λy v=>Y y (EA (by kernel_rfl) y v)) (by rw[uN];exact yb II);have H_l_ground:jC P w K j x Ψ 21 "_law_ground":=XA X G d_l_ground cR (by kernel_rfl) (λ_ _ _ _ _ _ Z k=>by obtain⟨_,_,_,_,rfl⟩:=iW k;rfl) (λg z=>by simp only[vL,QJ,Qh,or_false]at z;rcases z with rfl|rfl<;>first|exact H_l_apart.mono (by decide)|exact H_l_chain.mono (by decide)) (KA X G r (by kernel_rfl)) (λy v=>Y y (EA (by kernel_rfl) y v)) (by rw[BL];exact Ea bN uN);have H_l_led:jC P w K j x Ψ 22 "_law_led":=XA X G d_l_led N0 (by kernel_rfl) (λ_ _ _ _ _ _ Z k=>by obtain⟨_,_,_,_,rfl⟩:=iW k;rfl) (λg z=>by cases z) (KA X G r (by kernel_rfl)) (λy v=>Y y (EA (by kernel_rfl) y v)) (by rw[yV];exact Ia );have H_l_cuts:jC P w K j x Ψ 23 "_law_cuts":=XA X G d_l_cuts SW (by kernel_rfl) (λ_ _ _ _ _ _ Z k=>by obtain⟨_,_,_,_,_,rfl⟩:=Yl k;rfl) (λg z=>by simp only[pQ,QJ,Qh,or_false]at z;rcases z with rfl|rfl<;>first|exact B.mono (by decide)|exact H_l_led.mono (by decide)) (KA X G r (by kernel_rfl)) (λy v=>Y y (EA (by kernel_rfl) y v)) (by rw[SQ];exact jb II yV);exact NZ (R:=Ψ.sp "law") F Cc (by kernel_rfl) (λg z=>by simp only[i8,QJ,Qh,or_false]at z;rcases z with rfl|rfl|rfl|rfl|rfl<;>first|exact H_l_web.mono (by decide)|exact H_l_needs.mono (by decide)|exact H_ground_by.mono (by decide)|exact H_l_ground.mono (by decide)|exact H_l_cuts.mono (by decide)) (KA X G r (by kernel_rfl)) (λy v=>QBk X G (Y y (EA (by kernel_rfl) y v))) (by rw[F8];exact vb jV vN XJ BL SQ)
def qv:Program:={ qK with main:={ qK.main with body:=[AA 1,AA 2,AA 3,AA 4,AA 5,AA 6,AA 7,AA 8,AA 9,AA 10,AA 11,AA 13,AA 14,AA 15,AA 17,AA 18,AA 19,AA 20,AA 21,AA 22,AA 23,AA 24,AA 25,AA 26,AA 27,AA 28,AA 29] } }
noncomputable abbrev N1:=List (Option vj)×List (Option (List (Option V)))×List (Option V)×List Bool
noncomputable def seen(K:QC):N1:=([GA K "_law_fold",GA K "_law_mixed",GA K "_law_names",GA K "_law_web",GA K "_law_needs",GA K "add_way",GA K "add_name",GA K "rooms_of",GA K "points_reached",GA K "lay_chain",GA K "name_behind",GA K "chain_from",GA K "full_names",GA K "apart_chains",GA K "told_through",GA K "ground_alone",GA K "ground_by",GA K "_law_apart",GA K "_law_texts",GA K "_law_chain",GA K "_law_ground",GA K "_law_led",GA K "_law_cuts",GA K "law"],[DN K "BEGIN"],[CN K "WIDE"],[uC K "all",uC K "any",uC K "dict",uC K "enumerate",uC K "isinstance",uC K "len",uC K "list",uC K "range",uC K "set",uC K "sorted",uC K "str",uC K "tuple",uC K "zip"])
noncomputable def due:N1:=([KB "_law_fold" (AA 20),KB "_law_mixed" (AA 18),KB "_law_names" (AA 19),KB "_law_web" (AA 21),KB "_law_needs" (AA 23),KB "add_way" (AA 6),KB "add_name" (AA 5),KB "rooms_of" (AA 4),KB "points_reached" (AA 7),KB "lay_chain" (AA 8),KB "name_behind" (AA 10),KB "chain_from" (AA 9),KB "full_names" (AA 11),KB "apart_chains" (AA 3),KB "told_through" (AA 15),KB "ground_alone" (AA 14),KB "ground_by" (AA 13),KB "_law_apart" (AA 26),KB "_law_texts" (AA 24),KB "_law_chain" (AA 25),KB "_law_ground" (AA 27),KB "_law_led" (AA 22),KB "_law_cuts" (AA 28),KB "law" (AA 29)],[some ((["","begin"]:List Str).map λy=>some (.str y))],[some (.int 2)],[true,true,true,true,true,true,true,true,true,true,true,true,true])
def hk:PySem.W.Hook:=⟨N1,λs=>seen (Ii (qC 400) s.heap),λ_=>due,λ_ h=>∃K:QC,K.In h/\seen K=due,λ_ _ e=>⟨_,MS _,e⟩,λ_ _ _ ⟨K,X,e⟩ k=>⟨K,X.keeps k,e⟩⟩
end L2.L3.K19
open PySem PySem.W PyProof.Rows
set_option maxRecDepth 100000 in
set_option maxHeartbeats 0 in
theorem PySem.Challenge.cw_quoteweave_k19_whole_holders_by_both_pap_holds : PySem.Challenge.rw_quoteweave_k19_whole_holders_by_both_pap.Holds := by
 refine holds_law (by kernel_rfl) λz=>?_;refine holds_open (q:=L2.L3.K19.qv) (loose:=[]) (Xt:=λs=>xlAt L2.L3.K19.qv [] s&&recOk (RowW.records qL.row.toRowW) s) (XP:=XL L2.L3.K19.qv []) (Yf:=Hook.obs L2.L3.K19.hk) (Ya:=Hook.val L2.L3.K19.hk) (YP:=Hook.says L2.L3.K19.hk) (N:=1700) ?hl (Hook.of L2.L3.K19.hk) (Hook.keeps L2.L3.K19.hk) (λs e=>xl_of s (QAI.mp e).1) XL.keeps (by rfl) (by rfl) (by rfl) (λs e=>recFacts_of (QAI.mp e).2) (by rfl) (by first|assumption|decide +kernel) (by decide +kernel) ⟨rfl,rfl,rfl,rfl,rfl,by decide +kernel⟩ ?hw ?hc
 case hl=>intro w;kernel_rfl
 case hw=>w_witness2
 case hc =>
  refine L2.L3.walk_seen (l:=qL) (k:=24) (x:="_law_script") (Fs:=λK=>L2.L3.K19.seen K=L2.L3.K19.due) rfl rfl ⟨rfl,by decide,by decide⟩ (λw h Y=>Y) ?F
  case F =>
  intro w v a h K u fs G y;injection fs with f1 fs;injection fs with f2 fs;injection fs with f3 f4
  injection f1 with d0 f1
  injection f1 with d1 f1
  injection f1 with d2 f1
  injection f1 with d3 f1
  injection f1 with d4 f1
  injection f1 with d5 f1
  injection f1 with d6 f1
  injection f1 with d7 f1
  injection f1 with d8 f1
  injection f1 with d9 f1
  injection f1 with d10 f1
  injection f1 with d11 f1
  injection f1 with d12 f1
  injection f1 with d13 f1
  injection f1 with d14 f1
  injection f1 with d15 f1
  injection f1 with d16 f1
  injection f1 with d17 f1
  injection f1 with d18 f1
  injection f1 with d19 f1
  injection f1 with d20 f1
  injection f1 with d21 f1
  injection f1 with d22 f1
  injection f1 with d23 f1
  injection f2 with t0 f2
  injection f3 with i0 f3
  injection f4 with z0 f4
  injection f4 with z1 f4
  injection f4 with z2 f4
  injection f4 with z3 f4
  injection f4 with z4 f4
  injection f4 with z5 f4
  injection f4 with z6 f4
  injection f4 with z7 f4
  injection f4 with z8 f4
  injection f4 with z9 f4
  injection f4 with z10 f4
  injection f4 with z11 f4
  injection f4 with z12 f4
  exact L2.L3.K19.all u G y (L2.L3.seen_def d0) (L2.L3.seen_def d1) (L2.L3.seen_def d2) (L2.L3.seen_def d3) (L2.L3.seen_def d4) (L2.L3.seen_def d5) (L2.L3.seen_def d6) (L2.L3.seen_def d7) (L2.L3.seen_def d8) (L2.L3.seen_def d9) (L2.L3.seen_def d10) (L2.L3.seen_def d11) (L2.L3.seen_def d12) (L2.L3.seen_def d13) (L2.L3.seen_def d14) (L2.L3.seen_def d15) (L2.L3.seen_def d16) (L2.L3.seen_def d17) (L2.L3.seen_def d18) (L2.L3.seen_def d19) (L2.L3.seen_def d20) (L2.L3.seen_def d21) (L2.L3.seen_def d22) (L2.L3.seen_def d23) (L2.L3.seen_strs (xs:=["","begin"]) t0 (by decide)) (L2.L3.seen_int i0) (L2.L3.seen_no z0) (L2.L3.seen_no z1) (L2.L3.seen_no z2) (L2.L3.seen_no z3) (L2.L3.seen_no z4) (L2.L3.seen_no z5) (L2.L3.seen_no z6) (L2.L3.seen_no z7) (L2.L3.seen_no z8) (L2.L3.seen_no z9) (L2.L3.seen_no z10) (L2.L3.seen_no z11) (L2.L3.seen_no z12)
