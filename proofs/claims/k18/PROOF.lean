import PyProof.Rows.All
import Wide.All
import OpenK.AllK
import Wide.FinOn
import Lean
import PyProof.EqAt
import PyProof.EqKinds
import PyProof.TupleCall
import PySem.Challenge.RW_quoteweave_k18_ground_walked
noncomputable section
set_option Elab.async false
set_option linter.all false
set_option genInjectivity false
set_option genSizeOf false
set_option maxRecDepth 100000
set_option maxHeartbeats 4000000
open PySem renaming wpAny_bind->QA,wpAny_pure->QJ,sizeLine_eq->QS,wpAny_newObj_type->Qs,wpAny_call_entry->Q2,wpAny_callSpecial?_slot->qE,wpAny_loadPart'->qG,wpAny_holding->qK,mem_of_lookup->qT,wpAny_Call_Name_kw->qm,codeAny_builtin->qt,wpAny_setField->wD,wpAny_typeNameOfWhole_itemiter->wJ,wpAny_typeNameOfWhole_keyiter->wK,wpAny_mono->wN,wpAny_truthy_bool->wO,wpAny_dictEntries->wP,Spec->wW,wpAny_setField_rec->wY,wpAny_field->wb,wpAny_passesOwn->wk,wpAny_pyIter_list->wn,wpAny_setState_of->wr,plainId_quiet->WA,wpAny_askSetting->WF,tupleKind_room_in1->WK,wpAny_dictEpoch->WM,wpAny_notOrdered_dict->WN,wpAny_fieldsOf->WW,wpAny_of_eq->Wc,wpAny_typeOf->Wf,wpAny_attempt->Wl,wpAny_isOneOf_itemiter->Wp,wpAny_pyIter_slot->Wu,wpAny_isInstance->QAB,call_meets->QAL,wpAny_rule->QAM,wpAny_execs_nil->QAN,wpAny_setEntries_of->QAO,codeAny_mono->QAY,wpAny_seqItems->QAd,wpAny_Call_method0_late->QAq,wpAny_handled->QAs,wpAny_isOneOf_keyiter->QBA,builtinLookup_eq_fast->QBC,wpAny_newTuple->QBO,isSubtype_type->QBP,evalArgs_none->QBR,wpAny_setItem_pairs->QBS,wpAny_throw->QBU,wpAny_standAt->QBc,wpAny_pyIter_tuple->QBf,wpAny_newList->QBg,wpAny_assign_Name->QBn,slot_list_getitem->QBq,wpAny_pyIter_enum->QBv,wpAny_storeSet_of->QBy,concat_meets->QB2,seqIndex_neg->QB3,wpAny_execs_cons->QCA,noFill_tuple_add->QCC,entryFor_of_tree->QCH,seqIndex_of->QCM,storedH_new->QCQ,wpAny_Name->QCV,typeIs_str->QCW,typeIs_int->QCX,Fin->QCc
open PySem.W renaming Frag->QC,kia_one->qM,fnOf->wX,nsIn->wZ,keepIn->WG,WData->QAK,codeIn->QAb,methodObj->QAf,kitx_list->QAh,cellsFrom_some->QAx,instObj->QA4,lookIn->QBL,kitOne->QBM,kitx_tuple->QBe,mg_of->QBj,mg_none_of->QBk,kitx_dict->QBo,plainGet->QCB
open Bool renaming false_ne_true->QD,and_eq_true->Qg,not_eq_true'->Q7,eq_iff_iff->qS,false_eq_true->qY,or_eq_true->wV,and_eq_true_iff->QAH,not_false->QBK,true_and->QBX,false_or->QBY
open List renaming mem_cons_self->QE,length_map->QF,mem_cons_of_mem->QG,mem_singleton->QI,mem_cons->QK,length_append->QL,length_cons->QM,map_cons->QO,size_toArray->QT,mem_append_right->QV,map_append->QW,mem_map->QY,getElem?_map->Qc,map_map->Qd,getElem?_eq_some_iff->Qe,mem_append->Qf,nodup_cons->Qi,length_singleton->Ql,contains_iff_mem->Qm,mem_filter->Qn,getElem?_eq_getElem->Qo,mem_append_left->Qr,isEmpty_iff->Qt,getElem?_append_left->Qu,nil_append->Qw,replicate->Qx,nodup_nil->Qy,getElem?_append_right->Q0,length_nil->Q6,mem_of_getElem?->Q9,range->qA,all_eq_true->qB,filter_sublist->qF,nodup_append->qH,getElem?_eq_none->qI,append_assoc->qN,getElem?_set_ne->qO,length_set->qU,length_range->qX,getElem?_set_self->qZ,length_replicate->qg,length->qp,all_cons->qr,length_eq_zero_iff->qu,length_take->qw,replicate_succ->wA,flatten_cons->wB,append_nil->wG,map_nil->wI,getElem?_set->wQ,find?_cons->wT,ext_getElem?->wq,getElem?_cons_succ->wy,filterMap_cons->wz,getElem?_replicate->w9,lookup_cons->WD,not_mem_nil->WE,drop_eq_nil_of_le->WJ,foldl_cons->WL,any_cons->WP,set->WS,mem_range->WT,drop_eq_getElem_cons->WX,length_drop->WZ,any_eq_true->Wa,filter_cons->Wb,map_congr_left->Wd,mem_map_of_mem->We,length_pos_of_mem->Wq,reverse_cons->Ws,map_inj_left->Wv,take_append_drop->W4,mem_iff_getElem?->W5,length_filter_le->W6,map_fst_zip->W8,map_snd_zip->W9,getElem_mem->QAA,getElem?_modify->QAD,mem_of_mem_take->QAF,map_eq_nil_iff->QAR,length_eraseIdx_of_lt->QAW,zip_cons_cons->QAZ,pairwise_cons->QAa,any_eq_false->QAg,length_erase_of_mem->QAl,flatMap_cons->QAm,foldl_append->QAn,getElem?_cons_zero->QAo,mem_flatMap->QAw,length_eq_one_iff->QA1,of_mem_zip->QA5,forIn_cons->QA6,getD->QA9,toArray->QBB,mem_erase_of_ne->QBJ,forIn_nil->QBN,getElem_of_mem->QBT,getElem?_range->QBV,mem_filterMap->QBd,zip_map'->QBl,length_zipIdx->QBm,take_sublist->QBp,mapM_toArray->QBt,all_map->QB4,map_set->QB7,any_map->QB8,cons_append->QB9,take_length->QCG,drop_length->QCI,append_inj'->QCJ,mem_flatten->QCK,lookup->QCO,foldl->QCY
open PySem.Heap renaming get?_push_of_some->QH,get?_push_size->QN,lt_size->QR,get?_update_self->Q3,get?_update_other->Q8,SameBut->qR,size_push->wc,dictOf_iff->wt,ExtBut->QAr,get?_push_cases->QBI,IsList->QCP
open Nat renaming le_refl->QU,le_trans->QZ,ne_of_lt->Qa,lt_of_lt_of_le->Qp,zero_le->Q5,lt_succ_of_lt->qi,ne_of_gt->wF,lt_irrefl->wM,le_succ->wR,lt_succ_self->WY,le_of_eq->Ww,le_of_lt->QAX,zero_add->QA3,lt_or_ge->QA7,lt_trans->QA8,sub_self->QBF,lt_of_le_of_lt->QBZ,sub_zero->QB5,blt->QCa
open Array renaming length_toList->QX,getElem?_toList->wH,getElem?_eq_getElem->WV,toList_inj->W7,perm_iff_toList_perm->QAV,getElem?_eq_none->QA0,mem_toList_iff->QBG,toList_append->QBW,toList_push->QBx,toList->QB1
open False renaming elim->Qb
open PySem.Str renaming ofString->Qh,join->QCL
open Int renaming emod_lt_of_pos->Qj,emod_nonneg->Qk,toNat_natCast->wo,lt_irrefl->WC,le_trans->QBE,le_refl->QCU
open Option.some renaming injEq->Qq,inj->qD
open PySem.PyData renaming eqv->Qz,strOk->qV,canLayAll0->qj,canLay0->wC,depthAll->wU,depth->wx
open Ne renaming symm->Q1
open PySem.Obj renaming data_mapFields->Q4,mapSeq->qJ,mapFields->qf,isFreed_of_fields->qk,cls_mapFields->WQ,data_mapDictKeys->QBH,putSet->QBw
open Option renaming map_some->qC,map_none->wu,isSome_map->QAj,getD_none->QCD,getD_some->QCE
open PySem.Heap.SameBut renaming update->qL,refl->QBr
open PySem.Around renaming under_plainId->qP
open Prod renaming fst->qQ,ext->QCZ
open PySem.Paired renaming length->qW
open PySem.Builtin.SmallTypes renaming nextOf->qa
open PySem.Challenge renaming pw_quoteweave_k18_ground_walked->qb,rw_quoteweave_k18_ground_walked->qd
open PySem.F renaming slot_dict_itemiterator_next->qe,slot_dict_keyiterator_next->ql,slot_tuple_iterator_next->qy,called_set->WO,slot_list_getattribute->Wh,args_tuple_iterator_next_1->Wi,entry_tuple_iterator_next->Wk,plainAttrs_list->Wn,args_dict_itemiterator_next_1->Wt,entry_dict_itemiterator_next->Wx,args_dict_keyiterator_next_1->W0,entry_dict_keyiterator_next->QAC,slot_dict_getitem->QAc,args_tuple_add_2->QAi,entry_tuple_add->QAp,plainAttrs_dict->QAv,slot_tuple_add->QAy,slot_dict_items_iter->QAz,plain_list_iadd->QB0,slot_dict_iter->QCF,slot_int_rmul->QCN,plain_set_new->QCR,slot_set_iter->QCS
open LawfulBEq renaming eq_of_beq->qh
open PyProof.Rows renaming callWith_type1->qq,slot_tuple_getitem->wl,callWith_builtin1->ww,subscriptTail_builtinR->WI,boot_sorted->QAk
open PySem.SeqAt renaming EqAt->qz,eqv_refl->QAG
open Classical renaming byContradiction->wE
open Lean.Parser.Tactic renaming tacticSeq->wL
open PySem.Builtin.Slice renaming slicePlaces->wa,sliceAdjust->WU,sliceApplied->QAU
open PySem.Builtin.Dict_items renaming addrOf->we,ownsTuple->QAI
open List.Perm renaming refl->wf
open PySem.SetTable renaming below->wg,grown->WH,orStandIn->QBh
open Iff renaming rfl->wj
open PySem.Builtin.Tuple renaming tupleExact->wm
open List.Pairwise renaming imp_of_mem->wv,map->WR
open PySem.Builtin.Str renaming occurrences->w8
open PySem.W.WData renaming weightAll->WB,weight->QAE
open PySem.Builtin.List renaming listTooLong->Wg,listExtendWith->QAP
open PySem.Calls renaming spliced_cons->Wj,callWith_builtin->Wo,spliced_nil->Wr,Name_function_global->QAT,call_function_entry->QAe
open PyProof.Rows.F renaming plain_set_update_loop->Wm,entry_set_update_loop->QAt
open PySem.Builtin.Dict renaming showsAll->Wz,updateFrom->QAu,pairItems->QA2
open PySem.Txt renaming join->QAJ,slice->QCb
open List.cons renaming injEq->QAQ
open PySem.Builtin.Int renaming intBits->QAS
open PySem.StrLaws renaming glued_eq_join->QBD
open PySem.Value renaming isStrOf_shape->QBQ
open PySem.SeqAt.EqAt renaming int_str->QBa,str_int->QBb
open PySem.Shared renaming TypeIs->QBi
open PySem.Walks renaming list->QBs
open PyProof.Rows.SortSt renaming mk'->QBu
open PySem.SetTable.below renaming go->QBz
open Nat.succ renaming inj->QB6
open Eq renaming mpr->QCT
theorem dF{p:Prop}[Decidable p](h:¬p):decide p=false:=_root_.decide_eq_false h
theorem dT{p:Prop}[Decidable p](h:p):decide p=true:=_root_.decide_eq_true h
abbrev NB:=List (PySem.Addr×PySem.Obj)
abbrev AB:=PySem.Value -> PySem.Shared -> Prop
abbrev fB:=PySem.Addr -> Prop
abbrev iB:=List (PySem.Str×PySem.Str)
set_option hygiene false in
local macro_rules | `(tactic| omega)=>do
 let f:=λ(s:String)=>(s.splitOn " ").toArray.map λx=>Lean.mkIdent x.toName
 let a<-(f "L2.szA L2.szB L2.szC L2.unA Nat.le_trans Nat.lt_of_le_of_lt").mapM λx=>`(wL| exact $x (by assumption) (by decide))
 let b<-(f "Nat.lt_of_lt_of_le Nat.lt_of_le_of_lt Nat.le_trans").mapM λx=>`(wL| exact $x (by assumption) (by assumption))
 let c<-(f "Nat.le_of_lt Nat.ne_of_lt Nat.ne_of_gt Nat.lt_succ_of_lt Nat.le_of_lt_succ L2.prA").mapM λx=>`(wL| exact $x (by assumption))
 let d<-(f "Nat.le_refl Nat.le_succ Nat.zero_le Nat.succ_pos").mapM λx=>`(wL| exact $x _)
 `(tactic| first|decide|assumption|exact L2.szL (by decide) $[| $a]* $[| $b]* $[| $c]* $[| $d]*|omega (config:={}))
set_option hygiene false in
local macro_rules | `(tactic| simp? [$ls,*])=>do
 let a<-("vA Yg Vg Rb Kg Xg N7 Jg Ob Zg Nb Bg ig Ag og uh Ig bm zh lh rg gh eg vL Lb cm jc yh K0 yc dh bh i0 kh Eg zc jg xl kg nh vc B0 C0 Cg Ul Tb Hg Gg Bl Fg Dg Sb Jo Vo Yo Ko Zo vm fo ao mo Kn Dl Zn uo vo xo An zo Dm Cn Uo Xo P4 Mj Nj Sn Rn Pn On Nn Mn Ln Hn Gn Fn Pl Ol Nl Lg Xn Vn Bn Fl Og jo Cm gm Fk gg xg cg ug fg dg ml yj jj Gf Df Uf Vf Jk Yk Xk Cf jb Bf Ia Xf MZ jn Ti Si Be Sm Hh E7 Mh Lh Om dn Ji kj zj Em Fc Oh Ph Lc lg rf bC reduceIte".splitOn " ").toArray.mapM λx=>`(Lean.Parser.Tactic.simpLemma| ↓ $(Lean.mkIdent x.toName):ident)
 let b<-("bH kF iF nO T.isD lockA KG lock kill mF Tg.ix pC Y1 VU ZW isMut IY frzAt TV La HC.eq_1 HC.eq_2 gR.eq_1 gR.eq_2 gR.eq_3 gR.eq_4 M9 L9 EI.eq_1 List.modify_succ_cons List.modify_zero_cons Option.map_some List.length_cons List.length_nil List.getElem?_cons_zero List.getElem?_cons_succ List.cons_append List.nil_append List.set_cons_zero List.set_cons_succ Nat.reduceAdd Nat.reduceSub Nat.zero_add Bool.and_true Bool.true_and Bool.not_true Bool.not_false Bool.or_true Bool.true_or Bool.or_false Bool.false_or Bool.and_false Bool.false_and if_true if_false Bool.false_eq_true true_and and_true false_implies ne_eq reduceCtorEq not_false_eq_true not_true_eq_false implies_true forall_const Int.reduceLT Int.reduceLE Int.reducePow Int.reduceNeg Nat.reducePow and_self eq_self Option.some.injEq Sl.own.injEq Sl.nv.injEq and_assoc decide_true decide_false".splitOn " ").toArray.mapM λx=>`(Lean.Parser.Tactic.simpLemma| $(Lean.mkIdent x.toName):ident)
 `(tactic| simp -implicitDefEqProofs only [$ls,*,$a,*,$b,*])
namespace L2
open PySem PySem.Spec PyProof.Rows
section
variable{n m:Nat}{H:Hp}{a b:Addr}{o:HO}
theorem szL(h:n<=16777216):n<=sizeLine:=by rw[QS];exact h
theorem bn(h:n<16777216):n<sizeLine:=by rw[QS];exact h
theorem cn(h:n<=m)(k:m<=16777216):n<=sizeLine:=szL (QZ h k)
theorem Fo(h:n<=m)(k:m<16777216):n<sizeLine:=bn (QBZ h k)
theorem Do(h:n<=m)(k:m<=16777216):0+n<=sizeLine:=by rw[QA3];exact cn h k
theorem Co{k c:Nat}(h:n+k<c)(l:m<=k):n+m<c:=QBZ (Nat.add_le_add_left l n) h
theorem Go(h:m<n):n - 1<n:=by cases n with|zero=>exact(nomatch h)|succ n=>exact WY n
noncomputable abbrev Key:=Sum Int Str
def bM:Key->Value->Bool
 | .inl k,v=>Value.isInt k v|.inr x,v=>Value.isStrOf x v
def Dj(w:World):Key->Int
 | .inl k=>hashInt k|.inr x=>hashStr w x
theorem SA:∀{k:Key}{v:Value},bM k v=true->(∃i t,k=Sum.inl i/\v=Value.int i t)∨(∃x t,k=Sum.inr x/\v=Value.str x t)
 | .inl i,v,h=>by obtain⟨t,e⟩:=Value.isInt_shape (k:=i) (v:=v) h;exact .inl ⟨i,t,rfl,e⟩|.inr x,v,h=>by obtain⟨t,e⟩:=QBQ (x:=x) (v:=v) h;exact .inr ⟨x,t,rfl,e⟩
theorem HV(i:Int)(t:Tok):bM (.inl i) (.int i t)=true:=by simp[bM,Value.isInt]
theorem uM(x:Str)(t:Tok):bM (.inr x) (.str x t)=true:=by simp[bM,Value.isStrOf]
theorem ba(a b:Int):decide ((Sum.inl a:Key)=Sum.inl b)=(a==b):=by by_cases e:a=b;subst e;simp;have h:¬ (Sum.inl a:Key)=Sum.inl b:=λq=>e (Sum.inl.inj q);rw[dF h];exact(beq_eq_false_iff_ne.mpr e).symm
theorem ka(a b:Str):decide ((Sum.inr a:Key)=Sum.inr b)=decide (a=b):=by by_cases e:a=b;subst e;simp;have h:¬ (Sum.inr a:Key)=Sum.inr b:=λq=>e (Sum.inr.inj q);rw[dF h,dF e]
theorem ua(a:Int)(b:Str):decide ((Sum.inl a:Key)=Sum.inr b)=false:=dF (λq=>nomatch q)
theorem xa(a:Str)(b:Int):decide ((Sum.inr a:Key)=Sum.inl b)=false:=dF (λq=>nomatch q)
noncomputable def OA(prog:Program)(w:World):PySem.KeyKind prog w Key where
 is:=bM
 hash:=Dj w
 inj:=λv a b f hb=>by
  rcases SA f with⟨i,t,rfl,rfl⟩| ⟨x,t,rfl,rfl⟩
  rcases SA hb with⟨j,u,rfl,e⟩| ⟨y,u,rfl,e⟩
  ·injection e with e1 _;rw[e1]
  exact nomatch e;rcases SA hb with⟨j,u,rfl,e⟩| ⟨y,u,rfl,e⟩
  ·exact nomatch e
  injection e with e1 _;rw[e1]
 byValue:=λk v h=>by rcases SA h with⟨i,t,rfl,rfl⟩| ⟨x,t,rfl,rfl⟩<;>rfl
 pyHash:=λhv h=>by
  rcases SA hv with⟨i,t,rfl,rfl⟩| ⟨x,t,rfl,rfl⟩
  exact wpAny_pyHash_int h;exact wpAny_pyHash_str h
 eqBool:=λz hv h=>by
  rcases SA z with⟨i,t,rfl,rfl⟩| ⟨x,t,rfl,rfl⟩
  rcases SA hv with⟨j,u,rfl,rfl⟩| ⟨y,u,rfl,rfl⟩
  ·rw[ba]at h;exact wpAny_eqBool_int h
  rw[ua]at h;exact QBa i t y u _ _ _ _ h;rcases SA hv with⟨j,u,rfl,rfl⟩| ⟨y,u,rfl,rfl⟩
  ·rw[xa]at h;exact QBb x t j u _ _ _ _ h
  rw[ka]at h;exact wpAny_eqBool_str h
 «strs»:=λk x t v h=>by
  rcases SA h with⟨i,u,rfl,e⟩| ⟨y,u,rfl,e⟩
  exact nomatch e;injection e with e1 _;subst e1;cases v<;>rfl
theorem iP(prog:Program)(w:World)(i:Int)(t:Tok):(OA prog w).is (.inl i) (.int i t)=true:=HV i t
theorem eP(prog:Program)(w:World)(x:Str)(t:Tok):(OA prog w).is (.inr x) (.str x t)=true:=uM x t
set_option genInjectivity true in
inductive V where
 |non|bl (b:Bool)|int (i:Int)|str (x:Str)|byt (b:Array UInt8)|flt (b:UInt64)|ref (a:Addr)|ty (n:String)
 deriving DecidableEq
noncomputable def rA:V->Value->Prop
 | .non,u=>u=Value.none|.bl b,u=>u=Value.bool b|.int i,u=>∃t,u=Value.int i t|.str x,u=>∃t,u=Value.str x t|.byt b,u=>∃t,u=Value.bytes b t|.flt b,u=>∃t,u=Value.float b t|.ref a,u=>u=Value.ref a|.ty n,u=>u=Value.type n
noncomputable abbrev dA:List V->List Value->Prop:=Paired rA
theorem dA.length{xs:List V}{us:List Value}(r:dA xs us):xs.length=us.length:=qW r
theorem dA.get:∀{xs:List V}{us:List Value}{i:Nat}{x:V},dA xs us->xs[i]?=some x->∃u,us[i]?=some u/\rA x u
 |_,_,_,_,.nil,e=>by simp at e|_,_,0,_,.cons r _,e=>by simp at e;subst e;exact⟨_,rfl,r⟩|_,_,i+1,x,.cons _ t,e=>by obtain⟨u,y,h⟩:=dA.get (i:=i) (x:=x) t (by simpa using e);exact⟨u,by simpa using y,h⟩
theorem dA.set{x:V}{u:Value}(r:rA x u):∀{xs:List V}{us:List Value}(i:Nat),dA xs us->dA (xs.set i x) (us.set i u)
 |_,_,_,.nil=>.nil|_,_,0,.cons _ t=>.cons r t|_,_,i+1,.cons q t=>.cons q (dA.set r i t)
theorem dA.append:∀{xs h:List V}{us ws:List Value},dA xs us->dA h ws->dA (xs++h) (us++ws)
 |_,_,_,_,.nil,s=>s|_,_,_,_,.cons r t,s=>.cons r (dA.append t s)
theorem dA.take:∀{xs:List V}{us:List Value}(n:Nat),dA xs us->dA (xs.take n) (us.take n)
 |_,_,0,_=>.nil|_,_,_+1,.nil=>.nil|_,_,n+1,.cons r t=>.cons r (dA.take n t)
theorem dA.drop:∀{xs:List V}{us:List Value}(n:Nat),dA xs us->dA (xs.drop n) (us.drop n)
 |_,_,0,r=>r|_,_,_+1,.nil=>.nil|_,_,n+1,.cons _ t=>dA.drop n t
def VQ:Option V->Option Value->Prop
 |some v,some u=>rA v u|none,none=>True|_,_=>False
def KV{h:Type}:List (h×V)->List (h×Value)->Prop:=Paired λ(p:h×V) (q:h×Value)=>p.1=q.1/\rA p.2 q.2
def kV:Key->V
 | .inl i=>.int i|.inr x=>.str x
inductive HO where
 |lst (xs:List V)
 |tup (xs:List V)
 |dK (kvs:List (Key×V))|dT (ep:Nat) (kvs:List (List Key×Addr×V))
 |set (S:Int->Bool) (n:Nat)
 |ins (C dx:Addr) (fs:List (Str×V))
 |own (x:Addr)
 |xd (fs:List (Str×V))
 |met (f x:Addr)
 |rng (lo hi:Int)
 |frz (o:Obj) (u:HO)
 |tbl (ps:Array Value)
 |ext (φ:Heap->Prop)
noncomputable abbrev Hp:=Addr->Option HO
def DA(H:Hp)(a:Addr)(o:HO):Hp:=λb=>if b=a then some o else H b
theorem pA:DA H a o a=some o:=by unfold DA;rw[if_pos rfl]
theorem kA(h:b≠a):DA H a o b=H b:=by unfold DA;rw[if_neg h]
theorem FS{u:HO}:DA (DA H a o) a u=DA H a u:=by funext b;unfold DA;split<;>rfl
theorem VA(h:H a=some o)(h':H b=none):a≠b:=by intro e;subst e;rw[h]at h';cases h'
end
section
variable(P:Program)(w:World)
noncomputable def LA(H:Hp)(h:Heap)(a:Addr):HO->Prop
 | .lst k=>k.length<=sizeLine/\∃(z:List Value) (n:Nat),dA k z/\h.get? a=some { cls:=.type "list",data:=.seq z.toArray n }|.tup k=>k.length<=sizeLine/\∃z:List Value,dA k z/\IsTup h a z.toArray|.dK y=>y.length<=sizeLine/\(a==sysModules)=false/\∃i,KV y i/\h.DictOf (OA P w) a i|.dT Y y=>y.length<=sizeLine/\(a==sysModules)=false/\∃k:List (List Key×Addr×Value),
   Paired (λ(p:List Key×Addr×V) (q:List Key×Addr×Value)=>p.1=q.1/\p.2.1=q.2.1/\rA p.2.2 q.2.2) y k /\
   ∃o m,h.get? a=some o/\o.ExactDict/\o.data=.dict m Y/\m.toList=k.map (entryOfKey (tupleKind (OA P w)))/\(k.map (·.1)).Nodup
 | .set S n=>h.SetOf (intKind P w) a S n|.ins C e fs=>H e=some (.own a)/\fs.length<=1000/\e≠a/\h.get? a=some (QA4 C e) /\
   ∃b,h.Ns1 e b/\(∀f,VQ (fs.lookup f) (b f))/\PySem.Within b (fs.map (·.1))
 | .own _=>∃o,h.get? a=some o|.xd fs=>∃b,h.Ns1 a b/\∀f,VQ (fs.lookup f) (b f)|.rng s X=>∃t u v,h.get? a=some { cls:=.type "range",data:=.fields #[.int s t,.int X u,.int 1 v] }|.frz o u=>h.get? a=some o/\LA H h a u|.tbl r=>h.get? a=some { cls:=.none,data:=.fields r }|.met f x=>h.get? a=some (QAf (.ref f) (.ref x))|.ext g=>g h/\(∃o,h.get? a=some o)/\∀l j:Heap,g l->(∀o,l.get? a=some o->j.get? a=some o)->g j
def UJ(H:Hp)(h:Heap):Prop:=∀a o,H a=some o->LA P w H h a o
end
section
variable{P:Program}{w:World}{H g:Hp}{h h':Heap}{a:Addr}{o:HO}
theorem LA.lt(x:LA P w H h a o):a<h.objs.size:=by
 cases o with|lst v=>obtain⟨_,_,_,_,e⟩:=x;exact QR e|tup v=>obtain⟨_,_,_,p⟩:=x;exact p.lt|dK z=>obtain⟨_,_,_,_,o,_,_,e,_⟩:=x;exact QR e|dT m z=>obtain⟨_,_,_,_,o,_,e,_⟩:=x;exact QR e|set S n=>obtain⟨o,_,_,_,e,_⟩:=x;exact QR e|ins C q fs=>obtain⟨_,_,_,e,_⟩:=x;exact QR e|own y=>obtain⟨_,e⟩:=x;exact QR e|xd fs=>obtain⟨_,⟨_,_,_,e,_⟩,_⟩:=x;exact QR e|rng j l=>obtain⟨_,_,_,e⟩:=x;exact QR e|frz i u=>obtain⟨e,_⟩:=x;exact QR e|tbl b=>exact QR (show h.get? a=some _ from x)|met f y=>exact QR (show h.get? a=some _ from x)|ext k=>obtain⟨_,⟨_,e⟩,_⟩:=x;exact QR e
theorem LA.stay(x:LA P w H h a o)(k:∀b u,(b=a∨H b=some (.own a))->h.get? b=some u->h'.get? b=some u)
  (B:∀b,H b=some (.own a)->g b=some (.own a)) (I:∀b xs,H b=some (.tup xs)->g b=some (.tup xs)):LA P w g h' a o:=by
 induction o with|lst xs=>obtain⟨z,m,n,r,e⟩:=x;exact⟨z,m,n,r,k _ _ (.inl rfl) e⟩|tup xs=>obtain⟨z,m,r,i,e,c⟩:=x;exact⟨z,m,r,i,k _ _ (.inl rfl) e,c⟩|dK Y=>obtain⟨z,y,W,r,i,j,l,e,c⟩:=x;exact⟨z,y,W,r,i,j,l,k _ _ (.inl rfl) e,c⟩|dT l Y=>obtain⟨z,y,xs,r,i,j,e,c⟩:=x;exact⟨z,y,xs,r,i,j,k _ _ (.inl rfl) e,c⟩|set S n=>obtain⟨i,j,l,t,e,c⟩:=x;exact⟨i,j,l,t,k _ _ (.inl rfl) e,c⟩|ins C L fs=>obtain⟨d,z,K,e,X,⟨s,j,l,E,c⟩,r⟩:=x;exact⟨B _ d,z,K,k _ _ (.inl rfl) e,X,⟨s,j,l,k _ _ (.inr d) E,c⟩,r⟩|own y=>obtain⟨i,e⟩:=x;exact⟨i,k _ _ (.inl rfl) e⟩|xd fs=>obtain⟨X,⟨s,j,l,e,c⟩,r⟩:=x;exact⟨X,⟨s,j,l,k _ _ (.inl rfl) e,c⟩,r⟩|rng G J=>obtain⟨t,u,v,e⟩:=x;exact⟨t,u,v,k _ _ (.inl rfl) e⟩|frz i u A=>obtain⟨e,q⟩:=x;exact⟨k _ _ (.inl rfl) e,A q⟩|tbl Z=>have e:h.get? a=some { cls:=.none,data:=.fields Z }:=x;show h'.get? a=some { cls:=.none,data:=.fields Z };exact k a _ (.inl rfl) e|met f y=>have e:h.get? a=some (QAf (.ref f) (.ref y)):=x;show h'.get? a=some (QAf (.ref f) (.ref y));exact k a _ (.inl rfl) e|ext F=>obtain⟨p,⟨o,e⟩,st⟩:=x;exact⟨st _ _ p λo q=>k _ _ (.inl rfl) q,⟨o,k _ _ (.inl rfl) e⟩,st⟩
theorem UJ.lt(x:UJ P w H h)(e:H a=some o):a<h.objs.size:=(x a o e).lt
theorem UJ.fresh(x:UJ P w H h)(e:h.objs.size<=a):H a=none:=by
 cases q:H a with|none=>rfl|some u=>exact absurd (Qp (x.lt q) e) (wM _)
theorem UJ.kept(x:UJ P w H h)(k:∀b u,h.get? b=some u->h'.get? b=some u):UJ P w H h':=λa o e =>
 (x a o e).stay (λb u _ q=>k b u q) (λ_ q=>q) λ_ _ q=>q
theorem UJ.laid(x:UJ P w H h)(k:∀b u,h.get? b=some u->h'.get? b=some u)(z:h.objs.size<=a)(new:LA P w (DA H a o) h' a o):UJ P w (DA H a o) h':=λb u e=>by have y:=x.fresh z;by_cases hb:b=a;subst hb;rw[pA]at e;cases e;exact new;rw[kA hb]at e;exact(x b u e).stay (λc v _ q=>k c v q) (λc q=>by rw[kA (VA q y)];exact q) λc f q=>by rw[kA (VA q y)];exact q
end
def Rd(H:Hp)(a:Addr)(u:HO):Prop:=H a=some u∨∃o,H a=some (.frz o u)
theorem Rd.ok{P:Program}{w:World}{H:Hp}{h:Heap}{a:Addr}{u:HO}(r:Rd H a u)(x:UJ P w H h):LA P w H h a u:=by
 rcases r with r|⟨o,r⟩
 exact x a u r;obtain⟨_,q⟩:=x a _ r;exact q
def Jc:Option HO->Prop
 |some (.lst _)=>True|some (.dK _)=>True|some (.dT _ _)=>True|some (.set _ _)=>True|some (.ins _ _ _)=>True|some (.ext _)=>True|_=>False
section
variable{P:Program}{w:World}{H:Hp}{h h':Heap}{x e:Addr}{a:HO}
theorem UJ.write(ok:UJ P w H h)(l:Jc (H x))(o:e=x∨H e=some (.own x))(k:∀b u,b≠e->h.get? b=some u->h'.get? b=some u)(m:∃u,h'.get? e=some u)
  (new:LA P w (DA H x a) h' x a):UJ P w (DA H x a) h':=λb u q=>by
 have g:∀c y,H c=some (.own y)->c≠x:=λc y r z=>by subst z;rw[r]at l;exact l
 have i:∀c j,H c=some (.tup j)->c≠x:=λc j r z=>by subst z;rw[r]at l;exact l
 by_cases hb:b=x;subst hb;rw[pA]at q;cases q;exact new;rw[kA hb]at q;by_cases f:b=e;have n:H b=some (.own x):=by rcases o with z|z;exact absurd (f.trans z) hb;rw[f];exact z
 rw[q]at n;cases n;obtain⟨v,hv⟩:=m;exact⟨v,by rw[f];exact hv⟩;refine(ok b u q).stay (λc v hc r=>k c v ?_ r) (λc r=>by rw[kA (g c b r)];exact r) λc j r=>by rw[kA (i c j r)];exact r
 rcases hc with rfl|hc;exact f;rintro rfl;rcases o with z|z;exact g c b hc z;rw[hc]at z;cases z;exact hb rfl
end
structure Un(fs ex:List Addr)(H H':Hp)(h h':Heap):Prop where
 keep:∀b o,h.get? b=some o->H b=none->b∉fs->b∉ex->h'.get? b=some o
 slot:∀b o,h.get? b=some o->H b=none->b∈fs->b∉ex->∃sl,h'.get? b=some { o with slots:=sl }
 free:∀b o,h.get? b=some o->H b=none->b∉ex->H' b=none
 there:∀b o,h.get? b=some o->b∉ex->∃o',h'.get? b=some o'
 tups:∀b xs,H b=some (.tup xs)->H' b=some (.tup xs)
 frzs:∀b o u,H b=some (.frz o u)->H' b=some (.frz o u)
 tbls:∀b ps,H b=some (.tbl ps)->∃more,H' b=some (.tbl (ps++more))
section
variable{y w ex c:List Addr}{H d g:Hp}{h v f h':Heap}{a x e:Addr}{o:HO}
theorem Un.any(u:Un y ex H d h v){b:Addr}{z:Obj}(q:h.get? b=some z)(n:H b=none)(k:b∉ex):∃i,v.get? b=some { z with slots:=i }:=by by_cases hb:b∈y;exact u.slot b z q n hb k;exact⟨z.slots,u.keep b z q n hb k⟩
theorem Un.kept(k:∀b u,h.get? b=some u->h'.get? b=some u):Un y ex H H h h' :=
 ⟨λb z q _ _ _=>k b z q,λb z q _ _ _=>⟨z.slots,k b z q⟩,λ_ _ _ n _=>n,λb z q _=>⟨z,k b z q⟩,λ_ _ q=>q,λ_ _ _ q=>q,λ_ i q=>⟨#[],by rw[q];simp⟩⟩
theorem Un.refl:Un y ex H H h h:=Un.kept λ_ _ q=>q
theorem Un.laid(k:∀b u,h.get? b=some u->h'.get? b=some u)(j:h.objs.size<=a)(z:H a=none):Un y ex H (DA H a o) h h' where
 keep:=λb u q _ _ _=>k b u q
 slot:=λb u q _ _ _=>⟨u.slots,k b u q⟩
 free:=λb u q n _=>by rw[kA (Qa (Qp (QR q) j))];exact n
 there:=λb u q _=>⟨u,k b u q⟩
 tups:=λb i q=>by rw[kA (VA q z)];exact q
 frzs:=λb u i q=>by rw[kA (VA q z)];exact q
 tbls:=λb l q=>⟨#[],by rw[kA (VA q z),q];simp⟩
theorem Un.write(j:Jc (H x))(X:e=x∨H e=some (.own x))(k:∀b u,b≠e->h.get? b=some u->h'.get? b=some u)(m:∃u,h'.get? e=some u):Un y ex H (DA H x o) h h':=by
 have p:∀b,H b=none->b≠x:=λb n z=>by subst z;rw[n]at j;exact j
 have hb:∀b,H b=none->b≠e:=λb n z=>by subst z;rcases X with r|r;exact p b n r;rw[n]at r;cases r
 have l:∀b u,H b=some u->¬ Jc (some u)->b≠x:=λb u q nm z=>by subst z;rw[q]at j;exact nm j
 refine⟨λb u q n _ _=>k b u (hb b n) q,λb u q n _ _=>⟨u.slots,k b u (hb b n) q⟩,λb u q n _=>by rw[kA (p b n)];exact n,λb u q _=>?_,
  λb s q=>by rw[kA (l b _ q λz=>z)];exact q,λb u s q=>by rw[kA (l b _ q λz=>z)];exact q,λb Y q=>⟨#[],by rw[kA (l b _ q λz=>z),q];simp⟩⟩
 by_cases i:b=e;subst i;exact m;exact⟨u,k b u i q⟩
end
section
variable{h:Heap}{b:Addr}{o:Obj}
def rh(h:Heap)(H:Hp):List Addr:=(qA h.objs.size).filter λa=>(H a).isSome
def MN(h:Heap)(H:Hp):Heap:=PySem.W.hideAll h (rh h H)
theorem PV(h:Heap)(H:Hp):(MN h H).objs.size=h.objs.size:=PySem.W.hideAll_size _ _
theorem kZ{H:Hp}(e:h.get? b=some o)(n:H b=none):(MN h H).get? b=some o :=
 PySem.W.hideAll_get _ e λx=>by have q:(H b).isSome=true:=(Qn.mp x).2;rw[n]at q;simp at q
theorem C4{H:Hp}(e:(MN h H).get? b=some o):h.get? b=some o/\H b=none:=by
 have y:h.get? b=some o:=PySem.W.of_hideAll (rh h H) e;refine⟨y,?_⟩;cases q:H b with|none=>rfl|some x=>have u:b∈rh h H:=Qn.mpr ⟨WT.mpr (QR y),by simp[q]⟩;have z:(MN h H).get? b=none:=PySem.W.hideAll_none (rh h H) u;rw[z]at e;cases e
structure Mod(K:QC)(mg:Str->Option Value)(base:Heap):Prop where
 kin:K.In base
 glob:base.Ns mainGlobals mg
 blt:∃mb,base.Ns builtinsNs mb/\∀x:Str,x≠"__name__"->mb x=bootBuiltins x
 nolimit:base.NoLimit
structure Cx where
 prog:Program
 w:World
 K:QC
 mg:Str->Option Value
 base:Heap
 A:Around
 N:List Str
 s₀:Shared
 H₀:Hp
 env:Env
 outer:List Env
 stack:List Env
 ex:List Addr
 fn:Str->Bool
 calm:Bool
 pn:NB
 xe:Value->Shared->Prop
def EV(l:List Env):List Addr:=l.filterMap (·.frame)
noncomputable abbrev Cx.fs(X:Cx):List Addr:=EV X.outer
def rc(sc:Scope)(x:Str):Prop:=sc.names.lookup x=some .local∨sc.names.lookup x=some .cell∨sc.names.lookup x=some .free
def Zc(sc:Scope)(x:Str):Prop:=sc.names.lookup x=some .local∨sc.names.lookup x=some .cell
def Al(env:Env)(h:Heap)(m:Str->Option Value)(x:Str)(u:Value):Prop :=
 (env.kindOf x=some .local/\m x=some u)∨((env.kindOf x=some .cell∨env.kindOf x=some .free)/\∃c,env.cells.lookup x=some c/\h.IsCell c (some u))
structure Cx.Ok(X:Cx):Prop where
 mod:Mod X.K X.mg X.base
 kind:X.env.scope.kind=.function
 glob:X.env.globals=mainGlobals
 blt:X.env.builtins=builtinsNs
 above:X.s₀.heap.objs.size<=X.env.locals
 inj:∀x y c,X.env.cells.lookup x=some c->X.env.cells.lookup y=some c->x=y
 has:∀x,(X.env.kindOf x=some .cell∨X.env.kindOf x=some .free)->∃c,X.env.cells.lookup x=some c
 cab:∀x c,X.fn x=true->X.env.cells.lookup x=some c->X.s₀.heap.objs.size<=c
 hd:X.calm=true->X.A.handled=none
 frames:X.A.frames=some X.stack
 stk:X.stack=X.outer∨(X.stack=X.env::X.outer/\X.env.frame=some X.env.locals)
 exf:∀b∈X.ex,b≠X.env.locals/\∀x c,X.env.cells.lookup x=some c->c≠b
 bs:∀b o,X.base.get? b=some o->X.s₀.heap.get? b=some o/\X.H₀ b=none
 bsz:X.base.objs.size<=X.s₀.heap.objs.size
 noex:∀b o,X.base.get? b=some o->b∉X.ex
 exfs:∀b∈X.ex,b∉X.fs
 funs:X.s₀.heap.FunFrames X.base X.outer
 frf:∀b∈X.fs,X.H₀ b=none
structure Inv(X:Cx)(pins:NB)(σ:List (Option V))(H:Hp)(s:Shared):Prop where
 ok:X.Ok
 os:s.os=X.s₀.os
 bare:AllBare s.gens
 base:Un X.fs X.ex X.H₀ H X.s₀.heap s.heap
 loc:∃m,s.heap.Ns X.env.locals m/\∀(i:Nat) (x:Str) (v:V),X.N[i]?=some x->σ[i]?=some (some v)->rc X.env.scope x->∃u,rA v u/\Al X.env s.heap m x u
 cell:∀x c,X.env.cells.lookup x=some c->∃v,s.heap.IsCell c v
 free:H X.env.locals=none
 freeC:∀x c,X.env.cells.lookup x=some c->H c=none
 pin:∀p∈X.pn++pins,s.heap.get? p.1=some p.2/\H p.1=none/\p.1≠X.env.locals/\p.1∉X.fs/\∀v,p.2.data≠.cell v
 hok:UJ X.prog X.w H s.heap
 len:σ.length=X.N.length
end
section
variable{X:Cx}{f:NB}{σ:List (Option V)}{H g:Hp}{s:Shared}{h':Heap}
section
variable{a:Addr}{g':Array GenState}{ch:List Addr}{i:Nat}{x:Str}{M:Model}{A:Around}{E:AB}{u:Value}{Q:Unit->Shared->Prop}
theorem Cx.Ok.nofr(ok:X.Ok){b:Addr}{o:Obj}(e:X.base.get? b=some o):b∉X.fs:=λhb=>by have:=(ok.funs.mem hb).1;rw[e]at this;cases this
theorem Inv.bs(I:Inv X f σ H s):∀b o,X.base.get? b=some o->s.heap.get? b=some o/\H b=none:=λb o e =>
 ⟨I.base.keep b o (I.ok.bs b o e).1 (I.ok.bs b o e).2 (I.ok.nofr e) (I.ok.noex b o e),I.base.free b o (I.ok.bs b o e).1 (I.ok.bs b o e).2 (I.ok.noex b o e)⟩
theorem Inv.bk(I:Inv X f σ H s):∀b o,X.base.get? b=some o->s.heap.get? b=some o:=λb o e=>(I.bs b o e).1
theorem Inv.mod(I:Inv X f σ H s):Mod X.K X.mg X.base:=I.ok.mod
theorem Inv.kIn(I:Inv X f σ H s):X.K.In s.heap:=I.ok.mod.kin.keeps I.bk
theorem Inv.lt(I:Inv X f σ H s):X.env.locals<s.heap.objs.size:=let⟨_,h,_⟩:=I.loc;h.lt
theorem Inv.sz(I:Inv X f σ H s):X.s₀.heap.objs.size<=s.heap.objs.size:=QZ I.ok.above (QAX I.lt)
theorem Inv.nofs(I:Inv X f σ H s)(h:s.heap.objs.size<=a):a∉X.fs:=λhb=>by obtain⟨_,o,y,_⟩:=I.ok.funs.mem hb;exact absurd (Qp (QR y) (QZ I.sz h)) (wM _)
theorem Inv.cne(I:Inv X f σ H s):∀x c,X.env.cells.lookup x=some c->c≠X.env.locals:=λx c e z=>by obtain⟨v,o,w,k⟩:=I.cell x c e;obtain⟨m,⟨b,j,l,h,y,_⟩,_⟩:=I.loc;rw[z,h]at w;cases w;rw[y]at k;cases k
theorem Inv.funs(I:Inv X f σ H s):s.heap.FunFrames X.base X.outer:=by
 have all:∀(l:List Env),(∀b∈EV l,b∈X.fs)->X.s₀.heap.FunFrames X.base l->s.heap.FunFrames X.base l:=by
  intro l;induction l with|nil=>intro _ _;trivial|cons p r w=>intro v hl;obtain⟨hk,⟨L,o,h,m,j,n⟩,k⟩:=hl;have y:L∈X.fs:=v L (by unfold EV;rw[wz,h];exact QE);obtain⟨q,e⟩:=I.base.slot L o j (I.ok.frf L y) y λz=>I.ok.exfs L z y;exact⟨hk,⟨L,_,h,m,e,n⟩,w (λb hb=>v b (by unfold EV;rw[wz,h];exact QG _ hb)) k⟩
 exact all X.outer (λ_ hb=>hb) I.ok.funs
theorem Inv.stack(I:Inv X f σ H s):s.heap.FunFrames X.base X.stack:=by
 rcases I.ok.stk with e|⟨e,y⟩
 rw[e];exact I.funs;rw[e];obtain⟨m,h,_⟩:=I.loc;refine .cons (by rw[I.ok.kind];decide) y h ?_ I.funs;exact Heap.get?_none_of_le (QZ I.ok.bsz I.ok.above)
theorem Inv.stkSub(I:Inv X f σ H s):∀b∈EV X.stack,b∈X.env.locals::X.fs:=λb hb=>by
 rcases I.ok.stk with e|⟨e,h⟩
 rw[e]at hb;exact QG _ hb;rw[e]at hb;unfold EV at hb;rw[wz,h]at hb;exact hb
theorem Inv.stkFree(I:Inv X f σ H s):∀b∈EV X.stack,H b=none:=λb hb=>by rcases QK.mp (I.stkSub b hb) with e|hb;rw[e];exact I.free;obtain⟨_,o,h,_⟩:=I.ok.funs.mem hb;exact I.base.free b o h (I.ok.frf b hb) λz=>I.ok.exfs b z hb
theorem Inv.step{t':Nat}{d':Drawn}(I:Inv X f σ H s)
  (j:∀b∈ch,(b∈X.ex∨X.s₀.heap.objs.size<=b)/\b≠X.env.locals/\(∀x c,X.env.cells.lookup x=some c->c≠b)/\∀p∈X.pn++f,p.1≠b)
  (keep:∀b o,b≠X.env.locals->b∉X.fs->b∉ch->s.heap.get? b=some o->H b=none->h'.get? b=some o)
  (K:∀b o,b≠X.env.locals->b∈X.fs->b∉ch->s.heap.get? b=some o->H b=none->∃sl,h'.get? b=some { o with slots:=sl }) (free:∀b o,b∉ch->s.heap.get? b=some o->H b=none->g b=none)
  (B:∀b o,b∉ch->s.heap.get? b=some o->∃J,h'.get? b=some J)
  (F:∀b xs,H b=some (.tup xs)->g b=some (.tup xs)) (O:∀b o u,H b=some (.frz o u)->g b=some (.frz o u)) (G:∀b R,H b=some (.tbl R)->∃N,g b=some (.tbl (R++N)))
  (ns:∀m,s.heap.Ns X.env.locals m->h'.Ns X.env.locals m) (hok:UJ X.prog X.w g h') (hg:AllBare g') :
  Inv X f σ g { s with heap:=h',gens:=g',drawn:=d',toks:=t' }:=by
 have L:∀b o,X.s₀.heap.get? b=some o->b≠X.env.locals:=λb o e=>Qa (Qp (QR e) I.ok.above);have Z:∀b o,X.s₀.heap.get? b=some o->b∉X.ex->b∉ch:=λb o e h hb=>by rcases(j b hb).1 with z|z;exact h z;exact absurd (Qp (QR e) z) (wM _)
 have Y:∀x c,X.env.cells.lookup x=some c->∀v,s.heap.IsCell c v->h'.IsCell c v:=λx c e v ⟨o,C,hd⟩=>by have y:c∉ch:=λz=>(j c z).2.2.1 x c e rfl;by_cases hc:c∈X.fs;obtain⟨sl,q⟩:=K c o (I.cne x c e) hc y C (I.freeC x c e);exact⟨_,q,hd⟩;exact⟨o,keep c o (I.cne x c e) hc y C (I.freeC x c e),hd⟩
 refine⟨I.ok,I.os,hg,⟨λb o e n hb h=>?_,λb o e n hb h=>?_,λb o e n h=>?_,λb o e h=>?_,λb xs e=>F b xs (I.base.tups b xs e),λb o xs e=>O b o xs (I.base.frzs b o xs e),λb R e=>?_⟩,?_,λx c e=>?_,?_,λx c e=>?_,λp hp=>?_,hok,I.len⟩;exact keep b o (L b o e) hb (Z b o e h) (I.base.keep b o e n hb h) (I.base.free b o e n h);obtain⟨sl,W⟩:=I.base.slot b o e n hb h;obtain⟨S,P⟩:=K b _ (L b o e) hb (Z b o e h) W (I.base.free b o e n h);exact⟨S,P⟩;obtain⟨J,W⟩:=I.base.there b o e h;exact free b J (Z b o e h) W (I.base.free b o e n h);obtain⟨J,W⟩:=I.base.there b o e h;exact B b J (Z b o e h) W;obtain⟨m1,W⟩:=I.base.tbls b R e;obtain⟨m2,P⟩:=G b _ W;exact⟨m1++m2,by rw[P,Array.append_assoc]⟩;obtain⟨m,hn,hl⟩:=I.loc;refine⟨m,ns m hn,λi x v W P e3=>?_⟩;obtain⟨u,r,l⟩:=hl i x v W P e3;refine⟨u,r,?_⟩;rcases l with l|⟨k,c,e,z⟩
 exact .inl l;exact .inr ⟨k,c,e,Y x c e _ z⟩;obtain⟨v,z⟩:=I.cell x c e;exact⟨v,Y x c e v z⟩;obtain⟨m,⟨o,_,_,C,_⟩,_⟩:=I.loc;exact free _ o (λz=>(j _ z).2.1 rfl) C I.free;obtain⟨v,o,C,hd⟩:=I.cell x c e;exact free c o (λz=>(j c z).2.2.1 x c e rfl) C (I.freeC x c e);obtain⟨e,n,ne,nf,d⟩:=I.pin p hp;have y:p.1∉ch:=λz=>(j p.1 z).2.2.2 p hp rfl;exact⟨keep p.1 p.2 ne nf y e n,free p.1 p.2 y e n,ne,nf,d⟩
theorem Inv.un{t':Nat}(I:Inv X f σ H s)(u:Un X.fs [] H g s.heap h')(y:UJ X.prog X.w g h'):Inv X f σ g { s with heap:=h',toks:=t' }:=by obtain⟨m,⟨o,K,B,j,r⟩,_⟩:=id I.loc;obtain⟨Y,q⟩:=u.any j I.free (by simp);exact I.step (g':=s.gens) (d':=s.drawn) (ch:=[]) (λ_ z=>nomatch z) (λb o _ hb _ e n=>u.keep b o e n hb (by simp)) (λb o _ hb _ e n=>u.slot b o e n hb (by simp)) (λb o _ e n=>u.free b o e n (by simp)) (λb o _ e=>u.there b o e (by simp)) u.tups u.frzs u.tbls (λW p=>by obtain⟨Z,v,k,h,l⟩:=p;rw[j]at h;cases h;exact⟨_,v,k,q,l⟩) y I.bare
theorem Inv.call{t':Nat}{d':Drawn}(I:Inv X f σ H s)(u:Un (EV X.stack) ch H g s.heap h')(v:UJ X.prog X.w g h')(W:AllBare g')
  (y:∀b∈ch,(b∈X.ex∨X.s₀.heap.objs.size<=b)/\b≠X.env.locals/\(∀x c,X.env.cells.lookup x=some c->c≠b)/\∀p∈X.pn++f,p.1≠b) :
  Inv X f σ g { s with heap:=h',gens:=g',drawn:=d',toks:=t' }:=by
 obtain⟨m,⟨o,F,G,q,r⟩,_⟩:=id I.loc;obtain⟨K,k⟩:=u.any q I.free λz=>(y _ z).2.1 rfl;exact I.step (ch:=ch) y (λb o k hb hc e n=>u.keep b o e n (λz=>(QK.mp (I.stkSub b z)).elim k hb) hc) (λb o _ _ hc e n=>u.any e n hc) (λb o hc e n=>u.free b o e n hc) (λb o hc e=>u.there b o e hc) u.tups u.frzs u.tbls (λC Z=>by obtain⟨B,j,l,h,Y⟩:=Z;rw[q]at h;cases h;exact⟨_,j,l,k,Y⟩) v W
theorem Inv.turned{t':Nat}{it:Addr}(I:Inv X f σ H s)(k:∀b o,b≠it->s.heap.get? b=some o->h'.get? b=some o)(j:H it=none)(y:it≠X.env.locals)
  (W:it∈X.ex∨X.s₀.heap.objs.size<=it) (Z:∀x c,X.env.cells.lookup x=some c->c≠it) (Y:∀p∈X.pn++f,p.1≠it):Inv X f σ H { s with heap:=h',toks:=t' }:=by
 have h:∀b u,H b=some u->b≠it:=λb u e z=>by rw[z,j]at e;cases e
 refine I.step (g':=s.gens) (d':=s.drawn) (ch:=[it]) (λb hb=>?_) (λb o _ _ hc e _=>k b o (λz=>hc (by simp[z])) e) (λb o _ _ hc e _=>⟨o.slots,k b o (λz=>hc (by simp[z])) e⟩) (λ_ _ _ _ n=>n)
  (λb o hc e=>⟨o,k b o (λz=>hc (by simp[z])) e⟩) (λ_ _ e=>e) (λ_ _ _ e=>e) (λb C e=>⟨#[],by rw[e];simp⟩) (λm l=>?_) (λb u e=>?_) I.bare
 have e:b=it:=by simpa using hb
 subst e;exact⟨W,y,Z,Y⟩;obtain⟨o,K,B,w,r⟩:=l;exact⟨o,K,B,k _ o (Q1 y) w,r⟩;refine(I.hok b u e).stay (λc v hc q=>k c v ?_ q) (λ_ q=>q) λ_ _ q=>q;rcases hc with z|z;rw[z];exact h b u e;exact h c _ z
theorem Inv.tok(I:Inv X f σ H s)(t:Nat):Inv X f σ H { s with toks:=t }:=I.un (h':=s.heap) (t':=t) Un.refl I.hok
theorem Inv.kept{t':Nat}(I:Inv X f σ H s)(k:∀b u,s.heap.get? b=some u->h'.get? b=some u):Inv X f σ H { s with heap:=h',toks:=t' }:=I.un (Un.kept k) (I.hok.kept k)
theorem Inv.laid{o:HO}{t':Nat}(I:Inv X f σ H s)(k:∀b u,s.heap.get? b=some u->h'.get? b=some u)(h:s.heap.objs.size<=a)(new:LA X.prog X.w (DA H a o) h' a o) :
  Inv X f σ (DA H a o) { s with heap:=h',toks:=t' }:=I.un (Un.laid k h (I.hok.fresh h)) (I.hok.laid k h new)
theorem Inv.write{x e:Addr}{o:HO}{t':Nat}(I:Inv X f σ H s)(y:Jc (H x))(z:e=x∨H e=some (.own x))(k:∀b u,b≠e->s.heap.get? b=some u->h'.get? b=some u)(h:∃u,h'.get? e=some u)
  (new:LA X.prog X.w (DA H x o) h' x o):Inv X f σ (DA H x o) { s with heap:=h',toks:=t' }:=I.un (Un.write y z k h) (I.hok.write y z k h new)
theorem Inv.pins_of{y:NB}(I:Inv X f σ H s)(h:∀p∈y,s.heap.get? p.1=some p.2/\H p.1=none/\p.1≠X.env.locals/\p.1∉X.fs/\∀v,p.2.data≠.cell v):Inv X y σ H s :=
 ⟨I.ok,I.os,I.bare,I.base,I.loc,I.cell,I.free,I.freeC,λp w=>(Qf.mp w).elim (λz=>I.pin p (Qr _ z)) (h p),I.hok,I.len⟩
theorem rP{N:List Str}(h:N.Nodup){j:Nat}(a:N[i]?=some x)(b:N[j]?=some x):i=j:=by obtain⟨w,z⟩:=Qe.mp a;obtain⟨v,y⟩:=Qe.mp b;exact(List.getElem_inj h).mp (z.trans y.symm)
theorem LL{v:V}(I:Inv X f σ H s)(hN:X.N.Nodup)(O:X.N[i]?=some x)(W:Zc X.env.scope x)(r:rA v u)
  (h:∀s',Inv X f (σ.set i (some v)) H s'->(∃a,qR a s.heap s'.heap/\(a=X.env.locals∨X.env.cells.lookup x=some a))->Q () s') (hf:X.fn x=true∨X.env.scope.names.lookup x=some .local):wpAny M A (storeName X.env x u) Q E s:=by
 obtain⟨m,hn,hl⟩:=id I.loc;have P:(X.env.scope.kind==.class||(X.env.scope.kind==.module&&X.env.locals != X.env.globals))=false:=by rw[I.ok.kind];rfl
 have C:i<σ.length:=by rw[I.len];exact(Qe.mp O).1
 have cne:=I.cne;have Y:∀{a:Addr}{h':Heap},(∃o,s.heap.get? a=some o/\H a=none)->qR a s.heap h'->UJ X.prog X.w H h':=λ{a h'} ha l b ob e=>by obtain⟨_,_,K⟩:=ha;refine(I.hok b ob e).stay (λc w' hc q=>(l.2 c ?_).trans q) (λ_ q=>q) λ_ _ q=>q;rintro rfl;rcases hc with rfl|hc;rw[K]at e;cases e;rw[K]at hc;cases hc
 rcases W with hk|hk;refine wpAny_storeName_local hk hn (λh' hn' l=>?_) P;obtain⟨oL,_,_,hoL,_⟩:=id hn;refine h _ ⟨I.ok,I.os,I.bare,⟨λb o e n hb W=>?_,λb o e n hb W=>?_,I.base.free,λb o e W=>?_,I.base.tups,I.base.frzs,I.base.tbls⟩,⟨_,hn',λj y v' Z B e3=>?_⟩,λy c e=>?_,I.free,I.freeC,λp hp=>?_,Y ⟨oL,hoL,I.free⟩ l,by simpa using I.len⟩ ⟨_,l,.inl rfl⟩;exact(l.2 b (Qa (Qp (QR e) I.ok.above))).trans (I.base.keep b o e n hb W);obtain⟨sl,Z⟩:=I.base.slot b o e n hb W;exact⟨sl,(l.2 b (Qa (Qp (QR e) I.ok.above))).trans Z⟩;obtain⟨o',Z⟩:=I.base.there b o e W;exact⟨o',(l.2 b (Qa (Qp (QR e) I.ok.above))).trans Z⟩;by_cases F:j=i
 ·subst F
  rw[O]at Z;cases Z;rw[qZ C]at B;cases B;exact⟨u,r,.inl ⟨hk,by simp⟩⟩
 rw[qO (Q1 F)]at B;obtain⟨u',r',q⟩:=hl j y v' Z B e3;refine⟨u',r',?_⟩;rcases q with⟨k,e⟩| ⟨k,c,e,z⟩
 refine .inl ⟨k,?_⟩;have:y≠x:=λe=>F (rP hN Z (e▸O));simp[this,e];exact .inr ⟨k,c,e,z.sameBut l (cne y c e)⟩;obtain⟨w',z⟩:=I.cell y c e;exact⟨w',z.sameBut l (cne y c e)⟩;obtain⟨e,n,ne,nf,d⟩:=I.pin p hp;exact⟨(l.2 p.1 ne).trans e,n,ne,nf,d⟩;have G:X.fn x=true:=by rcases hf with z|z;exact z;rw[z]at hk;cases hk
 obtain⟨c,hc⟩:=I.ok.has x (.inl hk);obtain⟨w',z⟩:=I.cell x c hc;refine wpAny_storeName_cell I.ok.kind hk hc z (λh' S l=>?_);obtain⟨oc,L,J⟩:=id z;refine h { s with heap:=h' } ⟨I.ok,I.os,I.bare,⟨λb o e n hb W=>?_,λb o e n hb W=>?_,I.base.free,λb o e W=>?_,I.base.tups,I.base.frzs,I.base.tbls⟩,⟨m,hn.sameBut l (Q1 (cne x c hc)),λj y v' Z B e3=>?_⟩,λy c' e=>?_,I.free,I.freeC,λp hp=>?_,Y ⟨oc,L,I.freeC x c hc⟩ l,by simpa using I.len⟩ ⟨c,l,.inr hc⟩;exact(l.2 b (Qa (Qp (QR e) (I.ok.cab x c G hc)))).trans (I.base.keep b o e n hb W);obtain⟨sl,Z⟩:=I.base.slot b o e n hb W;exact⟨sl,(l.2 b (Qa (Qp (QR e) (I.ok.cab x c G hc)))).trans Z⟩;obtain⟨o',Z⟩:=I.base.there b o e W;exact⟨o',(l.2 b (Qa (Qp (QR e) (I.ok.cab x c G hc)))).trans Z⟩;by_cases F:j=i
 ·subst F
  rw[O]at Z;cases Z;rw[qZ C]at B;cases B;exact⟨u,r,.inr ⟨.inl hk,c,hc,S⟩⟩
 rw[qO (Q1 F)]at B;obtain⟨u',r',q⟩:=hl j y v' Z B e3;refine⟨u',r',?_⟩;rcases q with q|⟨k,c',e,z'⟩
 exact .inl q;refine .inr ⟨k,c',e,z'.sameBut l ?_⟩;rintro rfl;exact F (rP hN Z (I.ok.inj _ _ _ e hc▸O));by_cases R:c'=c
 ·subst R;exact⟨_,S⟩
 obtain⟨w2,z2⟩:=I.cell y c' e;exact⟨w2,z2.sameBut l R⟩;obtain⟨e,n,ne,nf,d⟩:=I.pin p hp;refine⟨(l.2 p.1 ?_).trans e,n,ne,nf,d⟩;intro q;rw[q,L]at e;have q':oc=p.2:=qD e;exact d w' (by rw[<- q'];exact J)
theorem UO{v:V}(I:Inv X f σ H s)(k:X.N.Nodup)(z:X.N[i]?=some x)(y:Zc X.env.scope x)(r:rA v u)
  (h:∀s',Inv X f (σ.set i (some v)) H s'->Q () s') (w:X.fn x=true∨X.env.scope.names.lookup x=some .local):wpAny M A (storeName X.env x u) Q E s :=
 LL I k z y r (λs' b _=>h s' b) w
theorem Inv.call'{s':Shared}(I:Inv X f σ H s)(v:s'.os=s.os)(u:Un (EV X.stack) ch H g s.heap s'.heap)(h:UJ X.prog X.w g s'.heap)(k:AllBare s'.gens)
  (y:∀b∈ch,(b∈X.ex∨X.s₀.heap.objs.size<=b)/\b≠X.env.locals/\(∀x c,X.env.cells.lookup x=some c->c≠b)/\∀p∈X.pn++f,p.1≠b):Inv X f σ g s':=by
 obtain⟨h',g',d',t',z⟩:=s';have e:z=s.os:=v;subst e;exact I.call (g':=g') (t':=t') (d':=d') u h k y
end
end
noncomputable abbrev XK:=Value->Option Addr->Hp->Prop
noncomputable abbrev St:=List (Option V)
noncomputable abbrev VK:=V->Hp->Prop
noncomputable abbrev TE:=St->Hp->VK->Prop
noncomputable abbrev TT:=St->Hp->(Bool->Hp->Prop)->Prop
noncomputable abbrev TA:=St->Hp->(List V->Hp->Prop)->Prop
structure Ends where
 nx:St->Hp->Prop
 rt:VK
 bk:St->Hp->Prop:=λ_ _=>False
 ct:St->Hp->Prop:=λ_ _=>False
noncomputable abbrev TS:=Ends->St->Hp->Prop
def EP(X:Cx)(h:NB)(σ:St)(Q:VK)(u:Value)(s':Shared):Prop:=∃v x,Inv X h σ x s'/\rA v u/\Q v x
def TP(X:Cx)(h:NB)(σ:St)(Q:Bool->Hp->Prop)(b:Bool)(s':Shared):Prop:=∃x,Inv X h σ x s'/\Q b x
def AP(X:Cx)(h:NB)(σ:St)(Q:List V->Hp->Prop)(us:List Value)(s':Shared):Prop:=∃x y,Inv X h σ y s'/\dA x us/\Q x y
def SP(X:Cx)(x:NB)(D:Ends)(f:Flow)(s':Shared):Prop :=
 match f with
 | .next=>∃h y,Inv X x h y s'/\D.nx h y|.brk=>∃h y,Inv X x h y s'/\D.bk h y|.cont=>∃h y,Inv X x h y s'/\D.ct h y|.ret u=>∃v h y,Inv X x h y s'/\rA v u/\D.rt v y
def PE(X:Cx)(e:Expr)(t:TE):Prop :=
 ∀(h:NB) (s:Shared) (x:St) (H:Hp) (Q:VK),Inv X h x H s->t x H Q->wpAny (model X.prog X.w) X.A (eval e X.env) (EP X h x Q) X.xe s
def PT(X:Cx)(e:Expr)(t:TT):Prop :=
 ∀(h:NB) (s:Shared) (x:St) (H:Hp) (Q:Bool->Hp->Prop),Inv X h x H s->t x H Q->wpAny (model X.prog X.w) X.A (isTrue e X.env (eval e X.env)) (TP X h x Q) X.xe s
def PW(X:Cx)(e:Expr)(t:TT):Prop :=
 ∀(x:Sem Value) (h:NB) (s:Shared) (y:St) (H:Hp) (Q:Bool->Hp->Prop),Inv X h y H s->t y H Q->wpAny (model X.prog X.w) X.A (isTrue e X.env x) (TP X h y Q) X.xe s
theorem PW.pt{X:Cx}{e:Expr}{t:TT}(h:PW X e t):PT X e t:=h _
def PA(X:Cx)(es:List Expr)(t:TA):Prop :=
 ∀(y:Pos) (h:NB) (s:Shared) (x:St) (H:Hp) (Q:List V->Hp->Prop),Inv X h x H s->t x H Q->wpAny (model X.prog X.w) X.A (spliced (backTo y (starEach es X.env))) (AP X h x Q) X.xe s
def PS(X:Cx)(st:Stmt)(t:TS):Prop :=
 ∀(h:NB) (s:Shared) (x:St) (H:Hp) (D:Ends),Inv X h x H s->t D x H->wpAny (model X.prog X.w) X.A (exec st X.env) (SP X h D) X.xe s
def KS(X:Cx)(st:List Stmt)(t:TS):Prop :=
 ∀(h:NB) (s:Shared) (x:St) (H:Hp) (D:Ends),Inv X h x H s->t D x H->wpAny (model X.prog X.w) X.A (execs st X.env) (SP X h D) X.xe s
theorem LB{α:Type}{t:Sem α}{Q y:α->Shared->Prop}{M:Model}{A:Around}{E:AB}{s:Shared}(h:wpAny M A t Q E s)(z:∀a s,Q a s->y a s):wpAny M A t y E s:=wN h z λ_ _ x=>x
section
variable{X:Cx}
section
variable{z:NB}{s:Shared}{σ:St}{H:Hp}{x:Str}{pos:Pos}{E Q:AB}{u:Value}
theorem bin{a b:Expr}{ta d:TE}(r:PE X a ta)(hb:PE X b d){R:V->V->Hp->Prop}(I:Inv X z σ H s)(h:ta σ H λx j=>d σ j λy k=>R x y k)
  {α:Type}{Q:α->Shared->Prop}{f:Value->Value->Sem α}
  (q:∀v u i x y k,Inv X z σ k i->rA x v->rA y u->R x y k->wpAny (model X.prog X.w) X.A (f v u) Q X.xe i) :
  wpAny (model X.prog X.w) X.A (eval a X.env) (λv g=>wpAny (model X.prog X.w) X.A (eval b X.env) (λu e=>wpAny (model X.prog X.w) X.A (f v u) Q X.xe e) X.xe g) X.xe s:=by
 refine LB (r z s σ H _ I h) λv l ⟨x,j,Z,n,p⟩=>?_;refine LB (hb z l σ j _ Z p) λu i ⟨y,k,Y,m,o⟩=>?_;exact q v u i x y k Y n m o
def Sh(i:Nat):TE:=λσ H Q=>∃v,σ[i]?=some (some v)/\Q v H
def tC(v:V):TE:=λ_ H Q=>Q v H
theorem UX{i:Nat}(f:X.N[i]?=some x)(hv:rc X.env.scope x)(w:(x==("__debug__":Str))=false:=by decide)(k:(x==("__classdict__":Str))=false:=by decide):PE X (.Name x pos) (Sh i):=by
 intro z s σ H Q I h;obtain⟨v,e,h⟩:=h;obtain⟨m,a,hl⟩:=I.loc;obtain⟨u,r,l⟩:=hl i x v f e hv;have fin:EP X z σ Q u s:=⟨v,H,I,r,h⟩
 rcases l with⟨hk,b⟩| ⟨hk,c,hc,y⟩
 exact QCV (wpAny_loadName_local I.ok.kind hk a b fin) w;rcases hk with hk|hk
 ·exact QCV (wpAny_loadName_cell I.ok.kind hk hc y fin) w
 exact QCV (wpAny_loadName_free I.ok.kind hk hc y fin k) w
theorem LX{i j pos}:PE X (.Constant (.int i) j pos) (tC (.int i)):=λ_ _ _ H _ I h=>wpAny_Constant_int ⟨.int i,H,I.tok _,⟨_,rfl⟩,h⟩
theorem E6{b j pos}:PE X (.Constant (.bool b) j pos) (tC (.bl b)):=λ_ _ _ H _ I h=>Constant_bool ⟨.bl b,H,I,rfl,h⟩
theorem GX{j pos}:PE X (.Constant .none j pos) (tC .non):=λ_ _ _ H _ I h=>Constant_none ⟨.non,H,I,rfl,h⟩
theorem y9{x j pos}:PE X (.Constant (.str x) j pos) (tC (.str x)):=λ_ _ _ H _ I h=>Calls.Constant_str ⟨.str x,H,I.tok _,⟨_,rfl⟩,h⟩
def Gl(X:Cx)(x:Str):Prop:=X.env.kindOf x=some .globalImplicit
theorem XN(I:Inv X z σ H s)(v:Gl X x)(y:X.mg x=some u)(h:Q u s)
  (k:(x==("__debug__":Str))=false:=by decide):wpAny (model X.prog X.w) X.A (eval (.Name x pos) X.env) Q E s :=
 QAT I.ok.kind v (Calls.loadGlobal_global (by rw[I.ok.glob];exact I.mod.glob.keeps I.bk) y h) k
theorem jF(I:Inv X z σ H s)(k:Gl X x)(v:X.mg x=none)(hv:bootBuiltins x=some u)(h:Q u s)
  (y:x≠"__name__":=by decide) (a:(x==("__debug__":Str))=false:=by decide):wpAny (model X.prog X.w) X.A (eval (.Name x pos) X.env) Q E s:=by
 obtain⟨f,e,b⟩:=I.mod.blt;exact QAT I.ok.kind k (Calls.loadGlobal_builtin (by rw[I.ok.glob];exact I.mod.glob.keeps I.bk) v (by rw[I.ok.blt];exact e.keeps I.bk) ((b x y).trans hv) h) a
theorem B3{v:V}(w:Gl X x)(y:X.mg x=some u)(r:rA v u)(k:(x==("__debug__":Str))=false:=by decide):PE X (.Name x pos) (tC v) :=
 λ_ _ _ H _ I h=>XN I w y ⟨v,H,I,r,h⟩ k
theorem P3{v:V}(k:Gl X x)(w:X.mg x=none)(hv:bootBuiltins x=some u)(r:rA v u)(y:x≠"__name__":=by decide)(a:(x==("__debug__":Str))=false:=by decide):PE X (.Name x pos) (tC v) :=
 λ_ _ _ H _ I h=>jF I k w hv ⟨v,H,I,r,h⟩ y a
end
variable{a b:Expr}{ta d:TE}{pos:Pos}
variable{g n:TT}{k:List Expr}
def xi(t u:TT):TT:=λh H Q=>t h H λc x=>if c=true then u h x Q else Q false x
def vn(t u:TT):TT:=λh H Q=>t h H λc x=>if c=true then Q true x else u h x Q
def ji(t:TT):TT:=λh H Q=>t h H λc x=>Q (!c) x
theorem A2(z:PT X a g):PW X (.BoolOp .And [a] pos) g:=by
 intro u x s y H Q I h;refine isTrue_and (LB (z x s y H Q I h) λc v e=>?_);cases c with|true=>exact isTrue_and_nil e|false=>exact e
theorem F8(z:PT X a g):PW X (.BoolOp .Or [a] pos) g:=by
 intro u x s y H Q I h;refine isTrue_or (LB (z x s y H Q I h) λc v e=>?_);cases c with|false=>exact isTrue_or_nil e|true=>exact e
theorem sX(f:PT X a g)(hb:PW X (.BoolOp .And (b::k) pos) n):PW X (.BoolOp .And (a::b::k) pos) (xi g n):=by
 intro w x s y H Q I h;refine isTrue_and (LB (f x s y H _ I h) λc e ⟨v,u,z⟩=>?_);cases c with|true=>exact hb w x e y v Q u z|false=>exact⟨v,u,z⟩
theorem P6(f:PT X a g)(hb:PW X (.BoolOp .Or (b::k) pos) n):PW X (.BoolOp .Or (a::b::k) pos) (vn g n):=by
 intro w x s y H Q I h;refine isTrue_or (LB (f x s y H _ I h) λc e ⟨v,u,z⟩=>?_);cases c with|true=>exact⟨v,u,z⟩|false=>exact hb w x e y v Q u z
theorem G8(z:PT X a g):PT X (.UnaryOp .Not a pos) (ji g):=by intro x s y H Q I h;exact isTrue_not (z x s y H (λc u=>Q (!c) u) I h)
def jd(ta d:TE):TE:=λh H Q=>ta h H λx y=>∃c,x=.bl c/\if c=true then d h y Q else Q (.bl false) y
def Ih(ta d:TE):TE:=λh H Q=>ta h H λx y=>∃c,x=.bl c/\if c=true then Q (.bl true) y else d h y Q
theorem FX{op}{t:TE}(h:PE X a t):PE X (.BoolOp op [a] pos) t:=λx s y H Q I z=>BoolOp_one (h x s y H Q I z)
theorem NX(j:PE X a ta)(hb:PE X (.BoolOp .And (b::k) pos) d):PE X (.BoolOp .And (a::b::k) pos) (jd ta d):=by
 intro y s u H Q I h;refine BoolOp_and (LB (j y s u H _ I h) λv f ⟨x,e,w,i,z⟩=>?_);obtain⟨c,rfl,z⟩:=z;cases i;refine wO ?_;cases c with|true=>exact hb y f u e Q w z|false=>exact⟨.bl false,e,w,rfl,z⟩
theorem T6(j:PE X a ta)(hb:PE X (.BoolOp .Or (b::k) pos) d):PE X (.BoolOp .Or (a::b::k) pos) (Ih ta d):=by
 intro y s u H Q I h;refine BoolOp_or (LB (j y s u H _ I h) λv f ⟨x,e,w,i,z⟩=>?_);obtain⟨c,rfl,z⟩:=z;cases i;refine wO ?_;cases c with|false=>exact hb y f u e Q w z|true=>exact⟨.bl true,e,w,rfl,z⟩
end
def yC(K:QC)(H:Hp)(a:Addr)(xs:List V):Prop :=
 Rd H a (.lst xs) ∨
  ∃(o:Obj) (h:Array Value) (n:Nat),K.lookup a=some o/\o.cls=.type "list"/\o.dict=none/\o.data=.seq h n/\h.size<=sizeLine/\dA xs h.toList
def XC(K:QC)(H:Hp)(a:Addr)(xs:List V):Prop :=
 Rd H a (.tup xs) ∨
  ∃(o:Obj) (h:Array Value) (n:Nat),K.lookup a=some o/\o.cls=.type "tuple"/\o.data=.seq h n/\h.size<=sizeLine/\dA xs h.toList
def sJ:Value->Option V
 | .none=>some .non|.bool b=>some (.bl b)|.int i _=>some (.int i)|.str x _=>some (.str x)|.bytes b _=>some (.byt b)|.float b _=>some (.flt b)|.ref a=>some (.ref a)|.type n=>some (.ty n)|_=>none
theorem rA.abs{x:V}{u:Value}(r:rA x u):sJ u=some x:=by
 cases x with|non=>cases r;rfl|bl _=>cases r;rfl|int _=>obtain⟨t,rfl⟩:=r;rfl|str _=>obtain⟨t,rfl⟩:=r;rfl|byt _=>obtain⟨t,rfl⟩:=r;rfl|flt _=>obtain⟨t,rfl⟩:=r;rfl|ref _=>cases r;rfl|ty _=>cases r;rfl
theorem rA.inj{x y:V}{u:Value}(r:rA x u)(q:rA y u):x=y:=qD (r.abs.symm.trans q.abs)
theorem dA.inj:∀{xs h:List V}{us:List Value},dA xs us->dA h us->xs=h
 |_,_,_,.nil,.nil=>rfl|_,_,_,.cons r t,.cons r' t'=>by rw[r.inj r',dA.inj t t']
section
variable{X:Cx}{x:NB}{σ:St}{H:Hp}{s:Shared}{a:Addr}{xs y:List V}
theorem yC.of{K:QC}(h:H a=some (.lst xs)):yC K H a xs:=.inl (.inl h)
theorem XC.of{K:QC}(h:H a=some (.tup xs)):XC K H a xs:=.inl (.inl h)
theorem Inv.list(I:Inv X x σ H s)(h:yC X.K H a xs):∃its:List Value,dA xs its/\PlainL s.heap a its.toArray/\xs.length<=sizeLine:=by
 rcases h with h|⟨o,its,n,hk,hc,v,u,w,r⟩
 obtain⟨z,its,n,r,e⟩:=h.ok I.hok;exact⟨its,r,⟨_,n,e,rfl,rfl,rfl⟩,z⟩;refine⟨its.toList,r,⟨o,n,I.kIn a o hk,hc,v,by simpa using u⟩,?_⟩;have e:=r.length;simp only[QX]at e;omega
theorem Inv.tuple(I:Inv X x σ H s)(h:XC X.K H a xs):∃its:List Value,dA xs its/\IsTup s.heap a its.toArray/\xs.length<=sizeLine:=by
 rcases h with h|⟨o,its,n,hk,hc,u,v,r⟩
 obtain⟨z,its,r,p⟩:=h.ok I.hok;exact⟨its,r,p,z⟩;refine⟨its.toList,r,⟨o,I.kIn a o hk,hc,n,by simpa using u⟩,?_⟩;have e:=r.length;simp only[QX]at e;omega
theorem Inv.list_inj(I:Inv X x σ H s)(h:yC X.K H a xs)(h':yC X.K H a y):xs=y:=by
 obtain⟨u,r,⟨o,n,e,_,_,d⟩,_⟩:=I.list h;obtain⟨z,k,⟨b,f,v,_,_,w⟩,_⟩:=I.list h';rw[e]at v;cases v;rw[d]at w;injection w with d1 _;have:u=z:=by simpa using congrArg QB1 d1
 subst this;exact r.inj k
theorem Inv.tuple_inj(I:Inv X x σ H s)(h:XC X.K H a xs)(h':XC X.K H a y):xs=y:=by
 obtain⟨u,r,⟨o,e,_,n,d⟩,_⟩:=I.tuple h;obtain⟨z,k,⟨b,v,_,f,w⟩,_⟩:=I.tuple h';rw[e]at v;cases v;rw[d]at w;injection w with d1 _;have:u=z:=by simpa using congrArg QB1 d1
 subst this;exact r.inj k
end
noncomputable abbrev Cx.wish(X:Cx)(E:AB):Cx:={ X with xe:=E }
noncomputable abbrev Cx.nox(X:Cx):Cx:=X.wish λ_ _=>False
theorem Cx.Ok.wish{X:Cx}(ok:X.Ok)(E:AB):(X.wish E).Ok :=
 ⟨ok.mod,ok.kind,ok.glob,ok.blt,ok.above,ok.inj,ok.has,ok.cab,ok.hd,ok.frames,ok.stk,ok.exf,ok.bs,ok.bsz,ok.noex,ok.exfs,ok.funs,ok.frf⟩
theorem Cx.Ok.unwish{X:Cx}{E:AB}(ok:(X.wish E).Ok):X.Ok :=
 ⟨ok.mod,ok.kind,ok.glob,ok.blt,ok.above,ok.inj,ok.has,ok.cab,ok.hd,ok.frames,ok.stk,ok.exf,ok.bs,ok.bsz,ok.noex,ok.exfs,ok.funs,ok.frf⟩
section
variable{X:Cx}{x:NB}{σ:St}{H:Hp}{s:Shared}{E:AB}
theorem Inv.wish(I:Inv X x σ H s)(E:AB):Inv (X.wish E) x σ H s:=⟨I.ok.wish E,I.os,I.bare,I.base,I.loc,I.cell,I.free,I.freeC,I.pin,I.hok,I.len⟩
theorem Inv.unwish(I:Inv (X.wish E) x σ H s):Inv X x σ H s:=⟨I.ok.unwish,I.os,I.bare,I.base,I.loc,I.cell,I.free,I.freeC,I.pin,I.hok,I.len⟩
theorem SP.unwish{D:Ends}{f:Flow}{s':Shared}(h:SP (X.wish E) x D f s'):SP X x D f s':=by
 cases f with|next=>obtain⟨y,z,I,q⟩:=h;exact⟨y,z,I.unwish,q⟩|brk=>obtain⟨y,z,I,q⟩:=h;exact⟨y,z,I.unwish,q⟩|cont=>obtain⟨y,z,I,q⟩:=h;exact⟨y,z,I.unwish,q⟩|ret u=>obtain⟨v,y,z,I,r,q⟩:=h;exact⟨v,y,z,I.unwish,r,q⟩
theorem KS.nox{st:List Stmt}{t:TS}(h:KS X.nox st t):KS X st t:=λx s σ H D I y =>
 wN (h x s σ H D (I.wish _) y) (λ_ _ q=>q.unwish) λ_ _ z=>Qb z
end
section
variable{X:Cx}{st:Stmt}{y:List Stmt}{t u:TS}{e:Expr}{te:TE}{pos:Pos}
def Ac:TS:=λD h H=>D.nx h H
def Ah(t u:TS):TS:=λD h H=>t { D with nx:=u D } h H
theorem y3:KS X [] Ac:=λ_ _ x H _ I h=>QAN ⟨x,H,I,h⟩
theorem aX(b:PS X st t)(a:KS X y u):KS X (st::y) (Ah t u):=by
 intro x s w H D I h;refine QCA (LB (b x s w H { D with nx:=u D } I h) λf k q=>?_);cases f with|next=>obtain⟨z,i,g,q⟩:=q;exact a x k z i D g q|ret v=>exact q|brk=>exact q|cont=>exact q
theorem j3(w:PS X st t):KS X [st] t:=by
 intro x s z H D I h;refine QCA (LB (w x s z H D I h) λf k q=>?_);cases f with|next=>exact QAN q|ret v=>exact q|brk=>exact q|cont=>exact q
theorem Inv.quiet{h:NB}{σ:St}{H:Hp}{s:Shared}(I:Inv X h σ H s):interactive X.env=false:=by simp[interactive,I.ok.kind]
def Ec(te:TE):TS:=λD h H=>te h H λ_ x=>D.nx h x
theorem mT(b:PE X e te)(a:swapsWith e none pos.line X.env=pure false:=by rfl):PS X (.Expr e pos) (Ec te):=by intro z s w H D I h;exact wpAny_Expr_any (LB (b z s w H _ I h) λv i ⟨x,g,f,j,k⟩=>⟨w,g,f,k⟩) I.quiet a
def Eh(te:TE):TS:=λD h H=>te h H D.rt
theorem M8(b:PE X e te):PS X (.Return (some e) pos) (Eh te):=by intro z s w H D I h;exact wpAny_Return_some (LB (b z s w H _ I h) λv i ⟨x,g,f,k,a⟩=>⟨x,w,g,f,k,a⟩)
def zi(c:TT)(t u:TS):TS:=λD h H=>c h H λb x=>if b=true then t D h x else u D h x
theorem ze{c:Expr}{a b:List Stmt}{tc:TT}(hc:PT X c tc)(g:KS X a t)(hb:KS X b u):PS X (.If c a b pos) (zi tc t u):=by
 intro x s z H D I h;refine wpAny_If (LB (hc x s z H _ I h) λd v ⟨f,k,w⟩=>?_);cases d with|true=>exact g x v z f D k w|false=>exact hb x v z f D k w
end
noncomputable abbrev TG:=V->St->Hp->(St->Hp->Prop)->Prop
noncomputable abbrev Xl:=List V->St->Hp->(St->Hp->Prop)->Prop
def PG(X:Cx)(h:Expr)(t:TG):Prop :=
 ∀(x:NB) (s:Shared) (z:St) (H:Hp) (v:V) (u:Value) (Q:St->Hp->Prop),Inv X x z H s->rA v u->t v z H Q ->
  wpAny (model X.prog X.w) X.A (assign h X.env u) (λ_ a=>∃y k,Inv X x y k a/\Q y k) X.xe s
def Bm(X:Cx)(ts:List Expr)(t:Xl):Prop :=
 ∀(h:NB) (s:Shared) (y:St) (H:Hp) (z:List V) (u:List Value) (Q:St->Hp->Prop),Inv X h y H s->dA z u->t z y H Q ->
  wpAny (model X.prog X.w) X.A (assignInOrder ((assignEach ts X.env).map (·.2)) u) (λ_ k=>∃x v,Inv X h x v k/\Q x v) X.xe s
noncomputable abbrev Mb:=V->V->V->Hp->(Hp->Prop)->Prop
def J6(X:Cx)(t:Mb):Prop :=
 ∀(h:NB) (s:Shared) (x:St) (H:Hp) (o i v:V) (y z u:Value) (Q:Hp->Prop),Inv X h x H s->rA o y->rA i z->rA v u->t o i v H Q ->
  wpAny (model X.prog X.w) X.A (setItem y z u) (λ_ a=>∃k,Inv X h x k a/\Q k) X.xe s
section
variable{X:Cx}{pos:Pos}
section
variable{i:Nat}{x:Str}{e:Expr}{te:TE}
def yU(i:Nat):TG:=λv h H Q=>Q (h.set i (some v)) H
theorem iT(a:X.N.Nodup)(w:X.N[i]?=some x)(z:Zc X.env.scope x)(k:X.fn x=true∨X.env.scope.names.lookup x=some .local):PG X (.Name x pos) (yU i):=by intro y s f H v u Q I r h;exact QBn (UO I a w z r (λg b=>⟨_,H,b,h⟩) k)
def Ij(K:QC)(n:Nat)(t:Xl):TG:=λv y H Q=>∃a h,v=.ref a/\XC K H a h/\h.length=n/\t h y H Q
theorem A8{es:List Expr}{k:Nat}{t:Xl}{n:Nat}(hc:X.calm=true)(h:Bm X es t)
  (Y:(assignEach es X.env).length=n:=by rfl) (w:(assignEach es X.env).findIdx? (·.1)=none:=by rfl):PG X (.Tuple es k pos) (Ij X.K n t):=by
 intro y s f H v u Q I r z;obtain⟨a,j,W,q,hl,z⟩:=z;subst W;cases r;obtain⟨l,g,p,B⟩:=I.tuple q;refine assign_Tuple_tuple (I.ok.hd hc) p (by simp[Y,<- hl,g.length]) w λZ m=>?_;have A:Inv X y f H { s with heap:=Z }:=I.kept (t':=s.toks) λb o e=>m b o (Qa (QR e)) e;exact h y _ f H j _ Q A (by simpa using g) z
def jk(y z:TE)(t:Mb):TG:=λv h H Q=>y h H λo k=>z h k λi w=>t o i v w λu=>Q h u
theorem E8{o i:Expr}{b f:TE}{t:Mb}(Z:PE X o b)(W:PE X i f)(Y:J6 X t)
  (K:∀v,assign (.Subscript o i pos) X.env v=(do
   let w <- holding [v] (eval o X.env)
   let k <- holding [v,w] (eval i X.env)
   standAt pos
   holding [v,w,k] (setItem w k v)
   release [v,w,k] []):=by intro _;rfl):PG X (.Subscript o i pos) (jk b f t):=by
 intro z s a H v u Q I r h;rw[K];refine QA (qK (LB (Z z s a H _ I h) λw j ⟨x,G,C,m,q⟩=>?_));refine QA (qK (LB (W z j a G _ C q) λk g ⟨y,F,B,l,p⟩=>?_));refine QA (QBc (QA (qK (LB (Y z g a F x y v w k u _ B m l r p) λ_ J ⟨E,A,n⟩=>?_))));exact wpAny_release ⟨a,E,A,n⟩
def d8(te:TE)(g:TG):TS:=λD h H=>te h H λx y=>g x h y D.nx
theorem iX{z:Expr}{g:TG}(l:PE X e te)(j:PG X z g)(f:swapsWithSole [z] e pos.line X.env=pure false:=by rfl)(b:swappedStores [z] e X.env=pure none:=by rfl)
  (m:(assignEach [z] X.env).map (·.2)=[assign z X.env]:=by rfl):PS X (.Assign [z] e pos) (d8 te g):=by
 intro y s u H D I h;refine wpAny_Assign_stores (LB (l y s u H _ I h) λv w ⟨x,o,n,k,a⟩=>?_) f b;rw[m];exact LB (j y w u o x v _ n k a) λ_ p q=>q
theorem L8{pos':Pos}(l:X.N.Nodup)(f:X.N[i]?=some x)(a:Zc X.env.scope x)(j:PE X e te)(b:swapsWith e (some (.Name x pos')) pos.line X.env=pure false:=by rfl)(g:X.fn x=true∨X.env.scope.names.lookup x=some .local) :
  PS X (.Assign [.Name x pos'] e pos) (d8 te (yU i)):=by
 intro z s u H D I h;refine wpAny_Assign_Name (LB (j z s u H _ I h) λv q ⟨y,o,n,w,k⟩=>?_) b;exact UO n l f a w (λp m=>⟨_,o,m,k⟩) g
end
end
section
variable{X:Cx}{pos:Pos}
def GW(c:TT)(v:TS):TS:=λD h H=>∃W:Nat->St->Hp->Prop,(∃m,W m h H)/\∀m h H,W m h H ->
 c h H λb z=>if b=true then ∃N:St->Hp->Prop,(∀x u,N x u->∃y,y < m/\W y x u)/\v { D with nx:=N,ct:=N,bk:=D.nx } h z else D.nx h z
theorem eX{c:Expr}{body:List Stmt}{tc:TT}{p:TS}(q:PassesOwn (model X.prog X.w) X.A X.env X.xe)(hc:PT X c tc)(hb:KS X body p):PS X (.While c body [] pos) (GW tc p):=by
 intro y s C H D I h;obtain⟨W,⟨M,F⟩,k⟩:=h;refine wpAny_While (codeAny_whileLoop (λn L=>∃u B,Inv X y u B L/\W n u B) ?_ M ⟨C,H,I,F⟩);rintro n J ⟨z,K,O,E⟩;refine wk q (LB (hc y J z K _ O (k n z K E)) λb G ⟨Z,Y,g⟩=>?_);cases b with
 |true =>
  obtain⟨N,r,g⟩:=g;rw[if_pos rfl];refine wk q (LB (hb y G z Z _ Y g) λf P e=>?_);cases f with|next=>obtain⟨x,a,o,j⟩:=e;obtain⟨l,m,i⟩:=r x a j;exact⟨l,m,x,a,o,i⟩|cont=>obtain⟨x,a,o,j⟩:=e;obtain⟨l,m,i⟩:=r x a j;exact⟨l,m,x,a,o,i⟩|brk=>exact e|ret v=>exact e
 |false=>rw[if_neg QD];exact QAN ⟨z,Z,Y,g⟩
end
section
variable{s:Shared}{y:Expr}{P:Program}{w:World}{K:QC}
structure It where
 go:Nat->Hp->Prop
 yld:Nat->Hp->V->Hp->Prop
 stop:Nat->Hp->Prop
def kI(X:Cx)(h:NB)(H:Hp)(b:Addr):Prop :=
 H b=none/\b≠X.env.locals/\b∉X.fs/\(b∈X.ex∨X.s₀.heap.objs.size<=b)/\(∀x c,X.env.cells.lookup x=some c->c≠b)/\∀p∈X.pn++h,p.1≠b
theorem Inv.fpOk{X:Cx}{h:NB}{σ:St}{H u:Hp}{b:Addr}(I:Inv X h σ H s)(hb:s.heap.objs.size<=b)(a:u b=none):kI X h u b:=by refine⟨a,wF (Qp I.lt hb),I.nofs hb,.inr (QZ I.sz hb),λx c e z=>?_,λp k z=>?_⟩;obtain⟨v,q⟩:=I.cell x c e;exact absurd (Qp q.lt (by rw[z];exact hb)) (wM _);exact absurd (Qp (QR (I.pin p k).1) (by rw[z];exact hb)) (wM _)
structure Turn0(P:Program)(w:World)(K:QC)(y:Expr)(J:It)(fp:List Addr)(it:Addr)(tn:Nat->Heap->Prop):Prop where
 mem:it∈fp
 obj:∀i h,tn i h->∀b∈fp,∃o,h.get? b=some o/\∀v,o.data≠.cell v
 keep:∀i h h',tn i h->(∀b∈fp,∀o,h.get? b=some o->h'.get? b=some o)->tn i h'
 item:∀(X:Cx),X.prog=P->X.w=w->X.K=K->X.calm=true->∀(i:Nat) (pins:NB) (s:Shared) (σ:St) (H:Hp) (E:AB),Inv X pins σ H s->(∀b∈fp,kI X pins H b)->tn i s.heap->J.go i H ->
  wpAny (model P w) X.A (pyNext (.ref it)) (λr s1=>∃u,r=some u /\
   wpAny (model P w) X.A (letOwnedTupleGo y (.ref it) u) (λ_ s2=>∃x H',Inv X pins σ H' s2/\rA x u/\J.yld i H x H'/\tn (i+1) s2.heap/\∀b∈fp,H' b=none) E s1) E s
 done:∀(X:Cx),X.prog=P->X.w=w->X.K=K->X.calm=true->∀(i:Nat) (pins:NB) (s:Shared) (σ:St) (H:Hp) (E:AB),Inv X pins σ H s->(∀b∈fp,kI X pins H b)->tn i s.heap->J.stop i H ->
  wpAny (model P w) X.A (pyNext (.ref it)) (λr s1=>r=none/\Inv X pins σ H s1) E s
structure Turn(P:Program)(w:World)(K:QC)(y:Expr)(J:It)(fp:List Addr)(it:Addr)(tn:Nat->Heap->Prop):Prop extends Turn0 P w K y J fp it tn where
 self:∀(A:Around) (i:Nat) (s:Shared) (Q:AB) (E:AB),tn i s.heap->Q (.ref it) s->wpAny (model P w) A (pyIter (.ref it)) Q E s
noncomputable abbrev TI:=St->Hp->(It->Hp->Prop)->Prop
def Ml(X:Cx)(h:NB)(σ:St)(y:Expr)(R:It->Hp->Prop)(x:Value)(u:Shared):Prop :=
 ∃(it:Addr) (v:List Addr) (tn:Nat->Heap->Prop) (J:It) (z:Hp),x=.ref it/\Inv X h σ z u/\Turn X.prog X.w X.K y J v it tn/\tn 0 u.heap/\(∀b∈v,kI X h z b)/\R J z
def PI(X:Cx)(y x:Expr)(u:TI):Prop :=
 ∀(h:NB) (s:Shared) (z:St) (H:Hp) (R:It->Hp->Prop),Inv X h z H s->u z H R ->
  wpAny (model X.prog X.w) X.A (eval x X.env) (λv k=>wpAny (model X.prog X.w) X.A (pyIter v) (Ml X h z y R) X.xe k) X.xe s
def Ll(X:Cx)(h:NB)(σ:St)(y:Expr)(R:It->Hp->Prop)(x:Value)(u:Shared):Prop :=
 ∃(it:Addr) (v:List Addr) (tn:Nat->Heap->Prop) (J:It) (z:Hp),x=.ref it/\Inv X h σ z u/\Turn0 X.prog X.w X.K y J v it tn/\tn 0 u.heap/\(∀b∈v,kI X h z b)/\R J z
def Ch(X:Cx)(y x:Expr)(u:TI):Prop :=
 ∀(h:NB) (s:Shared) (z:St) (H:Hp) (R:It->Hp->Prop),Inv X h z H s->u z H R ->
  wpAny (model X.prog X.w) X.A (eval x X.env) (λv k=>wpAny (model X.prog X.w) X.A (pyIter v) (Ll X h z y R) X.xe k) X.xe s
theorem PI.to0{X:Cx}{z:Expr}{k:TI}(h:PI X y z k):Ch X y z k:=λu s a H R I q =>
 wN (h u s a H R I q) (λv m f=>wN f (λb l ⟨it,g,tn,J,j,e,i,T,r⟩=>⟨it,g,tn,J,j,e,i,T.toTurn0,r⟩) λ_ _ x=>x) λ_ _ x=>x
theorem jQ{M:Model}{A:Around}{E:AB}{it:Addr}{u:Value}{o:Obj}{n:String}{vs:Array Value}{Q:Unit->Shared->Prop}(z:s.heap.get? it=some o)(hc:o.cls=.type n)(k:o.data=.fields vs)
    (v:["enumerate","zip","dict_itemiterator","dict_reverseitemiterator","odict_iterator","itertools.zip_longest","itertools.pairwise"].contains n=false) (x:Q () s):wpAny M A (letOwnedTupleGo y (.ref it) u) Q E s:=by
  unfold letOwnedTupleGo;cases y<;>first
    |exact QJ x
    | (cases u<;>first
        |exact QJ x
        | (refine QA (wpAny_load z ?_)
           rw[hc,k];show wpAny M A (if(["enumerate","zip","dict_itemiterator","dict_reverseitemiterator","odict_iterator","itertools.zip_longest","itertools.pairwise"].contains n&&vs[0]?==some (rawInt _))=true then _ else _) Q E s;rw[if_neg (by intro h;rw[v,Bool.false_and]at h;cases h)];exact QJ x))
def Lm(K:QC)(a:Addr):It :=
 ⟨λi H=>∃h x,yC K H a h/\h[i]?=some x,λi H x z=>z=H/\∀h,yC K H a h->h[i]?=some x,λi H=>∃h,yC K H a h/\h.length<=i⟩
def Gm(K:QC)(a:Addr):It :=
 ⟨λi H=>∃h x,XC K H a h/\h[i]?=some x,λi H x z=>z=H/\∀h,XC K H a h->h[i]?=some x,λi H=>∃h,XC K H a h/\h.length<=i⟩
def ym(h:Int)(n:Nat):It:=⟨λi _=>i<n,λi H x z=>z=H/\x=.int (h+i),λi _=>n<=i⟩
theorem BU(a it:Addr):Turn P w K y (Lm K a) [it] it (λi h=>h.IsListIter it a i) where
 mem:=by simp
 obj:=λi h st b hb=>by
  have e:b=it:=by simpa using hb
  subst e;obtain⟨o,e,c,d⟩:=st;exact⟨o,e,λv z=>by rw[d]at z;cases z⟩
 keep:=λi h m st k=>st.at λo e=>k it (by simp) o e
 item:=by intro X W Y A hc i f s L H E I l st Z;subst W Y A;obtain⟨M,x,j,r⟩:=Z;obtain⟨q,n,p,Q⟩:=I.list j;obtain⟨u,S,O⟩:=n.get r;obtain⟨J,G,f2,F,C,B⟩:=l it (by simp);refine wpAny_pyNext_list_item st p.isList (x:=u) (by simpa using S) λm g N=>?_;have I1:Inv X f L H { s with heap:=m }:=I.turned (t':=s.toks) (λb o hb e=>(N.2 b hb).trans e) J G F C B;obtain⟨o,e,c,d⟩:=id g;exact⟨u,rfl,jQ (s:={ s with heap:=m }) e c d (by decide) ⟨x,H,I1,O,⟨rfl,λys R=>by rw[I.list_inj R j];exact r⟩,g,λb hb=>(l b hb).1⟩⟩
 done:=by intro X W Y A hc i f s L H E I l st Z;subst W Y A;obtain⟨M,j,r⟩:=Z;obtain⟨q,n,p,Q⟩:=I.list j;obtain⟨J,G,f2,F,C,B⟩:=l it (by simp);have hl:=n.length;exact wpAny_pyNext_list_end (I.ok.hd hc) st p.isList (by simp;omega) λm eb=>⟨rfl,I.turned (t':=s.toks) (λb o hb e=>eb b o hb e) J G F C B⟩
 self:=λ_ _ _ _ _ st h=>wpAny_pyIter_listiter st h
theorem RQ(a it:Addr):Turn P w K y (Gm K a) [it] it (λi h=>h.IsTupleIter it a i) where
 mem:=by simp
 obj:=λi h st b hb=>by
  have e:b=it:=by simpa using hb
  subst e;obtain⟨o,e,c,d⟩:=st;exact⟨o,e,λv z=>by rw[d]at z;cases z⟩
 keep:=λi h n st k=>st.at λo e=>k it (by simp) o e
 item:=by intro X W Y A hc i f s L H E I m st Z;subst W Y A;obtain⟨M,x,l,r⟩:=Z;obtain⟨g,q,p,Q⟩:=I.tuple l;obtain⟨u,S,O⟩:=q.get r;obtain⟨J,G,f2,F,C,B⟩:=m it (by simp);refine wpAny_pyNext_tuple_item st (show s.heap.IsTuple a g.toArray from p) (x:=u) (by simpa using S) λn j N=>?_;have I1:Inv X f L H { s with heap:=n }:=I.turned (t':=s.toks) (λb o hb e=>(N.2 b hb).trans e) J G F C B;obtain⟨o,e,c,d⟩:=id j;exact⟨u,rfl,jQ (s:={ s with heap:=n }) e c d (by decide) ⟨x,H,I1,O,⟨rfl,λys R=>by rw[I.tuple_inj R l];exact r⟩,j,λb hb=>(m b hb).1⟩⟩
 done:=by intro X W Y A hc i f s L H E I m st Z;subst W Y A;obtain⟨M,l,r⟩:=Z;obtain⟨g,q,p,Q⟩:=I.tuple l;obtain⟨J,G,f2,F,C,B⟩:=m it (by simp);have hl:=q.length;exact wpAny_pyNext_tuple_end (I.ok.hd hc) st (show s.heap.IsTuple a g.toArray from p) (by simp;omega) λn eb=>⟨rfl,I.turned (t':=s.toks) (λb o hb e=>eb b o hb e) J G F C B⟩
 self:=λ_ _ _ _ _ st h=>wpAny_pyIter_tupleiter st h
theorem SQ(it:Addr)(a:Int)(n:Nat):Turn P w K y (ym a n) [it] it (λi h=>IsRangeIter h it (a+(i:Nat) * 1) ((n:Int) - (i:Nat)) 1) where
 mem:=by simp
 obj:=λi h st b hb=>by
  have e:b=it:=by simpa using hb
  subst e;exact⟨_,st,λv z=>by have F:Data.fields _=Data.cell v:=z;cases F⟩
 keep:=λi h g st k=>k it (by simp) _ st
 item:=by intro X m j p hc i x s B H E I f st l;subst m j p;obtain⟨A,Z,J,Y,r,q⟩:=f it (by simp);have W:=Walks.range (prog:=X.prog) (w:=X.w) (I.ok.hd hc) it a 1 n;refine W.item i s _ _ l st λv g C hv u G=>?_;obtain⟨t,rfl⟩:=hv;have M:Inv X x B H { s with heap:=g,toks:=C }:=I.turned (λb o hb e=>G b o (by simpa using hb) e) A Z Y r q;refine⟨_,rfl,jQ (s:={ s with heap:=g,toks:=C }) (n:="range_iterator") u rfl rfl (by decide) ⟨.int (a+i),H,M,⟨t,?_⟩,⟨rfl,rfl⟩,u,λb hb=>(f b hb).1⟩⟩;rw[Int.mul_one]
 done:=by intro X m j p hc i x s B H E I f st l;subst m j p;obtain⟨A,Z,J,Y,r,q⟩:=f it (by simp);exact wpAny_pyNext_range_end (I.ok.hd hc) st (by have:n<=i:=l;omega) λg L=>⟨rfl,I.turned (t':=s.toks) (λb o hb e=>L b o hb e) A Z Y r q⟩
 self:=λ_ _ _ _ _ st h=>wpAny_pyIter_rangeiter st h
end
section
variable{X:Cx}{a:Expr}
section
variable{y:NB}{σ:St}{H:Hp}{s:Shared}{k:List Addr}{h:Heap}
theorem oX{R:It->Hp->Prop}{E:AB}{x z:Int}{t u v:Tok}{f:Nat}(I:Inv X y σ H s)(m:-(2 ^ 62)<=x)(l:x<2 ^ 62)(j:-(2 ^ 62)<=z)(i:z<2 ^ 62)
  (q:R (ym x (z - x).toNat) H):wpAny (model X.prog X.w) X.A (pyIter (.ref s.heap.objs.size)) (Ml X y σ a R) E { s with heap:=s.heap.push { cls:=.type "range",data:=.fields #[.int x t,.int z u,.int 1 v] },toks:=f }:=by
 refine wpAny_pyIter_range (IsRange.new ..) (small_one m l j i) ?_;have g:Inv X y σ H { s with heap:=s.heap.push { cls:=.type "range",data:=.fields #[.int x t,.int z u,.int 1 v] },toks:=f }:=I.kept λb o e=>QH _ e;refine⟨(s.heap.push { cls:=.type "range",data:=.fields #[.int x t,.int z u,.int 1 v] }).objs.size,[(s.heap.push { cls:=.type "range",data:=.fields #[.int x t,.int z u,.int 1 v] }).objs.size],_,_,H,rfl,
  g.kept (t':=f) λb o e=>QH _ e,SQ _ x (z - x).toNat,?_,λb hb=>?_,q⟩
 have p:x+((0:Nat):Int) * 1=x:=by simp
 have n:(((z - x).toNat:Nat):Int) - ((0:Nat):Int)=Builtin.Range.rangeSize x z 1:=by rw[rangeSize_one];split<;>omega
 show IsRangeIter _ _ (x+((0:Nat):Int) * 1) ((((z - x).toNat:Nat):Int) - ((0:Nat):Int)) 1;rw[p,n];exact QN _ rfl;have e:b=(s.heap.push { cls:=.type "range",data:=.fields #[.int x t,.int z u,.int 1 v] }).objs.size:=by simpa using hb
 subst e;exact g.fpOk (QU _) (g.hok.fresh (QU _))
noncomputable def ki(b:TI)(g:TG)(e:TS):TS:=λD σ H=>b σ H λJ j=>∃W:Nat->Nat->St->Hp->Prop,(∃m,W 0 m σ j)/\∀i m σ H,W i m σ H ->
 (J.stop i H/\D.nx σ H)∨(J.go i H/\∃N:St->Hp->Prop,(∀z u,N z u->∃w,w < m/\W (i+1) w z u)/\∀x u,J.yld i H x u->g x σ u λv f=>e { D with nx:=N,ct:=N,bk:=D.nx } v f)
def gK(k:List Addr)(h:Heap):NB:=k.filterMap λb=>(h.get? b).map λo=>(b,o)
theorem EE{b:Addr}{o:Obj}(hb:b∈k)(e:h.get? b=some o):(b,o)∈gK k h:=QBd.mpr ⟨b,hb,by rw[e];rfl⟩
theorem pV{p:Addr×Obj}(x:p∈gK k h):p.1∈k/\h.get? p.1=some p.2:=by
 obtain⟨b,hb,e⟩:=QBd.mp x;cases q:h.get? b with|none=>rw[q]at e;cases e|some o=>rw[q]at e;have z:(b,o)=p:=qD e;subst z;exact⟨hb,q⟩
theorem Inv.pinned(I:Inv X y σ H s)(f:∀b∈k,kI X y H b)(w:∀b∈k,∃o,s.heap.get? b=some o/\∀v,o.data≠.cell v):Inv X (y++gK k s.heap) σ H s :=
 I.pins_of λp u=>(Qf.mp u).elim (λz=>I.pin p (QV _ z)) λz=>by obtain⟨hb,e⟩:=pV z;obtain⟨j,i,g,_⟩:=f p.1 hb;obtain⟨o,x,d⟩:=w p.1 hb;rw[e]at x;cases x;exact⟨e,j,i,g,d⟩
theorem Inv.unpinned{x:NB}(I:Inv X (y++x) σ H s):Inv X y σ H s:=I.pins_of λp z=>I.pin p (QV _ (Qr _ z))
theorem N8{q:Expr}{body:List Stmt}{wi:TI}{g:TG}{tb:TS}{pos:Pos}(O:PassesOwn (model X.prog X.w) X.A X.env X.xe)(hc:X.calm=true)(hi:Ch X a q wi)(hg:PG X a g)(hb:KS X body tb)
  (hs:∀x,foldedSetIterable q X.env x=pure x:=by intro _;rfl):PS X (.For a q body [] pos) (ki wi g tb):=by
 intro y s σ H D I h;refine wpAny_For (LB (hi y s σ H _ I h) λv s1 h1=>LB h1 λitv s2 h2=>?_) hs;obtain⟨it,k,tn,J,H2,e,I2,T,S,f2,W,⟨m0,w0⟩,F⟩:=h2;subst e;have p:∀{B:Hp},(∀b∈k,B b=none)->∀b∈k,kI X y B b:=λhn b hb=>⟨hn b hb,(f2 b hb).2⟩
 refine codeAny_forLoop_any (λn s'=>∃i l B,Inv X y l B s'/\tn i s'.heap/\(∀b∈k,B b=none)/\W i n l B) ?_ m0 ⟨0,σ,H2,I2,S,λb hb=>(f2 b hb).1,w0⟩;rintro n s3 ⟨i,j,Q,I3,L,P,w3⟩;rcases F i n j Q w3 with⟨G,qn⟩| ⟨go,N,hN,step⟩
 refine wk O (LB (T.done X rfl rfl rfl hc i y s3 j Q X.xe I3 (p P) L G) λr s4 ⟨hr,I4⟩=>?_);subst hr;exact QAN ⟨j,Q,I4,qn⟩;refine wk O (LB (T.item X rfl rfl rfl hc i y s3 j Q X.xe I3 (p P) L go) λr s4 ⟨u,hr,h4⟩=>?_);subst hr;refine wk O (LB h4 λ_ s5 ⟨x,H5,I5,r5,y5,E,fr5⟩=>?_);have I5':=I5.pinned (p fr5) (T.obj _ _ E);refine wk O (LB (hg _ s5 j H5 x u _ I5' r5 (step x H5 y5)) λ_ s6 ⟨R,H6,I6,q6⟩=>?_);refine wk O (LB (hb _ s6 R H6 _ I6 q6) λf s7 C=>?_);have Y:∀{z:St}{K:Hp},Inv X (y++gK k s5.heap) z K s7->N z K->∃m,m<n/\∃i l B,Inv X y l B s7/\tn i s7.heap/\(∀b∈k,B b=none)/\W i m l B:=λ{z K} Z M=>by obtain⟨m',hm,w7⟩:=hN z K M;refine⟨m',hm,i+1,z,K,Z.unpinned,T.keep _ _ _ E λb hb o e=>(Z.pin (b,o) (QV _ (QV _ (EE hb e)))).1,λb hb=>?_,w7⟩;obtain⟨o,e,d⟩:=T.obj _ _ E b hb;exact(Z.pin (b,o) (QV _ (QV _ (EE hb e)))).2.1
 cases f with|next=>obtain⟨z,K,Z,M⟩:=C;exact Y Z M|cont=>obtain⟨z,K,Z,M⟩:=C;exact Y Z M|brk=>obtain⟨z,K,Z,C⟩:=C;exact⟨z,K,Z.unpinned,C⟩|ret v=>obtain⟨x7,z,K,Z,r7,C⟩:=C;exact⟨x7,z,K,Z.unpinned,r7,C⟩
end
end
noncomputable abbrev R2:=V->V->Hp->VK->Prop
def tF(X:Cx)(f:Value->Value->Sem Value)(r:R2):Prop :=
 ∀(h:NB) (s:Shared) (z:St) (H:Hp) (x y:V) (v u:Value) (Q:VK),Inv X h z H s->rA x v->rA y u->r x y H Q ->
  wpAny (model X.prog X.w) X.A (f v u) (EP X h z Q) X.xe s
def Zl(X:Cx)(f:Value->Sem Value)(r:V->Hp->VK->Prop):Prop :=
 ∀(h:NB) (s:Shared) (y:St) (H:Hp) (x:V) (v:Value) (Q:VK),Inv X h y H s->rA x v->r x H Q ->
  wpAny (model X.prog X.w) X.A (f v) (EP X h y Q) X.xe s
def nF(X:Cx)(f:Value)(r:List V->Hp->VK->Prop):Prop :=
 ∀(h:NB) (s:Shared) (x:St) (H:Hp) (y:List V) (z:List Value) (Q:VK),Inv X h x H s->dA y z->r y H Q ->
  wpAny (model X.prog X.w) X.A (call f z) (EP X h x Q) X.xe s
def Kl(X:Cx)(r:V->Hp->(Bool->Hp->Prop)->Prop):Prop :=
 ∀(h:NB) (s:Shared) (y:St) (H:Hp) (x:V) (v:Value) (Q:Bool->Hp->Prop),Inv X h y H s->rA x v->r x H Q ->
  wpAny (model X.prog X.w) X.A (truthy v) (TP X h y Q) X.xe s
def Sc(r:R2)(ta z:TE):TE:=λh H Q=>ta h H λx v=>z h v λy u=>r x y u Q
def yn(r:V->Hp->VK->Prop)(ta:TE):TE:=λh H Q=>ta h H λx y=>r x y Q
def rI(C:Int->Int->Prop)(g:Int->Int->V):R2:=λx y H Q=>∃i j,x=.int i/\y=.int j/\C i j/\Q (g i j) H
def T2(g:Int->Int->V):R2:=λx y H Q=>∃i j,x=.int i/\y=.int j/\Q (g i j) H
def rU(g:Int->V):V->Hp->VK->Prop:=λx H Q=>∃i,x=.int i/\Q (g i) H
section
variable{X:Cx}{a b c:Expr}{ta z tc:TE}{pos:Pos}
section
variable{f:Value->Value->Sem Value}{g:Int->Int->Int}
theorem binT(Z:PE X a ta)(hb:PE X b z){k:NB}{s:Shared}{σ:St}{H:Hp}{R:V->V->Hp->Prop}(I:Inv X k σ H s)
  (h:ta σ H λx m=>z σ m λy e=>R x y e) {Q:AB}
  (Y:∀v u l x y e,Inv X k σ e l->rA x v->rA y u->R x y e->wpAny (model X.prog X.w) X.A (f v u) Q X.xe l) :
  wpAny (model X.prog X.w) X.A (eval a X.env) (λv j=>wpAny (model X.prog X.w) X.A (eval b X.env) (λu i=>wpAny (model X.prog X.w) X.A (f v u) Q X.xe i) X.xe j) X.xe s:=by
 refine LB (Z k s σ H _ I h) λv n ⟨x,m,K,p,r⟩=>?_;refine LB (hb k n σ m _ K r) λu l ⟨y,e,W,o,q⟩=>?_;exact Y v u l x y e W p o q
theorem ve{k:Operator}{r:R2}(m:tF X (binaryOp k) r)(n:PE X a ta)(hb:PE X b z):PE X (.BinOp a k b pos) (Sc r ta z):=by intro w s e H Q I h;exact wpAny_BinOp (binT n hb I h λv u i x y p o l j q=>m w i e p x y v u Q o l j q)
theorem ke{w:UnaryOp}{r:V->Hp->VK->Prop}(j:Zl X (unaryOp w) r)(l:PE X a ta):PE X (.UnaryOp w a pos) (yn r ta):=by intro y s u H Q I h;exact UnaryOp_ (LB (l y s u H _ I h) λv k ⟨x,n,m,e,i⟩=>j y k u n x v Q m e i)
theorem Jn{C:Int->Int->Prop}
  (k:∀(i j:Int) (t u:Tok) (s:Shared) (Q:AB) (E:AB),C i j->Q (.int (g i j) s.toks) { s with toks:=s.toks+1 }->wpAny (model X.prog X.w) X.A (f (.int i t) (.int j u)) Q E s) :
  tF X f (rI C λi j=>.int (g i j)):=by
 intro e s o H x y v u Q I n m h;obtain⟨i,j,rfl,rfl,hc,q⟩:=h;obtain⟨t,rfl⟩:=n;obtain⟨l,rfl⟩:=m;exact k i j t l s _ _ hc ⟨.int (g i j),H,I.tok _,⟨_,rfl⟩,q⟩
theorem fe
  (k:∀(i j:Int) (t u:Tok) (s:Shared) (Q:AB) (E:AB),Q (.int (g i j) s.toks) { s with toks:=s.toks+1 }->wpAny (model X.prog X.w) X.A (f (.int i t) (.int j u)) Q E s) :
  tF X f (T2 λi j=>.int (g i j)):=by
 intro e s o H x y v u Q I n m h;obtain⟨i,j,rfl,rfl,q⟩:=h;obtain⟨t,rfl⟩:=n;obtain⟨l,rfl⟩:=m;exact k i j t l s _ _ ⟨.int (g i j),H,I.tok _,⟨_,rfl⟩,q⟩
theorem j4{g:Int->Int->Bool}
  (k:∀(i j:Int) (t u:Tok) (s:Shared) (Q:AB) (E:AB),Q (.bool (g i j)) s->wpAny (model X.prog X.w) X.A (f (.int i t) (.int j u)) Q E s) :
  tF X f (T2 λi j=>.bl (g i j)):=by
 intro e s o H x y v u Q I n m h;obtain⟨i,j,rfl,rfl,q⟩:=h;obtain⟨t,rfl⟩:=n;obtain⟨l,rfl⟩:=m;exact k i j t l s _ _ ⟨.bl (g i j),H,I,rfl,q⟩
def FL(i j:Int):Prop:=(-(2 ^ 64)<i/\i<2 ^ 64)∨(-(2 ^ 64)<j/\j<2 ^ 64)
theorem FL.ok{i j:Int}(h:FL i j):IntMulOk i j:=by
 rcases h with⟨y,x⟩| ⟨y,x⟩
 exact .of_left (intBits_le_64 y x);exact .of_right (intBits_le_64 y x)
theorem op_add:tF X (binaryOp .Add) (T2 λi j=>.int (i+j)):=fe λ_ _ _ _ _ _ _ q=>add_int q
theorem op_sub:tF X (binaryOp .Sub) (T2 λi j=>.int (i - j)):=fe λ_ _ _ _ _ _ _ q=>sub_int q
theorem op_mod:tF X (binaryOp .Mod) (rI (λ_ j=>0<j) λi j=>.int (i % j)):=Jn λi j _ _ _ _ _ hc q=>by have h:(0:Int)<j:=hc;exact mod_int' (by omega) (by rw[Int.fmod_eq_emod_of_nonneg i (by omega)];exact q)
theorem Im{f:Value->Sem Value}{g:Int->Int}
  (y:∀(i:Int) (t:Tok) (s:Shared) (Q:AB) (E:AB),Q (.int (g i) s.toks) { s with toks:=s.toks+1 }->wpAny (model X.prog X.w) X.A (f (.int i t)) Q E s) :
  Zl X f (rU λi=>.int (g i)):=by
 intro u s e H x v Q I k h;obtain⟨i,rfl,q⟩:=h;obtain⟨t,rfl⟩:=k;exact y i t s _ _ ⟨.int (g i),H,I.tok _,⟨_,rfl⟩,q⟩
theorem b8:Zl X (unaryOp .USub) (rU λi=>.int (-i)):=Im λ_ _ _ _ _ q=>neg_int q
end
end
noncomputable def K2:V->V->Bool
 | .non,.non=>true | .non,.int _=>true | .int _,.non=>true | .non,.bl _=>true | .bl _,.non=>true | .non,.str _=>true | .str _,.non=>true
 | .int _,.int _=>true | .bl _,.bl _=>true | .str _,.str _=>true | .byt _,.byt _=>true
 | .int _,.str _=>true | .str _,.int _=>true | .bl _,.str _=>true | .str _,.bl _=>true
 |_,_=>false
def rEq:R2:=λx y H Q=>K2 x y=true/\Q (.bl (decide (x=y))) H
def gn:R2:=λx y H Q=>K2 x y=true/\Q (.bl (!decide (x=y))) H
theorem gU{i j:Int}:decide (V.int i=V.int j)=(i==j):=by rw[qS];simp
theorem JZ{i j:Bool}:decide (V.bl i=V.bl j)=(i==j):=by rw[qS];simp
theorem fU{i j:Str}:decide (V.str i=V.str j)=(i==j):=by rw[qS];simp
theorem lU{i j:Array UInt8}:decide (V.byt i=V.byt j)=(i.toList==j.toList):=by rw[qS];cases i;cases j;simp
section
variable{X:Cx}{a b c:Expr}{ta f tc:TE}{pos:Pos}
section
variable{d:CmpOp}{us:List Value}
theorem JA{h:NB}{σ:St}{H:Hp}{s:Shared}{Q:VK}{k x:Bool}(I:Inv X h σ H s)(q:Q (.bl k) H)(e:k=x):EP X h σ Q (.bool x) s:=by subst e;exact⟨.bl k,H,I,rfl,q⟩
theorem op_eq:tF X (compareOp .Eq) rEq:=by
 intro g s l H x y v u Q I e z h;obtain⟨k,q⟩:=h;cases x with
 |non =>
  cases e;cases y with|non=>cases z;exact PySem.EqNone.eq_none_none (JA I q (by simp))|bl j=>cases z;exact PySem.EqNone.eq_none_bool (JA I q (by simp))|int j=>obtain⟨w,rfl⟩:=z;exact PySem.EqNone.eq_none_int (JA I q (by simp))|str j=>obtain⟨w,rfl⟩:=z;exact PySem.EqNone.eq_none_str (JA I q (by simp))|_=>exact absurd (show false=true from k) QD
 |bl i =>
  cases e;cases y with|non=>cases z;exact PySem.EqNone.eq_bool_none (JA I q (by simp))|bl j=>cases z;exact eq_bool (JA I q JZ)|str j=>obtain⟨w,rfl⟩:=z;exact PySem.EqMixed.eq_bool_str (JA I q (by simp))|_=>exact absurd (show false=true from k) QD
 |int i =>
  obtain⟨t,rfl⟩:=e;cases y with|non=>cases z;exact PySem.EqNone.eq_int_none (JA I q (by simp))|int j=>obtain⟨w,rfl⟩:=z;exact eq_int (JA I q gU)|str j=>obtain⟨w,rfl⟩:=z;exact PySem.EqMixed.eq_int_str (JA I q (by simp))|_=>exact absurd (show false=true from k) QD
 |str i =>
  obtain⟨t,rfl⟩:=e;cases y with|non=>cases z;exact PySem.EqNone.eq_str_none (JA I q (by simp))|bl j=>cases z;exact PySem.EqMixed.eq_str_bool (JA I q (by simp))|int j=>obtain⟨w,rfl⟩:=z;exact PySem.EqMixed.eq_str_int (JA I q (by simp))|str j=>obtain⟨w,rfl⟩:=z;exact eq_str (JA I q fU)|_=>exact absurd (show false=true from k) QD
 |byt i =>
  obtain⟨t,rfl⟩:=e;cases y with|byt j=>obtain⟨w,rfl⟩:=z;exact PySem.W.eq_bytes (JA I q lU)|_=>exact absurd (show false=true from k) QD
 |_=>cases y<;>exact absurd (show false=true from k) QD
theorem op_ne:tF X (compareOp .NotEq) gn:=by
 intro g s l H x y v u Q I e z h;obtain⟨k,q⟩:=h;cases x with
 |non =>
  cases e;cases y with|non=>cases z;exact PySem.EqNone.ne_none_none (JA I q (by simp))|bl j=>cases z;exact PySem.EqNone.ne_none_bool (JA I q (by simp))|int j=>obtain⟨w,rfl⟩:=z;exact PySem.EqNone.ne_none_int (JA I q (by simp))|str j=>obtain⟨w,rfl⟩:=z;exact PySem.EqNone.ne_none_str (JA I q (by simp))|_=>exact absurd (show false=true from k) QD
 |bl i =>
  cases e;cases y with|non=>cases z;exact PySem.EqNone.ne_bool_none (JA I q (by simp))|bl j=>cases z;exact ne_bool (JA I q (congrArg not JZ))|str j=>obtain⟨w,rfl⟩:=z;exact PySem.EqMixed.ne_bool_str (JA I q (by simp))|_=>exact absurd (show false=true from k) QD
 |int i =>
  obtain⟨t,rfl⟩:=e;cases y with|non=>cases z;exact PySem.EqNone.ne_int_none (JA I q (by simp))|int j=>obtain⟨w,rfl⟩:=z;exact ne_int (JA I q (congrArg not gU))|str j=>obtain⟨w,rfl⟩:=z;exact PySem.EqMixed.ne_int_str (JA I q (by simp))|_=>exact absurd (show false=true from k) QD
 |str i =>
  obtain⟨t,rfl⟩:=e;cases y with|non=>cases z;exact PySem.EqNone.ne_str_none (JA I q (by simp))|bl j=>cases z;exact PySem.EqMixed.ne_str_bool (JA I q (by simp))|int j=>obtain⟨w,rfl⟩:=z;exact PySem.EqMixed.ne_str_int (JA I q (by simp))|str j=>obtain⟨w,rfl⟩:=z;exact ne_str (JA I q (congrArg not fU))|_=>exact absurd (show false=true from k) QD
 |byt i =>
  obtain⟨t,rfl⟩:=e;cases y with|byt j=>obtain⟨w,rfl⟩:=z;exact PySem.W.ne_bytes (JA I q (congrArg not lU))|_=>exact absurd (show false=true from k) QD
 |_=>cases y<;>exact absurd (show false=true from k) QD
theorem op_lt:tF X (compareOp .Lt) (T2 λi j=>.bl (decide (i<j))):=j4 λ_ _ _ _ _ _ _ q=>lt_int q
theorem op_le:tF X (compareOp .LtE) (T2 λi j=>.bl (decide (i<=j))):=j4 λ_ _ _ _ _ _ _ q=>le_int q
theorem op_gt:tF X (compareOp .Gt) (T2 λi j=>.bl (decide (j<i))):=j4 λ_ _ _ _ _ _ _ q=>gt_int q
theorem op_ge:tF X (compareOp .GtE) (T2 λi j=>.bl (decide (j<=i))):=j4 λ_ _ _ _ _ _ _ q=>ge_int q
theorem hV:tF X (compareOp .In) (λx y H Q=>∃i j,x=.str i/\y=.str j/\Q (.bl (!(w8 j i 0 j.length 1).isEmpty)) H):=by intro z s e H x y v u Q I k w h;obtain⟨i,j,rfl,rfl,q⟩:=h;obtain⟨t,rfl⟩:=k;obtain⟨g,rfl⟩:=w;exact in_str (JA I q rfl)
theorem nN:tF X (compareOp .NotIn) (λx y H Q=>∃i j,x=.str i/\y=.str j/\Q (.bl (!(!(w8 j i 0 j.length 1).isEmpty))) H):=by intro z s e H x y v u Q I k w h;obtain⟨i,j,rfl,rfl,q⟩:=h;obtain⟨t,rfl⟩:=k;obtain⟨g,rfl⟩:=w;exact notIn_str (JA I q rfl)
theorem N3{r:R2}(i:tF X (compareOp d) r)(l:PE X a ta)(hb:PE X b f)(j:behindInMarks d b=false):PE X (.Compare a [d] [b] pos) (Sc r ta f):=by intro z s w H Q I h;exact wpAny_Compare1 (binT l hb I h λv u k x y n m g e q=>i z k w n x y v u Q m g e q) j
def Pc(t:TE):TT:=λh H Q=>t h H λx y=>∃k,x=.bl k/\Q k y
theorem E2{r:R2}(Y:tF X (compareOp d) r)(W:PE X a ta)(hb:PE X b f)(Z:behindInMarks d b=false):PT X (.Compare a [d] [b] pos) (Pc (Sc r ta f)):=by
 intro w s g H Q I h;refine wpAny_isTrue_Compare1 (LB (W w s g H _ I h) λv j ⟨x,F,B,n,q⟩=>LB (hb w j g F _ B q) λu i ⟨y,E,A,m,p⟩ =>
  LB (Y w i g E x y v u _ A n m p) λc G ⟨z,C,K,l,k,e,o⟩=>?_) Z
 subst e;cases l;exact wO ⟨C,K,o⟩
def Hb(K:QC)(x:V)(H:Hp)(k:Bool):Prop :=
 match x with
 | .non=>k=false|.bl b=>k=b|.int i=>k=(i != 0)|.str y=>y.length<=sizeLine/\k=((y.length:Int) != 0)|.byt y=>y.size<=sizeLine/\k=((y.size:Int) != 0)|.ref p=>(∃h,yC K H p h/\k=!h.isEmpty)∨(∃h,XC K H p h/\k=!h.isEmpty)∨∃z,H p=some (.dK z)/\k=!z.isEmpty|_=>False
theorem FR{h:Type}{kvs:List (h×V)}{vs:List (h×Value)}(r:KV kvs vs):(!vs.isEmpty)=!kvs.isEmpty:=by cases r<;>rfl
theorem UK{xs:List V}{its:List Value}(r:dA xs its):(!its.toArray.isEmpty)=!xs.isEmpty:=by cases r<;>simp
theorem vH:(sizeLine:Nat)<2 ^ 63:=by rw[QS];decide
theorem FW:Kl X (λx H Q=>∃k,Hb X.K x H k/\Q k H):=by
 intro A s F H x v Q I l h;obtain⟨k,e,q⟩:=h;have hl:=vH;have G:sizeLine=16777216:=QS;cases x with
 |non=>cases l;have z:k=false:=e;subst z;exact truthy_none ⟨H,I,q⟩|bl b=>cases l;have z:k=b:=e;subst z;exact wO ⟨H,I,q⟩|int i=>obtain⟨t,rfl⟩:=l;have z:k=(i != 0):=e;subst z;exact PySem.P.truthy_int ⟨H,I,q⟩|str y=>obtain⟨t,rfl⟩:=l;obtain⟨C,z⟩:y.length<=sizeLine/\k=((y.length:Int) != 0):=e;subst z;exact PySem.P.truthy_str (by omega) ⟨H,I.tok _,q⟩|byt y=>obtain⟨t,rfl⟩:=l;obtain⟨C,z⟩:y.size<=sizeLine/\k=((y.size:Int) != 0):=e;subst z;exact PySem.W.truthy_bytes (by omega) ⟨H,I.tok _,q⟩|ref p =>
  cases l;have z:(∃j,yC X.K H p j/\k=!j.isEmpty)∨(∃j,XC X.K H p j/\k=!j.isEmpty)∨∃u,H p=some (.dK u)/\k=!u.isEmpty:=e;rcases z with⟨j,n,z⟩| ⟨j,n,z⟩| ⟨u,n,z⟩
  subst z;obtain⟨Z,r,Y,B⟩:=I.list n;have g:=r.length;exact wpAny_truthy_list Y.isList (by simp only[QT];omega) ⟨H,I.tok _,by rw[UK r];exact q⟩;subst z;obtain⟨Z,r,Y,B⟩:=I.tuple n;have g:=r.length;exact truthy_tuple Y (by simp only[QT];omega) ⟨H,I.tok _,by rw[UK r];exact q⟩;subst z;obtain⟨B,E,o,r,m⟩:u.length<=sizeLine/\(p==sysModules)=false/\∃o,KV u o/\s.heap.DictOf (OA X.prog X.w) p o:=I.hok p _ n;have g:u.length=o.length:=qW r;exact wpAny_truthy_dict E m (by omega) ⟨H,I.tok _,by rw[FR r];exact q⟩
 |_=>exact(show False from e).elim
theorem lR:tF X (binaryOp .Add) (λx y H Q=>∃i j,x=.str i/\y=.str j/\i.length+j.length<=sizeLine/\Q (.str (i++j)) H):=by intro z s l H x y v u Q I e k h;obtain⟨i,j,rfl,rfl,g,q⟩:=h;obtain⟨t,rfl⟩:=e;obtain⟨w,rfl⟩:=k;exact add_str (λw m=>⟨.str (i++j),H,I.tok _,⟨_,rfl⟩,q⟩) g
theorem RI{x:V}(r:dA [x] us):∃u,us=[u]/\rA x u:=by
 cases r with|cons y h=>cases h;exact⟨_,rfl,y⟩
theorem U6{x y:V}(r:dA [x,y] us):∃u h,us=[u,h]/\rA x u/\rA y h:=by
 cases r with
 |cons k w =>
  cases w with|cons v z=>cases z;exact⟨_,_,rfl,k,v⟩
end
end
section
variable{h:Heap}{u:Addr}{v:Str->Option Value}
structure ObjM(h:Heap)(x u C:Addr)(v:Str->Option Value):Prop where
 obj:h.get? x=some (QA4 C u)
 ns:h.Ns1 u v
 ne:u≠x
theorem CV(n:h.Ns1 u v):∃w,h.get? u=some w/\∀name,QBL name w=some (v name):=by
 obtain⟨o,k,l,f,i,hk,_,g⟩:=n;refine⟨o,f,λname=>?_⟩;have e:=g name;unfold nsFind findBy at e;rw[<- Array.find?_toList]at e;unfold QBL;rw[i];dsimp only;split;rename_i y q;rw[q]at e;exact congrArg some e;rename_i q;rw[q]at e;have a:k.toList.any (·.refKey)=false:=by rw[QAg];intro y b;obtain⟨z,t,x⟩:=hk y (QBG.mp b);simp[DictEntry.refKey,x]
 have j:¬ k.toList.any (·.refKey)=true:=by rw[a];exact QD
 rw[if_neg j];exact congrArg some e
theorem ObjM.look{x C:Addr}(I:ObjM h x u C v):∃y,PySem.W.InstAt h x (QA4 C u) C (some y)/\∀name,QBL name y=some (v name) :=
 let⟨y,z,hl⟩:=CV I.ns
 ⟨y,⟨I.obj,rfl,rfl,z⟩,hl⟩
end
section
variable{P:Program}{w:World}{H v:Hp}{h h':Heap}{a C y:Addr}{x u:List (Str×V)}
theorem G5(b:UJ P w H h)(e:H a=some (.ins C y x)):∃k,ObjM h a y C k/\(∀f,VQ (x.lookup f) (k f))/\PySem.Within k (x.map (·.1))/\x.length<=1000/\H y=some (.own a):=by
 obtain⟨d,z,i,g,k,n,r,q⟩:=(show LA P w H h a (.ins C y x) from b a _ e)
 exact⟨k,⟨g,n,i⟩,r,q,z,d⟩
end
structure Cls(K:QC)(C:Addr):Prop where
 pg:QCB K C Str.empty=true
 hd:PySem.W.hasDictIn K C=true
 po:PySem.W.plainOver K C=true
 sa:PySem.W.findIn K (.ref C) "__setattr__"=some (some (.builtin "object.__setattr__"))
theorem Cls.get{K:QC}{C:Addr}(c:Cls K C)(f:Str):QCB K C f=true:=c.pg
section
variable{X:Cx}{v:NB}{σ:St}{H:Hp}{s:Shared}{A:Around}{E:AB}{Q:AB}{c:Value}{b:Bool}
inductive TyOf(K:QC)(H:Hp):V->Value->Prop where
 |non:TyOf K H .non (.type "NoneType")
 |bl (x:Bool):TyOf K H (.bl x) (.type "bool")
 |int (i:Int):TyOf K H (.int i) (.type "int")
 |str (x:Str):TyOf K H (.str x) (.type "str")
 |flt (x:UInt64):TyOf K H (.flt x) (.type "float")
 |lst {a:Addr}{xs:List V}(e:H a=some (.lst xs)):TyOf K H (.ref a) (.type "list")
 |frz {a:Addr}{o:Obj}{xs:List V}(e:H a=some (.frz o (.lst xs))):TyOf K H (.ref a) (.type "list")
 |tup {a:Addr}{xs:List V}(e:H a=some (.tup xs)):TyOf K H (.ref a) (.type "tuple")
 |dK {a:Addr}{kvs:List (Key×V)}(e:H a=some (.dK kvs)):TyOf K H (.ref a) (.type "dict")
 |dT {a:Addr}{ep:Nat}{kvs:List (List Key×Addr×V)}(e:H a=some (.dT ep kvs)):TyOf K H (.ref a) (.type "dict")
 |ins {a C dx:Addr}{fs:List (Str×V)}(e:H a=some (.ins C dx fs)) (cl:Cls K C) (ha:PySem.W.findIn K (.ref C) "__class__"=some (some (.builtin "object.__class__")))
   (hn:PySem.W.specialIn K (.builtin "object.__class__") "__get__"=some (some (.builtin "getset_descriptor.__get__"))) (htk:PySem.W.takesIn K (.builtin "object.__class__")=some true)
   (hm:PySem.W.mroIn K C (.type "object")=some true):TyOf K H (.ref a) (.ref C)
theorem MV{x:V}{u t:Value}(I:Inv X v σ H s)(k:rA x u)(ty:TyOf X.K H x t)(e:QBM X.K t c=some b)(h:∀B,Q (.bool b) { s with toks:=B }) :
  wpAny (model X.prog X.w) A (call (.builtin "isinstance") [u,c]) Q E s:=by
 cases ty with
 |non=>cases(show u=Value.none from k);exact qM PySem.W.kitx_none I.kIn True.intro e (λz=>nomatch z) h
 |bl y=>cases(show u=Value.bool y from k);exact qM PySem.W.kitx_bool I.kIn True.intro e (λz=>nomatch z) h
 |int i=>obtain⟨t,q⟩:=(show ∃t,u=Value.int i t from k);cases q;exact qM PySem.W.kitx_int I.kIn True.intro e (λz=>nomatch z) h
 |str y=>obtain⟨t,q⟩:=(show ∃t,u=Value.str y t from k);cases q;exact qM PySem.W.kitx_str I.kIn True.intro e (λz=>nomatch z) h
 |flt y=>obtain⟨t,q⟩:=(show ∃t,u=Value.float y t from k);cases q;exact qM PySem.W.kitx_float I.kIn True.intro e (λz=>nomatch z) h
 |@lst a l f =>
  cases(show u=Value.ref a from k);obtain⟨_,_,n,_,g⟩:=(show LA X.prog X.w H s.heap a (.lst l) from I.hok a _ f)
  exact qM QAh I.kIn ⟨_,g,rfl⟩ e (λz=>nomatch z) h
 |@frz a F l f =>
  cases(show u=Value.ref a from k);obtain⟨_,_,_,n,_,g⟩:=(show LA X.prog X.w H s.heap a (.frz F (.lst l)) from I.hok a _ f)
  exact qM QAh I.kIn ⟨_,g,rfl⟩ e (λz=>nomatch z) h
 |@tup a l f =>
  cases(show u=Value.ref a from k);obtain⟨_,_,_,p⟩:=(show LA X.prog X.w H s.heap a (.tup l) from I.hok a _ f)
  obtain⟨o,g,m,_⟩:=p;exact qM QBe I.kIn ⟨o,g,m⟩ e (λz=>nomatch z) h
 |@dK a j f =>
  cases(show u=Value.ref a from k);obtain⟨_,_,P,_,p⟩:=(show LA X.prog X.w H s.heap a (.dK j) from I.hok a _ f)
  obtain⟨o,N,Y,g,m,_⟩:=p;exact qM QBo I.kIn ⟨o,g,m.1⟩ e (λz=>nomatch z) h
 |@dT a Y j f =>
  cases(show u=Value.ref a from k);obtain⟨_,_,l,_,o,N,g,m,_⟩:=(show LA X.prog X.w H s.heap a (.dT Y j) from I.hok a _ f)
  exact qM QBo I.kIn ⟨o,g,m.1⟩ e (λz=>nomatch z) h
 |@ins a C dx fs f Z M G r L=>cases(show u=Value.ref a from k);obtain⟨S,O,_⟩:=G5 I.hok f;obtain⟨R,J,_⟩:=O.look;exact qM (PySem.W.kitx_own (Z.get _) Z.hd M G r L) I.kIn J e (λz=>nomatch z) h
end
section
variable{k:Nat}{A:Around}
structure Room(k:Nat)(A:Around):Prop where
 hd:A.handled=none
 dp:A.depth+3 * k+5<recursionLimit
 un:A.units+16 * k+200<cLine
theorem Room.mono{j:Nat}(r:Room k A)(h:j<=k):Room j A:=⟨r.hd,by have:=r.dp;omega,by have:=r.un;omega⟩
theorem Room.deeper(r:Room (k+1) A)(env:Env):Room k (A.deeper env) :=
 ⟨r.hd,by have:=r.dp;show A.depth+1+3 * k+5<_;omega,by have:=r.un;show A.units+3+16 * k+200<_;omega⟩
theorem Room.depth(r:Room k A):A.depth<recursionLimit:=by have:=r.dp;omega
def Tc:TA:=λ_ H Q=>Q [] H
def Ic(ta:TE)(z:TA):TA:=λh H Q=>ta h H λx v=>z h v λy u=>Q (x::y) u
end
section
variable{X:Cx}{e:Expr}{es:List Expr}{te:TE}{t:TA}{pos:Pos}
theorem SX:PA X [] Tc:=λ_ _ _ _ H Q I h=>Wr ⟨[],H,I,.nil,h⟩
theorem bN(j:PE X e te)(i:PA X es t)(g:starEach (e::es) X.env=(false,eval e X.env)::starEach es X.env:=by rfl):PA X (e::es) (Ic te t):=by intro pos y s z H Q I h;rw[g];show wpAny _ _ (spliced ((false,eval e X.env)::backTo pos (starEach es X.env))) _ _ s;refine Wj (LB (j y s z H _ I h) λu w ⟨x,o,m,a,f⟩=>?_);exact LB (i pos y w z o _ m f) λp q ⟨v,n,l,k,b⟩=>⟨x::v,n,l,.cons a k,b⟩
def Th(t:TA):TE:=λy H Q=>t y H λh x=>h.length<=sizeLine/\∀p,x p=none->Q (.ref p) (DA x p (.tup h))
def yi(t:TA):TE:=λy H Q=>t y H λh x=>h.length<=sizeLine/\∀p,x p=none->Q (.ref p) (DA x p (.lst h))
theorem j9{x1}(h:PA X es t):PE X (.Tuple es x1 pos) (Th t):=by intro x s k H Q I g;refine wpAny_Tuple_spliced (LB (h pos x s k H _ I g) λf y ⟨a,w,v,r,z,q⟩=>⟨by rw[<- r.length];exact z,?_⟩);have i:w y.heap.objs.size=none:=v.hok.fresh (QU _);refine⟨.ref y.heap.objs.size,DA w y.heap.objs.size (.tup a),v.laid (t':=y.toks) (λb u e=>QH _ e) (QU _) ?_,rfl,q _ i⟩;exact⟨z,f,r,⟨_,QN _ rfl,rfl,_,rfl⟩⟩
theorem z9(h:PA X es t):PE X (.List es pos) (yi t):=by intro x s k H Q I g;refine wpAny_List_spliced (LB (h pos x s k H _ I g) λf y ⟨a,w,v,r,z,q⟩=>⟨by rw[<- r.length];exact z,?_⟩);have i:w y.heap.objs.size=none:=v.hok.fresh (QU _);refine⟨.ref y.heap.objs.size,DA w y.heap.objs.size (.lst a),v.laid (t':=y.toks) (λb u e=>QH _ e) (QU _) ?_,rfl,q _ i⟩;exact⟨z,f,0,r,QN _ rfl⟩
end
noncomputable abbrev Sp:=List V->Hp->VK->XK->Prop
noncomputable abbrev U0:=List Env->Hp->Shared->XK->Value->Shared->Prop
structure Env0(P:Program)(w:World)(K:QC)(mg:Str->Option Value)(base:Heap)(A:Around)(outer:List Env)(s:Shared)(H:Hp):Prop where
 frames:A.frames=some outer
 mod:Mod K mg base
 bs:∀b o,base.get? b=some o->s.heap.get? b=some o/\H b=none
 bsz:base.objs.size<=s.heap.objs.size
 funs:s.heap.FunFrames base outer
 frf:∀b∈EV outer,H b=none
 hok:UJ P w H s.heap
 bare:AllBare s.gens
def CE(outer:List Env)(P:Program)(w:World)(H:Hp)(s:Shared)(Q:VK)(u:Value)(s':Shared):Prop :=
 ∃v h,s'.os=s.os/\AllBare s'.gens/\Un (EV outer) [] H h s.heap s'.heap/\UJ P w h s'.heap/\rA v u/\Q v h
def CR(h:U0)(outer:List Env)(P:Program)(w:World)(H:Hp)(s:Shared)(Q:VK)(E:XK)(r:Result)(s':Shared):Prop :=
 match r with
 | .ok (.ret u)=>CE outer P w H s Q u s'|.ok _=>False|.error e=>h outer H s E e s'
structure FnOk(P:Program)(w:World)(K:QC)(mg:Str->Option Value)(base:Heap)(CX:U0)(k:Nat)(f:Addr)(fd:FuncData)(ps:List Str)(sp:Sp):Prop where
 len:∀vs H Q E,sp vs H Q E->vs.length=ps.length
 run:∀(A:Around) (outer:List Env) (s:Shared) (H:Hp) (args:Args) (us:List Value) (vs:List V) (Q:VK) (E:XK),Room k A->Env0 P w K mg base A outer s H->BindsTo s fd args (ps.zip us)->dA vs us->sp vs H Q E ->
  codeAny (model P w) A (.call (.ref f) args) (CR CX outer P w H s Q E) s
theorem FnOk.mono{P:Program}{w:World}{K:QC}{v:Str->Option Value}{x:Heap}{b:U0}{j k:Nat}{f:Addr}{a:FuncData}{u:List Str}{z:Sp}(F:FnOk P w K v x b j f a u z)(h:j<=k) :
  FnOk P w K v x b k f a u z:=⟨F.len,λA y s H args g e Q E i=>F.run A y s H args g e Q E (i.mono h)⟩
section
variable{X:Cx}{x:NB}{σ:St}{H:Hp}{s s':Shared}
theorem Inv.env0(I:Inv X x σ H s):Env0 X.prog X.w X.K X.mg X.base X.A X.stack s H :=
 ⟨I.ok.frames,I.ok.mod,I.bs,QZ I.ok.bsz I.sz,I.stack,I.stkFree,I.hok,I.bare⟩
theorem Inv.after{Q:VK}{u:Value}(I:Inv X x σ H s)(h:CE X.stack X.prog X.w H s Q u s'):EP X x σ Q u s':=by obtain⟨v,f,a,bare,un,k,r,q⟩:=h;obtain⟨e,g,d,t,y⟩:=s';obtain rfl:y=s.os:=a;exact⟨v,f,I.call (h':=e) (g':=g) (d':=d) (t':=t) (ch:=[]) un k bare (λb z=>absurd z (by simp)),r,q⟩
end
def C6(z:Sp)(h:List V)(E:XK)(t:TA):TE:=λx H Q=>t x H λy u=>z (y++h) u Q E
def vI(K:QC)(y:FuncData)(x:List Str)(ds:List Value):Prop :=
 ∀(s:Shared) (h:List Value),K.In s.heap->(h++ds).length=x.length->BindsTo s y ⟨h,[]⟩ (x.zip (h++ds))
theorem vI.all{K:QC}{y:FuncData}{x:List Str}(h:∀us:List Value,us.length=x.length->bindArgs y ⟨us,[]⟩=pure (x.zip us)):vI K y x []:=λs us _ hl=>by rw[wG]at hl ⊢;exact .of_eq (h us hl)
def xL(z:U0)(X:Cx)(E:XK):Prop:=∀(h:NB) (y:St) (H:Hp) (s:Shared) (e:Value) (x:Shared),Inv X h y H s->z X.stack H s E e x->X.xe e x
section
variable{X:Cx}{b:U0}{k:Nat}{f C:Addr}{a:FuncData}{z:List Str}{v:Sp}{y:List V}{ds:List Value}{E:XK}{x m:Str}{p pos apos:Pos}{e o:Expr}{es:List Expr}{ta:TE}{t:TA}
theorem dX{g:NB}{σ:St}{H:Hp}{s:Shared}{Q:VK}{us:List Value}{vs:List V}(F:FnOk X.prog X.w X.K X.mg X.base b k f a z v)(q:Room k X.A)(hb:vI X.K a z ds)(Y:dA y ds)(n:xL b X E)
  (I:Inv X g σ H s) (r:dA vs us) (h:v (vs++y) H Q E):wpAny (model X.prog X.w) X.A (call (.ref f) us) (EP X g σ Q) X.xe s:=by
 have j:dA (vs++y) (us++ds):=r.append Y;have hl:(us++ds).length=z.length:=by rw[<- j.length];exact F.len _ _ _ _ h
 refine wpAny_call (QAY (F.run X.A X.stack s H ⟨us,[]⟩ (us++ds) (vs++y) Q E q I.env0 (hb s us I.kIn hl) j h) λr l i=>?_);cases r with
 |error e=>exact n g σ H s e l I i|ok fl =>
  cases fl with|ret u=>exact I.after i|next=>exact Qb i|brk=>exact Qb i|cont=>exact Qb i
theorem O3(F:FnOk X.prog X.w X.K X.mg X.base b k f a z v)(Y:Room k X.A)(B:Gl X x)(Z:X.mg x=some (.ref f))(hk:WG X.K (.ref f)=true)(hb:vI X.K a z ds)(J:dA y ds)(n:xL b X E)
  (L:PA X (e::es) t) (i:(x==("__debug__":Str))=false:=by decide) (G:starEach (e::es) X.env=(false,eval e X.env)::starEach es X.env:=by rfl) (g:(backTo pos (starEach es X.env)).any (·.1)=false:=by rfl) :
  PE X (.Call (.Name x p) (e::es) [] pos) (C6 v y E t):=by
 intro u s l H Q I h;refine qm (XN I B Z ?_ i);refine PySem.W.callWith_K (h₀:=X.base) I.ok.mod.kin hk (LB (L pos u s l H _ I h) λN O ⟨M,P,j,r,q⟩=>⟨j.kIn,?_⟩) G g;exact dX F Y hb J n j r q
theorem MX(F:FnOk X.prog X.w X.K X.mg X.base b k f a z v)(j:Room k X.A)(n:Gl X x)(l:X.mg x=some (.ref f))(hk:WG X.K (.ref f)=true)(hb:vI X.K a z ds)(q:dA y ds)(i:xL b X E)
  (u:(x==("__debug__":Str))=false:=by decide):PE X (.Call (.Name x p) [] [] pos) (C6 v y E Tc):=by
 intro g s r H Q I h;refine qm (XN I n l ?_ u);exact PySem.W.callWith_K0 I.kIn hk (dX (us:=[]) F j hb q i I .nil h)
end
section
variable{X:Cx}{c:U0}{k:Nat}{f C:Addr}{b:FuncData}{v ks:List Str}{u:Sp}{E:XK}{x m:Str}{p pos apos h:Pos}{e o:Expr}{es:List Expr}{y:List Keyword}{te ta:TE}{t z:TA}{w:Option Str}
variable{g:List Value->List Value->List Value}{a:List V->List V->List V}
end
section
variable{l:U0}{P:Program}{w:World}{mg:Str->Option Value}{base:Heap}{N j:List Str}{g:Str}{d:Scope}{f:Addr}
structure FnScope(N P:List Str)(sc:Scope):Prop where
 kind:sc.kind=.function
 co:sc.isCoroutine=false
 gen:sc.isGenerator=false
 nd:N.Nodup
 pre:N.take P.length=P
 par:∀x∈P,sc.names.lookup x=some .local∨sc.names.lookup x=some .cell
 nofree:∀y∈sc.names,y.2≠.free
theorem rM{y:Str->Option NameKind}{x:Str}:∀{binds:List (Str×Value)}{m:Str->Option Value},(∀v,(x,v)∉binds)->bindL y binds m x=m x
 |[],_,_=>rfl|(n,v)::r,m,h=>by
  unfold bindL;rw[rM λw z=>h w (QG _ z)];split;have:x≠n:=by rintro rfl;exact h v QE
  simp[this];rfl
theorem tM{y:Str->Option NameKind}{x:Str}:∀{binds:List (Str×Value)}{m:Str->Option Value},(∀v,(x,v)∉binds)->bindC y binds m x=m x
 |[],_,_=>rfl|(n,v)::r,m,h=>by
  unfold bindC;rw[tM λw z=>h w (QG _ z)];split;rfl;have:x≠n:=by rintro rfl;exact h v QE
  simp[this]
theorem sM{y:Str->Option NameKind}{x:Str}{v:Value}:∀{P:List Str}{vs:List Value}{i:Nat}{m:Str->Option Value},P.Nodup->P[i]?=some x->vs[i]?=some v->y x=some .local ->
  bindL y (P.zip vs) m x=some v
 |[],_,_,_,_,h,_,_=>by simp at h|_::_,[],_,_,_,_,h,_=>by simp at h|p::P,w::vs,0,m,nd,h1,h2,hk=>by simp at h1 h2;subst h1;subst h2;show bindL y ((p,w)::P.zip vs) m p=_;unfold bindL;rw[rM λv hv=>(Qi.mp nd).1 (QA5 hv).1,if_pos hk];simp|p::P,w::vs,i+1,m,nd,h1,h2,hk=>by show bindL y ((p,w)::P.zip vs) m x=_;unfold bindL;exact sM (i:=i) (Qi.mp nd).2 (by simpa using h1) (by simpa using h2) hk
theorem aM{y:Str->Option NameKind}{x:Str}{v:Value}:∀{P:List Str}{vs:List Value}{i:Nat}{m:Str->Option Value},P.Nodup->P[i]?=some x->vs[i]?=some v->y x≠some .local ->
  bindC y (P.zip vs) m x=some v
 |[],_,_,_,_,h,_,_=>by simp at h|_::_,[],_,_,_,_,h,_=>by simp at h|p::P,w::vs,0,m,nd,h1,h2,hk=>by simp at h1 h2;subst h1;subst h2;show bindC y ((p,w)::P.zip vs) m p=_;unfold bindC;rw[tM λv hv=>(Qi.mp nd).1 (QA5 hv).1,if_neg hk];simp|p::P,w::vs,i+1,m,nd,h1,h2,hk=>by show bindC y ((p,w)::P.zip vs) m x=_;unfold bindC;exact aM (i:=i) (Qi.mp nd).2 (by simpa using h1) (by simpa using h2) hk
def MD(N:List Str)(vs:List V):St:=vs.map some++Qx (N.length - vs.length) none
noncomputable def kS(l:U0)(P:Program)(w:World)(K:QC)(mg:Str->Option Value)(base:Heap)(N:List Str)(g:Str)(d:Scope)(f:Addr)(x:Value)(A:Around)(outer:List Env)(s:Shared)(H:Hp)(E:XK):Cx where
 prog:=P
 w:=w
 K:=K
 mg:=mg
 base:=base
 A:=A.deeper (envOfC g d s.heap.objs.size f x)
 N:=N
 s₀:=s
 H₀:=H
 env:=envOfC g d s.heap.objs.size f x
 outer:=outer
 stack:=envOfC g d s.heap.objs.size f x::outer
 ex:=[]
 calm:=true
 fn:=λ_=>true
 pn:=[]
 xe:=λe y=>wpAny (model P w) (A.deeper (envOfC g d s.heap.objs.size f x)) (leaving (envOfC g d s.heap.objs.size f x) e) (λ_ h=>l outer H s E e h) (λz h=>l outer H s E z h) y
theorem nQ{sc:Scope}{n:Nat}{x:Str}(h:sc.names.lookup x=some .cell):∃c,(cellsFrom n sc.names []).lookup x=some c:=by have q:=QAx sc.names n [] (.inl h);exact Option.isSome_iff_exists.mp q
theorem OV{K:QC}{F:Value}{A:Around}{outer:List Env}{s G:Shared}{H:Hp}{E:XK}{us:List Value}{vs:List V}
  (S:FnScope N j d) (M:A.handled=none) (o:Env0 P w K mg base A outer s H) (hl:vs.length=j.length) (r:dA vs us)
  (x:InCallC s s.heap.objs.size (bindL (envOfC g d s.heap.objs.size f F).kindOf (j.zip us) λ_=>none) (cellsFrom (s.heap.objs.size+1) d.names []) (bindC (envOfC g d s.heap.objs.size f F).kindOf (j.zip us) λ_=>none) G) :
  Inv (kS l P w K mg base N g d f F A outer s H E) [] (MD N vs) H G:=by
 have L:j.length<=N.length:=by have:=congrArg qp S.pre;rw[qw]at this;omega
 obtain⟨C,Q,rfl,hk⟩:=x.done;have X:∀b:Addr,b∉(kS l P w K mg base N g d f F A outer s H E).ex:=λb z=>absurd (show b∈([]:List Addr) from z) (by simp);refine⟨⟨o.mod,S.kind,rfl,rfl,QU _,λy z c C m=>?_,λy Y=>?_,λy c _ h=>?_,λ_=>M,Around.frames_deeper o.frames,.inr ⟨rfl,rfl⟩,λb z=>absurd z (X b),o.bs,o.bsz,λb _ _=>X b,λb z=>absurd z (X b),o.funs,o.frf⟩,
  rfl,o.bare,Un.kept hk,⟨_,x.toInCall.ns,λi y v C m R=>?_⟩,λy c h=>⟨_,x.cell y c h⟩,o.hok.fresh (QU _),λy c h=>?_,λp W=>absurd (show p∈([]:NB) from W) (by simp),o.hok.kept hk,?_⟩
 exact name_of_addr x.apart (qT C) (qT m);have Y:d.names.lookup y=some .cell∨d.names.lookup y=some .free:=Y;rcases Y with Y|Y;exact nQ Y;exact absurd rfl (S.nofree _ (qT Y));exact QAX (x.above y c (qT h));have B:i<vs.length:=by unfold MD at m;by_cases B:i<vs.length;exact B;rw[Q0 (by simpa using B)]at m;rw[w9]at m;split at m<;>cases m
 have O:vs[i]?=some v:=by
  unfold MD at m;rw[Qu (by simpa using B),Qc]at m;cases e:vs[i]? with|none=>rw[e]at m;cases m|some a=>rw[e]at m;cases m;rfl
 obtain⟨u,I,J⟩:=r.get O;have W:j[i]?=some y:=by rw[<- S.pre,List.getElem?_take_of_lt (by omega)];exact C
 have Z:j.Nodup:=by rw[<- S.pre];exact S.nd.sublist (QBp _ _)
 refine⟨u,J,?_⟩;rcases S.par y (Q9 W) with k|k;exact .inl ⟨k,sM Z W I k⟩;obtain⟨c,e⟩:=nQ (n:=s.heap.objs.size+1) k;refine .inr ⟨.inl k,c,e,?_⟩;have q:=x.cell y c e;rw[aM Z W I (by show d.names.lookup y≠_;rw[k];decide)]at q;exact q;exact o.hok.fresh (QAX (x.above y c (qT h)));unfold MD;show _=N.length;rw[QL,QF,qg];omega
theorem lf{K:QC}{k:Nat}{name:Str}{z:Arguments}{body:List Stmt}{dV kV B pm h ct oc:Value}{an od:Option Addr}
  {L:Array (Option Value)}{C:Sp}(lk:K.lookup f=some ⟨oc,od,.func (wX name g z body d dV kV B pm an h ct),L⟩) (R:QAb K h g=true) (S:FnScope N j d)
  (len:∀vs H Q E,C vs H Q E->vs.length=j.length)
  (p:∀(A:Around) (outer:List Env) (s:Shared) (H:Hp) (vs:List V) (Q:VK) (E:XK),Room k (A.deeper (envOfC g d s.heap.objs.size f h))->C vs H Q E ->
   ∃t,KS (kS l P w K mg base N g d f h A outer s H E) body t/\t { nx:=λ_ i=>Q .non i,rt:=Q } (MD N vs) H) :
  FnOk P w K mg base l (k+1) f (wX name g z body d dV kV B pm an h ct) j C:=by
 refine⟨len,λA outer s H args us vs Q E O Z hb r Y=>?_⟩;have hl:=len _ _ _ _ Y;have KX:K.In s.heap:=Z.mod.kin.keeps λb o e=>(Z.bs b o e).1;have M:s.heap.NoLimit:=Z.mod.nolimit.keeps λb o e=>(Z.bs b o e).1;have m:∀y∈j.zip us,d.names.lookup y.1=some .local∨(d.names.lookup y.1=some .cell/\((cellsFrom (s.heap.objs.size+1) d.names []).lookup y.1).isSome=true):=λ⟨n,v⟩ hy=>by rcases S.par n (QA5 hy).1 with q|q;exact .inl q;exact .inr ⟨q,QAx _ _ _ (.inl q)⟩
 refine codeAny_call_function O.depth (KX _ _ lk) rfl S.co S.gen rfl (PySem.W.codeRec_of KX R) (hb _ _ _ _ ?_);refine wpAny_newFunctionEnv_cells S.kind m λenv he s1 x=>?_;subst he;refine⟨M.keeps x.toInCall.keep,codeAny_func ?_⟩;obtain⟨t,ht,hq⟩:=p A outer s H vs Q E (O.deeper _) Y;have I:Inv (kS l P w K mg base N g d f h A outer s H E) [] (MD N vs) H s1:=OV S O.hd Z hl r x;refine wN (ht [] s1 (MD N vs) H _ I hq) (λfl F X=>?_) λe F X=>X;have fin:∀{a:St}{i:Hp}{v:V}{u:Value},Inv (kS l P w K mg base N g d f h A outer s H E) [] a i F->rA v u->Q v i->CE outer P w H s Q u F :=
  λ{a i v u} J G q=>⟨v,i,J.os,J.bare,J.base,J.hok,G,q⟩
 cases fl with|ret u=>obtain⟨v,a,i,J,G,q⟩:=X;exact fin J G q|next=>obtain⟨a,i,J,q⟩:=X;exact fin (v:=V.non) (u:=Value.none) J rfl q|brk=>obtain⟨_,_,_,q⟩:=X;exact Qb q|cont=>obtain⟨_,_,_,q⟩:=X;exact Qb q
end
section
variable{X:Cx}{x:Str}{p pos:Pos}{e:Expr}{es:List Expr}{t:TA}{id T:String}{r:List V->Hp->VK->Prop}
def im(r:List V->Hp->VK->Prop)(t:TA):TE:=λh H Q=>t h H λy z=>r y z Q
theorem vP(hc:nF X (.builtin id) r)(j:Gl X x)(i:X.mg x=none)(hv:bootBuiltins x=some (.builtin id))(m:PA X (e::es) t)(g:x≠"__name__":=by decide)(u:(x==("__debug__":Str))=false:=by decide)
  (l:starEach (e::es) X.env=(false,eval e X.env)::starEach es X.env:=by rfl) (z:(backTo pos (starEach es X.env)).any (·.1)=false:=by rfl):PE X (.Call (.Name x p) (e::es) [] pos) (im r t):=by
 intro y s v H Q I h;refine qm (jF I j i hv ?_ g u);exact ww (LB (m pos y s v H _ I h) λk a ⟨w,o,n,b,f⟩=>hc y a v o w k Q n b f) l z
theorem bV(hc:nF X (.type T) r)(j:Gl X x)(i:X.mg x=none)(hv:bootBuiltins x=some (.type T))(m:PA X (e::es) t)(g:x≠"__name__":=by decide)(u:(x==("__debug__":Str))=false:=by decide)
  (l:starEach (e::es) X.env=(false,eval e X.env)::starEach es X.env:=by rfl) (z:(backTo pos (starEach es X.env)).any (·.1)=false:=by rfl):PE X (.Call (.Name x p) (e::es) [] pos) (im r t):=by
 intro y s v H Q I h;refine qm (jF I j i hv ?_ g u);exact qq (LB (m pos y s v H _ I h) λk a ⟨w,o,n,b,f⟩=>hc y a v o w k Q n b f) l z
end
end L2
namespace HT
open PySem PyProof.Rows
section
open PySem.SeqAt
open PySem.AutoSeq1 (wpAny_loadPart')
open PySem.MeetsSeq PySem.MeetsSeq2 PySem.MeetsSeq3
end
section
variable{prog:Program}{w:World}{A:Around}{E:AB}{s:Shared}
section
variable{t sl:Addr}{Q:AB}{a u:Value}{y z:Option Int}
theorem cat_tup{b:Addr}{vs ws:List Value}(q:IsTup s.heap t vs.toArray)(hb:IsTup s.heap b ws.toArray)(hv:vs≠[])
  (X:ws=[]->Q (.ref t) s) (r:ws≠[]->Q (.ref s.heap.objs.size) { s with heap:=s.heap.push { cls:=.type "tuple",data:=.seq (vs++ws).toArray } })
  (hsz:vs.length+ws.length<=sizeLine):wpAny (model prog w) A (binaryOp .Add (.ref t) (.ref b)) Q E s:=by
 obtain⟨⟨cls,o,data,sl⟩,i,hc,n,m⟩:=id q;obtain⟨⟨p,f,j,x⟩,h,k,l,v⟩:=id hb;simp only at hc m k v;subst hc m k v;have e:vs.toArray++ws.toArray=(vs++ws).toArray:=by simp
 by_cases g:ws=[];exact QB2 ⟨_,i,rfl⟩ ⟨_,h,rfl⟩ QCC seq_tuple_add QAy QAp (QAi _ _)
  (tuple_addW1 t b vs.toArray ws.toArray n l o f sl x (by simpa using hv) (by simp[g])) ⟨i,h,X g⟩
 refine QB2 ⟨_,i,rfl⟩ ⟨_,h,rfl⟩ QCC seq_tuple_add QAy QAp (QAi _ _)
  (tuple_addW2 t b vs.toArray ws.toArray n l o f sl x (by simpa using hv) (by simpa using g) (by rw[QT,QT];exact hsz)) ⟨i,h,?_⟩
 rw[e];exact r g
def sIx(n d:Nat):Option Int->Nat
 |none=>d|some v=>if v<0 then(v+(n:Int)).toNat else min v.toNat n
theorem Z8(n d:Nat)(h:d<=n)(o:Option Int):sIx n d o<=n:=by
 cases o with|none=>exact h|some v=>show(if v<0 then(v+(n:Int)).toNat else min v.toNat n)<=n;by_cases hv:v<0;rw[if_pos hv];omega;rw[if_neg hv];exact Nat.min_le_right _ _
theorem nU(v:Int)(n d:Nat):(if v<0 then max (v+(n:Int)) 0 else min v (n:Int))=((sIx n d (some v):Nat):Int):=by show(if v<0 then max (v+(n:Int)) 0 else min v (n:Int))=(((if v<0 then(v+(n:Int)).toNat else min v.toNat n):Nat):Int);by_cases hv:v<0;simp only[if_pos hv];omega;simp only[if_neg hv];omega
theorem YS(y z:Option Int)(n:Nat):WU y z 1 (n:Int)=(((sIx n 0 y:Nat):Int),((sIx n n z:Nat):Int)):=by
 have h:¬ ((1:Int)<0):=by omega
 unfold WU;simp only[h,if_false];refine QCZ ?_ ?_;cases y with|none=>rfl|some v=>exact nU v n 0
 cases z with|none=>rfl|some v=>exact nU v n n
theorem cR(i j:Nat):wa (i:Int) (j:Int) 1=j - i:=by
 unfold wa;have h:(1:Int) > 0:=by omega
 simp only[h,if_true,Int.ediv_one];split<;>omega
theorem SJ{v:Value}{o:Option Int}{Q:Option Int->Shared->Prop}(p:IsPart v o)(h:Q o s):wpAny (model prog w) A (Builtin.Slice.slicePartIndex v) Q E s:=by
 cases p with|none=>exact slicePart_none h|int i t=>exact slicePart_int h
theorem gI{n:Nat}{Q:Int×Int×Nat->Shared->Prop}(f:s.heap.IsSliceOf sl a u .none)(e:IsPart a y)(b:IsPart u z)
  (h:Q (((sIx n 0 y:Nat):Int),1,sIx n n z - sIx n 0 y) s):wpAny (model prog w) A (QAU (.ref sl) (pure (n:Int))) Q E s:=by
 obtain⟨i,v,g,k⟩:=id f;unfold QAU Builtin.Slice.sliceFields;refine QA (QA (wb v k (x:=a) rfl (QA (wb v k (x:=u) rfl (QA (wb v k (x:=.none) rfl (QJ ?_)))))));refine QA (slicePart_none ?_);show wpAny _ _ (if((1:Int)==0)=true then _ else _) _ _ s;rw[if_neg (by decide)];refine QA (SJ e (QA (SJ b (QA (QJ ?_)))));show wpAny _ _ (match WU y z 1 (n:Int) with | (y,z)=>pure (y,(1:Int),wa y z 1)) _ _ s;rw[YS y z n];show wpAny _ _ (pure (((sIx n 0 y:Nat):Int),(1:Int),wa ((sIx n 0 y:Nat):Int) ((sIx n n z:Nat):Int) 1)) _ _ s;rw[cR];exact QJ h
theorem XX(xs:Array Value)(i k:Nat):((qA k).filterMap λ(m:Nat)=>xs[((i:Int)+(m:Int) * 1).toNat]?).toArray=((xs.toList.drop i).take k).toArray:=by
 have e:(λ(m:Nat)=>xs[((i:Int)+(m:Int) * 1).toNat]?)=λm=>xs[i+m]?:=by
  funext m;have:((i:Int)+(m:Int) * 1).toNat=i+m:=by omega
  rw[this]
 rw[e];have:=pick_run xs i k;rw[List.filterMap_map]at this;have h:((λx=>xs[x]?)∘λx=>i+x)=λm=>xs[i+m]?:=rfl;rw[h]at this;rw[this]
theorem getItem_tuple_cut{x:Array Value}(k:IsTup s.heap t x)(i:s.heap.IsSliceOf sl a u .none)(l:IsPart a y)(j:IsPart u z)
  (o:¬ (sIx x.size 0 y=0/\sIx x.size x.size z=x.size))
  (h:Q (.ref s.heap.objs.size) { s with heap:=s.heap.push { cls:=.type "tuple",data:=.seq ((x.toList.drop (sIx x.size 0 y)).take (sIx x.size x.size z - sIx x.size 0 y)).toArray } })
  (hsz:x.size<=sizeLine):wpAny (model prog w) A (getItem (.ref t) (.ref sl)) Q E s:=by
 have v:sizeOk (.seq ((x.toList.drop (sIx x.size 0 y)).take (sIx x.size x.size z - sIx x.size 0 y)).toArray):=by show((x.toList.drop (sIx x.size 0 y)).take (sIx x.size x.size z - sIx x.size 0 y)).toArray.size<=sizeLine;rw[QT,qw,WZ,QX];omega
 have Y:sIx x.size x.size z<=x.size:=Z8 _ _ (QU _) z;obtain⟨n,b,f,p⟩:=id i;have g:s.TypeIs (.ref sl) "slice":=⟨n,b,f⟩
 unfold getItem
 try with_reducible refine qK ?_
 first|refine QA (QJ ?_)|skip
 refine QA (wpAny_sequenceKey k.typeIs (by decide) ?_);refine QA (qE (name:=Qh "__getitem__") k.typeIs wl
  (Q2 wl k.typeIs entry_tuple_getitem ?_ (args_tuple_getitem _ _)))
 show wpAny _ _ (Builtin.Tuple.tupleItemsOf (.ref t) >>= _) _ _ s;refine QA (tupleItemsOf_ k ?_);refine QA (Wf g ?_);rw[if_pos (by decide)];refine QA (gI i l j ?_);have e:¬ ((((sIx x.size 0 y:Nat):Int)==0&&(1:Int)==1&&(sIx x.size x.size z - sIx x.size 0 y)==x.size)=true):=by intro q;rw[Qg,Qg]at q;have X:((sIx x.size 0 y:Nat):Int)=0:=qh q.1.1;have r:sIx x.size x.size z - sIx x.size 0 y=x.size:=qh q.2;exact o ⟨by omega,by omega⟩
 show wpAny _ _ (if(((sIx x.size 0 y:Nat):Int)==0&&(1:Int)==1&&(sIx x.size x.size z - sIx x.size 0 y)==x.size)=true then _ else _) _ _ s;rw[if_neg e,XX];first
  |exact QA (m:=wm _) (Qs (QJ ⟨_,rfl,QJ h⟩) v)
  |exact QA (m:=wm _) (Qs (QA (QJ (QJ ⟨_,rfl,QJ h⟩))) v)
  |exact QA (QA (m:=wm _) (Qs (QJ (QJ ⟨_,rfl,QJ h⟩)) v))
  |exact QA (QA (m:=wm _) (Qs (QJ ⟨_,rfl,QJ h⟩) v))
end
end
end HT
namespace L2
open PySem PySem.Spec PyProof.Rows
noncomputable abbrev TO:=St->Hp->(Option Int->Hp->Prop)->Prop
def PO(X:Cx)(e:Option Expr)(t:TO):Prop :=
 ∀(h:NB) (s:Shared) (x:St) (H:Hp) (Q:Option Int->Hp->Prop),Inv X h x H s->t x H Q ->
  wpAny (model X.prog X.w) X.A (evalPart e X.env) (λu z=>∃o y,Inv X h x y z/\IsPart u o/\Q o y) X.xe s
def G1:TO:=λ_ H Q=>Q none H
def Rc(t:TE):TO:=λh H Q=>t h H λx y=>∃i,x=.int i/\Q (some i) y
section
variable{X:Cx}{e:Expr}{te:TE}{k c:Option Expr}{d f:TO}{pos p2:Pos}
theorem u3:PO X none G1:=by intro x s y H Q I h;rw[evalPart_none];exact QJ ⟨none,H,I,.none,h⟩
theorem x3(h:PE X e te):PO X (some e) (Rc te):=by intro y s z H Q I a;rw[evalPart_some];refine LB (h y s z H _ I a) λu j ⟨x,g,b,v,w⟩=>?_;obtain⟨i,rfl,q⟩:=w;obtain⟨t,rfl⟩:=v;exact⟨some i,g,b,.int i t,q⟩
def Bh(X:Cx)(r:V->Option Int->Option Int->Hp->VK->Prop):Prop :=
 ∀(h:NB) (s:Shared) (y:St) (H:Hp) (x:V) (v u z:Value) (k c:Option Int) (a:Addr) (Q:VK),Inv X h y H s->rA x v->s.heap.IsSliceOf a u z .none->IsPart u k->IsPart z c->r x k c H Q ->
  ∃T id,typeLookup (.type T) "__getitem__"=pure (some (.builtin id))/\s.TypeIs v T/\wpAny (model X.prog X.w) X.A (getItem v (.ref a)) (EP X h y Q) X.xe s
def zn(r:V->Option Int->Option Int->Hp->VK->Prop)(te:TE)(d f:TO):TE:=λh H Q=>te h H λx v=>d h v λl z=>f h z λu y=>r x l u y Q
theorem BX{r:V->Option Int->Option Int->Hp->VK->Prop}(E:Bh X r)(G:PE X e te)(hl:PO X k d)(B:PO X c f):PE X (.Subscript e (.Slice k c none p2) pos) (zn r te d f):=by intro y s a H Q I h;refine Subscript_ (LB (G y s a H _ I h) λv n ⟨x,R,O,o,Z⟩=>?_);refine wpAny_Slice (LB (hl y n a R _ O Z) λi m ⟨l,P,N,K,Y⟩=>LB (B y m a P _ N Y) λg z ⟨u,j,M,W,p⟩=>?_);rw[evalPart_none];refine QJ ?_;have L:Inv X y a j { z with heap:=z.heap.push { cls:=.type "slice",data:=.fields #[i,g,.none] } }:=M.kept (t':=z.toks) λb S q=>QH _ q;obtain⟨T,id,J,C,F⟩:=E y { z with heap:=z.heap.push { cls:=.type "slice",data:=.fields #[i,g,.none] } } a j x v i g l u z.heap.objs.size Q L o (Heap.IsSliceOf.new ..) K W p;show wpAny (model X.prog X.w) X.A (subscriptTail e (.Slice k c none p2) v (.ref z.heap.objs.size)) (EP X y a Q) X.xe { z with heap:=z.heap.push { cls:=.type "slice",data:=.fields #[i,g,.none] } };exact tail_any (ops:=[.ref z.heap.objs.size,v]) C J F (by with_unfolding_all rfl)
def cQ(xs:List V)(k c:Option Int):List V:=(xs.drop (HT.sIx xs.length 0 k)).take (HT.sIx xs.length xs.length c - HT.sIx xs.length 0 k)
theorem zJ(xs:List V)(k c:Option Int):(cQ xs k c).length<=xs.length:=by unfold cQ;rw[qw,WZ];omega
def Fd(K:QC):V->Option Int->Option Int->Hp->VK->Prop:=λx k c H Q=>∃a h,x=.ref a/\XC K H a h /\
 ¬ (HT.sIx h.length 0 k=0/\HT.sIx h.length h.length c=h.length)/\∀p,H p=none->Q (.ref p) (DA H p (.tup (cQ h k c)))
theorem n8:Bh X (Fd X.K):=by
 intro w s Z H x v A W k c B Q I j Y m l h;obtain⟨a,z,rfl,n,p,q⟩:=h;cases j;obtain⟨u,r,i,g⟩:=I.tuple n;have y:u.toArray.size=z.length:=by rw[QT];exact r.length.symm
 refine⟨"tuple",_,wl.lookup,i.typeIs,?_⟩;refine HT.getItem_tuple_cut i Y m l (by rw[y];exact p) ?_ (by rw[y];exact g);rw[y];refine⟨.ref s.heap.objs.size,_,I.laid (t':=s.toks) (o:=.tup (cQ z k c)) (λb C q=>QH _ q) (QU _) ?_,rfl,q _ (I.hok.fresh (QU _))⟩;exact⟨QZ (zJ z k c) g,_,(r.drop (HT.sIx z.length 0 k)).take (HT.sIx z.length z.length c - HT.sIx z.length 0 k),IsTup.new _ _⟩
def O6(K:QC):R2:=λx y H Q=>∃a b z h,x=.ref a/\y=.ref b/\XC K H a z/\XC K H b h/\z≠[]/\z.length+h.length<=sizeLine /\
 (h=[]->Q (.ref a) H)/\(h≠[]->∀p,H p=none->Q (.ref p) (DA H p (.tup (z++h))))
theorem dA.nil_iff{xs:List V}{us:List Value}(r:dA xs us):us=[]↔xs=[]:=by
 cases r with|nil=>simp|cons _ _=>simp
theorem E3:tF X (binaryOp .Add) (O6 X.K):=by intro j s F H x y v u Q I Y r h;obtain⟨a,b,p,n,rfl,rfl,E,hb,C,m,W,Z⟩:=h;cases Y;cases r;obtain⟨B,i,A,_⟩:=I.tuple E;obtain⟨l,g,p2,_⟩:=I.tuple hb;refine HT.cat_tup A p2 (λz=>C (i.nil_iff.mp z)) (λz=>⟨.ref a,H,I,rfl,W (g.nil_iff.mp z)⟩) (λz=>?_) (by rw[<- i.length,<- g.length];exact m);refine⟨.ref s.heap.objs.size,_,I.laid (t':=s.toks) (o:=.tup (p++n)) (λb G q=>QH _ q) (QU _) ?_,rfl,Z (λw=>z (g.nil_iff.mpr w)) _ (I.hok.fresh (QU _))⟩;exact⟨by rw[QL];exact m,_,i.append g,IsTup.new _ _⟩
end
def HP(n:Nat)(i:Int):Option Nat:=if 0<=i then(if i<n then some i.toNat else none) else if -(n:Int)<=i then some (i+n).toNat else none
def LD{α:Type}(xs:List α)(i:Int):Option α:=(HP xs.length i).bind λj=>xs[j]?
theorem CN{n:Nat}{i:Int}{j:Nat}(h:HP n i=some j):seqIndex? i n=some j/\j<n/\-(n:Int)<=i/\i<n:=by unfold HP at h;by_cases y:0<=i;rw[if_pos y]at h;by_cases x:i<n;rw[if_pos x]at h;have e:i.toNat=j:=qD h;exact⟨by rw[QCM y x,e],by omega,by omega,x⟩;rw[if_neg x]at h;cases h;rw[if_neg y]at h;by_cases x:-(n:Int)<=i;rw[if_pos x]at h;have e:(i+n).toNat=j:=qD h;exact⟨by rw[QB3 (by omega) x,e],by omega,x,by omega⟩;rw[if_neg x]at h;cases h
theorem fO{α:Type}{xs:List α}{i:Int}{v:α}(h:LD xs i=some v):∃j,seqIndex? i xs.length=some j/\xs[j]?=some v/\j<xs.length/\-(xs.length:Int)<=i/\i<xs.length:=by
 unfold LD at h;cases e:HP xs.length i with|none=>rw[e]at h;cases h|some j=>rw[e]at h;obtain⟨u,z,y,x⟩:=CN e;exact⟨j,u,h,z,y,x⟩
theorem bD{α:Type}{xs:List α}{j:Nat}{v:α}(h:xs[j]?=some v):LD xs (j:Int)=some v:=by
 have x:j<xs.length:=(Qe.mp h).1;have e:HP xs.length (j:Int)=some j:=by unfold HP;rw[if_pos (by omega),if_pos (by omega)];simp
 unfold LD;rw[e];exact h
def eU(b:Expr):Prop:=∀o i,subscripted b false o i=operate [o,i] (getItem o i)
def o0(X:Cx)(r:R2):Prop :=
 ∀(k h:Expr) (z:NB) (s:Shared) (a:St) (H:Hp) (x y:V) (v u:Value) (Q:VK),Inv X z a H s->rA x v->rA y u->r x y H Q ->
  subscripted h false v u=operate [v,u] (getItem v u)->wpAny (model X.prog X.w) X.A (subscriptTail k h v u) (EP X z a Q) X.xe s
def Yc(X:Cx)(id:String)(r:V->List V->Hp->VK->Prop):Prop :=
 ∀(h:NB) (s:Shared) (y:St) (H:Hp) (x:V) (z:List V) (v:Value) (u:List Value) (Q:VK),Inv X h y H s->rA x v->dA z u->r x z H Q ->
  wpAny (model X.prog X.w) X.A (call (.builtin id) (v::u)) (EP X h y Q) X.xe s
section
variable{X:Cx}{a b:Expr}{ta m:TE}{pos:Pos}
section
variable{d:NB}{s:Shared}{x:V}{u v:Value}
theorem o0.or{r g:R2}(h:o0 X r)(h':o0 X g):o0 X (λx y H Q=>r x y H Q∨g x y H Q):=by intro z w d s k H x y v u Q I f e q i;rcases q with q|q;exact h z w d s k H x y v u Q I f e q i;exact h' z w d s k H x y v u Q I f e q i
theorem A6{r:R2}(g:o0 X r)(i:PE X a ta)(hb:PE X b m)(f:eU b):PE X (.Subscript a b pos) (Sc r ta m):=by intro d s z H Q I h;exact Subscript_ (binT i hb I h λv u w x y l j e k q=>g a b d w z l x y v u Q j e k q (f _ _))
def Ad(K:QC):R2:=λx y H Q=>∃p h i v,x=.ref p/\y=.int i/\yC K H p h/\LD h i=some v/\Q v H
def Sd(K:QC):R2:=λx y H Q=>∃p h i v,x=.ref p/\y=.int i/\XC K H p h/\LD h i=some v/\Q v H
def Td:R2:=λx y H Q=>∃z i c,x=.str z/\y=.int i/\z.length<=sizeLine/\LD z.cps.toList i=some c/\Q (.str ⟨#[c]⟩) H
theorem X5:o0 X (Ad X.K):=by
 intro e f d s Y H x y v u Q I E C h Z;obtain⟨p,N,i,z,rfl,rfl,F,G,q⟩:=h;cases E;obtain⟨t,rfl⟩:=C;obtain⟨n,r,l,O⟩:=I.list F;obtain⟨j,k,M,R,L,J⟩:=fO G;obtain⟨w,A,g⟩:=r.get M;have hl:=r.length;have P:=vH;have fin:EP X d Y Q w s:=⟨z,H,I,g,q⟩
 by_cases W:0<=i;have o:i.toNat=j:=by rw[QCM W J]at k;exact qD k
 exact item_listR l.isList W (by omega) (by rw[o];simpa using A) fin Z;have o:(i+(n.toArray.size:Int)).toNat=j:=by rw[QB3 (by omega) L]at k;rw[QT,<- hl];exact qD k
 exact WI (x:=w) l.isList.typeIs QBq.lookup
  (wpAny_getItem_list_neg (Q:=λr B=>r=w/\EP X d Y Q r B) l.isList (by omega) (by rw[QT]<;>omega) (by omega) (by rw[o];simpa using A) ⟨rfl,fin⟩) Z
theorem ca:o0 X (Sd X.K):=by
 intro k e d s g H x y v u Q I Y o h W;obtain⟨p,G,i,z,rfl,rfl,A,B,q⟩:=h;cases Y;obtain⟨t,rfl⟩:=o;obtain⟨Z,r,l,J⟩:=I.tuple A;obtain⟨j,E,C,O,N,M⟩:=fO B;obtain⟨w,F,f⟩:=r.get C;have hl:=r.length;have L:=vH;have fin:EP X d g Q w s:=⟨z,H,I,f,q⟩
 exact WI (x:=w) l.typeIs slot_tuple_getitem.lookup
  (getItem_tuple (j:=j) (Q:=λr n=>r=w/\EP X d g Q r n) l (by omega) (by omega) (by rw[QT,<- hl];exact E) (by simpa using F) ⟨rfl,fin⟩) W
theorem da:o0 X Td:=by
 intro w k d s W H x y v u Q I g f h l;obtain⟨z,i,c,rfl,rfl,A,n,q⟩:=h;obtain⟨t,rfl⟩:=g;obtain⟨K,rfl⟩:=f;obtain⟨j,e,r,C,p,o⟩:=fO n;have hl:z.cps.toList.length=z.length:=by simp[Str.length]
 rw[hl]at e p o;have B:=vH;exact tail_any (QCW s z t) slot_str_getitem.lookup (getItem_str (c:=c) (by have Z:decide (i < -(2 ^ 63:Int))=false:=dF (by omega);have Y:decide (i ≥ 2 ^ 63)=false:=dF (by omega);rw[Z,Y,Bool.or_false]) (by rw[e];simpa using r) ⟨.str ⟨#[c]⟩,H,I.tok _,⟨_,rfl⟩,q⟩) l
def on(K:QC):R2:=λx y H Q=>Ad K x y H Q∨Sd K x y H Q∨Td x y H Q
theorem ga:o0 X (on X.K):=X5.or (ca.or da)
theorem XR(its:List Value)(n j:Nat)(u:Value):qJ (·.setIfInBounds j u) { cls:=.type "list",data:=.seq its.toArray n }={ cls:=.type "list",data:=.seq (its.set j u).toArray n }:=by simp[qJ]
theorem Inv.lst{d:NB}{σ:St}{H:Hp}{s:Shared}{p:Addr}{xs:List V}(I:Inv X d σ H s)(h:H p=some (.lst xs)) :
  ∃(its:List Value) (n:Nat),dA xs its/\s.heap.get? p=some { cls:=.type "list",data:=.seq its.toArray n }/\xs.length<=sizeLine:=by
 obtain⟨z,its,n,r,e⟩:=I.hok p _ h;exact⟨its,n,r,e,z⟩
theorem Inv.lstUpd{σ:St}{H:Hp}{p:Addr}{xs y:List V}{its its':List Value}{n z:Nat}{f:Obj->Obj}(I:Inv X d σ H s)(h:H p=some (.lst xs))
  (k:s.heap.get? p=some { cls:=.type "list",data:=.seq its.toArray n }) (w:f { cls:=.type "list",data:=.seq its.toArray n }={ cls:=.type "list",data:=.seq its'.toArray z }) (r:dA y its') (hz:y.length<=sizeLine) (t:Nat) :
  Inv X d σ (DA H p (.lst y)) { s with heap:=s.heap.update p f,toks:=t }:=by
 have e:(s.heap.update p f).get? p=some { cls:=.type "list",data:=.seq its'.toArray z }:=by rw[Q3 f k (by rw[w]<;>rfl),w]
 refine I.write (x:=p) (e:=p) (by rw[h];trivial) (.inl rfl) (λb u hb q=>(Q8 _ _ (Q1 hb)).trans q) ⟨_,e⟩ ?_;exact⟨hz,its',z,r,e⟩
def Hd:V->V->V->Hp->(Hp->Prop)->Prop:=λo i v H Q=>∃p h k j,o=.ref p/\i=.int k/\H p=some (.lst h)/\HP h.length k=some j/\Q (DA H p (.lst (h.set j v)))
theorem xX:J6 X Hd:=by
 intro d s Z H o i v G J u Q I B C A h;obtain⟨p,K,k,j,rfl,rfl,e,F,q⟩:=h;cases B;obtain⟨t,rfl⟩:=C;obtain⟨y,n,r,w,E⟩:=I.lst e;obtain⟨z,M,g,f⟩:=CN F;have hl:=r.length;have L:=vH;have Y:Inv X d Z (DA H p (.lst (K.set j v))) { s with heap:=s.heap.update p (qJ (·.setIfInBounds j u)) } :=
  I.lstUpd e w (XR y n j u) (r.set A j) (by rw[qU];exact E) s.toks
 by_cases l:0<=k;have hk:k.toNat=j:=by rw[QCM l f]at z;exact qD z
 exact PySem.W.ki_setAt w l (by omega) (by rw[QT,<- hl];exact f) (by rw[hk];exact⟨_,Y,q⟩);have hk:(k+(y.toArray.size:Int)).toNat=j:=by rw[QB3 (by omega) g]at z;rw[QT,<- hl];exact qD z
 exact PySem.W.ki_setBack w (by omega) (by rw[QT,<- hl];exact g) (by omega) (by rw[hk];exact⟨_,Y,q⟩)
theorem EM(y z:Option Int)(n:Nat):(sliceBounds y z none n).1=((HT.sIx n 0 y:Nat):Int)/\(sliceBounds y z none n).2.1=((HT.sIx n n z:Nat):Int)/\(sliceBounds y z none n).2.2=1:=by
 refine⟨?_,?_,rfl⟩;cases y with|none=>simp[sliceBounds,HT.sIx]|some i=>simp only[sliceBounds,HT.sIx,QCD,show(1:Int) > 0 by decide,if_true];by_cases h:i<0;simp only[h,if_true]<;>omega;simp only[h,if_false]<;>omega
 cases z with|none=>simp[sliceBounds,HT.sIx]|some i=>simp only[sliceBounds,HT.sIx,QCD,show(1:Int) > 0 by decide,if_true];by_cases h:i<0;simp only[h,if_true]<;>omega;simp only[h,if_false]<;>omega
theorem rL(its:List Value)(h y:Option Int):slicePick its.toArray h y none=((its.drop (HT.sIx its.length 0 h)).take (HT.sIx its.length its.length y - HT.sIx its.length 0 h)).toArray:=by obtain⟨k,w,z⟩:=EM h y its.toArray.size;unfold slicePick;rw[k,w,z];simp only[sliceRange_one,pick_run,QT]<;>rfl
def Gd(K:QC):V->Option Int->Option Int->Hp->VK->Prop:=λx y z H Q=>∃a h,x=.ref a/\yC K H a h/\∀p,H p=none->Q (.ref p) (DA H p (.lst (cQ h y z)))
theorem y2:Bh X (Gd X.K):=by intro d s Y H x v W Z w k A Q I f p i g h;obtain⟨a,y,rfl,n,q⟩:=h;cases f;obtain⟨j,r,e,l⟩:=I.list n;have z:=r.length;refine⟨"list",_,QBq.lookup,e.isList.typeIs,?_⟩;refine wpAny_getItem_list_slice e.isList p i g .none (by simp) ?_ (by rw[QT]<;>omega);rw[rL,<- z];refine⟨.ref s.heap.objs.size,_,I.laid (t':=s.toks) (o:=.lst (cQ y w k)) (λb B q=>QH _ q) (QU _) ?_,rfl,q _ (I.hok.fresh (QU _))⟩;exact⟨QZ (zJ y w k) l,_,0,(r.drop (HT.sIx y.length 0 w)).take (HT.sIx y.length y.length k - HT.sIx y.length 0 w),QN _ rfl⟩
def OF:V->Bool
 | .non=>true|.bl _=>true|.int _=>true|.str _=>true|_=>false
def A5:V->V->Bool
 | .non,.non=>true|.bl a,.bl b=>a==b|.bl a,.int b=>(if a then 1 else 0)==b|.int a,.bl b=>a==(if b then 1 else 0)|.int a,.int b=>a==b|.str a,.str b=>a==b|_,_=>false
theorem Ca{A:Around}{y:V}(w:rA y u)(h:rA x v)(k:OF y=true)(fx:OF x=true):qz A s u v (A5 y x):=by
 cases y with
 |non =>
  cases w;cases x with|non=>cases h;exact qz.same _|bl b=>cases h;exact qz.none_bool b|int b=>obtain⟨t,rfl⟩:=h;exact qz.none_int b t|str b=>obtain⟨t,rfl⟩:=h;exact qz.none_str b t|_=>exact absurd (show false=true from fx) QD
 |bl a =>
  cases w;cases x with|non=>cases h;exact qz.bool_none a|bl b=>cases h;exact qz.bool_bool a b|int b=>obtain⟨t,rfl⟩:=h;exact qz.bool_int a b t|str b=>obtain⟨t,rfl⟩:=h;exact qz.bool_str a b t|_=>exact absurd (show false=true from fx) QD
 |int a =>
  obtain⟨z,rfl⟩:=w;cases x with|non=>cases h;exact qz.int_none a z|bl b=>cases h;exact qz.int_bool a z b|int b=>obtain⟨t,rfl⟩:=h;exact qz.int_int a z b t|str b=>obtain⟨t,rfl⟩:=h;exact QBa a z b t|_=>exact absurd (show false=true from fx) QD
 |str a =>
  obtain⟨z,rfl⟩:=w;cases x with|non=>cases h;exact qz.str_none a z|bl b=>cases h;exact qz.str_bool a z b|int b=>obtain⟨t,rfl⟩:=h;exact QBb a z b t|str b=>obtain⟨t,rfl⟩:=h;exact qz.str_str a z b t|_=>exact absurd (show false=true from fx) QD
 |_=>exact absurd (show false=true from k) QD
def yS(x:V)(u:Value):Bool:=match u with
 | .none=>A5 .non x|.bool b=>A5 (.bl b) x|.int i _=>A5 (.int i) x|.str z _=>A5 (.str z) x|_=>false
theorem pZ{y:V}(r:rA y u)(f:OF y=true):yS x u=A5 y x:=by
 cases y with|non=>cases r;rfl|bl b=>cases r;rfl|int i=>obtain⟨t,rfl⟩:=r;rfl|str z=>obtain⟨t,rfl⟩:=r;rfl|_=>exact absurd (show false=true from f) QD
theorem AH{x:V}:∀{xs:List V}{us:List Value},dA xs us->xs.all OF=true->us.any (yS x)=xs.any λy=>A5 y x
 |_,_,.nil,_=>rfl|y::xs,u::us,.cons r t,f=>by rw[qr,Qg]at f;rw[WP,WP,pZ r f.1,AH t f.2]
theorem GF{A:Around}{s:Shared}{x:V}{v:Value}(z:rA x v)(fx:OF x=true):∀{xs:List V}{us:List Value},dA xs us->xs.all OF=true->∀u∈us,qz A s u v (yS x u)
 |_,_,.nil,_=>λu h=>by cases h|y::xs,u::us,.cons r t,f=>λw h=>by rw[qr,Qg]at f;rcases QK.mp h with rfl|h;rw[pZ r f.1];exact Ca r z f.1 fx;exact GF z fx t f.2 w h
def inV(x:V)(xs:List V):Bool:=xs.any λy=>A5 y x
def Di(K:QC)(neg:Bool):R2:=λx y H Q=>∃p h,y=.ref p/\(yC K H p h∨XC K H p h)/\OF x=true/\h.all OF=true/\Q (.bl (if neg then !inV x h else inV x h)) H
theorem lV:tF X (compareOp .In) (Di X.K false):=by intro d s l H x y v u Q I g i h;obtain⟨p,n,rfl,k,fx,fs,q⟩:=h;cases i;rcases k with k|k;obtain⟨z,r,e,j⟩:=I.list k;refine SeqAt.in_listAt (yS x) e.isList (λw f=>GF g fx r fs w (by simpa using f)) ⟨.bl _,H,I,rfl,?_⟩;rw[show z.toArray.any (yS x)=z.any (yS x) by simp,AH r fs];exact q;obtain⟨z,r,e,j⟩:=I.tuple k;refine SeqAt.in_tupleAt (yS x) e (λw f=>GF g fx r fs w (by simpa using f)) ⟨.bl _,H,I,rfl,?_⟩;rw[show z.toArray.any (yS x)=z.any (yS x) by simp,AH r fs];exact q
theorem oN:tF X (compareOp .NotIn) (Di X.K true):=by intro d s l H x y v u Q I g i h;obtain⟨p,n,rfl,k,fx,fs,q⟩:=h;cases i;rcases k with k|k;obtain⟨z,r,e,j⟩:=I.list k;refine SeqAt.notIn_listAt (yS x) e.isList (λw f=>GF g fx r fs w (by simpa using f)) ⟨.bl _,H,I,rfl,?_⟩;rw[show z.toArray.any (yS x)=z.any (yS x) by simp,AH r fs];exact q;obtain⟨z,r,e,j⟩:=I.tuple k;refine SeqAt.notIn_tupleAt (yS x) e (λw f=>GF g fx r fs w (by simpa using f)) ⟨.bl _,H,I,rfl,?_⟩;rw[show z.toArray.any (yS x)=z.any (yS x) by simp,AH r fs];exact q
theorem xO:nF X (.builtin "len") (λxs H Q=>∃p z,xs=[.ref p]/\(yC X.K H p z∨XC X.K H p z)/\Q (.int z.length) H):=by intro d s j H xs l Q I r h;obtain⟨p,z,rfl,w,q⟩:=h;obtain⟨u,rfl,g⟩:=RI r;cases g;have n:=vH;rcases w with w|w;obtain⟨f,k,e,i⟩:=I.list w;have y:=k.length;exact Calls.call_len_list e.isList (by simp only[QT]<;>omega) ⟨.int z.length,H,I.tok _,⟨s.toks+1,by rw[QT,y]⟩,q⟩;obtain⟨f,k,e,i⟩:=I.tuple w;have y:=k.length;exact len_tuple e (by simp only[QT]<;>omega) ⟨.int z.length,H,I.tok _,⟨s.toks+1,by rw[QT,y]⟩,q⟩
theorem vO:nF X (.builtin "len") (λxs H Q=>∃z,xs=[.str z]/\z.length<=sizeLine/\Q (.int z.length) H):=by intro d s y H xs w Q I r h;obtain⟨z,rfl,k,q⟩:=h;obtain⟨u,rfl,t,rfl⟩:=RI r;have e:=vH;exact len_str (by omega) ⟨.int z.length,H,I.tok _,⟨_,rfl⟩,q⟩
theorem kO:nF X (.type "list") (λxs H Q=>∃p k,xs=[.ref p]/\(yC X.K H p k∨XC X.K H p k)/\∀l,H l=none->Q (.ref l) (DA H l (.lst k))):=by
 intro d s E H xs G Q I r h;obtain⟨p,k,rfl,Y,q⟩:=h;obtain⟨u,rfl,F⟩:=RI r;cases F;have fin:∀(y:List Value),dA k y->k.length<=sizeLine->∀(z:Heap) (g:Nat),(∀b C,s.heap.get? b=some C->z.get? b=some C) ->
   z.get? s.heap.objs.size=some { cls:=.type "list",dict:=none,data:=.seq y.toArray g,slots:=#[] }->EP X d E Q (.ref s.heap.objs.size) { s with heap:=z }:=λy f j z g i e =>
  ⟨.ref s.heap.objs.size,_,I.laid (t':=s.toks) i (QU _) (show LA X.prog X.w _ z _ (.lst k) from⟨j,y,g,f,e⟩),rfl,q _ (I.hok.fresh (QU _))⟩
 rcases Y with Y|Y;obtain⟨y,f,W,j⟩:=I.list Y;have Z:=f.length;obtain⟨o,A,hc,n,B⟩:=W.isList;exact call_list_seq p (.inl rfl) A hc B (λz g i e=>fin y f j z g i e) (by simp only[QT]<;>omega);obtain⟨y,f,W,j⟩:=I.tuple Y;have Z:=f.length;obtain⟨o,A,hc,n,B⟩:=W;exact call_list_seq p (.inr rfl) A hc B (λz g i e=>fin y f j z g i e) (by simp only[QT]<;>omega)
def HS(K:QC)(T:String)(x:V)(H:Hp):Prop:=match x with
 | .str _=>T="str"|.int _=>T="int"|.ref p=>(T="list"/\∃y,yC K H p y)∨(T="tuple"/\∃o,K.lookup p=some o/\o.cls=.type "tuple"/\o.dict=none) ∨
   (T="dict"/\((∃h,H p=some (.dK h))∨∃z h,H p=some (.dT z h)))∨(T="set"/\∃S n,H p=some (.set S n))
 |_=>False
theorem XW{σ:St}{H:Hp}{T:String}(I:Inv X d σ H s)(r:rA x v)(ty:HS X.K T x H) :
  s.TypeIs v T/\∀a,v=.ref a->∃g,s.heap.get? a=some g/\g.dict=none:=by
 cases x with
 |str z=>obtain⟨t,rfl⟩:=r;cases(show T="str" from ty);exact⟨QCW s z t,λ_ e=>nomatch e⟩
 |int i=>obtain⟨t,rfl⟩:=r;cases(show T="int" from ty);exact⟨QCX s i t,λ_ e=>nomatch e⟩
 |ref p =>
  cases r;rcases ty with⟨rfl,q,l⟩| ⟨rfl,o,hk,hc,w⟩| ⟨rfl,hk⟩| ⟨rfl,S,n,hk⟩
  obtain⟨j,_,f,_⟩:=I.list l;refine⟨f.isList.typeIs,λa e=>?_⟩;cases e;obtain⟨o,n,e,c,w,_⟩:=f;exact⟨o,e,w⟩;refine⟨⟨o,I.kIn p o hk,hc⟩,λa e=>?_⟩;cases e;exact⟨o,I.kIn _ o hk,w⟩;have z:∃o,s.heap.get? p=some o/\o.ExactDict:=by
   rcases hk with⟨y,hk⟩| ⟨Y,y,hk⟩
   obtain⟨_,_,_,_,o,_,_,e,h,_⟩:=I.hok p _ hk;exact⟨o,e,h⟩;obtain⟨_,_,_,_,o,_,e,h,_⟩:=I.hok p _ hk;exact⟨o,e,h⟩
  obtain⟨o,e,h⟩:=z;refine⟨⟨o,e,h.1⟩,λa k=>?_⟩;cases k;exact⟨o,e,h.2.1⟩;obtain⟨o,_,_,_,e,h,_⟩:=I.hok p _ hk;refine⟨⟨o,e,h.1⟩,λa k=>?_⟩;cases k;exact⟨o,e,h.2.1⟩
 |_=>exact Qb ty
def vi(K:QC)(T:String)(r:V->List V->Hp->VK->Prop)(g:TE):TE:=λy H Q=>g y H λx h=>HS K T x h/\r x [] h Q
def xn(K:QC)(T:String)(r:V->List V->Hp->VK->Prop)(g:TE)(t:TA):TE:=λh H Q=>g h H λx y=>HS K T x y/\t h y λz w=>r x z w Q
end
variable{o e:Expr}{es:List Expr}{g:TE}{t:TA}{name:Str}{apos cpos:Pos}{T id:String}{r:V->List V->Hp->VK->Prop}
theorem x9(p:PlainAttrs T)(w:Slot T name id)(k:typeOf (.builtin id)=pure (.type "method_descriptor"))(Y:Yc X id r)(q:PE X o g)
  (u:attributeBase o name X.env (eval o X.env)=eval o X.env:=by rfl) (z:(apos.endLine==cpos.line)=true:=by rfl):PE X (.Call (.Attribute o name apos) [] [] cpos) (vi X.K T r g):=by
 intro y s f H Q I h;refine QAq u z (LB (q y s f H _ I h) λv l ⟨x,A,j,i,ty,n⟩=>?_);obtain⟨W,Z⟩:=XW j i ty;exact⟨T,id,p,w,k,W,Z,Wo rfl (QBR (Y y l f A x [] v [] Q j i .nil n))⟩
theorem ue(E:PlainAttrs T)(k:Slot T name id)(j:typeOf (.builtin id)=pure (.type "method_descriptor"))(J:Yc X id r)(G:PE X o g)(L:PA X (e::es) t)
  (w:attributeBase o name X.env (eval o X.env)=eval o X.env:=by rfl)
  (f:((backTo cpos (starEach (e::es) X.env)).all (λx=>!x.1)&&(backToKw cpos (keywordEach [] X.env)).all (λx=>x.1.isSome)
   && decide ((e::es).length+([]:List Keyword).length+(if([]:List Keyword).isEmpty then 0 else 1)<30))=true:=by rfl)
  (u:(apos.endLine==cpos.line)=true:=by rfl) (F:starEach (e::es) X.env=(false,eval e X.env)::starEach es X.env:=by rfl) (z:(backTo cpos (starEach es X.env)).any (·.1)=false:=by rfl) :
  PE X (.Call (.Attribute o name apos) (e::es) [] cpos) (xn X.K T r g t):=by
 intro y s i H Q I h;refine wpAny_Call_method_late w f u rfl (LB (G y s i H _ I h) λv W ⟨x,R,p,l,ty,C⟩=>?_);obtain⟨N,M⟩:=XW p l ty;refine⟨T,id,E,k,j,N,M,?_⟩;have n:=L cpos y W i R _ p C;rw[F]at n ⊢;refine Wo (by show(false||(backTo cpos (starEach es X.env)).any (·.1))=false;rw[z]<;>rfl) (Calls.evalArgs_plain ?_);exact LB n λY Z ⟨q,P,O,A,B⟩=>J y Z i P x q v Y Q O l A B
end
def Tl(X:Cx)(id:String)(r:V->List V->Hp->VK->Prop):Prop :=
 ∀(h:NB) (s:Shared) (y:St) (H:Hp) (x:V) (z:List V) (v:Value) (u:List Value) (Q:VK),Inv X h y H s->rA x v->dA z u->r x z H Q ->
  wpAny (model X.prog X.w) X.A (call (.builtin id) (v::u)) (EP X h y Q) X.xe s
theorem dA.one:∀{x:V}{us:List Value},dA [x] us->∃u,us=[u]/\rA x u
 |_,_,.cons r .nil=>⟨_,rfl,r⟩
theorem dA.zero:∀{us:List Value},dA [] us->us=[]
 |_,.nil=>rfl
theorem dA.eraseIdx:∀{xs:List V}{us:List Value}(i:Nat),dA xs us->dA (xs.eraseIdx i) (us.eraseIdx i)
 |_,_,_,.nil=>.nil|_,_,0,.cons _ t=>t|_,_,i+1,.cons r t=>.cons r (dA.eraseIdx i t)
theorem dA.reverse{xs:List V}{us:List Value}(h:dA xs us):dA xs.reverse us.reverse:=by
 induction h with|nil=>exact .nil|cons r t x=>rw[Ws,Ws];exact dA.append x (.cons r .nil)
theorem dA.rep{xs:List V}{us:List Value}(h:dA xs us):∀k:Nat,dA (Qx k xs).flatten (Qx k us).flatten
 |0=>.nil|k+1=>by rw[wA,wA,wB,wB];exact dA.append h (dA.rep h k)
theorem Ba{α:Type}(l:List α):l.eraseIdx (l.length - 1)=l.dropLast:=by
 induction l with
 |nil=>rfl|cons a r h =>
  cases r with
  |nil=>rfl|cons b r =>
   have e:(a::b::r).length - 1=((b::r).length - 1)+1:=by have y:(a::b::r).length=r.length+2:=rfl;have x:(b::r).length=r.length+1:=rfl;omega
   rw[e,List.eraseIdx_cons_succ,h]
   all_goals rfl
theorem xM{α:Type}:∀(l:List α) (i:Nat),(l.eraseIdx i).length<=l.length
 |[],_=>QU _|_::_,0=>wR _|_::r,i+1=>Nat.succ_le_succ (xM r i)
theorem gM(its:List Value):∀(k:Nat) (h:List Value),
  QCY (λy x=>y++x) h.toArray (Qx k its.toArray)=(h++(Qx k its).flatten).toArray
 |0,h=>by simp|k+1,h=>by
  have e:h.toArray++its.toArray=(h++its).toArray:=by simp
  have z:(h++its)++(Qx k its).flatten=h++(Qx (k+1) its).flatten:=by rw[wA,wB,qN]
  rw[<- z,<- gM its k (h++its),<- e,wA,WL]
section
variable{X:Cx}{y:NB}{σ:St}{H:Hp}{s:Shared}{l b:Addr}{xs v w:List V}
theorem Inv.lset{its its':List Value}{n:Nat}{f:Array Value->Array Value}{t':Nat}(I:Inv X y σ H s)(k:H l=some (.lst xs))
  (e:s.heap.get? l=some { cls:=.type "list",data:=.seq its.toArray n }) (z:f its.toArray=its'.toArray) (hv:dA v its') (hz:v.length<=sizeLine) :
  Inv X y σ (DA H l (.lst v)) { s with heap:=s.heap.update l (qJ f),toks:=t' }:=by
 have q:=PySem.IsL.update e f;rw[z]at q;refine I.write (x:=l) (e:=l) (by rw[k];exact trivial) (.inl rfl) (λa u hb h=>(Q8 s.heap (qJ f) (Q1 hb)).trans h) ⟨_,q⟩ ?_;exact⟨hz,its',_,hv,q⟩
theorem Inv.lnew{its:List Value}{t':Nat}(I:Inv X y σ H s)(hv:dA v its)(hz:v.length<=sizeLine) :
  Inv X y σ (DA H s.heap.objs.size (.lst v)) { s with heap:=s.heap.push { cls:=.type "list",data:=.seq its.toArray },toks:=t' } :=
 I.laid (λ_ _ q=>QH _ q) (QU _) ⟨hz,its,0,hv,QN _ rfl⟩
theorem Inv.fresh(I:Inv X y σ H s):H s.heap.objs.size=none:=I.hok.fresh (QU _)
theorem Inv.lstM(I:Inv X y σ H s)(h:H l=some (.lst xs)):xs.length<=sizeLine/\∃(its:List Value) (n:Nat),dA xs its/\xs.length=its.length/\s.heap.get? l=some { cls:=.type "list",data:=.seq its.toArray n }:=by obtain⟨z,its,n,r,e⟩:=I.hok l _ h;exact⟨z,its,n,r,r.length,e⟩
theorem oY{n:Nat}(h:n<=sizeLine):Wg n=false:=by unfold Wg;exact dF (by omega)
end
section
variable{X:Cx}
def eJ:V->List V->Hp->VK->Prop:=λx z H Q=>∃l h y,x=.ref l/\z=[y]/\H l=some (.lst h)/\h.length<sizeLine/\Q .non (DA H l (.lst (h++[y])))
theorem XV:Tl X "list.append" eJ:=by intro k s i H x m v o Q I b f h;obtain⟨l,j,y,rfl,rfl,a,p,q⟩:=h;cases b;obtain⟨u,rfl,g⟩:=f.one;obtain⟨z,w,n,r,hl,e⟩:=I.lstM a;refine QAL F.slot_list_append ⟨_,e,rfl⟩ F.entry_list_append (F.args_list_append_2 _ _) (PySem.list_append l w.toArray n u (by rw[QT];omega)) ⟨e,?_⟩;refine⟨.non,_,I.lset (its':=w++[u]) a e (by simp) (r.append (.cons g .nil)) ?_,rfl,q⟩;rw[QL,Ql];omega
def U8:V->List V->Hp->VK->Prop:=λx z H Q=>∃l h i k y,x=.ref l/\z=[.int i]/\H l=some (.lst h)/\-(2 ^ 63)<=i/\i<2 ^ 63/\seqIndex? i h.length=some k/\h[k]?=some y/\Q y (DA H l (.lst (h.eraseIdx k)))
theorem XY:Tl X "list.pop" U8:=by
 intro f s A H x B v C Q I m o h;obtain⟨l,j,i,k,y,rfl,rfl,g,K,W,hk,Y,q⟩:=h;cases m;obtain⟨u,rfl,p⟩:=o.one;obtain⟨t,rfl⟩:=p;obtain⟨z,a,n,r,hl,e⟩:=I.lstM g;obtain⟨w,Z,b⟩:=r.get Y;refine QAL F.slot_list_pop ⟨_,e,rfl⟩ F.entry_list_pop (F.args_list_pop_2 _ _)
  (MeetsSeq.list_pop_at l a.toArray n i t k w (fitsIndex_both K W) (by rw[QT,<- hl];exact hk) (by rw[<- wH];exact Z) (by rw[QT];omega)) ⟨e,?_⟩
 refine⟨y,_,I.lset (its':=a.eraseIdx k) g e ?_ (r.eraseIdx k) ?_,b,q⟩;show a.toArray.eraseIdxIfInBounds k=(a.eraseIdx k).toArray;rw[List.eraseIdxIfInBounds_toArray];have:=xM j k;omega
def yP:V->List V->Hp->VK->Prop:=λx y H Q=>∃l h,x=.ref l/\y=[]/\H l=some (.lst h)/\Q .non (DA H l (.lst h.reverse))
theorem ZR:Tl X "list.reverse" yP:=by intro w s f H x i v j Q I a b h;obtain⟨l,g,rfl,rfl,k,q⟩:=h;cases a;have u:=b.zero;subst u;obtain⟨z,y,n,r,hl,e⟩:=I.lstM k;refine QAL F.slot_list_reverse ⟨_,e,rfl⟩ F.entry_list_reverse (F.args_list_reverse_1 _) (AutoSeq1.list_reverse_list_0 l y.toArray n (by rw[QT];omega)) ⟨e,?_⟩;refine⟨.non,_,I.lset (its':=y.reverse) k e (by simp) r.reverse ?_,rfl,q⟩;rw[List.length_reverse];omega
def Ld:R2:=λx y H Q=>∃l k h,x=.ref l/\y=.int k/\H l=some (.lst h)/\-(2 ^ 63)<=k/\k<2 ^ 63/\h.length * k.toNat<=sizeLine /\
 ∀p,H p=none->Q (.ref p) (DA H p (.lst (Qx k.toNat h).flatten))
theorem m5{α:Type}(xs:List α)(k:Nat):(Qx k xs).flatten.length=k * xs.length:=by
 induction k with|zero=>simp|succ k h=>rw[wA,wB,QL,h,Nat.succ_mul,Nat.add_comm]
theorem c9:tF X (binaryOp .Mult) Ld:=by
 intro Y s J H x y v u Q I A K h;obtain⟨l,k,L,rfl,rfl,B,E,C,Z,q⟩:=h;cases A;obtain⟨t,rfl⟩:=K;obtain⟨z,w,n,r,hl,e⟩:=I.lstM B;have g:w.toArray.size * k.toNat<=sizeLine:=by rw[QT,<- hl];exact Z
 have j:¬ w.toArray.size * k.toNat > (2 ^ 63 - 1) / 8:=by
  have:(sizeLine:Nat)<=(2 ^ 63 - 1) / 8:=by decide
  omega
 have i:¬ (!Builtin.List.listFitsIndex k)=true:=by rw[fitsIndex_both E C];exact QD
 have b:¬ Wg (w.toArray.size * k.toNat)=true:=by rw[oY g];exact QD
 have f:QCY (λp o=>p++o) #[] (Qx (if w.toArray.isEmpty=true then 0 else k.toNat) w.toArray)=(Qx k.toNat w).flatten.toArray:=by
  have G:∀m:Nat,QCY (λp o=>p++o) #[] (Qx m w.toArray)=(Qx m w).flatten.toArray:=λm=>by have:=gM w m [];rw[Qw]at this;exact this
  rw[G];cases w with|nil=>simp|cons a M=>rw[if_neg (by simp)]
 refine wpAny_binaryOp_repeat_ref (T:="list") (U:="int") (by decide) ⟨_,e,rfl⟩ (λW=>QCX W k t) noFill_list_mul F.fills_int_mul QCN repeat_list F.slot_int_index.lookup
  (QAL QCN (QCX s k t) F.entry_int_rmul (F.args_int_rmul_2 _ _) (int___rmul___int_list k t l w.toArray n)
   ⟨e,rfl,⟨_,e,rfl⟩,QAL F.slot_list_mul ⟨_,e,rfl⟩ F.entry_list_mul (F.args_list_mul_2 _ _) (AutoListH.list___mul___list_int_3 l w.toArray n k t i j b) ⟨e,?_⟩⟩)
 rw[f];exact⟨.ref _,_,I.lnew (t':=s.toks) (r.rep k.toNat) (by rw[m5,Nat.mul_comm];exact Z),rfl,q _ I.fresh⟩
end
end L2
namespace Att
open PySem PySem.W PySem.Calls PyProof.Rows
theorem fJ{P:Params}{h:Heap}:∀(ns:List Int) (vs:List Value),WellAll P h vs (ns.map WData.int)->IntsAre vs ns:=by
 intro ns;induction ns with
 |nil=>intro vs w;rw[wI]at w;cases w;exact .nil|cons n ns x =>
  intro vs w;rw[QO]at w;cases w with|cons a b=>cases a;exact .cons _ _ (x _ b)
theorem script_of{l:OpenLaw}{n:Nat}(j:l.most=some n){P:Params}{h:Heap}{args:List WData}{x:List Value}
  (y:l.row.toRowW.claim.pre args=true) (k:WellAll P h x args) :
  ∃a vs ns,x=[Value.ref a]/\args=[WData.list (ns.map WData.int)]/\h.get? a=some { cls:=.type "list",data:=.seq vs.toArray }/\IntsAre vs ns/\ns.length<=n:=by
 have b:WShape.hasAll [] args [.list .int]=true:=(pre_splitW y).1;have hc:l.pre.holds [] { args:=args }=true:=(pre_splitW y).2;obtain⟨d,r,rfl,p,o⟩:=hasAllW_cons b;obtain rfl:=hasAllW_nil o;obtain⟨s,rfl,m⟩:=hasW_list p;obtain⟨ns,rfl⟩:=items_int m;have z:ns.length<=n:=by
  unfold OpenLaw.pre at hc;have w:(WTm.not (.lt (.lit (.int (n:Int))) (.len (.arg 0)))).holds [] { args:=[.list (ns.map .int)] }=true:=by have w:=(holds_andW hc).1;rw[j]at w;exact w
  have v:=condW_of w (w_not (w_lt w_lit (w_len_list (w_arg rfl))));rw[QF]at v;refine Nat.le_of_not_lt λq=>?_;have g:(n:Int)<((ns.length:Nat):Int):=by omega
  first
   | (rw[dT g]at v;exact absurd v (by decide))
   | (simp at v;omega)
 cases k with
 |cons f e =>
  cases e;cases f with|list i u=>exact⟨_,_,ns,rfl,rfl,i,fJ ns _ u,z⟩
theorem post_true(l:OpenLaw)(args:List WData):l.row.toRowW.claim.post args (.bool true) args=true :=
 postW_of (r:=l.row.toRowW) (X:=(true==true))
  (show WShape.has [] (.bool true) .bool=true by first|rfl|decide|simp[WShape.has,WShape.arms,WShape.armsAll])
  (show(WTm.eq .res (.lit (.bool true))).value [] { args:=args,res:=some (.bool true),after:=args }=some (.bool (true==true)) from w_eq_bool (w_res rfl) w_lit) rfl
end Att
namespace L2
open PySem PySem.Spec PyProof.Rows
theorem HL:∀{vs:List Value}{ns:List Int},IntsAre vs ns->dA (ns.map V.int) vs
 |_,_,.nil=>.nil|_,_,.cons n t h=>.cons ⟨t,rfl⟩ (HL h)
def Ng(H:Hp):Prop:=∀b,H b=none∨∃o h,H b=some (.frz o (.lst h))
theorem GY{P:Program}{w:World}{K:QC}{X L:Str->Option Value}{CX:U0}{k:Nat}{Q a:Addr}{fd:FuncData}{x:Str}{S:Sp}{y:Shared}{vs:List Value}{ns:List Int}
  (KX:K.In y.heap) (A:y.heap.Ns mainGlobals X) (hb:y.heap.Ns builtinsNs L) (N:∀x:Str,x≠"__name__"->L x=bootBuiltins x) (B:y.heap.NoLimit) (hg:y.gens=#[])
  (I:y.heap.get? a=some { cls:=.type "list",data:=.seq vs.toArray }) (hi:IntsAre vs ns) (hl:ns.length<=sizeLine) (hr:Room k callerA)
  (F:∀g:Heap,K.In g->g.Ns mainGlobals X->FnOk P w K X g CX k Q fd [x] S) (l:∀(s:Shared) (u:Value),BindsTo s fd ⟨[u],[]⟩ [(x,u)])
  (M:∀H:Hp,Ng H->yC K H a (ns.map V.int)->S [.ref a] H (λv _=>v=.bl true) λ_ _ _=>False)
  (O:∀H e s',CX [] H y (λ_ _ _=>False) e s'->False) :
  codeAny (model P w) callerA (.call (.ref Q) ⟨[.ref a],[]⟩) (λr s'=>r=.ok (.ret (.bool true))/\OldK y.heap s'.heap/\s'.os=y.os/\AllBare s'.gens) y:=by
 have rv:=HL hi;have Y:=hi.length;have j:∀H:Hp,Ng H->yC K H a (ns.map V.int)->UJ P w H y.heap->(∀b,H b≠none->b=a)->(H a≠none->K.lookup a=none) ->
   codeAny (model P w) callerA (.call (.ref Q) ⟨[.ref a],[]⟩) (λr s'=>r=.ok (.ret (.bool true))/\OldK y.heap s'.heap/\s'.os=y.os/\AllBare s'.gens) y:=by
  intro H hO hS W hA hK;have f:∀{b:Addr}{o:Obj},y.heap.get? b=some o->H b=none->(MN y.heap H).get? b=some o:=λe n=>kZ e n;have J:∀{b:Addr}{o:Obj}{E:Array DictEntry}{G:Nat},y.heap.get? b=some o->o.data=.dict E G->H b=none:=λ{b o E G} e d=>by
   cases q:H b with|none=>rfl|some u=>have R:b=a:=hA b (by rw[q];simp);subst R;rw[I]at e;cases e;have d':Data.seq vs.toArray _=Data.dict E G:=d;cases d'
  have i:∀{b:Addr}{m:Str->Option Value},y.heap.Ns b m->(MN y.heap H).Ns b m:=λ{b m} ⟨o,E,G,e,d,r⟩=>⟨o,E,G,f e (J e d),d,r⟩
  have C:K.In (MN y.heap H):=λb o e=>f (KX b o e) (by
   cases q:H b with|none=>rfl|some u=>have R:b=a:=hA b (by rw[q];simp);subst R;rw[hK (by rw[q];simp)]at e;cases e)
  have hM:Mod K X (MN y.heap H):=⟨C,i A,⟨L,i hb,N⟩,let⟨mc,h1,h2⟩:=B;⟨mc,i h1,h2⟩⟩
  have e0:Env0 P w K X (MN y.heap H) callerA [] y H:=⟨rfl,hM,λb o e=>C4 e,Ww (PV _ _),trivial,λb hb=>absurd (show b∈([]:List Addr) from hb) (by simp),W,.of_eq hg⟩
  refine QAY ((F _ C (i A)).run callerA [] y H ⟨[.ref a],[]⟩ [.ref a] [.ref a] _ _ hr e0 (l y (.ref a)) (.cons rfl .nil) (M H hO hS)) λr s' h=>?_;cases r with
  |error e=>exact(O H e s' h).elim|ok fl =>
   cases fl with
   |next=>exact Qb h|brk=>exact Qb h|cont=>exact Qb h|ret u =>
    obtain⟨v,H',os,bare,un,Z,r',q⟩:=h;have q':v=.bl true:=q;subst q';obtain rfl:u=Value.bool true:=r';refine⟨rfl,OldK.of_keep λb o e=>?_,os,bare⟩;cases q:H b with
    |none=>exact un.keep b o e q (by intro z;exact absurd (show b∈([]:List Addr) from z) (by simp)) (by simp)|some u =>
     rcases hO b with z|⟨ob,xs,z⟩
     rw[q]at z;cases z;have z2:=un.frzs b ob _ z;obtain⟨e1,_⟩:=W b _ z;obtain⟨e2,_⟩:=Z b _ z2;rw[e]at e1;cases e1;exact e2
 cases hk:K.lookup a with
 |some o=>have e:=KX a o hk;rw[I]at e;cases e;refine j (λ_=>none) (λ_=>.inl rfl) (.inr ⟨_,vs.toArray,_,hk,rfl,rfl,rfl,by rw[QT,Y];exact hl,by simpa using rv⟩) (λb u z=>by have p:(none:Option HO)=some u:=z;cases p) (λb z=>absurd rfl z) λz=>absurd rfl z|none =>
  refine j (λb=>if b=a then some (.frz { cls:=.type "list",data:=.seq vs.toArray } (.lst (ns.map V.int))) else none) (λb=>?_) (.inl (.inr ⟨{ cls:=.type "list",data:=.seq vs.toArray },if_pos rfl⟩)) (λb u z=>?_) (λb z=>?_) λ_=>hk;by_cases hb:b=a
  ·exact .inr ⟨_,_,if_pos hb⟩
  exact .inl (if_neg hb);by_cases hb:b=a
  ·have p:=(if_pos hb).symm.trans z
   cases p;subst hb;exact⟨I,by rw[QF];exact hl,vs,_,rv,I⟩
  have p:=(if_neg hb).symm.trans z;cases p;by_cases hb:b=a
  ·exact hb
  exact absurd (if_neg hb) z
def TD(s:Stmt):Arguments:=match s with
 | .FunctionDef _ a _ _ _ _ _ _ _ _=>a|_=>{ posonlyargs:=[],args:=[],vararg:=none,kwonlyargs:=[],kw_defaults:=[],kwarg:=none,defaults:=[] }
def FC(s:Stmt):List Stmt:=match s with
 | .FunctionDef _ _ b _ _ _ _ _ _ _=>b|_=>[]
def yB(s:Stmt):Scope:=match s with
 | .FunctionDef _ _ _ _ _ _ sc _ _ _=>sc|_=>{ kind:=.function,names:=[],isGenerator:=false,isCoroutine:=false }
noncomputable abbrev tW:U0:=λ_ _ _ _ _ _=>False
noncomputable abbrev E0:XK:=λ_ _ _=>False
theorem be{X:Cx}:xL tW X E0:=λ_ _ _ _ _ _ _ h=>h.elim
structure Fun(K:QC)(x qual:Str)(st:Stmt)(f:Addr)(fd:FuncData):Prop where
 ex:∃(oc:Value) (od:Option Addr) (kV doc pm:Value) (an:Option Addr) (cdv ct:Value) (osl:Array (Option Value)),
  fd=wX x qual (TD st) (FC st) (yB st) .none kV doc pm an cdv ct/\K.lookup f=some ⟨oc,od,.func fd,osl⟩/\QAb K cdv qual=true
 kp:WG K (.ref f)=true
section
variable{P:Program}{w:World}{K:QC}{mg:Str->Option Value}{base:Heap}
section
variable{x y:Str}{st:Stmt}{f:Addr}{u:FuncData}{z:List Str}
theorem Fun.ok{N:List Str}{k:Nat}{b:Sp}(F:Fun K x y st f u)(S:FnScope N z (yB st))(len:∀vs H Q E,b vs H Q E->vs.length=z.length)
  (a:∀(v:Value) (A:Around) (outer:List Env) (s:Shared) (H:Hp) (vs:List V) (Q:VK) (E:XK),Room k (A.deeper (envOfC y (yB st) s.heap.objs.size f v))->b vs H Q E ->
   ∃t,KS (kS tW P w K mg base N y (yB st) f v A outer s H E).nox (FC st) t/\t { nx:=λ_ m=>Q .non m,rt:=Q } (MD N vs) H):FnOk P w K mg base tW (k+1) f u z b:=by
 obtain⟨p,o,kV,l,n,X,v,r,i,rfl,lk,g⟩:=F.ex;refine lf lk g S len λA outer s H vs Q E j e=>?_;obtain⟨t,h,q⟩:=a v A outer s H vs Q E j e;exact⟨t,h.nox,q⟩
theorem Fun.binds(F:Fun K x y st f u)
  (h:∀(kV v a:Value) (b:Option Addr) (k ct:Value) (us:List Value),us.length=z.length->bindArgs (wX x y (TD st) (FC st) (yB st) .none kV v a b k ct) ⟨us,[]⟩=pure (z.zip us)):vI K u z []:=by
 obtain⟨j,i,kV,v,a,b,k,ct,e,rfl,lk,g⟩:=F.ex;exact .all (h kV v a b k ct)
theorem Ua{i:Value}{g e:Option Addr}{a:Array (Option Value)}{kV v b h ct:Value}(l:K.lookup f=some ⟨i,g,.func (wX x y (TD st) (FC st) (yB st) .none kV v b e h ct),a⟩)
  (c:QAb K h y=true) (k:WG K (.ref f)=true):Fun K x y st f (wX x y (TD st) (FC st) (yB st) .none kV v b e h ct):=⟨⟨i,g,kV,v,b,e,h,ct,a,rfl,l,c⟩,k⟩
end
end
def Same(H h:Hp):Prop:=∀b o,H b=some o->h b=some o
theorem Same.refl(H:Hp):Same H H:=λ_ _ h=>h
theorem Same.trans{H y x:Hp}(a:Same H y)(b:Same y x):Same H x:=λc o h=>b c o (a c o h)
theorem Same.free{H x:Hp}(e:Same H x){l:Addr}(h:x l=Option.none):H l=Option.none:=by
 cases q:H l with|none=>rfl|some o=>rw[e l o q]at h;cases h
theorem Same.seq{K:QC}{H x:Hp}{a:Addr}{xs:List V}(e:Same H x)(h:yC K H a xs):yC K x a xs:=by rcases h with(h|⟨o,h⟩)|h;exact .inl (.inl (e _ _ h));exact .inl (.inr ⟨o,e _ _ h⟩);exact .inr h
def VL(env:Env):List (Str×NameKind)->List (Str×Addr)->List (Str×Addr)
 |[],cs=>cs|(n,k)::r,cs=>VL env r (if k==.free then(n,(env.cells.lookup n).getD 0)::cs else cs)
theorem bS{u:Scope}{env:Env}(h:∀y∈u.names,y.2=.free->∃c,env.cells.lookup y.1=some c):closureFor u env=pure (VL env u.names []):=by
 have w:∀(l:List (Str×NameKind)) (v:List (Str×Addr)),(∀y∈l,y.2=.free->∃c,env.cells.lookup y.1=some c) ->
   (forIn l v λ(x:Str×NameKind) (r:List (Str×Addr))=>(if(x.2==NameKind.free)=true then(do let c <- cellOf env x.1;pure (ForInStep.yield ((x.1,c)::r))) else pure (ForInStep.yield r):Sem (ForInStep (List (Str×Addr)))))=pure (VL env l v):=by
  intro l;induction l with
  |nil=>intro v _;rfl|cons y l b =>
   intro v hl;obtain⟨n,k⟩:=y;rw[QA6];by_cases hk:k=.free;subst hk;obtain⟨c,hc⟩:=hl (n,.free) QE rfl;have hc:env.cells.lookup n=some c:=hc;simp only[beq_self_eq_true,if_true,cellOf,hc,pure_bind,VL,QCE];exact b _ λz a=>hl z (QG _ a);have hb:(k==NameKind.free)=false:=by simpa using hk
   simp only[hb,qY,if_false,pure_bind,VL];exact b _ λz a=>hl z (QG _ a)
 have e:=w u.names [] h;unfold closureFor;exact(congrArg (· >>= pure) e).trans (pure_bind _ _)
theorem oM{env:Env}{x:Str}{c:Addr}:∀(l:List (Str×NameKind)) (cs:List (Str×Addr)),(∀y∈l,y.2=.free->∃c,env.cells.lookup y.1=some c)->(∀c,cs.lookup x=some c->env.cells.lookup x=some c) ->
  (VL env l cs).lookup x=some c->env.cells.lookup x=some c
 |[],cs,_,hc,h=>hc c h|(n,k)::r,cs,hl,hc,h=>by
  refine oM r _ (λz a=>hl z (QG _ a)) (λd u=>?_) h;by_cases hk:k=.free;subst hk;obtain⟨e,v⟩:=hl (n,.free) QE rfl;have v:env.cells.lookup n=some e:=v;simp only[beq_self_eq_true,if_true,v,QCE,WD]at u;cases w:x==n with|true=>rw[w]at u;cases u;rw[qh w];exact v|false=>rw[w]at u;exact hc d u
  have hb:(k==NameKind.free)=false:=by simpa using hk
  simp only[hb,qY,if_false]at u;exact hc d u
theorem NK{env:Env}{x:Str}:∀(l:List (Str×NameKind)) (cs:List (Str×Addr)),((∃c,cs.lookup x=some c)∨(x,NameKind.free)∈l)->∃c,(VL env l cs).lookup x=some c
 |[],cs,h=>by rcases h with h|h;exact h;cases h
 | (n,k)::r,cs,h=>by
  refine NK r _ ?_;rcases h with⟨c,h⟩| h;refine .inl ?_;split;rw[WD];split;exact⟨_,rfl⟩;exact⟨c,h⟩;exact⟨c,h⟩;rcases QK.mp h with h|h
  ·cases h
   refine .inl ?_;simp
  exact .inr h
def KB:List Bool->Nat->List Str->List Str
 |b::m,j,x::N=>(if b then⟨#[46,j]⟩ else x)::KB m (j+1) N|_,_,N=>N
def NC:List Bool->St->St
 |b::m,v::σ=>(if b then none else v)::NC m σ|_,σ=>σ
theorem pI:∀(m:List Bool) (σ:St),(NC m σ).length=σ.length
 |[],σ=>by unfold NC;rfl|_::_,[]=>by unfold NC;rfl|b::m,v::σ=>by unfold NC;rw[QM,QM,pI m σ]
theorem fM:∀(m:List Bool) (j:Nat) (N:List Str),(KB m j N).length=N.length
 |[],_,N=>by unfold KB;rfl|_::_,_,[]=>by unfold KB;rfl|b::m,j,x::N=>by unfold KB;rw[QM,QM,fM m (j+1) N]
theorem iK:∀(m:List Bool) (j:Nat) (N:List Str) (σ:St) (i:Nat) (v:V),(NC m σ)[i]?=some (some v)->σ[i]?=some (some v)/\(KB m j N)[i]?=N[i]?
 |[],_,N,σ,i,v,h=>by unfold NC at h;unfold KB;exact⟨h,rfl⟩|_::_,_,N,[],i,v,h=>by unfold NC at h;simp at h|b::m,j,[],w::σ,i,v,h=>by
  unfold NC at h;cases i with
  |zero =>
   cases b with|true=>simp at h|false=>simp at h;subst h;exact⟨by simp,by unfold KB;rfl⟩
  |succ i=>have q:=(iK m (j+1) [] σ i v (by simpa using h)).1;exact⟨by simpa using q,by unfold KB;rfl⟩
 |b::m,j,x::N,w::σ,0,v,h=>by
  unfold NC at h;cases b with|true=>simp at h|false=>simp at h;subst h;exact⟨by simp,by unfold KB;simp⟩
 |b::m,j,x::N,w::σ,i+1,v,h=>by unfold NC at h;have q:=iK m (j+1) N σ i v (by simpa using h);unfold KB;exact⟨by simpa using q.1,by simpa using q.2⟩
def vK(h sc:Scope):Scope :=
  { h with names:=h.names.map λ(n,k)=>if(k==.free&&sc.kind==.function&&sc.names.lookup n==some .cell) then(n,.cell) else(n,k) }
theorem CC(sc:Scope)(x:Str):∀(l:List (Str×NameKind)),
  (l.map λ(n,k)=>if(k==NameKind.free&&sc.kind==.function&&sc.names.lookup n==some .cell) then(n,NameKind.cell) else(n,k)).lookup x =
   (l.lookup x).map λk=>if(k==NameKind.free&&sc.kind==.function&&sc.names.lookup x==some .cell) then NameKind.cell else k
 |[]=>rfl|(n,k)::r=>by
  rw[QO];have e:(if(k==NameKind.free&&sc.kind==.function&&sc.names.lookup n==some .cell)=true then(n,NameKind.cell) else(n,k)) =
    (n,if(k==NameKind.free&&sc.kind==.function&&sc.names.lookup n==some .cell)=true then NameKind.cell else k):=by split<;>rfl
  show QCO x ((if(k==NameKind.free&&sc.kind==.function&&sc.names.lookup n==some .cell)=true then(n,NameKind.cell) else(n,k))::_)=_;rw[e,WD,WD];cases h:x==n with|true=>rw[qh h];simp|false=>exact CC sc x r
structure CompSt(N:List Str)(sc scope:Scope)(tgs:List Str)(mask:List Bool):Prop where
 kind:scope.kind=.function
 nocell:∀y∈scope.names,y.2≠.cell
 names:∀y∈scope.names,y.2=.local->scope.names.lookup y.1=some .local
 free:∀y∈scope.names,y.2=.free->sc.names.lookup y.1=some .cell∨sc.names.lookup y.1=some .free
 loc:∀y∈scope.names,y.2=.local->y.1∈tgs∨y.1=(".0":Str)
 nd:(tgs++KB mask 0 N).Nodup
 no0:(".0":Str)∉tgs++KB mask 0 N
noncomputable def RA(X:Cx)(h:Scope)(y:List Str)(x:List Bool)(s:Shared)(H:Hp)(ex:List Addr):Cx :=
  { X with N:=y++KB x 0 X.N,s₀:=s,H₀:=H,env:=compEnvC h (VL X.env h.names []) s.heap.objs.size X.env,outer:=X.stack,stack:=X.stack,ex:=ex,fn:=λ_=>false,pn:=[],xe:=λ_ _=>False }
def MH(k:Nat)(h:List Bool)(σ:St):St:=Qx k none++NC h σ
section
variable{X:Cx}{f:NB}{σ:St}{H:Hp}{s:Shared}{w:Scope}{d:List Str}{a:List Bool}{ex:List Addr}
theorem CompSt.cells(C:CompSt X.N X.env.scope w d a)(ok:X.Ok):∀y∈w.names,y.2=.free->∃c,X.env.cells.lookup y.1=some c:=λy h x =>
 ok.has y.1 (C.free y h x)
theorem CompSt.kindCF(C:CompSt X.N X.env.scope w d a){x:Str}(h:(relabel w X.env).names.lookup x=some .cell∨(relabel w X.env).names.lookup x=some .free):(x,NameKind.free)∈w.names:=by
 have e:=CC X.env.scope x w.names;have u:(relabel w X.env).names.lookup x=(w.names.lookup x).map λk=>if(k==NameKind.free&&X.env.scope.kind==.function&&X.env.scope.names.lookup x==some .cell) then NameKind.cell else k:=e
 rw[u]at h;cases q:w.names.lookup x with
 |none=>rw[q]at h;simp at h|some k =>
  have y:=qT q;have z:=C.nocell _ y;cases k with|free=>exact y|cell=>exact absurd rfl z|«local»=>rw[q]at h;simp at h|_=>rw[q]at h;simp at h
theorem vS(I:Inv X f σ H s)(C:CompSt X.N X.env.scope w d a)(n:∀b∈ex,kI X f H b/\b<s.heap.objs.size){h':Heap}{t':Nat}
  (hn:h'.Ns s.heap.objs.size (λ_=>none)) (hs:qR s.heap.objs.size (s.heap.push { cls:=.type "dict",data:=.dict #[] }) h') :
  Inv (RA X w d a s H ex) [] (MH d.length a σ) H { s with heap:=h',toks:=t' }:=by
 have kept:∀b u,s.heap.get? b=some u->h'.get? b=some u:=λb u e=>hs.extBut b u (Qa (QR e)) (QH _ e);have look:∀x c,(VL X.env w.names []).lookup x=some c->X.env.cells.lookup x=some c:=λx c e=>oM w.names [] (C.cells I.ok) (λc z=>by simp at z) e;have nofs:∀b∈ex,b∉EV X.stack:=λb hb z=>by obtain⟨⟨_,f1,f2,_⟩,_⟩:=n b hb;rcases QK.mp (I.stkSub b z) with e|e;exact f1 e;exact f2 e
 refine⟨⟨I.ok.mod,C.kind,I.ok.glob,I.ok.blt,QU _,λx y c E j=>I.ok.inj x y c (look x c E) (look y c j),λx hx=>?_,λx c hf _=>absurd (show false=true from hf) QD,I.ok.hd,I.ok.frames,.inl rfl,λb hb=>?_,I.bs,QZ I.ok.bsz I.sz,λb o e hb=>?_,nofs,I.stack,I.stkFree⟩,
  rfl,I.bare,Un.kept kept,⟨_,hn,λi x v E j h3=>?_⟩,λx c h=>?_,I.hok.fresh (QU _),λx c h=>I.freeC x c (look x c h),λp hp=>absurd (show p∈([]:NB) from hp) (by simp),I.hok.kept kept,?_⟩
 exact NK w.names [] (.inr (C.kindCF hx));obtain⟨⟨_,_,_,_,f4,_⟩,lt⟩:=n b hb;exact⟨Qa lt,λx c e=>f4 x c (look x c e)⟩;obtain⟨⟨_,_,_,f3,_⟩,_⟩:=n b hb;rcases f3 with z|z;exact I.ok.noex b o e z;exact absurd (Qp (QR (I.ok.bs b o e).1) z) (wM _)
 ·
  have hi:d.length<=i:=by rcases QA7 i d.length with z|z;unfold MH at j;rw[Qu (by simpa using z),w9]at j;split at j<;>cases j;exact z
  have Z:(KB a 0 X.N)[i - d.length]?=some x:=by have:(d++KB a 0 X.N)[i]?=some x:=E;rw[Q0 hi]at this;exact this
  have O:(NC a σ)[i - d.length]?=some (some v):=by unfold MH at j;rw[Q0 (by simpa using hi)]at j;simpa using j
  obtain⟨g1,g2⟩:=iK a 0 X.N σ _ v O;rw[g2]at Z;have A:x∈d++KB a 0 X.N:=Q9 (show(d++KB a 0 X.N)[i]?=some x from E);have K:x∉d:=λz=>by have nd:=C.nd;rw[qH]at nd;exact nd.2.2 x z x (Q9 (by rw[g2];exact Z)) rfl
  have g:(x,NameKind.free)∈w.names:=by
   rcases h3 with z|z|z;exfalso;have e:(relabel w X.env).names.lookup x=some .local:=z;have Q:=CC X.env.scope x w.names;have P:(relabel w X.env).names.lookup x=(w.names.lookup x).map λk=>if(k==NameKind.free&&X.env.scope.kind==.function&&X.env.scope.names.lookup x==some .cell) then NameKind.cell else k:=Q
   rw[P]at e;cases q:w.names.lookup x with
   |none=>rw[q]at e;cases e|some k =>
    rw[q]at e;have L:=qT q;have G:k=.local:=by
     cases k with|«local»=>rfl|free=>simp at e;split at e<;>cases e|_=>simp at e
    subst G;rcases C.loc _ L rfl with z|z;exact K z;exact C.no0 (z▸A)
   exact C.kindCF (.inl z);exact C.kindCF (.inr z)
  obtain⟨m,hnm,hl⟩:=I.loc;have F:rc X.env.scope x:=.inr (C.free _ g rfl);obtain⟨u,r,l⟩:=hl _ x v Z g1 F;refine⟨u,r,?_⟩;rcases l with⟨k,_⟩| ⟨_,c,hc,Y⟩
  exfalso;have S:X.env.scope.names.lookup x=some .local:=k;rcases C.free _ g rfl with z|z;have W:X.env.scope.names.lookup x=some .cell:=z;rw[S]at W;cases W;have W:X.env.scope.names.lookup x=some .free:=z;rw[S]at W;cases W;obtain⟨R,B⟩:=NK (env:=X.env) w.names [] (.inr g);have:R=c:=by have:=look x R B;rw[hc]at this;exact(qD this).symm
  subst this;refine .inr ⟨?_,R,B,?_⟩;rcases h3 with z|z|z
  ·exfalso
   have e:(relabel w X.env).names.lookup x=some .local:=z;have Q:=CC X.env.scope x w.names;have P:(relabel w X.env).names.lookup x=(w.names.lookup x).map λk=>if(k==NameKind.free&&X.env.scope.kind==.function&&X.env.scope.names.lookup x==some .cell) then NameKind.cell else k:=Q
   rw[P]at e;cases q:w.names.lookup x with
   |none=>rw[q]at e;cases e|some k =>
    rw[q]at e;have L:=qT q;have G:k=.local:=by
     cases k with|«local»=>rfl|free=>simp at e;split at e<;>cases e|_=>simp at e
    subst G;rcases C.loc _ L rfl with z|z;exact K z;exact C.no0 (z▸A)
  exact .inl z;exact .inr z;obtain⟨o,J,M⟩:=Y;exact⟨o,kept _ _ J,M⟩
 obtain⟨v,o,J,M⟩:=I.cell x c (look x c h);exact⟨v,o,kept _ _ J,M⟩;show(MH d.length a σ).length=(d++KB a 0 X.N).length;unfold MH;rw[QL,QL,qg,pI,fM,I.len]
end
section
variable{X:Cx}{h:NB}{σ a:St}{H k:Hp}{s s':Shared}{x:Scope}{d:List Str}{w:List Bool}{ex:List Addr}{D:Addr}{y:List V}{its:List Value}
theorem xS(I:Inv X h σ H s)(m:∀b∈ex,kI X h H b/\b<s.heap.objs.size)(W:D∈ex)(J:Inv (RA X x d w s H ex) [] a k s')(f:k D=none)(hv:dA y its)(hz:y.length<=sizeLine)
  (hl:s'.heap.PlainList D its.toArray) {g:Heap}(C:qR s.heap.objs.size s'.heap g):Inv X h σ (DA k D (.lst y)) { s' with heap:=g }:=by
 have un:Un (EV X.stack) ex H k s.heap s'.heap:=J.base;have j:∀b o,s.heap.get? b=some o->b≠s.heap.objs.size:=λb o e=>Qa (QR e);have E:=m D W;have Z:k s.heap.objs.size=none:=J.free;have N:D≠s.heap.objs.size:=Qa E.2;have p:∀b u,b≠s.heap.objs.size->s'.heap.get? b=some u->g.get? b=some u:=λb u B e=>C.extBut b u B e;refine I.call' (s':={ s' with heap:=g }) (ch:=ex) J.os ⟨λb o e n hb i=>?_,λb o e n hb i=>?_,λb o e n i=>?_,λb o e i=>?_,λb r e=>?_,λb o u e=>?_,λb A e=>?_⟩ ?_ J.bare λb hb=>?_;exact p b o (j b o e) (un.keep b o e n hb i);obtain⟨K,q⟩:=un.slot b o e n hb i;exact⟨K,p b _ (j b o e) q⟩;have q:=un.free b o e n i;rw[kA (λ(z:b=D)=>i (by rw[z];exact W))];exact q;obtain⟨Y,q⟩:=un.there b o e i;exact⟨Y,p b Y (j b o e) q⟩;rw[kA (VA (un.tups b r e) f)];exact un.tups b r e;rw[kA (VA (un.frzs b o u e) f)];exact un.frzs b o u e;obtain⟨l,q⟩:=un.tbls b A e;exact⟨l,by rw[kA (VA q f)];exact q⟩;intro b u e;by_cases hb:b=D;subst hb;rw[pA]at e;cases e;obtain⟨n,q⟩:=hl;exact⟨hz,its,n,hv,p _ _ N q⟩;rw[kA hb]at e;refine(J.hok b u e).stay (λc v hc q=>p c v ?_ q) (λc q=>?_) λc r q=>?_;rintro rfl;rcases hc with z|z;subst z;rw[Z]at e;cases e;rw[Z]at z;cases z;rw[kA (VA q f)];exact q;rw[kA (VA q f)];exact q;obtain⟨⟨P,M,O,L,G,F⟩,_⟩:=m b hb;exact⟨L,M,G,F⟩
end
section
variable{X:Cx}{s:Shared}{K Z B:Expr}{U:List Expr}{d:Scope}{pos:Pos}{E:TI}{g:TG}{tc:TT}{te:TE}{Y:List Str}{j:List Bool}{l:NB}
def Mg(X:Cx)(U:List Expr)(t:TT):Prop:=∀(l:NB) (s:Shared) (h:St) (H:Hp) (Q:Bool->Hp->Prop),Inv X l h H s->t h H Q ->
 wpAny (model X.prog X.w) X.A (forIn U true λc r=>if r=true then do let ok <- isTrue c X.env (eval c X.env);pure (ForInStep.yield ok) else pure (ForInStep.yield r)) (TP X l h Q) X.xe s
theorem aT:Mg X [] (λ_ H Q=>Q true H):=λl s x H Q I h=>by rw[QBN];exact QJ ⟨H,I,h⟩
theorem rT{c:Expr}{t:TT}(hc:PT X c t):Mg X [c] t:=λl s x H Q I h=>by rw[QA6];simp only[if_true];refine QA (QA (LB (hc l s x H Q I h) λb y q=>QJ ?_));dsimp only;rw[QBN];exact QJ q
theorem YG{prog:Program}{w:World}{A:Around}{R:Result->Shared->Prop}{y:Expr}{it q:Value}{env:Env}(I:Nat->Shared->Prop)
  (W:∀n s,I n s->wpAny (model prog w) A (pyNext it) (λr k=>match r with
   |none=>R (.ok .next) k|some v=>wpAny (model prog w) A (letOwnedTupleGo y it v) (λ_ u=>wpAny (model prog w) A (assign y env v) (λ_ f =>
     wpAny (model prog w) A (forIn U true λc r=>if r=true then do let ok <- isTrue c env (eval c env);pure (ForInStep.yield ok) else pure (ForInStep.yield r)) (λok z =>
      if ok=true then wpAny (model prog w) A (eval K env) (λx e =>
       wpAny (model prog w) A (call (.builtin "list.append") [q,x]) (λ_ b=>∃m,m<n/\I m b) (λ_ _=>False) e) (λ_ _=>False) z
      else ∃m,m<n/\I m z) (λ_ _=>False) f) (λ_ _=>False) u) (λ_ _=>False) k) (λ_ _=>False) s)
  (n:Nat) (h:I n s) :
  codeAny (model prog w) A (.compLoop (.ListComp K [⟨y,Z,U,0⟩] d pos) 0 it q env) R s:=by
 refine codeAny_loop rfl I (λn s J=>?_) n h;show wpAny _ A ((compTurn (.ListComp K [⟨y,Z,U,0⟩] d pos) 0 it q env).onRaise (λx=>do noteFrame x env;theTreesLotGoes x)) _ _ s;refine wpAny_noted ?_;rw[compTurn_list];refine QA (QBc (QA (wN (W n s J) (λr k o=>?_) λ_ _ a=>a.elim)));cases r with
 |none=>exact QJ o|some v =>
  refine QA (wN o (λ_ u p=>?_) λ_ _ a=>a.elim);refine QA (wN p (λ_ f G=>QA (wN G (λok z i=>?_) λ_ _ a=>a.elim)) λ_ _ a=>a.elim);cases ok with|false=>exact QJ ⟨rfl,i⟩|true=>exact QA (QA (wN i (λx e F=>QA (wN F (λ_ b C=>QJ (QJ ⟨rfl,C⟩)) λ_ _ a=>a.elim)) λ_ _ a=>a.elim))
noncomputable def LW(E:TI)(g:TG)(tc:TT)(te:TE)(k:Nat)(j:List Bool):TE:=λa H Q=>E a H λJ q=>∃W:Nat->Nat->List V->St->Hp->Prop,(∃m,W 0 m [] (MH k j a) q) /\
 ∀i m h v u,W i m h v u->(J.stop i u/\h.length<=sizeLine/\∀p,u p=none->Q (.ref p) (DA u p (.lst h))) ∨
  (J.go i u/\∀x f,J.yld i u x f->g x v f λz o=>tc z o λb e=>if b=true then te z e λy n=>h.length<sizeLine/\∃w,w < m/\W (i+1) w (h++[y]) z n else ∃w,w < m/\W (i+1) w h z e)
def Sg(X:Cx)(l:NB)(H:Hp)(s:Shared)(C:Addr):Prop :=
 H C=none/\C≠X.env.locals/\X.s₀.heap.objs.size<=C/\(∀x c,X.env.cells.lookup x=some c->c≠C)/\(∀p∈X.pn++l,p.1≠C)/\∃m,s.heap.Ns C m
theorem dQ{pos':Pos}{use:Option (Value->Sem Unit)}(hc:X.calm=true)(hi:PI X B Z E)(C:CompSt X.N X.env.scope d Y j)
  (inner:∀s H ex,PG (RA X d Y j s H ex) B g/\Mg (RA X d Y j s H ex) U tc/\PE (RA X d Y j s H ex) K te)
  (hs:∀x,foldedSetIterable Z X.env x=pure x) {σ:St}{H:Hp}{Q:VK}{QQ:AB}(I:Inv X l σ H s) (h:LW E g tc te Y.length j σ H Q)
  (fin:∀(D:Addr) (f:Hp) (s6:Shared) (F:Addr),Inv X l σ f s6->Sg X l f s6 F->Q (.ref D) f->compPost (model X.prog X.w) X.A X.xe use QQ (.ref D) F (.ok .next) s6) :
  wpAny (model X.prog X.w) X.A (comprehension (.ListComp K [⟨B,Z,U,0⟩] d pos) d X.env pos' (newList []) false (eval Z X.env) use) QQ X.xe s:=by
 refine wpAny_comprehension_free (use:=use) rfl hs (bS (C.cells I.ok)) C.kind C.names (LB (hi l s σ H _ I h) λv s1 h1=>LB h1 λitv s2 h2=>?_);obtain⟨it,a,tn,J,G,e,I2,T,st2,f2,W,⟨m0,w0⟩,turn⟩:=h2;subst e;refine Qs ?_;have I3:Inv X l σ G { s2 with heap:=s2.heap.push { cls:=.type "list",data:=.seq ([]:List Value).toArray } }:=I2.kept (t':=s2.toks) λb o e=>QH _ e;generalize hS:({ s2 with heap:=s2.heap.push { cls:=.type "list",data:=.seq ([]:List Value).toArray } }:Shared)=s3 at I3;have sz3:s3.heap.objs.size=s2.heap.objs.size+1:=by rw[<- hS];exact wc ..
 have lst3:s3.heap.PlainList s2.heap.objs.size ([]:List Value).toArray:=⟨0,by rw[<- hS];exact QN _ rfl⟩
 have old3:∀b o,s2.heap.get? b=some o->s3.heap.get? b=some o:=λb o e=>by rw[<- hS];exact QH _ e
 generalize hDd:s2.heap.objs.size=D at sz3 lst3;have fD:kI X l G D:=by rw[<- hDd];exact I2.fpOk (QU _) (I2.hok.fresh (QU _))
 have fpl:∀b∈a,b<D:=λb hb=>by obtain⟨o,e,_⟩:=T.obj _ _ st2 b hb;rw[<- hDd];exact QR e
 have hex:∀b∈D::a,kI X l G b/\b<s3.heap.objs.size:=λb hb=>by rcases QK.mp hb with z|z;subst z;exact⟨fD,by rw[sz3];exact WY _⟩;exact⟨f2 b z,by rw[sz3];exact qi (fpl b z)⟩
 refine wpAny_newFunctionEnv C.nocell (by intro y hy;simp at hy) (λh' hn hsb=>?_) C.kind;have J0:Inv (RA X d Y j s3 G (D::a)) [] (MH Y.length j σ) G { s3 with heap:=h',toks:=s3.toks+([]:List (Str×Value)).length }:=vS I3 C hex hn hsb;have kept:∀b u,s3.heap.get? b=some u->h'.get? b=some u:=λb u e=>hsb.extBut b u (Qa (QR e)) (QH _ e);obtain⟨pg,pf,pl⟩:=inner s3 G (D::a);have loop:∀s4:Shared,s4={ s3 with heap:=h',toks:=s3.toks+([]:List (Str×Value)).length } ->
   codeAny (model X.prog X.w) X.A (.compLoop (.ListComp K [⟨B,Z,U,0⟩] d pos) 0 (.ref it) (.ref D) (compEnvC d (VL X.env d.names []) s3.heap.objs.size X.env))
    (compPost (model X.prog X.w) X.A X.xe use QQ (.ref D) s3.heap.objs.size) s4:=by
  rintro s4 rfl;have exok:∀{f:Hp},(∀b∈D::a,f b=none)->∀(pp:NB),(∀p∈pp,p.1∉a)->∀b∈a,kI (RA X d Y j s3 G (D::a)) pp f b:=λ{f} hn pp hpp b hb=>by have g:=J0.ok.exf b (QG _ hb);exact⟨hn b (QG _ hb),g.1,J0.ok.exfs b (QG _ hb),.inl (QG _ hb),g.2,λp L z=>hpp p (by simpa[RA]using L) (z▸hb)⟩
  have DX:=J0.ok.exf D QE;have Dfp:D∉a:=λz=>wM _ (fpl D z);refine YG (λn O=>∃i m f M k,Inv (RA X d Y j s3 G (D::a)) [] m f O/\tn i O.heap/\(∀b∈D::a,f b=none)/\dA M k/\O.heap.PlainList D k.toArray/\W i n M m f) ?_ m0
   ⟨0,_,G,[],[],J0,T.keep _ _ _ (T.keep _ _ _ st2 λb hb o e=>old3 b o e) λb hb o e=>kept b o e,λb hb=>((hex b hb).1).1,.nil,lst3.at λo e=>kept _ _ e,w0⟩
  rintro n s5 ⟨i,R,H5,M,k,I5,st5,fr5,va5,ls5,w5⟩;obtain⟨nL,lo⟩:=id ls5;have pinD:∀{m:St}{f:Hp}{O:Shared},Inv (RA X d Y j s3 G (D::a)) [] m f O->(∀b∈D::a,f b=none)->O.heap.get? D=some { cls:=.type "list",dict:=none,data:=.seq k.toArray nL } ->
    Inv (RA X d Y j s3 G (D::a)) [(D,{ cls:=.type "list",dict:=none,data:=.seq k.toArray nL })] m f O:=λ{m f O} I' fr' e' =>
   I'.pins_of λp L=>by
    have e:p=(D,{ cls:=.type "list",dict:=none,data:=.seq k.toArray nL }):=by simpa using L
    subst e;exact⟨e',fr' D QE,DX.1,J0.ok.exfs D QE,λv z=>by cases z⟩
  have S:∀p∈[(D,({ cls:=.type "list",dict:=none,data:=.seq k.toArray nL }:Obj))],p.1∉a:=λp L=>by
   have e:p=(D,{ cls:=.type "list",dict:=none,data:=.seq k.toArray nL }):=by simpa using L
   subst e;exact Dfp
  have I5':=pinD I5 fr5 lo;rcases turn i n M R H5 w5 with⟨stop,hz,qn⟩| ⟨go,step⟩
  refine LB (T.done (RA X d Y j s3 G (D::a)) rfl rfl rfl hc i _ s5 R H5 (λ_ _=>False) I5' (exok fr5 _ S) st5 stop) λr s6 ⟨hr,I6⟩=>?_;subst hr;obtain⟨m6,hn6,_⟩:=I6.loc;have l6:s6.heap.PlainList D k.toArray:=⟨nL,(I6.pin _ (QV _ (QI.mpr rfl))).1⟩
  have I6':Inv (RA X d Y j s3 G (D::a)) [] R H5 s6:=I6.pins_of λp L=>by simp at L
  have Iout:Inv X l σ (DA H5 D (.lst M)) s6:=xS I3 hex QE I6' (fr5 D QE) va5 hz l6 (QBr _ _);have lC:H5 s3.heap.objs.size=none:=I6'.free;refine fin D _ s6 s3.heap.objs.size Iout ⟨?_,wF I3.lt,I3.sz,λx c e z=>?_,λp L z=>?_,m6,hn6⟩ (qn D (fr5 D QE));rw[kA (λ(z:s3.heap.objs.size=D)=>absurd (hex D QE).2 (by rw[z];exact wM _))];exact lC;obtain⟨v,q⟩:=I3.cell x c e;exact absurd q.lt (by rw[z];exact wM _);exact absurd (QR (I3.pin p L).1) (by rw[z];exact wM _);refine LB (T.item (RA X d Y j s3 G (D::a)) rfl rfl rfl hc i _ s5 R H5 (λ_ _=>False) I5' (exok fr5 _ S) st5 go) λr s6 ⟨u,hr,h6⟩=>?_;subst hr;refine LB h6 λ_ s7 ⟨x,H7,I7,r7,y7,st7,fr7⟩=>?_;have hD7:=(I7.pin _ (QV _ (QI.mpr rfl)))
  have fr7':∀b∈D::a,H7 b=none:=λb hb=>by rcases QK.mp hb with z|z;subst z;exact hD7.2.1;exact fr7 b z
  have I7':=I7.pinned (exok fr7' _ S) (T.obj _ _ st7);have bk:∀{m:St}{f:Hp}{O:Shared},Inv (RA X d Y j s3 G (D::a)) ([(D,{ cls:=.type "list",dict:=none,data:=.seq k.toArray nL })]++gK a s7.heap) m f O ->
    O.heap.get? D=some { cls:=.type "list",dict:=none,data:=.seq k.toArray nL }/\tn (i+1) O.heap/\(∀b∈D::a,f b=none):=λ{m f O} I'=>by
   have hD:=I'.pin (D,{ cls:=.type "list",dict:=none,data:=.seq k.toArray nL }) (QV _ (Qr _ (QI.mpr rfl)));refine⟨hD.1,T.keep _ _ _ st7 λb hb o e=>(I'.pin (b,o) (QV _ (QV _ (EE hb e)))).1,λb hb=>?_⟩;rcases QK.mp hb with z|z;subst z;exact hD.2.1;obtain⟨o,e,_⟩:=T.obj _ _ st7 b z;exact(I'.pin (b,o) (QV _ (QV _ (EE z e)))).2.1
  refine LB (pg _ s7 R H7 x u _ I7' r7 (step x H7 y7)) λ_ s8 ⟨P,H8,I8,q8⟩=>?_;refine LB (pf _ s8 P H8 _ I8 q8) λok s9 ⟨H9,I9,q9⟩=>?_;cases ok with
  |false=>obtain⟨m',hm,w'⟩:=q9;obtain⟨b1,b2,b3⟩:=bk I9;exact⟨m',hm,i+1,P,H9,M,k,I9.pins_of λp L=>by simp at L,b2,b3,va5,⟨nL,b1⟩,w'⟩|true =>
   refine LB (pl _ s9 P H9 _ I9 q9) λy s10 ⟨yv,H10,I10,r10,hz,m',hm,w'⟩=>?_;obtain⟨b1,b2,b3⟩:=bk I10;have hlen:=va5.length;refine wpAny_list_append_plain (hsz:=by rw[QT];omega) (show s10.heap.PlainList D k.toArray from⟨nL,b1⟩) λh11 hl11 hs11=>?_;refine⟨m',hm,i+1,P,H10,M++[yv],k++[y],?_,T.keep _ _ _ b2 λb hb o e=>(hs11.2 b (λz=>Dfp (z▸hb))).trans e,b3,va5.append (.cons r10 .nil),by simpa using hl11,w'⟩;have I10':Inv (RA X d Y j s3 G (D::a)) [] P H10 s10:=I10.pins_of λp L=>by simp at L
   exact I10'.turned (t':=s10.toks) (λb o hb e=>(hs11.2 b hb).trans e) (b3 D QE) DX.1 (.inl QE) DX.2 λp L=>by simp[RA]at L
 refine codeAny_compStart_list (loop _ rfl) (T.self X.A 0 _ _ _ (T.keep _ _ _ (T.keep _ _ _ st2 λb hb o e=>old3 b o e) λb hb o e=>kept b o e) (loop _ rfl))
theorem CK{σ:St}{H:Hp}{F:Addr}(I:Inv X l σ H s)(f:Sg X l H s F){h':Heap}(h:qR F s.heap h'):Inv X l σ H { s with heap:=h' }:=by obtain⟨v,u,z,y,x,_⟩:=f;exact I.turned (t':=s.toks) (λb o hb e=>(h.2 b hb).trans e) v u (.inr z) y x
theorem M3(hc:X.calm=true)(w:PI X B Z E)(C:CompSt X.N X.env.scope d Y j)
  (y:∀s H ex,PG (RA X d Y j s H ex) B g/\Mg (RA X d Y j s H ex) U tc/\PE (RA X d Y j s H ex) K te)
  (u:∀x,foldedSetIterable Z X.env x=pure x:=by intro _;rfl):PE X (.ListComp K [⟨B,Z,U,0⟩] d pos) (LW E g tc te Y.length j):=by
 intro l s b H Q I h;rw[eval_ListComp];refine dQ hc w C y u I h λD a e F k f q=>?_;obtain⟨m,v⟩:=f.2.2.2.2.2;exact⟨m,v,λi z=>⟨.ref D,a,CK k f z,rfl,q⟩⟩
theorem v3{cpos u:Pos}{i:Nat}{x:Str}(hc:X.calm=true)(hN:X.N.Nodup)(n:X.N[i]?=some x)(p:X.env.scope.names.lookup x=some .local)
  (R:PI X B Z E) (C:CompSt X.N X.env.scope d Y j)
  (y:∀s H ex,PG (RA X d Y j s H ex) B g/\Mg (RA X d Y j s H ex) U tc/\PE (RA X d Y j s H ex) K te)
  (O:∀x,foldedSetIterable Z X.env x=pure x) (k:swapsWith (.ListComp K [⟨B,Z,U,0⟩] d cpos) (some (.Name x u)) pos.line X.env=pure true) :
  PS X (.Assign [.Name x u] (.ListComp K [⟨B,Z,U,0⟩] d cpos) pos) (d8 (LW E g tc te Y.length j) (yU i)):=by
 intro l s σ H D0 I h;rw[exec_Assign_Name_used _ _ _ _ k];refine QA (QBc (QA ?_));show wpAny _ X.A (do let _ <- comprehension (.ListComp K [⟨B,Z,U,0⟩] d cpos) d X.env _ (newList []) false (eval Z X.env) (some (assign (.Name x u) X.env))) _ _ s;refine QA (wN (dQ (use:=some (assign (.Name x u) X.env)) (QQ:=λ_ o=>SP X l D0 .next o) hc R C y O I h λD H' L F I6 f q=>?_) (λ_ o P=>QJ (QJ P)) λ_ _ e=>e);show wpAny _ X.A (assign (.Name x u) X.env (.ref D)) _ _ L;refine QBn (LL I6 hN n (.inl p) (v:=.ref D) rfl (λJ I7 ⟨a,G,S⟩=>?_) (.inr p));obtain⟨f0,W,f2,r,f4,m,Q⟩:=f;have M:F≠a:=by rcases S with z|z;rw[z];exact W;exact λe=>r x a z e.symm
 have w:J.heap.Ns F m:=Q.sameBut G M;exact⟨m,w,λh' b=>⟨_,H',CK I7 ⟨f0,W,f2,r,f4,m,w⟩ b,q⟩⟩
end
end L2
namespace L2.L3
open PySem PySem.Spec PyProof.Rows
noncomputable def D8(K:QC):R2:=λx y H Q=>match x,y with
 | .int i,.int j=>Q (.int (i+j)) H|.str a,.str b=>a.length+b.length<=sizeLine/\Q (.str (a++b)) H|.ref a,.ref b=>(∃z h,yC K H a z/\yC K H b h/\z.length+h.length<=sizeLine/\∀p,H p=none->Q (.ref p) (DA H p (.lst (z++h))))∨O6 K (.ref a) (.ref b) H Q|_,_=>False
def Dd:R2:=λx y H Q=>match x,y with
 | .int i,.int j=>Q (.int (i - j)) H|_,_=>False
def eG(x:Str)(n:Int):Str:=Txt.mul x n
noncomputable def Nd(K:QC):R2:=λx y H Q=>match x,y with
 | .int i,.int j=>IntMulOk i j/\Q (.int (i * j)) H|.str a,.int k=>(-(2 ^ 31)<=k/\k<2 ^ 31/\a.length * k.toNat<=sizeLine)/\Q (.str (eG a k)) H|.ref a,.int k=>Ld (.ref a) (.int k) H Q|_,_=>False
def N6:R2:=λx y H Q=>match x,y with
 | .int i,.int j=>(0<j/\j<2 ^ 200)/\Q (.int (i / j)) H|_,_=>False
def Od:R2:=λx y H Q=>match x,y with
 | .int i,.int j=>0<j/\Q (.int (i % j)) H|_,_=>False
section
variable{X:Cx}
theorem op_add:tF X (binaryOp .Add) (D8 X.K):=by
 intro z s g H x y v u Q I f e h;cases x with
 |int i =>
  cases y with|int j=>exact _root_.L2.op_add z s g H _ _ v u Q I f e ⟨i,j,rfl,rfl,h⟩|_=>exact Qb h
 |str a =>
  cases y with|str b=>exact lR z s g H _ _ v u Q I f e ⟨a,b,rfl,rfl,h.1,h.2⟩|_=>exact Qb h
 |ref a =>
  cases y with
  |ref b =>
   rcases h with⟨xs,ys,N,M,hz,q⟩| h;cases f;cases e;obtain⟨k,r,⟨⟨S,R,A,G⟩,L,W,E,d1,p⟩,z1⟩:=I.list N;obtain⟨w,Y,⟨⟨B,m,n,l⟩,J,Z,C,d2,o⟩,z2⟩:=I.list M;simp only at E p C o;subst E p C o;have hl:=r.length;have O:=Y.length;refine QB2 ⟨_,W,rfl⟩ ⟨_,Z,rfl⟩ noFill_list_add seq_list_add PySem.F.slot_list_add PySem.F.entry_list_add (PySem.F.args_list_add_2 _ _) (list_addW a b k.toArray w.toArray L J R m G l (by simp;omega)) ⟨W,Z,?_⟩;have P:k.toArray++w.toArray=(k++w).toArray:=by simp
   rw[P];exact⟨.ref _,_,I.lnew (t':=s.toks) (r.append Y) (by rw[QL];omega),rfl,q _ I.fresh⟩;exact E3 z s g H _ _ v u Q I f e h
  |_=>exact Qb h
 |_=>exact Qb h
theorem op_sub:tF X (binaryOp .Sub) Dd:=by
 intro z s w H x y v u Q I a k h;cases x with
 |int i =>
  cases y with|int j=>exact _root_.L2.op_sub z s w H _ _ v u Q I a k ⟨i,j,rfl,rfl,h⟩|_=>exact Qb h
 |_=>exact Qb h
theorem A3:tF X (binaryOp .FloorDiv) N6:=by
 intro z s a H x y v u Q I k w h;cases x with
 |int i =>
  cases y with
  |int j =>
   obtain⟨t,rfl⟩:=k;obtain⟨b,rfl⟩:=w;obtain⟨⟨f,e⟩,q⟩:=h;refine floordiv_int (by omega) ?_ (.inl (PyProof.noPylong_of_log2 ?_));rw[Int.fdiv_eq_ediv_of_nonneg i (by omega)];exact⟨.int _,H,I.tok _,⟨_,rfl⟩,q⟩;have:j.natAbs<2 ^ 200:=by omega
   have:=(Nat.log2_lt (show j.natAbs≠0 by omega)).mpr this;omega
  |_=>exact Qb h
 |_=>exact Qb h
theorem op_mod:tF X (binaryOp .Mod) Od:=by
 intro z s w H x y v u Q I a k h;cases x with
 |int i =>
  cases y with|int j=>exact _root_.L2.op_mod z s w H _ _ v u Q I a k ⟨i,j,rfl,rfl,h.1,h.2⟩|_=>exact Qb h
 |_=>exact Qb h
theorem d9:tF X (binaryOp .Mult) (Nd X.K):=by
 intro z s l H x y v u Q I f w h;cases x with
 |int i =>
  cases y with|int j=>obtain⟨t,rfl⟩:=f;obtain⟨g,rfl⟩:=w;exact mul_int ⟨.int _,H,I.tok _,⟨_,rfl⟩,h.2⟩ h.1|_=>exact Qb h
 |str a =>
  cases y with
  |int k =>
   obtain⟨t,rfl⟩:=f;obtain⟨g,rfl⟩:=w;obtain⟨⟨Z,Y,r⟩,q⟩:=h;refine SB.mul ⟨?_,λ_ _=>?_,λ_ _=>?_⟩ λg o=>⟨.str (eG a k),H,I.tok _,⟨_,rfl⟩,q⟩
   have n:decide (k < -(2 ^ 63:Int))=false:=dF (by omega);have m:decide (k ≥ 2 ^ 63)=false:=dF (by omega);rw[n,m];rfl;have e:(a.length:Int) * k=((a.length * k.toNat:Nat):Int):=by rw[Int.natCast_mul,Int.toNat_of_nonneg (by omega)]
   have p:sizeLine=16777216:=QS;have:=Int.le_ediv_of_mul_le (a:=(a.length:Int)) (b:=2 ^ 63 - 1) (c:=k) (by omega) (by rw[e];omega);omega;unfold Builtin.Str.tooLong;exact dF (by omega)
  |_=>exact Qb h
 |ref a =>
  cases y with|int k=>exact c9 z s l H _ _ v u Q I f w h|_=>exact Qb h
 |_=>exact Qb h
end
end L2.L3
namespace L2
open PySem PySem.Spec PyProof.Rows
section
variable{x:Type}[DecidableEq x]
section
variable{p:x×V}{r kvs:List (x×V)}{vs:List (x×Value)}{u:Value}
def LJ(kvs:List (x×V))(k:x):Option V:=(kvs.find? λkv=>decide (kv.1=k)).map (·.2)
def xR(kvs:List (x×V))(k:x)(v:V):List (x×V) :=
 if(kvs.any λkv=>decide (kv.1=k))=true then kvs.map (λkv=>if kv.1=k then(kv.1,v) else kv) else kvs++[(k,v)]
theorem GJ{k:x}(e:p.1=k):LJ (p::r) k=some p.2:=by simp[LJ,wT,e]
theorem HJ{k:x}(e:¬ p.1=k):LJ (p::r) k=LJ r k:=by simp[LJ,wT,e]
theorem ZO(k:x):∀kvs:List (x×V),(kvs.any λkv=>decide (kv.1=k))=(LJ kvs k).isSome
 |[]=>rfl|p::r=>by rw[WP];by_cases e:p.1=k;simp only[GJ e,dT e,Bool.true_or,Option.isSome_some];rw[HJ e,dF e,QBY];exact ZO k r
theorem BP(kvs:List (x×V))(k:x)(v:V):(xR kvs k v).length<=kvs.length+1:=by unfold xR;split;rw[QF];omega;rw[QL,QM,Q6];omega
theorem VQ.isSome_eq{o:Option V}{u:Option Value}(r:VQ o u):o.isSome=u.isSome:=by
 cases o with
 |none=>cases u with|none=>rfl|some _=>exact(show False from r).elim
 |some _=>cases u with|none=>exact(show False from r).elim|some _=>rfl
theorem KV.val(r:KV kvs vs)(k:x):VQ (LJ kvs k) (valueAt vs k):=by
 unfold KV at r;induction r with
 |nil=>exact True.intro|@cons p q g y h t a =>
  obtain⟨w,f⟩:=h;by_cases e:p.1=k;have v:q.1=k:=w.symm.trans e;have b:valueAt (q::y) k=some q.2:=by simp[valueAt,wT,v]
  rw[GJ e,b];exact f;have v:¬ q.1=k:=λz=>e (w.trans z);have b:valueAt (q::y) k=valueAt y k:=by simp[valueAt,wT,v]
  rw[HJ e,b];exact a
theorem KV.any(r:KV kvs vs)(k:x):(kvs.any λkv=>decide (kv.1=k))=vs.any λkv=>decide (kv.1=k):=by
 unfold KV at r;induction r with|nil=>rfl|cons h t y=>rw[WP,WP,y,h.1]
theorem KV.repl(r:KV kvs vs)(k:x){y:V}(w:rA y u) :
  KV (kvs.map λkv=>if kv.1=k then(kv.1,y) else kv) (vs.map λkv=>if kv.1=k then(kv.1,u) else kv):=by
 unfold KV at r ⊢;induction r with|nil=>exact .nil|@cons p q g f h t a=>rw[QO,QO];refine .cons ?_ a;obtain⟨v,b⟩:=h;by_cases e:p.1=k;rw[if_pos e,if_pos (v.symm.trans e)];exact⟨v,w⟩;rw[if_neg e,if_neg (λz=>e (v.trans z))];exact⟨v,b⟩
theorem KV.put(r:KV kvs vs)(k:x){y:V}(h:rA y u):KV (xR kvs k y) (stored vs k u):=by unfold xR stored;rw[r.any k];by_cases e:(vs.any λkv=>decide (kv.1=k))=true;rw[if_pos e,if_pos e];exact r.repl k h;rw[if_neg e,if_neg e];exact Paired.snoc r ⟨rfl,h⟩
theorem KV.length(r:KV kvs vs):kvs.length=vs.length:=qW r
end
end
theorem jJ{P:Program}{w:World}{k:Key}{u:Value}(r:rA (kV k) u):(OA P w).is k u=true:=by
 cases k with|inl i=>obtain⟨t,e⟩:=(show ∃t,u=Value.int i t from r);subst e;exact iP P w i t|inr x=>obtain⟨t,e⟩:=(show ∃t,u=Value.str x t from r);subst e;exact eP P w x t
theorem cM{P:Program}{w:World}:∀{ks:List Key}{us:List Value},dA (ks.map kV) us->ItemsAre (OA P w) ks us
 |[],_,r=>by rw[wI]at r;cases r;exact .nil|k::ks,_,r=>by
  rw[QO]at r;cases r with|cons h t=>exact .cons (jJ h) (cM t)
end L2
namespace L2.L3
open PySem PySem.Spec PyProof.Rows
section
variable{r kvs:List KE}{k:List Key}{xs:List (List Key×Addr×Value)}
noncomputable abbrev KE:=List Key×Addr×V
def aG(kvs:List KE)(k:List Key):Option V:=(kvs.find? λp=>decide (p.1=k)).map (·.2.2)
def uK(kvs:List KE)(k:List Key)(b:Addr)(v:V):List KE :=
 if(aG kvs k).isSome=true then kvs.map (λp=>if p.1=k then(p.1,p.2.1,v) else p) else kvs++[(k,b,v)]
noncomputable abbrev KD:List KE->List (List Key×Addr×Value)->Prop:=Paired λ(p:List Key×Addr×V) (q:List Key×Addr×Value)=>p.1=q.1/\p.2.1=q.2.1/\rA p.2.2 q.2.2
theorem KO{p:KE}(e:p.1=k):aG (p::r) k=some p.2.2:=by simp[aG,wT,e]
theorem VO{p:KE}(e:¬ p.1=k):aG (p::r) k=aG r k:=by simp[aG,wT,e]
theorem KD.val(r:KD kvs xs)(k:List Key):VQ (aG kvs k) ((atKey xs k).map (·.2)):=by
 induction r with
 |nil=>exact True.intro|@cons p q a x h t v =>
  obtain⟨u,_,w⟩:=h;by_cases e:p.1=k;have y:q.1=k:=u.symm.trans e;have b:atKey (q::x) k=some q.2:=by simp[atKey,wT,y]
  rw[KO e,b];exact w;have y:¬ q.1=k:=λz=>e (u.trans z);have b:atKey (q::x) k=atKey x k:=by simp[atKey,wT,y]
  rw[VO e,b];exact v
theorem KD.put(r:KD kvs xs)(k:List Key)(b:Addr){y:V}{u:Value}(v:rA y u):KD (uK kvs k b y) (storedH xs k b u):=by
 have e:(aG kvs k).isSome=(atKey xs k).isSome:=by rw[(r.val k).isSome_eq,QAj]
 unfold uK storedH;rw[e];by_cases q:(atKey xs k).isSome=true;rw[if_pos q,if_pos q];clear e q;induction r with|nil=>exact .nil|@cons p q i g h t a=>rw[QO,QO];refine .cons ?_ a;obtain⟨x,w,f⟩:=h;unfold putAt;by_cases e:p.1=k;rw[if_pos e,if_pos (x.symm.trans e)];exact⟨x,w,v⟩;rw[if_neg e,if_neg (λz=>e (x.trans z))];exact⟨x,w,f⟩
 rw[if_neg q,if_neg q];exact Paired.snoc r ⟨rfl,rfl,v⟩
theorem CP(kvs:List KE)(k:List Key)(b:Addr)(v:V):(uK kvs k b v).length<=kvs.length+1:=by unfold uK;split;rw[QF];omega;rw[QL,QM,Q6];omega
def vG(K:QC)(H:Hp)(kvs:List KE):Prop:=∀p∈kvs,XC K H p.2.1 (p.1.map kV)
theorem Inv.big{X:Cx}{x:NB}{σ:St}{H:Hp}{s:Shared}(I:Inv X x σ H s):sysModules<s.heap.objs.size:=by have h:mainGlobals<s.heap.objs.size:=(I.mod.glob.keeps I.bk).lt;exact QA8 (by decide) h
end
section
variable{X:Cx}{u:NB}{σ:St}{H:Hp}{s:Shared}{a b:Addr}
theorem BR{k:List Key}(I:Inv X u σ H s)(h:XC X.K H b (k.map kV)):(tupleKind (OA X.prog X.w)).is s.heap k b:=by obtain⟨x,r,⟨o,v,z,n,y⟩,_⟩:=I.tuple h;exact⟨o,x.toArray,n,v,z,y,by simpa using cM r⟩
theorem yJ{ep:Nat}{kvs:List KE}(I:Inv X u σ H s)(e:H a=some (.dT ep kvs))(hk:vG X.K H kvs):kvs.length<=sizeLine/\(a==sysModules)=false/\∃xs,KD kvs xs/\s.heap.DictOfH (tupleKind (OA X.prog X.w)) a xs:=by
 obtain⟨z,y,xs,r,o,n,m,l,j,f,k⟩:=(show LA X.prog X.w H s.heap a (.dT ep kvs) from I.hok a _ e)
 refine⟨z,y,xs,r,o,n,ep,m,l,j,f,?_,k⟩;clear f k z e;induction r with
 |nil=>intro x h;exact nomatch h
 |@cons p q Z Y v t g=>intro x h;rcases QK.mp h with e|h;subst e;rw[<- v.1,<- v.2.1];exact BR I (hk p QE);exact g (λp i=>hk p (QG _ i)) x h
theorem xQ{kvs:List (Key×V)}(I:Inv X u σ H s)(e:H a=some (.dK kvs)):kvs.length<=sizeLine/\(a==sysModules)=false/\∃vs,KV kvs vs/\s.heap.DictOf (OA X.prog X.w) a vs :=
 show LA X.prog X.w H s.heap a (.dK kvs) from I.hok a _ e
end
theorem YZ{X:Cx}{h:NB}{σ:St}{H:Hp}{s:Shared}{a:Addr}{ep:Nat}(I:Inv X h σ H s)(e:H a=some (.dT ep [])):(a==sysModules)=false/\s.heap.DictOf (OA X.prog X.w) a []:=by
 obtain⟨z,y,g,r,o,f,b,k,v,u,i⟩:=(show LA X.prog X.w H s.heap a (.dT ep []) from I.hok a _ e)
 cases r;have x:f=#[]:=by apply W7.mp;simpa using u
 subst x;exact⟨y,o,#[],ep,b,k,v,λe x=>by simp at x,.nil,Qy⟩
def kD:Key->PyData
 | .inl i=>.int i|.inr x=>.str x
def tD(k:List Key):PyData:=.tuple (k.map kD)
theorem DR{a b:Key}(e:kD a=kD b):a=b:=by
 cases a with
 |inl i=>cases b with|inl j=>injection e with e;rw[e]|inr y=>exact nomatch (show PyData.int i=PyData.str y from e)
 |inr x=>cases b with
  |inl j=>exact nomatch (show PyData.str x=PyData.int j from e)
  |inr y=>injection e with e;rw[e]
theorem RT:∀{a b:List Key},a.map kD=b.map kD->a=b
 |[],[],_=>rfl|[],_::_,e=>by simp at e|_::_,[],e=>by simp at e|x::xs,y::ys,e=>by rw[QO,QO]at e;injection e with e1 e2;rw[DR e1,RT e2]
theorem HW{a b:List Key}(e:tD a=tD b):a=b:=by injection e with e;exact RT e
def xI(K:QC)(H:Hp)(b:Bool)(o:HO)(ks:List PyData)(vs:List V):Prop:=match b with
 |true=>∃x,∃h:List KE,o=.dT x h/\ks=h.map (λp=>tD p.1)/\vs=h.map (·.2.2)/\vG K H h/\(h.map (·.1)).Nodup|false=>(∃h:List (Key×V),h≠[]/\o=.dK h/\ks=h.map (λp=>kD p.1)/\vs=h.map (·.2)/\(h.map (·.1)).Nodup)∨∃x,o=.dT x []/\ks=[]/\vs=[]
theorem xI.len{K:QC}{H:Hp}{b:Bool}{o:HO}{ks:List PyData}{vs:List V}(h:xI K H b o ks vs):ks.length=vs.length:=by
 cases b with|true=>obtain⟨y,x,_,rfl,rfl,_⟩:=h;simp|false=>rcases h with⟨x,_,_,rfl,rfl,_⟩| ⟨_,_,rfl,rfl⟩<;>simp
def sO(K:QC)(H:Hp)(a:Addr)(y:V)(r:Option V):Prop:=match y with
 | .str z=>(∃h,H a=some (.dK h)/\r=LJ h (.inr z))∨∃x,H a=some (.dT x [])/\r=none|.ref b=>∃x h k,H a=some (.dT x h)/\vG K H h/\XC K H b (k.map kV)/\r=aG h k|_=>False
def kc(K:QC)(H:Hp)(a:Addr)(y v:V)(Q:Hp->Prop):Prop:=match y with
 | .str z=>(∃h,H a=some (.dK h)/\h.length<sizeLine/\Q (DA H a (.dK (xR h (.inr z) v))))∨∃u,H a=some (.dT u [])/\Q (DA H a (.dK [(.inr z,v)]))|.ref b=>∃u h k,H a=some (.dT u h)/\vG K H h/\XC K H b (k.map kV)/\h.length<sizeLine/\∀x,Q (DA H a (.dT x (uK h k b v)))|_=>False
theorem TL{v:V}{o:Option Value}(r:VQ (some v) o):∃w,o=some w/\rA v w:=by
 cases o with|none=>exact(show False from r).elim|some w=>exact⟨w,rfl,r⟩
section
variable{X:Cx}
section
variable{c:NB}{s:Shared}{σ:St}{H:Hp}{a:Addr}{u:Value}{o:Option V}{h':Heap}{pos:Pos}
theorem U5(P:X.A.units+66<cLine):o0 X (λx y H Q=>∃a v,x=.ref a/\sO X.K H a y (some v)/\Q v H):=by
 intro n Y c s σ H x y v u Q I J C h E;obtain⟨a,r,rfl,g,q⟩:=h;cases J;cases y with
 |str z =>
  rcases g with⟨W,e,l⟩| ⟨N,e,l⟩
  rotate_left
  cases l;obtain⟨_,M,G,f,m⟩:=xQ I e;obtain⟨i,B,w⟩:=TL (v:=r) (o:=valueAt G (.inr z)) (by rw[l];exact f.val _);exact WI (x:=i) m.typeIs QAc.lookup
   (wpAny_getItem_of (Q:=λr Z=>r=i/\EP X c σ Q r Z) (jJ (k:=.inr z) C) m.mapOf B ⟨rfl,r,H,I.tok _,w,q⟩) E
 |ref b =>
  obtain⟨N,W,k,e,hk,O,l⟩:=g;cases C;obtain⟨_,M,F,f,m⟩:=yJ I e hk;obtain⟨i,B,w⟩:=TL (v:=r) (o:=(atKey F k).map (·.2)) (by rw[l];exact f.val _);obtain⟨p,L,j⟩:=Option.map_eq_some_iff.mp B;refine WI (x:=i) m.typeIs QAc.lookup
   (wpAny_getItem_heap (Q:=λr Z=>r=i/\EP X c σ Q r Z) (WK (by omega)) (BR I O) m L ?_) E
  exact⟨j,r,H,I.tok _,by rw[j];exact w,q⟩
 |_=>exact Qb g
theorem L5(r:X.A.units+66<cLine){y:V}{Q:VK}(I:Inv X c σ H s)(f:rA y u)(g:sO X.K H a y o)(q:Q (.bl o.isSome) H) :
  wpAny (model X.prog X.w) X.A (compareOp .In u (.ref a)) (EP X c σ Q) X.xe s:=by
 cases y with
 |str z =>
  rcases g with⟨i,e,l⟩| ⟨j,e,l⟩
  rotate_left
  subst l;obtain⟨x,v⟩:=YZ I e;exact wpAny_in_of (jJ (k:=.inr z) f) x v.mapOf ⟨.bl false,H,I.tok _,rfl,q⟩;obtain⟨_,x,p,h,v⟩:=xQ I e;refine wpAny_in_of (jJ (k:=.inr z) f) x v.mapOf ⟨.bl o.isSome,H,I.tok _,?_,q⟩;rw[<- (h.val (.inr z)).isSome_eq,<- l];rfl
 |ref b=>obtain⟨j,i,k,e,hk,m,l⟩:=g;cases f;obtain⟨_,x,n,h,v⟩:=yJ I e hk;refine wpAny_in_heap (WK (by omega)) (BR I m) x v ⟨.bl o.isSome,H,I.tok _,?_,q⟩;have q:=(h.val k).isSome_eq;rw[QAj]at q;rw[<- q,<- l];rfl|_=>exact Qb g
theorem tR(r:X.A.units+66<cLine){y:V}{Q:VK}(I:Inv X c σ H s)(f:rA y u)(g:sO X.K H a y o)(q:Q (.bl (!o.isSome)) H) :
  wpAny (model X.prog X.w) X.A (compareOp .NotIn u (.ref a)) (EP X c σ Q) X.xe s:=by
 cases y with
 |str z =>
  rcases g with⟨i,e,l⟩| ⟨j,e,l⟩
  rotate_left
  subst l;obtain⟨x,v⟩:=YZ I e;exact wpAny_notIn_of (jJ (k:=.inr z) f) x v.mapOf ⟨.bl true,H,I.tok _,rfl,q⟩;obtain⟨_,x,p,h,v⟩:=xQ I e;refine wpAny_notIn_of (jJ (k:=.inr z) f) x v.mapOf ⟨.bl (!o.isSome),H,I.tok _,?_,q⟩;rw[<- (h.val (.inr z)).isSome_eq,<- l];rfl
 |ref b=>obtain⟨j,i,k,e,hk,m,l⟩:=g;cases f;obtain⟨_,x,n,h,v⟩:=yJ I e hk;refine wpAny_notIn_heap (WK (by omega)) (BR I m) x v ⟨.bl (!o.isSome),H,I.tok _,?_,q⟩;have q:=(h.val k).isSome_eq;rw[QAj]at q;rw[<- q,<- l];rfl|_=>exact Qb g
theorem AN{t':Nat}{h:HO}(I:Inv X c σ H s)(y:Jc (H a))(v:qR a s.heap h')(k:∃q,h'.get? a=some q)(new:LA X.prog X.w (DA H a h) h' a h) :
  Inv X c σ (DA H a h) { s with heap:=h',toks:=t' } :=
 I.write (x:=a) (e:=a) y (.inl rfl) (λb q hb z=>(v.2 b hb).trans z) k new
theorem MK{t':Nat}{kvs:List KE}{xs:List (List Key×Addr×Value)}(I:Inv X c σ H s)(y:Jc (H a))(v:(a==sysModules)=false)(hz:kvs.length<=sizeLine)(h:KD kvs xs)
  (i:h'.DictOfH (tupleKind (OA X.prog X.w)) a xs) (z:qR a s.heap h'):∃ep,Inv X c σ (DA H a (.dT ep kvs)) { s with heap:=h',toks:=t' }:=by
 obtain⟨q,g,ep,x,f,e,b,_,k⟩:=i;exact⟨ep,AN I y z ⟨q,x⟩ ⟨hz,v,xs,h,q,g,x,f,e,b,k⟩⟩
def setD(K:QC)(o y v:V)(H:Hp)(Q:Hp->Prop):Prop:=match o with
 | .ref a=>kc K H a y v Q|_=>False
theorem MO(M:X.A.units+66<cLine):J6 X (setD X.K):=by
 intro c s σ H o y v J L u Q I W n m h;cases o with
 |ref a =>
  cases W;cases y with
  |str z =>
   rcases h with⟨f,e,l,q⟩| ⟨B,e,q⟩
   rotate_left
   obtain⟨i,j⟩:=YZ I e;refine QBS (hsz:=Q5 _) (jJ (k:=.inr z) n) j λh' x g=>⟨_,?_,q⟩
   have Y:∃q,h'.get? a=some q:=let⟨q,_,_,r,_⟩:=x;⟨q,r⟩
   exact AN I (by rw[e];exact True.intro) g Y ⟨by simp;decide,i,_,.cons ⟨rfl,m⟩ .nil,x⟩;obtain⟨p,i,G,w,j⟩:=xQ I e;have hl:(xR f (.inr z) v).length<=sizeLine:=by have:=BP f (.inr z) v;omega
   refine QBS (hsz:=by rw[<- w.length];exact p) (jJ (k:=.inr z) n) j λh' x g=>⟨_,?_,q⟩
   have Y:∃q,h'.get? a=some q:=let⟨q,_,_,r,_⟩:=x;⟨q,r⟩
   exact AN I (by rw[e];exact True.intro) g Y ⟨hl,i,_,w.put _ m,x⟩
  |ref b =>
   obtain⟨B,f,k,e,hk,C,l,q⟩:=h;cases n;obtain⟨p,i,F,w,j⟩:=yJ I e hk;have hl:(uK f k b v).length<=sizeLine:=by have:=CP f k b v;omega
   refine wpAny_setItem_heap (hsz:=by rw[<- qW w];exact p) (WK (by omega)) (BR I C) j λh' x g=>?_;obtain⟨Z,E⟩:=MK (t':=_) I (by rw[e];exact True.intro) i hl (w.put k b m) x g;exact⟨_,E,q Z⟩
  |_=>exact Qb h
 |_=>exact Qb h
theorem V7{P:Program}{w:World}(h:Heap)(hb:sysModules<h.objs.size):LA P w H (h.push { cls:=.type "dict",data:=.dict #[] }) h.objs.size (.dT 0 []) :=
 ⟨Q5 _,beq_eq_false_iff_ne.mpr (Q1 (Qa hb)),[],.nil,_,#[],QN _ rfl,⟨rfl,rfl,rfl⟩,rfl,rfl,Qy⟩
theorem G3:PE X (.Dict [] [] pos) (λ_ H Q=>∀p,H p=none->Q (.ref p) (DA H p (.dT 0 []))):=λc s σ H Q I h =>
 wpAny_Dict_empty ⟨.ref s.heap.objs.size,_,I.laid (a:=s.heap.objs.size) (o:=.dT 0 []) (t':=s.toks) (λ_ _ q=>QH _ q) (QU _) (V7 s.heap (Inv.big I)),rfl,h _ (I.hok.fresh (QU _))⟩
theorem C3(hu:X.A.units+66<cLine){k v:Expr}{l j:TE}(hk:PE X k l)(hv:PE X v j) :
  PE X (.Dict [some k] [v] pos) (λσ H Q=>∀p,H p=none->l σ (DA H p (.dT 0 [])) λy i=>j σ i λv h=>h p=some (.dT 0 [])/\∃b ks,y=.ref b/\XC X.K h b (ks.map kV)/\∀ep,Q (.ref p) (DA h p (.dT ep [(ks,b,v)]))):=by
 intro c s σ H Q I q;have E:=I.hok.fresh (QU s.heap.objs.size);have N:=I.laid (a:=s.heap.objs.size) (o:=.dT 0 []) (h':=s.heap.push { cls:=.type "dict",data:=.dict #[] }) (t':=s.toks) (λ_ _ q=>QH _ q) (QU _) (V7 s.heap (Inv.big I));refine wpAny_Dict_any rfl rfl (by simp) (by simp) (pairTrees_cons_walk (LB (hk c _ σ _ _ N (q _ E)) λu n ⟨y,i,M,Y,W⟩=>LB (hv c n σ i _ M W) λm R ⟨z,h,g,r,e,b,ks,G,J,Z⟩=>pairTrees_nil_walk ?_));subst G;cases Y;obtain⟨S,F,P,x,L⟩:=yJ g e (λp C=>nomatch C);cases x;show wpAny _ _ (forIn [(Value.ref b,m)] PUnit.unit _) _ _ _;rw[QA6];refine QA (QA (wpAny_dictSet_heap (hsz:=Q5 _) (show X.A.units<cLine by omega) (BR g J) L λh' f B=>QJ ?_));show wpAny _ _ (forIn ([]:List (Value×Value)) _ _) _ _ _;rw[QBN];obtain⟨w,O⟩:=MK (t':=_) (kvs:=[(ks,b,z)]) g (by rw[e];exact True.intro) F (by simp;decide) (.cons ⟨rfl,rfl,r⟩ .nil) f B;exact QJ ⟨.ref _,_,O,rfl,Z w⟩
end
end
mutual
inductive Rep(K:QC)(H:Hp):V->PyData->Prop where
 |non:Rep K H .non .none
 |bl (b:Bool):Rep K H (.bl b) (.bool b)
 |int (i:Int):Rep K H (.int i) (.int i)
 |str (x:Str):Rep K H (.str x) (.str x)
 |lst {a:Addr}{xs:List V}{ds:List PyData}:yC K H a xs->Reps K H xs ds->Rep K H (.ref a) (.list ds)
 |tup {a:Addr}{xs:List V}{ds:List PyData}:XC K H a xs->Reps K H xs ds->Rep K H (.ref a) (.tuple ds)
 |dct {b:Bool}{a:Addr}{o:HO}{ks:List PyData}{xs:List V}{ds:List PyData}:H a=some o->xI K H b o ks xs->Reps K H xs ds->Rep K H (.ref a) (.dict (ks.zip ds))
inductive Reps(K:QC)(H:Hp):List V->List PyData->Prop where
 |nil:Reps K H [] []
 |cons {x:V}{d:PyData}{xs:List V}{ds:List PyData}:Rep K H x d->Reps K H xs ds->Reps K H (x::xs) (d::ds)
end
section
variable{K:QC}{H:Hp}{R:List V->List PyData->Prop}{xs:List V}{ds:List PyData}
theorem Rep.both{P:V->PyData->Prop}(z:P .non .none)(v:∀b,P (.bl b) (.bool b))(int:∀i,P (.int i) (.int i))(str:∀x,P (.str x) (.str x))
    (lst:∀{a:Addr}{xs:List V}{ds:List PyData},yC K H a xs->Reps K H xs ds->R xs ds->P (.ref a) (.list ds))
    (tup:∀{a:Addr}{xs:List V}{ds:List PyData},XC K H a xs->Reps K H xs ds->R xs ds->P (.ref a) (.tuple ds))
    (dct:∀{b:Bool}{a:Addr}{o:HO}{ks:List PyData}{xs:List V}{ds:List PyData},H a=some o->xI K H b o ks xs->Reps K H xs ds->R xs ds->P (.ref a) (.dict (ks.zip ds)))
    (u:R [] []) (y:∀{x:V}{d:PyData}{xs:List V}{ds:List PyData},Rep K H x d->Reps K H xs ds->P x d->R xs ds->R (x::xs) (d::ds)) :
    (∀{x:V}{d:PyData},Rep K H x d->P x d)/\∀{xs:List V}{ds:List PyData},Reps K H xs ds->R xs ds :=
  ⟨λh=>Rep.rec (motive_1:=λx d _=>P x d) (motive_2:=λx d _=>R x d) z v int str @lst @tup @dct u @y h,
   λh=>Reps.rec (motive_1:=λx d _=>P x d) (motive_2:=λx d _=>R x d) z v int str @lst @tup @dct u @y h⟩
theorem Reps.ind(z:R [] [])(y:∀{x:V}{d:PyData}{xs:List V}{ds:List PyData},Rep K H x d->R xs ds->R (x::xs) (d::ds))(h:Reps K H xs ds):R xs ds :=
 (Rep.both (P:=λ_ _=>True) trivial (λ_=>trivial) (λ_=>trivial) (λ_=>trivial) (λ_ _ _=>trivial) (λ_ _ _=>trivial) (λ_ _ _ _=>trivial) z λh _ _ r=>y h r).2 h
theorem Reps.length(h:Reps K H xs ds):xs.length=ds.length:=Reps.ind (R:=λxs ds=>xs.length=ds.length) rfl (λ_ e=>congrArg Nat.succ e) h
end
section
variable{X:Cx}{l:NB}{σ:St}{H:Hp}{s:Shared}
section
variable{kvs:List (Key×V)}{xs:List (List Key×Addr×Value)}{vs:List (Key×Value)}
theorem vR{k:List Key}:∀{us:List Value},dA (k.map kV) us->∃y,ReadsAll s.heap us (k.map kD) y:=by
 induction k with
 |nil=>intro us h;cases h;exact⟨_,.nil⟩|cons x k z =>
  intro us h;cases h with
  |cons e r =>
   obtain⟨y,q⟩:=z r;cases x with|inl i=>obtain⟨t,rfl⟩:=e;exact⟨_,.cons (.int i t) q⟩|inr x=>obtain⟨t,rfl⟩:=e;exact⟨_,.cons (.str x t) q⟩
theorem nX(I:Inv X l σ H s){kvs:List KE}(r:KD kvs xs)(hk:vG X.K H kvs):∃y,ReadsAll s.heap (xs.map λx=>.ref x.2.1) (kvs.map λp=>tD p.1) y:=by
 induction r with|nil=>exact⟨_,.nil⟩|@cons p x _ _ h t w=>obtain⟨y,q⟩:=w λp k=>hk p (QG _ k);obtain⟨v,z,⟨o,e,c,n,d⟩,_⟩:=I.tuple (hk p QE);obtain⟨bs,u⟩:=vR (s:=s) z;rw[h.2.1]at e;exact⟨_,.cons (.tuple e c d (by simpa using u)) q⟩
theorem jP{P:Program}{w:World}{es:List DictEntry}(hk:KV kvs vs)(u:Pairs (OA P w) es vs):(∃v,ReadsAll s.heap (es.map (·.key)) (kvs.map λp=>kD p.1) v)/\es.map (·.val)=vs.map (·.2):=by
 unfold KV at hk;induction hk generalizing es with
 |nil=>cases u;exact⟨⟨_,.nil⟩,rfl⟩|cons h t e =>
  cases u with
  |cons a b c =>
   obtain⟨⟨v,q⟩,k⟩:=e c;refine⟨?_,by rw[QO,QO,k,b]⟩;rw[QO,QO];rw[<- h.1]at a;rcases SA a with⟨i,t,z,y⟩| ⟨x,t,z,y⟩
   rw[z,y];exact⟨_,.cons (.int i t) q⟩;rw[z,y];exact⟨_,.cons (.str x t) q⟩
theorem B1{kvs:List KE}(r:KD kvs xs):dA (kvs.map (·.2.2)) (xs.map (·.2.2)):=by
 induction r with|nil=>exact .nil|cons h _ x=>exact .cons h.2.2 x
theorem U1(r:KV kvs vs):dA (kvs.map (·.2)) (vs.map (·.2)):=by
 induction r with|nil=>exact .nil|cons h _ x=>exact .cons h.2 x
theorem kW(I:Inv X l σ H s){b:Bool}{a:Addr}{o:HO}{ks:List PyData}{xs:List V}(h:H a=some o)(q:xI X.K H b o ks xs):∃y es ep us,s.heap.get? a=some y/\y.cls=.type "dict"/\y.dict=none/\y.data=.dict es ep/\(a==sysModules)=false /\
  (∃m,ReadsAll s.heap (es.toList.map (·.key)) ks m)/\dA xs us/\es.toList.map (·.val)=us:=by
 cases b with
 |true=>obtain⟨f,kvs,rfl,rfl,rfl,hk,_⟩:=q;obtain⟨_,w,g,x,y,es,ep,e,u,k,v,_⟩:=yJ I h hk;refine⟨y,es,ep,_,e,u.1,u.2.1,k,w,?_,B1 x,?_⟩;rw[v,Qd];exact nX I x hk;rw[v,Qd];rfl|false =>
  rcases q with⟨kvs,_,rfl,rfl,rfl,_⟩| ⟨f,rfl,rfl,rfl⟩
  rotate_left
  obtain⟨_,w,g,x,y,es,ep,e,u,k,v,_⟩:=yJ I h λ_ z=>nomatch z;cases x;exact⟨y,es,ep,[],e,u.1,u.2.1,k,w,⟨_,by rw[v];exact .nil⟩,.nil,by rw[v];rfl⟩;obtain⟨_,w,vs,x,y,es,ep,e,u,k,_,v,_⟩:=xQ I h;obtain⟨j,i⟩:=jP (s:=s) x v;exact⟨y,es,ep,_,e,u.1,u.2.1,k,w,j,U1 x,i⟩
theorem Rep.reads2(I:Inv X l σ H s):(∀{x:V}{d:PyData},Rep X.K H x d->∀u,rA x u->∃y,Reads s.heap u d y)/\∀{xs:List V}{ds:List PyData},Reps X.K H xs ds->∀us,dA xs us->∃y,ReadsAll s.heap us ds y:=by
 refine Rep.both (P:=λx d=>∀u,rA x u->∃y,Reads s.heap u d y) (R:=λxs ds=>∀us,dA xs us->∃y,ReadsAll s.heap us ds y) (λu r=>?_) (λb u r=>?_) (λi u r=>?_) (λx u r=>?_) (λh q v u r=>?_) (λh q v u r=>?_) (λ{b a o w xs ds} h q r v u m=>?_) (λus r=>?_) λ_ _ Y p us r=>?_;cases r;exact⟨_,.none⟩;cases r;exact⟨_,.bool b⟩;obtain⟨t,rfl⟩:=r;exact⟨_,.int i t⟩;obtain⟨t,rfl⟩:=r;exact⟨_,.str x t⟩;cases r;obtain⟨g,k,⟨o,n,e,c,_,d⟩,_⟩:=I.list h;obtain⟨y,z⟩:=v _ k;exact⟨_,.list e c d (by simpa using z)⟩;cases r;obtain⟨g,k,⟨o,e,c,n,d⟩,_⟩:=I.tuple h;obtain⟨y,z⟩:=v _ k;exact⟨_,.tuple e c d (by simpa using z)⟩;cases m;obtain⟨J,N,O,us,E,C,M,B,L,⟨y,A⟩,W,Z⟩:=kW I h q;obtain⟨bs,f⟩:=v _ W;have hl:w.length=ds.length:=by rw[q.len,Reps.length r]
 have G:(w.zip ds).map (λx=>x.1)=w:=W8 (Ww hl);have F:(w.zip ds).map (λx=>x.2)=ds:=W9 (Ww hl.symm);exact⟨_,.dict E C B (by rw[G];exact A) (by rw[F,Z];exact f)⟩;cases r;exact⟨_,.nil⟩;cases r with|cons r j=>obtain⟨y,z⟩:=Y _ r;obtain⟨bs,f⟩:=p _ j;exact⟨_,.cons z f⟩
theorem Rep.reads(I:Inv X l σ H s){x:V}{d:PyData}{u:Value}(h:Rep X.K H x d)(r:rA x u):∃y,Reads s.heap u d y:=(Rep.reads2 I).1 h u r
def eE(d:PyData):Prop:=d.canLay0=true/\d.depth<=64
noncomputable def rEq(K:QC)(neg:Bool):R2:=λx y H Q=>match x,y with
 | .int i,.int j=>Q (.bl (if neg then !decide (i=j) else decide (i=j))) H|.str a,.str b=>Q (.bl (if neg then !decide (a=b) else decide (a=b))) H|.bl a,.bl b=>Q (.bl (if neg then !decide (a=b) else decide (a=b))) H|x,y=>∃z h,Rep K H x z/\Rep K H y h/\eE z/\eE h/\Q (.bl (if neg then !PyData.eqv z h else Qz z h)) H
theorem op_eq(B:X.A.units+64<cLine):tF X (compareOp .Eq) (rEq X.K false):=by
 intro l s σ H x y v u Q I n m h;have z:(∃e k,Rep X.K H x e/\Rep X.K H y k/\eE e/\eE k/\Q (.bl (if false=true then !PyData.eqv e k else Qz e k)) H)->wpAny (model X.prog X.w) X.A (compareOp .Eq v u) (EP X l σ Q) X.xe s:=by rintro⟨e,k,g,f,⟨Y,W⟩,⟨r,Z⟩,q⟩;obtain⟨C,p⟩:=g.reads I n;obtain⟨bs,o⟩:=f.reads I m;exact SeqAt.compareEq_reads p o Y r (by omega) ⟨.bl _,H,I,rfl,q⟩
 have sc:K2 x y=true->Q (.bl (decide (x=y))) H->wpAny (model X.prog X.w) X.A (compareOp .Eq v u) (EP X l σ Q) X.xe s:=λg f=>_root_.L2.op_eq l s σ H x y v u Q I n m ⟨g,f⟩;cases x with
 |int i =>
  cases y with|int j=>exact sc rfl (by simpa[rEq]using h)|_=>exact z h
 |str a =>
  cases y with|str b=>exact sc rfl (by simpa[rEq]using h)|_=>exact z h
 |bl a =>
  cases y with|bl b=>exact sc rfl (by simpa[rEq]using h)|_=>exact z h
 |_=>exact z h
theorem op_ne(B:X.A.units+64<cLine):tF X (compareOp .NotEq) (rEq X.K true):=by
 intro l s σ H x y v u Q I n m h;have z:(∃e k,Rep X.K H x e/\Rep X.K H y k/\eE e/\eE k/\Q (.bl (if true=true then !PyData.eqv e k else Qz e k)) H)->wpAny (model X.prog X.w) X.A (compareOp .NotEq v u) (EP X l σ Q) X.xe s:=by rintro⟨e,k,g,f,⟨Y,W⟩,⟨r,Z⟩,q⟩;obtain⟨C,p⟩:=g.reads I n;obtain⟨bs,o⟩:=f.reads I m;exact SeqAt.compareNe_reads p o Y r (by omega) ⟨.bl _,H,I,rfl,q⟩
 have sc:K2 x y=true->Q (.bl (!decide (x=y))) H->wpAny (model X.prog X.w) X.A (compareOp .NotEq v u) (EP X l σ Q) X.xe s:=λg f=>_root_.L2.op_ne l s σ H x y v u Q I n m ⟨g,f⟩;cases x with
 |int i =>
  cases y with|int j=>exact sc rfl (by simpa[rEq]using h)|_=>exact z h
 |str a =>
  cases y with|str b=>exact sc rfl (by simpa[rEq]using h)|_=>exact z h
 |bl a =>
  cases y with|bl b=>exact sc rfl (by simpa[rEq]using h)|_=>exact z h
 |_=>exact z h
def yV(f:Int->Int->Bool):R2:=λx y H Q=>match x,y with
 | .int i,.int j=>Q (.bl (f i j)) H|_,_=>False
theorem mN{z:CmpOp}{f:Int->Int->Bool}(a:tF X (compareOp z) (T2 λi j=>.bl (f i j))):tF X (compareOp z) (yV f):=by
 intro l s σ H x y v u Q I k w h;cases x with
 |int i =>
  cases y with|int j=>exact a l s σ H _ _ v u Q I k w ⟨i,j,rfl,rfl,h⟩|_=>exact Qb h
 |_=>exact Qb h
def inStr(b a:Str):Bool:=match a.cps.toList with
 |[c]=>decide (c∈b.cps.toList)|_=>!(w8 b a 0 b.length 1).isEmpty
theorem IP(b a:Str):inStr b a=!(w8 b a 0 b.length 1).isEmpty:=by
 unfold inStr;split;rename_i c e;have x:a=⟨#[c]⟩:=by
  obtain⟨h⟩:=a;have:h=#[c]:=by apply W7.mp;simpa using e
  rw[this]
 rw[x];exact(StrLaws.found_one b c).symm;rfl
noncomputable def zP(K:QC)(neg:Bool):R2:=λx y H Q=>match y with
 | .str b=>match x with
  | .str a=>Q (.bl (if neg then !inStr b a else inStr b a)) H|_=>False
 | .ref p=>Di K neg x (.ref p) H Q∨(∃d h,Rep K H x d/\(Rep K H (.ref p) (.list h)∨Rep K H (.ref p) (.tuple h))/\eE d/\eE (.list h)/\Q (.bl (if neg then !(h.any λy=>Qz y d) else h.any λy=>Qz y d)) H)∨(∃o,sO K H p x o/\Q (.bl (if neg then !o.isSome else o.isSome)) H)|_=>False
theorem jM{ds:List PyData}(h:eE (.list ds)):qj ds=true/\wU ds<=63:=by obtain⟨x,y⟩:=h;simp only[wC]at x;simp only[wx]at y;exact⟨x,by omega⟩
theorem de(r:X.A.units+66<cLine):tF X (compareOp .In) (zP X.K false):=by
 intro l s σ H x y v u Q I k z h;cases y with
 |str b =>
  cases x with|str a=>refine hV l s σ H _ _ v u Q I k z ⟨a,b,rfl,rfl,?_⟩;rw[<- IP];simpa[zP]using h|_=>exact Qb h
 |ref p =>
  rcases h with h|⟨d,Y,n,w,i,m,q⟩| ⟨o,g,q⟩
  rotate_left 2
  cases z;exact L5 r I k g q;exact lV l s σ H _ _ v u Q I k z h;obtain⟨W,f⟩:=n.reads I k;obtain⟨j,Z⟩:=jM m;rcases w with w|w;obtain⟨bs,e⟩:=w.reads I z;exact SeqAt.in_list_reads e f j i.1 (by omega) ⟨.bl _,H,I,rfl,q⟩;obtain⟨bs,e⟩:=w.reads I z;exact SeqAt.in_tuple_reads e f j i.1 (by omega) ⟨.bl _,H,I,rfl,q⟩
 |_=>exact Qb h
theorem AX(r:X.A.units+66<cLine):tF X (compareOp .NotIn) (zP X.K true):=by
 intro l s σ H x y v u Q I k z h;cases y with
 |str b =>
  cases x with|str a=>refine nN l s σ H _ _ v u Q I k z ⟨a,b,rfl,rfl,?_⟩;rw[<- IP];simpa[zP]using h|_=>exact Qb h
 |ref p =>
  rcases h with h|⟨d,Y,n,w,i,m,q⟩| ⟨o,g,q⟩
  rotate_left 2
  cases z;exact tR r I k g q;exact oN l s σ H _ _ v u Q I k z h;obtain⟨W,f⟩:=n.reads I k;obtain⟨j,Z⟩:=jM m;rcases w with w|w;obtain⟨bs,e⟩:=w.reads I z;exact SeqAt.notIn_list_reads e f j i.1 (by omega) ⟨.bl _,H,I,rfl,q⟩;obtain⟨bs,e⟩:=w.reads I z;exact SeqAt.notIn_tuple_reads e f j i.1 (by omega) ⟨.bl _,H,I,rfl,q⟩
 |_=>exact Qb h
end
end
def jm(z:Str):It:=⟨λi _=>i<z.cps.size,λi H x h=>h=H/\∃c,z.cps[i]?=some c/\x=.str ⟨#[c]⟩,λi _=>z.cps.size<=i⟩
theorem DW{P:Program}{w:World}{K:QC}{tg:Expr}(it:Addr)(z:Str)(t:Tok):Turn P w K tg (jm z) [it] it (λi h=>h.IsStrIter it (strIterType z) z t i) where
 mem:=by simp
 obj:=λi h st b hb=>by
  have e:b=it:=by simpa using hb
  subst e;obtain⟨o,e,c,d⟩:=st;exact⟨o,e,λv z=>by rw[d]at z;cases z⟩
 keep:=λi h a st k=>by obtain⟨o,e,r⟩:=st;exact⟨o,k it (by simp) o e,r⟩
 item:=by
  intro X N J O hc i g s G H E I q st M;subst N J O;obtain⟨C,B,f2,W,Z,Y⟩:=q it (by simp);have L:i<z.cps.size:=M;obtain⟨F,l⟩:∃F,z.cps[i]?=some F:=⟨_,WV L⟩
  have p:∀a,a.IsStrIter it (strIterType z) z t (i+1)->qR it s.heap a->∃u,some (Value.str ⟨#[F]⟩ s.toks)=some u /\
    wpAny (model X.prog X.w) X.A (letOwnedTupleGo tg (.ref it) u) (λ_ s2=>∃x S,Inv X g G S s2/\rA x u/\(jm z).yld i H x S/\s2.heap.IsStrIter it (strIterType z) z t (i+1)/\∀b∈[it],S b=none) E { s with heap:=a,toks:=s.toks+1 }:=λa y m=>by
   have I1:Inv X g G H { s with heap:=a,toks:=s.toks+1 }:=I.turned (λb o hb e=>(m.2 b hb).trans e) C B W Z Y;obtain⟨o,e,c,d⟩:=id y;refine⟨_,rfl,jQ (s:={ s with heap:=a,toks:=s.toks+1 }) (n:=strIterType z) e c d ?_ ⟨.str ⟨#[F]⟩,H,I1,⟨_,rfl⟩,⟨rfl,_,l,rfl⟩,y,λb hb=>(q b hb).1⟩⟩;unfold strIterType;split<;>decide
  cases j:z.cps.all (· < 128) with
  |false =>
   have f:strIterType z="str_iterator":=by simp[strIterType,j]
   exact wpAny_pyNext_wide_item (by rw[<- f];exact st) l λa y m=>p a (by rw[f];exact y) m
  |true =>
   have f:strIterType z="str_ascii_iterator":=by simp[strIterType,j]
   exact wpAny_pyNext_ascii_item (by rw[<- f];exact st) l λa y m=>p a (by rw[f];exact y) m
 done:=by
  intro X N J O hc i g s G H E I q st M;subst N J O;obtain⟨C,B,f2,W,Z,Y⟩:=q it (by simp);have l:z.cps[i]?=none:=by rw[Array.getElem?_eq_none_iff];exact M
  cases j:z.cps.all (· < 128) with
  |false =>
   have f:strIterType z="str_iterator":=by simp[strIterType,j]
   rw[f]at st;exact wpAny_pyNext_wide_end (I.ok.hd hc) st l λa R=>⟨rfl,I.turned (t':=s.toks) (λb o hb e=>R b o hb e) C B W Z Y⟩
  |true =>
   have f:strIterType z="str_ascii_iterator":=by simp[strIterType,j]
   rw[f]at st;exact wpAny_pyNext_ascii_end (I.ok.hd hc) st l λa R=>⟨rfl,I.turned (t':=s.toks) (λb o hb e=>R b o hb e) C B W Z Y⟩
 self:=by
  intro A i s Q E st h;cases j:z.cps.all (· < 128) with
  |false =>
   have f:strIterType z="str_iterator":=by simp[strIterType,j]
   rw[f]at st;exact wpAny_pyIter_striter_wide st h
  |true =>
   have f:strIterType z="str_ascii_iterator":=by simp[strIterType,j]
   rw[f]at st;exact wpAny_pyIter_striter_ascii st h
section
variable{X:Cx}
theorem RK:∀{bs:List Bool}{us:List Value},dA (bs.map V.bl) us->∀(i:Nat) (v:Value),us[i]?=some v->∃b,bs[i]?=some b/\v=Value.bool b
 |[],_,.nil,i,v,h=>by simp at h|b::bs,_,.cons r t,0,v,h=>by simp at h;subst h;exact⟨b,by simp,r⟩|b::bs,_,.cons r t,i+1,v,h=>by obtain⟨c,y,x⟩:=RK (bs:=bs) t i v (by simpa using h);exact⟨c,by simpa using y,x⟩
theorem jV(bs:List Bool):(qA bs.length).all (λi=>bs.getD i true)=bs.all id:=by
 rw[qS,qB,qB];constructor;intro h b hb;obtain⟨i,y,e⟩:=QBT hb;have:=h i (by simpa using y);simp[QA9,y,e]at this;simpa using this;intro h i y;have x:i<bs.length:=by simpa using y
 have:=h bs[i] (QAA x);simpa[QA9,x]using this
theorem IU(bs:List Bool):(qA bs.length).any (λi=>bs.getD i false)=bs.any id:=by
 rw[qS,Wa,Wa];constructor;rintro⟨i,x,e⟩;have h:i<bs.length:=by simpa using x
 exact⟨bs[i],QAA h,by simpa[QA9,h]using e⟩;rintro⟨b,hb,e⟩;obtain⟨i,x,y⟩:=QBT hb;exact⟨i,by simpa using x,by simp[QA9,x,y];simpa using e⟩
def je(K:QC):List V->Hp->VK->Prop:=λh H Q=>match h with
 |[.ref a]=>∃bs:List Bool,yC K H a (bs.map V.bl)/\Q (.bl (bs.all id)) H|_=>False
def Ed(K:QC):List V->Hp->VK->Prop:=λh H Q=>match h with
 |[.ref a]=>∃bs:List Bool,yC K H a (bs.map V.bl)/\Q (.bl (bs.any id)) H|_=>False
theorem LZ(l:X.calm=true):nF X (.builtin "all") (je X.K):=by
 intro k s Z H f W Q I r h
 match f,h with
 |[.ref a],⟨bs,hq,q⟩ =>
  obtain⟨u,rfl,j⟩:=RI r;cases j;obtain⟨x,w,p,C⟩:=I.list hq;have hl:=w.length;rw[QF]at hl;refine call_all_walk (wn p.isList ?_);have y:a<s.heap.objs.size:=by obtain⟨o,n,e,_⟩:=p;exact QR e
  refine⟨s.heap.objs.size,_,_,_,_,_,λi=>bs.getD i true,rfl,QBs (A:=X.A.in1) (I.ok.hd l) s.heap.objs.size a (Qa y) x.toArray,⟨⟨_,QN _ rfl,rfl,rfl⟩,?_⟩,?_,?_⟩;obtain⟨o,n,e,c,d,sq⟩:=p;exact⟨o,QH _ e,c,n,sq⟩;intro i v B F G m z;obtain⟨b,hb,rfl⟩:=RK w i v (by simpa using m);refine wO ?_;have:bs.getD i true=b:=by simp[QA9,hb]
  rw[<- this];exact z;intro E g hk;have Y:(qA x.toArray.size).all (λi=>bs.getD i true)=bs.all id:=by rw[QT,<- hl,jV]
  rw[Y];exact⟨.bl _,H,I.kept (t':=g) (λb o e=>hk b o (by simp;exact Qa (QR e)) (QH _ e)),rfl,q⟩
theorem HZ(l:X.calm=true):nF X (.builtin "any") (Ed X.K):=by
 intro k s Z H f W Q I r h
 match f,h with
 |[.ref a],⟨bs,hq,q⟩ =>
  obtain⟨u,rfl,j⟩:=RI r;cases j;obtain⟨x,w,p,C⟩:=I.list hq;have hl:=w.length;rw[QF]at hl;refine call_any_walk (wn p.isList ?_);have y:a<s.heap.objs.size:=by obtain⟨o,n,e,_⟩:=p;exact QR e
  refine⟨s.heap.objs.size,_,_,_,_,_,λi=>bs.getD i false,rfl,QBs (A:=X.A.in1) (I.ok.hd l) s.heap.objs.size a (Qa y) x.toArray,⟨⟨_,QN _ rfl,rfl,rfl⟩,?_⟩,?_,?_⟩;obtain⟨o,n,e,c,d,sq⟩:=p;exact⟨o,QH _ e,c,n,sq⟩;intro i v B F G m z;obtain⟨b,hb,rfl⟩:=RK w i v (by simpa using m);refine wO ?_;have:bs.getD i false=b:=by simp[QA9,hb]
  rw[<- this];exact z;intro E g hk;have Y:(qA x.toArray.size).any (λi=>bs.getD i false)=bs.any id:=by rw[QT,<- hl,IU]
  rw[Y];exact⟨.bl _,H,I.kept (t':=g) (λb o e=>hk b o (by simp;exact Qa (QR e)) (QH _ e)),rfl,q⟩
def Pd(K:QC):List V->Hp->VK->Prop:=λx H Q=>(∃z,x=[.str z]/\z.length<=sizeLine/\Q (.int z.length) H)∨∃a h,x=[.ref a]/\(yC K H a h∨XC K H a h)/\Q (.int h.length) H
theorem FZ:nF X (.builtin "len") (Pd X.K):=λx s y H z u Q I r h=>h.elim (vO x s y H z u Q I r) (xO x s y H z u Q I r)
def cV:V->Option Value
 | .ty n=>some (.type n)|.ref C=>some (.ref C)|_=>none
def Vm(K:QC)(H:Hp)(x:V)(t:Value):Prop:=(∃a h,x=.ref a/\yC K H a h/\t=.type "list")∨∃a h,x=.ref a/\XC K H a h/\t=.type "tuple"
def B8(K:QC):List V->Hp->VK->Prop:=λy H Q=>match y with
 |[x,c]=>∃t h b,(TyOf K H x t∨Vm K H x t)/\cV c=some h/\QBM K t h=some b/\Q (.bl b) H|_=>False
theorem GZ:nF X (.builtin "isinstance") (B8 X.K):=by
 intro m s Y H w Z Q I r h
 match w,h with
 |[x,c],⟨t,cv,b,ty,hc,hk,q⟩ =>
  obtain⟨u,k,rfl,f,v⟩:=U6 r;have e:k=cv:=by
   cases c with|ty n=>have l:k=Value.type n:=v;have j:some (Value.type n)=some cv:=hc;rw[l];exact qD j|ref C=>have l:k=Value.ref C:=v;have j:some (Value.ref C)=some cv:=hc;rw[l];exact qD j|_=>cases hc
  subst e;rcases ty with ty|⟨a,w,rfl,i,rfl⟩| ⟨a,w,rfl,i,rfl⟩
  exact MV I f ty hk λy=>⟨.bl b,H,I.tok y,rfl,q⟩
  cases f;obtain⟨g,p,⟨o,n,e,c,_,d⟩,_⟩:=I.list i;exact qM QAh I.kIn ⟨o,e,c⟩ hk (λz=>nomatch z) λy=>⟨.bl b,H,I.tok y,rfl,q⟩
  cases f;obtain⟨g,p,⟨o,e,c,n,d⟩,_⟩:=I.tuple i;exact qM QBe I.kIn ⟨o,e,c⟩ hk (λz=>nomatch z) λy=>⟨.bl b,H,I.tok y,rfl,q⟩
def Ci(K:QC):V->Option Int->Option Int->Hp->VK->Prop:=λx h y H Q=>match x with
 | .str z=>z.length<=sizeLine/\Q (.str (QCb z h y)) H|.ref a=>Gd K (.ref a) h y H Q∨Fd K (.ref a) h y H Q|_=>False
theorem t8:Bh X (Ci X.K):=by
 intro y s m H x v E C Y B b Q I p W r e h;cases x with
 |str z =>
  obtain⟨t,rfl⟩:=p;obtain⟨J,q⟩:=h;refine⟨"str",_,F.slot_str_getitem.lookup,QCW _ _ _,?_⟩;have fin:∀l u:Option (Int×Tok),l.map (·.1)=Y->u.map (·.1)=B->s.heap.IsSlice b l u none->wpAny (model X.prog X.w) X.A (getItem (.str z t) (.ref b)) (EP X y m Q) X.xe s:=λl u M L Z=>by refine wpAny_getItem_str_slice Z rfl ?_;subst M L;exact post_val_or_str ⟨QZ (Txt.slice_le z _ _) J,λN k=>⟨.str (QCb z _ _),H,I.tok k,⟨_,rfl⟩,q⟩⟩
  obtain⟨o,f,hc,g⟩:=W;cases r with
  |none =>
   cases e with|none=>exact fin none none rfl rfl ⟨o,f,hc,g⟩|int j n=>exact fin none (some (j,n)) rfl rfl ⟨o,f,hc,g⟩
  |int i G =>
   cases e with|none=>exact fin (some (i,G)) none rfl rfl ⟨o,f,hc,g⟩|int j n=>exact fin (some (i,G)) (some (j,n)) rfl rfl ⟨o,f,hc,g⟩
 |ref a=>rcases h with h|h;exact y2 y s m H _ v E C Y B b Q I p W r e h;exact n8 y s m H _ v E C Y B b Q I p W r e h
 |_=>exact Qb h
end
section
variable{h h':Heap}{j:Addr}{z:Src}{k:Nat}{xs:Array Value}
inductive Src where
 |l (a:Addr)|t (a:Addr)
def Src.adr:Src->Addr
 | .l a=>a|.t a=>a
def zE(h:Heap)(j:Addr):Src->Nat->Prop
 | .l a,k=>h.IsListIter j a k|.t a,k=>h.IsTupleIter j a k
def GB(h:Heap):Src->Array Value->Prop
 | .l a,xs=>h.IsList a xs|.t a,xs=>h.IsTuple a xs
theorem zE.keep(x:zE h j z k)(e:∀o,h.get? j=some o->h'.get? j=some o):zE h' j z k:=by
 cases z with|l a=>obtain⟨o,u,y⟩:=x;exact⟨o,e o u,y⟩|t a=>obtain⟨o,u,y⟩:=x;exact⟨o,e o u,y⟩
theorem zE.obj(x:zE h j z k):∃o,h.get? j=some o/\∀v,o.data≠.cell v:=by
 cases z with|l a=>obtain⟨o,u,w,y⟩:=x;exact⟨o,u,λv q=>by rw[y]at q;cases q⟩|t a=>obtain⟨o,u,w,y⟩:=x;exact⟨o,u,λv q=>by rw[y]at q;cases q⟩
theorem GB.ext{b:Addr}(x:GB h z xs)(e:QAr b h h')(n:z.adr≠b):GB h' z xs:=by
 cases z with|l a=>exact QCP.extBut x e n|t a=>exact Heap.IsTuple.extBut x e n
theorem GB.lt(x:GB h z xs):z.adr<h.objs.size:=by
 cases z with|l a=>obtain⟨o,y,_⟩:=x;exact QR y|t a=>obtain⟨o,y,_⟩:=x;exact QR y
theorem zE.lt(x:zE h j z k):j<h.objs.size:=by obtain⟨o,y,_⟩:=x.obj;exact QR y
end
section
variable{prog:Program}{w:World}{A:Around}{E:AB}{s:Shared}
section
variable{j t:Addr}{k:Nat}{xs:Array Value}{x:Value}{Q:AB}{z:Src}
theorem U9(p:s.heap.IsTupleIter j t k)(pt:s.heap.IsTuple t xs)(a:xs[k]?=some x)
  (q:∀h',h'.IsTupleIter j t (k+1)->qR j s.heap h'->Q x { s with heap:=h' }):wpAny (model prog w) A (qa (.ref j)) Q E s:=by
 obtain⟨f,y,b,h⟩:=id p;obtain⟨e,v,_,g,u⟩:=pt;unfold qa;refine QA (qE (name:=Qh "__next__") p.typeIs qy (Q2 qy p.typeIs Wk ?_ (Wi _)));show wpAny _ _ (field (.ref j) 0 >>= _) _ _ _;refine QA (wb y h (x:=.ref t) rfl ?_);show wpAny _ _ (if(Value.ref t==Value.none)=true then _ else _) _ _ _;rw[if_neg (show ¬ (Value.ref t==Value.none)=true from QD)];show wpAny _ _ (field (.ref j) 1 >>= _) _ _ _;refine QA (wb y h (x:=.int k 0) rfl ?_);show wpAny _ _ (seqItems? (.ref t) >>= _) _ _ _;refine QA (QAd v u ?_);simp only[wo,a];refine QA (wD y h (by simp) (QJ ⟨x,rfl,QJ (q _ ?_ (qL ..))⟩));refine⟨_,Q3 _ y (qk (Q4 h _)),(WQ ..).trans b,?_⟩;rw[Q4 h];simp[rawInt]
theorem sR(u:A.handled=none)(p:s.heap.IsTupleIter j t k)(pt:s.heap.IsTuple t xs)(f:xs[k]?=none)
  (q:∀h' e,QAr j s.heap h'->(∃o,h'.get? e=some o/\o.cls=.type "StopIteration")->E (.ref e) { s with heap:=h' }):wpAny (model prog w) A (qa (.ref j)) Q E s:=by
 obtain⟨i,y,n,h⟩:=id p;obtain⟨g,b,_,l,v⟩:=pt;unfold qa;refine QA (qE (name:=Qh "__next__") p.typeIs qy (Q2 qy p.typeIs Wk ?_ (Wi _)));show wpAny _ _ (field (.ref j) 0 >>= _) _ _ _;refine QA (wb y h (x:=.ref t) rfl ?_);show wpAny _ _ (if(Value.ref t==Value.none)=true then _ else _) _ _ _;rw[if_neg (show ¬ (Value.ref t==Value.none)=true from QD)];show wpAny _ _ (field (.ref j) 1 >>= _) _ _ _;refine QA (wb y h (x:=.int k 0) rfl ?_);show wpAny _ _ (seqItems? (.ref t) >>= _) _ _ _;refine QA (QAd b v ?_);simp only[wo,f];refine QA (QAM (QA (wD y h (by simp) ?_)));refine QA (m:=newExc (.type "StopIteration") []) ?_;simp only[newExc,newTuple];refine QA (Qs ?made (by size_fits));refine QA (m:=firstArgMember _ _) (Wc (a:=Value.none) (by first|rfl | (rw[firstArgMember];rfl)) ?arg);refine Qs ?made2 (by size_fits);simp only[raiseNew];refine QA (QAs ?_);first|rw[show A.in1.handled=none from u]|rw[u]
 refine QA (QJ (QBU (q _ _ (((qL ..).extBut.push _).push _) ⟨_,QN _ rfl,rfl⟩)))
theorem M4(p:zE s.heap j z k)(pt:GB s.heap z xs)(h:xs[k]?=some x)
  (q:∀h',zE h' j z (k+1)->qR j s.heap h'->Q x { s with heap:=h' }):wpAny (model prog w) A (qa (.ref j)) Q E s:=by
 cases z with|l a=>exact wpAny_nextOf_list_item p pt h q|t a=>exact U9 p pt h q
theorem nY(y:A.handled=none)(p:zE s.heap j z k)(pt:GB s.heap z xs)(h:xs[k]?=none)
  (q:∀h' e,QAr j s.heap h'->(∃o,h'.get? e=some o/\o.cls=.type "StopIteration")->E (.ref e) { s with heap:=h' }):wpAny (model prog w) A (qa (.ref j)) Q E s:=by
 cases z with|l a=>exact wpAny_nextOf_list_end y p pt h q|t a=>exact sR y p pt h q
def Src.it:Src->Obj
 | .l a=>{ cls:=.type "list_iterator",data:=.fields #[.ref a,.int 0 0] }|.t a=>{ cls:=.type "tuple_iterator",data:=.fields #[.ref a,.int 0 0] }
theorem CO(pt:GB s.heap z xs)(q:Q (.ref s.heap.objs.size) { s with heap:=s.heap.push z.it }):wpAny (model prog w) A (pyIter (.ref z.adr)) Q E s:=by
 cases z with|l a=>exact wn pt q|t a=>exact QBf pt q
theorem O1(h:Heap)(z:Src):zE (h.push z.it) h.objs.size z 0:=by
 cases z with|l a=>exact⟨_,QN _ rfl,rfl,rfl⟩|t a=>exact⟨_,QN _ rfl,rfl,rfl⟩
end
end
section
variable{prog:Program}{w:World}{A:Around}{E:AB}{s:Shared}
theorem Y8{h h':Heap}{b:Addr}{z:Src}{xs:Array Value}(x:GB h z xs)(e:qR b h h')(n:z.adr≠b):GB h' z xs:=x.ext e.extBut n
end
section
variable{X:Cx}{w:NB}{σ:St}{H:Hp}{s:Shared}{h':Heap}
theorem _root_.L2.Inv.turnedL{t':Nat}{ch:List Addr}(I:Inv X w σ H s)(k:∀b o,b∉ch->s.heap.get? b=some o->h'.get? b=some o)(f:∀b∈ch,kI X w H b):Inv X w σ H { s with heap:=h',toks:=t' }:=by
 have h:∀b u,H b=some u->b∉ch:=λb u e z=>by rw[(f b z).1]at e;cases e
 have a:X.env.locals∉ch:=λz=>(f _ z).2.1 rfl;refine I.step (g':=s.gens) (d':=s.drawn) (ch:=ch) (λb hb=>?_) (λb o _ _ hc e _=>k b o hc e) (λb o _ _ hc e _=>⟨o.slots,k b o hc e⟩) (λ_ _ _ _ n=>n)
  (λb o hc e=>⟨o,k b o hc e⟩) (λ_ _ e=>e) (λ_ _ _ e=>e) (λb Z e=>⟨#[],by rw[e];simp⟩) (λm y=>?_) (λb u e=>?_) I.bare
 obtain⟨_,l,_,j,i,g⟩:=f b hb;exact⟨j,l,i,g⟩;obtain⟨o,p,Y,x,r⟩:=y;exact⟨o,p,Y,k _ o a x,r⟩;refine(I.hok b u e).stay (λc v hc q=>k c v ?_ q) (λ_ q=>q) λ_ _ q=>q;rcases hc with z|z;rw[z];exact h b u e;exact h c _ z
def pW(K:QC)(H:Hp):Src->List V->Prop
 | .l a,xs=>yC K H a xs|.t a,xs=>XC K H a xs
theorem _root_.L2.Inv.src(I:Inv X w σ H s){z:Src}{xs:List V}(h:pW X.K H z xs):∃its:List Value,dA xs its/\GB s.heap z its.toArray/\xs.length<=sizeLine:=by
 cases z with|l a=>obtain⟨its,x,p,y⟩:=I.list h;exact⟨its,x,p.isList,y⟩|t a=>obtain⟨its,x,p,y⟩:=I.tuple h;exact⟨its,x,p,y⟩
theorem _root_.L2.Inv.src_inj(I:Inv X w σ H s){z:Src}{xs x:List V}(h:pW X.K H z xs)(h':pW X.K H z x):xs=x:=by
 cases z with|l a=>exact I.list_inj h h'|t a=>exact I.tuple_inj h h'
theorem _root_.L2.Inv.pair{p:Addr}{a b:Value}{x y:V}{t':Nat}(I:Inv X w σ H s)(k:∀b u,s.heap.get? b=some u->h'.get? b=some u)(v:s.heap.objs.size<=p)(e:h'.get? p=some { cls:=.type "tuple",data:=.seq #[a,b] })(z:rA x a)(h:rA y b) :
  Inv X w σ (DA H p (.tup [x,y])) { s with heap:=h',toks:=t' } :=
 I.laid k v ⟨by rw[QS];show 2<=_;decide,[a,b],.cons z (.cons h .nil),_,e,rfl,_,rfl⟩
end
section
variable{prog:Program}{w:World}{A:Around}{E:AB}{s:Shared}
section
variable{it d:Addr}{z:Obj}{es:Array DictEntry}{i ep:Nat}{c u:Value}{Q:Option Value->Shared->Prop}
theorem iD:QAI "dict_itemiterator"=true:=by decide +kernel
theorem mI(l:List String)(h:(l.contains "dict_itemiterator" || l.contains "object")=false):(l.any λt=>[Value.type "dict_itemiterator",Value.type "object"].contains (.type t))=false:=by
 rw[QAg];intro t x;rw[Bool.or_eq_false_iff]at h;have v:t≠"dict_itemiterator":=λe=>by subst e;rw[Qm.mpr x]at h;cases h.1
 have y:t≠"object":=λe=>by subst e;rw[Qm.mpr x]at h;cases h.2
 simp[v,y]
theorem mY{e:DictEntry}
  (m:IsItemIter s.heap it d i es.size ep c u) (X:s.heap.get? d=some z) (B:z.data=.dict es ep) (I:es[i]?=some e)
  (q:∀h',IsItemIterOut h' it d (i+1) es.size ep e.key e.val s.heap.objs.size->h'.get? s.heap.objs.size=some { cls:=.type "tuple",data:=.seq #[e.key,e.val] } ->
   h'.objs.size=s.heap.objs.size+1->(∀b o,b≠it->s.heap.get? b=some o->h'.get? b=some o)->Q (some (.ref s.heap.objs.size)) { s with heap:=h' }) :
  wpAny (model prog w) A (pyNext (.ref it)) Q E s:=by
 have F:s.TypeIs (.ref it) "dict_itemiterator":=⟨_,m,rfl⟩
 show wpAny _ _ (bind _ _) _ _ _;refine QA (Wl (qE F qe (Q2 qe F Wx ?_ (Wt _))));show wpAny _ _ (bind _ _) _ _ _;refine QA (QJ (QA (QA (QA (wJ F (QJ (QA (WW m rfl ?_))))))));rw[iD];show wpAny _ _ (if(Value.ref d==Value.none)=true then _ else _) _ _ _;rw[if_neg (show ¬ (Value.ref d==Value.none)=true from QD)];show wpAny _ _ (we (.ref d) >>= _) _ _ _;refine QA (QJ (QA (wP X B ?_)));rw[if_neg (show ¬ (((es.size:Nat):Int) != ((es.size:Nat):Int))=true by simp)];refine QA (QJ (QA (WM X B ?_)));rw[if_neg (show ¬ (((ep:Nat):Int) != ((ep:Nat):Int))=true by simp)];refine QJ ?_;have J:(if((i:Nat):Int)<0 then none else es[((i:Nat):Int).toNat]?)=some e:=by rw[if_neg (by omega),wo];exact I
 simp only[J];refine QA ?_;show wpAny _ _ (typeNameOfWhole (.ref it) >>= _) _ _ _;refine QA (wJ F (QJ (QA (Wp F ?_))));rw[iD,if_pos rfl];rw[show(List.any _ λt=>[Value.type "dict_itemiterator",Value.type "object"].contains (.type t))=false from mI _ (by decide +kernel),if_neg QD];refine QA (wY m (by simp) λa h r=>?_);have h:IsItemIter a it d (i+1) es.size ep c u:=h;refine QA (qK ?_);have C:({ s with heap:=a }:Shared).TypeIs (.ref it) "dict_itemiterator":=⟨_,h,rfl⟩
 show wpAny _ _ (Builtin.Dict_items.isOneOf (.ref it) _ >>= _) _ _ _;refine QA (Wp C ?_);rw[mI _ (by decide +kernel),if_neg QD];refine QA (Wp C ?_);rw[mI _ (by decide +kernel),if_neg QD];show wpAny _ _ (newTuple [e.key,e.val] >>= _) _ _ _;refine QA (QBO ?_);have p:a.objs.size=s.heap.objs.size:=r.1;have y:IsItemIter (a.push { cls:=.type "tuple",data:=.seq #[e.key,e.val] }) it d (i+1) es.size ep c u:=QH _ h;show wpAny _ _ (Builtin.Dict_items.ownedTupleIsFree (.ref it) >>= _) _ _ _;refine QA ?_;show wpAny _ _ (field (.ref it) 0 >>= _) _ _ _;refine QA (wb y rfl (x:=.none) rfl (QJ ?_));rw[if_pos rfl];show wpAny _ _ (field (.ref it) 6 >>= _) _ _ _;refine QA (wb y rfl (x:=c) rfl ?_);refine QA (wb y rfl (x:=u) rfl ?_);refine QA (wY y (by simp) λN K l=>?_);refine QA (wY K (by simp) λM W j=>?_);refine QA (wY W (by simp) λL Z g=>?_);refine QA (wY Z (by simp) λG Y f=>?_);refine QA (wpAny_letGo (QJ ?_));refine QJ ⟨_,rfl,QJ ?_⟩;have k:it<a.objs.size:=QR h;have pt:G.get? a.objs.size=some { cls:=.type "tuple",data:=.seq #[e.key,e.val] } :=
  f.extBut _ _ (wF k) (g.extBut _ _ (wF k) (j.extBut _ _ (wF k) (l.extBut _ _ (wF k) (QN _ rfl))))
 have n:G.objs.size=a.objs.size+1:=by rw[f.1,g.1,j.1,l.1,wc]
 have v:IsItemIterOut G it d (i+1) es.size ep e.key e.val a.objs.size:=Y;rw[p]at pt n v;have:=q G v pt n λb o hb x=>f.extBut _ _ hb (g.extBut _ _ hb (j.extBut _ _ hb (l.extBut _ _ hb (QH _ (r.extBut _ _ hb x)))));show Q (some (.ref a.objs.size)) _;rw[p];exact this
theorem aN(f:A.handled=none)
  (h:IsItemIter s.heap it d i es.size ep c u) (x:s.heap.get? d=some z) (y:z.data=.dict es ep) (g:es[i]?=none)
  (q:∀h',QAr it s.heap h'->Q none { s with heap:=h' }) :
  wpAny (model prog w) A (pyNext (.ref it)) Q E s:=by
 have v:s.TypeIs (.ref it) "dict_itemiterator":=⟨_,h,rfl⟩
 show wpAny _ _ (bind _ _) _ _ _;refine QA (Wl (qE v qe (Q2 qe v Wx ?_ (Wt _))));show wpAny _ _ (bind _ _) _ _ _;refine QA (QJ (QA (QA (QA (wJ v (QJ (QA (WW h rfl ?_))))))));rw[iD];show wpAny _ _ (if(Value.ref d==Value.none)=true then _ else _) _ _ _;rw[if_neg (show ¬ (Value.ref d==Value.none)=true from QD)];show wpAny _ _ (we (.ref d) >>= _) _ _ _;refine QA (QJ (QA (wP x y ?_)));rw[if_neg (show ¬ (((es.size:Nat):Int) != ((es.size:Nat):Int))=true by simp)];refine QA (QJ (QA (WM x y ?_)));rw[if_neg (show ¬ (((ep:Nat):Int) != ((ep:Nat):Int))=true by simp)];refine QJ ?_;have j:(if((i:Nat):Int)<0 then none else es[((i:Nat):Int).toNat]?)=none:=by rw[if_neg (by omega),wo];exact g
 simp only[j];refine QA ?_;show wpAny _ _ (typeNameOfWhole (.ref it) >>= _) _ _ _;refine QA (wJ v (QJ ?_));rw[iD,if_pos rfl];refine QA (wY h (by simp) λl e k=>?_);refine QA (m:=newExc (.type "StopIteration") []) ?_;simp only[newExc,newTuple];refine QA (Qs ?made (by size_fits));refine QA (m:=firstArgMember _ _) (Wc (a:=Value.none) (by first|rfl | (rw[firstArgMember];rfl)) ?arg);refine Qs ?made2 (by size_fits);simp only[raiseNew];refine QA (QAs ?_);first|rw[show A.in1.handled=none from f]|rw[f]
 refine QA (QJ (QBU ?_));refine QA (QAB (T:="StopIteration") (b:=true) ⟨_,QN _ rfl,rfl⟩ (by kernel_rfl) ?_);rw[if_pos rfl];exact QJ (q _ ((k.extBut.push _).push _))
theorem TY{v:Addr}{Q:AB}(hv:s.heap.IsItemsView v d)(h:s.heap.get? d=some z)(x:z.data=.dict es ep)
  (q:Q (.ref s.heap.objs.size) { s with heap:=s.heap.push { cls:=.type "dict_itemiterator",data:=.fields #[.none,.bool false,.ref d,.int 0 0,.int es.size 0,.int ep 0,.none,.none] } }) :
  wpAny (model prog w) A (pyIter (.ref v)) Q E s:=by
 have a:=Heap.IsItemsView.typeIs hv;obtain⟨u,y,b,k⟩:=id hv;refine Wu a QAz (Q2 QAz a F.entry_dict_items_iter ?_ (F.args_dict_items_iter_1 _));show wpAny _ _ (bind _ _) _ _ _;refine QA (QJ (QA ?_));show wpAny _ _ (bind _ _) _ _ _;refine QA (wb y k rfl (QJ (QA ?_)));show wpAny _ _ (bind _ _) _ _ _;refine QA (wP h x (QA (WM h x ?_)));simp only[iD,if_true];refine Qs (QJ ⟨_,rfl,"dict_itemiterator",_,⟨_,QN _ rfl,rfl⟩,qe.lookup,q⟩) (show _<=sizeLine+2 by simp[Builtin.Dict_items.ownedTupleFields,QS])
theorem rS{Q:AB}(h:s.heap.get? d=some z)(x:z.cls=.type "dict")(v:(d==sysModules)=false)
  (q:Q (.ref s.heap.objs.size) { s with heap:=s.heap.push { cls:=.type "dict_items",data:=.fields #[.ref d] } }):wpAny (model prog w) A (call (.builtin "dict.items") [.ref d]) Q E s:=by
 have y:s.TypeIs (.ref d) "dict":=⟨_,h,x⟩
 refine Q2 F.slot_dict_items y F.entry_dict_items ?_ (F.args_dict_items_1 _);show wpAny _ _ (bind _ _) _ _ _;refine QA ?_;show wpAny _ _ (bind _ _) _ _ _;refine QA (WN y ?_);refine QJ ?_;show wpAny _ _ ((if(d==sysModules)=true then _ else _) >>= _) _ _ _;rw[v,if_neg QD];exact QA (QJ (QA (Qs (QJ ⟨_,rfl,q⟩) (show _<=sizeLine+2 by simp[QS]))))
theorem ZU{r:Type}[DecidableEq r]{knd:HeapKind prog w r}{d a:Addr}{xs:List (r×Addr×Value)}{k:r}{v:Value}{Q:AB}(W:knd.room A)(b:knd.is s.heap k a)(B:s.heap.DictOfH knd d xs)(hsz:xs.length<=sizeLine)
  (F:∀p,atKey xs k=some p->Q p.2 { s with toks:=s.toks+knd.draws k })
  (C:atKey xs k=none->∀h',h'.DictOfH knd d (storedH xs k a v)->qR d s.heap h'->Q v { s with heap:=h',toks:=s.toks+knd.draws k }) :
  wpAny (model prog w) A (dictSetDefault d (.ref a) v) Q E s:=by
 obtain⟨o,es,ep,l,hc,g,X,q,Y⟩:=id B;have G:es.size=xs.length:=by have:=congrArg qp X;simpa using this
 unfold dictSetDefault;refine qK (QA (knd.pyHash W b (QA (wpAny_dictFind_heap W b l g X q Y (λn=>?_) λj p K=>?_))));have h:=atKey_none_of_get n;have m:=not_mem_keys_of_get n;refine QA (QAM (QA (wpAny_updateDictKeys l g (QJ (C h _ ?_ (qL ..))) (by omega) (by simp))));refine⟨_,_,ep+1,Q3 _ l (Obj.isFreed_of_dict (QBH g _)),Obj.ExactDict.mapDictKeys hc _,QBH g _,?_,?_,?_⟩;rw[QCQ h];simp[X,entryOfKey];rw[QCQ h];intro x f;rcases Qf.mp f with f|f;exact knd.keeps (q x f) l g (qL ..);rw[QI.mp f];exact knd.keeps b l g (qL ..);rw[QCQ h,QW];exact qH.mpr ⟨Y,by simp,λx f y Z e=>by rw[QO,wI,QI]at Z;rw[e,Z]at f;exact m f⟩;have h:=atKey_of_get Y K;have I:es[j]?=some (entryOfKey knd (k,p)):=by
  have:es.toList[j]?=some (entryOfKey knd (k,p)):=by rw[X,Qc,K];rfl
  simpa using this
 refine QA (wP l g ?_);rw[I];exact QA (QAM (QJ (F p h)))
theorem tQ{x:Type}[DecidableEq x]{knd:HeapKind prog w x}{d a:Addr}{xs:List (x×Addr×Value)}{k:x}{v:Value}{Q:AB}(e:knd.room A.in1)(h:knd.is s.heap k a)(y:s.heap.DictOfH knd d xs)(hsz:xs.length<=sizeLine)(j:(d==sysModules)=false)
  (m:∀p,atKey xs k=some p->Q p.2 { s with toks:=s.toks+knd.draws k })
  (l:atKey xs k=none->∀h',h'.DictOfH knd d (storedH xs k a v)->qR d s.heap h'->Q v { s with heap:=h',toks:=s.toks+knd.draws k }) :
  wpAny (model prog w) A (call (.builtin "dict.setdefault") [.ref d,.ref a,v]) Q E s:=by
 have b:s.TypeIs (.ref d) "dict":=Heap.DictOfH.typeIs y;refine Q2 F.slot_dict_setdefault b F.entry_dict_setdefault ?_ (F.args_dict_setdefault_3 _ _ _);show wpAny _ _ (bind _ _) _ _ _;refine QA ?_;show wpAny _ _ (bind _ _) _ _ _;refine QA (WN b ?_);refine QJ ?_;show wpAny _ _ (if(d==sysModules)=true then _ else _) _ _ _;rw[j,if_neg QD];exact QA (ZU e h y hsz (λp f=>QJ ⟨_,rfl,m p f⟩) λg h' o n=>QJ ⟨_,rfl,l g h' o n⟩)
end
end
def aJ(K:QC):V->List V->Hp->VK->Prop:=λx z H Q=>∃a b v w h k,x=.ref a/\z=[.ref b,v]/\H a=some (.dT w h)/\vG K H h/\XC K H b (k.map kV)/\h.length<sizeLine /\
   (∀u,aG h k=some u->Q u H)/\(aG h k=none->∀y,Q v (DA H a (.dT y (uK h k b v))))
theorem VV{X:Cx}(S:X.A.units+66<cLine):Yc X "dict.setdefault" (aJ X.K):=by
 intro n s M H x O v R Q I q Y h;obtain⟨a,b,y,ep,f,k,rfl,rfl,e,hk,G,l,W,Z⟩:=h;cases q;obtain⟨u,P,rfl,r,i⟩:=U6 Y;cases r;obtain⟨B,o,N,w,J⟩:=yJ I e hk;have hl:(uK f k b y).length<=sizeLine:=by have:=CP f k b y;omega
 refine tQ (WK (by omega)) (BR I G) J (by rw[<- qW w];exact B) o (λp E=>?_) λF h' m C=>?_;have z:=w.val k;rw[E]at z;cases g:aG f k with|none=>rw[g]at z;exact(show False from z).elim|some u=>rw[g]at z;exact⟨u,H,I.tok _,z,W u g⟩
 have z:=w.val k;rw[F]at z;cases g:aG f k with|some u=>rw[g]at z;exact(show False from z).elim|none=>obtain⟨j,L⟩:=MK (t':=_) I (by rw[e];exact True.intro) o hl (w.put k b i) m C;exact⟨y,_,L,i,Z g j⟩
noncomputable def Hm(ep n:Nat)(a:Addr):It :=
  ⟨λi H=>∃h p,H a=some (.dT ep h)/\h.length=n/\h[i]?=some p,
   λi H v x=>∃q p,H q=none/\v=.ref q/\x=DA H q (.tup [.ref p.2.1,p.2.2])/\∀h,H a=some (.dT ep h)->h[i]?=some p,
   λi H=>∃h,H a=some (.dT ep h)/\h.length=n/\n<=i⟩
theorem jH{α h:Type}{R:α->h->Prop}:∀{l:List α}{m:List h}{i:Nat}{x:α},Paired R l m->l[i]?=some x->∃y,m[i]?=some y/\R x y
 |_,_,i,_,.nil,e=>by simp at e|_,_,0,_,.cons r _,e=>by simp at e;subst e;exact⟨_,rfl,r⟩|_,_,i+1,x,.cons _ t,e=>by obtain⟨y,u,z⟩:=jH (i:=i) (x:=x) t (by simpa using e);exact⟨y,by simpa using u,z⟩
theorem TQ{P:Program}{w:World}{K:QC}{es:List Expr}{kk:Nat}{pp:Pos}{a it:Addr}{n ep:Nat}:Turn0 P w K (.Tuple es kk pp) (Hm ep n a) [it] it (λi h=>∃ok Y,IsItemIter h it a i n ep ok Y) where
 mem:=by simp
 obj:=λi h st b hb=>by obtain⟨ok,Y,st⟩:=st;rw[QI]at hb;subst hb;exact⟨_,st,λv q=>by cases(show Data.fields _=Data.cell v from q)⟩
 keep:=λi h h' st k=>by obtain⟨ok,Y,st⟩:=st;exact⟨ok,Y,k it (by simp) _ st⟩
 item:=by
  intro X J C L hc i Z s σ H E I A st G;subst J C L;obtain⟨j,p,e,F,ep⟩:=G;obtain⟨ok,Y,st⟩:=st;obtain⟨z,y,xs,r,o,u,N,h2,M,B,h5⟩:=(show LA X.prog X.w H s.heap a (.dT _ j) from I.hok a _ e)
  have l:u.size=n:=by have:=congrArg qp B;rw[QF,QX]at this;rw[this,<- qW r,F]
  obtain⟨q,hq,rq⟩:=jH r ep;have he:u[i]?=some (entryOfKey (tupleKind (OA X.prog X.w)) q):=by
   have:u.toList[i]?=some (entryOfKey (tupleKind (OA X.prog X.w)) q):=by rw[B,Qc,hq];rfl
   simpa using this
  subst l;refine mY st N M he λh' b1 b3 b4 b5=>⟨_,rfl,wpAny_letOwnedTupleGo_items b1 λm c1 sb=>?_⟩
  have hp:=I.hok.fresh (QU s.heap.objs.size);have W:it<s.heap.objs.size:=QR st;have g:∀b∈[it],b<s.heap.objs.size:=λb hb=>by rw[QI]at hb;subst hb;exact W
  have kept:∀b o,b∉[it]->s.heap.get? b=some o->m.get? b=some o:=λb o hb q=>by rw[QI]at hb;exact(sb.2 b hb).trans (b5 b o hb q)
  have f:m.get? s.heap.objs.size=some { cls:=.type "tuple",data:=.seq #[.ref q.2.1,q.2.2] }:=(sb.2 _ (wF W)).trans b3;have I1:=I.pair (x:=.ref p.2.1) (y:=p.2.2) (h':=s.heap.push { cls:=.type "tuple",data:=.seq #[.ref q.2.1,q.2.2] }) (t':=s.toks) (λb o e=>QH _ e) (QU _) (QN _ rfl) (show Value.ref q.2.1=Value.ref p.2.1 by rw[rq.2.1]) rq.2.2;have I2:=I1.turnedL (h':=m) (t':=s.toks) (ch:=[it]) (λb o hb e=>by
   rcases QBI e with⟨q1,q2⟩| q;subst q1 q2;exact f;exact kept b o hb q) λb hb=>by
   obtain⟨f0,S,f2,R,Q,O⟩:=A b hb;exact⟨by rw[kA (Qa (g b hb))];exact f0,S,f2,R,Q,O⟩
  refine⟨.ref s.heap.objs.size,_,I2,rfl,⟨s.heap.objs.size,p,hp,rfl,rfl,λkvs' g1=>?_⟩,⟨_,_,c1⟩,λb hb=>?_⟩;rw[e]at g1;cases g1;exact ep;rw[kA (Qa (g b hb))];exact(A b hb).1
 done:=by
  intro X J C L hc i Z s σ H E I A st G;subst J C L;obtain⟨j,e,F,ep⟩:=G;obtain⟨ok,Y,st⟩:=st;obtain⟨z,y,xs,r,o,u,N,h2,M,B,h5⟩:=(show LA X.prog X.w H s.heap a (.dT _ j) from I.hok a _ e)
  have l:u.size=n:=by have:=congrArg qp B;rw[QF,QX]at this;rw[this,<- qW r,F]
  subst l;obtain⟨f0,S,f2,R,Q,O⟩:=A it (by simp);exact aN (I.ok.hd hc) st N M (QA0 ep) λh' eb=>⟨rfl,I.turned (t':=s.toks) (λb o hb e=>eb b o hb e) f0 S R Q O⟩
section
variable{prog:Program}{w:World}{A:Around}{E:AB}{s:Shared}
section
variable{d it:Addr}{h:Obj}{es:Array DictEntry}{ep i:Nat}{Q:Option Value->Shared->Prop}
theorem hG:QAI "dict_keyiterator"=false:=by decide +kernel
theorem C5{Q:AB}(hz:(d==sysModules)=false)(x:s.heap.get? d=some h)(hc:h.cls=.type "dict")(y:h.data=.dict es ep)
  (q:Q (.ref s.heap.objs.size) { s with heap:=s.heap.push { cls:=.type "dict_keyiterator",data:=.fields #[.ref d,.int 0 0,.int es.size 0,.int ep 0] } }) :
  wpAny (model prog w) A (pyIter (.ref d)) Q E s:=by
 have z:s.TypeIs (.ref d) "dict":=⟨_,x,hc⟩
 refine Wu z QCF (Q2 QCF z F.entry_dict_iter ?body (F.args_dict_iter_1 _))
 case body =>
  show wpAny _ _ (bind _ _) _ _ _;refine QA ?sl
  case sl =>
   show wpAny _ _ (bind _ _) _ _ _;refine QA (WN z (QJ ?go))
   case go =>
    have e:Wz d=pure PUnit.unit:=by unfold Wz;rw[hz];rfl
    show wpAny _ _ (Wz d >>= _) _ _ _;rw[e];refine QA (QJ (QA (wP x y (QA (WM x y (QA (Qs (QJ ⟨_,rfl,"dict_keyiterator",_,⟨_,QN _ rfl,rfl⟩,ql.lookup,?_⟩))))))));simpa[rawInt]using q
theorem L4{e:DictEntry}
  (u:s.heap.IsKeyIter it d i es.size ep) (z:s.heap.get? d=some h) (v:h.data=.dict es ep) (f:es[i]?=some e)
  (q:∀h',h'.IsKeyIter it d (i+1) es.size ep->qR it s.heap h'->Q (some e.key) { s with heap:=h' }) :
  wpAny (model prog w) A (pyNext (.ref it)) Q E s:=by
 have k:=u.typeIs;obtain⟨j,a,b,x⟩:=id u;show wpAny _ _ (bind _ _) _ _ _;refine QA (Wl (qE k ql (Q2 ql k QAC ?_ (W0 _))));show wpAny _ _ (bind _ _) _ _ _;refine QA (QJ (QA (QA (QA (wK k (QJ (QA (WW a x ?_))))))));rw[hG];show wpAny _ _ (if(Value.ref d==Value.none)=true then _ else _) _ _ _;rw[if_neg (show ¬ (Value.ref d==Value.none)=true from QD)];show wpAny _ _ (we (.ref d) >>= _) _ _ _;refine QA (QJ (QA (wP z v ?_)));rw[if_neg (show ¬ (((es.size:Nat):Int) != ((es.size:Nat):Int))=true by simp)];refine QA (QJ (QA (WM z v ?_)));rw[if_neg (show ¬ (((ep:Nat):Int) != ((ep:Nat):Int))=true by simp)];refine QJ ?_;have g:(if((i:Nat):Int)<0 then none else es[((i:Nat):Int).toNat]?)=some e:=by rw[if_neg (by omega),wo];exact f
 simp only[g];refine QA ?_;show wpAny _ _ (typeNameOfWhole (.ref it) >>= _) _ _ _;refine QA (wK k (QJ (QA (QBA k ?_))));rw[hG];show wpAny _ _ (setField (.ref it) 1 _ >>= _) _ _ _;refine QA (wD a x (by simp) ?_);have y:(s.heap.update it (qf (·.setIfInBounds 1 (rawInt ((i:Int)+1))))).IsKeyIter it d (i+1) es.size ep :=
  ⟨_,Q3 _ a (qk (Q4 x _)),(WQ ..).trans b,by rw[Q4 x];simp[rawInt]⟩
 refine QA (qK (QA (QBA (s:={ s with heap:=s.heap.update it (qf (·.setIfInBounds 1 (rawInt ((i:Int)+1)))) }) y.typeIs ?_)));show wpAny _ _ (pure e.key) _ _ _;exact QJ (QJ ⟨_,rfl,QJ (q _ y (qL ..))⟩)
theorem oP(e:A.handled=none)
  (y:s.heap.IsKeyIter it d i es.size ep) (x:s.heap.get? d=some h) (u:h.data=.dict es ep) (f:es[i]?=none)
  (q:∀h',QAr it s.heap h'->Q none { s with heap:=h' }) :
  wpAny (model prog w) A (pyNext (.ref it)) Q E s:=by
 have v:=y.typeIs;obtain⟨l,k,g,z⟩:=id y;show wpAny _ _ (bind _ _) _ _ _;refine QA (Wl (qE v ql (Q2 ql v QAC ?_ (W0 _))));show wpAny _ _ (bind _ _) _ _ _;refine QA (QJ (QA (QA (QA (wK v (QJ (QA (WW k z ?_))))))));rw[hG];show wpAny _ _ (if(Value.ref d==Value.none)=true then _ else _) _ _ _;rw[if_neg (show ¬ (Value.ref d==Value.none)=true from QD)];show wpAny _ _ (we (.ref d) >>= _) _ _ _;refine QA (QJ (QA (wP x u ?_)));rw[if_neg (show ¬ (((es.size:Nat):Int) != ((es.size:Nat):Int))=true by simp)];refine QA (QJ (QA (WM x u ?_)));rw[if_neg (show ¬ (((ep:Nat):Int) != ((ep:Nat):Int))=true by simp)];refine QJ ?_;have j:(if((i:Nat):Int)<0 then none else es[((i:Nat):Int).toNat]?)=none:=by rw[if_neg (by omega),wo];exact f
 simp only[j];refine QA ?_;show wpAny _ _ (typeNameOfWhole (.ref it) >>= _) _ _ _;refine QA (wK v (QJ ?_));rw[hG];show wpAny _ _ (setField (.ref it) 0 .none >>= _) _ _ _;refine QA (wD k z (by simp) ?_);refine QA (m:=newExc (.type "StopIteration") []) ?_;simp only[newExc,newTuple];refine QA (Qs ?made (by size_fits));refine QA (m:=firstArgMember _ _) (Wc (a:=Value.none) (by first|rfl | (rw[firstArgMember];rfl)) ?arg);refine Qs ?made2 (by size_fits);simp only[raiseNew];refine QA (QAs ?_);first|rw[show A.in1.handled=none from e]|rw[e]
 refine QA (QJ (QBU ?_));refine QA (QAB (T:="StopIteration") (b:=true) ⟨_,QN _ rfl,rfl⟩ (by kernel_rfl) ?_);rw[if_pos rfl];exact QJ (q _ (((qL ..).extBut.push _).push _))
end
end
def Mm(ep n:Nat)(a:Addr):It :=
  ⟨λi H=>∃h p,H a=some (.dT ep h)/\h.length=n/\h[i]?=some p,
   λi H v x=>x=H/\∀h,H a=some (.dT ep h)->∃p,h[i]?=some p/\v=.ref p.2.1,
   λi H=>∃h,H a=some (.dT ep h)/\h.length=n/\n<=i⟩
theorem CU{P:Program}{w:World}{K:QC}{S:Expr}{a it:Addr}{n ep:Nat}:Turn P w K S (Mm ep n a) [it] it (λi h=>h.IsKeyIter it a i n ep) where
 mem:=by simp
 obj:=λi h st b hb=>by obtain⟨o,e,c,d⟩:=st;rw[QI]at hb;subst hb;exact⟨o,e,λv z=>by rw[d]at z;cases z⟩
 keep:=λi h Y st k=>st.at λo e=>k it (by simp) o e
 item:=by
  intro X B Z C hc i u s Q H E I l st A;subst B Z C;obtain⟨f,p,e,W,ep⟩:=A;obtain⟨z,y,R,r,o,x,G,h2,F,m,h5⟩:=(show LA X.prog X.w H s.heap a (.dT _ f) from I.hok a _ e)
  have g:x.size=n:=by have:=congrArg qp m;rw[QF,QX]at this;rw[this,<- qW r,W]
  obtain⟨q,hq,rq⟩:=jH r ep;have he:x[i]?=some (entryOfKey (tupleKind (OA X.prog X.w)) q):=by
   have:x.toList[i]?=some (entryOfKey (tupleKind (OA X.prog X.w)) q):=by rw[m,Qc,hq];rfl
   simpa using this
  subst g;obtain⟨O,N,f2,M,L,J⟩:=l it (by simp);refine L4 st G F he λY j sb=>?_;have I1:Inv X u Q H { s with heap:=Y }:=I.turned (t':=s.toks) (λb o hb e=>(sb.2 b hb).trans e) O N M L J;obtain⟨oi,ei,ci,di⟩:=id j;exact⟨_,rfl,jQ (s:={ s with heap:=Y }) ei ci di (by decide) ⟨.ref p.2.1,H,I1,show Value.ref q.2.1=Value.ref p.2.1 by rw[rq.2.1],⟨rfl,λks hk=>by rw[e]at hk;cases hk;exact⟨p,ep,rfl⟩⟩,j,λb hb=>(l b hb).1⟩⟩
 done:=by
  intro X B Z C hc i u s Q H E I l st A;subst B Z C;obtain⟨f,e,W,ep⟩:=A;obtain⟨z,y,R,r,o,x,G,h2,F,m,h5⟩:=(show LA X.prog X.w H s.heap a (.dT _ f) from I.hok a _ e)
  have g:x.size=n:=by have:=congrArg qp m;rw[QF,QX]at this;rw[this,<- qW r,W]
  subst g;obtain⟨O,N,f2,M,L,J⟩:=l it (by simp);exact oP (I.ok.hd hc) st G F (QA0 ep) λY eb=>⟨rfl,I.turned (t':=s.toks) (λb o hb e=>eb b o hb e) O N M L J⟩
 self:=λ_ _ _ _ _ st h=>wpAny_pyIter_keyiter st h
open PySem.SeqAt
open AutoSeq1 (wpAny_loadPart')
open MeetsSeq MeetsSeq2 MeetsSeq3
def cc:List Str->List Str->Bool
 |[],[]=>false|[],_::_=>true|_::_,[]=>false|x::a,y::b=>if(x==y)=true then cc a b else decide (x.cps.toList<y.cps.toList)
theorem PM{vs:List Value}{ss:List Str}(h:StrsAre vs ss):vs.length=ss.length/\∀(i:Nat) (x:Str),ss[i]?=some x->∃t:Tok,vs[i]?=some (Value.str x t):=by
 induction h with
 |nil=>exact⟨rfl,λi x e=>by simp at e⟩|cons y t _ z =>
  refine⟨by rw[QM,QM,z.1],λi x e=>?_⟩;cases i with|zero=>simp at e;subst e;exact⟨t,rfl⟩|succ i=>simp at e;simpa using z.2 i x e
theorem BV(l b:Addr)(v x:Array Value)(n K:Nat)(L p:Option Addr)(Z m:Array (Option Value))(ss ts:List Str)(G:StrsAre v.toList ss)(F:StrsAre x.toList ts)(k:Nat) :
  ∀i:Nat,v.size - i=k->i<=v.size->i<=x.size->Meets (Builtin.«list.__eq__.loop» ⟨[.ref l,.ref b,rawInt i,rawInt 0],[]⟩)
   (λA R s=>s.heap.get? l=some { cls:=.type "list",dict:=L,data:=.seq v n,slots:=Z }/\s.heap.get? b=some { cls:=.type "list",dict:=p,data:=.seq x K,slots:=m } /\
    R (.ok (.ret (.bool (cc (ss.drop i) (ts.drop i))))) s):=by
 obtain⟨S,Q⟩:=PM G;obtain⟨O,N⟩:=PM F;rw[QX]at S O;induction k with
 |zero =>
  intro i hk E o a w A R s h;obtain⟨C,g,d,Y,W⟩:=s;obtain⟨hl,hb,h⟩:=h;wp_walk using qG hl,qG hb;have j:v[((i:Nat):Int).toNat]?=none:=by simp;omega
  rw[j];wp_walk using qG hl,qG hb;have X:ss.drop i=[]:=by simp;omega
  rw[X]at h;have e:cc [] (ts.drop i)=decide (v.size<x.size):=by
   cases z:ts.drop i with
   |nil =>
    have:ts.length<=i:=by simpa using z
    exact(dF (by omega)).symm
   |cons y r =>
    have:i<ts.length:=by by_cases c:i<ts.length;exact c;rw[WJ (by omega)]at z;cases z
    exact(dT (by omega)).symm
  rw[e]at h;exact h
 |succ k B =>
  intro i hk E o a w A R s h;obtain⟨C,g,d,Y,W⟩:=s;obtain⟨hl,hb,h⟩:=h;wp_walk using qG hl,qG hb;have f:i<ss.length:=by omega
  obtain⟨t,I⟩:=Q i ss[i] (Qo f);have j:v[((i:Nat):Int).toNat]?=some (.str ss[i] t):=by simpa using I
  rw[j];have X:ss.drop i=ss[i]::ss.drop (i+1):=WX f;rw[X]at h;by_cases c:i<ts.length;obtain⟨u,J⟩:=N i ts[i] (Qo c);have e:x[((i:Nat):Int).toNat]?=some (.str ts[i] u):=by simpa using J
  have M:ts.drop i=ts[i]::ts.drop (i+1):=WX c;rw[M]at h;have h:R (.ok (.ret (.bool (if(ss[i]==ts[i])=true then cc (ss.drop (i+1)) (ts.drop (i+1)) else decide (ss[i].cps.toList<ts[i].cps.toList))))) _:=h;rw[e];refine QA (EqAt.str_str ss[i] t ts[i] u a w _ _ ?_);have hc:((i:Int)+1)=((i+1:Nat):Int):=by push_cast;rfl
  cases q:(ss[i]==ts[i]) with|true=>rw[q,if_pos rfl]at h;wp_walk;rw[hc];exact⟨WA plain_eq_loop _,qt entry_eq_loop (by rw[qP plain_eq_loop _];exact B (i+1) (by omega) (by omega) (by omega) a w A R _ ⟨hl,hb,h⟩)⟩|false=>rw[q,if_neg QD]at h;wp_walk using qG hl,qG hb;rw[j,e];show wpAny _ _ (compareOp .Lt (.str ss[i] t) (.str ts[i] u) >>= _) _ _ _;refine QA (PySem.P.lt_str ?_);exact QJ h
  have e:x[((i:Nat):Int).toNat]?=none:=by simp;omega
  rw[e];wp_walk using qG hl,qG hb;rw[WJ (show ts.length<=i by omega)]at h;have:decide (v.size<x.size)=false:=dF (by omega);have h:R (.ok (.ret (.bool false))) _:=h;rw[<- this]at h;exact h
theorem FV(l b:Addr)(y x:Array Value)(n a:Nat)(e v:Option Addr)(k z:Array (Option Value))(ss ts:List Str)(i:StrsAre y.toList ss)(f:StrsAre x.toList ts) :
  Meets (Builtin.«list.__lt__» ⟨[.ref l,.ref b],[]⟩)
   (λA R s=>s.heap.get? l=some { cls:=.type "list",dict:=e,data:=.seq y n,slots:=k }/\s.heap.get? b=some { cls:=.type "list",dict:=v,data:=.seq x a,slots:=z } /\
    R (.ok (.ret (.bool (cc ss ts)))) s):=by
 intro u w A R s h;obtain⟨o,g,d,j,m⟩:=s;obtain⟨hl,hb,h⟩:=h;have p:=AutoSeq1.sub_list_list;wp_walk using qG hl,qG hb;exact⟨WA plain_eq_loop _,qt entry_eq_loop (by rw[qP plain_eq_loop _];exact BV l b y x n a e v k z ss ts i f _ 0 rfl (Q5 _) (Q5 _) u w A R _ ⟨hl,hb,h⟩)⟩
section
variable{prog:Program}{w:World}{A:Around}{E:AB}{s:Shared}
theorem mR{l b:Addr}{y x:Array Value}{n k:Nat}{a u:Option Addr}{v z:Array (Option Value)}{ss ts:List Str}{Q:Bool->Shared->Prop}(e:A.units<cLine)(hl:s.heap.get? l=some { cls:=.type "list",dict:=a,data:=.seq y n,slots:=v })(hb:s.heap.get? b=some { cls:=.type "list",dict:=u,data:=.seq x k,slots:=z })
  (g:StrsAre y.toList ss) (f:StrsAre x.toList ts) (h:Q (cc ss ts) s):wpAny (model prog w) A (keyLt' oneType' (.ref l) (.ref b)) Q E s:=by
 rw[keyLt'_oneType,oneLt'_eq];simp only[if_true];refine QA (wpAny_cRoomFor e (QA (wpAny_callSpecialIfBound?_slot (T:="list") ⟨_,hl,rfl⟩ F.slot_list_lt ?_)));refine QAL F.slot_list_lt ⟨_,hl,rfl⟩ F.entry_list_lt (F.args_list_lt_2 _ _) (FV l b y x n k a u v z ss ts g f) ⟨hl,hb,?_⟩;exact wO h
end
end L2.L3
namespace L2.L3
open PySem PySem.Spec PyProof.Rows PySem.W
def zD{α:Type}(n:Nat)(P:α->Prop):KasT α->Prop
 | .ret a=>P a|.ask i j k=>i<n/\j<n/\∀b,zD n P (k b)
theorem zD.bnd{α x:Type}{n:Nat}{P:α->Prop}{R:x->Prop}{f:α->KasT x}(y:∀a,P a->zD n R (f a)):∀{t:KasT α},zD n P t->zD n R (t.bind f)
 | .ret a,h=>y a h|.ask i j k,⟨h1,h2,h⟩=>⟨h1,h2,λb=>zD.bnd y (h b)⟩
theorem zD.wp{α:Type}{n:Nat}{P:α->Prop}{x:Nat->Nat->(Bool->Shared->Prop)->Shared->Prop}{Q:α->Shared->Prop}{s:Shared}(y:∀i j,i<n->j<n->∀C:Bool->Shared->Prop,(∀b,C b s)->x i j C s)(z:∀a,P a->Q a s):∀{t:KasT α},zD n P t->t.kasWp x Q s
 | .ret a,h=>z a h|.ask i j k,⟨h1,h2,h⟩=>y i j h1 h2 _ λb=>zD.wp y z (h b)
def Pm(n:Nat)(p:Array Nat):Prop:=p.Perm (QBB (qA n))
section
variable{n:Nat}
section
variable{p:Array Nat}
theorem Pm.lt(h:Pm n p)(x:0<n)(i:Nat):p.getD i 0<n:=by
 by_cases c:i<p.size;have e:p.getD i 0=p[i]:=by simp[Array.getD,c]
 rw[e];have m:p[i]∈p.toList:=by simp
 have:=(QAV.mp h).mem_iff.mp m;simpa using this;have e:p.getD i 0=0:=by simp[Array.getD,c]
 rw[e];exact x
theorem Pm.rev(h:Pm n p)(i j:Nat):Pm n (kas_rev p i j):=(mirror_perm _ _ _ _).trans h
theorem mO{p:Array Nat}(h:Pm n p)(x:0<n):∀(f m:Nat),zD n (λ_=>True) (kas_asc p f m)
 |0,m=>trivial|f+1,m=>⟨h.lt x _,h.lt x _,λb=>by
  cases b with|true=>exact trivial|false=>exact mO h x f (m+1)⟩
theorem IH(x:0<n):∀(f:Nat) {p:Array Nat}(h:Pm n p) (m q:Nat),zD n (λr=>Pm n r.1) (kas_desc f p m q)
 |0,p,h,m,q=>h|f+1,p,h,m,q=>⟨h.lt x _,h.lt x _,λb=>by
  cases b with
  |true=>show zD n _ (if q > 0 then _ else _);split;exact IH x f (h.rev _ _) _ _;exact IH x f h _ _|false =>
   refine⟨h.lt x _,h.lt x _,λb=>?_⟩;cases b with|true=>exact h|false=>exact IH x f h _ _⟩
theorem JM(x:0<n)(h:Pm n p)(a b:Nat):zD n (λr=>Pm n r.2) (kas_tail3 a b p):=by refine zD.bnd (f:=λm=>.ret (m,kas_rev p 0 a)) (λm _=>?_) (mO (h.rev _ _) x _ _);exact h.rev _ _
theorem EH(x:0<n)(h:Pm n p)(a b:Nat):zD n (λr=>Pm n r.2) (kas_descPart a b p):=by refine zD.bnd (λr y=>?_) (IH x _ h _ _);split;exact JM x (Pm.rev y _ _) _ _;exact JM x y _ _
theorem gW(x:0<n)(h:Pm n p)(b:Nat):zD n (λr=>Pm n r.2) (kas_count b p):=by
 refine zD.bnd (λm _=>?_) (mO h x _ _);split;exact h;split
 ·refine⟨h.lt x _,h.lt x _,λc=>?_⟩
  cases c with|true=>exact h|false=>exact EH x (h.rev _ _) _ _
 exact EH x h _ _
theorem OI(x:0<n){p:Array Nat}(h:Pm n p)(k:Nat):∀(f l r:Nat),zD n (λ_=>True) (kas_place p k f l r)
 |0,l,r=>trivial|f+1,l,r=>by
  show zD n _ (if l ≥ r then _ else _);split;exact trivial;refine⟨h.lt x _,h.lt x _,λb=>?_⟩;cases b with|true=>exact OI x h k f _ _|false=>exact OI x h k f _ _
theorem pU(x:0<n):∀(f:Nat) {p:Array Nat}(h:Pm n p) (k:Nat),zD n (Pm n) (kas_bin f p k)
 |0,p,h,k=>h|f+1,p,h,k=>zD.bnd (λl _=>pU x f ((bubble_perm _ _ _).trans h) _) (OI x h _ _ _ _)
theorem AZ(x:0<n):zD n (Pm n) (kas_sort n):=by refine zD.bnd (λr h=>?_) (gW x (Array.Perm.refl _) _);split;exact pU x _ h _;exact h
end
end
theorem EU{α:Type}(vs:List α)(d:α):(qA vs.length).map (λi=>vs.getD i d)=vs:=by apply wq;intro i;rw[Qc];by_cases c:i<vs.length;rw[QBV c];simp[c];rw[qI (by simp;omega),qI (by omega)];rfl
section
variable{prog:Program}{w:World}{A:Around}{E:AB}{s:Shared}
section
variable{vs:List Value}
theorem Se{M:Model}{Q:SortKind->Shared->Prop}(k:2<=vs.length)(z:∀v∈vs,s.TypeIs v "list")(h:Q oneType' s):wpAny M A (keyKind' vs.toArray) Q E s:=by
 cases vs with
 |nil=>simp at k|cons v r =>
  rw[keyKind'_eq,QBt,map_eq_pure_bind];refine QA (QA (kas_mapM (r:=none) _ (λu y e q=>?_) (QJ ?_)));rw[kas_first_eq];exact QA (Wf (z u y) (QJ q));rw[if_neg (by simp),if_neg (by simp),oneTypeOnly'_eq,QBt,map_eq_pure_bind];refine QA (QA (QA (kas_mapM (r:=.type "list") _ (λu y e q=>Wf (z u y) q) (QJ ?_))));have b:((v::r).map λ_=>Value.type "list").toArray[0]?=some (.type "list"):=by simp
  have a:(((v::r).map λ_=>Value.type "list").toArray.all λx=>x==Value.type "list")=true:=by simp only[List.all_toArray,QB4,qB];intro _ _;rfl
  rw[b];simp only[a,if_true];exact QJ (QJ h)
theorem P9{a:Addr}{n:Nat}{P:QCc->Shared->Prop}(Y:s.heap.get? a=some (seqObj "list" vs.toArray n))(K:vs.length<64)(S:∀v∈vs,∃b o,v=.ref b/\b≠a/\s.heap.get? b=some o/\o.cls=.type "list")
  (G:∀B:Heap,(∀b o,b≠a->s.heap.get? b=some o->B.get? b=some o)->∀x∈vs,∀y∈vs,∀C:Bool->Shared->Prop,(∀k,C k { s with heap:=B })->wpAny (model prog w) A (keyLt' oneType' x y) C (λ_ _=>False) { s with heap:=B })
  (k:∀out:List Value,out.Perm vs->P (.done (.ret .none)) { s with heap:=sortedHeap s.heap a vs out.toArray }):wpAny (model prog w) A (Builtin.«list.sort» ⟨[.ref a],[]⟩) P E s:=by
 have hz:sizeLine=16777216:=QS;have ha:a<s.heap.objs.size:=QR Y;have J:=qL s.heap a (qJ λ_=>(#[]:Array Value));obtain⟨Z,X⟩:∃Z,(s.heap.update a (qJ λ_=>(#[]:Array Value))).get? a=some (seqObj "list" #[] Z):=⟨_,get?_update_seq Y λ_=>#[]⟩
 have r:(((s.heap.update a (qJ λ_=>(#[]:Array Value))).push (seqObj "tuple" vs.toArray 0)).push (seqObj "list" #[] 0)).get? a=some (seqObj "list" #[] Z):=QH _ (QH _ X);have kept:∀b o,b≠a->s.heap.get? b=some o->(((s.heap.update a (qJ λ_=>(#[]:Array Value))).push (seqObj "tuple" vs.toArray 0)).push (seqObj "list" #[] 0)).get? b=some o:=λb o hb e=>QH _ (QH _ ((J.2 b hb).trans e));rw[list_sort_plain];refine QA (listItems_at Y rfl (QA (listUpdate_at Y rfl ?_ (by rw[QT];omega) (Q5 _))));refine QA (seqEpoch_at X rfl (QA (QBO ?_ (by show vs.length<=_;omega))));refine QA (QBg (qK ?_) (Q5 _));show wpAny (model prog w) A _ P E { s with heap:=((s.heap.update a (qJ λ_=>(#[]:Array Value))).push (seqObj "tuple" vs.toArray 0)).push (seqObj "list" #[] 0) };dsimp only;have fin:∀out:List Value,out.Perm vs->wpAny (model prog w) A (do
   let h:=(<- seqEpoch a) != Z
   Builtin.List.listUpdate (.ref a) λ_=>out.toArray
   if h then rule "list.sort.modified";raiseError "ValueError" "list modified during sort"
   ret .none) P E { s with heap:=((s.heap.update a (qJ λ_=>(#[]:Array Value))).push (seqObj "tuple" vs.toArray 0)).push (seqObj "list" #[] 0) }:=λout m=>by
  have hl:=m.length_eq;refine QA (seqEpoch_at r rfl (QA (listUpdate_at r rfl ?_ (Q5 _) (by rw[QT];omega))));simp only[bne_self_eq_false,qY,if_false];exact QJ (k out m)
 by_cases I:vs.length<2;have u:vs.toArray.size<2:=by rw[QT];exact I
 rw[if_pos u,if_pos u];refine QA (QJ ?_);rw[StateT.run_pure];refine QA (QJ ?_);have e:(arrOf (QBu general' (vs.toArray.zip vs.toArray) #[] 7 none)).map (·.2)=vs.toArray:=by show(vs.toArray.zip vs.toArray).map (·.2)=_;apply W7.mp;simp[W9]
 dsimp only;rw[e];exact fin vs (wf _);have u:¬ vs.toArray.size<2:=by rw[QT];exact I
 rw[if_neg u,if_neg u];refine QA (Se (by omega) (λv hv=>?_) ?_);obtain⟨b,o,rfl,hb,e,c⟩:=S v hv;exact⟨o,kept b o hb e,c⟩;have F:QBu oneType' (vs.toArray.zip vs.toArray) #[] 7 none=kas_st oneType' (pairsOf vs) (QBB (qA vs.length)):=by have e:=kas_range (pairsOf vs);rw[pairsOf_size]at e;show QBu oneType' (pairsOf vs) #[] 7 none=QBu oneType' ((QBB (qA vs.length)).map (kas_item (pairsOf vs))) #[] 7 none;rw[e]
 have all:=AZ (n:=vs.length) (by omega);have f:(kas_sort vs.length).kasWp (kas_cmp prog w A oneType' (pairsOf vs)) (λp g=>g={ s with heap:=((s.heap.update a (qJ λ_=>(#[]:Array Value))).push (seqObj "tuple" vs.toArray 0)).push (seqObj "list" #[] 0) }/\Pm vs.length p) { s with heap:=((s.heap.update a (qJ λ_=>(#[]:Array Value))).push (seqObj "tuple" vs.toArray 0)).push (seqObj "list" #[] 0) }:=by
  rw[<- kas_ask_eq];refine zD.wp (λi j O N C H=>?_) (λp m=>⟨rfl,m⟩) all;have gi:vs.getD i Value.none∈vs:=by
   have:vs.getD i Value.none=vs[i]:=by simp[O]
   rw[this];exact QAA _
  have gj:vs.getD j Value.none∈vs:=by
   have:vs.getD j Value.none=vs[j]:=by simp[N]
   rw[this];exact QAA _
  exact G _ kept _ gi _ gj C H
 have l:=kas_runs (prog:=prog) (w:=w) (A:=A) (E:=E) (Q:=λ_ z g=>∃p:Array Nat,p.size=vs.length/\arrOf z=p.map (kas_item (pairsOf vs))/\failedOf z=none/\g={ s with heap:=((s.heap.update a (qJ λ_=>(#[]:Array Value))).push (seqObj "tuple" vs.toArray 0)).push (seqObj "list" #[] 0) }/\Pm vs.length p)
  (by omega) K (λM z g a1 a2 a3 a4=>⟨M,a1,a2,a3,a4⟩) f
 rw[<- F]at l;refine QA (wN l ?_ λ_ _ e=>e);rintro⟨⟨⟩,z⟩ g ⟨p,m,W,R,rfl,L⟩;dsimp only;have q:(arrOf z).map (·.2)=QBB (p.toList.map λi=>vs.getD i Value.none):=by apply W7.mp;rw[W,Array.map_map,Array.toList_map];exact Wd λi _=>by show(kas_item (pairsOf vs) i).2=_;rw[kas_item_eq]
 rw[q,R];refine fin _ ?_;have:=(QAV.mp L).map λi=>vs.getD i Value.none;refine this.trans ?_;show((qA vs.length).map λi=>vs.getD i Value.none).Perm vs;rw[EU]
theorem A1{l:Addr}{Q:AB}(hl:s.heap.IsList l vs.toArray)(g:vs.length<64)(X:∀v∈vs,∃b o,v=.ref b/\s.heap.get? b=some o/\o.cls=.type "list")
  (i:∀f:Heap,(∀b o,s.heap.get? b=some o->f.get? b=some o)->∀x∈vs,∀y∈vs,∀C:Bool->Shared->Prop,(∀k,C k { s with heap:=f })->wpAny (model prog w) A.in1.in1 (keyLt' oneType' x y) C (λ_ _=>False) { s with heap:=f })
  (k:∀out:List Value,out.Perm vs->Q (.ref (s.heap.objs.size+1)) { s with heap:=sortedAll s.heap vs out.toArray }):wpAny (model prog w) A (call (.builtin "sorted") [.ref l]) Q E s:=by
 have Z:sizeLine=16777216:=QS;refine QAe kind_sorted plain_sorted entry_sorted (args_sorted1 _) ?_;unfold Builtin.«sorted»;refine QA (m:=checkCount "sorted" 1 1 _) (QJ (QA (collect_list hl ?_ (by omega))));refine QA (QBg ?_ (by show vs.length<=_;omega));have u:((s.heap.push (seqObj "list" #[] 0)).update s.heap.objs.size (qJ (·++vs.toArray))).objs.size=s.heap.objs.size+1:=by rw[Heap.size_update,size_push']
 have a:(((s.heap.push (seqObj "list" #[] 0)).update s.heap.objs.size (qJ (·++vs.toArray))).push (seqObj "list" vs.toArray 0)).get? (s.heap.objs.size+1)=some (seqObj "list" vs.toArray 0):=by rw[<- u];exact QN _ rfl
 have z:∀b o,s.heap.get? b=some o->(((s.heap.push (seqObj "list" #[] 0)).update s.heap.objs.size (qJ (·++vs.toArray))).push (seqObj "list" vs.toArray 0)).get? b=some o:=λb o q=>by have h:b<s.heap.objs.size:=QR q;refine QH _ ?_;rw[Heap.get?_update_ne _ _ _ _ (Qa h)];exact QH _ q
 show wpAny _ _ _ _ _ { s with heap:=((s.heap.push (seqObj "list" #[] 0)).update s.heap.objs.size (qJ (·++vs.toArray))).push (seqObj "list" vs.toArray 0) };rw[u];refine QA (qK (Q2 slot_list_sort ⟨_,a,rfl⟩ entry_list_sort ?body (args_list_sort _)))
 case body =>
  refine P9 (s:={ s with heap:=((s.heap.push (seqObj "list" #[] 0)).update s.heap.objs.size (qJ (·++vs.toArray))).push (seqObj "list" vs.toArray 0) }) a g (λv hv=>?_) (λf j x p y n C Y=>?_) λout r=>⟨_,rfl,QJ ⟨_,rfl,k out r⟩⟩
  obtain⟨b,o,e,q,c⟩:=X v hv;have h:b<s.heap.objs.size:=QR q;exact⟨b,o,e,Qa (qi h),z b o q,c⟩;refine i f (λb o q=>?_) x p y n C Y;have h:b<s.heap.objs.size:=QR q;exact j b o (Qa (qi h)) (z b o q)
end
end
section
variable{prog:Program}{w:World}{A:Around}
theorem Da(Z:A.handled=none)(j:Addr)(z:Src)(m:z.adr≠j)(y:Array Value)(c:Nat) :
  Draws prog w A j [j,z.adr] (c+y.size) (λi v=>∃k,i=c+k/\y[k]?=some v) (λi h=>∃k,i=c+k/\zE h j z k/\GB h z y) where
 live:=λ_ _ ⟨_,_,p,_⟩=>let⟨o,e,_⟩:=p.obj;⟨o,e⟩
 frame:=λ_ h f ⟨k,e,p,q⟩ u=>⟨k,e,p.keep λo x=>u j (by simp) o x,by
  cases z with|l a=>exact QCP.at q λo x=>u a (by simp[Src.adr]) o x|t a=>obtain⟨o,Y,X⟩:=q;exact⟨o,u a (by simp[Src.adr]) o Y,X⟩⟩
 item:=λi s Q E W ⟨k,e,p,q⟩ n=>by
  have hk:k<y.size:=by omega
  exact M4 p q (x:=y[k]) (by simp[hk]) λf g b=>n _ f s.toks ⟨k,e,by simp[hk]⟩ ⟨k+1,by omega,g,Y8 q b m⟩ b
 done:=λs Q E ⟨k,e,p,q⟩ r=>by
  have hk:k=y.size:=by omega
  exact nY Z p q (by simp[hk]) r
theorem Fa(r:A.handled=none)(j:Addr)(z:Src)(y:Array Value)(n k:Nat)(v:y[k]?=none) :
  Draws prog w A j [j,z.adr] n (λ_ _=>False) (λi h=>i=n/\zE h j z k/\GB h z y) where
 live:=λ_ _ ⟨_,p,_⟩=>let⟨o,e,_⟩:=p.obj;⟨o,e⟩
 frame:=λ_ h Y ⟨e,p,q⟩ u=>⟨e,p.keep λo x=>u j (by simp) o x,by
  cases z with|l a=>exact QCP.at q λo x=>u a (by simp[Src.adr]) o x|t a=>obtain⟨o,m,g⟩:=q;exact⟨o,u a (by simp[Src.adr]) o m,g⟩⟩
 item:=λi s Q E b ⟨e,_,_⟩ X=>absurd b (by omega)
 done:=λs Q E ⟨_,p,q⟩ f=>nY r p q v f
def Nm(K:QC)(z:Src)(c:Nat):It :=
  ⟨λi H=>∃h x,pW K H z h/\h[i]?=some x,
   λi H v y=>∃p x,H p=none/\v=.ref p/\y=DA H p (.tup [.int ((c+i:Nat):Int),x])/\∀h,pW K H z h->h[i]?=some x,
   λi H=>∃h,pW K H z h/\h.length<=i⟩
def VS(e j:Addr)(z:Src)(c i:Nat)(h:Heap):Prop:=(∃x,IsEnum h e j ((c+i:Nat):Int) x)/\zE h j z i
theorem DU{P:Program}{K:QC}{es:List Expr}{kk:Nat}{pp:Pos}{e j:Addr}{z:Src}{c:Nat}(L:e≠j)(n2:z.adr≠e)(n3:z.adr≠j) :
  Turn P w K (.Tuple es kk pp) (Nm K z c) [e,j] e (VS e j z c) where
 mem:=by simp
 obj:=λi h st b hb=>by obtain⟨⟨a,g⟩,n⟩:=st;simp only[QK,WE,or_false]at hb;rcases hb with rfl|rfl;exact⟨_,g,λv q=>by cases(show Data.fields _=Data.cell v from q)⟩;exact n.obj
 keep:=λi h h' st k=>by obtain⟨⟨a,g⟩,n⟩:=st;exact⟨⟨a,k e (by simp) _ g⟩,n.keep λo x=>k j (by simp) o x⟩
 item:=by
  intro X O M Q hc i r s σ H E I B st N;subst O M Q;obtain⟨xs,x,C,ex⟩:=N;obtain⟨f,J,F,_⟩:=I.src C;obtain⟨u,hu,ru⟩:=J.get ex;obtain⟨⟨a,g⟩,n⟩:=st;have hi:i<f.toArray.size:=by have:=(Qe.mp hu).1;simpa using this
  refine wpAny_pyNext_enum_itemD (Da (show X.A.in1.handled=none from I.ok.hd hc) j z n3 f.toArray c) g ⟨i,rfl,n,F⟩ (by omega) L (by simp[L,Q1 n2]) λy h' W ⟨k,ek,hy⟩ b1 b2 b3 b4 b5=>?_;have ek:k=i:=by omega
  subst ek;have ey:y=u:=by
   have:f.toArray[k]?=some u:=by simpa using hu
   rw[this]at hy;exact(qD hy).symm
  subst ey;refine⟨_,rfl,wpAny_letOwnedTupleGo_enum b1 λp c1 G=>?_⟩;obtain⟨k2,Z,b2,b2'⟩:=b2;have Z:k2=k+1:=by omega
  subst Z;have hp:=I.hok.fresh (QU s.heap.objs.size);have Y:e<s.heap.objs.size:=QR g;have m:∀b∈[e,j],b<s.heap.objs.size:=λb hb=>by simp only[QK,WE,or_false]at hb;rcases hb with rfl|rfl;exact Y;exact n.lt
  have kept:∀b o,b∉[e,j]->s.heap.get? b=some o->p.get? b=some o:=λb o hb q=>by simp only[QK,WE,or_false,not_or]at hb;exact(G.2 b hb.1).trans (b5 b o hb.1 hb.2 q)
  have l:p.get? s.heap.objs.size=some { cls:=.type "tuple",data:=.seq #[.int ((c+k:Nat):Int) W,y] }:=(G.2 _ (wF Y)).trans b3;have I1:=I.pair (x:=.int ((c+k:Nat):Int)) (h':=s.heap.push { cls:=.type "tuple",data:=.seq #[.int ((c+k:Nat):Int) W,y] }) (t':=W+1) (λb o e=>QH _ e) (QU _) (QN _ rfl) ⟨_,rfl⟩ ru;have I2:=I1.turnedL (h':=p) (t':=W+1) (ch:=[e,j]) (λb o hb e=>by
   rcases QBI e with⟨q1,q2⟩| q;subst q1 q2;exact l;exact kept b o hb q) λb hb=>by
   obtain⟨f0,f1,f2,f3,S,R⟩:=B b hb;exact⟨by rw[kA (Qa (m b hb))];exact f0,f1,f2,f3,S,R⟩
  refine⟨.ref s.heap.objs.size,_,I2,rfl,⟨s.heap.objs.size,x,hp,rfl,rfl,λxs' g1=>?_⟩,⟨⟨y,?_⟩,b2.keep λo q=>(G.2 _ (Q1 L)).trans q⟩,λb hb=>?_⟩;rw[I.src_inj g1 C];exact ex;have:(((c+(k+1):Nat)):Int)=((c+k:Nat):Int)+1:=by omega
  rw[this];exact c1;rw[kA (Qa (m b hb))];exact(B b hb).1
 done:=by intro X O M Q hc i r s σ H E I B st N;subst O M Q;obtain⟨xs,C,en⟩:=N;obtain⟨f,J,F,_⟩:=I.src C;obtain⟨⟨a,g⟩,n⟩:=st;have l1:=J.length;obtain⟨f0,f1,f2,f3,S,R⟩:=B j (by simp);exact wpAny_pyNext_enum_endD (Fa (show X.A.in1.handled=none from I.ok.hd hc) j z f.toArray 0 i (by simp;omega)) g ⟨rfl,n,F⟩ λh' eb=>⟨rfl,I.turned (t':=s.toks) (λb o hb e=>eb b o hb e) f0 f1 f3 S R⟩
 self:=λ_ _ _ _ _ st h=>by obtain⟨⟨a,g⟩,_⟩:=st;exact QBv g h
end
theorem jW(z:Src)(xs:Array Value):Meets (Builtin.«enumerate.__new__» ⟨[.type "enumerate",.ref z.adr],[]⟩) (λ_ R s=>GB s.heap z xs /\
   R (.ok (.ret (.ref (s.heap.push z.it).objs.size))) { s with heap:=(s.heap.push z.it).push { cls:=.type "enumerate",data:=.fields #[.none,.bool false,.ref s.heap.objs.size,rawInt 0,.none,.none] } }) :=
 .of_wp λy w A R s h=>by
  obtain⟨b,g,d,v,a⟩:=s;obtain⟨k,h⟩:=h;have u:=sub_enumerate;have x:GB (Shared.heap ⟨b,g,d,v,a⟩) z xs:=k;wp_walk;refine wpAny_stack_any λst=>QJ ?_;split;rename_i cl _ _ _ _ _;cases(cl==Value.type "enumerate")<;>(wp_walk using CO x;exact⟨_,rfl,h⟩)
  wp_walk using CO x;exact⟨_,rfl,h⟩
section
variable{prog:Program}{w:World}{A:Around}{E:AB}{s:Shared}
theorem uU{h:Heap}{z:Src}{n:Int}:IsEnum ((h.push z.it).push { cls:=.type "enumerate",data:=.fields #[.none,.bool false,.ref h.objs.size,rawInt n,.none,.none] }) (h.objs.size+1) h.objs.size n .none:=by have:=QN (h.push z.it) (o:={ cls:=.type "enumerate",data:=.fields #[.none,.bool false,.ref h.objs.size,rawInt n,.none,.none] }) rfl;rw[wc]at this;exact this
theorem sS{z:Src}{xs:Array Value}{Q:AB}(y:GB s.heap z xs)
  (h:∀h',VS (s.heap.objs.size+1) s.heap.objs.size z 0 0 h'->(∀c o,s.heap.get? c=some o->h'.get? c=some o)->Q (.ref (s.heap.objs.size+1)) { s with heap:=h' }):wpAny (model prog w) A (call (.type "enumerate") [.ref z.adr]) Q E s:=by
 refine callType_new PySem.F.called_enumerate (by decide) (PySem.F.typeCall_enumerate_1 _) (PySem.F.newCall_enumerate_1 _) (λobj=>PySem.F.args_object_init_2 obj _) PySem.F.entry_enumerate_new (jW z xs) ⟨y,?_⟩;show _/\_;rw[wc];exact⟨⟨_,uU,rfl⟩,h _ ⟨⟨.none,uU⟩,(O1 s.heap z).keep λo e=>QH _ e⟩ λc o x=>QH _ (QH _ x)⟩
end
theorem Yn{a b:Nat}(h:a≠b):((a:Addr)≠(b:Addr)):=h
def xT:Value->Str
 | .str z _=>z|_=>⟨#[]⟩
def jI(pg:Program)(wd:World)(h:Heap)(a:Addr)(b:Bool)(y:List Str):Prop :=
 ∃x z t,h.get? a=some { cls:=.type "set",dict:=none,data:=.set x z t,slots:=#[] }/\ElemsOf (strKind pg wd) x.toList/\x.toList.map (λe=>xT e.2)=y/\y.Nodup/\t.fits x.size=true/\t.led=b/\(x.size=0∨t.plain=false)
theorem jI.at{pg:Program}{wd:World}{h h':Heap}{a:Addr}{b:Bool}{y:List Str}(x:jI pg wd h a b y)(k:∀o,h.get? a=some o->h'.get? a=some o):jI pg wd h' a b y:=by obtain⟨z,u,t,e,r⟩:=x;exact⟨z,u,t,k _ e,r⟩
theorem Y5(t:SetTable)(es:Array (Int×Value))(h:Int)(x:Value):(layNew t es h x).2.1.led=t.led:=by
 unfold layNew;cases t.freeSlot h with|none=>rfl|some p=>show(QBh _ _).led=_;unfold QBh;split<;>rfl
theorem HY{m f v:Nat}{l p:Bool}{h:Array Int}{t:SetTable}{o:Array Nat}(e:SetTable.laid m f v l p h=some (t,o)):t.led=l/\t.plain=p:=by
 unfold SetTable.laid at e;cases c:SetTable.layClean m h with|none=>rw[c]at e;cases e|some w=>rw[c]at e;cases e;exact⟨rfl,rfl⟩
theorem AU(t:SetTable)(es:Array (Int×Value))(n:Nat)(h:t.plain=false):(relayAll t es n).2.1.led=t.led/\(relayAll t es n).2.1.plain=false:=by unfold relayAll;split;rename_i t' o e;have:=HY e;show(if _ then _ else _:Array (Int×Value)×SetTable×Bool).2.1.led=_/\(if _ then _ else _:Array (Int×Value)×SetTable×Bool).2.1.plain=_;split;exact⟨this.1,this.2.trans h⟩;exact⟨rfl,rfl⟩;exact⟨rfl,rfl⟩
section
variable{pg:Program}{wd:World}{v:Around}{Er:AB}{sh:Shared}
section
variable{es:Array (Int×Value)}{e:Int×Value}{u:List Str}{z:Str}{b:Bool}{a:Addr}
theorem sZ{es:List (Int×Value)}(y:ElemsOf (strKind pg wd) es)(x:e∈es):∃t,e.2=.str (xT e.2) t:=by obtain⟨⟨k,hk,_⟩,_⟩:=y e x;obtain⟨t,h⟩:=QBQ hk;exact⟨t,by rw[h];rfl⟩
theorem K7{es:List (Int×Value)}(w:ElemsOf (strKind pg wd) es)(x:e∈es)(z:Str):(strKind pg wd).is z e.2=true↔xT e.2=z:=by obtain⟨t,h⟩:=sZ w x;rw[h];generalize xT e.2=y;show(y==z)=true↔y=z;exact beq_iff_eq
theorem dU(y:ElemsOf (strKind pg wd) es.toList)(w:es.toList.map (λe=>xT e.2)=u):(es.toList.findIdx? (λe=>(strKind pg wd).is z e.2)=none)↔z∉u:=by
 rw[List.findIdx?_eq_none_iff,<- w,QY];constructor;rintro h ⟨e,x,rfl⟩;have:=h e x;rw[(K7 y x _).mpr rfl]at this;cases this;intro h e x;cases c:(strKind pg wd).is z e.2 with|false=>rfl|true=>exact(h ⟨e,x,(K7 y x z).mp c⟩).elim
theorem jU{Q:Unit->Shared->Prop}(h:Q () sh):wpAny (model pg wd) v (match b with|true=>rule "set.scan.the-table-gave-way"|false=>pure ()) Q Er sh:=by
 cases b with|false=>exact QJ h|true=>exact QAM h
theorem IT{h:Heap}{es':Array (Int×Value)}{ep:Nat}{t t':SetTable}(e:h.get? a=some { cls:=.type "set",dict:=none,data:=.set es ep t,slots:=#[] }):(h.update a (QBw es' t')).get? a=some { cls:=.type "set",dict:=none,data:=.set es' (ep+1) t',slots:=#[] }:=Q3 (QBw es' t') e rfl
theorem u2{g:Tok}{Q:Bool->Shared->Prop}(S:jI pg wd sh.heap a b u)(hr:u.length+1<4096)
  (k:∀r h' l,qR a sh.heap h'->jI pg wd h' a b l->(∀s,s∈l↔s∈u∨s=z)->l.length<=u.length+1->Q r { sh with heap:=h',toks:=sh.toks+1 }):wpAny (model pg wd) v (setAdd a (.str z g)) Q Er sh:=by
 have hk:(strKind pg wd).is z (.str z g)=true:=strKind_is _ _ _ _;unfold setAdd;refine qK (QA ((strKind pg wd).pyHash (k:=z) hk ?_));obtain⟨es,ep,t,F,Z,E,nd,hf,hb,hp⟩:=id S;have sz:es.size=u.length:=by rw[<- E,QF,QX]
 have bd:es.size<scanBound:=by show es.size<4096;omega
 unfold setAddHashed setAddHashedIn;refine qK (QA (wr (s:={ sh with toks:=sh.toks+1 }) F rfl hf ?_));dsimp only;rw[byScan_of (knd:=strKind pg wd) (x:=.str z g) rfl bd Z,if_pos rfl];unfold setAddByScan;refine QA (QA (QAM (QA (wpAny_setScan_of hk (s:={ sh with toks:=sh.toks+1 }) F rfl hf Z ?_))));cases P:es.toList.findIdx? (λe=>(strKind pg wd).is z e.2) with
 |some j =>
  have mz:z∈u:=wE λn=>by rw[(dU Z E).mpr n]at P;cases P
  dsimp only;exact QJ (QJ (k _ sh.heap u (QBr _ _) S (λs=>⟨.inl,λo=>o.elim id λe=>e▸mz⟩) (wR _)))
 |none =>
  have nz:=(dU Z E).mp P;dsimp only;have Y:=layNew_perm t es ((strKind pg wd).hash z) (.str z g);have C:=layNew_fits t es ((strKind pg wd).hash z) (.str z g);have A:=Y5 t es ((strKind pg wd).hash z) (.str z g);generalize layNew t es ((strKind pg wd).hash z) (.str z g)=L at Y C A ⊢;obtain⟨h,I,G,gv⟩:=L;dsimp only at Y C A ⊢;rw[QBx]at Y;have el1:ElemsOf (strKind pg wd) h.toList:=(Z.push hk rfl).perm Y;have pz:(h.toList.map λe=>xT e.2).Perm (u++[z]):=by have:=Y.map λe:Int×Value=>xT e.2;rw[QW,E]at this;exact this
  have n1:h.size=u.length+1:=by rw[<- QX,<- QF (f:=λe:Int×Value=>xT e.2),pz.length_eq,QL];rfl
  have J:(u++[z]).Nodup:=qH.mpr ⟨nd,Qi.mpr ⟨WE,Qy⟩,λx hx y hy=>by rw[QI.mp hy];exact λe=>nz (e▸hx)⟩;have b1:h.size<=sizeLine:=by rw[QS];omega
  have fin:∀(q:Array (Int×Value)) (w:SetTable) (h':Heap) (p:Nat),q.toList.Perm h.toList->w.fits q.size=true->w.led=b->w.plain=false->qR a sh.heap h'->h'.get? a=some { cls:=.type "set",dict:=none,data:=.set q p w,slots:=#[] }->Q true { sh with heap:=h',toks:=sh.toks+1 }:=λq w h' p p2 H B W sb g2=>by have m:=(p2.map λe:Int×Value=>xT e.2).trans pz;refine k true h' _ sb ⟨q,p,w,g2,el1.perm p2,rfl,m.nodup_iff.mpr J,H,B,.inr W⟩ (λs=>?_) ?_;rw[m.mem_iff,Qf,QI];rw[m.length_eq,QL];exact QU _
  have i:∀w:SetTable,w.fits h.size=true->w.led=b->w.plain=false->wpAny (model pg wd) v (do
    storeSet a h w
    if(!G&&w.tooFull)=true then do
      (match (relayAll w h (WH h.size)).2.2 with|true=>rule "set.scan.the-table-gave-way"|false=>pure ())
      storeSet a (relayAll w h (WH h.size)).1 (relayAll w h (WH h.size)).2.1
      pure (some true)
     else pure (some true)) (λx s'=>wpAny (model pg wd) v (match x with|some r=>pure r|none=>setAddHashedIn a (.str z g) ((strKind pg wd).hash z) 99999) Q Er s') Er { sh with toks:=sh.toks+1 }:=λw H B W=>by
   refine QA (QBy (s:={ sh with toks:=sh.toks+1 }) F rfl ?_ b1);have N:=IT (es':=h) (t':=w) F;have X:=qL sh.heap a (QBw h w);split;have pr:=relayAll_perm w h (WH h.size);have O:=relayAll_fits w h (WH h.size);have K:=AU w h (WH h.size) W;generalize relayAll w h (WH h.size)=R at pr O K ⊢;obtain⟨q,t3,g3⟩:=R;dsimp only at pr O K ⊢;refine QA (jU (QA (QBy (s:={ sh with heap:=sh.heap.update a (QBw h w),toks:=sh.toks+1 }) N rfl (QJ (QJ ?_)) ?_)));exact fin q t3 _ _ pr O (K.1.trans B) K.2 (X.trans (qL _ a _)) (IT N);rw[<- QX,pr.length_eq,QX];exact b1;exact QJ (QJ (fin h w _ _ (wf _) H B W X N))
  refine QA (jU ?_);cases M:I.plain with|true=>rw[if_pos rfl];refine QA ?_;rw[hashByValue_scannable 8 (x:=.str z g) rfl];exact QJ (i { I with plain:=false } (SetTable.fits_plain_off C) (A.trans hb) rfl)|false=>rw[if_neg QD];exact QA (QJ (i I C (A.trans hb) M))
end
end
theorem OM{vs:List Value}{ss:List Str}(h:StrsAre vs ss):vs.length=ss.length/\∀(i:Nat) (v:Value),vs[i]?=some v->∃z t,v=.str z t/\ss[i]?=some z:=by
 induction h with
 |nil=>exact⟨rfl,λi v e=>by cases e⟩|cons y t _ x =>
  refine⟨congrArg Nat.succ x.1,λi v e=>?_⟩;cases i with|zero=>cases e;exact⟨y,t,rfl,rfl⟩|succ i=>exact x.2 i v e
section
variable{pg:Program}{wd:World}{x:Around}{Er:AB}{sh:Shared}
section
variable{l:Addr}{b:Bool}{xs:Array Value}{ss:List Str}{Q:AB}
theorem vX{S it:Addr}{R:Result->Shared->Prop}(hd:x.handled=none)(L:l≠it)(I:S∉[it,l])(hs:StrsAre xs.toList ss)(bd:xs.size+1<4096) :
  ∀(n i:Nat) (sh:Shared) (y:List Str),xs.size - i=n->i<=xs.size->(sh.heap.IsListIter it l i/\sh.heap.IsList l xs)->jI pg wd sh.heap S b y->(∀s,s∈y↔s∈ss.take i)->y.length<=i ->
   (∀s' h,Moved [S,it] (λa b=>b=a) sh s'->jI pg wd s'.heap S b h->(∀s,s∈h↔s∈ss)->h.length<=xs.size->R (.ok (.ret .none)) s') ->
   codeAny (model pg wd) x (.builtin "set.update.loop" ⟨[.ref S,.ref it],[]⟩) R sh:=by
 have W:=(QBs (prog:=pg) (w:=wd) (A:=x.in1) hd it l L xs).toS;obtain⟨hl,hx⟩:=OM hs;rw[QX]at hl;have sub:∀c∈[it],c∈[S,it]:=λc hc=>QG _ hc;have G:S∉[it]:=λz=>I (QK.mpr (.inl (QI.mp z)));intro n;induction n with
 |zero =>
  intro i sh y en O f u g len k;obtain rfl:i=xs.size:=by omega
  refine qt QAt ?_;rw[qP Wm _];refine QA (m:=pyNext (.ref it)) (W.done sh _ _ f λs' p=>QJ (k s' y (p.mono sub) (u.at λo e=>p.heap S o G e) ?_ len));intro s;rw[g,hl,QCG]
 |succ n H =>
  intro i sh y en O f u g len k;have lt:i<xs.size:=by omega
  refine qt QAt ?_;rw[qP Wm _];refine QA (m:=pyNext (.ref it)) (W.item i sh _ _ lt f λv s' J K p=>?_);obtain⟨z,E,rfl,ez⟩:=hx i v (by rw[wH];exact J);have Z:jI pg wd s'.heap S b y:=u.at λo e=>p.heap S o G e;refine QA (m:=holding [Value.str z E] (setAdd S (.str z E))) (qK (u2 Z (by omega) λr h' h F Y N l3=>QJ ⟨WA Wm _,?_⟩));refine H (i+1) _ h (by omega) lt (W.frame _ s' _ _ K (wR _) λc hc o e=>?_) Y (λs=>?_) (by omega) λB j C X M P=>k B j (Moved.trans W.gtrans ((p.mono sub).then_heap (wR _) λc o hc e=>?_) C) X M P;rw[F.2 c λq=>I (q▸hc)];exact e;rw[N,g,List.take_succ,ez,Qf];simp;rw[F.2 c λq=>hc (q▸QE)];exact e
noncomputable abbrev YN(b:Bool):Obj:={ cls:=.type "set",dict:=none,data:=.set #[] 0 (.fresh 0 0 b) }
theorem R4{v:Value}(q:Q (.ref sh.heap.objs.size) { sh with heap:=sh.heap.push (YN (!wd.params.followText "set-order")) }):codeAny (model pg wd) x (.call (.builtin "set.__new__") ⟨[.type "set",v],[]⟩) (wants Q Er) sh:=by refine codeAny_of_tree ?_;show wpAny _ x.in1 (checkBuiltinCall "set.__new__" ⟨[.type "set",v],[]⟩ >>= λ_=>again (.builtin "set.__new__" ⟨[.type "set",v],[]⟩)) _ _ sh;refine QA (Wc (F.newCall_set_1 v) (QJ ⟨WA QCR _,qt F.entry_set_new ?_⟩));rw[qP QCR _];unfold Builtin.«set.__new__» Builtin.Frozenset.newClass;have sub:=sub_set_self;obtain⟨z,u,w,h,y⟩:=sh;dsimp only;wp_walk;refine WF (QJ ?_);dsimp only;simp only[newObj];exact QA (wpAny_alloc (QJ (QJ q)))
theorem tY{h:Heap}{a:Addr}(e:h.get? a=some (YN b)):jI pg wd h a b []:=⟨#[],0,_,e,λ_ z=>(nomatch z),rfl,Qy,by cases b<;>decide,rfl,.inl rfl⟩
theorem DL(I:x.handled=none)(hl:sh.heap.IsList l xs)(G:StrsAre xs.toList ss)(M:xs.size+1<4096)
  (k:∀(h':Heap) (u:Nat) (h:List Str),jI pg wd h' sh.heap.objs.size (!wd.params.followText "set-order") h->(∀s,s∈h↔s∈ss)->h.length<=xs.size->(∀b o,sh.heap.get? b=some o->h'.get? b=some o)->Q (.ref sh.heap.objs.size) { sh with heap:=h',toks:=u }) :
  wpAny (model pg wd) x (call (.type "set") [.ref l]) Q Er sh:=by
 generalize hb:(!wd.params.followText "set-order")=b at k;generalize hn:sh.heap.objs.size=n at k;obtain⟨c,H,mr⟩:=WO.mro;have md:=WO.made;have sb:=WO.sub;have c1:=WO.notType;have c2:=WO.canCreate;have c3:=F.typeCall_set_1 (.ref l);refine wpAny_call (codeAny_of_tree ?_);show wpAny _ _ (callAny (.type "set") _) _ _ _;refine QJ ⟨Code.quiet_builtin _ (by decide +kernel),qt F.entry_type_call ?_⟩;rw[Around.under_plain (weight_type_call_type "set" [.ref l] []) rfl]
 repeat (any_goals (first|assumption|wp_step))
 refine QAY (R4 (v:=.ref l) (Er:=Er) (Q:=λp q=>p=.ref n/\q={ sh with heap:=sh.heap.push (YN b) }) ⟨by rw[hn],by rw[hb]⟩) λr q a=>?_;cases r with
 |error e=>exact a|ok fl =>
  cases fl with
  |ret obj =>
   obtain⟨rfl,rfl⟩:=a;have A:(sh.heap.push (YN b)).get? n=some (YN b):=hn▸QN _ rfl;have ty:QBi { sh with heap:=sh.heap.push (YN b) } (.ref n) "set":=⟨_,A,rfl⟩
   have li:=WO.init.lookup;have bi:=WO.init.bind (.ref n)
   repeat (any_goals (first|assumption|wp_step))
   refine QAY (codeAny_call_builtin (R:=wants (λr q=>r=.none/\∃h' u h,q={ sh with heap:=h',toks:=u }/\jI pg wd h' n b h/\(∀s,s∈h↔s∈ss)/\h.length<=xs.size/\∀c o,sh.heap.get? c=some o->h'.get? c=some o) Er) WO.init.plain F.entry_set_init (check_set_init_1 ty ?body)) ?after
   case after =>
    intro r q a;cases r with
    |error e=>exact a|ok fl =>
     cases fl with
     |ret r =>
      obtain⟨rfl,h',u,h,rfl,S,P,O,N⟩:=a
      repeat (any_goals (first|assumption|wp_step))
      exact k h' u h S P O N
     |_=>exact a.elim
   case body =>
    obtain⟨C,K,L,Y,J⟩:=hl;obtain⟨X,w,i,y⟩:=C;cases L;cases J;have j:(sh.heap.push (YN b)).get? l=some { cls:=.type "list",dict:=w,data:=.seq xs Y,slots:=y }:=QH _ K;have t1:=F.sub_list_set;have t2:=F.sub_list_frozenset;have t3:(Value.type "list" == Value.type "dict")=false:=by decide
    have W:(sh.heap.push (YN b)).IsList l xs:=⟨_,j,rfl,Y,rfl⟩
    unfold Builtin.«set.__init__» noKeywords Builtin.Frozenset.updateFrom;generalize hi:pyIter=it;wp_walk;subst hi;refine wn W (QA (wpAny_runValue ?_));have lt:l<sh.heap.objs.size:=QR K;have sz:(sh.heap.push (YN b)).objs.size=n+1:=by rw[wc,hn]
    rw[hn]at lt;refine vX (b:=b) (ss:=ss) (by simp[I]) (show l≠_ by rw[sz];exact Qa (qi lt)) (λz=>?_) G M xs.size 0 _ [] (QB5 _) (Q5 _) ⟨⟨_,QN _ rfl,rfl,rfl⟩,W.push _⟩ (tY (QH _ A)) (λs=>?_) (QU _) λB g f st m E=>?_;rw[sz]at z;rcases QK.mp z with z|z;exact Qa (WY _) z;exact wF lt (QI.mp z);rw[List.take_zero];obtain⟨h',gs,dr,u,oo⟩:=B;cases f.gens;cases f.drawn;cases f.os;refine QJ ?_;refine QJ ⟨rfl,h',u,g,rfl,st,m,E,λc o e=>?_⟩;have Z:c<n:=hn▸QR e;refine f.heap c o (λz=>?_) (QH _ (QH _ e));rw[sz]at z;rcases QK.mp z with z|z;exact Qa Z z;exact Qa (qi Z) (QI.mp z)
  |_=>exact a.elim
end
end
section
variable{pg:Program}{wd:World}{M:Model}{y:Around}{Er:AB}{sh:Shared}
theorem GM{src:Source}{n:Nat}{Q:Nat->Shared->Prop}(x:n≠0)(h:∀i d,i<n->Q i { sh with drawn:=d }):wpAny M y (choose src n) Q Er sh:=λ_ _ _=>by unfold choose;rw[Sem.wp_choose];exact⟨x,by rw[Sem.wp_pure];exact h _ _ (Nat.mod_lt _ (Nat.pos_of_ne_zero x))⟩
theorem LK{α:Type}{xs:List α}{i:Nat}(h:i<xs.length):(xs[i]::xs.eraseIdx i).Perm xs:=by rw[List.eraseIdx_eq_take_drop_succ];refine List.perm_middle.symm.trans ?_;rw[<- WX h,W4]
theorem tZ{α:Type}:∀(n:Nat) (xs:List α) (sh:Shared) {Q:List α->Shared->Prop},xs.length=n->(∀L d,L.Perm xs->Q L { sh with drawn:=d })->wpAny M y (drawOrder n xs) Q Er sh:=by
 intro n;induction n with
 |zero=>intro xs sh Q hl k;obtain rfl:=qu.mp hl;exact QJ (k [] sh.drawn (wf _))|succ n z =>
  intro xs sh Q hl k;cases xs with|nil=>cases hl|cons x r=>unfold drawOrder;refine QA (GM (by rw[hl];exact Nat.succ_ne_zero n) λi d h=>?_);rw[Qo h];refine QA (z ((x::r).eraseIdx i) _ (by rw[QAW h,hl];rfl) λL u p=>QJ (k _ u ((p.cons _).trans (LK h))))
theorem xV{α:Type}(f:Nat->Nat):∀(n k:Nat) (xs:List α) (out:Array α),xs.length=n->(pickOrder.go f n k xs out).toList.Perm (out.toList++xs):=by
 intro n;induction n with|zero=>intro k xs out hl;obtain rfl:=qu.mp hl;rw[wG];exact wf _|succ n x=>intro k xs out hl;have h:f k % xs.length<xs.length:=Nat.mod_lt _ (by omega);unfold pickOrder.go;rw[Qo h];refine(x (k+1) _ _ (by rw[QAW h,hl];rfl)).trans ?_;rw[QBx,qN];exact(LK h).append_left _
end
namespace F
theorem uP:Manifest.owners.lookup (String.ofList ['r','o','t','a','r','e','t','i','_','t','e','s'].reverse)=some Manifest.sig_set_iterator:=by kernel_rfl
theorem slot_si:Slot "set_iterator" "__next__" "set_iterator.__next__":=.of (owner:="set_iterator") (n:="__next__") (by rw[typeLookup_type,QBC];kernel_rfl) (by decide +kernel) (by decide +kernel) (by decide +kernel) (by first|exact .inl (by decide +kernel)|exact .inr (by decide +kernel)) (by rw[QBP];kernel_rfl)
theorem entry_si:entryFor table "set_iterator.__next__"=some Builtin.«set_iterator.__next__»:=QCH (by kernel_rfl)
theorem args_si(a:Value):argsOk "set_iterator.__next__" ⟨[a],[]⟩:=by unfold argsOk;rw[signature?_of (id:="set_iterator.__next__") (n:=['_','_','t','x','e','n','_','_']) (o:=['r','o','t','a','r','e','t','i','_','t','e','s']) (by kernel_rfl) uP];kernel_rfl
theorem entry_set_iter:entryFor table "set.__iter__"=some Builtin.«frozenset.__iter__»:=entryFor_alias (id':="frozenset.__iter__") (by kernel_rfl) rfl (by decide +kernel) (by kernel_rfl)
end F
def ZM(h:Heap)(j a:Addr)(f:Value)(i n ep:Nat):Prop:=∃o,h.get? j=some o/\o.cls=.type "set_iterator"/\o.data=.fields #[f,rawInt i,.ref a,rawInt n,rawInt ep]
theorem ZM.ty{sh:Shared}{j a:Addr}{f:Value}{i n ep:Nat}(x:ZM sh.heap j a f i n ep):sh.TypeIs (.ref j) "set_iterator":=let⟨o,e,c,_⟩:=x;⟨o,e,c⟩
noncomputable abbrev setO(es:Array (Int×Value))(ep:Nat)(t:SetTable):Obj:={ cls:=.type "set",dict:=none,data:=.set es ep t,slots:=#[] }
section
variable{pg:Program}{wd:World}{y:Around}{Er:AB}{sh:Shared}{j a:Addr}{es:Array (Int×Value)}{ep:Nat}{t:SetTable}
section
variable{Q:Option Value->Shared->Prop}{h:Heap}{f:Value}{i i' n s:Nat}
theorem AS{P:QCc->Shared->Prop}{x:AB}(z:y.handled=none)(k:∀e h',QBi { sh with heap:=h' } e "StopIteration"->(∀b o,sh.heap.get? b=some o->h'.get? b=some o)->x e { sh with heap:=h' }) :
  wpAny (model pg wd) y.in1 (do raiseNew (<- newExc (.type "StopIteration") []):Sem QCc) P x sh:=by
 simp only[newExc,newTuple,raiseNew];refine QA (QA (Qs ?_ (by size_fits)));refine QA (m:=firstArgMember _ _) (Wc (a:=Value.none) (by first|rfl | (rw[firstArgMember];rfl)) (Qs ?_ (by size_fits)));refine QA (QAs ?_);rw[show y.in1.handled=none from z];refine QA (QJ (QBU (k _ _ ?_ ?_)));exact⟨_,QN _ rfl,rfl⟩;exact λb o e=>QH _ (QH _ e)
theorem BO{e:Value}(ty:sh.TypeIs e "StopIteration")(q:Q none sh):wpAny (model pg wd) y (do if <- isInstance e (.type "StopIteration") then pure none else throw e) Q Er sh:=by refine QA (QAB (T:="StopIteration") (b:=true) ty (by kernel_rfl) ?_);rw[if_pos rfl];exact QJ q
theorem ZM.put{z:Value}(it:ZM h j a f i n ep):ZM ((h.update j (qf (·.setIfInBounds 0 z))).update j (qf (·.setIfInBounds 1 (rawInt i')))) j a z i' n ep:=by obtain⟨o,v,hc,x⟩:=it;have w:=Q3 (qf (·.setIfInBounds 0 z)) v (qk (Q4 x _));have u:=Q4 x (·.setIfInBounds 0 z);refine⟨_,Q3 _ w (qk (Q4 u _)),(WQ ..).trans ((WQ ..).trans hc),?_⟩;rw[Q4 u];simp
theorem ZM.put1(it:ZM h j a f i n ep):ZM (h.update j (qf (·.setIfInBounds 1 (rawInt i')))) j a f i' n ep:=by obtain⟨o,z,hc,x⟩:=it;refine⟨_,Q3 _ z (qk (Q4 x _)),(WQ ..).trans hc,?_⟩;rw[Q4 x];simp
theorem yX{r:Option (Value×Nat)}(m:y.handled=none)(it:ZM sh.heap j a (rawInt s) i n ep)(Y:sh.heap.get? a=some (setO es ep t))(l:t.fits es.size=true)(g:n=es.size)
  (nx:∀{A:Around}{E:AB}{q:Option (Value×Nat)->Shared->Prop},q r sh->wpAny (model pg wd) A (setNext a s i ep) q E sh)
  (k:∀x s' h',r=some (x,s')->ZM h' j a (rawInt s') (i+1) n ep->(∀b o,b≠j->sh.heap.get? b=some o->h'.get? b=some o)->Q (some x) { sh with heap:=h' })
  (w:r=none->∀h',(∀b o,b≠j->sh.heap.get? b=some o->h'.get? b=some o)->Q none { sh with heap:=h' }) :
  wpAny (model pg wd) y (pyNext (.ref j)) Q Er sh:=by
 have ty:=it.ty;obtain⟨o,u,hc,z⟩:=id it;unfold pyNext;refine QA (Wl (qE (name:=Qh "__next__") ty F.slot_si (Q2 F.slot_si ty F.entry_si ?_ (F.args_si _))));unfold Builtin.«set_iterator.__next__»;refine QA (Wc (a:=(Value.ref j,[])) rfl (QA (WW u z ?_)));show wpAny _ _ (setEntries a >>= _) _ _ _;refine QA (QAO Y rfl l ?_);rw[if_neg (show ¬ (((es.size:Nat):Int) != ((n:Nat):Int))=true by rw[g];simp)];show wpAny _ _ (setNext a s i ep >>= _) _ _ _;refine QA (nx ?_);cases r with|some p=>obtain⟨x,s'⟩:=p;refine QA (wD u z (by simp) ?_);have X:=Q3 (qf (·.setIfInBounds 0 (rawInt s'))) u (qk (Q4 z _));refine QA (wD (s:={ sh with heap:=sh.heap.update j (qf (·.setIfInBounds 0 (rawInt s'))) }) X (Q4 z _) (by simp) ?_);refine QJ ⟨x,rfl,QJ (k x s' _ rfl ?_ λb o hb e=>?_)⟩;exact it.put (i':=i+1);rw[Q8 _ _ (Q1 hb),Q8 _ _ (Q1 hb)];exact e|none=>refine QA (wD u z (by simp) ?_);exact AS (sh:={ sh with heap:=sh.heap.update j (qf (·.setIfInBounds 2 Value.none)) }) m λe h' ty v=>BO (sh:={ sh with heap:=h' }) ty (w rfl h' λb o hb e=>v b o (by rw[Q8 _ _ (Q1 hb)];exact e))
theorem jX{p:Addr}{L:List Nat}{w:Obj}{c:Nat}(W:y.handled=none)(it:ZM sh.heap j a (.ref p) i n ep)(l:sh.heap.get? a=some (setO es ep t))(k:t.fits es.size=true)(Z:n=es.size)
  (B:sh.heap.get? p=some w) (E:w.data=.seq (L.map λi=>rawInt (i:Nat)).toArray c) (K:∀m∈L,m<es.size)
  (Y:∀m x h',L[i]?=some m->es[m]?=some x->ZM h' j a (.ref p) (i+1) n ep->(∀b o,b≠j->sh.heap.get? b=some o->h'.get? b=some o)->Q (some x.2) { sh with heap:=h' })
  (X:L[i]?=none->∀h',(∀b o,b≠j->sh.heap.get? b=some o->h'.get? b=some o)->Q none { sh with heap:=h' }) :
  wpAny (model pg wd) y (pyNext (.ref j)) Q Er sh:=by
 have ty:=it.ty;obtain⟨o,u,hc,z⟩:=id it;unfold pyNext;refine QA (Wl (qE (name:=Qh "__next__") ty F.slot_si (Q2 F.slot_si ty F.entry_si ?_ (F.args_si _))));unfold Builtin.«set_iterator.__next__»;refine QA (Wc (a:=(Value.ref j,[])) rfl (QA (WW u z ?_)));show wpAny _ _ (setEntries a >>= _) _ _ _;refine QA (QAO l rfl k ?_);rw[if_neg (show ¬ (((es.size:Nat):Int) != ((n:Nat):Int))=true by rw[Z];simp)];show wpAny _ _ (seqItems? (.ref p) >>= _) _ _ _;refine QA (QAd B E ?_);have A:(L.map λi=>rawInt (i:Nat)).toArray[i]?=(L[i]?).map λi=>rawInt (i:Nat):=by rw[List.getElem?_toArray,Qc]
 show wpAny _ _ (match (L.map λi=>rawInt (i:Nat)).toArray[i]? with|some (Value.int place _)=>_|some _=>_|none=>_) _ _ _;rw[A];cases v:L[i]? with
 |some m=>have q:=K m (Q9 v);have g:es[m]?=some es[m]:=WV q;show wpAny _ _ (setNextDrawn a m ep >>= _) _ _ _;unfold setNextDrawn;refine QA (QA (wr l rfl k ?_));show wpAny _ _ (if(ep != ep)=true then _ else _) _ _ _;rw[if_neg (by simp)];show wpAny _ _ (match es[m]? with|some (_,x)=>_|_=>_) _ _ _;rw[g];refine QJ (QA (wD u z (by simp) ?_));refine QJ ⟨_,rfl,QJ (Y m _ _ v g ?_ λb o hb e=>?_)⟩;exact it.put1 (i':=i+1);rw[Q8 _ _ (Q1 hb)];exact e
 |none=>show wpAny _ _ (setField (.ref j) 0 (rawInt 0) >>= _) _ _ _;refine QA (wD u z (by simp) ?_);have C:=Q3 (qf (·.setIfInBounds 0 (rawInt 0))) u (qk (Q4 z _));refine QA (wD (s:={ sh with heap:=sh.heap.update j (qf (·.setIfInBounds 0 (rawInt 0))) }) C (Q4 z _) (by simp) ?_);exact AS (sh:={ sh with heap:=(sh.heap.update j (qf (·.setIfInBounds 0 (rawInt 0)))).update j (qf (·.setIfInBounds 2 Value.none)) }) W λe h' ty r=>BO (sh:={ sh with heap:=h' }) ty (X v h' λb o hb e=>r b o (by rw[Q8 _ _ (Q1 hb),Q8 _ _ (Q1 hb)];exact e))
theorem rV{Q:Option (Value×Nat)->Shared->Prop}(hb:wd.params.followText "set-order"=true)(z:sh.heap.get? a=some (setO es ep t))(x:t.fits es.size=true)(q:Q (((pickOrder (wd.params.setOrder a ep) es)[i]?).map λe=>(e.2,0)) sh):wpAny (model pg wd) y (setNext a 0 i ep) Q Er sh:=by unfold setNext setWalk setsByText;refine QA (wr z rfl x (QA (QA (WF (QJ ?_)))));rw[if_pos (by exact hb)];show wpAny _ _ (if(ep != ep)=true then _ else _) _ _ _;rw[if_neg (by simp)];refine QA (QA (wr z rfl x (QA (QA (WF (QJ ?_))))));rw[if_pos (by exact hb)];exact QA (WF (QJ (QJ q)))
theorem sY{Q:Option (Value×Nat)->Shared->Prop}(hb:wd.params.followText "set-order"=false)(u:sh.heap.get? a=some (setO es ep t))(z:t.fits es.size=true)(v:es.size<=1)(hl:t.led=true)
  (q:Q (match es[wg t.place s]?,t.place[wg t.place s]? with|some (_,x),some j=>some (x,j+1)|_,_=>none) sh):wpAny (model pg wd) y (setNext a s i ep) Q Er sh:=by
 unfold setNext setsByText;refine QA (wr u rfl z (QA (QA (WF (QJ ?_)))));rw[if_neg (by show ¬ wd.params.followText "set-order"=true;rw[hb];exact QD)];show wpAny _ _ (if(!t.plain&&decide (es.size > 1))=true then _ else _) _ _ _;rw[if_neg (by rw[dF (by omega),Bool.and_false];exact QD)];refine QA (m:=if(!t.led&&!es.isEmpty)=true then unsupported "set:maker-not-led" else pure ()) ?_;rw[if_neg (by rw[hl];exact QD)];exact QJ (QJ q)
end
end
namespace F
theorem slot_sii:Slot "set_iterator" "__iter__" "set_iterator.__iter__":=.of (owner:="set_iterator") (n:="__iter__") (by rw[typeLookup_type,QBC];kernel_rfl) (by decide +kernel) (by decide +kernel) (by decide +kernel) (by first|exact .inl (by decide +kernel)|exact .inr (by decide +kernel)) (by rw[QBP];kernel_rfl)
theorem args_sii(a:Value):argsOk "set_iterator.__iter__" ⟨[a],[]⟩:=by unfold argsOk;rw[signature?_of (id:="set_iterator.__iter__") (n:=['_','_','r','e','t','i','_','_']) (o:=['r','o','t','a','r','e','t','i','_','t','e','s']) (by kernel_rfl) uP];kernel_rfl
theorem entry_sii:entryFor table "set_iterator.__iter__"=some Builtin.«dict_keyiterator.__iter__»:=entryFor_alias (id':="dict_keyiterator.__iter__") (by kernel_rfl) (by first|rfl|decide +kernel | (unfold String.splitOn;simp +decide [String.splitOnAux])) (by decide +kernel) (by kernel_rfl)
end F
section
variable{pg:Program}{wd:World}{l:Around}{Er:AB}{sh:Shared}{j a:Addr}{es:Array (Int×Value)}{ep:Nat}{t:SetTable}
section
variable{f:Value}{i n:Nat}{Q:AB}{u:List Value}{L:List Nat}{w:Array Value}
theorem yT(it:ZM sh.heap j a f i n ep)(q:Q (.ref j) sh):wpAny (model pg wd) l (pyIter (.ref j)) Q Er sh:=by refine Wu it.ty F.slot_sii (Q2 F.slot_sii it.ty F.entry_sii ?_ (F.args_sii _));show wpAny _ _ (ret (.ref j)) _ _ sh;exact QJ ⟨_,rfl,"set_iterator",_,it.ty,F.slot_si.lookup,q⟩
theorem ZM.at{h h':Heap}(it:ZM h j a f i n ep)(k:∀o,h.get? j=some o->h'.get? j=some o):ZM h' j a f i n ep:=by obtain⟨o,e,r⟩:=it;exact⟨o,k o e,r⟩
theorem JW{g:Nat->Nat}(K:l.handled=none)(C:a≠j)(W:t.fits es.size=true)(Z:n=es.size)
  (nx:∀(i:Nat) (A:Around) (s:Shared) (E:AB) (q:Option (Value×Nat)->Shared->Prop),i<=u.length->s.heap.get? a=some (setO es ep t)->q ((u[i]?).map λx=>(x,g (i+1))) s->wpAny (model pg wd) A (setNext a (g i) i ep) q E s) :
  Walks pg wd l j [j,a] [j] u.length (λi v=>u[i]?=some v) (λi h=>ZM h j a (rawInt (g i)) i n ep/\h.get? a=some (setO es ep t)) where
 sub:=λb hb=>QK.mpr (.inl (QI.mp hb))
 frame:=λi h y st k=>⟨st.1.at λo e=>k j QE o e,k a (QG _ QE) _ st.2⟩
 item:=λi s Q E p st q=>yX (r:=(u[i]?).map λx=>(x,g (i+1))) K st.1 st.2 W Z (λ{A Y X} h=>nx i A s Y X (QAX p) st.2 h)
  (λx B y e it m=>by rw[Qo p]at e;cases e;exact q _ y s.toks (Qo p) ⟨it,m a _ C st.2⟩ λb o hb e=>m b o (λz=>hb (QI.mpr z)) e)
  λe=>by rw[Qo p]at e;cases e
 done:=λs Q E st q=>yX (r:=(u[u.length]?).map λx=>(x,g (u.length+1))) K st.1 st.2 W Z (λ{A Y X} h=>nx _ A s Y X (QU _) st.2 h)
  (λx B y e=>by rw[qI (QU _)]at e;cases e)
  λ_ y m=>q y s.toks λb o hb e=>m b o (λz=>hb (QI.mpr z)) e
 self:=λi s Q E st q=>yT st.1 q
theorem iW{p:Addr}{r:Obj}{c:Nat}(Z:l.handled=none)(B:a≠j)(A:p≠j)(Y:t.fits es.size=true)(X:n=es.size)(K:r.data=.seq (L.map λi=>rawInt (i:Nat)).toArray c)(W:∀m∈L,m<es.size) :
  Walks pg wd l j [j,a,p] [j] L.length (λi v=>∃m e,L[i]?=some m/\es[m]?=some e/\v=e.2) (λi h=>ZM h j a (.ref p) i n ep/\h.get? a=some (setO es ep t)/\h.get? p=some r) where
 sub:=λb hb=>QK.mpr (.inl (QI.mp hb))
 frame:=λi h g st k=>⟨st.1.at λo e=>k j QE o e,k a (QG _ QE) _ st.2.1,k p (QG _ (QG _ QE)) _ st.2.2⟩
 item:=λi s Q E C st q=>jX Z st.1 st.2.1 Y X st.2.2 K W
  (λm x g e F it y=>q _ g s.toks ⟨m,x,e,F,rfl⟩ ⟨it,y a _ B st.2.1,y p _ A st.2.2⟩ λb o hb e=>y b o (λz=>hb (QI.mpr z)) e)
  λe=>by rw[Qo C]at e;cases e
 done:=λs Q E st q=>jX Z st.1 st.2.1 Y X st.2.2 K W (λm x g e=>by rw[qI (QU _)]at e;cases e)
  λ_ g y=>q g s.toks λb o hb e=>y b o (λz=>hb (QI.mpr z)) e
 self:=λi s Q E st q=>yT st.1 q
def p0(pg:Program)(wd:World)(s:Shared)(j n:Addr)(es:List (Int×Value)):Prop :=
 ∃(h:List Addr) (P:Nat->Value->Prop) (St:Nat->Heap->Prop),(∀A:Around,A.handled=none->Walks pg wd A j h [j] es.length P St)/\St 0 s.heap/\(∀b∈h,b<s.heap.objs.size)/\n∉h/\∀w:Array Value,ItemsOf P w es.length->w.toList.Perm (es.map (·.2))
theorem PY(k:n=u.length)(h:ItemsOf (λi v=>u[i]?=some v) w n):w.toList=u:=by obtain⟨z,b⟩:=h;have z:w.toList.length=u.length:=z.trans k;refine List.ext_getElem z λi x y=>?_;have this:u[i]?=some w[i]:=b i w[i] (WV x);rw[Qo y]at this;exact(qD this).symm
theorem LV(h:ItemsOf (λi v=>∃m e,L[i]?=some m/\es[m]?=some e/\v=e.2) w L.length):w.toList=L.filterMap λm=>(es[m]?).map (·.2):=by
 obtain⟨b,k⟩:=h;have x:w.toList.length=L.length:=b;clear b;generalize hv:w.toList=y at x;have z:∀(i:Nat) (v:Value),y[i]?=some v->∃m e,L[i]?=some m/\es[m]?=some e/\v=e.2:=λi v e=>k i v (by rw[<- hv,wH]at e;exact e);clear hv k;induction y generalizing L with
 |nil=>cases L with|nil=>rfl|cons _ _=>cases x
 |cons v y g=>cases L with|nil=>cases x|cons m L=>obtain⟨q,e,p,o,rfl⟩:=z 0 v rfl;cases p;rw[wz,o];exact congrArg _ (g (QB6 x) λi v e=>z (i+1) v e)
noncomputable abbrev jR(f:Value)(a n ep:Nat):Obj:={ cls:=.type "set_iterator",data:=.fields #[f,rawInt ((0:Nat):Int),.ref a,rawInt n,rawInt ep] }
noncomputable abbrev MM(L:List Nat):Obj:={ cls:=.type "tuple",data:=.seq (L.map λi=>rawInt (i:Nat)).toArray }
theorem ma{n:Addr}(W:sh.heap.get? a=some (setO es ep t))(Z:t.fits es.size=true)(hz:es.size<=4096)(S:wd.params.followText "set-order"=false->t.led=true)(pl:es.size=0∨t.plain=false)(na:n≠a)(R:n<sh.heap.objs.size)
  (k:∀s' j,(∀b o,sh.heap.get? b=some o->s'.heap.get? b=some o)->s'.gens=sh.gens->s'.os=sh.os->s'.toks=sh.toks->(∀b o,sh.heap.get? b=some o->b≠j)->p0 pg wd s' j n es.toList->Q (.ref j) s'):wpAny (model pg wd) l (pyIter (.ref a)) Q Er sh:=by
 have ty:sh.TypeIs (.ref a) "set":=⟨_,W,rfl⟩
 have hs:sizeLine=16777216:=QS;have la:=QR W;refine Wu ty QCS (Q2 QCS ty F.entry_set_iter ?_ (F.args_set_iter_1 _));unfold Builtin.«frozenset.__iter__» Builtin.Frozenset.slot0 Builtin.Frozenset.sizeOf setDrawn setsByText;refine QA (QA (Wc (a:=(Value.ref a,[])) rfl (QJ ?_)));refine QA (QA (QAO W rfl Z (QJ ?_)));refine QA (QA (wr W rfl Z (QA (QA (WF (QJ (QJ ?_)))))));dsimp only;have fin:∀(Y:Shared) (f:Value),Y.gens=sh.gens->Y.os=sh.os->Y.toks=sh.toks->(∀b o,sh.heap.get? b=some o->Y.heap.get? b=some o)->p0 pg wd { Y with heap:=Y.heap.push (jR f a es.size ep) } Y.heap.objs.size n es.toList ->
   wpAny (model pg wd) l.in1 (do let e <- setEpoch a;let v <- newFields "set_iterator" [f,rawInt 0,.ref a,rawInt es.size,rawInt e];ret v) (λfin s'=>∃v,fin=.done (.ret v)/\∃T' r,s'.TypeIs v T'/\typeLookup (.type T') (Qh "__next__")=pure (some r)/\Q v s') Er Y:=λY f g1 g2 g3 H gv=>by
  refine QA (wpAny_setEpoch_of (H a _ W) rfl Z (QA (Qs ?_)));refine QJ ⟨_,rfl,"set_iterator",_,⟨_,QN _ rfl,rfl⟩,F.slot_si.lookup,k _ _ (λb o e=>QH _ (H b o e)) g1 g2 g3 (λb o e=>Qa (QR (H b o e))) gv⟩
 have lt1:∀{Y:Heap}{o:Obj},∀b,b<Y.objs.size->b<(Y.push o).objs.size:=λ{Y o} b h=>by rw[wc];exact qi h
 show wpAny _ _ (if(!wd.params.followText "set-order" && (!t.plain&&decide (es.size > 1)))=true then _ else _) _ _ _;by_cases c:(!wd.params.followText "set-order" && (!t.plain&&decide (es.size > 1)))=true;rw[if_pos c];refine QA (tZ es.size _ sh qX λL d p=>QA (QBO ?_ (by rw[QF,p.length_eq,qX];omega)));have N:L.length=es.size:=by rw[p.length_eq,qX]
 have hL:∀m∈L,m<es.size:=λm hm=>WT.mp (p.mem_iff.mp hm);refine fin { sh with drawn:=d,heap:=sh.heap.push (MM L) } _ rfl rfl rfl (λb o e=>QH _ e) ?_;have I:∀{b},b<sh.heap.objs.size->b≠(sh.heap.push (MM L)).objs.size:=λh=>by rw[wc];exact Qa (qi h)
 have J:=QN (o:=jR (.ref sh.heap.objs.size) a es.size ep) (sh.heap.push (MM L)) rfl;have gP:((sh.heap.push (MM L)).push (jR (.ref sh.heap.objs.size) a es.size ep)).get? sh.heap.objs.size=some (MM L):=QH _ (QN _ rfl);have M:=QH (jR (.ref sh.heap.objs.size) a es.size ep) (QH (MM L) W);refine⟨[(sh.heap.push (MM L)).objs.size,a,sh.heap.objs.size],λi v=>∃m e,L[i]?=some m/\es[m]?=some e/\v=e.2,λi h=>ZM h (sh.heap.push (MM L)).objs.size a (.ref sh.heap.objs.size) i es.size ep/\h.get? a=some (setO es ep t)/\h.get? sh.heap.objs.size=some (MM L),λA hd=>?_,⟨⟨_,J,rfl,rfl⟩,M,gP⟩,λb hb=>?_,λz=>?_,λw h=>?_⟩;rw[QX,<- N];refine iW hd (I la) (by rw[wc];exact Qa (WY _)) Z N (c:=0) rfl hL;rcases QK.mp hb with z|z
 ·rw[z];exact QR J
 rcases QK.mp z with z|z
 ·rw[z];exact QR M
 rw[QI.mp z];exact QR gP;rcases QK.mp z with z|z
 ·exact I R z
 rcases QK.mp z with z|z
 ·exact na z
 exact Qa R (QI.mp z);rw[QX,<- N]at h;rw[LV h];refine(p.filterMap _).trans ?_;rw[<- List.map_filterMap,filterMap_getElem?_range];rw[if_neg c];have I:∀{b},b<sh.heap.objs.size->b≠sh.heap.objs.size:=λh=>Qa h;refine fin sh _ rfl rfl rfl (λ_ _ e=>e) ?_;have X:∀(g:Nat->Nat) (u:List Value),g 0=0->u.length=es.size->u.Perm (es.toList.map (·.2))->(∀(i:Nat) (A:Around) (s:Shared) (E:AB) (q:Option (Value×Nat)->Shared->Prop),i<=u.length->s.heap.get? a=some (setO es ep t)->q ((u[i]?).map λx=>(x,g (i+1))) s->wpAny (model pg wd) A (setNext a (g i) i ep) q E s) ->
   p0 pg wd { sh with heap:=sh.heap.push (jR (rawInt 0) a es.size ep) } sh.heap.objs.size n es.toList:=λg u g0 O po nx=>by
  have J:=QN (o:=jR (rawInt 0) a es.size ep) sh.heap rfl;have M:=QH (jR (rawInt 0) a es.size ep) W;refine⟨[sh.heap.objs.size,a],λi v=>u[i]?=some v,λi h=>ZM h sh.heap.objs.size a (rawInt (g i)) i es.size ep/\h.get? a=some (setO es ep t),λA hd=>?_,⟨⟨_,J,rfl,by rw[g0];rfl⟩,M⟩,λb hb=>?_,λz=>?_,λw h=>?_⟩;rw[QX,<- O];exact JW hd (I la) Z O nx;rcases QK.mp hb with z|z
  ·rw[z];exact QR J
  rw[QI.mp z];exact QR M;rcases QK.mp z with z|z
  ·exact I R z
  exact na (QI.mp z);rw[PY (by rw[QX,O]) h];exact po
 cases hb:wd.params.followText "set-order" with
 |true =>
  have pp:(pickOrder (wd.params.setOrder a ep) es).toList.Perm es.toList:=by have:=xV (wd.params.setOrder a ep) es.size 0 es.toList #[] (QX ..);exact this
  refine X (λ_=>0) ((pickOrder (wd.params.setOrder a ep) es).toList.map (·.2)) rfl ?_ (pp.map _) λi A s E q B e G=>rV hb e Z ?_;rw[QF,pp.length_eq,QX];rw[Qc,wH,Option.map_map]at G;exact G
 |false =>
  have sz:es.size<=1:=by rw[hb]at c;rcases pl with z|z;omega;rw[z]at c;simp at c;omega
  have K:t.place.size=es.size:=by unfold SetTable.fits at Z;simp only[Qg,beq_iff_eq]at Z;exact Z.1
  refine X (λi=>if i=0 then 0 else t.place.getD 0 0+1) (es.toList.map (·.2)) rfl (by rw[QF,QX]) (wf _) λi A s E q B e G=>sY hb e Z sz (S hb) ?_;have q1:(match es[wg t.place (if i=0 then 0 else t.place.getD 0 0+1)]?,t.place[wg t.place (if i=0 then 0 else t.place.getD 0 0+1)]? with|some (_,x),some j=>some (x,j+1)|_,_=>none)=((es.toList.map (·.2))[i]?).map λx=>(x,if i+1=0 then 0 else t.place.getD 0 0+1):=by
   rw[QF,QX]at B;rw[Qc,wH];generalize t.place=P at K ⊢;obtain⟨P⟩:=P;obtain⟨C⟩:=es;have K:P.length=C.length:=K;have sz:C.length<=1:=sz;have B:i<=C.length:=B;have cs:(C=[]/\P=[])∨∃h x p,C=[(h,x)]/\P=[p]:=by
    cases C with|nil=>exact .inl ⟨rfl,qu.mp K⟩|cons y r=>rw[QM]at sz K;obtain rfl:r=[]:=qu.mp (by omega);obtain⟨p,hp⟩:=QA1.mp K;exact .inr ⟨y.1,y.2,p,rfl,hp⟩
   rcases cs with⟨rfl,rfl⟩| ⟨h,x,p,rfl,rfl⟩
   obtain rfl:i=0:=Nat.le_zero.mp B;rfl;rcases Nat.le_one_iff_eq_zero_or_eq_one.mp B with rfl|rfl
   ·rfl
   have:wg #[p] (p+1)=1:=by unfold wg;show QBz #[p] (p+1) 1 0 1=1;unfold QBz;rw[if_pos (by decide)];show(if p<p+1 then _ else _)=1;rw[if_pos (WY p)];rfl
   show(match (#[(h,x)]:Array (Int×Value))[wg #[p] (p+1)]?,(#[p]:Array Nat)[wg #[p] (p+1)]? with|some (_,x),some j=>some (x,j+1)|_,_=>none)=none;rw[this];rfl
  rw[<- q1]at G;exact G
end
end
section
noncomputable abbrev nL:Obj:={ cls:=.type "list",data:=.seq #[] }
variable{pg:Program}{wd:World}{u:Around}{Er:AB}{sh:Shared}{a:Addr}
theorem SS:∀{vs:List Value},(∀v∈vs,∃t,v=.str (xT v) t)->StrsAre vs (vs.map xT)
 |[],_=>.nil|v::vs,h=>by obtain⟨t,e⟩:=h v QE;have r:=SS (vs:=vs) λw x=>h w (QG _ x);have:=StrsAre.cons (xT v) t r;rw[<- e]at this;exact this
theorem gQ{l:List Str}{Q:List Value->Shared->Prop}(hd:u.handled=none)(S:jI pg wd sh.heap a (!wd.params.followText "set-order") l)(bd:l.length<=4000)
  (k:∀s' vs Z,StrsAre vs Z->Z.Perm l->(∀b o,sh.heap.get? b=some o->s'.heap.get? b=some o)->s'.gens=sh.gens->s'.os=sh.os->sh.heap.objs.size<s'.heap.objs.size->Q vs s'):wpAny (model pg wd) u (collect (.ref a)) Q Er sh:=by
 obtain⟨p,ep,t,N,el,L,nd,hf,hb,hp⟩:=S;have sz:p.size=l.length:=by rw[<- L,QF,QX]
 have hs:sizeLine=16777216:=QS;have G:=QR N;generalize hn:sh.heap.objs.size=n at G;have C:n≠a:=wF G;unfold collect;refine QA (wpAny_runValue (qt F.entry_proto_collect ?_));rw[qP F.plain_proto_collect _];refine QA (m:=newList []) (Qs ?_);rw[hn];refine QJ ⟨WA QB0 _,qt F.entry_list_iadd ?_⟩;rw[qP QB0 _];show wpAny _ u.in1 (QAP (.ref n) (.ref a) (.ref n)) _ _ _;have J:(sh.heap.push nL).get? n=some nL:=hn▸QN _ rfl;have Y:(sh.heap.push nL).get? a=some (setO p ep t):=QH _ N;have ns:Builtin.List.listSameRef (.ref n) (.ref a)=false:=beq_eq_false_iff_ne.mpr C;unfold QAP Builtin.List.listLengthHint;refine QA (Wf (T:="set") ⟨_,Y,rfl⟩ ?_);rw[if_neg (by simp only[ns];decide)];refine QA (ma (sh:={ sh with heap:=sh.heap.push nL }) (n:=n) Y hf (by omega) (λh=>by rw[hb,h];rfl) hp C (QR J) λg j X g1 g2 g3 nj gv=>?_);have ty:g.TypeIs (.ref a) "set":=⟨_,X a _ Y,rfl⟩
 refine QA (qK (QA (wpAny_specialOf ty F.slot_set_len.lookup ?_)));generalize hx:("set.__len__":String)=x
 wp_delta
 rw[show splitId x=some ("set","__len__") by rw[<- hx];decide +kernel];subst hx;refine QA (QAB (b:=true) ty (by rw[QBP];kernel_rfl) ?_);show wpAny _ _ (typeOf (.ref a) >>= _) _ _ _;refine QA (Wf ty (QJ ?_));rw[if_pos (by decide)];have K:=X n _ J;refine QA (QAM (QA ?_));show wpAny _ u.in1 (updateSeq n (·.push .none) >>= λ_=>updateSeq n (·.pop)) _ _ _;refine QA (wpAny_updateSeq K rfl ?_);have f:=Q3 (qJ (·.push Value.none)) K rfl;refine wpAny_updateSeq (hz:=by seq_fits) f rfl ?_;have r:=Q3 (qJ (·.pop)) f rfl;have i:∀b o,b≠n->g.heap.get? b=some o->((g.heap.update n (qJ (·.push Value.none))).update n (qJ (·.pop))).get? b=some o:=λb o z e=>by rw[Q8 _ _ (Q1 z),Q8 _ _ (Q1 z)];exact e
 obtain⟨fp,P,St,W,q,lt,B,fin⟩:=gv;have O:=(W u.in1 hd).toS;have lz:p.toList.length=p.size:=QX ..;refine QJ ⟨WA F.plain_extend_loop _,codeAny_extend_loopS O (by omega) _ B _ _ 0 _ _ _ rfl (Q5 _) (O.frame 0 g _ g.toks q (QU _) λb hb o e=>i b o (λz=>B (z▸hb)) e) r (ItemsOf.nil P) λs' w c s I it=>?_⟩;refine QA (m:=load n) (wpAny_load I (QJ ?_));have A:=fin w it;have H:=s.gens;have R:=s.os;refine k s' w.toList (w.toList.map xT) (SS λv hv=>?_) ?_ (λb o e=>?_) (H.trans g1) (R.trans g2) (hn▸QR I);obtain⟨e,he,rfl⟩:=QY.mp (A.mem_iff.mp hv);exact sZ el he;have:=A.map xT;rw[Qd]at this;rw[<- L];exact this;have M:(sh.heap.push nL).get? b=some o:=QH _ e;have E:b<n:=hn▸QR e;exact s.heap b o (λm=>(QK.mp m).elim (Qa E) λy=>nj b o M (QI.mp y)) (i b o (Qa E) (X b o M))
end
section
variable{pg:Program}{wd:World}{h:Around}{Er:AB}{sh:Shared}{a:Addr}
theorem IQ{y:List Str}{Q:AB}(Z:h.handled=none)(S:jI pg wd sh.heap a (!wd.params.followText "set-order") y)(W:y.length<64)
  (k:∀s' l out z e,StrsAre out z->z.Perm y->sortedS z=true->s'.heap.get? l=some (seqObj "list" out.toArray e)->sh.heap.objs.size<=l->(∀b o,sh.heap.get? b=some o->s'.heap.get? b=some o)->s'.gens=sh.gens->s'.os=sh.os->Q (.ref l) s') :
  wpAny (model pg wd) h (call (.builtin "sorted") [.ref a]) Q Er sh:=by
 have I:sizeLine=16777216:=QS;refine QAe kind_sorted plain_sorted entry_sorted (args_sorted1 _) ?_;unfold Builtin.«sorted»;refine QA (m:=checkCount "sorted" 1 1 _) (QJ (QA (gQ Z S (by omega) λf v z u p r F E ls=>?_)));have G:v.length=y.length:=(OM u).1.trans p.length_eq;refine QA (QBg ?_ (by omega));have g:(f.heap.push (seqObj "list" v.toArray 0)).get? f.heap.objs.size=some (seqObj "list" v.toArray 0):=QN _ rfl;refine QA (qK (Q2 slot_list_sort ⟨_,g,rfl⟩ entry_list_sort ?body (args_list_sort _)));refine list_sort_treeK strKind_oneLt g u.keysOf (λj i n e=>keyKind_strs (by rw[<- e];exact u)) (by omega) λx Y X=>?_;obtain⟨w,B,A,K⟩:=sorted_out_str u Y X;obtain⟨e,C⟩:=sortedHeap_at (out:=(arrOf x).map (·.2)) g;refine⟨_,rfl,QJ ⟨_,rfl,k _ f.heap.objs.size ((arrOf x).map (·.2)).toList w e B (A.trans p) K (by rw[Array.toArray_toList];exact C) (QAX ls) (λb o s=>?_) F E⟩⟩;have q:=QR (r b o s);rw[sortedHeap_old (Qa q) (by rw[size_push'];exact qi q)];exact QH _ (r b o s)
end
def rX(K:QC)(x:V)(H:Hp)(Q:VK):Prop:=∃p,∃y:List Str,x=.ref p/\yC K H p (y.map V.str)/\y.length<4000/\∀h:List Str,h.Nodup->(∀s,s∈h↔s∈y)->Q (.int h.length) H
def pX(K:QC)(x:V)(H:Hp)(Q:VK):Prop:=∃p,∃y:List Str,x=.ref p/\yC K H p (y.map V.str)/\y.length<64/\∀(l:Addr) (h:List Str),H l=none->h.Nodup->(∀s,s∈h↔s∈y)->sortedS h=true->Q (.ref l) (DA H l (.lst (h.map V.str)))
theorem _root_.L2.Inv.anyd{X:Cx}{h:NB}{σ:St}{H:Hp}{s:Shared}{d':Drawn}(I:Inv X h σ H s):Inv X h σ H { s with drawn:=d' }:=⟨I.ok,I.os,I.bare,I.base,I.loc,I.cell,I.free,I.freeC,I.pin,I.hok,I.len⟩
theorem D6:∀{x:List Str}{its:List Value},dA (x.map V.str) its->StrsAre its x
 |[],[],_=>.nil|y::x,u::its,h=>by
  rw[QO]at h;cases h with|cons h t=>obtain⟨k,rfl⟩:=h;exact .cons _ _ (D6 t)
 |_::_,[],h=>by cases h|[],_::_,h=>by cases h
theorem Mc{ss:List Str}{its:List Value}(h:StrsAre its ss):dA (ss.map V.str) its:=by
 induction h with|nil=>exact .nil|cons y t _ x=>exact .cons ⟨t,rfl⟩ x
section
variable{X:Cx}{a:Expr}{ta:TE}{p2 y:Pos}
theorem kX{v:NB}{s:Shared}{σ:St}{H:Hp}{o:List Value->Shared->Prop}{R:V->Hp->Prop}(hc:X.calm=true)(G:Gl X "set")(B:X.mg "set"=none)(F:PE X a ta)(st:starEach [a] X.env=(false,eval a X.env)::starEach [] X.env)(I:Inv X v σ H s)(h:ta σ H R)
  (k:∀x b f,R x b->Inv X v σ b f->∃p,∃ss:List Str,x=.ref p/\yC X.K b p (ss.map V.str)/\ss.length<4000/\∀i e,Inv X v σ b i->jI X.prog X.w i.heap f.heap.objs.size (!X.w.params.followText "set-order") e->(∀z,z∈e↔z∈ss)->e.length<=ss.length->o [.ref f.heap.objs.size] i) (pos:Pos) :
  wpAny (model X.prog X.w) X.A (spliced (backTo pos (starEach [.Call (.Name "set" p2) [a] [] y] X.env))) o X.xe s:=by
 show wpAny _ _ (spliced ((false,eval (.Call (.Name "set" p2) [a] [] y) X.env)::[])) _ _ s;refine Wj (qm (jF I G B PyProof.Rows.boot_set (qq ?_ st rfl)));rw[st];show wpAny _ _ (spliced ((false,eval a X.env)::[])) _ _ s;refine Wj (LB (F v s σ H _ I h) λu f ⟨x,b,g,Z,r⟩=>Wr ?_);obtain⟨p,ss,rfl,E,lt,q⟩:=k x b f r g;cases Z;obtain⟨j,n,W,J⟩:=g.list E;have hl:ss.length=j.length:=by rw[<- n.length,QF]
 refine DL (g.ok.hd hc) W.isList (by simpa using D6 n) (by rw[QT];omega) λL Y e S m l C=>Wr (q _ e (g.kept (t':=Y) C) S m (by rw[QT]at l;omega))
theorem U3{k pos:Pos}(hc:X.calm=true)(o:Gl X "len")(n:Gl X "set")(f:X.mg "len"=none)(b:X.mg "set"=none)(j:PE X a ta)(st:starEach [a] X.env=(false,eval a X.env)::starEach [] X.env) :
  PE X (.Call (.Name "len" k) [.Call (.Name "set" p2) [a] [] y] [] pos) λσ H Q=>ta σ H λx u=>rX X.K x u Q:=by
 intro v s σ H Q I h;refine qm (jF I o f PySem.boot_len (ww (kX hc n b j st I h (λx u B ⟨p,w,e,g,lt,q⟩ G=>⟨p,w,e,g,lt,λA z W S m l=>?_⟩) pos) rfl rfl));obtain⟨Y,E,t,Z,F,r,nd,i,hb,C⟩:=S;have sz:Y.size=z.length:=by rw[<- r,QF,QX]
 refine call_len_set Z ⟨rfl,rfl,rfl⟩ rfl i (by omega) ⟨.int z.length,u,W.tok _,⟨_,by rw[sz]⟩,q z nd m⟩
theorem V3{Z pos:Pos}(hc:X.calm=true)(b:Gl X "sorted")(k:Gl X "set")(A:X.mg "sorted"=none)(W:X.mg "set"=none)(E:PE X a ta)(st:starEach [a] X.env=(false,eval a X.env)::starEach [] X.env) :
  PE X (.Call (.Name "sorted" Z) [.Call (.Name "set" p2) [a] [] y] [] pos) λσ H Q=>ta σ H λx g=>pX X.K x g Q:=by
 intro j s σ H Q I h;refine qm (jF I b A QAk (ww (kX hc k W E st I h (λx g L ⟨p,o,e,C,lt,q⟩ I1=>⟨p,o,e,C,by omega,λJ G f S m l=>?_⟩) pos) rfl rfl));have nd:=S;obtain⟨_,_,_,_,_,_,nd,_⟩:=nd;refine IQ (f.ok.hd hc) S (by omega) λY l out u e i v r F le B b k=>?_;obtain⟨h',R,dr,n,M⟩:=Y;cases b;cases k;have O:=(OM i).1;have N:=v.length_eq;have P:sizeLine=16777216:=QS;refine⟨.ref l,DA g l (.lst (u.map V.str)),(f.laid (t':=n) (h':=h') B le (show LA X.prog X.w _ h' _ (.lst (u.map V.str)) from⟨by rw[QF];omega,out,e,Mc i,F⟩)).anyd,rfl,q l u (f.hok.fresh le) (v.nodup_iff.mpr nd) (λz=>(v.mem_iff).trans (m z)) r⟩
end
theorem lM:entryFor table "dict.update.loop"=some Builtin.«dict.update.loop»:=QCH (by kernel_rfl)
theorem gG:plainId "dict.update.loop"=true:=by decide +kernel
section
variable{pg:Program}{wd:World}{y:Around}{Er:AB}{sh:Shared}{K:Type}[DecidableEq K]{knd:KeyKind pg wd K}
section
variable{l:Addr}{xs:Array Value}{kvs:List (K×Value)}{m:Nat}{sl:Array (Option Value)}
def uL(knd:KeyKind pg wd K)(h:Heap)(z:List Addr)(v:Value)(p:K×Value):Prop:=∃a x,v=.ref a/\a∉z/\h.IsTuple a #[x,p.2]/\knd.is p.1 x=true
theorem uL.at{h h':Heap}{z:List Addr}{v:Value}{p:K×Value}(x:uL knd h z v p)(k:∀a o,a∉z->h.get? a=some o->h'.get? a=some o):uL knd h' z v p:=by obtain⟨a,u,e,n,⟨o,g,c⟩,i⟩:=x;exact⟨a,u,e,n,⟨o,k a o n g,c⟩,i⟩
theorem zW{d it:Addr}{R:Result->Shared->Prop}(hd:y.handled=none)(O:l≠it)(G:d∉[it,l])(hl:xs.size=kvs.length)(bd:kvs.length<=sizeLine)(hn:(kvs.map qQ).Nodup) :
  ∀(n i:Nat) (sh:Shared),xs.size - i=n->i<=xs.size->(sh.heap.IsListIter it l i/\sh.heap.IsList l xs)->sh.heap.DictOf knd d (kvs.take i)->(∀(j:Nat) (v:Value) (p:K×Value),xs[j]?=some v->kvs[j]?=some p->uL knd sh.heap [d,it] v p) ->
   (∀s',Moved [d,it] (λa b=>b=a) sh s'->s'.heap.DictOf knd d kvs->R (.ok (.ret .none)) s') ->
   codeAny (model pg wd) y (.builtin "dict.update.loop" ⟨[.ref d,.ref it,rawInt i,.none],[]⟩) R sh:=by
 have W:=(QBs (prog:=pg) (w:=wd) (A:=y.in1) hd it l O xs).toS;have sub:∀c∈[it],c∈[d,it]:=λc hc=>QG _ hc;have F:d∉[it]:=λz=>G (QK.mpr (.inl (QI.mp z)));intro n;induction n with
 |zero =>
  intro i sh en P x h tp k;obtain rfl:i=xs.size:=by omega
  refine qt lM ?_;rw[qP gG _];rw[hl,QCG]at h;refine QA (m:=pyNext (.ref it)) (W.done sh _ _ x λs' f=>?_);show wpAny (model pg wd) _ (Builtin.Dict.addKeywords d [] >>= _) _ _ s';refine QA (QJ (QJ (k s' (f.mono sub) ?_)));obtain⟨o,r⟩:=wt.mp h;exact wt.mpr ⟨o,f.heap d o F r.1,r.2⟩
 |succ n Q =>
  intro i sh en P x h tp k;have lt:i<xs.size:=by omega
  refine qt lM ?_;rw[qP gG _];refine QA (m:=pyNext (.ref it)) (W.item i sh _ _ lt x λv s' N Y f=>?_);have E:kvs[i]?=some kvs[i]:=Qo (by omega);generalize kvs[i]=p at E;have s:∀(j:Nat) (v:Value) (p:K×Value),xs[j]?=some v->kvs[j]?=some p->uL knd s'.heap [d,it] v p:=λj v p a b=>(tp j v p a b).at λa o n g=>f.heap a o (λz=>n (sub _ z)) g;obtain⟨a,C,rfl,na,T,hk⟩:=s i v p N E;have X:s'.heap.DictOf knd d (kvs.take i):=by obtain⟨o,r⟩:=wt.mp h;exact wt.mpr ⟨o,f.heap d o F r.1,r.2⟩
  have H:wpAny (model pg wd) y.in1 (QA2 (.ref a)) (λl u=>l=[C,p.2]/\u=s') (λ_ _=>False) s':=by obtain⟨o,g,c,m,dt⟩:=T;unfold QA2;refine QA (Wf ⟨o,g,c⟩ ?_);rw[if_pos (by decide)];exact QA (QAd g dt (QJ ⟨rfl,rfl⟩))
  refine QA (qK (QA (wpAny_tryCatch (wN H (λl u e=>?_) λ_ _ z=>z.elim))));obtain⟨rfl,rfl⟩:=e;have e1:stored (kvs.take i) p.1 p.2=kvs.take (i+1):=by
   have J:kvs.take (i+1)=kvs.take i++[p]:=by rw[List.take_succ,E];rfl
   have I:=(hn.sublist ((QBp (i+1) kvs).map qQ))
   rw[J,QW,qH]at I;unfold stored;rw[if_neg,J];rw[Wa];rintro⟨q,S,e⟩;exact I.2.2 _ (We S) _ QE (of_decide_eq_true e)
  refine qK (wpAny_dictSet_pairs hk X (λh' L Z=>?_) (by rw[qw];omega));rw[e1]at L;refine QJ ⟨WA gG _,?_⟩;refine Q (i+1) _ (by omega) lt (W.frame _ u _ _ Y (wR _) λc hc o e=>?_) L (λj v p a b=>(s j v p a b).at λa o n g=>?_) λM B d4=>k M (Moved.trans W.gtrans ((f.mono sub).then_heap (wR _) λc o hc e=>?_) B) d4;rw[Z.2 c λq=>G (q▸hc)];exact e;rw[Z.2 a λq=>n (q▸QE)];exact g;rw[Z.2 c λq=>hc (q▸QE)];exact e
theorem Z5{a:Addr}{Q:Option Value->Shared->Prop}(g:sh.heap.get? a=some ⟨.type "list",none,.seq xs m,sl⟩)(p:y.handled=none)
  (q:∀h' h,(∀b o,sh.heap.get? b=some o->h'.get? b=some o)->Q none { sh with heap:=h',toks:=h }):wpAny (model pg wd) y (getAttr? (.ref a) "keys") Q Er sh:=by
 obtain⟨n,v,w,h,u⟩:=sh;have ty:∀k,(⟨n,v,w,k,u⟩:Shared).TypeIs (.ref a) "list":=λ_=>⟨_,g,rfl⟩
 have W:=sub_AttributeError;have Z:=Wh.lookup;have Y:=Wh.bind (.ref a);have X:=am_list_getattr_none;have j:typeLookup (.type "list") "keys"=pure none:=am_miss_of_fast (by kernel_rfl);unfold getAttr? getAttrBy? getAttrBy
 repeat (any_goals (first|assumption|exact ty _ | ((with_reducible show wpAny _ _ (call (Value.builtin "list.__getattribute__") _ _) _ _ _);refine QAL Wh (ty _) am_entry_list_getattribute (F.args_list_getattribute_2 _ _) (meets_getattribute_miss_list a xs m sl "keys" _ j (by decide) (by decide)) ⟨g,p,λh' f e x=>?_⟩)|wp_step))
 obtain⟨s,r,z⟩:=x.there;have i:∀k,(⟨h',v,w,k,u⟩:Shared).TypeIs (.ref e) "AttributeError":=λ_=>⟨_,z,rfl⟩
 show wpAny _ _ (getattributeRaised (.ref a) _ _ _ _ _ _) _ _ _;unfold getattributeRaised
 repeat (any_goals (first|assumption|exact i _|wp_step))
 exact q _ _ x.keeps
theorem rJ{Q:AB}(C:y.handled=none)(B:sh.heap.get? l=some ⟨.type "list",none,.seq xs m,sl⟩)(hl:xs.size=kvs.length)(O:kvs.length<=sizeLine)(M:(kvs.map qQ).Nodup)
  (tp:∀(j:Nat) (v:Value) (p:K×Value),xs[j]?=some v->kvs[j]?=some p->∃a h,v=.ref a/\sh.heap.IsTuple a #[h,p.2]/\knd.is p.1 h=true)
  (k:∀(h':Heap) (s:Nat),h'.DictOf knd sh.heap.objs.size kvs->(∀b o,sh.heap.get? b=some o->h'.get? b=some o)->Q (.ref sh.heap.objs.size) { sh with heap:=h',toks:=s }) :
  wpAny (model pg wd) y (call (.type "dict") [.ref l]) Q Er sh:=by
 refine callType_codes (Q₁:=λobj x=>obj=.ref sh.heap.objs.size/\x={ sh with heap:=sh.heap.push { cls:=.type "dict",data:=.dict #[] } }) F.kt_called_dict (F.kt_typeCall_dict_1 _) F.entry_dict_init (kt_code_dict_new _ ⟨rfl,rfl⟩) ?_;rintro obj x ⟨rfl,rfl⟩;have u:(sh.heap.push { cls:=.type "dict",data:=.dict #[] }).DictOf knd sh.heap.objs.size []:=Heap.DictOf.new sh.heap;have X:(sh.heap.push { cls:=.type "dict",data:=.dict #[] }).get? l=some ⟨.type "list",none,.seq xs m,sl⟩:=QH _ B;have Y:l<sh.heap.objs.size:=QR B;refine⟨u.typeIs,F.args_dict_init_2 _ _,?_⟩;unfold Builtin.«dict.__init__»;refine QA ?_;unfold Builtin.Dict.selfAndRest;refine QA (WN u.typeIs ?_);show wpAny _ _ (pure (sh.heap.objs.size,[Value.ref l])) _ _ _;refine QJ ?_;show wpAny _ _ (QAu "dict.__init__" sh.heap.objs.size (.ref l) [] .none) _ _ _;unfold QAu;have ty:QBi { sh with heap:=sh.heap.push { cls:=.type "dict",data:=.dict #[] } } (.ref l) "list":=by exact⟨_,X,rfl⟩
 refine QA (Wf ty ?_);rw[if_pos (by decide)];refine QA (Z5 X C λw G n=>?_);rw[if_pos (by rfl)];have A:w.IsList l xs:=⟨_,n _ _ X,rfl,m,rfl⟩
 have E:w.DictOf knd sh.heap.objs.size []:=by obtain⟨o,r⟩:=wt.mp u;exact wt.mpr ⟨o,n _ _ r.1,r.2⟩
 refine QA (QAM (QA (wn A ?_)));refine QJ ⟨WA gG _,?_⟩;have q:sh.heap.objs.size<w.objs.size:=by obtain⟨o,r⟩:=wt.mp E;exact QR r.1
 have J:l≠w.objs.size:=Qa (QA8 Y q);have L:sh.heap.objs.size∉[w.objs.size,l]:=λz=>by rcases QK.mp z with z|z;exact Qa q z;exact wF Y (QI.mp z)
 refine zW (kvs:=kvs) (knd:=knd) (by simp[C]) J L hl O M xs.size 0 _ (QB5 _) (Q5 _) ⟨⟨_,QN _ rfl,rfl,rfl⟩,A.push _⟩ (E.push _) (λj v p a b=>?_) λI f N=>?_;obtain⟨c,h,e,T,i⟩:=tp j v p a b;obtain⟨o,g,r⟩:=T;have Z:c<sh.heap.objs.size:=QR g;refine⟨c,h,e,λz=>?_,⟨o,QH _ (n _ _ (QH _ g)),r⟩,i⟩;rcases QK.mp z with z|z;exact Qa Z z;exact Qa (QA8 Z q) (QI.mp z);obtain⟨h',R,S,s,P⟩:=I;cases f.gens;cases f.drawn;cases f.os;refine⟨rfl,k h' s N λb o g=>?_⟩;have W:b<sh.heap.objs.size:=QR g;refine f.heap b o (λz=>?_) (QH _ (n _ _ (QH _ g)));rcases QK.mp z with z|z;exact Qa W z;exact Qa (QA8 W q) (QI.mp z)
end
end
noncomputable abbrev ec:=List (Addr×Str×V)
def oT(h:ec):List (Key×V):=h.map λz=>(Sum.inr z.2.1,z.2.2)
def C8(K:QC)(x:V)(H:Hp)(Q:VK):Prop:=∃p,∃h:ec,x=.ref p/\yC K H p (h.map λz=>V.ref z.1)/\(∀z∈h,XC K H z.1 [.str z.2.1,z.2.2])/\(h.map λz=>z.2.1).Nodup/\∀d,H d=none->Q (.ref d) (DA H d (.dK (oT h)))
theorem kP{pg:Program}{wd:World}{h:Heap}:∀(f:ec) (its:List Value),dA (f.map λz=>V.ref z.1) its->(∀z∈f,∃ts:List Value,dA [.str z.2.1,z.2.2] ts/\IsTup h z.1 ts.toArray) ->
  ∃vs:List (Key×Value),KV (oT f) vs/\vs.length=its.length/\∀(j:Nat) (v:Value) (p:Key×Value),its[j]?=some v->vs[j]?=some p->∃a k,v=.ref a/\h.IsTuple a #[k,p.2]/\(OA pg wd).is p.1 k=true
 |[],its,r,_=>by cases r;exact⟨[],.nil,rfl,λj v p e=>by cases e⟩|z::f,its,r,t=>by
  obtain⟨x,u,rfl,m,r⟩:∃x u,its=u::x/\rA (V.ref z.1) u/\dA (f.map λz=>V.ref z.1) x:=by
   cases r with|cons a b=>exact⟨_,_,rfl,a,b⟩
  obtain⟨vs,Y,X,s⟩:=kP (pg:=pg) (wd:=wd) f x r λy Z=>t y (QG _ Z);obtain⟨ts,q,T⟩:=t z QE;obtain⟨k,w,rfl,o,n⟩:∃k w,ts=[k,w]/\rA (.str z.2.1) k/\rA z.2.2 w:=by
   cases q with
   |cons a b =>
    cases b with|cons c d=>cases d;exact⟨_,_,rfl,a,c⟩
  obtain⟨l,rfl⟩:=o;cases m;refine⟨(Sum.inr z.2.1,w)::vs,.cons ⟨rfl,n⟩ Y,congrArg Nat.succ X,λj v p i g=>?_⟩;cases j with|zero=>cases i;cases g;exact⟨_,_,rfl,T,uM z.2.1 l⟩|succ j=>exact s j v p i g
theorem NT:∀{kvs:List (Key×V)}{vs:List (Key×Value)},KV kvs vs->vs.map qQ=kvs.map qQ
 |_,_,.nil=>rfl|_,_,.cons h t=>by rw[QO,QO,h.1,NT t]
theorem ZX{x:ec}(h:(x.map λz=>z.2.1).Nodup):((oT x).map qQ).Nodup:=by
 have e:(oT x).map qQ=(x.map λz=>z.2.1).map Sum.inr:=by unfold oT;rw[Qd,Qd];rfl
 rw[e];exact WR _ (λa b n z=>n (Sum.inr.inj z)) h
theorem v9{X:Cx}{a:Expr}{ta:TE}{M pos:Pos}(hc:X.calm=true)(g:Gl X "dict")(m:X.mg "dict"=none)(ha:PE X a ta)(st:starEach [a] X.env=(false,eval a X.env)::starEach [] X.env) :
  PE X (.Call (.Name "dict" M) [a] [] pos) λσ H Q=>ta σ H λx A=>C8 X.K x A Q:=by
 intro k s σ H Q I h;refine qm (jF I g m PyProof.Rows.boot_dict (qq ?_ st rfl));rw[st];show wpAny _ _ (spliced ((false,eval a X.env)::[])) _ _ s;refine Wj (LB (ha k s σ H _ I h) λu Y ⟨x,A,y,G,r⟩=>Wr ?_);obtain⟨p,i,rfl,hq,ht,nd,q⟩:=r;cases G;obtain⟨W,J,L,f⟩:=y.list hq;obtain⟨o,n,e,c,dd,dt⟩:=L;obtain⟨oc,od,O,N⟩:=o;cases c;cases dd;cases dt;obtain⟨l,Z,k2,k3⟩:=kP (pg:=X.prog) (wd:=X.w) (h:=Y.heap) i W J λz f=>by obtain⟨B,F,E,_⟩:=y.tuple (ht z f);exact⟨B,F,E⟩
 have P:(oT i).length<=sizeLine:=by unfold oT;rw[QF]at f ⊢;exact f
 have R:l.length<=sizeLine:=by have:=Z.length;omega
 refine rJ (knd:=OA X.prog X.w) (kvs:=l) (y.ok.hd hc) e (by rw[QT,k2]) R (by rw[NT Z];exact ZX nd) (λj v p a b=>k3 j v p (by simpa using a) b) λh' C D S=>?_;exact⟨.ref Y.heap.objs.size,_,y.laid (a:=Y.heap.objs.size) (o:=.dK (oT i)) (t':=C) S (QU _) ⟨P,beq_eq_false_iff_ne.mpr (wF (Inv.big y)),l,Z,D⟩,rfl,q _ (y.hok.fresh (QU _))⟩
inductive Bi where
 |len|any|all|list|sorted
 deriving DecidableEq
inductive Mt where
 |append|pop|join|setd|reverse
 deriving DecidableEq
inductive ItK where
 |val|rng1|enum|itm
 deriving DecidableEq
inductive Tg where
 |nm (i:Nat)|tp (is:List Nat)
 deriving DecidableEq
set_option genSizeOf false in
set_option genInjectivity false in
inductive PX where
 |var (i:Nat)|int (i:Int)|str (x:Str)|bl (b:Bool)|non
 |glo (x:Str)|bty (x:Str) (n:String)
 |bin (op:Operator) (a b:PX)
 |cmp (op:CmpOp) (a b:PX)|neg (a:PX)
 |and (a b:PX)|or (a b:PX)|not (a:PX)
 |call (f:Str) (as:PX)
 |bi (f:Bi) (as:PX)|isi (a c:PX)
 |mt (m:Mt) (o as:PX)
 |idx (a b:PX)|slc (a lo hi:PX)|nop
 |lst (as:PX)|tup (as:PX)|dnew (b:Bool)|dsp (a b:PX)|lset (a:PX)|sset (a:PX)|dof (a:PX)|mv (i:Nat)|ixm (a b:PX)
 |comp (mask:List Bool) (tgs:List Str) (tg:Tg) (ik:ItK) (its cond elt:PX)
 |nr|nq (a as:PX)
structure Ev where
 sp:Str->Sp
 va:Str->V
structure W3 where
 e:TE
 t:TT
 a:TA
def never:W3:=⟨λ_ _ _=>False,λ_ _ _=>False,λ_ _ _=>False⟩
def oF(K:QC)(x:V)(H:Hp)(Q:Bool->Hp->Prop):Prop:=match x with
 | .bl b=>Q b H|.int i=>Q (i != 0) H|.non=>Q false H|.str z=>z.length<=sizeLine/\Q ((z.length:Int) != 0) H|x=>∃k,Hb K x H k/\Q k H
def SZ(x:V)(H:Hp)(Q:Bool->Hp->Prop):Prop:=match x with
 | .bl b=>Q b H|_=>False
def t6(K:QC):Operator->R2
 | .Add=>D8 K|.Sub=>Dd|.Mult=>Nd K|.FloorDiv=>N6|.Mod=>Od|_=>λ_ _ _ _=>False
def F5:R2:=λx y H Q=>∃b c,x=.bl b/\y=.bl c/\Q (.bl (decide (b=c))) H
noncomputable def BZ(K:QC):CmpOp->R2
 | .Eq=>rEq K false|.NotEq=>rEq K true|.Lt=>yV λi j=>decide (i<j)|.LtE=>yV λi j=>decide (i<=j)|.Gt=>yV λi j=>decide (j<i)|.GtE=>yV λi j=>decide (j<=i)|.In=>zP K false|.NotIn=>zP K true|.Is=>F5|_=>λ_ _ _ _=>False
noncomputable def bJ(K:QC):R2:=λx y H Q=>match x,y with
 | .str z,.int i=>z.length<=sizeLine/\∃c,LD z.cps.toList i=some c/\Q (.str ⟨#[c]⟩) H|.ref a,.int i=>∃h v,(yC K H a h∨XC K H a h)/\LD h i=some v/\Q v H|.ref a,.str z=>∃v,sO K H a (.str z) (some v)/\Q v H|.ref a,.ref b=>∃v,sO K H a (.ref b) (some v)/\Q v H|_,_=>False
def zN(K:QC):List V->Hp->VK->Prop:=λx H Q=>∃p h,x=[.ref p]/\(yC K H p h∨XC K H p h)/\∀l,H l=none->Q (.ref l) (DA H l (.lst h))
def gT(K:QC):List V->Hp->VK->Prop:=λv H Q=>∃p,v=[.ref p]/\((∃y:List Str,yC K H p (y.map V.str)/\y.length<64/\∀l h,H l=none->h.Perm y->sortedS h=true->Q (.ref l) (DA H l (.lst (h.map V.str)))) ∨
   (∃z,yC K H p z/\z.length<64/\(∀x∈z,∃a,∃y:List Str,x=.ref a/\yC K H a (y.map V.str))/\∀l u,H l=none->u.Perm z->Q (.ref l) (DA H l (.lst u))))
def Rf(K:QC):Bi->List V->Hp->VK->Prop
 | .len=>Pd K|.any=>Ed K|.all=>je K|.list=>zN K|.sorted=>gT K
def L6:V->List V->Hp->VK->Prop:=λx y H Q=>∃l i h k v,x=.ref l/\y=[.int i]/\H l=some (.lst h)/\HP h.length i=some k/\h[k]?=some v/\Q v (DA H l (.lst (h.eraseIdx k)))
def M6(K:QC):V->List V->Hp->VK->Prop:=λx y H Q=>∃z b,∃h:List Str,x=.str z/\y=[.ref b]/\yC K H b (h.map V.str)/\(h.map (·.length)).sum+h.length * z.length<=16777216/\Q (.str (QAJ z h)) H
def x5(K:QC):Mt->V->List V->Hp->VK->Prop
 | .append=>eJ|.pop=>L6|.join=>M6 K|.setd=>aJ K|.reverse=>yP
def Mt.ty:Mt->String
 | .append=>"list"|.pop=>"list"|.join=>"str"|.setd=>"dict"|.reverse=>"list"
def lK(x:V)(H:Hp)(Q:Option Int->Hp->Prop):Prop:=match x with
 | .int i=>Q (some i) H|_=>False
inductive Item where
 |one (v:V)|tup (vs:List V)
noncomputable def dC(K:QC):ItK->List V->Hp->(List Item->(Hp->Prop)->Hp->Prop)->Prop
 | .val,[.str z],H,R=>R (z.cps.toList.map λc=>.one (.str ⟨#[c]⟩)) (λ_=>True) H|.val,[.ref a],H,R=>(∃x,yC K H a x/\R (x.map .one) (λH=>yC K H a x) H)∨(∃x,XC K H a x/\R (x.map .one) (λH=>XC K H a x) H)∨(∃y,∃h:List KE,H a=some (.dT y h)/\R (h.map λp=>.one (.ref p.2.1)) (λH=>H a=some (.dT y h)) H)|.rng1,[.int j],H,R=>(-(2 ^ 62)<=j/\j<2 ^ 62)/\R ((qA j.toNat).map λ(i:Nat)=>.one (.int (i:Int))) (λ_=>True) H|.enum,[.ref a],H,R=>∃z x,Src.adr z=a/\pW K H z x/\R (x.zipIdx.map λp=>.tup [.int (p.2:Int),p.1]) (λH=>pW K H z x) H|.itm,[.ref a],H,R=>∃y,∃h:List KE,H a=some (.dT y h)/\R (h.map λp=>.tup [.ref p.2.1,p.2.2]) (λH=>H a=some (.dT y h)) H|_,_,_,_=>False
def uB:List Nat->List V->St->Option St
 |[],[],σ=>some σ|i::is,v::vs,σ=>uB is vs (σ.set i (some v))|_,_,_=>none
def VE(K:QC):Tg->TG
 | .nm i=>λv x H Q=>Q (x.set i (some v)) H|.tp z=>λv x H Q=>match v with
  | .ref p=>∃y h,XC K H p y/\uB z y x=some h/\Q h H|_=>False
noncomputable def bindI(K:QC)(z:Tg):Item->St->Hp->(St->Hp->Prop)->Prop
 | .one v=>VE K z v|.tup y=>λx H Q=>match z with
  | .tp w=>∀u,Same H u->∃h,uB w y x=some h/\Q h u|.nm i=>∀p,H p=none->Q (x.set i (some (.ref p))) (DA H p (.tup y))
def tf(K:QC)(xs:List Item)(st:Hp->Prop)(bind:Item->St->Hp->(St->Hp->Prop)->Prop)(tc:TT)(te:TE)(σ:St)(H:Hp)(Q:VK):Prop :=
 ∃W:Nat->List V->Hp->Prop,W 0 [] H/\(∀i h H,i<=xs.length->W i h H->st H) /\
  (∀i x h H,xs[i]?=some x->W i h H->bind x σ H λz u=>tc z u λb v=>if b=true then te z v λy w=>h.length<sizeLine/\W (i+1) (h++[y]) w else W (i+1) h v) /\
  ∀h u,W xs.length h u->h.length<=sizeLine/\∀p,u p=none->Q (.ref p) (DA u p (.lst h))
structure Yields(J:It)(xs:List Item)(st:Hp->Prop):Prop where
 go:∀i H,st H->i<xs.length->J.go i H
 yld:∀i H x H',st H->i<xs.length->J.yld i H x H'->∃it,xs[i]?=some it/\match it with
  | .one v=>x=v/\H'=H|.tup vs=>∃p,H p=none/\x=.ref p/\H'=DA H p (.tup vs)
 stop:∀i H,st H->xs.length<=i->J.stop i H
def af(J:It)(g:TG)(tc:TT)(te:TE)(k:St)(l:Hp)(Q:VK):Prop:=∃W:Nat->Nat->List V->St->Hp->Prop,(∃m,W 0 m [] k l) /\
 ∀i m h v u,W i m h v u->(J.stop i u/\h.length<=sizeLine/\∀p,u p=none->Q (.ref p) (DA u p (.lst h))) ∨
  (J.go i u/\∀x e,J.yld i u x e->g x v e λz j=>tc z j λb a=>if b=true then te z a λy f=>h.length<sizeLine/\∃w,w < m/\W (i+1) w (h++[y]) z f else ∃w,w < m/\W (i+1) w h z a)
def YU(K:QC)(xs:List Item)(st:Hp->Prop)(x:Tg)(tc:TT)(te:TE)(h:St)(H:Hp)(Q:VK):Prop:=∀J,Yields J xs st->af J (VE K x) tc te h H Q
def isNop:PX->Bool
 | .nop=>true|_=>false
noncomputable def wp(K:QC)(Γ:Ev):PX->XK->W3
 | .var i,E=>let e:TE:=λh H Q=>match h[i]? with
   |some (some v)=>Q v H|_=>False
  ⟨e,λh H Q=>e h H λx z=>oF K x z Q,never.a⟩
 | .int i,E=>⟨λ_ H Q=>Q (.int i) H,λ_ H Q=>Q (i != 0) H,never.a⟩|.str x,E=>⟨λ_ H Q=>Q (.str x) H,never.t,never.a⟩|.bl b,E=>⟨λ_ H Q=>Q (.bl b) H,λ_ H Q=>Q b H,never.a⟩|.non,E=>⟨λ_ H Q=>Q .non H,λ_ H Q=>Q false H,never.a⟩|.glo x,E=>⟨λ_ H Q=>Q (Γ.va x) H,λ_ H Q=>oF K (Γ.va x) H Q,never.a⟩|.bty _ n,E=>⟨λ_ H Q=>Q (.ty n) H,never.t,never.a⟩|.bin op a b,E=>let e:TE:=λh H Q=>(wp K Γ a E).e h H λx z=>(wp K Γ b E).e h z λy w=>t6 K op x y w Q
  ⟨e,λh H Q=>e h H λx z=>oF K x z Q,never.a⟩
 | .cmp op a b,E=>let e:TE:=λh H Q=>(wp K Γ a E).e h H λx z=>(wp K Γ b E).e h z λy w=>BZ K op x y w Q
  ⟨e,λh H Q=>e h H λx z=>SZ x z Q,never.a⟩
 | .neg a,E=>⟨λh H Q=>(wp K Γ a E).e h H λx z=>match x with
   | .int i=>Q (.int (-i)) z|_=>False,never.t,never.a⟩
 | .and a b,E=>⟨λh H Q=>(wp K Γ a E).e h H λx z=>SZ x z λc w=>if c=true then(wp K Γ b E).e h w Q else Q (.bl false) w,
   λh H Q=>(wp K Γ a E).t h H λc z=>if c=true then(wp K Γ b E).t h z Q else Q false z,never.a⟩
 | .or a b,E=>⟨λh H Q=>(wp K Γ a E).e h H λx z=>SZ x z λc w=>if c=true then Q (.bl true) w else(wp K Γ b E).e h w Q,
   λh H Q=>(wp K Γ a E).t h H λc z=>if c=true then Q true z else(wp K Γ b E).t h z Q,never.a⟩
 | .not a,E=>⟨λh H Q=>(wp K Γ a E).e h H λx z=>oF K x z λc w=>Q (.bl (!c)) w,λh H Q=>(wp K Γ a E).t h H λc z=>Q (!c) z,never.a⟩|.call f as,E=>let e:TE:=λh H Q=>(wp K Γ as E).a h H λg z=>Γ.sp f g z Q E
  ⟨e,λh H Q=>e h H λx z=>oF K x z Q,never.a⟩
 | .bi f as,E=>let e:TE:=λh H Q=>(wp K Γ as E).a h H λg z=>Rf K f g z Q
  ⟨e,λh H Q=>e h H λx z=>oF K x z Q,never.a⟩
 | .isi a c,E=>let e:TE:=λh H Q=>(wp K Γ a E).e h H λx z=>(wp K Γ c E).e h z λy w=>B8 K [x,y] w Q
  ⟨e,λh H Q=>e h H λx z=>oF K x z Q,never.a⟩
 | .mt m o as,E=>let e:TE:=λh H Q=>(wp K Γ o E).e h H λx z=>HS K m.ty x z/\(wp K Γ as E).a h z λg w=>x5 K m x g w Q
  ⟨e,λh H Q=>e h H λx z=>oF K x z Q,never.a⟩
 | .idx a b,E=>let e:TE:=λh H Q=>(wp K Γ a E).e h H λx z=>(wp K Γ b E).e h z λy w=>bJ K x y w Q
  ⟨e,λh H Q=>e h H λx z=>oF K x z Q,never.a⟩
 | .slc a lo hi,E=>⟨λh H Q=>(wp K Γ a E).e h H λx z =>
   (if isNop lo=true then λ(R:Option Int->Hp->Prop)=>R none z else λR=>(wp K Γ lo E).e h z λl w=>lK l w R) λl w =>
   (if isNop hi=true then λ(R:Option Int->Hp->Prop)=>R none w else λR=>(wp K Γ hi E).e h w λu j=>lK u j R) λu j=>Ci K x l u j Q,never.t,never.a⟩
 | .nop,E=>never|.lst as,E=>⟨λh H Q=>(wp K Γ as E).a h H λk z=>k.length<=sizeLine/\∀p,z p=none->Q (.ref p) (DA z p (.lst k)),never.t,never.a⟩|.tup as,E=>⟨λh H Q=>(wp K Γ as E).a h H λk z=>k.length<=sizeLine/\∀p,z p=none->Q (.ref p) (DA z p (.tup k)),never.t,never.a⟩|.comp mask tgs tg ik its cond elt,E=>⟨λh H Q=>(wp K Γ its E).a h H λg z=>dC K ik g z λk st w =>
   YU K k st tg (if isNop cond=true then λ_ H Q=>Q true H else(wp K Γ cond (λ_ _ _=>False)).t) (wp K Γ elt (λ_ _ _=>False)).e (MH tgs.length mask h) w Q,never.t,never.a⟩
 | .dnew b,E=>⟨λ_ H Q=>∀p,H p=none->Q (.ref p) (DA H p (.dT 0 [])),never.t,never.a⟩|.dsp a b,E=>⟨λh H Q=>∀p,H p=none->(wp K Γ a E).e h (DA H p (.dT 0 [])) λy z=>(wp K Γ b E).e h z λv w=>w p=some (.dT 0 [])/\∃b q,y=.ref b/\XC K w b (q.map kV)/\∀r,Q (.ref p) (DA w p (.dT r [(q,b,v)])),never.t,never.a⟩|.mv i,E=>⟨λh H Q=>match h[i]? with
   |some (some v)=>Q v H|_=>False,never.t,never.a⟩
 | .ixm a b,E=>⟨λh H Q=>(wp K Γ a E).e h H λx z=>(wp K Γ b E).e h z λy w=>bJ K x y w Q,never.t,never.a⟩|.dof a,E=>⟨λh H Q=>(wp K Γ a E).e h H λx z=>C8 K x z Q,never.t,never.a⟩|.lset a,E=>⟨λh H Q=>(wp K Γ a E).e h H λx z=>rX K x z Q,never.t,never.a⟩|.sset a,E=>⟨λh H Q=>(wp K Γ a E).e h H λx z=>pX K x z Q,never.t,never.a⟩|.nr,E=>⟨never.e,never.t,λ_ H Q=>Q [] H⟩|.nq a as,E=>⟨never.e,never.t,λh H Q=>(wp K Γ a E).e h H λx z=>(wp K Γ as E).a h z λk w=>Q (x::k) w⟩
structure Glob where
 ev:Ev
 fn:Str->Prop
 val:Str->Prop
 no:Str->Prop
def Bi.nm:Bi->Str
 | .len=>"len"|.any=>"any"|.all=>"all"|.list=>"list"|.sorted=>"sorted"
def Mt.nm:Mt->Str
 | .append=>"append"|.pop=>"pop"|.join=>"join"|.setd=>"setdefault"|.reverse=>"reverse"
def zf(G:Glob):ItK->Prop
 | .val=>True|.rng1=>G.no "range"|.enum=>G.no "enumerate"|.itm=>True
noncomputable def HA(G:Glob):PX->Prop
 | .glo x=>G.val x|.bty x n=>G.no x/\bootBuiltins x=some (.type n)|.bin _ a b | .cmp _ a b | .and a b | .or a b | .idx a b | .nq a b | .dsp a b | .ixm a b=>HA G a/\HA G b
 | .not a | .neg a | .lst a | .tup a=>HA G a
 | .slc a b c=>HA G a/\HA G b/\HA G c|.dof a=>G.no "dict"/\HA G a|.lset a=>G.no "len"/\G.no "set"/\HA G a|.sset a=>G.no "sorted"/\G.no "set"/\HA G a|.call f y=>G.fn f/\HA G y|.bi f y=>G.no f.nm/\HA G y|.isi a c=>G.no "isinstance"/\HA G a/\HA G c|.mt _ o y=>HA G o/\HA G y|.comp _ _ _ v z h u=>zf G v/\HA G z/\HA G h/\HA G u|_=>True
structure SC where
 N:List Str
 sc:Scope
def IB:Expr->Bool
 | .Starred _ _=>false|_=>true
def V1(S:SC)(i:Nat)(x:Str):Bool :=
 S.N[i]?==some x&&(S.sc.names.lookup x==some .local||S.sc.names.lookup x==some .cell||S.sc.names.lookup x==some .free)&&x != "__debug__" && x != "__classdict__"
def R9(S:SC)(i:Nat)(x:Str):Bool:=S.N[i]?==some x&&S.sc.names.lookup x==some .local
def JL(S:SC)(x:Str):Bool:=S.sc.names.lookup x==some .globalImplicit&&x != "__debug__" && x != "__name__"
def mU(S:SC)(h:Scope)(y:List Str)(x:List Bool):SC:=⟨y++KB x 0 S.N,vK h S.sc⟩
def nI:List Str->Bool
 |[]=>true|x::r=>!r.contains x&&nI r
noncomputable def XZ(S:SC)(h:Scope)(z:List Str)(x:List Bool):Bool :=
 h.kind==.function&&h.names.all (λy=>y.2 != .cell&&(y.2 != .local||(h.names.lookup y.1==some .local&&(z.contains y.1||y.1==(".0":Str)))) &&
  (y.2 != .free||S.sc.names.lookup y.1==some .cell||S.sc.names.lookup y.1==some .free))&&nI (z++KB x 0 S.N)&&!(z++KB x 0 S.N).contains (".0":Str)
def fc(c:Bool)(S:SC)(i:Nat)(x:Str):Bool:=S.N[i]?==some x&&(S.sc.names.lookup x==some .local||(c&&S.sc.names.lookup x==some .cell))
def eh(c:Bool)(S:SC):Tg->Expr->Bool
 | .nm i,.Name x _=>fc c S i x|.tp is,.Tuple es _ _=>is.length==es.length&&(is.zip es).all λp=>match p.2 with
  | .Name x _=>fc c S p.1 x|_=>false
 |_,_=>false
def JN:Expr->Bool
 | .Call (.Name _ _) [] [] _=>false|_=>true
def sP:Expr->Bool
 | .Set _ _ _=>false|_=>true
def YJ:Expr->Bool
 | .Slice _ _ _ _=>false|_=>true
def zF:PX->Bool
 | .nr=>true|.nq _ r=>zF r|_=>false
def FN:Expr->Bool
 | .Tuple _ _ _=>true|_=>false
section
variable{α:Type}
section
variable{e:Expr}{l:List α}
def BF(e:Expr)(f:Str->Pos->Bool):Bool:=match e with | .Name x p=>f x p|_=>false
def KH(e:Expr)(f:Const->Bool):Bool:=match e with | .Constant c _ _=>f c|_=>false
def b7(e:Expr)(f:Expr->Operator->Expr->Pos->Bool):Bool:=match e with | .BinOp l o r p=>f l o r p|_=>false
def l9(e:Expr)(f:UnaryOp->Expr->Bool):Bool:=match e with | .UnaryOp o x _=>f o x|_=>false
def u7(e:Expr)(f:Expr->List CmpOp->List Expr->Bool):Bool:=match e with | .Compare l x h _=>f l x h|_=>false
def rR(e:Expr)(f:BoolOp->List Expr->Pos->Bool):Bool:=match e with | .BoolOp o h p=>f o h p|_=>false
def pR(e:Expr)(f:Expr->List Expr->List Keyword->Pos->Bool):Bool:=match e with | .Call g x h p=>f g x h p|_=>false
def kY(e:Expr)(f:Expr->Str->Pos->Bool):Bool:=match e with | .Attribute v n p=>f v n p|_=>false
def bP(e:Expr)(f:Expr->Expr->Pos->Bool):Bool:=match e with | .Subscript v i p=>f v i p|_=>false
def VT(e:Expr)(f:Option Expr->Option Expr->Option Expr->Bool):Bool:=match e with | .Slice l h s _=>f l h s|_=>false
def pN(e:Expr)(f:List Expr->Pos->Bool):Bool:=match e with | .List h p=>f h p|_=>false
def j7(e:Expr)(f:List Expr->Nat->Pos->Bool):Bool:=match e with | .Tuple h k p=>f h k p|_=>false
def m9(e:Expr)(f:Expr->List Comprehension->Scope->Pos->Bool):Bool:=match e with | .ListComp x h sc p=>f x h sc p|_=>false
def oR(e:Expr)(f:List (Option Expr)->List Expr->Bool):Bool:=match e with | .Dict x h _=>f x h|_=>false
def dJ(l:List α)(f:α->Bool):Bool:=match l with | [x]=>f x|_=>false
def Ym(l:List α)(f:α->α->Bool):Bool:=match l with | [x,y]=>f x y|_=>false
def u4(l:List α)(f:α->List α->Bool):Bool:=match l with|x::r=>f x r|_=>false
def re(o:Option α)(n:Bool)(f:α->Bool):Bool:=match o with|none=>n|some x=>f x
theorem YD{f:Str->Pos->Bool}(h:BF e f=true):∃x p,e=.Name x p/\f x p=true:=by
 cases e with|Name x p=>exact⟨x,p,rfl,h⟩|_=>exact(QD h).elim
theorem lG{f:Const->Bool}(h:KH e f=true):∃c k p,e=.Constant c k p/\f c=true:=by
 cases e with|Constant c k p=>exact⟨c,k,p,rfl,h⟩|_=>exact(QD h).elim
theorem J4{f:Expr->Operator->Expr->Pos->Bool}(h:b7 e f=true):∃l o r p,e=.BinOp l o r p/\f l o r p=true:=by
 cases e with|BinOp l o r p=>exact⟨l,o,r,p,rfl,h⟩|_=>exact(QD h).elim
theorem jY{f:UnaryOp->Expr->Bool}(h:l9 e f=true):∃o x p,e=.UnaryOp o x p/\f o x=true:=by
 cases e with|UnaryOp o x p=>exact⟨o,x,p,rfl,h⟩|_=>exact(QD h).elim
theorem x4{f:Expr->List CmpOp->List Expr->Bool}(h:u7 e f=true):∃l y x p,e=.Compare l y x p/\f l y x=true:=by
 cases e with|Compare l y x p=>exact⟨l,y,x,p,rfl,h⟩|_=>exact(QD h).elim
theorem fP{f:BoolOp->List Expr->Pos->Bool}(h:rR e f=true):∃o es p,e=.BoolOp o es p/\f o es p=true:=by
 cases e with|BoolOp o es p=>exact⟨o,es,p,rfl,h⟩|_=>exact(QD h).elim
theorem dP{f:Expr->List Expr->List Keyword->Pos->Bool}(h:pR e f=true):∃g es ks p,e=.Call g es ks p/\f g es ks p=true:=by
 cases e with|Call g es ks p=>exact⟨g,es,ks,p,rfl,h⟩|_=>exact(QD h).elim
theorem zY{f:Expr->Str->Pos->Bool}(h:kY e f=true):∃v n p,e=.Attribute v n p/\f v n p=true:=by
 cases e with|Attribute v n p=>exact⟨v,n,p,rfl,h⟩|_=>exact(QD h).elim
theorem iJ{f:Expr->Expr->Pos->Bool}(h:bP e f=true):∃v i p,e=.Subscript v i p/\f v i p=true:=by
 cases e with|Subscript v i p=>exact⟨v,i,p,rfl,h⟩|_=>exact(QD h).elim
theorem mV{f:Option Expr->Option Expr->Option Expr->Bool}(h:VT e f=true):∃l u s p,e=.Slice l u s p/\f l u s=true:=by
 cases e with|Slice l u s p=>exact⟨l,u,s,p,rfl,h⟩|_=>exact(QD h).elim
theorem oK{f:List Expr->Pos->Bool}(h:pN e f=true):∃es p,e=.List es p/\f es p=true:=by
 cases e with|List es p=>exact⟨es,p,rfl,h⟩|_=>exact(QD h).elim
theorem y4{f:List Expr->Nat->Pos->Bool}(h:j7 e f=true):∃es k p,e=.Tuple es k p/\f es k p=true:=by
 cases e with|Tuple es k p=>exact⟨es,k,p,rfl,h⟩|_=>exact(QD h).elim
theorem nR{f:Expr->List Comprehension->Scope->Pos->Bool}(h:m9 e f=true):∃x y sc p,e=.ListComp x y sc p/\f x y sc p=true:=by
 cases e with|ListComp x y sc p=>exact⟨x,y,sc,p,rfl,h⟩|_=>exact(QD h).elim
theorem cP{f:List (Option Expr)->List Expr->Bool}(h:oR e f=true):∃ks vs p,e=.Dict ks vs p/\f ks vs=true:=by
 cases e with|Dict ks vs p=>exact⟨ks,vs,p,rfl,h⟩|_=>exact(QD h).elim
theorem AI{f:α->List α->Bool}(h:u4 l f=true):∃x r,l=x::r/\f x r=true:=by
 cases l with|nil=>exact(QD h).elim|cons x r=>exact⟨x,r,rfl,h⟩
theorem sB{f:α->Bool}(h:dJ l f=true):∃x,l=[x]/\f x=true:=by
 cases l with
 |nil=>exact(QD h).elim|cons x r =>
  cases r with|nil=>exact⟨x,rfl,h⟩|cons _ _=>exact(QD h).elim
theorem ae{f:α->α->Bool}(h:Ym l f=true):∃x y,l=[x,y]/\f x y=true:=by
 cases l with
 |nil=>exact(QD h).elim|cons x r =>
  obtain⟨y,e,h⟩:=sB (l:=r) (f:=f x) (by
   cases r with|nil=>exact h|cons y r=>cases r<;>exact h)
  exact⟨x,y,by rw[e],h⟩
end
end
section
variable{c:Const}{n:Str}{e:Expr}
def Lf(c:Const)(f:Int->Bool):Bool:=match c with | .int i=>f i|_=>false
def Hf(c:Const)(f:Str->Bool):Bool:=match c with | .str i=>f i|_=>false
def B7(c:Const)(f:Bool->Bool):Bool:=match c with | .bool i=>f i|_=>false
def U7(c:Const):Bool:=match c with | .none=>true|_=>false
theorem bb{f:Int->Bool}(h:Lf c f=true):∃i,c=.int i/\f i=true:=by
 cases c with|int i=>exact⟨i,rfl,h⟩|_=>exact(QD h).elim
theorem ub{f:Str->Bool}(h:Hf c f=true):∃i,c=.str i/\f i=true:=by
 cases c with|str i=>exact⟨i,rfl,h⟩|_=>exact(QD h).elim
theorem n6{f:Bool->Bool}(h:B7 c f=true):∃i,c=.bool i/\f i=true:=by
 cases c with|bool i=>exact⟨i,rfl,h⟩|_=>exact(QD h).elim
theorem g6(h:U7 c=true):c=.none:=by
 cases c with|none=>rfl|_=>exact(QD h).elim
theorem yA{a b:Bool}(h:(a&&b)=true):a=true/\b=true:=by cases a<;>cases b<;>first|exact⟨rfl,rfl⟩| exact(QD h).elim
def PH(S:SC)(n:Str)(e:Expr)(f:List Expr->List Keyword->Pos->Bool):Bool:=pR e λg y h p=>BF g λx _=>n==x&&(JL S x&&f y h p)
theorem ED{S:SC}{f:List Expr->List Keyword->Pos->Bool}(h:PH S n e f=true):∃y es ks p,e=.Call (.Name n y) es ks p/\JL S n=true/\f es ks p=true:=by obtain⟨g,es,ks,p,rfl,w⟩:=dP h;obtain⟨x,y,rfl,v⟩:=YD w;have u:=yA v;have z:=yA u.2;have e:=qh u.1;exact⟨y,es,ks,p,by rw[e],by rw[e];exact z.1,z.2⟩
def UY(n:Str)(e:Expr)(f:Expr->List Expr->Pos->Pos->Bool):Bool:=pR e λg z y p=>kY g λv x h=>n==x&&(y.isEmpty&&(h.endLine==p.line&&f v z h p))
theorem DT{f:Expr->List Expr->Pos->Pos->Bool}(h:UY n e f=true):∃v y es p,e=.Call (.Attribute v n y) es [] p/\(y.endLine==p.line)=true/\f v es y p=true:=by obtain⟨g,es,i,p,rfl,a⟩:=dP h;obtain⟨v,x,y,rfl,k⟩:=zY a;have w:=yA k;have u:=yA w.2;have z:=yA u.2;have e:=qh w.1;have b:=Qt.mp u.1;exact⟨v,y,es,p,by rw[e,b],z.1,z.2⟩
def f7(x:BoolOp)(r:Expr)(h:List Expr)(pos:Pos):Expr:=match h with
 |[]=>r|q::t=>.BoolOp x (r::q::t) pos
noncomputable def Zh(y:Bool)(S:SC)(z:ItK)(c:List Expr->Pos->Bool)(t it:Expr)(pos:Pos):Bool:=match z with
 | .val=>y&&c [it] pos|.rng1=>PH S "range" it λh x p=>x.isEmpty&&dJ h λa=>c [a] p|.enum=>FN t&&PH S "enumerate" it λh x p=>x.isEmpty&&dJ h λa=>c [a] p|.itm=>FN t&&(y&&UY "items" it λv h _ p=>JN v&&(h.isEmpty&&c [v] p))
def Lj(h:List Expr)(n:Bool)(f:Expr->Bool):Bool:=match h with
 |[]=>n|c::r=>r.isEmpty&&(!n&&f c)
def aY(S:SC)(f g:Str)(e:Expr)(c:Expr->Bool):Bool:=PH S f e λz h _=>h.isEmpty&&dJ z λx=>PH S g x λz h _=>h.isEmpty&&dJ z λy=>IB y&&c y
theorem UT{S:SC}{f g:Str}{c:Expr->Bool}(h:aY S f g e c=true):∃u p2 pos z y,e=.Call (.Name f u) [.Call (.Name g p2) [y] [] z] [] pos/\JL S f=true/\JL S g=true/\IB y=true/\c y=true:=by obtain⟨u,o,b,pos,rfl,i,h⟩:=ED h;have a:=yA h;cases Qt.mp a.1;obtain⟨x,rfl,m⟩:=sB a.2;obtain⟨p2,o,b,z,rfl,v,l⟩:=ED m;have k:=yA l;cases Qt.mp k.1;obtain⟨y,rfl,j⟩:=sB k.2;have w:=yA j;exact⟨u,p2,pos,z,y,rfl,i,v,w.1,w.2⟩
def isItm:ItK->Bool
 | .itm=>true|_=>false
noncomputable def DB:PX->SC->Expr->Bool
 | .var i,S,e=>BF e λx _=>V1 S i x|.int i,_,e=>KH e λc=>Lf c λj=>i==j|.str x,_,e=>KH e λc=>Hf c λy=>x==y|.bl b,_,e=>KH e λc=>B7 c λk=>b==k|.non,_,e=>KH e U7|.glo x,S,e=>BF e λy _=>x==y&&JL S x|.bty x _,S,e=>BF e λy _=>x==y&&JL S x|.bin op a b,S,e=>b7 e λl o r _=>op==o&&(DB a S l&&DB b S r)|.cmp op a b,S,e=>u7 e λl Z Y=>dJ Z λo=>dJ Y λr=>op==o&&(sP r&&(DB a S l&&DB b S r))|.neg a,S,e=>l9 e λo x=>o==.USub&&DB a S x|.and a b,S,e=>rR e λo z p=>o==.And&&u4 z λl t=>u4 t λr t=>DB a S l&&DB b S (f7 .And r t p)|.or a b,S,e=>rR e λo z p=>o==.Or&&u4 z λl t=>u4 t λr t=>DB a S l&&DB b S (f7 .Or r t p)|.not a,S,e=>l9 e λo x=>o==.Not&&DB a S x|.call f as,S,e=>PH S f e λz w p=>w.isEmpty&&DB as S (.List z p)|.bi f as,S,e=>PH S f.nm e λz w p=>w.isEmpty&&u4 z λx t=>DB as S (.List (x::t) p)|.isi a c,S,e=>PH S "isinstance" e λz w _=>w.isEmpty&&Ym z λl r=>IB l&&(IB r&&(DB a S l&&DB c S r))|.mt m o as,S,e=>UY m.nm e λv z _ p=>zF as&&(JN v&&(decide (z.length<20)&&(DB o S v&&DB as S (.List z p))))|.idx a b,S,e=>bP e λv i _=>YJ i&&(DB a S v&&DB b S i)|.slc a lo hi,S,e=>bP e λv X _=>VT X λl h s=>s.isNone&&(DB a S v&&(re l (isNop lo) (λe=>!isNop lo&&DB lo S e)&&re h (isNop hi) λe=>!isNop hi&&DB hi S e))|.nop,_,_=>false|.lst as,S,e=>pN e λz p=>DB as S (.List z p)|.tup as,S,e=>j7 e λz _ p=>DB as S (.List z p)|.comp mask tgs tg ik its cond elt,S,e=>m9 e λK W u p=>dJ W λg=>g.is_async==0&&(!isItm ik&&(XZ S u tgs mask&&(eh false (mU S u tgs mask) tg g.target&&(sP g.iter &&
   (Zh (zF its) S ik (λz p=>DB its S (.List z p)) g.target g.iter p&&(Lj g.ifs (isNop cond) (λc=>DB cond (mU S u tgs mask) c)&&DB elt (mU S u tgs mask) K))))))
 | .dnew _,_,e=>oR e λw q=>w.isEmpty&&q.isEmpty|.dsp a b,S,e=>oR e λw q=>dJ w λk=>dJ q λv=>re k false (DB a S)&&DB b S v|.mv i,S,e=>BF e λx _=>V1 S i x|.ixm a b,S,e=>bP e λv i _=>YJ i&&(DB a S v&&DB b S i)|.dof a,S,e=>PH S "dict" e λz w _=>w.isEmpty&&dJ z λy=>IB y&&DB a S y|.lset a,S,e=>aY S "len" "set" e (DB a S)|.sset a,S,e=>aY S "sorted" "set" e (DB a S)|.nr,_,e=>pN e λz _=>z.isEmpty|.nq a as,S,e=>pN e λz p=>u4 z λx t=>IB x&&(DB a S x&&DB as S (.List t p))
end
variable{Γ:Ev}
theorem Cb(x:V)(H:Hp)(Q:Bool->Hp->Prop):SZ x H Q=∃k,x=.bl k/\Q k H:=by
 apply propext;cases x with|bl b=>exact⟨λh=>⟨b,rfl,h⟩,λ⟨k,e,h⟩=>by cases e;exact h⟩|_=>exact⟨λh=>Qb h,λ⟨k,e,h⟩=>by cases e⟩
theorem OX(x:V)(H:Hp)(Q:Option Int->Hp->Prop):lK x H Q=∃i,x=.int i/\Q (some i) H:=by
 apply propext;cases x with|int b=>exact⟨λh=>⟨b,rfl,h⟩,λ⟨k,e,h⟩=>by cases e;exact h⟩|_=>exact⟨λh=>Qb h,λ⟨k,e,h⟩=>by cases e⟩
theorem NS(K:QC)(x:V)(H:Hp)(Q:Bool->Hp->Prop):oF K x H Q=∃k,Hb K x H k/\Q k H:=by
 apply propext;cases x with|bl b=>exact⟨λh=>⟨b,rfl,h⟩,λ⟨k,(e:k=b),h⟩=>by subst e;exact h⟩|int i=>exact⟨λh=>⟨i != 0,rfl,h⟩,λ⟨k,(e:k=(i != 0)),h⟩=>by subst e;exact h⟩|non=>exact⟨λh=>⟨false,rfl,h⟩,λ⟨k,(e:k=false),h⟩=>by subst e;exact h⟩|str z=>exact⟨λh=>⟨_,⟨h.1,rfl⟩,h.2⟩,λ⟨k,⟨u,y⟩,h⟩=>by subst y;exact⟨u,h⟩⟩|_=>exact wj
section
variable{X:Cx}
section
variable{e b:Expr}{es:List Expr}{env:Env}{its:List Value}
theorem HX:PE X e never.e:=λ_ _ _ _ _ _ h=>Qb h
theorem cK:PT X e never.t:=λ_ _ _ _ _ _ h=>Qb h
theorem xP:PA X es never.a:=λ_ _ _ _ _ _ _ h=>Qb h
theorem aD{a:Expr}{ta:TE}(i:PE X a ta)(g:∀y,isTrue a X.env y=(do let v <- y;standAt a.pos;holding [v] (truthy v))) :
  PT X a (λσ H Q=>ta σ H λx l=>oF X.K x l Q):=by
 intro z s σ H Q I h;refine isTrue_plain (LB (i z s σ H _ I h) λv k ⟨x,w,j,f,u⟩=>?_) (g _);have u:oF X.K x w Q:=u;rw[NS]at u;exact FW z k σ w x v Q j f u
theorem EX{f:Value->Value->Sem Value}:tF X f (λ_ _ _ _=>False):=λ_ _ _ _ _ _ _ _ _ _ _ _ h=>h.elim
theorem f9(h:Operator):tF X (binaryOp h) (t6 X.K h):=by
 cases h with|Add=>exact op_add|Sub=>exact op_sub|Mult=>exact d9|FloorDiv=>exact A3|Mod=>exact op_mod|_=>exact EX
theorem AY{h:NB}{s:Shared}{σ:St}{H:Hp}{b c:Bool}{Q:VK}(I:Inv X h σ H s)(q:Q (.bl (decide (b=c))) H):wpAny (model X.prog X.w) X.A (compareOp .Is (.bool b) (.bool c)) (EP X h σ Q) X.xe s:=by
 have e:compareOp .Is (.bool b) (.bool c)=pure (.bool (decide (b=c))):=by cases b<;>cases c<;>rfl
 rw[e];exact QJ ⟨.bl _,H,I,rfl,q⟩
theorem IX(k:X.A.units+66<cLine)(z:CmpOp):tF X (compareOp z) (BZ X.K z):=by
 cases z with|Eq=>exact op_eq (by omega)|NotEq=>exact op_ne (by omega)|Lt=>exact mN _root_.L2.op_lt|LtE=>exact mN _root_.L2.op_le|Gt=>exact mN _root_.L2.op_gt|GtE=>exact mN _root_.L2.op_ge|In=>exact de k|NotIn=>exact AX k|Is=>intro w s g H x y v u Q I f a h;obtain⟨b,c,rfl,rfl,q⟩:=h;cases f;cases a;exact AY I q|IsNot=>exact λ_ _ _ _ _ _ _ _ _ _ _ _ h=>h.elim
theorem NY(Z:X.A.units+66<cLine):o0 X (bJ X.K):=by
 intro w k f s n H x y v u Q I r p h Y;have sq:=λh=>ga (X:=X) w k f s n H x y v u Q I r p h Y;have dc:=λh=>U5 Z w k f s n H x y v u Q I r p h Y;cases x with
 |str z =>
  cases y with|int i=>obtain⟨W,c,m,q⟩:=h;exact sq (.inr (.inr ⟨z,i,c,rfl,rfl,W,m,q⟩))|_=>exact Qb h
 |ref a =>
  cases y with
  |int i=>obtain⟨o,j,l,m,q⟩:=h;rcases l with l|l;exact sq (.inl ⟨a,o,i,j,rfl,rfl,l,m,q⟩);exact sq (.inr (.inl ⟨a,o,i,j,rfl,rfl,l,m,q⟩))
  |str z=>obtain⟨j,g,q⟩:=h;exact dc ⟨a,j,rfl,g,q⟩|ref b=>obtain⟨j,g,q⟩:=h;exact dc ⟨a,j,rfl,g,q⟩|_=>exact Qb h
 |_=>exact Qb h
theorem rY{x:CmpOp}(h:sP b=true):behindInMarks x b=false:=by cases b<;>first|rfl|cases h
theorem pT(h:YJ b=true):eU b:=by intro o i;cases b<;>first|rfl|cases h
theorem FA(env:Env)(h:IB e=true):starEach (e::es) env=(false,eval e env)::starEach es env:=by cases e<;>first|rfl|cases h
theorem eR(h:sP e=true)(x:Value):foldedSetIterable e env x=pure x:=by cases e<;>first|rfl|cases h
theorem pY{o:Expr}{n:Str}(h:JN o=true):attributeBase o n env (eval o env)=eval o env:=by unfold attributeBase;split;cases h;rfl
theorem k5:Yc X "list.pop" L6:=by intro z s f H x u v g Q I j m h;obtain⟨l,i,u,k,y,rfl,rfl,a,hk,n,q⟩:=h;obtain⟨o,Y,r,p⟩:=CN hk;have hl:u.length<=sizeLine:=(show LA X.prog X.w H s.heap l (.lst u) from I.hok l _ a).1;rw[QS]at hl;exact XY z s f H _ _ v g Q I j m ⟨l,u,i,k,y,rfl,rfl,a,by omega,by omega,o,n,q⟩
theorem RJ{x:List Str}(h:dA (x.map V.str) its):StrsAre its x:=by
 induction x generalizing its with
 |nil=>cases h;exact .nil|cons y x z =>
  cases h with|cons h t=>obtain⟨k,rfl⟩:=h;exact .cons _ _ (z t)
theorem v5:Yc X "str.join" (M6 X.K):=by intro y s l H x n v o Q I w g h;obtain⟨z,b,m,rfl,rfl,j,i,q⟩:=h;obtain⟨t,rfl⟩:=w;obtain⟨u,rfl,f⟩:=RI g;cases f;obtain⟨its,a,p,_⟩:=I.list j;exact join_list p.isList (by simpa using RJ a) i λr k=>⟨.str _,H,I.tok _,⟨_,rfl⟩,q⟩
theorem XU{ss:List Str}(h:StrsAre its ss):dA (ss.map V.str) its:=by
 induction h with|nil=>exact .nil|cons y t _ x=>exact .cons ⟨t,rfl⟩ x
theorem uV{out:List Value}(g:its.Perm out):∀{xs:List V},dA xs its->∃z,z.Perm xs/\dA z out:=by
 induction g with
 |nil=>intro xs r;cases r;exact⟨[],wf _,.nil⟩|cons x _ k =>
  intro xs r;cases r with|cons h t=>obtain⟨z,p,v⟩:=k t;exact⟨_::z,p.cons _,.cons h v⟩
 |swap x y l =>
  intro xs r;cases r with
  |cons h t=>cases t with|cons i t=>exact⟨_::_::_,List.Perm.swap _ _ _,.cons i (.cons h t)⟩
 |trans _ _ f a=>intro xs r;obtain⟨z,p,v⟩:=f r;obtain⟨w,q,u⟩:=a v;exact⟨w,q.trans p,u⟩
theorem KW{xs:List V}{v:Value}(r:dA xs its)(h:v∈its):∃x∈xs,rA x v:=by
 induction r with
 |nil=>exact nomatch h
 |cons r t z=>rcases QK.mp h with e|h;subst e;exact⟨_,QE,r⟩;obtain⟨x,u,y⟩:=z h;exact⟨x,QG _ u,y⟩
theorem sQ(hu:X.A.units+66<cLine):nF X (.builtin "sorted") (gT X.K):=by
 intro pins s σ H xs us Q I r h;obtain⟨p,rfl,h⟩:=h;rcases h with⟨ss,N,P,q⟩| ⟨xs,N,P,M,q⟩
 skip;obtain⟨u,rfl,B⟩:=RI r;cases B;obtain⟨its,i,F,hz⟩:=I.list N;have hl:=i.length;rw[QF]at hl;refine sorted_strs F.isList (by simpa using RJ i) (by omega) λout l a1 a2 a3=>?_;obtain⟨e,O⟩:=sortedAll_at s.heap its out;have hlen:=(PM a1).1;have hp:=a2.length_eq;refine⟨.ref (s.heap.objs.size+1),_,I.laid (t':=s.toks) (λb o z=>sortedAll_old z) (wR _) (show LA X.prog X.w _ _ _ (.lst (l.map V.str)) from⟨by rw[QF,QS];omega,out.toList,e,XU a1,by simpa using O⟩),rfl,q _ l (I.hok.fresh (wR _)) a2 a3⟩;skip;obtain⟨u,rfl,B⟩:=RI r;cases B;obtain⟨its,i,F,hz⟩:=I.list N;have hl:=i.length;have f:∀v∈its,∃b R Z n k,∃j:List Str,v=.ref b/\s.heap.get? b=some { cls:=.type "list",dict:=R,data:=.seq k n,slots:=Z }/\StrsAre k.toList j:=λv hv=>by obtain⟨x,L,W⟩:=KW i hv;obtain⟨a,j,rfl,sq⟩:=M x L;cases W;obtain⟨g,E,⟨o,n,e,c,d,z⟩,_⟩:=I.list sq;obtain⟨oc,od,J,G⟩:=o;cases c;exact⟨a,od,G,n,g.toArray,j,rfl,by rw[e,show J=Data.seq g.toArray n from z],by simpa using RJ E⟩
 refine A1 F.isList (by omega) (λv hv=>?_) (λh3 kp x M y hy C hC=>?_) λout hp=>?_;obtain⟨b,R,Z,n,k,j,rfl,e,_⟩:=f v hv;exact⟨b,_,rfl,e,rfl⟩;obtain⟨b,R,Z,n,k,j,rfl,e,st⟩:=f x M;obtain⟨b2,dd2,sl2,n2,m,ts2,rfl,e2,Y⟩:=f y hy;exact mR (s:={ s with heap:=h3 }) (show X.A.units+1+1<cLine by omega) (kp _ _ e) (kp _ _ e2) st Y (hC _);obtain⟨e,O⟩:=sortedAll_at s.heap its out.toArray;obtain⟨S,py,vy⟩:=uV hp.symm i;have hp2:=py.length_eq;refine⟨.ref (s.heap.objs.size+1),_,I.laid (t':=s.toks) (λb o z=>sortedAll_old z) (wR _) (show LA X.prog X.w _ _ _ (.lst S) from⟨by rw[QS];omega,out,e,vy,O⟩),rfl,q _ S (I.hok.fresh (wR _)) py⟩
theorem Mf(h:X.A.units+66<cLine)(hc:X.calm=true)(f:Bi):(∃id,bootBuiltins f.nm=some (.builtin id)/\nF X (.builtin id) (Rf X.K f))∨∃T,bootBuiltins f.nm=some (.type T)/\nF X (.type T) (Rf X.K f):=by
 cases f with|len=>exact .inl ⟨_,PySem.boot_len,FZ⟩|any=>exact .inl ⟨_,PyProof.Rows.boot_any,HZ hc⟩|all=>exact .inl ⟨_,PyProof.Rows.boot_all,LZ hc⟩|list=>exact .inr ⟨_,PyProof.Rows.boot_list,kO⟩|sorted=>exact .inl ⟨_,QAk,sQ h⟩
end
end
end L2.L3
namespace L2.L3
open PySem PySem.Spec PyProof.Rows
section
variable{S:SC}{i:Nat}{x:Str}
structure OkX(X:Cx)(S:SC)(G:Glob)(E:XK):Prop where
 N:X.N=S.N
 sc:X.env.scope=S.sc
 calm:X.calm=true
 un:X.A.units+66<cLine
 fn:∀f,G.fn f->∃(CX:U0) (k:Nat) (a:Addr) (fd:FuncData) (ps:List Str),FnOk X.prog X.w X.K X.mg X.base CX k a fd ps (G.ev.sp f)/\Room k X.A/\X.mg f=some (.ref a)/\WG X.K (.ref a)=true/\vI X.K fd ps [] /\
  xL CX X E/\∀l H s e s',CX l H s (λ_ _ _=>False) e s'->False
 val:∀x,G.val x->∃u,X.mg x=some u/\rA (G.ev.va x) u
 no:∀x,G.no x->X.mg x=none
def aO(X:Cx)(Γ:Ev)(E:XK):PX->List Expr->Prop
 | .nq a as,e::es=>PE X e (wp X.K Γ a E).e/\aO X Γ E as es|_,_=>True
structure Snd(X:Cx)(Γ:Ev)(E:XK)(p:PX)(e:Expr):Prop where
 pe:PE X e (wp X.K Γ p E).e
 pt:PT X e (wp X.K Γ p E).t
 pw:∀op es pos,e=.BoolOp op es pos->PW X e (wp X.K Γ p E).t
 pa:∀es pos,e=.List es pos->PA X es (wp X.K Γ p E).a
 pas:∀es pos,e=.List es pos->aO X Γ E p es
theorem CS(h:V1 S i x=true):S.N[i]?=some x/\rc S.sc x/\(x==("__debug__":Str))=false/\(x==("__classdict__":Str))=false:=by simp only[V1,Qg,wV,beq_iff_eq,bne_iff_ne,ne_eq]at h;obtain⟨⟨⟨v,y⟩,u⟩,z⟩:=h;refine⟨v,?_,by simpa using u,by simpa using z⟩;rcases y with(y|y)|y;exact .inl y;exact .inr (.inl y);exact .inr (.inr y)
theorem c5(h:R9 S i x=true):S.N[i]?=some x/\S.sc.names.lookup x=some .local:=by simp only[R9,Qg,beq_iff_eq]at h;exact h
theorem fC(h:JL S x=true):S.sc.names.lookup x=some .globalImplicit/\(x==("__debug__":Str))=false/\x≠"__name__":=by simp only[JL,Qg,beq_iff_eq,bne_iff_ne,ne_eq]at h;exact⟨h.1.1,by simpa using h.1.2,h.2⟩
theorem iE:∀{l:List Str},nI l=true->l.Nodup
 |[],_=>Qy|x::r,h=>by simp only[nI,Qg,Q7]at h;exact Qi.mpr ⟨by simpa using h.1,iE h.2⟩
theorem fQ{z:Scope}{w:List Str}{u:List Bool}(h:XZ S z w u=true):CompSt S.N S.sc z w u:=by simp only[XZ,Qg,qB,beq_iff_eq,Q7]at h;obtain⟨⟨⟨f,k⟩,b⟩,a⟩:=h;refine⟨f,λy v e=>?_,λy v e=>?_,λy v e=>?_,λy v e=>?_,iE b,by simpa using a⟩;have:=(k y v).1.1;rw[e]at this;exact absurd this (by decide);have:=(k y v).1.2;rw[e]at this;simp at this;exact this.1;have:=(k y v).2;rw[e]at this;simp at this;exact this;have:=(k y v).1.2;rw[e]at this;simp at this;exact this.2
theorem OkX.comp{X:Cx}{G:Glob}{E:XK}(ok:OkX X S G E)(y:Scope)(v:List Str)(u:List Bool)(s:Shared)(H:Hp)(ex:List Addr):OkX (RA X y v u s H ex) (mU S y v u) G (λ_ _ _=>False) where
 N:=by show v++KB u 0 X.N=v++KB u 0 S.N;rw[ok.N]
 sc:=by show vK y X.env.scope=vK y S.sc;rw[ok.sc]
 calm:=ok.calm
 un:=ok.un
 fn:=λf h=>by obtain⟨o,k,a,n,b,m,l,j,g,e,p,w⟩:=ok.fn f h;exact⟨o,k,a,n,b,m,l,j,g,e,λ_ _ _ _ _ _ _ z=>(w _ _ _ _ _ z).elim,w⟩
 val:=ok.val
 no:=ok.no
end
section
variable{X:Cx}
theorem FY{c:Bool}{S:SC}{i:Nat}{x:Str}(k:X.N=S.N)(y:X.env.scope=S.sc)(u:c=true->∀x,X.fn x=true)(h:fc c S i x=true):X.N[i]?=some x/\Zc X.env.scope x/\(X.fn x=true∨X.env.scope.names.lookup x=some .local):=by
 simp only[fc,Qg,wV,beq_iff_eq]at h;rw[k,y];rcases h.2 with z|⟨w,v⟩
 exact⟨h.1,.inl z,.inr z⟩;exact⟨h.1,.inr v,.inl (u w x)⟩
theorem OL{c:Bool}{S:SC}(a:c=true->∀x,X.fn x=true)(j:X.N=S.N)(k:X.env.scope=S.sc)(nd:X.N.Nodup):∀(w:List Nat) (es:List Expr),w.length=es.length->((w.zip es).all λp=>match p.2 with | .Name x _=>fc c S p.1 x|_=>false)=true ->
  Bm X es (λvs σ H Q=>∃y,uB w vs σ=some y/\Q y H)
 |[],[],_,_=>by
  intro z s σ H vs n Q I r h;obtain⟨y,e,q⟩:=h;cases vs with|nil=>cases r;simp only[uB]at e;cases e;exact assignInOrder_nil ⟨σ,H,I,q⟩|cons _ _=>simp[uB]at e
 |[],_::_,h,_=>by cases h|_::_,[],h,_=>by cases h|i::w,e::es,hl,hz=>by
  simp only[QAZ,qr,Qg]at hz;obtain⟨l,W⟩:=hz;cases e with
  |Name x pos =>
   obtain⟨g,f,b⟩:=FY j k a l;have Z:=OL a j k nd w es (by simpa using hl) W;intro z s σ H vs n Q I r h;obtain⟨y,e,q⟩:=h;cases vs with
   |nil=>simp[uB]at e|cons v vs =>
    simp only[uB]at e;cases r with|cons r Y=>show wpAny _ _ (assignInOrder (assign (.Name x pos) X.env::(assignEach es X.env).map (·.2)) _) _ _ _;refine assignInOrder_cons (LB (iT (pos:=pos) nd g f b z s σ H v _ _ I r (show yU i v σ H (λu m=>u=σ.set i (some v)/\m=H) from⟨rfl,rfl⟩)) λ_ o ⟨u,m,B,A,K⟩=>?_);subst A K;exact Z z o _ _ vs _ Q B Y ⟨y,e,q⟩
  |_=>simp at l
theorem DP{c:Bool}:∀(z:List Nat) (es:List Expr) (S:SC),z.length=es.length->((z.zip es).all λp=>match p.2 with | .Name x _=>fc c S p.1 x|_=>false)=true->(assignEach es X.env).length=es.length/\(assignEach es X.env).findIdx? (·.1)=none
 |[],[],_,_,_=>⟨rfl,rfl⟩|[],_::_,_,h,_=>by cases h|_::_,[],_,h,_=>by cases h|i::z,e::es,S,hl,hz=>by
  simp only[QAZ,qr,Qg]at hz;obtain⟨w,v⟩:=hz;cases e with|Name x y=>have u:=DP z es S (by simpa using hl) v;have k:assignEach (.Name x y::es) X.env=(false,assign (.Name x y) X.env)::assignEach es X.env:=rfl;rw[k];refine⟨by rw[QM,QM,u.1],?_⟩;rw[List.findIdx?_cons];simp[u.2]|_=>simp at w
theorem AJ:∀{y:List Nat}{vs:List V}{σ x:St},uB y vs σ=some x->vs.length=y.length
 |[],[],_,_,_=>rfl|[],_::_,_,_,h=>by simp[uB]at h|_::_,[],_,_,h=>by simp[uB]at h|_::y,_::vs,σ,x,h=>by simp only[uB]at h;rw[QM,QM,AJ h]
theorem eT{c:Bool}{S:SC}{G:Glob}{E:XK}(ok:OkX X S G E)(z:c=true->∀x,X.fn x=true)(nd:X.N.Nodup){b:Tg}{e:Expr}(h:eh c S b e=true):PG X e (VE X.K b):=by
 cases b with
 |nm i =>
  cases e with|Name x pos=>obtain⟨l,j,g⟩:=FY ok.N ok.sc z h;exact iT nd l j g|_=>cases h
 |tp o =>
  cases e with
  |Tuple m k pos =>
   obtain⟨J,Z⟩:=yA h;have f:=qh J;obtain⟨C,B⟩:=DP (X:=X) o m S f Z;have w:=A8 (pos:=pos) (k:=k) (n:=m.length) ok.calm (OL z ok.N ok.sc nd o m f Z) C B;intro y s W H v u Q I r Y;refine w y s W H v u Q I r ?_;cases v with|ref p=>obtain⟨A,a,F,e,q⟩:=Y;exact⟨p,A,rfl,F,by rw[AJ e,f],a,e,q⟩|_=>exact Qb Y
  |_=>cases h
end
variable{Γ:Ev}
theorem R0(K:QC)(a:Addr)(xs:List V):Yields (Lm K a) (xs.map .one) (λH=>yC K H a xs) :=
  { go:=λi H h u=>by
      have z:i<xs.length:=by simpa using u
      exact⟨xs,xs[i],h,by simp[z]⟩
    yld:=λi H x v h _ ⟨e,y⟩=>⟨.one x,by rw[Qc,y xs h];rfl,rfl,e⟩
    stop:=λi H h u=>⟨xs,h,by simpa using u⟩ }
theorem S7(K:QC)(a:Addr)(xs:List V):Yields (Gm K a) (xs.map .one) (λH=>XC K H a xs) :=
  { go:=λi H h u=>by
      have z:i<xs.length:=by simpa using u
      exact⟨xs,xs[i],h,by simp[z]⟩
    yld:=λi H x v h _ ⟨e,y⟩=>⟨.one x,by rw[Qc,y xs h];rfl,rfl,e⟩
    stop:=λi H h u=>⟨xs,h,by simpa using u⟩ }
theorem T7(z:Str):Yields (jm z) (z.cps.toList.map λc=>.one (.str ⟨#[c]⟩)) (λ_=>True) :=
  { go:=λi H h u=>by
      have y:i<z.cps.size:=by simpa using u
      exact y
    yld:=λi H x w h _ ⟨e,c,hc,v⟩=>⟨.one x,by rw[Qc,wH,hc,v];rfl,rfl,e⟩
    stop:=λi H h u=>by
      have y:z.cps.size<=i:=by simpa using u
      exact y }
theorem A7(u:Int)(n:Nat):Yields (ym u n) ((qA n).map λ(k:Nat)=>.one (.int (u+(k:Int)))) (λ_=>True) :=
  { go:=λi H h z=>by
      have y:i<n:=by simpa using z
      exact y
    yld:=λi H x w h z ⟨e,v⟩=>by
      have y:i<n:=by simpa using z
      exact⟨.one x,by rw[Qc,QBV y,v];rfl,rfl,e⟩
    stop:=λi H h z=>by
      have y:n<=i:=by simpa using z
      exact y }
theorem A0(K:QC)(z:Src)(c:Nat)(xs:List V):Yields (Nm K z c) (xs.zipIdx.map λp=>.tup [.int ((c+p.2:Nat):Int),p.1]) (λH=>pW K H z xs) :=
  { go:=λi H h u=>by
      have y:i<xs.length:=by simpa using u
      exact⟨xs,xs[i],h,by simp[y]⟩
    yld:=λi H x g h u ⟨p,a,v,e,w,k⟩=>by
      have y:i<xs.length:=by simpa using u
      have f:=k xs h;refine⟨.tup [.int ((c+i:Nat):Int),a],?_,p,v,e,w⟩;have b:xs.zipIdx[i]?=some (a,i):=by rw[List.getElem?_zipIdx,f];simp
      rw[Qc,b];rfl
    stop:=λi H h u=>⟨xs,h,by simpa using u⟩ }
theorem aW(ep:Nat)(a:Addr)(kvs:List KE):Yields (Hm ep kvs.length a) (kvs.map λp=>.tup [.ref p.2.1,p.2.2]) (λH=>H a=some (.dT ep kvs)) :=
  { go:=λi H h y=>by
      have z:i<kvs.length:=by simpa using y
      exact⟨kvs,kvs[i],h,rfl,by simp[z]⟩
    yld:=λi H x w h y ⟨q,p,u,e,v,k⟩=>⟨.tup [.ref p.2.1,p.2.2],by rw[Qc,k kvs h];rfl,q,u,e,v⟩
    stop:=λi H h y=>⟨kvs,h,rfl,by simpa using y⟩ }
theorem T0(ep:Nat)(a:Addr)(kvs:List KE):Yields (Mm ep kvs.length a) (kvs.map λp=>.one (.ref p.2.1)) (λH=>H a=some (.dT ep kvs)) :=
  { go:=λi H h y=>by
      have z:i<kvs.length:=by simpa using y
      exact⟨kvs,kvs[i],h,rfl,by simp[z]⟩
    yld:=λi H x b h y ⟨u,k⟩=>by obtain⟨p,w,v⟩:=k kvs h;exact⟨.one (.ref p.2.1),by rw[Qc,w];rfl,v,u⟩
    stop:=λi H h y=>⟨kvs,h,rfl,by simpa using y⟩ }
def LQ(h:St->Hp->(List Item->(Hp->Prop)->Hp->Prop)->Prop):TI:=λx H R=>h x H λy st z=>∀J,Yields J y st->R J z
section
variable{X:Cx}{f:Expr}
section
variable{a:Expr}{ta:TA}{p pos k:Pos}{x:Str}{es:List Expr}{d:Nat}
theorem d3{l:Expr}{t:TE}(hl:PE X l t):PI X f l (LQ λσ H R=>t σ H λv m=>dC X.K .val [v] m R):=by
 intro j s σ H R I h;refine LB (hl j s σ H _ I h) λv y ⟨x,m,i,E,W⟩=>?_;have g:∀b∈[y.heap.objs.size],kI X j m b:=λb hb=>by
  have e:b=y.heap.objs.size:=by simpa using hb
  subst e;exact i.fpOk (QU _) (i.hok.fresh (QU _))
 cases x with
 |str z=>obtain⟨t,rfl⟩:=E;refine wpAny_pyIter_strU ?_;exact⟨y.heap.objs.size,[y.heap.objs.size],_,_,m,rfl,i.kept (t':=y.toks) λb o e=>QH _ e,DW _ z t,⟨_,QN _ rfl,rfl,rfl⟩,g,W _ (T7 z)⟩|ref a =>
  cases E;rcases W with⟨Z,B,q⟩| ⟨Z,B,q⟩| ⟨ep,u,e,q⟩
  obtain⟨Y,F,p,G⟩:=i.list B;refine wn p.isList ?_;exact⟨y.heap.objs.size,[y.heap.objs.size],_,_,m,rfl,i.kept (t':=y.toks) λb o e=>QH _ e,BU a _,⟨_,QN _ rfl,rfl,rfl⟩,g,q _ (R0 _ a Z)⟩;obtain⟨Y,F,p,G⟩:=i.tuple B;refine QBf (show y.heap.IsTuple a Y.toArray from p) ?_;exact⟨y.heap.objs.size,[y.heap.objs.size],_,_,m,rfl,i.kept (t':=y.toks) λb o e=>QH _ e,RQ a _,⟨_,QN _ rfl,rfl,rfl⟩,g,q _ (S7 _ a Z)⟩;obtain⟨z,J,Z,r,P,C,O,N,M,L,Q⟩:=(show LA X.prog X.w m y.heap a (.dT ep u) from i.hok a _ e)
  have A:C.size=u.length:=by have:=congrArg qp L;rw[QF,QX]at this;rw[this,<- qW r]
  refine C5 J O N.1 M ?_;exact⟨y.heap.objs.size,[y.heap.objs.size],_,_,m,rfl,i.kept (t':=y.toks) λb o e=>QH _ e,CU (a:=a) (n:=u.length) (ep:=ep),⟨_,QN _ rfl,rfl,by rw[<- A];rfl⟩,g,q _ (T0 ep a u)⟩
 |_=>exact Qb W
theorem J3(g:x="range")(m:Gl X x)(l:X.mg x=none)(n:PA X [a] ta)(i:IB a=true) :
  PI X f (.Call (.Name x p) [a] [] pos) (LQ λσ H R=>ta σ H λvs v=>dC X.K .rng1 vs v R):=by
 subst g;intro z s σ H R I h;refine Call_ (jF I m l boot_range (qq (LB (n pos z s σ H _ I h) λY Z ⟨vs,v,o,b,u⟩=>?_) (FA _ i) rfl))
 match vs,u with
 |[.int j],⟨⟨u,q2⟩,q⟩ =>
  cases b with
  |cons r w =>
   cases w;obtain⟨t,rfl⟩:=r;refine call_range_1 (oX o (by omega) (by omega) u q2 ?_);have e:(j - 0).toNat=j.toNat:=by simp
   rw[e];have y:=A7 0 j.toNat;refine q _ ?_;simpa using y
theorem cW:bootBuiltins ("enumerate":Str)=some (.type "enumerate"):=by kernel_rfl
theorem rZ{y:NB}{σ:St}{e:Hp}{h:Shared}{R:It->Hp->Prop}{c:Nat}{z:Src}{xs:List V}{its:Array Value}{h':Heap}(v:Inv X y σ e h)(sh:GB h.heap z its)(st:VS (h.heap.objs.size+1) h.heap.objs.size z c 0 h')(i:∀c o,h.heap.get? c=some o->h'.get? c=some o)
  (q:∀J,Yields J (xs.zipIdx.map λp=>.tup [.int ((c+p.2:Nat):Int),p.1]) (λH=>pW X.K H z xs)->R J e):wpAny (model X.prog X.w) X.A (pyIter (.ref (h.heap.objs.size+1))) (Ml X y σ (.Tuple es d k) R) X.xe { h with heap:=h' }:=by
 obtain⟨⟨g,j⟩,_⟩:=id st;refine QBv j ?_;have l:=v.kept (h':=h') (t':=h.toks) i;have lt:=sh.lt;refine⟨_,[h.heap.objs.size+1,h.heap.objs.size],_,_,e,rfl,l,DU (Yn (Nat.succ_ne_self _)) (Qa (qi lt)) (Qa lt),st,λb hb=>?_,q _ (A0 _ z c xs)⟩;have u:h.heap.objs.size<=b:=by simp only[QK,WE,or_false]at hb;rcases hb with rfl|rfl;exact Nat.le_add_right _ _;exact QU _
 exact v.fpOk u (v.hok.fresh u)
theorem K3(l:x="enumerate")(o:Gl X x)(n:X.mg x=none)(Y:PA X [a] ta)(m:IB a=true) :
  PI X (.Tuple es d k) (.Call (.Name x p) [a] [] pos) (LQ λσ H R=>ta σ H λvs w=>dC X.K .enum vs w R):=by
 subst l;intro u s σ H R I h;refine Call_ (jF I o n cW (qq (LB (Y pos u s σ H _ I h) λZ W ⟨vs,w,v,e,g⟩=>?_) (FA _ m) rfl))
 match vs,g with
 |[.ref l1],⟨z,xs,e1,h1,q⟩ =>
  subst e1;cases e with|cons r b=>cases b;cases r;obtain⟨j,_,y,_⟩:=v.src h1;refine sS y λA st i=>rZ (xs:=xs) v y st i ?_;simpa using q
theorem B5{K:QC}{u:V}{H:Hp}{R:List Item->(Hp->Prop)->Hp->Prop}(h:dC K .itm [u] H R):∃a ep kvs,u=.ref a/\H a=some (.dT ep kvs)/\R (kvs.map λp=>.tup [.ref p.2.1,p.2.2]) (λH=>H a=some (.dT ep kvs)) H:=by
 cases u with|ref a=>obtain⟨ep,kvs,e,q⟩:=h;exact⟨a,ep,kvs,rfl,e,q⟩|_=>exact Qb h
theorem T8{o:Expr}{B:TE}{apos cpos:Pos}(L:PE X o B)(i:attributeBase o "items" X.env (eval o X.env)=eval o X.env)(g:(apos.endLine==cpos.line)=true) :
  Ch X (.Tuple es d k) (.Call (.Attribute o "items" apos) [] [] cpos) (LQ λσ H R=>B σ H λv l=>dC X.K .itm [v] l R):=by
 intro u s σ H R I h;refine QAq i g (LB (L u s σ H _ I h) λv j ⟨x,l,E,G,J⟩=>?_);obtain⟨a,ep,y,rfl,e,q⟩:=B5 J;cases G;obtain⟨z,M,Q,r,C,W,m,Z,O,N,S⟩:=(show LA X.prog X.w l j.heap a (.dT ep y) from E.hok a _ e)
 refine⟨"dict",_,QAv,PySem.F.slot_dict_items,PySem.F.type_dict_items,⟨C,m,Z.1⟩,λb P=>?_,Wo rfl (QBR (rS m Z.1 M ?_))⟩;cases P;exact⟨C,m,Z.2.1⟩;have A:Inv X u σ l { j with heap:=j.heap.push { cls:=.type "dict_items",data:=.fields #[.ref a] } }:=E.kept (t':=j.toks) λb o e=>QH _ e;refine TY ⟨_,QN _ rfl,rfl,rfl⟩ (QH _ m) O ?_;have Y:W.size=y.length:=by have:=congrArg qp N;rw[QF,QX]at this;rw[this,<- qW r]
 refine⟨_,[_],_,_,l,rfl,A.kept (t':=j.toks) λb o e=>QH _ e,TQ (a:=a) (n:=y.length) (ep:=ep),⟨.none,.none,?_⟩,λb hb=>?_,q _ (aW ep a y)⟩;rw[<- Y];exact QN _ rfl;have e:=QI.mp hb;subst e;exact A.fpOk (QU _) (A.hok.fresh (QU _))
end
end
section
variable{u σ:St}{K:QC}{k:Tg}{H:Hp}{Q:St->Hp->Prop}
def Tg.at:Tg->List Nat
 | .nm i=>[i]|.tp h=>h
def CQ(k:Tg)(u σ:St):Prop:=u.length=σ.length/\∀(j:Nat),j∉k.at->u[j]?=σ[j]?
theorem GU{i:Nat}{v:Option V}(h:u.length=σ.length)(x:∀j,j≠i->u[j]?=σ[j]?):u.set i v=σ.set i v:=by apply wq;intro j;by_cases e:j=i;subst e;by_cases hl:j<σ.length;rw[qZ (by omega),qZ hl];rw[qI (by rw[qU];omega),qI (by rw[qU];omega)];rw[qO (Q1 e),qO (Q1 e)];exact x j e
theorem tH:∀(x:List Nat) (vs:List V) (u σ:St),u.length=σ.length->(∀j,j∉x->u[j]?=σ[j]?)->uB x vs u=uB x vs σ
 |[],[],u,σ,hl,h=>by have:u=σ:=wq λj=>h j (by simp);rw[this]|[],_::_,_,_,_,_=>rfl|_::_,[],_,_,_,_=>rfl|i::x,v::vs,u,σ,hl,h=>by simp only[uB];refine tH x vs _ _ (by simp[hl]) λj z=>?_;by_cases e:j=i;subst e;by_cases y:j<σ.length;rw[qZ (by omega),qZ y];rw[qI (by rw[qU];omega),qI (by rw[qU];omega)];rw[qO (Q1 e),qO (Q1 e)];exact h j (by simp[e,z])
theorem NE:∀(h:List Nat) (vs:List V) (σ u:St),uB h vs σ=some u->u.length=σ.length/\∀j,j∉h->u[j]?=σ[j]?
 |[],[],σ,u,e=>by simp only[uB]at e;cases e;exact⟨rfl,λ_ _=>rfl⟩|[],_::_,_,_,e=>by simp[uB]at e|_::_,[],_,_,e=>by simp[uB]at e|i::h,v::vs,σ,u,e=>by simp only[uB]at e;obtain⟨w,y⟩:=NE h vs _ _ e;refine⟨by rw[w,qU],λj x=>?_⟩;rw[y j (λz=>x (QG _ z)),qO (λz=>x (by simp[z]))]
theorem aQ{v:V}(a:CQ k u σ)(h:VE K k v σ H Q):VE K k v u H λx m=>CQ k x σ/\Q x m:=by
 obtain⟨f,g⟩:=a;cases k with
 |nm i=>have e:u.set i (some v)=σ.set i (some v):=GU f λj y=>g j (by simpa[Tg.at]using y);show CQ (.nm i) (u.set i (some v)) σ/\Q (u.set i (some v)) H;rw[e];exact⟨⟨by simp,λj y=>qO (λz=>y (by simp[Tg.at,z]))⟩,h⟩|tp b =>
  cases v with|ref p=>obtain⟨w,x,l,e,q⟩:=h;exact⟨w,x,l,by rw[tH b w u σ f λj y=>g j y];exact e,⟨(NE b w σ x e).1,λj y=>(NE b w σ x e).2 j y⟩,q⟩|_=>exact Qb h
theorem tS{v:V}{y:St->Hp->Prop}(m:∀σ H,Q σ H->y σ H)(h:VE K k v σ H Q):VE K k v σ H y:=by
 cases k with
 |nm i=>exact m _ _ h|tp a =>
  cases v with|ref p=>obtain⟨z,x,w,e,q⟩:=h;exact⟨z,x,w,e,m _ _ q⟩|_=>exact Qb h
theorem AK{it:Item}{x:V}{y:Hp}(w:match it with | .one v=>x=v/\y=H | .tup vs=>∃p,H p=none/\x=.ref p/\y=DA H p (.tup vs))(h:bindI K k it σ H Q):VE K k x σ y Q:=by
 cases it with
 |one v=>obtain⟨rfl,rfl⟩:=w;exact h|tup vs =>
  obtain⟨p,z,rfl,rfl⟩:=w;cases k with
  |nm i=>exact h p z|tp a =>
   obtain⟨u,e,q⟩:=h (DA H p (.tup vs)) λb o e=>by rw[kA (VA e z)];exact e
   exact⟨vs,u,XC.of pA,e,q⟩
theorem VZ{xs:List Item}{st:Hp->Prop}{tc:TT}{te:TE}{a:St}{Q:VK}(h:tf K xs st (bindI K k) tc te a H Q):YU K xs st k tc te a H Q:=by
 obtain⟨W,Z,o,j,done⟩:=h;intro J Y;refine⟨λi m v u f=>m=xs.length - i/\i<=xs.length/\CQ k u a/\W i v f,⟨xs.length,by simp,Q5 _,⟨rfl,λ_ _=>rfl⟩,Z⟩,?_⟩;rintro i m v u f ⟨rfl,C,F,w⟩;have n:=o i v f C w;by_cases g:i<xs.length;refine .inr ⟨Y.go i f n g,λx G y=>?_⟩;obtain⟨it,p,B⟩:=Y.yld i f x G n g y;have b:=aQ F (AK B (j i it v f p w));refine tS (λl I q=>?_) b;obtain⟨r,q⟩:=q;have E:∀(z:List V) (s:Hp),(∃X,X < xs.length - i/\X=xs.length - (i+1)/\i+1<=xs.length/\CQ k l a/\W (i+1) z s)=W (i+1) z s:=λz s =>
  propext ⟨λ⟨_,_,_,_,_,w⟩=>w,λw=>⟨_,by omega,rfl,g,r,w⟩⟩
 simp only[E];exact q
 ·have e:i=xs.length:=by omega
  subst e;obtain⟨A,q⟩:=done v f w;exact .inl ⟨Y.stop _ f n (QU _),A,q⟩
end
end L2.L3
namespace L2.L3
open PySem PySem.Spec PyProof.Rows
variable{Γ:Ev}
section
variable{X:Cx}{E:XK}{p its:PX}{es:List Expr}{e t it:Expr}{pos:Pos}{S:SC}{Q:List V->Hp->Prop}{G:Glob}{d:ItK}
def iN:PX->Bool
 | .nq _ _=>false|_=>true
theorem JQ(h:iN p=true):aO X Γ E p es:=by cases p<;>first|trivial|cases h
theorem gO(Q:Bool->Hp->Prop):(λ(x:V) (h:Hp)=>SZ x h Q)=λ(x:V) (h:Hp)=>∃k,x=.bl k/\Q k h:=by funext x h;exact Cb x h Q
theorem Snd.of(pe:PE X e (wp X.K Γ p E).e)(pt:PT X e (wp X.K Γ p E).t)(hb:∀h es pos,e≠.BoolOp h es pos)(y:(wp X.K Γ p E).a=never.a)(x:iN p=true:=by rfl):Snd X Γ E p e :=
 ⟨pe,pt,λh es pos z=>absurd z (hb h es pos),λes pos z=>by rw[y];exact xP,λ_ _ _=>JQ x⟩
theorem Snd.lit(pe:PE X e (wp X.K Γ p E).e)(x:(wp X.K Γ p E).t=never.t)(hb:∀h es pos,e≠.BoolOp h es pos)(z:(wp X.K Γ p E).a=never.a)(y:iN p=true:=by rfl):Snd X Γ E p e :=
 Snd.of pe (by rw[x];exact cK) hb z y
theorem Snd.args(w:PA X es (wp X.K Γ p E).a)(u:aO X Γ E p es)(v:(wp X.K Γ p E).e=never.e)(y:(wp X.K Γ p E).t=never.t):Snd X Γ E p (.List es pos) :=
 ⟨by rw[v];exact HX,by rw[y];exact cK,λ_ _ _ z=>(by cases z),λx h z=>by cases z;exact w,λx h z=>by cases z;exact u⟩
theorem k9{x:Str}{v:V}{u:Value}(y:X.env.scope=S.sc)(h:JL S x=true)(z:X.mg x=some u)(r:rA v u):PE X (.Name x pos) (λ_ H Q=>Q v H):=by obtain⟨k,w,a⟩:=fC h;exact B3 (show X.env.scope.names.lookup x=some .globalImplicit by rw[y];exact k) z r w
theorem DE:∀(p:PX) {es:List Expr},DB p S (.List es pos)=true->es.all IB=true:=by
 intro p;induction p with|nr=>intro es h;have h:es.isEmpty=true:=h;rw[Qt.mp h];rfl|nq a u _ y=>intro es h;have h:u4 es _=true:=h;obtain⟨x,t,rfl,h⟩:=AI h;have z:=yA h;rw[qr,z.1,y (yA z.2).2];rfl|lst u y=>exact λh=>y h|_=>exact λh=>(QD h).elim
theorem iQ{K:QC}{σ:St}{H:Hp}:∀(p:PX),zF p=true->DB p S (.List [] pos)=true->((wp K Γ p E).a σ H Q↔Q [] H):=by
 intro p;cases p with|nr=>exact λ_ _=>wj|nq _ _=>exact λ_ h=>(QD h).elim|_=>exact λh=>(QD h).elim
theorem fW{K:QC}{σ:St}{H:Hp}(p:PX)(h:DB p S (.List [] pos)=true)(q:(wp K Γ p E).a σ H Q):Q [] H:=by
 cases x:zF p with
 |true=>exact(iQ p x h).mp q|false =>
  cases p with|nr=>exact q|nq _ _=>exact(QD h).elim|_=>exact q.elim
theorem eQ{a:Expr}(p:PX)(y:zF p=true)(h:DB p S (.List [a] pos)=true):∃x,p=.nq x .nr:=by
 cases p with
 |nq x r =>
  have z:DB r S (.List [] pos)=true:=(yA (yA h).2).2;cases r with|nr=>exact⟨x,rfl⟩|nq _ _=>exact(QD z).elim|_=>exact(QD y).elim
 |nr=>exact(QD h).elim|_=>exact(QD y).elim
theorem Ge(h:X.A.units+66<cLine)(m:Mt):∃id,PlainAttrs m.ty/\Slot m.ty m.nm id/\typeOf (.builtin id)=pure (.type "method_descriptor")/\Yc X id (x5 X.K m):=by
 cases m with|append=>exact⟨_,Wn,PySem.F.slot_list_append,PySem.F.type_list_append,XV⟩|pop=>exact⟨_,Wn,PySem.F.slot_list_pop,PySem.F.type_list_pop,k5⟩|join=>exact⟨_,PySem.F.plainAttrs_str,PySem.F.slot_str_join,PySem.F.type_str_join,v5⟩|setd=>exact⟨_,QAv,PySem.F.slot_dict_setdefault,PySem.F.type_dict_setdefault,VV h⟩|reverse=>exact⟨_,Wn,PySem.F.slot_list_reverse,PySem.F.type_list_reverse,ZR⟩
theorem FE{env:Env}{pos:Pos}:∀{es:List Expr},es.all IB=true->(backTo pos (starEach es env)).any (·.1)=false
 |[],_=>rfl|e::es,h=>by rw[qr]at h;obtain⟨y,x⟩:=yA h;rw[FA env y];show(false||(backTo pos (starEach es env)).any (·.1))=false;rw[FE x];rfl
theorem ZQ{env:Env}{pos:Pos}:∀{es:List Expr},es.all IB=true->(backTo pos (starEach es env)).all (λx=>!x.1)=true
 |[],_=>rfl|e::es,h=>by rw[qr]at h;obtain⟨z,y⟩:=yA h;rw[FA env z];show(true&&(backTo pos (starEach es env)).all (λx=>!x.1))=true;rw[ZQ y];rfl
theorem dR(ok:OkX X S G E)(y:Zh (zF its) S d (λes p=>DB its S (.List es p)) t it pos=true)(j:zf G d)(m:isItm d=false)
  (b:∀es p,DB its S (.List es p)=true->Snd X G.ev E its (.List es p)):PI X t it (LQ λσ H R=>(wp X.K G.ev its E).a σ H λvs o=>dC X.K d vs o R):=by
 have w:∀{x:Str},JL S x=true->Gl X x:=λ{x} h=>by show X.env.scope.names.lookup x=some .globalImplicit;rw[ok.sc];exact(fC h).1
 have z:FN t=true->∃es k p,t=.Tuple es k p:=λh=>by
  cases t with|Tuple es k p=>exact⟨es,k,p,rfl⟩|_=>exact(QD h).elim
 cases d with|val=>have i:=yA y;have f:=(b _ pos i.2).pas _ pos rfl;obtain⟨a,rfl⟩:=eQ its i.1 i.2;exact d3 f.1|rng1=>obtain⟨l,es,n,p,rfl,g,h⟩:=ED y;have v:=yA h;cases Qt.mp v.1;obtain⟨a,rfl,u⟩:=sB v.2;exact J3 rfl (w g) (ok.no _ j) ((b _ p u).pa _ p rfl) (by simpa using DE its u)|enum=>have i:=yA y;obtain⟨es,k,pt,rfl⟩:=z i.1;obtain⟨l,es,n,p,rfl,g,h⟩:=ED i.2;have v:=yA h;cases Qt.mp v.1;obtain⟨a,rfl,u⟩:=sB v.2;exact K3 rfl (w g) (ok.no _ j) ((b _ p u).pa _ p rfl) (by simpa using DE its u)|itm=>cases m
theorem Y3(ok:OkX X S G E)(x:Zh (zF its) S d (λes p=>DB its S (.List es p)) t it pos=true)(g:zf G d)
  (u:∀es p,DB its S (.List es p)=true->Snd X G.ev E its (.List es p)):Ch X t it (LQ λσ H R=>(wp X.K G.ev its E).a σ H λvs j=>dC X.K d vs j R):=by
 cases b:isItm d with
 |false=>exact(dR ok x g b u).to0|true =>
  cases d with
  |itm =>
   have i:=yA x;have w:=yA i.2;cases t with|Tuple es k pt=>obtain⟨v,l,es,p,rfl,hl,h⟩:=DT w.2;have f:=yA h;have z:=yA f.2;cases Qt.mp z.1;have y:=(u _ p z.2).pas _ p rfl;obtain⟨a,rfl⟩:=eQ its w.1 z.2;exact T8 y.1 (pY f.1) hl|_=>exact(QD i.1).elim
  |_=>cases b
theorem SE{te x:TE}(h:PE X e te)(q:∀σ H Q,x σ H Q->te σ H Q):PE X e x:=λy s σ H Q I z=>h y s σ H Q I (q σ H Q z)
theorem snd:∀(p:PX) {X:Cx}{S:SC}{E:XK}(ok:OkX X S G E) {e:Expr},DB p S e=true->HA G p->Snd X G.ev E p e:=by
 intro p;induction p with
 |var i =>
  intro X S E ok e h _;obtain⟨x,pos,rfl,h⟩:=YD h;obtain⟨Z,B,J,O⟩:=CS h;have base:=UX (pos:=pos) (show X.N[i]?=some x by rw[ok.N];exact Z) (show rc X.env.scope x by rw[ok.sc];exact B) J O;have pe:PE X (.Name x pos) (wp X.K G.ev (.var i) E).e:=SE base λA H Q q=>by
   have q:(match A[i]? with|some (some v)=>Q v H|_=>False):=q;cases hs:A[i]? with
   |none=>rw[hs]at q;exact q.elim|some o =>
    rw[hs]at q;cases o with|none=>exact q.elim|some v=>exact⟨v,hs,q⟩
  exact Snd.of pe (aD pe λ_=>rfl) (λ_ _ _ z=>by cases z) rfl
 |int i=>intro X S E ok e h _;obtain⟨c,k,pos,rfl,h⟩:=lG h;obtain⟨j,rfl,h⟩:=bb h;cases qh h;exact Snd.of LX (aD (ta:=λ_ H Q=>Q (.int i) H) LX λ_=>rfl) (λ_ _ _ z=>by cases z) rfl|str x=>intro X S E ok e h _;obtain⟨c,k,pos,rfl,h⟩:=lG h;obtain⟨j,rfl,h⟩:=ub h;cases qh h;exact Snd.lit y9 rfl (λ_ _ _ z=>by cases z) rfl|bl b=>intro X S E ok e h _;obtain⟨c,k,pos,rfl,h⟩:=lG h;obtain⟨j,rfl,h⟩:=n6 h;cases qh h;exact Snd.of E6 (aD (ta:=λ_ H Q=>Q (.bl b) H) E6 λ_=>rfl) (λ_ _ _ z=>by cases z) rfl|non=>intro X S E ok e h _;obtain⟨c,k,pos,rfl,h⟩:=lG h;cases g6 h;exact Snd.of GX (aD (ta:=λ_ H Q=>Q .non H) GX λ_=>rfl) (λ_ _ _ z=>by cases z) rfl|glo x=>intro X S E ok e h nd;obtain⟨y,pos,rfl,h⟩:=YD h;have h:=yA h;cases qh h.1;obtain⟨u,hm,r⟩:=ok.val x nd;have pe:=k9 (pos:=pos) ok.sc h.2 hm r;exact Snd.of pe (aD pe λ_=>rfl) (λ_ _ _ z=>by cases z) rfl|bty x n=>intro X S E ok e h nd;obtain⟨y,pos,rfl,h⟩:=YD h;have h:=yA h;cases qh h.1;obtain⟨g1,g2,g3⟩:=fC h.2;exact Snd.lit (P3 (show X.env.scope.names.lookup x=some .globalImplicit by rw[ok.sc];exact g1) (ok.no x nd.1) nd.2 rfl g3 g2) rfl (λ_ _ _ z=>by cases z) rfl|bin op a b Y L=>intro X S E ok e h nd;obtain⟨l,o,r,pos,rfl,h⟩:=J4 h;have Z:=yA h;have B:=yA Z.2;cases qh Z.1;have pe:=ve (pos:=pos) (f9 op) (Y ok B.1 nd.1).pe (L ok B.2 nd.2).pe;exact Snd.of pe (aD pe λ_=>rfl) (λ_ _ _ z=>by cases z) rfl|cmp op a b Y L=>intro X S E ok e h nd;obtain⟨l,os,rs,pos,rfl,h⟩:=x4 h;obtain⟨o,rfl,h⟩:=sB h;obtain⟨r,rfl,h⟩:=sB h;have Z:=yA h;have B:=yA Z.2;have J:=yA B.2;cases qh Z.1;have pa:=(Y ok J.1 nd.1).pe;have pb:=(L ok J.2 nd.2).pe;refine Snd.of (N3 (pos:=pos) (IX ok.un op) pa pb (rY B.1)) (λM s A H Q I q=>E2 (pos:=pos) (IX ok.un op) pa pb (rY B.1) M s A H Q I ?_) (λ_ _ _ z=>by cases z) rfl;show Sc _ _ _ A H (λ(x:V) (W:Hp)=>∃k,x=.bl k/\Q k W);rw[<- gO Q];exact q|neg a Y =>
  intro X S E ok e h nd;obtain⟨o,e,pos,rfl,h⟩:=jY h;have h:=yA h;cases qh h.1;have base:=ke (pos:=pos) (b8 (X:=X)) (Y ok h.2 nd).pe;refine Snd.lit (λM s A H Q I q=>base M s A H Q I ?_) rfl (λ_ _ _ z=>by cases z) rfl;have e:(λ(x:V) (W:Hp)=>rU (λi=>V.int (-i)) x W Q)=λ(x:V) (W:Hp)=>(match x with | .int i=>Q (.int (-i)) W|_=>False):=by
   funext x W;apply propext;cases x with|int i=>exact⟨λ⟨j,e,q⟩=>by cases e;exact q,λq=>⟨i,rfl,q⟩⟩|_=>exact⟨λ⟨j,e,q⟩=>(by cases e),λq=>Qb q⟩
  show(wp X.K G.ev a E).e A H (λ(x:V) (W:Hp)=>rU (λi=>V.int (-i)) x W Q);rw[e];exact q
 |and a b Y L =>
  intro X S E ok e h nd;obtain⟨o,es,pos,rfl,h⟩:=fP h;have Z:=yA h;cases qh Z.1;obtain⟨l,t,rfl,B⟩:=AI Z.2;obtain⟨r,t,rfl,J⟩:=AI B;have O:=yA J;have sa:=Y ok O.1 nd.1;have sb:=L ok O.2 nd.2;have eqA:∀(A:St) (Q:VK),(λ(x:V) (W:Hp)=>∃c,x=.bl c/\if c=true then(wp X.K G.ev b E).e A W Q else Q (.bl false) W)=λ(x:V) (W:Hp)=>SZ x W λc H2=>if c=true then(wp X.K G.ev b E).e A H2 Q else Q (.bl false) H2:=λA Q=>(gO _).symm
  have key:PW X (.BoolOp .And (l::r::t) pos) (wp X.K G.ev (.and a b) E).t/\PE X (.BoolOp .And (l::r::t) pos) (λA H Q=>(wp X.K G.ev a E).e A H λx W=>∃c,x=.bl c/\if c=true then(wp X.K G.ev b E).e A W Q else Q (.bl false) W):=by
   cases t with|nil=>exact⟨sX sa.pt (A2 sb.pt),NX (pos:=pos) sa.pe (FX sb.pe)⟩|cons q t=>exact⟨sX sa.pt (sb.pw _ _ _ rfl),NX (pos:=pos) sa.pe sb.pe⟩
  refine⟨SE key.2 λA H Q q=>?_,key.1.pt,λ_ _ _ _=>key.1,λ_ _ z=>(by cases z),λ_ _ z=>trivial⟩;rw[eqA];exact q
 |or a b Y L =>
  intro X S E ok e h nd;obtain⟨o,es,pos,rfl,h⟩:=fP h;have Z:=yA h;cases qh Z.1;obtain⟨l,t,rfl,B⟩:=AI Z.2;obtain⟨r,t,rfl,J⟩:=AI B;have O:=yA J;have sa:=Y ok O.1 nd.1;have sb:=L ok O.2 nd.2;have eqA:∀(A:St) (Q:VK),(λ(x:V) (W:Hp)=>∃c,x=.bl c/\if c=true then Q (.bl true) W else(wp X.K G.ev b E).e A W Q)=λ(x:V) (W:Hp)=>SZ x W λc H2=>if c=true then Q (.bl true) H2 else(wp X.K G.ev b E).e A H2 Q:=λA Q=>(gO _).symm
  have key:PW X (.BoolOp .Or (l::r::t) pos) (wp X.K G.ev (.or a b) E).t/\PE X (.BoolOp .Or (l::r::t) pos) (λA H Q=>(wp X.K G.ev a E).e A H λx W=>∃c,x=.bl c/\if c=true then Q (.bl true) W else(wp X.K G.ev b E).e A W Q):=by
   cases t with|nil=>exact⟨P6 sa.pt (F8 sb.pt),T6 (pos:=pos) sa.pe (FX sb.pe)⟩|cons q t=>exact⟨P6 sa.pt (sb.pw _ _ _ rfl),T6 (pos:=pos) sa.pe sb.pe⟩
  refine⟨SE key.2 λA H Q q=>?_,key.1.pt,λ_ _ _ _=>key.1,λ_ _ z=>(by cases z),λ_ _ z=>trivial⟩;rw[eqA];exact q
 |not a Y=>intro X S E ok e h nd;obtain⟨o,x,pos,rfl,h⟩:=jY h;have Z:=yA h;cases qh Z.1;have sa:=Y ok Z.2 nd;refine Snd.of (λM s A H Q I q=>?_) (G8 sa.pt) (λ_ _ _ z=>by cases z) rfl;refine UnaryOp_ (LB (sa.pe M s A H _ I q) λv s1 ⟨x,W,I1,r1,q1⟩=>?_);have q1:oF X.K x W (λc H2=>Q (.bl (!c)) H2):=q1;rw[NS]at q1;refine not_of (LB (FW M s1 A W x v _ I1 r1 q1) λc s2 ⟨H2,I2,q2⟩=>?_);exact⟨.bl (!c),H2,I2,rfl,q2⟩|call f as ih =>
  intro X S E ok e h nd;obtain⟨p,es,ks,pos,rfl,P,h⟩:=ED h;have Z:=yA h;cases Qt.mp Z.1;obtain⟨g1,g2,g3⟩:=fC P;have P:Gl X f:=show X.env.scope.names.lookup f=some .globalImplicit by rw[ok.sc];exact g1
  obtain⟨CX,k,a,fd,ps,F,hr,hm,hk,hb,hx,_⟩:=ok.fn f nd.1;have pa:=(ih ok Z.2 nd.2).pa es pos rfl;have st:=DE as Z.2;have pe:PE X (.Call (.Name f p) es [] pos) (wp X.K G.ev (.call f as) E).e:=by
   cases es with|nil=>exact SE (MX (pos:=pos) (p:=p) F hr P hm hk hb .nil hx g2) λA H Q q=>fW as Z.2 q|cons e1 es1=>have st:=yA st;refine SE (O3 (pos:=pos) (p:=p) F hr P hm hk hb .nil hx pa g2 (FA _ st.1) (FE st.2)) λA H Q q=>?_;show(wp X.K G.ev as E).a A H λvs W=>G.ev.sp f (vs++[]) W Q E;simp only[wG];exact q
  exact Snd.of pe (aD pe λ_=>rfl) (λ_ _ _ z=>by cases z) rfl
 |idx a b Y L=>intro X S E ok e h nd;obtain⟨v,i,pos,rfl,h⟩:=iJ h;have Z:=yA h;have B:=yA Z.2;have pe:=A6 (pos:=pos) (NY ok.un) (Y ok B.1 nd.1).pe (L ok B.2 nd.2).pe (pT Z.1);exact Snd.of pe (aD pe λ_=>rfl) (λ_ _ _ z=>by cases z) rfl|nop=>intro X S E ok e h nd;exact(QD h).elim|lst as ih=>intro X S E ok e h nd;obtain⟨es,pos,rfl,h⟩:=oK h;have pa:=(ih ok h nd).pa es pos rfl;exact⟨z9 pa,cK,λ_ _ _ z=>(by cases z),λ_ _ z=>xP,λ_ _ z=>trivial⟩|tup as ih=>intro X S E ok e h nd;obtain⟨es,k,pos,rfl,h⟩:=y4 h;exact Snd.lit (j9 ((ih ok h nd).pa es pos rfl)) rfl (λ_ _ _ z=>by cases z) rfl|dnew b=>intro X S E ok e h nd;obtain⟨ks,vs,pos,rfl,h⟩:=cP h;have Z:=yA h;cases Qt.mp Z.1;cases Qt.mp Z.2;exact Snd.lit G3 rfl (λ_ _ _ z=>by cases z) rfl|dsp a b Y L =>
  intro X S E ok e h nd;obtain⟨ks,vs,pos,rfl,h⟩:=cP h;obtain⟨k,rfl,h⟩:=sB h;obtain⟨v,rfl,h⟩:=sB h;have Z:=yA h;cases k with|none=>exact(QD Z.1).elim|some k=>exact Snd.lit (C3 ok.un (Y ok Z.1 nd.1).pe (L ok Z.2 nd.2).pe) rfl (λ_ _ _ z=>by cases z) rfl
 |mv i =>
  intro X S E ok e h _;obtain⟨x,pos,rfl,h⟩:=YD h;obtain⟨Z,B,J,O⟩:=CS h;have base:=UX (pos:=pos) (show X.N[i]?=some x by rw[ok.N];exact Z) (show rc X.env.scope x by rw[ok.sc];exact B) J O;have pe:PE X (.Name x pos) (wp X.K G.ev (.mv i) E).e:=SE base λA H Q q=>by
   have q:(match A[i]? with|some (some v)=>Q v H|_=>False):=q;cases hs:A[i]? with
   |none=>rw[hs]at q;exact q.elim|some o =>
    rw[hs]at q;cases o with|none=>exact q.elim|some v=>exact⟨v,hs,q⟩
  exact Snd.lit pe rfl (λ_ _ _ z=>by cases z) rfl
 |ixm a b Y L=>intro X S E ok e h nd;obtain⟨v,i,pos,rfl,h⟩:=iJ h;have Z:=yA h;have B:=yA Z.2;exact Snd.lit (A6 (pos:=pos) (NY ok.un) (Y ok B.1 nd.1).pe (L ok B.2 nd.2).pe (pT Z.1)) rfl (λ_ _ _ z=>by cases z) rfl|dof a Y=>intro X S E ok e h nd;obtain⟨p1,es,ks,pos,rfl,P,h⟩:=ED h;have Z:=yA h;cases Qt.mp Z.1;obtain⟨y,rfl,J⟩:=sB Z.2;have O:=yA J;exact Snd.lit (v9 ok.calm (show X.env.scope.names.lookup _=some .globalImplicit by rw[ok.sc];exact(fC P).1) (ok.no _ nd.1) (Y ok O.2 nd.2).pe (FA _ O.1)) rfl (λ_ _ _ z=>by cases z) rfl|lset a Y=>intro X S E ok e h nd;obtain⟨p1,p2,pos,pos2,y,rfl,P,hg',hy,h⟩:=UT h;refine Snd.lit (U3 ok.calm (show X.env.scope.names.lookup _=some .globalImplicit by rw[ok.sc];exact(fC P).1) (show X.env.scope.names.lookup _=some .globalImplicit by rw[ok.sc];exact(fC hg').1) (ok.no _ nd.1) (ok.no _ nd.2.1) (Y ok h nd.2.2).pe (FA _ hy)) rfl (λ_ _ _ z=>by cases z) rfl|sset a Y=>intro X S E ok e h nd;obtain⟨p1,p2,pos,pos2,y,rfl,P,hg',hy,h⟩:=UT h;refine Snd.lit (V3 ok.calm (show X.env.scope.names.lookup _=some .globalImplicit by rw[ok.sc];exact(fC P).1) (show X.env.scope.names.lookup _=some .globalImplicit by rw[ok.sc];exact(fC hg').1) (ok.no _ nd.1) (ok.no _ nd.2.1) (Y ok h nd.2.2).pe (FA _ hy)) rfl (λ_ _ _ z=>by cases z) rfl|nr=>intro X S E ok e h nd;obtain⟨es,pos,rfl,h⟩:=oK h;cases Qt.mp h;exact Snd.args SX trivial rfl rfl|nq a as Y ih=>intro X S E ok e h nd;obtain⟨es,pos,rfl,h⟩:=oK h;obtain⟨e1,es1,rfl,h⟩:=AI h;have Z:=yA h;have B:=yA Z.2;have sa:=(Y ok B.1 nd.1).pe;have ss:=ih ok B.2 nd.2;exact Snd.args (bN sa (ss.pa es1 pos rfl) (FA _ Z.1)) ⟨sa,ss.pas es1 pos rfl⟩ rfl rfl|bi f as ih =>
  intro X S E ok e h nd;obtain⟨p,es,ks,pos,rfl,P,h⟩:=ED h;have Z:=yA h;cases Qt.mp Z.1;obtain⟨e1,es1,rfl,J⟩:=AI Z.2;obtain⟨g1,g2,g3⟩:=fC P;have P:Gl X f.nm:=show X.env.scope.names.lookup f.nm=some .globalImplicit by rw[ok.sc];exact g1
  have pa:=(ih ok J nd.2).pa _ pos rfl;have st:=yA (DE as J);have pe:PE X (.Call (.Name f.nm p) (e1::es1) [] pos) (wp X.K G.ev (.bi f as) E).e:=by
   rcases Mf ok.un ok.calm f with⟨id,hb,hc⟩| ⟨T,hb,hc⟩
   exact vP (pos:=pos) (p:=p) hc P (ok.no _ nd.1) hb pa g3 g2 (FA _ st.1) (FE st.2);exact bV (pos:=pos) (p:=p) hc P (ok.no _ nd.1) hb pa g3 g2 (FA _ st.1) (FE st.2)
  exact Snd.of pe (aD pe λ_=>rfl) (λ_ _ _ z=>by cases z) rfl
 |isi a c Y ihc =>
  intro X S E ok e h nd;obtain⟨p,es,ks,pos,rfl,P,h⟩:=ED h;have Z:=yA h;cases Qt.mp Z.1;obtain⟨l,r,rfl,B⟩:=ae Z.2;have J:=yA B;have O:=yA J.2;have h5:=yA O.2;obtain⟨g1,g2,g3⟩:=fC P;have P:Gl X "isinstance":=show X.env.scope.names.lookup ("isinstance":Str)=some .globalImplicit by rw[ok.sc];exact g1
  have pe:PE X (.Call (.Name "isinstance" p) [l,r] [] pos) (wp X.K G.ev (.isi a c) E).e :=
   vP (pos:=pos) (p:=p) GZ P (ok.no _ nd.1) (by kernel_rfl) (bN (Y ok h5.1 nd.2.1).pe (bN (ihc ok h5.2 nd.2.2).pe SX (FA _ O.1)) (FA _ J.1)) g3 g2 (FA _ J.1) (FE (by rw[qr,O.1];rfl))
  exact Snd.of pe (aD pe λ_=>rfl) (λ_ _ _ z=>by cases z) rfl
 |mt m o as iho ih =>
  intro X S E ok e h nd;obtain⟨v,ap,es,pos,rfl,B,h⟩:=DT h;have h0:=yA h;have Z:=yA h0.2;have J:=yA Z.2;have O:=yA J.2;have po:=(iho ok O.1 nd.1).pe;have pa:=(ih ok O.2 nd.2).pa _ pos rfl;have st:=DE as O.2;obtain⟨id,pat,sl,ty,mr⟩:=Ge (X:=X) ok.un m;have pe:PE X (.Call (.Attribute v m.nm ap) es [] pos) (wp X.K G.ev (.mt m o as) E).e:=by
   cases es with
   |nil =>
    refine SE (x9 (apos:=ap) (cpos:=pos) pat sl ty mr po (pY Z.1) B) λA H Q q=>?_;have e:(λ(x:V) (W:Hp)=>HS X.K m.ty x W/\x5 X.K m x [] W Q)=λ(x:V) (W:Hp)=>HS X.K m.ty x W/\(wp X.K G.ev as E).a A W λvs H2=>x5 X.K m x vs H2 Q:=by funext x W;rw[propext (iQ as h0.1 O.2)]
    show(wp X.K G.ev o E).e A H (λ(x:V) (W:Hp)=>HS X.K m.ty x W/\x5 X.K m x [] W Q);rw[e];exact q
   |cons e1 es1=>have s2:=yA st;refine ue (apos:=ap) (cpos:=pos) pat sl ty mr po pa (pY Z.1) ?_ B (FA _ s2.1) (FE s2.2);rw[ZQ st];have hl':(e1::es1).length<20:=of_decide_eq_true J.1;show(true&&true&&decide ((e1::es1).length+0+0<30))=true;rw[dT (Qp hl' (by decide:20<=30):(e1::es1).length+0+0<30)];rfl
  exact Snd.of pe (aD pe λ_=>rfl) (λ_ _ _ z=>by cases z) rfl
 |slc a lo hi Y ihl ihh =>
  intro X S E ok e h nd;obtain⟨v,sl,pos,rfl,h⟩:=iJ h;obtain⟨l,u,st,p2,rfl,h⟩:=mV h;have Z:=yA h;have B:=yA Z.2;have J:=yA B.2;have part:∀(q:PX) (w:Option Expr),(∀{e:Expr},DB q S e=true->PE X e (wp X.K G.ev q E).e)->re w (isNop q) (λe=>!isNop q&&DB q S e)=true ->
    PO X w (λA H R=>(if isNop q=true then λ(R:Option Int->Hp->Prop)=>R none H else λR=>(wp X.K G.ev q E).e A H λl H2=>lK l H2 R) R):=by
   intro q w ihq hq;cases w with
   |none=>have e:isNop q=true:=hq;simp only[e,if_true];exact u3|some e' =>
    have q1:=yA hq;have e:isNop q=false:=(Q7 _).mp q1.1;simp only[e,qY,if_false];intro M s A H Q I w;refine x3 (ihq q1.2) M s A H Q I ?_;show(wp X.K G.ev q E).e A H (λ(x:V) (W:Hp)=>∃i,x=.int i/\Q (some i) W);have e2:(λ(x:V) (W:Hp)=>∃i,x=.int i/\Q (some i) W)=λ(x:V) (W:Hp)=>lK x W Q:=by funext x W;exact(OX x W Q).symm
    rw[e2];exact w
  cases Option.isNone_iff_eq_none.mp Z.1;exact Snd.lit (BX (pos:=pos) (p2:=p2) t8 (Y ok B.1 nd.1).pe (part lo l (λhc=>(ihl ok hc nd.2.1).pe) J.1) (part hi u (λhc=>(ihh ok hc nd.2.2).pe) J.2)) rfl (λ_ _ _ z=>by cases z) rfl
 |comp mask tgs tg d its cond elt ihi ihc ihe =>
  intro X S E ok e h nd;obtain⟨e,gens,scope,pos,rfl,h⟩:=nR h;obtain⟨⟨t,it,ifs,asy⟩,rfl,h⟩:=sB h;have h0:=yA h;have hi:=yA h0.2;have Z:=yA hi.2;have B:=yA Z.2;have J:=yA B.2;have O:=yA J.2;have h5:=yA O.2;have ea:asy=0:=qh h0.1;cases ea;have C:CompSt X.N X.env.scope scope tgs mask:=by rw[ok.N,ok.sc];exact fQ Z.1
  obtain⟨n1,n2,n3,n4⟩:=nd;have pi:PI X t it (LQ λA H R=>(wp X.K G.ev its E).a A H λvs W=>dC X.K d vs W R):=dR ok O.1 n1 ((Q7 _).mp hi.1) λes p q=>ihi ok q n2;refine Snd.lit (M3 (pos:=pos) (g:=VE X.K tg) (tc:=if isNop cond=true then λ_ H Q=>Q true H else(wp X.K G.ev cond (λ_ _ _=>False)).t) (te:=(wp X.K G.ev elt (λ_ _ _=>False)).e) ok.calm pi C (λs H ex=>?_) (λx=>eR J.1 x)) rfl (λ_ _ _ z=>by cases z) rfl;have okc:=ok.comp scope tgs mask s H ex;refine⟨eT okc (λz=>(QD z).elim) C.nd B.1,?_,(ihe okc h5.2 n4).pe⟩;have hif:=h5.1;cases ifs with|nil=>have e:isNop cond=true:=hif;simp only[e,if_true];exact aT|cons c r=>have q1:=yA hif;have q2:=yA q1.2;cases Qt.mp q1.1;have e:isNop cond=false:=(Q7 _).mp q2.1;simp only[e,qY,if_false];exact rT (ihc okc q2.2 n3).pt
end
end L2.L3
namespace L2.L3
open PySem PySem.Spec PyProof.Rows
section
variable{s:Stmt}{f:Expr->List Stmt->List Stmt->Bool}
set_option genSizeOf false in
set_option genInjectivity false in
inductive PT where
 |nil|seq (s r:PT)
 |set (i:Nat) (e:PX)
 |expr (e:PX)|ret (e:PX)
 |ife (c:PX) (a b:PT)
 |for_ (tg:Tg) (ik:ItK) (its:PX) (body:PT)
 |own (i:Nat) (e:PX)|tset (is:List Nat) (e:PX)|six (o i e:PX)|sdf (i:Nat) (k:PX)|whl (c:PX) (body:PT)|frz (is:List Nat) (s:PT)|hs (s:PT)
def NO(K:QC):V->V->V->Hp->(Hp->Prop)->Prop:=λo i v H Q=>match o,i with
 | .ref p,.int k=>∃h j,H p=some (.lst h)/\HP h.length k=some j/\Q (DA H p (.lst (h.set j v)))|.ref p,.str z=>kc K H p (.str z) v Q|.ref p,.ref b=>kc K H p (.ref b) v Q|_,_=>False
def Cd(i:Nat)(k:PX):PX:=.mt .setd (.var i) (.nq k (.nq (.dnew true) .nr))
def vk(J:It)(g:TG)(v:TS)(D:Ends)(σ:St)(k:Hp):Prop:=∃W:Nat->Nat->St->Hp->Prop,(∃m,W 0 m σ k)/\∀i m σ H,W i m σ H ->
 (J.stop i H/\D.nx σ H)∨(J.go i H/\∃N:St->Hp->Prop,(∀h y,N h y->∃u,u < m/\W (i+1) u h y)/\∀x y,J.yld i H x y->g x σ y λz w=>v { D with nx:=N,ct:=N,bk:=D.nx } z w)
def K6(K:QC)(xs:List Item)(st:Hp->Prop)(h:Tg)(x:TS)(D:Ends)(σ:St)(H:Hp):Prop:=∀J,Yields J xs st->vk J (VE K h) x D σ H
noncomputable def pL(K:QC)(Γ:Ev)(E:XK):PT->TS
 | .nil=>λD h H=>D.nx h H|.seq s r=>λD h H=>pL K Γ E s { D with nx:=λh H=>pL K Γ E r D h H } h H|.set i e=>λD h H=>(wp K Γ e E).e h H λx y=>D.nx (h.set i (some x)) y|.own i e=>λD h H=>(wp K Γ e E).e h H λx y=>D.nx (h.set i (some x)) y|.expr e=>λD h H=>(wp K Γ e E).e h H λ_ y=>D.nx h y|.ret e=>λD h H=>(wp K Γ e E).e h H D.rt|.ife c a b=>λD h H=>(wp K Γ c E).t h H λk y=>if k=true then pL K Γ E a D h y else pL K Γ E b D h y|.for_ l q u z=>λD h H=>(wp K Γ u E).a h H λj y=>dC K q j y λg st w=>K6 K g st l (pL K Γ E z) D h w|.tset p e=>λD h H=>(wp K Γ e E).e h H λx y=>VE K (.tp p) x h y D.nx|.six o i e=>λD h H=>(wp K Γ e E).e h H λv y=>(wp K Γ o E).e h y λm w=>(wp K Γ i E).e h w λn Y=>NO K m n v Y λX=>D.nx h X|.sdf i k=>λD h H=>(wp K Γ (Cd i k) E).e h H λ_ y=>D.nx h y|.whl c z=>GW (wp K Γ c E).t (pL K Γ E z)|.frz _ s=>pL K Γ E s|.hs s=>pL K Γ E s
noncomputable def uE(G:Glob):PT->Prop
 | .nil=>True|.seq s r=>uE G s/\uE G r|.set _ e=>HA G e|.own _ e=>HA G e|.tset _ e=>HA G e|.six o i e=>HA G o/\HA G i/\HA G e|.sdf i k=>HA G (Cd i k)|.whl c h=>HA G c/\uE G h|.frz _ s=>uE G s|.hs s=>uE G s|.expr e=>HA G e|.ret e=>HA G e|.ife c a b=>HA G c/\uE G a/\uE G b|.for_ _ y x h=>zf G y/\HA G x/\uE G h
def DF:Expr->Bool
 | .ListComp _ _ _ _ | .SetComp _ _ _ _ | .DictComp _ _ _ _ _=>false
 |_=>true
def RM(S:SC)(i:Nat)(x:Str):Bool:=S.N[i]?==some x&&(S.sc.names.lookup x==some .local||S.sc.names.lookup x==some .cell)
def PP:PT->Bool
 | .nil=>false|.seq _ _=>false|.frz _ s=>PP s|.hs s=>PP s|_=>true
def lP(s:Stmt)(f:List Expr->Expr->Bool):Bool:=match s with | .Assign h v _=>f h v|_=>false
def n9(s:Stmt)(f:Expr->Bool):Bool:=match s with | .Expr v _=>f v|_=>false
def z7(s:Stmt)(f:Option Expr->Bool):Bool:=match s with | .Return v _=>f v|_=>false
def k7(s:Stmt)(f:Expr->List Stmt->List Stmt->Bool):Bool:=match s with | .If t x y _=>f t x y|_=>false
def v7(s:Stmt)(f:Expr->Expr->List Stmt->List Stmt->Pos->Bool):Bool:=match s with | .For t it x y p=>f t it x y p|_=>false
def oe(s:Stmt)(f:Expr->List Stmt->List Stmt->Bool):Bool:=match s with | .While t x y _=>f t x y|_=>false
def Ke:Expr->Bool
 | .Tuple _ _ _=>false|.List _ _=>false|_=>true
theorem JJ{f:List Expr->Expr->Bool}(h:lP s f=true):∃ts v p,s=.Assign ts v p/\f ts v=true:=by
 cases s with|Assign ts v p=>exact⟨ts,v,p,rfl,h⟩|_=>exact(QD h).elim
theorem yY{f:Expr->Bool}(h:n9 s f=true):∃v p,s=.Expr v p/\f v=true:=by
 cases s with|Expr v p=>exact⟨v,p,rfl,h⟩|_=>exact(QD h).elim
theorem z4{f:Option Expr->Bool}(h:z7 s f=true):∃v p,s=.Return v p/\f v=true:=by
 cases s with|Return v p=>exact⟨v,p,rfl,h⟩|_=>exact(QD h).elim
theorem k4(h:k7 s f=true):∃t x y p,s=.If t x y p/\f t x y=true:=by
 cases s with|If t x y p=>exact⟨t,x,y,p,rfl,h⟩|_=>exact(QD h).elim
theorem v4{f:Expr->Expr->List Stmt->List Stmt->Pos->Bool}(h:v7 s f=true):∃t it x y p,s=.For t it x y p/\f t it x y p=true:=by
 cases s with|For t it x y p=>exact⟨t,it,x,y,p,rfl,h⟩|_=>exact(QD h).elim
theorem g9(h:oe s f=true):∃t x y p,s=.While t x y p/\f t x y=true:=by
 cases s with|While t x y p=>exact⟨t,x,y,p,rfl,h⟩|_=>exact(QD h).elim
def setB(S:SC)(i:Nat)(c:Expr->Bool)(l:List Stmt):Bool:=dJ l λst=>lP st λh v=>dJ h λt=>BF t λx _=>RM S i x&&((DF v||S.sc.names.lookup x==some .cell)&&c v)
def t7:PX->Bool
 | .comp _ _ _ _ _ _ _=>true|_=>false
noncomputable def zT(S:SC)(i:Nat)(e:PX)(l:List Stmt):Bool:=dJ l λst=>lP st λy v=>dJ y λt=>BF t λx z=>m9 v λw u sc h=>R9 S i x&&(S.sc.kind==.function&&(z.line==h.line&&(!(sc.names.any λ(n,k)=>n==x&&(k==.local||k==.cell))&&(t7 e&&DB e S (.ListComp w u sc h)))))
noncomputable def UL:PT->SC->List Stmt->Bool
 | .nil,_,l=>l.isEmpty|.seq s r,S,l=>u4 l λst l=>PP s&&(UL s S [st]&&UL r S l)|.set i e,S,l=>setB S i (DB e S) l||zT S i e l
 | .own i e,S,l=>setB S i (DB e S) l||zT S i e l
 | .frz _ s,S,l=>UL s S l|.hs s,S,l=>UL s S l|.expr e,S,l=>dJ l λst=>n9 st λv=>DF v&&DB e S v|.ret e,S,l=>dJ l λst=>z7 st λv=>re v false (DB e S)|.ife c a b,S,l=>dJ l λst=>k7 st λt x y=>DB c S t&&(UL a S x&&UL b S y)|.for_ tg ik its body,S,l=>dJ l λst=>v7 st λt it x y z=>y.isEmpty&&(eh true S tg t&&(sP it&&(Zh (zF its) S ik (λg p=>DB its S (.List g p)) t it z&&UL body S x)))|.tset is e,S,l=>dJ l λst=>lP st λh v=>dJ h λt=>Ke v&&(DF v&&(FN t&&(eh true S (.tp is) t&&DB e S v)))|.six o i e,S,l=>dJ l λst=>lP st λh v=>dJ h λt=>bP t λw u _=>YJ u&&(DF v&&(DB e S v&&(DB o S w&&DB i S u)))|.sdf i k,S,l=>dJ l λst=>n9 st λv=>DF v&&DB (Cd i k) S v|.whl c body,S,l=>dJ l λst=>oe st λt x y=>y.isEmpty&&(DB c S t&&UL body S x)
structure OkS(X:Cx)(S:SC)(G:Glob)(E:XK):Prop extends OkX X S G E where
 po:PassesOwn (model X.prog X.w) X.A X.env X.xe
 nd:X.N.Nodup
 cel:∀x,X.fn x=true
end
section
variable{X:Cx}{S:SC}{G:Glob}{E:XK}
section
variable{i:Nat}{x:Str}{e:PX}
theorem pK{e:Expr}{t:Option Expr}{n:Nat}{env:Env}(h:DF e=true):swapsWith e t n env=pure false:=by cases e<;>first|rfl|cases h
theorem zX(n:X.A.units+66<cLine):J6 X (NO X.K):=by
 intro y s w H o i v l m u Q I f g a h;cases o with
 |ref p =>
  cases i with|int k=>obtain⟨r,j,Z,Y,q⟩:=h;exact xX y s w H _ _ v l m u Q I f g a ⟨p,r,k,j,rfl,rfl,Z,Y,q⟩|str z=>exact MO n y s w H _ _ v l m u Q I f g a h|ref b=>exact MO n y s w H _ _ v l m u Q I f g a h|_=>exact Qb h
 |_=>exact Qb h
theorem FU(ok:OkX X S G E)(h:RM S i x=true):X.N[i]?=some x/\Zc X.env.scope x:=by simp only[RM,Qg,wV,beq_iff_eq]at h;rw[ok.N,ok.sc];exact⟨h.1,h.2⟩
theorem vV(ok:OkS X S G E){v:Expr}{w pos:Pos}(j:RM S i x=true)(a:(DF v||S.sc.names.lookup x==some .cell)=true)(pe:PE X v (wp X.K G.ev e E).e) :
  PS X (.Assign [.Name x w] v pos) (pL X.K G.ev E (.set i e)):=by
 obtain⟨m,l⟩:=FU ok.toOkX j;refine L8 (pos':=w) ok.nd m l pe ?_ (.inl (ok.cel x));cases u:DF v with
 |true=>exact pK u|false =>
  rw[u,QBY,beq_iff_eq,<- ok.sc]at a;have hk:X.env.kindOf x=some .cell:=a;have h:∀(b c:Bool) (z y:Nat),(pure (b&&X.env.kindOf x==some .local&&z==y&&!c):Sem Bool)=pure false:=λb c z y=>by
   rw[hk];have:(b&&(some NameKind.cell==some NameKind.local)&&z==y&&!c)=false:=by cases b<;>rfl
   rw[this]
  cases v with|ListComp n f sc g=>exact h _ _ _ _|SetComp n f sc g=>exact h _ _ _ _|DictComp k v f sc g=>exact h _ _ _ _|_=>cases u
theorem D5(h:t7 e=true):∃a b c d f g k,e=.comp a b c d f g k:=by
 cases e with|comp a b c d f g k=>exact⟨a,b,c,d,f,g,k,rfl⟩|_=>exact(QD h).elim
theorem O8(ok:OkS X S G E){l:List Stmt}(h:zT S i e l=true)(nd:HA G e):∃st,l=[st]/\PS X st (pL X.K G.ev E (.set i e)):=by
 obtain⟨st,e1,q1⟩:=sB h;obtain⟨ts,v,p,e2,q2⟩:=JJ q1;obtain⟨t,e3,q3⟩:=sB q2;obtain⟨x,px,e4,q4⟩:=YD q3;obtain⟨el,gs,sc,cp,e5,q5⟩:=nR q4;subst e1 e2 e3 e4 e5;have L:=yA q5;have J:=yA L.2;have I:=yA J.2;have F:=yA I.2;have B:=yA F.2;obtain⟨u,a,tg,ik,o,y,j,rfl⟩:=D5 B.1;refine⟨_,rfl,?_⟩;have h6:=B.2;obtain⟨el',O,m,pos,ee,g⟩:=nR h6;cases ee;obtain⟨⟨t,it,Y,Z⟩,rfl,g⟩:=sB g;have g0:=yA g;have M:=yA g0.2;have g1:=yA M.2;have g2:=yA g1.2;have g3:=yA g2.2;have R:=yA g3.2;have P:=yA R.2;have ea:Z=0:=qh g0.1;cases ea;have C:CompSt X.N X.env.scope sc a u:=by rw[ok.N,ok.sc];exact fQ g1.1
 obtain⟨n1,n2,n3,n4⟩:=nd;obtain⟨l1,l2⟩:=c5 L.1;have b:X.env.scope.names.lookup x=some .local:=by rw[ok.sc];exact l2
 refine v3 (g:=VE X.K tg) (tc:=if isNop y=true then λ_ H Q=>Q true H else(wp X.K G.ev y (λ_ _ _=>False)).t) (te:=(wp X.K G.ev j (λ_ _ _=>False)).e) ok.calm ok.nd (by rw[ok.N];exact l1) b (dR ok.toOkX (pos:=cp) R.1 n1 ((Q7 _).mp M.1) λes p q=>snd o ok.toOkX q n2) C (λs H ex=>?_) (λx=>eR g3.1 x) ?_;have w:=ok.toOkX.comp sc a u s H ex;refine⟨eT w (λz=>(QD z).elim) C.nd g2.1,?_,(snd j w P.2 n4).pe⟩;have f:=P.1;cases Y with|nil=>have e:isNop y=true:=f;simp only[e,if_true];exact aT|cons c r=>have A:=yA f;have W:=yA A.2;cases Qt.mp A.1;have e:isNop y=false:=(Q7 _).mp W.1;simp only[e,qY,if_false];exact rT (snd y w W.2 n3).pt
 have k1:X.env.scope.kind=.function:=by rw[ok.sc];exact qh J.1
 have k2:(X.env.blockKind==.function)=true:=by simp[Env.blockKind,k1,ScopeKind.isAnnotationScope]
 have k3:(X.env.kindOf x==some .local)=true:=by show(X.env.scope.names.lookup x==some .local)=true;rw[b];rfl
 show(pure (X.env.blockKind==.function&&X.env.kindOf x==some .local&&px.line==cp.line&&!(sc.names.any λ(n,k)=>n==x&&(k==.local||k==.cell))):Sem Bool)=pure true;rw[k2,k3,I.1,F.1];rfl
theorem ui:∀(p:PT) {l:List Stmt},OkS X S G E->UL p S l=true->uE G p->KS X l (pL X.K G.ev E p)/\(PP p=true->∀st,l=[st]->PS X st (pL X.K G.ev E p)):=by
 intro p;have one:∀{p:PT}{st:Stmt},PS X st (pL X.K G.ev E p)->KS X [st] (pL X.K G.ev E p)/\(PP p=true->∀j,[st]=[j]->PS X j (pL X.K G.ev E p)):=λh=>⟨j3 h,λ_ j e=>by cases e;exact h⟩
 have f:∀{i:Nat}{e:PX}{l:List Stmt},OkS X S G E->(setB S i (DB e S) l||zT S i e l)=true->HA G e->∃st,l=[st]/\PS X st (pL X.K G.ev E (.set i e)):=λ{i e l} ok h nd=>by
  rcases(wV _ _).mp h with h|h
  rotate_left
  exact O8 ok h nd;obtain⟨st,B,Y⟩:=sB h;obtain⟨P,v,p,A,n⟩:=JJ Y;obtain⟨t,W,q3⟩:=sB n;obtain⟨x,px,O,F⟩:=YD q3;subst B A W O;have z:=yA F;have u:=yA z.2;exact⟨_,rfl,vV ok z.1 u.1 (snd e ok.toOkX u.2 nd).pe⟩
 induction p with
 |nil=>intro l ok h nd;cases Qt.mp h;exact⟨y3,λh=>(QD h).elim⟩|seq s r J L=>intro l ok h nd;obtain⟨st,l,rfl,h⟩:=AI h;have z:=yA h;have u:=yA z.2;exact⟨aX ((J ok u.1 nd.1).2 z.1 st rfl) (L ok u.2 nd.2).1,λh=>(QD h).elim⟩|set i e=>intro l ok h nd;obtain⟨st,rfl,q⟩:=f ok h nd;exact one q|own i e=>intro l ok h nd;obtain⟨st,rfl,q⟩:=f ok h nd;exact one q|expr e=>intro l ok h nd;obtain⟨st,rfl,h⟩:=sB h;obtain⟨v,p,rfl,h⟩:=yY h;have z:=yA h;exact one (mT (snd e ok.toOkX z.2 nd).pe (pK z.1))|ret e =>
  intro l ok h nd;obtain⟨st,rfl,h⟩:=sB h;obtain⟨v,p,rfl,h⟩:=z4 h;cases v with|none=>exact(QD h).elim|some v=>exact one (M8 (snd e ok.toOkX h nd).pe)
 |ife c a b N M=>intro l ok h nd;obtain⟨st,rfl,h⟩:=sB h;obtain⟨t,x,y,p,rfl,h⟩:=k4 h;have z:=yA h;have u:=yA z.2;exact one (ze (snd c ok.toOkX z.1 nd.1).pt (N ok u.1 nd.2.1).1 (M ok u.2 nd.2.2).1)|for_ tg ik I C m=>intro l ok h nd;obtain⟨st,rfl,h⟩:=sB h;obtain⟨t,it,x,y,p,rfl,h⟩:=v4 h;have H:=yA h;have z:=yA H.2;have u:=yA z.2;have g:=yA u.2;cases Qt.mp H.1;exact one (N8 ok.po ok.calm (Y3 ok.toOkX g.1 nd.1 λes p q=>snd I ok.toOkX q nd.2.1) (eT ok.toOkX (λ_=>ok.cel) ok.nd z.1) (m ok g.2 nd.2.2).1 λx=>eR u.1 x)|tset is e =>
  intro l ok h nd;obtain⟨st,B,Y⟩:=sB h;obtain⟨P,v,p,A,n⟩:=JJ Y;obtain⟨t,W,h⟩:=sB n;subst B A W;have z:=yA h;have u:=yA z.2;have g:=yA u.2;have Z:=yA g.2;cases t with
  |Tuple es k pt =>
   refine one (iX (snd e ok.toOkX Z.2 nd).pe (eT ok.toOkX (λ_=>ok.cel) ok.nd Z.1) ?_ ?_ ?_);show swapsWith v (some (.Tuple es k pt)) p.line X.env=pure false;exact pK u.1;cases v<;>first|rfl|exact(QD z.1).elim
   rfl
  |_=>exact(QD g.1).elim
 |six o i e =>
  intro l ok h nd;obtain⟨st,B,Y⟩:=sB h;obtain⟨P,v,p,A,n⟩:=JJ Y;obtain⟨t,W,h⟩:=sB n;subst B A W;obtain⟨ov,R,Q,O,F⟩:=iJ h;subst O;have z:=yA F;have u:=yA z.2;have g:=yA u.2;have Z:=yA g.2;refine one (iX (snd e ok.toOkX g.1 nd.2.2).pe (E8 (pos:=Q) (snd o ok.toOkX Z.1 nd.1).pe (snd i ok.toOkX Z.2 nd.2.1).pe (zX ok.un) ?_) ?_ ?_ ?_);intro w;cases R<;>first|rfl|exact(QD z.1).elim
  show swapsWith v (some (.Subscript ov R Q)) p.line X.env=pure false;exact pK u.1;cases v<;>rfl;rfl
 |sdf i k=>intro l ok h nd;obtain⟨st,rfl,h⟩:=sB h;obtain⟨v,p,rfl,h⟩:=yY h;have z:=yA h;exact one (mT (snd (Cd i k) ok.toOkX z.2 nd).pe (pK z.1))|whl c C m=>intro l ok h nd;obtain⟨st,rfl,h⟩:=sB h;obtain⟨t,x,y,p,rfl,h⟩:=g9 h;have z:=yA h;have u:=yA z.2;cases Qt.mp z.1;exact one (eX ok.po (snd c ok.toOkX u.1 nd.1).pt (m ok u.2 nd.2).1)|frz is s m=>intro l ok h nd;exact m ok h nd|hs s m=>intro l ok h nd;exact m ok h nd
end
end
noncomputable abbrev D:=PyData
set_option genInjectivity true in
inductive T where
 |d (x:D)|lst (ts:List T)|tup (ts:List T)|dct (b:Bool) (ks:List D) (ts:List T)
mutual
def T.er:T->D
 | .d x=>x|.lst h=>.list (ersT h)|.tup h=>.tuple (ersT h)|.dct _ y h=>.dict (y.zip (ersT h))
def ersT:List T->List D
 |[]=>[]|t::r=>t.er::ersT r
end
theorem KA(ds:List D):ersT (ds.map T.d)=ds:=by
 induction ds with|nil=>rfl|cons d r h=>simp only[QO,ersT,h,T.er]
theorem oZ:∀(ts:List T),(ersT ts).length=ts.length
 |[]=>rfl|t::r=>by simp only[ersT,QM,oZ r]
theorem SN:∀(ts:List T),ersT ts=ts.map T.er
 |[]=>rfl|t::r=>by simp only[ersT,QO,SN r]
def T.isD:T->Bool
 | .d _=>true|_=>false
set_option genInjectivity true in
inductive Sl where
 |own (t:T)|nv (t:T)
noncomputable abbrev zA:=List (Option Sl)
def bH(t:T)(n:Bool):Bool:=n||t.isD
def uA(t:T):Bool->T
 |true=>.d t.er|false=>t
theorem oA(x:D)(n:Bool):uA (.d x) n=.d x:=by cases n<;>rfl
theorem kU(t:T)(n:Bool):(uA t n).er=t.er:=by cases n<;>rfl
def nE:List T->Option (List D)
 |[]=>some []|.d x::r=>(nE r).map (x::·)|_::_=>none
theorem iA(ds:List D):nE (ds.map T.d)=some ds:=by
 induction ds with|nil=>rfl|cons d r h=>simp only[QO,nE,h,qC]
theorem OJ:∀{ts:List T}{ds:List D},nE ts=some ds->ts=ds.map T.d
 |[],ds,h=>by simp only[nE,Qq]at h;subst h;rfl|.d x::r,ds,h=>by
  simp only[nE]at h;cases e:nE r with|none=>rw[e]at h;cases h|some y=>rw[e]at h;cases h;rw[QO,OJ e]
 | .lst _::_,_,h=>by simp[nE]at h|.tup _::_,_,h=>by simp[nE]at h|.dct _ _ _::_,_,h=>by simp[nE]at h
def PC:List (D×D)->Option Bool
 | (.tuple _,_)::_=>some true|(.str _,_)::_=>some false|_=>none
def pF:Bool->D->Prop
 |true,k=>∃q,k=tD q|false,k=>∃z,k=.str z
open Classical in
def lA:List D->D->Option Nat
 |[],_=>none|x::r,k=>if x=k then some 0 else(lA r k).map (·+1)
def uR(b:Bool)(ks:List D)(ts:List T)(k:D)(t:T):T:=match lA ks k with
 |some n=>.dct b ks (ts.set n t)|none=>.dct b (ks++[k]) (ts++[t])
theorem ZE:∀{ks:List D}{k:D}{n:Nat},lA ks k=some n->ks[n]?=some k
 |[],_,_,h=>by cases h|x::r,k,n,h=>by
  unfold lA at h;by_cases e:x=k;rw[if_pos e]at h;cases h;rw[e];rfl;rw[if_neg e]at h;cases q:lA r k with|none=>rw[q]at h;cases h|some m=>rw[q]at h;cases h;simpa using ZE q
theorem iC:∀{ks:List D}{k:D},lA ks k=none↔k∉ks
 |[],_=>by simp[lA]|x::r,k=>by unfold lA;by_cases e:x=k;simp[e];rw[if_neg e,Option.map_eq_none_iff,iC];simp[Q1 e]
theorem HK{ks:List D}{k:D}:(lA ks k).isSome=true↔k∈ks:=by
 cases h:lA ks k with|none=>simp[iC.mp h]|some n=>simp[Q9 (ZE h)]
set_option genInjectivity true in
inductive Vw where
 |sc (x:D)|ls (ts:List T)|tp (ts:List T)|dc (b:Bool) (ks:List D) (ts:List T)
def UB(kvs:List (D×D)):Vw:=match PC kvs with
 |some b=>.dc b (kvs.map (·.1)) (kvs.map λp=>T.d p.2)|none=>.sc (.dict kvs)
noncomputable def T.vw:T->Vw
 | .lst h=>.ls h|.tup h=>.tp h|.dct b u h=>.dc b u h|.d x=>match x with
  | .list z=>.ls (z.map T.d)|.tuple z=>.tp (z.map T.d)|.dict y=>UB y|.none=>.sc .none|.bool b=>.sc (.bool b)|.int i=>.sc (.int i)|.str s=>.sc (.str s)
def FF(ts:List T):T:=match nE ts with
 |some h=>.d (.tuple h)|none=>.tup ts
noncomputable abbrev XD:=Value×List (Str×D)
noncomputable abbrev XE:=XD->Prop
noncomputable abbrev TK:=T->Bool->zA->Prop
inductive Md where
 |ny|kq|nv|chg
 deriving DecidableEq
structure PSp where
 md:List Md
 run:List T->(T->List T->Prop)->XE->Prop
 mono:∀{ts:List T}{Q Q':T->List T->Prop}{E E':XE},(∀t os,Q t os->Q' t os)->(∀x,E x->E' x)->run ts Q E->run ts Q' E'
structure PEv where
 sp:Str->PSp
 va:Str->Option D
def binT(w:Operator)(x y:Vw)(Q:T->Bool->Prop):Prop:=match w with
 | .Add=>(∃i j,x=.sc (.int i)/\y=.sc (.int j)/\Q (.d (.int (i+j))) false)∨(∃a b,x=.sc (.str a)/\y=.sc (.str b)/\a.length+b.length<=sizeLine/\Q (.d (.str (a++b))) false) ∨
  (∃v u z h,x=.ls v/\y=.ls u/\nE v=some z/\nE u=some h/\z.length+h.length<=sizeLine/\Q (.lst ((z++h).map T.d)) true) ∨
  (∃v u z h,x=.tp v/\y=.tp u/\nE v=some z/\nE u=some h/\z≠[]/\h≠[]/\z.length+h.length<=sizeLine/\Q (.d (.tuple (z++h))) false)
 | .Sub=>∃i j,x=.sc (.int i)/\y=.sc (.int j)/\Q (.d (.int (i - j))) false|.Mult=>(∃i j,x=.sc (.int i)/\y=.sc (.int j)/\IntMulOk i j/\Q (.d (.int (i * j))) false)∨(∃a k,x=.sc (.str a)/\y=.sc (.int k)/\(-(2 ^ 31)<=k/\k<2 ^ 31/\a.length * k.toNat<=sizeLine)/\Q (.d (.str (eG a k))) false)|.FloorDiv=>∃i j,x=.sc (.int i)/\y=.sc (.int j)/\(0<j/\j<2 ^ 200)/\Q (.d (.int (i / j))) false|.Mod=>∃i j,x=.sc (.int i)/\y=.sc (.int j)/\0<j/\Q (.d (.int (i % j))) false|_=>False
section
variable{Q:T->Bool->Prop}
theorem Xb(i j:Int):binT .Add (.sc (.int i)) (.sc (.int j)) Q=Q (.d (.int (i+j))) false:=by simp[binT]
theorem Vb(xs h:List T):binT .Add (.ls xs) (.ls h) Q=∃ds es,nE xs=some ds/\nE h=some es/\ds.length+es.length<=sizeLine/\Q (.lst ((ds++es).map T.d)) true:=by simp[binT]
theorem Kb(i j:Int):binT .Sub (.sc (.int i)) (.sc (.int j)) Q=Q (.d (.int (i - j))) false:=by simp[binT]
theorem Yb(i j:Int):binT .Mult (.sc (.int i)) (.sc (.int j)) Q=(IntMulOk i j/\Q (.d (.int (i * j))) false):=by simp[binT]
theorem Jb(a:Str)(k:Int):binT .Mult (.sc (.str a)) (.sc (.int k)) Q=((-(2 ^ 31)<=k/\k<2 ^ 31/\a.length * k.toNat<=sizeLine)/\Q (.d (.str (eG a k))) false):=by simp[binT]
theorem gb(i j:Int):binT .FloorDiv (.sc (.int i)) (.sc (.int j)) Q=((0<j/\j<2 ^ 200)/\Q (.d (.int (i / j))) false):=by simp[binT]
theorem db(i j:Int):binT .Mod (.sc (.int i)) (.sc (.int j)) Q=(0<j/\Q (.d (.int (i % j))) false):=by simp[binT]
end
section
variable{Q:T->Prop}
def Uh:D->D->(Bool->Prop)->Prop
 | .int i,.int j,Q=>Q (decide (i=j))|.str x,.str y,Q=>Q (decide (x=y))|.bool x,.bool y,Q=>Q (decide (x=y))|a,b,Q=>eE a/\eE b/\Q (Qz a b)
def tB:D->Bool
 | .none | .bool _ | .int _ | .str _=>true
 |_=>false
noncomputable def Kh:D->D->(Bool->Prop)->Prop
 | .str x,.str y,Q=>Q (inStr y x)|a,.list ds,Q|a,.tuple ds,Q=>((tB a=true/\ds.all tB=true)∨(eE a/\eE (.list ds)))/\Q (ds.any λy=>Qz y a)
 |a,.dict kvs,Q=>∃b,PC kvs=some b/\pF b a/\Q (lA (kvs.map (·.1)) a).isSome|_,_,_=>False
def fV(f:Int->Int->Bool):D->D->(Bool->Prop)->Prop
 | .int i,.int j,Q=>Q (f i j)|_,_,_=>False
def Fj(a b:D)(Q:Bool->Prop):Prop:=∃x y,a=.bool x/\b=.bool y/\Q (decide (x=y))
noncomputable def vW:CmpOp->D->D->(Bool->Prop)->Prop
 | .Eq,a,b,Q=>Uh a b Q|.NotEq,a,b,Q=>Uh a b λk=>Q (!k)|.Lt,a,b,Q=>fV (λi j=>decide (i<j)) a b Q|.LtE,a,b,Q=>fV (λi j=>decide (i<=j)) a b Q|.Gt,a,b,Q=>fV (λi j=>decide (j<i)) a b Q|.GtE,a,b,Q=>fV (λi j=>decide (j<=i)) a b Q|.In,a,b,Q=>Kh a b Q|.NotIn,a,b,Q=>Kh a b λk=>Q (!k)|.Is,a,b,Q=>Fj a b Q|_,_,_,_=>False
def v6(h:CmpOp)(x:D)(y:T)(Q:Bool->Prop):Prop:=match y with
 | .dct b u _=>pF b x/\((h=.In/\Q (lA u x).isSome)∨(h=.NotIn/\Q (!(lA u x).isSome)))|.d y=>vW h x y Q|.lst z=>vW h x (.list (ersT z)) Q|.tup z=>vW h x (.tuple (ersT z)) Q
def pH:D->(Bool->Prop)->Prop
 | .bool b,Q=>Q b|.int i,Q=>Q (i != 0)|.none,Q=>Q false|.str z,Q=>z.length<=sizeLine/\Q ((z.length:Int) != 0)|.list ds,Q=>Q (!ds.isEmpty)|.tuple ds,Q=>Q (!ds.isEmpty)|_,_=>False
def gc:D->(Bool->Prop)->Prop
 | .bool b,Q=>Q b|_,_=>False
def KL(x:Vw)(k:D)(Q:T->Prop):Prop:=∃b y h n t,x=.dc b y h/\pF b k/\lA y k=some n/\h[n]?=some t/\Q t
def lJ(x y:Vw)(Q:T->Prop):Prop:=(∃z i c,x=.sc (.str z)/\y=.sc (.int i)/\z.length<=sizeLine/\LD z.cps.toList i=some c/\Q (.d (.str ⟨#[c]⟩))) ∨
 (∃h i t,x=.ls h/\y=.sc (.int i)/\LD h i=some t/\Q t)∨(∃h i t,x=.tp h/\y=.sc (.int i)/\LD h i=some t/\Q t)
theorem Va(z:Str)(i:Int):lJ (.sc (.str z)) (.sc (.int i)) Q=(z.length<=sizeLine/\∃c,LD z.cps.toList i=some c/\Q (.d (.str ⟨#[c]⟩))):=by simp[lJ]
theorem zZ(ts:List T)(i:Int):lJ (.ls ts) (.sc (.int i)) Q=∃t,LD ts i=some t/\Q t:=by simp[lJ]
theorem MR(ts:List T)(i:Int):lJ (.tp ts) (.sc (.int i)) Q=∃t,LD ts i=some t/\Q t:=by simp[lJ]
def BD{α:Type}(xs:List α)(h x:Option Int):List α:=(xs.drop (HT.sIx xs.length 0 h)).take (HT.sIx xs.length xs.length x - HT.sIx xs.length 0 h)
def xJ(x:Vw)(u v:Option Int)(Q:T->Bool->Prop):Prop:=(∃z,x=.sc (.str z)/\z.length<=sizeLine/\Q (.d (.str (QCb z u v))) false)∨(∃y h,x=.ls y/\nE y=some h/\Q (.lst ((BD h u v).map T.d)) true) ∨
 (∃y h,x=.tp y/\nE y=some h/\¬ (HT.sIx h.length 0 u=0/\HT.sIx h.length h.length v=h.length)/\Q (.d (.tuple (BD h u v))) false)
end
section
variable{Q:T->Bool->Prop}{h x:Option Int}
theorem IW(ts:List T):xJ (.ls ts) h x Q=∃ds,nE ts=some ds/\Q (.lst ((BD ds h x).map T.d)) true:=by simp[xJ]
end
def XF:D->(Option Int->Prop)->Prop
 | .int i,Q=>Q (some i)|_,_=>False
noncomputable def isD(n:String):D->Option Bool
 | .none=>some false|.bool _=>some (n == "bool" || n == "int")
 | .int _=>some (n == "int")|.str _=>some (n == "str")|.list _=>some (n == "list")|.tuple _=>some (n == "tuple")|.dict _=>none
def dM(n:String):Bool:=n == "bool" || n == "int" || n == "str" || n == "list" || n == "tuple" || n == "ValueError"
def gB(l:List Str):D:=.list (l.map PyData.str)
def oW(f:Bi)(vs:List Vw)(Q:T->Bool->Prop):Prop:=match f with
 | .len=>(∃z,vs=[.sc (.str z)]/\z.length<=sizeLine/\Q (.d (.int z.length)) false)∨(∃h,vs=[.ls h]/\Q (.d (.int h.length)) false)∨(∃h,vs=[.tp h]/\Q (.d (.int h.length)) false)|.all=>∃h,∃bs:List Bool,vs=[.ls h]/\nE h=some (bs.map PyData.bool)/\Q (.d (.bool (bs.all id))) false|.any=>∃h,∃bs:List Bool,vs=[.ls h]/\nE h=some (bs.map PyData.bool)/\Q (.d (.bool (bs.any id))) false|.list=>∃h v,vs=[.ls h]/\nE h=some v/\Q (.lst (v.map T.d)) true|.sorted=>(∃h,∃u:List Str,vs=[.ls h]/\nE h=some (u.map PyData.str)/\u.length<64/\∀x:List Str,x.Perm u->sortedS x=true->Q (.lst ((x.map PyData.str).map T.d)) true) ∨
  (∃h,∃ls:List (List Str),vs=[.ls h]/\nE h=some (ls.map gB)/\ls.length<64/\∀y:List (List Str),y.Perm ls->Q (.lst ((y.map gB).map T.d)) true)
section
variable{Q:T->Bool->Prop}
theorem C7(ts:List T):oW .len [.ls ts] Q=Q (.d (.int ts.length)) false:=by simp[oW]
theorem Pf(ts:List T):oW .len [.tp ts] Q=Q (.d (.int ts.length)) false:=by simp[oW]
theorem Of(ts:List T):oW .any [.ls ts] Q=∃bs:List Bool,nE ts=some (bs.map PyData.bool)/\Q (.d (.bool (bs.any id))) false:=by simp[oW]
theorem Nf(ts:List T):oW .list [.ls ts] Q=∃ds,nE ts=some ds/\Q (.lst (ds.map T.d)) true:=by simp[oW]
end
def j6(x:Vw)(Q:T->Bool->Prop):Prop:=∃h,∃nd:List (Str×D),x=.ls h/\nE h=some (nd.map λp=>PyData.tuple [.str p.1,p.2])/\nd≠[]/\(nd.map λp=>p.1).Nodup/\Q (.dct false (nd.map λp=>.str p.1) ((nd.map λp=>p.2).map T.d)) true
def GT(x:Vw)(Q:T->Bool->Prop):Prop:=∃z,∃y:List Str,x=.ls z/\nE z=some (y.map PyData.str)/\y.length<4000/\∀h:List Str,h.Nodup->(∀s,s∈h↔s∈y)->Q (.d (.int h.length)) false
def ES(x:Vw)(Q:T->Bool->Prop):Prop:=∃z,∃y:List Str,x=.ls z/\nE z=some (y.map PyData.str)/\y.length<64/\∀h:List Str,h.Nodup->(∀s,s∈h↔s∈y)->sortedS h=true->Q (.lst ((h.map PyData.str).map T.d)) true
def bc(m:Mt)(x:Vw)(vs:List Vw)(Q:T->Bool->Prop):Prop:=match m with
 | .join=>∃z y,∃h:List Str,x=.sc (.str z)/\vs=[.ls y]/\nE y=some (h.map PyData.str)/\(h.map (·.length)).sum+h.length * z.length<=16777216/\Q (.d (.str (QAJ z h))) false|_=>False
theorem He{Q:T->Bool->Prop}(z:Str)(ts:List T):bc .join (.sc (.str z)) [.ls ts] Q=∃h:List Str,nE ts=some (h.map PyData.str)/\(h.map (·.length)).sum+h.length * z.length<=16777216/\Q (.d (.str (QAJ z h))) false:=by simp[bc]
def Vw.isS:Vw->Bool
 | .sc (.str _)=>true|_=>false
def isMut:Mt->Bool
 | .append=>true|.pop=>true|.setd=>true|.reverse=>true|.join=>false
def KR(m:Mt)(x:Vw):Bool:=x.isS&&!isMut m
def eK(m:Mt)(s:T)(us:List T)(N:T->T->Prop):Prop:=match m with
 | .append=>∃h t,s=.lst h/\us=[t]/\h.length<sizeLine/\N (.d .none) (.lst (h++[t]))|.pop=>∃h i k t,s=.lst h/\us=[.d (.int i)]/\HP h.length i=some k/\h[k]?=some t/\N t (.lst (h.eraseIdx k))|.reverse=>∃x:List D,s=.lst (x.map T.d)/\us=[]/\N (.d .none) (.lst (x.reverse.map T.d))|_=>False
theorem M9{N:T->T->Prop}(ts:List T)(t:T):eK .append (.lst ts) [t] N=(ts.length<sizeLine/\N (.d .none) (.lst (ts++[t]))):=by simp[eK]
theorem L9{N:T->T->Prop}(ts:List T)(i:Int):eK .pop (.lst ts) [.d (.int i)] N=∃k t,HP ts.length i=some k/\ts[k]?=some t/\N t (.lst (ts.eraseIdx k)):=by simp[eK]
def IY:Mt->Bool
 | .append=>true|.pop=>true|.setd=>false|.reverse=>true|.join=>false
def EI(m:Mt):T->Bool
 | .lst _=>IY m|_=>false
def Vw.seq:Vw->Option (List T)
 | .ls h=>some h|.tp h=>some h|_=>none
def jC(v:ItK)(vs:List Vw)(R:List T->Prop):Prop:=match v with
 | .val=>(∃z,vs=[.sc (.str z)]/\R (z.cps.toList.map λc=>.d (.str ⟨#[c]⟩)))∨(∃h,vs=[.ls h]/\R h)∨(∃h,vs=[.tp h]/\R h)∨(∃y h,vs=[.dc true y h]/\R (y.map T.d))|.rng1=>∃j,vs=[.sc (.int j)]/\(-(2 ^ 62)<=j/\j<2 ^ 62)/\R ((qA j.toNat).map λ(i:Nat)=>.d (.int (i:Int)))|.enum=>∃x h u,vs=[x]/\x.seq=some h/\nE h=some u/\R (u.zipIdx.map λp=>.d (.tuple [.int (p.2:Int),p.1]))|.itm=>(∃y h u,vs=[.dc true y h]/\nE h=some u/\R ((y.zip u).map λp=>.d (.tuple [p.1,p.2])))∨(vs=[.sc (.dict [])]/\R [])
section
variable{R:List T->Prop}
theorem ZK(ts:List T):jC .val [.ls ts] R=R ts:=by simp[jC]
theorem SY(j:Int):jC .rng1 [.sc (.int j)] R=((-(2 ^ 62)<=j/\j<2 ^ 62)/\R ((qA j.toNat).map λ(i:Nat)=>.d (.int (i:Int)))):=by simp[jC]
theorem OP(x:Vw):jC .enum [x] R=∃ts ds,x.seq=some ts/\nE ts=some ds/\R (ds.zipIdx.map λp=>.d (.tuple [.int (p.2:Int),p.1])):=by apply propext;constructor;rintro⟨_,ts,ds,⟨⟩,h⟩;exact⟨ts,ds,h⟩;rintro⟨ts,ds,h⟩;exact⟨_,ts,ds,rfl,h⟩
theorem NP(ks:List D)(ts:List T):jC .itm [.dc true ks ts] R=∃ds,nE ts=some ds/\R ((ks.zip ds).map λp=>.d (.tuple [p.1,p.2])):=by apply propext;constructor;rintro(⟨_,_,ds,⟨⟩,h⟩| ⟨⟨⟩,_⟩);exact⟨ds,h⟩;rintro⟨ds,h⟩;exact .inl ⟨_,_,ds,rfl,h⟩
theorem MP(ks:List D)(ts:List T):jC .val [.dc true ks ts] R=R (ks.map T.d):=by simp[jC]
theorem RY:jC .itm [.sc (.dict [])] R=R []:=by apply propext;constructor;rintro(⟨_,_,x,⟨⟩,h⟩| ⟨_,h⟩);exact h;exact λh=>.inr ⟨rfl,h⟩
end
section
variable{K:QC}{H w:Hp}{vs:List V}{ds:List D}
def aB:List Nat->List T->zA->Option zA
 |[],[],ρ=>some ρ|i::is,t::ts,ρ=>aB is ts (ρ.set i (some (.nv t)))|_,_,_=>none
def SH:Tg->T->zA->(zA->Prop)->Prop
 | .nm i,t,ρ,Q=>Q (ρ.set i (some (.nv t)))|.tp is,t,ρ,Q=>match t.vw with
  | .tp x=>∃h,aB is x ρ=some h/\Q h|_=>False
def Tg.ix:Tg->List Nat
 | .nm i=>[i]|.tp h=>h
def gX:PX->Option Nat
 | .var i=>some i|_=>none
def KG:Option Sl->Option Sl
 |some (.own t)=>some (.nv t)|s=>s
def lockA(ρ:zA):zA:=ρ.map KG
def lock:List Nat->zA->zA
 |[],ρ=>ρ|i::is,ρ=>lock is (ρ.modify i KG)
def TV:Option Sl->Option Sl
 |some (.own t)=>some (.nv (.d t.er))|s=>s
def frzAt:List Nat->zA->zA
 |[],ρ=>ρ|i::is,ρ=>frzAt is (ρ.modify i TV)
def mF:Option Sl->Option Sl
 |some (.nv t)=>if t.isD=true then some (.nv t) else none|s=>s
def kill:List Nat->zA->zA
 |[],ρ=>ρ|i::is,ρ=>kill is (ρ.modify i mF)
def clear:List Nat->zA->zA
 |[],ρ=>ρ|i::is,ρ=>clear is (ρ.set i none)
def IA:List Nat->zA->Option (List T)
 |[],_=>some []|i::is,ρ=>match ρ[i]? with
  |some (some (.own t))=>(IA is ρ).map (t::·)|_=>none
def xC:List Nat->List T->zA->Option zA
 |[],[],ρ=>some ρ|i::is,t::ts,ρ=>xC is ts (ρ.set i (some (.own t)))|_,_,_=>none
def OC:List Bool->zA->zA
 |b::m,v::ρ=>(if b then none else v)::OC m ρ|_,ρ=>ρ
def ZL(k:Nat)(h:List Bool)(ρ:zA):zA:=Qx k none++OC h ρ
def sq{α:Type}(x:T)(ρ:zA)(b:zA->(α->zA->Prop)->Prop)(K:α->zA->Prop):Prop :=
 if x.isD=true then b ρ K else b (lockA ρ) λy _=>K y ρ
def cu(f:zA->TK->Prop):zA->(T×Bool->zA->Prop)->Prop:=λy K=>f y λx n h=>K (x,n) h
def iF:List (T×Bool)->List T
 |[]=>[]|p::r=>p.1::iF r
def YL:List (T×Bool)->List T
 |[]=>[]|p::r=>uA p.1 p.2::YL r
def vC:List (T×Bool)->List Vw
 |[]=>[]|p::r=>(uA p.1 p.2).vw::vC r
def kF:List (T×Bool)->Bool
 |[]=>true|p::r=>bH p.1 p.2&&kF r
def nO:List (T×Bool)->Bool
 |[]=>true|p::r=>bH p.1 p.2&&nO r
def lF(t:T):Option T:=match t.vw with
 | .ls h=>(nE h).map λds=>.lst (ds.map T.d)|_=>if t.isD=true then some t else none
noncomputable def BA:List Md->List (T×Bool)->List T->Option (List T)
 |_,[],[]=>some []|_,[],_::_=>none|md,(x,n)::xs,os=>match md.headD .ny with
  | .ny=>match uA x n with
   | .d d=>(BA md.tail xs os).map (.d d::·)|_=>none
  | .kq=>match lF (uA x n) with
   |some t=>(BA md.tail xs os).map (t::·)|none=>none
  | .nv=>(BA md.tail xs os).map (uA x n::·)|.chg=>match os with
   |o::os=>(BA md.tail xs os).map (o::·)|[]=>none
def CB:List Md->List T->List T
 |_,[]=>[]|md,t::ts=>match md.headD .ny with
  | .chg=>t::CB md.tail ts|_=>CB md.tail ts
def fA:List Md->PX->List Nat
 | .chg::md,.nq (.var j) as=>j::fA md as|_::md,.nq _ as=>fA md as|_,_=>[]
def Md.isMut:Md->Bool
 | .chg=>true|_=>false
structure D3 where
 e:zA->TK->Prop
 t:zA->(Bool->zA->Prop)->Prop
 a:List Md->zA->(List (T×Bool)->zA->Prop)->Prop
def yD:D3:=⟨λ_ _=>False,λ_ _=>False,λ_ _ _=>False⟩
def CD(body:T->(Option T->Prop)->Prop):List T->List T->(List T->Prop)->Prop
 |[],acc,Q=>acc.length<=sizeLine/\Q acc|x::xs,acc,Q=>body x fun
  |some y=>acc.length<sizeLine/\CD body xs (acc++[y]) Q|none=>CD body xs acc Q
def SF(v:Tg)(u:zA)(c:zA->(Bool->zA->Prop)->Prop)(e:zA->TK->Prop)(x:T)(R:Option T->Prop):Prop :=
 SH v x u λz=>c z λb h=>if b=true then e h λy n _=>bH y n=true/\R (some y) else R none
def Ja:PX->D->(Bool->Prop)->Prop
 | .bty _ n,d,Q=>∃b,isD n d=some b/\dM n=true/\Q b|_,_,_=>False
def C9(x:T)(Q:T->Prop):Prop:=∃i,x=.d (.int i)/\Q (.d (.int (-i)))
def Jh:Option (Option Sl)->(T->Prop)->Prop
 |some (some (.own t)),Q=>Q t|some (some (.nv t)),Q=>Q t|some none,_=>False|none,_=>False
def HC:Option (Option Sl)->(T->Prop)->Prop
 |some (some (.own t)),Q=>Q t|some (some (.nv _)),_=>False|some none,_=>False|none,_=>False
def G6:Option Nat->(Nat->Prop)->Prop
 |none,_=>False|some j,Q=>Q j
def EY:PX->Bool
 | .var _=>true|_=>false
def Zm:PX->Option Int
 | .int i=>some i|_=>none
def pe(Ψ:PEv):PX->XE->D3
 | .var i,_=>let e:zA->TK->Prop:=λv Q=>Jh v[i]? λt=>Q t false v
  ⟨e,λv Q=>e v λt _ h=>pH t.er λb=>Q b h,yD.a⟩
 | .int i,_=>⟨λv Q=>Q (.d (.int i)) false v,λv Q=>Q (i != 0) v,yD.a⟩|.str x,_=>⟨λv Q=>Q (.d (.str x)) false v,yD.t,yD.a⟩|.bl b,_=>⟨λv Q=>Q (.d (.bool b)) false v,λv Q=>Q b v,yD.a⟩|.non,_=>⟨λv Q=>Q (.d .none) false v,λv Q=>Q false v,yD.a⟩|.glo x,_=>let e:zA->TK->Prop:=λv Q=>match Ψ.va x with
   |some d=>Q (.d d) false v|none=>False
  ⟨e,λv Q=>e v λt _ h=>pH t.er λb=>Q b h,yD.a⟩
 | .bty _ _,_=>yD|.bin op a b,E=>let e:zA->TK->Prop:=λv Q=>(pe Ψ a E).e v λx n h=>sq (uA x n) h (cu (pe Ψ b E).e) λy g=>binT op (uA x n).vw (uA y.1 y.2).vw λz k=>Q z k g
  ⟨e,λv Q=>e v λt _ h=>pH t.er λb=>Q b h,yD.a⟩
 | .cmp op a b,E=>let t:zA->(Bool->zA->Prop)->Prop:=λv Q=>(pe Ψ a E).e v λx n h=>sq (uA x n) h (cu (pe Ψ b E).e) λy g=>v6 op x.er (uA y.1 y.2) λk=>Q k g
  ⟨λv Q=>t v λk h=>Q (.d (.bool k)) false h,t,yD.a⟩
 | .neg a,E=>⟨λv Q=>(pe Ψ a E).e v λx _ h=>C9 x λt=>Q t false h,yD.t,yD.a⟩|.and a b,E=>⟨λv Q=>(pe Ψ a E).e v λx _ h=>gc x.er λc=>if c=true then(pe Ψ b E).e h Q else Q (.d (.bool false)) false h,
   λv Q=>(pe Ψ a E).t v λc h=>if c=true then(pe Ψ b E).t h Q else Q false h,yD.a⟩
 | .or a b,E=>⟨λv Q=>(pe Ψ a E).e v λx _ h=>gc x.er λc=>if c=true then Q (.d (.bool true)) false h else(pe Ψ b E).e h Q,
   λv Q=>(pe Ψ a E).t v λc h=>if c=true then Q true h else(pe Ψ b E).t h Q,yD.a⟩
 | .not a,E=>⟨λv Q=>(pe Ψ a E).e v λx _ h=>pH x.er λc=>Q (.d (.bool (!c))) false h,λv Q=>(pe Ψ a E).t v λc h=>Q (!c) h,yD.a⟩|.call f as,E=>let e:zA->TK->Prop:=λv Q=>∃W,IA (fA (Ψ.sp f).md as) v=some W/\(fA (Ψ.sp f).md as).Nodup/\(pe Ψ as E).a (Ψ.sp f).md (clear (fA (Ψ.sp f).md as) v) λp h=>∃X,BA (Ψ.sp f).md p W=some X/\(Ψ.sp f).run X (λr Y=>∃g,xC (fA (Ψ.sp f).md as) Y h=some g/\Q r true g) E
  ⟨e,λv Q=>e v λt _ h=>pH t.er λb=>Q b h,yD.a⟩
 | .isi a c,E=>let t:zA->(Bool->zA->Prop)->Prop:=λv Q=>(pe Ψ a E).e v λx _ h=>Ja c x.er λb=>Q b h
  ⟨λv Q=>t v λk h=>Q (.d (.bool k)) false h,t,yD.a⟩
 | .bi f as,E=>let e:zA->TK->Prop:=λv Q=>(pe Ψ as E).a [] v λp h=>oW f (vC p) λz k=>Q z k h
  ⟨e,λv Q=>e v λt _ h=>pH t.er λb=>Q b h,yD.a⟩
 | .mt m o as,E=>let e:zA->TK->Prop:=λv Q=>if isMut m=true then G6 (gX o) λj=>HC v[j]? λt=>EI m t=true/\(pe Ψ as E).a [] (v.set j (some (.nv t))) λp g=>kF p=true/\g[j]?=some (some (.nv t))/\eK m t (iF p) λr B=>Q r true (g.set j (some (.own B))) else(pe Ψ o E).e v λx n h=>KR m (uA x n).vw=true/\sq (uA x n) h ((pe Ψ as E).a []) λp g=>bc m (uA x n).vw (vC p) λz k=>Q z k g
  ⟨e,λv Q=>e v λt _ h=>pH t.er λb=>Q b h,yD.a⟩
 | .idx a b,E=>let e:zA->TK->Prop:=λv Q=>(pe Ψ a E).e v λx n h=>sq (uA x n) h (cu (pe Ψ b E).e) λy g=>(lJ (uA x n).vw (uA y.1 y.2).vw λz=>Q z false g)∨(KL (uA x n).vw y.1.er λz=>Q z false g)
  ⟨e,λv Q=>e v λt _ h=>pH t.er λb=>Q b h,yD.a⟩
 | .slc a lo hi,E=>⟨λv Q=>(pe Ψ a E).e v λx n h =>
   sq (α:=Option Int) (uA x n) h (if isNop lo=true then λv (R:Option Int->zA->Prop)=>R none v else λv R=>(pe Ψ lo E).e v λl _ g=>XF l.er λo=>R o g) λl g =>
   sq (α:=Option Int) (uA x n) g (if isNop hi=true then λv (R:Option Int->zA->Prop)=>R none v else λv R=>(pe Ψ hi E).e v λu _ q=>XF u.er λo=>R o q) λu q=>xJ (uA x n).vw l u λz k=>Q z k q,yD.t,yD.a⟩
 | .nop,_=>yD|.lst as,E=>⟨λv Q=>(pe Ψ as E).a [] v λp h=>kF p=true/\p.length<=sizeLine/\Q (.lst (iF p)) true h,yD.t,yD.a⟩|.tup as,E=>⟨λv Q=>(pe Ψ as E).a [] v λp h=>kF p=true/\p.length<=sizeLine/\Q (FF (iF p)) true h,yD.t,yD.a⟩|.comp mask tgs tg ik its cond elt,E=>⟨λv Q=>(pe Ψ its E).a [] v λp h=>jC ik (vC p) λs =>
   CD (SF tg (ZL tgs.length mask (lockA h)) (if isNop cond=true then λv R=>R true v else(pe Ψ cond (λ_=>False)).t) (pe Ψ elt (λ_=>False)).e) s [] λA=>Q (.lst A) true h,yD.t,yD.a⟩
 | .dnew b,_=>⟨λv Q=>Q (.dct b [] []) true v,yD.t,yD.a⟩|.dsp a b,E=>⟨λv Q=>(pe Ψ a E).e v λy m h=>bH y m=true/\(pe Ψ b E).e h λx n g=>bH x n=true/\pF true y.er/\Q (.dct true [y.er] [x]) true g,yD.t,yD.a⟩|.mv i,_=>⟨λv Q=>HC v[i]? λt=>Q t true (v.set i none),yD.t,yD.a⟩|.ixm a b,E=>⟨λv Q=>∃i,Zm b=some i/\(pe Ψ a E).e v λx n h=>n=true/\∃X t,x=.tup X/\LD X i=some t/\Q t true h,yD.t,yD.a⟩|.dof a,E=>⟨λv Q=>(pe Ψ a E).e v λx n h=>j6 (uA x n).vw λz k=>Q z k h,yD.t,yD.a⟩|.lset a,E=>⟨λv Q=>(pe Ψ a E).e v λx n h=>GT (uA x n).vw λz k=>Q z k h,yD.t,yD.a⟩|.sset a,E=>⟨λv Q=>(pe Ψ a E).e v λx n h=>ES (uA x n).vw λz k=>Q z k h,yD.t,yD.a⟩|.nr,_=>⟨yD.e,yD.t,λ_ v Q=>Q [] v⟩|.nq a as,E=>⟨yD.e,yD.t,λZ v Q=>if(Z.headD .ny).isMut=true then EY a=true/\(pe Ψ as E).a Z.tail v λp h=>Q ((.d .none,true)::p) h
   else(pe Ψ a E).e v λx n h=>sq (α:=List (T×Bool)) (if n=true then .d .none else x) h ((pe Ψ as E).a Z.tail) λp g=>Q ((x,n)::p) g⟩
structure PEnds where
 nx:zA->Prop
 rt:T->zA->Prop
 bk:zA->Prop:=λ_=>False
 ct:zA->Prop:=λ_=>False
def tG:PX->List Nat
 | .var i=>[i]|.idx a _=>tG a|.and a b | .or a b=>tG a++tG b
 | .nq a h=>tG a++tG h|_=>[]
def gR:Option (Option Sl)->Bool
 |some (some (.own _))=>true|some (some (.nv _))=>false|some none=>false|none=>false
def pC(ρ:zA):List Nat->List Nat
 |[]=>[]|i::is=>if gR ρ[i]?=true then i::pC ρ is else pC ρ is
def UC:List Nat->zA->zA->zA
 |[],_,ρ=>ρ|i::L,ρ0,ρ=>UC L ρ0 (ρ.set i (ρ0[i]?.getD none))
def PQ(J L:List Nat)(h:zA)(N:zA->Prop)(ρ:zA):Prop:=(∀i∈L,i∉J/\ρ[i]?=h[i]?.map KG)/\N (UC L h ρ)
def JG(body:PEnds->zA->Prop)(z:Tg)(Z:PEnds):List T->zA->Prop
 |[],ρ=>Z.nx ρ|x::xs,ρ=>SH z x ρ λy=>body { Z with nx:=λh=>JG body z Z xs h,ct:=λh=>JG body z Z xs h,bk:=Z.nx } y
def Ui(ρ:zA)(i:Nat)(R:T->zA->Prop):Option (Option Sl)->Prop
 |some (some (.own t))=>R t (ρ.set i none)|some (some (.nv t))=>t.isD=true/\R t ρ|some none=>False|none=>False
def uJ(Ψ:PEv)(E:XE)(y:T->zA->Prop):PX->zA->Prop
 | .var i,ρ=>Ui ρ i y ρ[i]?|e,ρ=>(pe Ψ e E).e ρ λx n h=>bH x n=true/\y x h
def td:T->D->D->(T->Prop)->Prop
 | .lst ts,.int i,x,Q=>∃n,HP ts.length i=some n/\Q (.lst (ts.set n (.d x)))|.dct b ks ts,k,x,Q=>pF b k/\ks.length<sizeLine/\Q (uR b ks ts k (.d x))|_,_,_,_=>False
def si:PX->Option (Nat×Option PX)
 | .var j=>some (j,none)|.idx (.var j) k=>some (j,some k)|_=>none
def i8(k:D)(t:T)(Q:T->Prop):Prop:=∃h x,t=.dct true h x/\pF true k/\h.length<sizeLine/\((∃n,lA h k=some n/\Q t)∨(lA h k=none/\Q (.dct true (h++[k]) (x++[.dct true [] []]))))
def La:T->Bool
 | .dct true _ _=>true|_=>false
def zd(z:D)(t:T)(Q:T->(T->T)->Prop):Prop:=∃b x h n s,t=.dct b x h/\pF b z/\lA x z=some n/\h[n]?=some s/\Q s λy=>.dct b x (h.set n y)
def Pj(s:PT)(N:zA->Prop)(ρ:zA):Prop :=
 (∃j i x,∃u v:List T,s=.for_ (.nm i) .val (.nq (.bin .Add (.bi .list (.nq (.idx (.var j) (.int 0)) .nr)) (.bi .list (.nq (.idx (.var j) (.int 1)) .nr))) .nr) (.seq (.expr (.mt .append (.idx (.var i) (.int 1)) (.nq (.str x) .nr))) .nil)/\i≠j/\i<ρ.length/\ρ[j]?=some (some (.own (.tup [.lst u,.lst v])))/\u.length+v.length<=sizeLine/\(∀t∈u++v,∃a h,t=.tup [a,.lst h]/\h.length<sizeLine) /\
  ∀y z:List T,y.length=u.length->z.length=v.length->N ((ρ.set j (some (.own (.tup [.lst y,.lst z])))).set i none)) ∨
 ∃(j:Nat) (k:Nat) (x:Str) (h b:List T),s=.expr (.mt .append (.idx (.var j) (.int (k:Int))) (.nq (.str x) .nr))/\ρ[j]?=some (some (.own (.tup h)))/\h[k]?=some (.lst b)/\b.length<sizeLine /\
  N (ρ.set j (some (.own (.tup (h.set k (.lst (b++[.d (.str x)])))))))
noncomputable def xA(Ψ:PEv)(E:XE):PT->PEnds->zA->Prop
 | .nil,Z,u=>Z.nx u|.seq s r,Z,u=>xA Ψ E s { Z with nx:=λf=>xA Ψ E r Z f } u|.set i e,Z,u=>(pe Ψ e E).e u λx n h=>bH x n=true/\Z.nx (h.set i (some (.nv (.d x.er))))|.expr e,Z,u=>(pe Ψ e E).e u λ_ _ h=>Z.nx h|.ret e,Z,u=>uJ Ψ E Z.rt e u|.ife c a b,Z,u=>(pe Ψ c E).t u λk h=>if k=true then xA Ψ E a Z h else xA Ψ E b Z h|.for_ tg ik its body,Z,u=>(pe Ψ its E).a [] u λY h=>jC ik (vC Y) λg =>
   if nO Y=true then JG (xA Ψ E body) tg { Z with nx:=λv=>Z.nx (kill tg.ix v) } g h
   else JG (xA Ψ E body) tg { Z with nx:=λv=>PQ tg.ix (pC h (tG its)) h Z.nx (kill tg.ix v) } g (lock (pC h (tG its)) h)
 | .own i e,Z,u=>(pe Ψ e E).e u λx n h=>bH x n=true/\Z.nx (h.set i (some (.own x)))|.tset is e,Z,u=>(pe Ψ e E).e u λx n h=>bH x n=true/\SH (.tp is) (.d x.er) h Z.nx|.six o i e,Z,u=>match si o with
  |none=>False|some (j,none)=>HC u[j]? λt=>(pe Ψ e E).e (u.set j (some (.nv t))) λx n h=>bH x n=true/\(pe Ψ i E).e h λy m v=>bH y m=true/\v[j]?=some (some (.nv t))/\td t y.er x.er λX=>Z.nx (v.set j (some (.own X)))|some (j,some k)=>HC u[j]? λt=>(pe Ψ e E).e (u.set j (some (.nv t))) λx n h=>bH x n=true/\(pe Ψ k E).e h λz l v=>bH z l=true/\zd z.er t λs put=>(pe Ψ i E).e v λy m p=>bH y m=true/\p[j]?=some (some (.nv t))/\td s y.er x.er λA=>Z.nx (p.set j (some (.own (put A))))
 | .sdf j k,Z,u=>HC u[j]? λt=>La t=true/\(pe Ψ k E).e (u.set j (some (.nv t))) λy m h=>bH y m=true/\h[j]?=some (some (.nv t))/\i8 y.er t λX=>Z.nx (h.set j (some (.own X)))|.whl c body,Z,u=>∃W:Nat->zA->Prop,(∃m,W m u)/\∀m u,W m u->(pe Ψ c E).t u λb h=>if b=true then
   xA Ψ E body { Z with nx:=λf=>∃q,q < m/\W q f,ct:=λf=>∃q,q < m/\W q f,bk:=Z.nx } h else Z.nx h
 | .frz is s,Z,u=>xA Ψ E s Z (frzAt is u)|.hs s,Z,u=>Pj s Z.nx u
theorem _root_.L2.Same.rd{H w:Hp}(e:Same H w){a:Addr}{u:HO}(h:Rd H a u):Rd w a u:=by
 rcases h with h|⟨o,h⟩
 exact .inl (e _ _ h);exact .inr ⟨o,e _ _ h⟩
theorem _root_.L2.Same.tupl{a:Addr}{xs:List V}(e:Same H w)(h:XC K H a xs):XC K w a xs:=by rcases h with h|h;exact .inl (e.rd h);exact .inr h
theorem xI.mono(e:Same H w){b:Bool}{o:HO}{ks:List D}(h:xI K H b o ks vs):xI K w b o ks vs:=by
 cases b with|true=>obtain⟨f,x,a,k,v,u,z⟩:=h;exact⟨f,x,a,k,v,λp y=>e.tupl (u p y),z⟩|false=>exact h
theorem Rep.mono2(e:Same H w):(∀{v:V}{d:D},Rep K H v d->Rep K w v d)/\∀{vs:List V}{ds:List D},Reps K H vs ds->Reps K w vs ds :=
 Rep.both (P:=Rep K w) (R:=Reps K w) .non .bl .int .str (λh _ r=>.lst (e.seq h) r) (λh _ r=>.tup (e.tupl h) r) (λh q _ r=>.dct (e _ _ h) (q.mono e) r) .nil λ_ _ h r=>.cons h r
theorem Rep.mono(e:Same H w){v:V}{d:D}(h:Rep K H v d):Rep K w v d:=(Rep.mono2 e).1 h
theorem Reps.mono(e:Same H w)(h:Reps K H vs ds):Reps K w vs ds:=(Rep.mono2 e).2 h
theorem Reps.append{ws:List V}{es:List D}(h:Reps K H vs ds)(r:Reps K H ws es):Reps K H (vs++ws) (ds++es):=Reps.ind (R:=λvs ds=>Reps K H (vs++ws) (ds++es)) r (λh t=>.cons h t) h
theorem Reps.reverse(h:Reps K H vs ds):Reps K H vs.reverse ds.reverse:=Reps.ind (R:=λvs ds=>Reps K H vs.reverse ds.reverse) .nil (λr x=>by rw[Ws,Ws];exact x.append (.cons r .nil)) h
theorem Reps.drop{K:QC}{H:Hp}:∀{vs:List V}{ds:List D}(n:Nat),Reps K H vs ds->Reps K H (vs.drop n) (ds.drop n)
 |_,_,0,r=>r|_,_,_+1,.nil=>.nil|_,_,n+1,.cons _ t=>Reps.drop n t
theorem Reps.take{K:QC}{H:Hp}:∀{vs:List V}{ds:List D}(n:Nat),Reps K H vs ds->Reps K H (vs.take n) (ds.take n)
 |_,_,0,_=>.nil|_,_,_+1,.nil=>.nil|_,_,n+1,.cons h t=>.cons h (Reps.take n t)
theorem Reps.bools{K:QC}{H:Hp}:∀{vs:List V}{bs:List Bool},Reps K H vs (bs.map PyData.bool)->vs=bs.map V.bl
 |_,[],.nil=>rfl|_,b::bs,.cons h t=>by cases h;rw[QO,Reps.bools t]
theorem JB{p:Addr}{o:HO}(h:H p=none):Same H (DA H p o):=λb u q=>by rw[kA (VA q h)];exact q
end
mutual
inductive Tr(K:QC)(F H:Hp):Bool->V->T->(Addr->Prop)->Prop where
 |d {st:Bool}{v:V}{x:D}{S:fB}:Rep K F v x->(∀b,¬ S b)->Tr K F H st v (.d x) S
 |lst {st:Bool}{a:Addr}{vs:List V}{ts:List T}{S S':fB}:H a=some (.lst vs)->F a=none->Trs K F H st vs ts S'->¬ S' a->(∀b,S b↔b=a∨S' b)->Tr K F H st (.ref a) (.lst ts) S
 |tup {st:Bool}{a:Addr}{vs:List V}{ts:List T}{S S':fB}:H a=some (.tup vs)->F a=none->Trs K F H st vs ts S'->¬ S' a->(∀b,S b↔b=a∨S' b)->Tr K F H st (.ref a) (.tup ts) S
 |lstF {a:Addr}{vs:List V}{ds:List D}{S:fB}:yC K F a vs->Reps K F vs ds->(∀b,¬ S b)->Tr K F H false (.ref a) (.lst (ds.map T.d)) S
 |dct {st b:Bool}{a:Addr}{o:HO}{ks:List D}{vs:List V}{ts:List T}{S S':fB}:H a=some o->xI K F b o ks vs->F a=none->Trs K F H st vs ts S'->¬ S' a->(∀b,S b↔b=a∨S' b)->Tr K F H st (.ref a) (.dct b ks ts) S
inductive Trs(K:QC)(F H:Hp):Bool->List V->List T->(Addr->Prop)->Prop where
 |nil {st:Bool}{S:fB}:(∀b,¬ S b)->Trs K F H st [] [] S
 |cons {st:Bool}{v:V}{t:T}{vs:List V}{ts:List T}{S S1 S2:fB}:Tr K F H st v t S1->Trs K F H st vs ts S2->(∀b,S1 b->¬ S2 b)->(∀b,S b↔S1 b∨S2 b)->Trs K F H st (v::vs) (t::ts) S
end
section
variable{K:QC}{F H w c:Hp}
section
variable{R:Bool->List V->List T->(Addr->Prop)->Prop}{st b:Bool}{v:V}{t:T}{S:fB}{vs:List V}{ts:List T}{ds ks:List D}{i:Int}{kvs:List (D×D)}
theorem Tr.both{P:Bool->V->T->(Addr->Prop)->Prop}
    (d:∀{st:Bool}{v:V}{x:D}{S:fB},Rep K F v x->(∀b,¬ S b)->P st v (.d x) S)
    (lst:∀{st:Bool}{a:Addr}{vs:List V}{ts:List T}{S S':fB},H a=some (.lst vs)->F a=none->Trs K F H st vs ts S'->¬ S' a->(∀b,S b↔b=a∨S' b)->R st vs ts S'->P st (.ref a) (.lst ts) S)
    (tup:∀{st:Bool}{a:Addr}{vs:List V}{ts:List T}{S S':fB},H a=some (.tup vs)->F a=none->Trs K F H st vs ts S'->¬ S' a->(∀b,S b↔b=a∨S' b)->R st vs ts S'->P st (.ref a) (.tup ts) S)
    (y:∀{a:Addr}{vs:List V}{ds:List D}{S:fB},yC K F a vs->Reps K F vs ds->(∀b,¬ S b)->P false (.ref a) (.lst (ds.map T.d)) S)
    (dct:∀{st b:Bool}{a:Addr}{o:HO}{ks:List D}{vs:List V}{ts:List T}{S S':fB},H a=some o->xI K F b o ks vs->F a=none->Trs K F H st vs ts S'->¬ S' a->(∀b,S b↔b=a∨S' b)->R st vs ts S'->P st (.ref a) (.dct b ks ts) S)
    (u:∀{st:Bool}{S:fB},(∀b,¬ S b)->R st [] [] S)
    (z:∀{st:Bool}{v:V}{t:T}{vs:List V}{ts:List T}{S S1 k:fB},Tr K F H st v t S1->Trs K F H st vs ts k->(∀b,S1 b->¬ k b)->(∀b,S b↔S1 b∨k b)->P st v t S1->R st vs ts k->R st (v::vs) (t::ts) S) :
    (∀{st:Bool}{v:V}{t:T}{S:fB},Tr K F H st v t S->P st v t S)/\∀{st:Bool}{vs:List V}{ts:List T}{S:fB},Trs K F H st vs ts S->R st vs ts S :=
  ⟨λh=>Tr.rec (motive_1:=λst v t S _=>P st v t S) (motive_2:=λst vs ts S _=>R st vs ts S) @d @lst @tup @y @dct @u @z h,
   λh=>Trs.rec (motive_1:=λst v t S _=>P st v t S) (motive_2:=λst vs ts S _=>R st vs ts S) @d @lst @tup @y @dct @u @z h⟩
theorem Tr.mono2(e:Same F w):(∀{st:Bool}{v:V}{t:T}{S:fB},Tr K F H st v t S->(∀b,S b->c b=H b/\w b=none)->Tr K w c st v t S)/\∀{st:Bool}{vs:List V}{ts:List T}{S:fB},Trs K F H st vs ts S->(∀b,S b->c b=H b/\w b=none)->Trs K w c st vs ts S :=
 Tr.both (P:=λst v t S=>(∀b,S b->c b=H b/\w b=none)->Tr K w c st v t S) (R:=λst v t S=>(∀b,S b->c b=H b/\w b=none)->Trs K w c st v t S)
  (λr n _=>.d (r.mono e) n)
  (λ{_ a _ _ _ _} h _ _ n q x k=>.lst ((k a ((q a).mpr (.inl rfl))).1.trans h) (k a ((q a).mpr (.inl rfl))).2 (x λb hb=>k b ((q b).mpr (.inr hb))) n q)
  (λ{_ a _ _ _ _} h _ _ n q x k=>.tup ((k a ((q a).mpr (.inl rfl))).1.trans h) (k a ((q a).mpr (.inl rfl))).2 (x λb hb=>k b ((q b).mpr (.inr hb))) n q)
  (λh r n _=>.lstF (e.seq h) (r.mono e) n)
  (λ{_ _ a _ _ _ _ _ _} h u _ _ n q x k=>.dct ((k a ((q a).mpr (.inl rfl))).1.trans h) (u.mono e) (k a ((q a).mpr (.inl rfl))).2 (x λb hb=>k b ((q b).mpr (.inr hb))) n q)
  (λn _=>.nil n)
  (λ_ _ n q z y k=>.cons (z λb hb=>k b ((q b).mpr (.inl hb))) (y λb hb=>k b ((q b).mpr (.inr hb))) n q)
theorem Tr.mono(e:Same F w)(h:Tr K F H st v t S)(k:∀b,S b->c b=H b/\w b=none):Tr K w c st v t S:=(Tr.mono2 e).1 h k
theorem Trs.mono(e:Same F w)(h:Trs K F H st vs ts S)(k:∀b,S b->c b=H b/\w b=none):Trs K w c st vs ts S:=(Tr.mono2 e).2 h k
theorem Tr.weak2:(∀{st:Bool}{v:V}{t:T}{S:fB},Tr K F H st v t S->Tr K F H false v t S)/\∀{st:Bool}{vs:List V}{ts:List T}{S:fB},Trs K F H st vs ts S->Trs K F H false vs ts S :=
 Tr.both (P:=λ_ v t S=>Tr K F H false v t S) (R:=λ_ v t S=>Trs K F H false v t S) .d (λh f _ n q x=>.lst h f x n q) (λh f _ n q x=>.tup h f x n q) .lstF (λh u f _ n q x=>.dct h u f x n q) .nil λ_ _ n q z y=>.cons z y n q
theorem Tr.weak(h:Tr K F H st v t S):Tr K F H false v t S:=Tr.weak2.1 h
theorem Trs.weak(h:Trs K F H st vs ts S):Trs K F H false vs ts S:=Tr.weak2.2 h
theorem PZ{C:fB}{a:Addr}{S':fB}(q:∀b,S b↔b=a∨S' b)(h:C a)(k:∀b,S' b->C b)(b:Addr)(hb:S b):C b:=((q b).mp hb).elim (λe=>e▸h) (k b)
theorem Tr.dom2:(∀{st:Bool}{v:V}{t:T}{S:fB},Tr K F H st v t S->∀b,S b->H b≠none/\F b=none)/\∀{st:Bool}{vs:List V}{ts:List T}{S:fB},Trs K F H st vs ts S->∀b,S b->H b≠none/\F b=none :=
 have y:∀{a:Addr}{o:HO},H a=some o->H a≠none:=λh z=>by rw[h]at z;cases z
 Tr.both (P:=λ_ _ _ S=>∀b,S b->H b≠none/\F b=none) (R:=λ_ _ _ S=>∀b,S b->H b≠none/\F b=none)
  (λ_ n b hb=>absurd hb (n b)) (λh f _ _ q x=>PZ q ⟨y h,f⟩ x) (λh f _ _ q x=>PZ q ⟨y h,f⟩ x) (λ_ _ n b hb=>absurd hb (n b)) (λh _ f _ _ q x=>PZ q ⟨y h,f⟩ x)
  (λn b hb=>absurd hb (n b)) λ_ _ _ q k u b hb=>((q b).mp hb).elim (k b) (u b)
theorem Tr.dom(h:Tr K F H st v t S):∀b,S b->H b≠none/\F b=none:=Tr.dom2.1 h
theorem Trs.dom(h:Trs K F H st vs ts S):∀b,S b->H b≠none/\F b=none:=Tr.dom2.2 h
theorem Tr.kept2(e:Same F w):(∀{st:Bool}{v:V}{t:T}{S:fB},Tr K F H st v t S->(∀b u,S b->H b=some u->w b=some u)->Rep K w v t.er)/\∀{st:Bool}{vs:List V}{ts:List T}{S:fB},Trs K F H st vs ts S->(∀b u,S b->H b=some u->w b=some u)->Reps K w vs (ersT ts) :=
 Tr.both (P:=λ_ v t S=>(∀b u,S b->H b=some u->w b=some u)->Rep K w v t.er) (R:=λ_ v t S=>(∀b u,S b->H b=some u->w b=some u)->Reps K w v (ersT t))
  (λr _ _=>r.mono e)
  (λ{_ a _ _ _ _} h _ _ _ q x k=>by unfold T.er;exact .lst (yC.of (k a _ ((q a).mpr (.inl rfl)) h)) (x λb u hb=>k b u ((q b).mpr (.inr hb))))
  (λ{_ a _ _ _ _} h _ _ _ q x k=>by unfold T.er;exact .tup (XC.of (k a _ ((q a).mpr (.inl rfl)) h)) (x λb u hb=>k b u ((q b).mpr (.inr hb))))
  (λh r _ _=>by unfold T.er;rw[KA];exact .lst (e.seq h) (r.mono e))
  (λ{_ _ a _ _ _ _ _ _} h f _ _ _ q x k=>by unfold T.er;exact .dct (k a _ ((q a).mpr (.inl rfl)) h) (f.mono e) (x λb u hb=>k b u ((q b).mpr (.inr hb))))
  (λ_ _=>.nil)
  (λ_ _ _ q z y k=>.cons (z λb u hb=>k b u ((q b).mpr (.inl hb))) (y λb u hb=>k b u ((q b).mpr (.inr hb))))
theorem Tr.kept(e:Same F w)(h:Tr K F H st v t S)(k:∀b u,S b->H b=some u->w b=some u):Rep K w v t.er:=(Tr.kept2 e).1 h k
theorem Tr.rep(f:Same F H)(h:Tr K F H st v t S):Rep K H v t.er:=h.kept f λ_ _ _ e=>e
theorem Trs.ind(z:∀{st:Bool}{S:fB},(∀b,¬ S b)->R st [] [] S)
  (x:∀{st:Bool}{v:V}{t:T}{vs:List V}{ts:List T}{S S1 y:fB},Tr K F H st v t S1->Trs K F H st vs ts y->(∀b,S1 b->¬ y b)->(∀b,S b↔S1 b∨y b)->R st vs ts y->R st (v::vs) (t::ts) S) (h:Trs K F H st vs ts S):R st vs ts S :=
 (Tr.both (P:=λ_ _ _ _=>True) (λ_ _=>trivial) (λ_ _ _ _ _ _=>trivial) (λ_ _ _ _ _ _=>trivial) (λ_ _ _=>trivial) (λ_ _ _ _ _ _ _=>trivial) z λh t n q _ r=>x h t n q r).2 h
theorem Trs.length(h:Trs K F H st vs ts S):vs.length=ts.length:=Trs.ind (R:=λ_ vs ts _=>vs.length=ts.length) (λ_=>rfl) (λ_ _ _ _ e=>congrArg Nat.succ e) h
theorem Trs.of_reps(h:Reps K F vs ds):Trs K F H st vs (ds.map T.d) (λ_=>False) :=
 Reps.ind (R:=λvs ds=>Trs K F H st vs (ds.map T.d) λ_=>False) (.nil λ_ z=>z) (λh t=>.cons (.d h λ_ z=>z) t (λ_ z=>z.elim) λb=>by simp) h
theorem Trs.un(h:Trs K F H st vs ts S)(e:nE ts=some ds):Reps K F vs ds/\∀b,¬ S b:=by
 have u:=OJ e;clear e;revert ds;refine Trs.ind (R:=λ_ vs ts S=>∀{ds:List D},ts=ds.map T.d->Reps K F vs ds/\∀b,¬ S b) (λn ds e=>?_) (λh _ _ q x ds e=>?_) h;cases ds with|nil=>exact⟨.nil,n⟩|cons d r=>cases e
 cases ds with
 |nil=>cases e|cons d r =>
  injection e with e1 e2;obtain⟨z,y⟩:=x e2;subst e1;cases h with|d rep m=>exact⟨.cons rep z,λb hb=>((q b).mp hb).elim (m b) (y b)⟩
theorem Trs.get{i:Nat}(h:Trs K F H st vs ts S)(e:ts[i]?=some t):∃v S1,vs[i]?=some v/\Tr K F H st v t S1/\∀b,S1 b->S b:=by
 revert i;refine Trs.ind (R:=λst vs ts S=>∀{i:Nat},ts[i]?=some t->∃v S1,vs[i]?=some v/\Tr K F H st v t S1/\∀b,S1 b->S b) (λn i e=>by cases e) (λh _ n q x i e=>?_) h;cases i with|zero=>cases e;exact⟨_,_,rfl,h,λb hb=>(q b).mpr (.inl hb)⟩|succ i=>obtain⟨v,S1,u,z,y⟩:=x (i:=i) e;exact⟨v,S1,u,z,λb hb=>(q b).mpr (.inr (y b hb))⟩
theorem Trs.at(r:Trs K F H st vs ts S)(h:LD ts i=some t):∃v S1,LD vs i=some v/\Tr K F H st v t S1/\∀b,S1 b->S b:=by
 unfold LD at h ⊢;rw[r.length];cases e:HP ts.length i with|none=>rw[e]at h;cases h|some j=>rw[e]at h;exact r.get h
theorem Trs.append{ws:List V}{us:List T}{S1 x:fB}(h:Trs K F H st vs ts S1)(r:Trs K F H st ws us x)(k:∀b,S1 b->¬ x b):Trs K F H st (vs++ws) (ts++us) (λb=>S1 b∨x b) :=
 Trs.ind (R:=λst vs ts S1=>Trs K F H st ws us x->(∀b,S1 b->¬ x b)->Trs K F H st (vs++ws) (ts++us) λb=>S1 b∨x b)
  (λ{_ S} n r _=>by have e:(λb=>S b∨x b)=x:=funext λb=>propext ⟨λz=>z.resolve_left (n b),.inr⟩;rw[e];exact r)
  (λh _ n q y r k=>.cons h (y r λb hb=>k b ((q b).mpr (.inr hb))) (λb hb z=>z.elim (n b hb) (k b ((q b).mpr (.inl hb)))) λb=>by rw[q b,or_assoc]) h r k
theorem Trs.one(h:Tr K F H st v t S):Trs K F H st [v] [t] S:=.cons h (.nil (S:=λ_=>False) λ_ z=>z) (λ_ _ z=>z) λb=>by simp
theorem CG(e:(T.d (.dict kvs)).vw=.ls ts):False:=by
 have e:UB kvs=.ls ts:=e;unfold UB at e;cases h:PC kvs with|none=>rw[h]at e;cases e|some b=>rw[h]at e;cases e
theorem FJ(e:(T.d (.dict kvs)).vw=.tp ts):False:=by
 have e:UB kvs=.tp ts:=e;unfold UB at e;cases h:PC kvs with|none=>rw[h]at e;cases e|some b=>rw[h]at e;cases e
theorem Tr.ls(f:Same F H)(h:Tr K F H st v t S)(e:t.vw=.ls ts):∃a vs S',v=.ref a/\yC K H a vs/\Trs K F H false vs ts S'/\∀b,S' b->S b:=by
 cases h with
 |d r n =>
  cases r with|lst q r=>injection e with e;subst e;exact⟨_,_,_,rfl,f.seq q,Trs.of_reps r,λb hb=>hb.elim⟩|dct _ _ _=>exact(CG e).elim|_=>cases e
 |lst h _ r n q=>injection e with e;subst e;exact⟨_,_,_,rfl,yC.of h,r.weak,λb hb=>(q b).mpr (.inr hb)⟩|tup=>cases e|dct=>cases e|lstF h r n=>injection e with e;subst e;exact⟨_,_,_,rfl,f.seq h,Trs.of_reps r,λb hb=>hb.elim⟩
theorem Tr.tp(f:Same F H)(h:Tr K F H st v t S)(e:t.vw=.tp ts):∃a vs S',v=.ref a/\XC K H a vs/\Trs K F H false vs ts S'/\∀b,S' b->S b:=by
 cases h with
 |d r n =>
  cases r with|tup q r=>injection e with e;subst e;exact⟨_,_,_,rfl,f.tupl q,Trs.of_reps r,λb hb=>hb.elim⟩|dct _ _ _=>exact(FJ e).elim|_=>cases e
 |tup h _ r n q=>injection e with e;subst e;exact⟨_,_,_,rfl,XC.of h,r.weak,λb hb=>(q b).mpr (.inr hb)⟩|lst=>cases e|lstF=>cases e|dct=>cases e
theorem OT{y:Bool}{o:HO}(h:xI K H y o ks vs)(e:PC (ks.zip ds)=some b):y=b:=by
 cases ks with
 |nil=>cases e|cons k ks =>
  cases ds with
  |nil=>cases e|cons d ds =>
   cases y with
   |true =>
    obtain⟨u,kvs,_,x,_⟩:=h;cases kvs with|nil=>cases x|cons p r=>rw[QO]at x;injection x with x _;subst x;injection e
   |false =>
    rcases h with⟨kvs,_,_,x,_⟩| ⟨_,_,x,_⟩
    rotate_left
    cases x;cases kvs with
    |nil=>cases x|cons p r =>
     rw[QO]at x;injection x with x _;subst x;obtain⟨k,v⟩:=p;cases k with|inl i=>cases e|inr z=>injection e
theorem Tr.dc(f:Same F H)(h:Tr K F H st v t S)(e:t.vw=.dc b ks ts):∃a o vs S',v=.ref a/\H a=some o/\xI K F b o ks vs/\Trs K F H false vs ts S'/\(∀b,S' b->S b)/\∀w c,Same F w->Same w c->(∀b,S b->c b=H b)->c a=some o:=by
 cases h with
 |d r n =>
  cases r with
  |@dct X a o y l ds h q r =>
   have hl:y.length=ds.length:=by rw[q.len,Reps.length r]
   have g:(y.zip ds).map (λx=>x.1)=y:=W8 (Ww hl);have u:(y.zip ds).map (λx=>x.2)=ds:=W9 (Ww hl.symm);have e:UB (y.zip ds)=.dc b ks ts:=e;unfold UB at e;cases z:PC (y.zip ds) with
   |none=>rw[z]at e;cases e|some p =>
    rw[z]at e;injection e with z1 z2 z3;subst z1;rw[g]at z2;subst z2;have m:ts=ds.map T.d:=by have j:=congrArg (List.map T.d) u;rw[Qd]at j;rw[<- z3,<- j];rfl
    subst m;cases OT q z;exact⟨_,_,_,_,rfl,f _ _ h,q,Trs.of_reps r,λb hb=>hb.elim,λw c g u _=>u _ _ (g _ _ h)⟩
  |_=>cases e
 |dct h q _ r n s=>injection e with z1 z2 z3;subst z1 z2 z3;exact⟨_,_,_,_,rfl,h,q,r.weak,λb hb=>(s b).mpr (.inr hb),λw c _ _ k=>(k _ ((s _).mpr (.inl rfl))).trans h⟩|lst=>cases e|tup=>cases e|lstF=>cases e
theorem Tr.sc{x:D}(h:Tr K F H st v t S)(e:t.vw=.sc x):t=.d x/\Rep K F v x:=by
 cases h with
 |@d _ _ y _ r n =>
  cases y with
  |list ds=>cases e|tuple ds=>cases e|dict ds =>
   have e:UB ds=.sc x:=e;unfold UB at e;cases z:PC ds with|none=>rw[z]at e;injection e with e;subst e;exact⟨rfl,r⟩|some b=>rw[z]at e;cases e
  |_=>injection e with e;subst e;exact⟨rfl,r⟩
 |tup=>cases e|lst=>cases e|lstF=>cases e|dct=>cases e
theorem Tr.int(h:Tr K F H st v t S)(e:t.vw=.sc (.int i)):v=.int i:=by obtain⟨_,r⟩:=h.sc e;cases r;rfl
theorem Tr.str{i:Str}(h:Tr K F H st v t S)(e:t.vw=.sc (.str i)):v=.str i:=by obtain⟨_,r⟩:=h.sc e;cases r;rfl
end
end
def Sl.t:Sl->T
 | .own t=>t|.nv t=>t
def Sl.st:Sl->Bool
 | .own _=>true|.nv _=>false
noncomputable abbrev Ft:=Nat->Addr->Prop
structure Rl(K:QC)(F H:Hp)(S:Ft)(ρ:zA)(σ:St):Prop where
 fh:Same F H
 len:ρ.length=σ.length
 sl:∀(i:Nat) s,ρ[i]?=some (some s)->∃v,σ[i]?=some (some v)/\Tr K F H s.st v s.t (S i)
 dj:∀(i j:Nat) t s,i≠j->ρ[i]?=some (some (.own t))->ρ[j]?=some (some s)->∀b,S i b->¬ S j b
def U(ρ:zA)(S:Ft)(b:Addr):Prop:=∃(i:Nat) (t:T),ρ[i]?=some (some (.own t))/\S i b
structure Stp(F H:Hp)(S:Ft)(ρ:zA)(F' H':Hp)(S':Ft)(ρ':zA):Prop where
 ff:Same F F'
 hh:∀b u,H b=some u->¬ U ρ S b->H' b=some u
 dm:∀b,H' b=none->H b=none
 fn:∀b,F b=none->F' b≠none->U ρ S b∨H b=none
 uu:∀b,U ρ' S' b->U ρ S b∨H b=none
 bo:∀(j:Nat) t,ρ'[j]?=some (some (.nv t))->t.isD=false->ρ[j]?=some (some (.nv t))/\S' j=S j
structure Ste(F H:Hp)(S:Ft)(ρ:zA)(F' H':Hp)(S':Ft)(ρ':zA):Prop extends Stp F H S ρ F' H' S' ρ' where
 ow:∀(j:Nat) t,ρ'[j]?=some (some (.own t))->∃t0,ρ[j]?=some (some (.own t0))
section
variable{K:QC}{F H X m A C:Hp}{S S1 B:Ft}{ρ l Y:zA}{σ:St}
section
variable{v:V}{t:T}{Z W:fB}{i:Nat}{s:Sl}{b p:Addr}{vs:List Nat}{g:Hp}{c:Ft}{y:zA}{n:Bool}
theorem Stp.refl:Stp F H S ρ F H S ρ:=⟨.refl _,λ_ _ h _=>h,λ_ h=>h,λb h z=>absurd h z,λ_ h=>.inl h,λ_ _ h _=>⟨h,rfl⟩⟩
theorem Ste.refl:Ste F H S ρ F H S ρ:=⟨Stp.refl,λ_ t h=>⟨t,h⟩⟩
theorem Stp.trans(a:Stp F H S ρ X m S1 l)(b:Stp X m S1 l A C B Y):Stp F H S ρ A C B Y where
 ff:=a.ff.trans b.ff
 hh:=λx u h n=>b.hh x u (a.hh x u h n) λz=>by rcases a.uu x z with q|q;exact n q;rw[q]at h;cases h
 dm:=λx h=>a.dm x (b.dm x h)
 fn:=λx h z=>by
  by_cases q:X x=none;rcases b.fn x q z with w|w
  ·exact a.uu x w
  exact .inr (a.dm x w);exact a.fn x h q
 uu:=λx h=>by rcases b.uu x h with w|w;exact a.uu x w;exact .inr (a.dm x w)
 bo:=λj t h n=>by obtain⟨o,f⟩:=b.bo j t h n;obtain⟨e,k⟩:=a.bo j t o n;exact⟨e,f.trans k⟩
theorem Ste.trans(a:Ste F H S ρ X m S1 l)(b:Ste X m S1 l A C B Y):Ste F H S ρ A C B Y:=⟨a.toStp.trans b.toStp,λj t h=>by obtain⟨x,z⟩:=b.ow j t h;exact a.ow j x z⟩
theorem Stp.keep(s:Stp F H S ρ X m S1 l){st:Bool}(h:Tr K F H st v t Z)(n:∀b,Z b->¬ U ρ S b):Tr K X m st v t Z :=
 h.mono s.ff λb hb=>by
  obtain⟨x,w⟩:=h.dom b hb;refine⟨?_,?_⟩;cases e:H b with|none=>exact absurd e x|some u=>exact s.hh b u e (n b hb)
  by_cases q:X b=none
  ·exact q
  rcases s.fn b w q with z|z
  ·exact absurd z (n b hb)
  exact absurd z x
theorem Rl.dom(I:Rl K F H S ρ σ)(h:ρ[i]?=some (some s))(hb:S i b):H b≠none/\F b=none:=by obtain⟨v,_,r⟩:=I.sl i s h;exact r.dom b hb
theorem Rl.isD(I:Rl K F H S ρ σ)(h:ρ[i]?=some (some s))(x:s.t.isD=true):¬ S i b:=by
 obtain⟨v,_,r⟩:=I.sl i s h;generalize s.t=t at r x;generalize s.st=st at r;cases r with|d r n=>exact n b|_=>cases x
structure Held(F H:Hp)(S:Ft)(ρ:zA)(Z:fB):Prop where
 dom:∀b,Z b->H b≠none/\F b=none
 nw:∀(i:Nat) s,ρ[i]?=some (some s)->∀b,Z b->¬ S i b
theorem Held.nu(h:Held F H S ρ Z):∀b,Z b->¬ U ρ S b:=λb hb ⟨i,t,z,x⟩=>h.nw i _ z b hb x
theorem Held.step(h:Held F H S ρ Z)(s:Stp F H S ρ X m S1 l)(j:Rl K X m S1 l σ):Held X m S1 l Z where
 dom:=λb hb=>by
  obtain⟨u,k⟩:=h.dom b hb;refine⟨λz=>u (s.dm b z),?_⟩;by_cases q:X b=none;exact q;rcases s.fn b k q with z|z
  ·exact absurd z (h.nu b hb)
  exact absurd z u
 nw:=λi w e b hb z=>by
  cases w with
  |own t=>rcases s.uu b ⟨i,t,e,z⟩ with q|q;exact h.nu b hb q;exact(h.dom b hb).1 q
  |nv t =>
   cases x:t.isD with|true=>exact j.isD e x z|false=>obtain⟨f,a⟩:=s.bo i t e x;rw[a]at z;exact h.nw i _ f b hb z
theorem Held.none:Held F H S ρ λ_=>False:=⟨λ_ z=>z.elim,λ_ _ _ _ z=>z.elim⟩
def HH(F H:Hp)(W:fB):Hp:=open Classical in λb=>if W b then H b else F b
theorem GH(h:W b):HH F H W b=H b:=if_pos h
theorem gC(h:¬ W b):HH F H W b=F b:=if_neg h
theorem oG(h:∀b,W b->F b=none):Same F (HH F H W):=λb u e=>by rw[gC λz=>by rw[h b z]at e;cases e];exact e
theorem S5(f:Same F H):Same (HH F H W) H:=λb u e=>by by_cases hb:W b;rw[GH hb]at e;exact e;rw[gC hb]at e;exact f b u e
theorem Rl.frz(I:Rl K F H S ρ σ){W:fB}(h:Held F H S ρ W):Rl K (HH F H W) H S ρ σ where
 fh:=S5 I.fh
 len:=I.len
 sl:=λi s e=>by obtain⟨v,u,x⟩:=I.sl i s e;refine⟨v,u,x.mono (oG λb hb=>(h.dom b hb).2) λb hb=>⟨rfl,?_⟩⟩;rw[gC λz=>h.nw i s e b z hb];exact(x.dom b hb).2
 dj:=I.dj
theorem Stp.frz(s:Stp F H S ρ X m S1 l){W:fB}(x:∀b,W b->X b=none)(u:∀b,W b->H b=none∨U ρ S b):Stp F H S ρ (HH X m W) m S1 l :=
 ⟨s.ff.trans (oG x),s.hh,s.dm,λb h z=>by by_cases q:W b;exact(u b q).symm;rw[gC q]at z;exact s.fn b h z,s.uu,s.bo⟩
theorem Ste.frz(s:Ste F H S ρ X m S1 l){W:fB}(h:∀b,W b->X b=none)(x:∀b,W b->H b=none∨U ρ S b):Ste F H S ρ (HH X m W) m S1 l:=⟨s.toStp.frz h x,s.ow⟩
theorem Stp.new(s:Stp F H S ρ X m S1 l){p:Addr}(h:m p=none)(o:HO):Stp F H S ρ X (DA m p o) S1 l :=
 ⟨s.ff,λb u e n=>JB h b u (s.hh b u e n),λb e=>by by_cases hb:b=p;rw[hb,pA]at e;cases e;rw[kA hb]at e;exact s.dm b e,s.fn,s.uu,s.bo⟩
theorem Ste.new(s:Ste F H S ρ X m S1 l){p:Addr}(h:m p=none)(o:HO):Ste F H S ρ X (DA m p o) S1 l:=⟨s.toStp.new h o,s.ow⟩
theorem Rl.same(I:Rl K F H S ρ σ)(h:Same H m):Rl K F m S ρ σ where
 fh:=I.fh.trans h
 len:=I.len
 sl:=λi s e=>by
  obtain⟨v,z,x⟩:=I.sl i s e;refine⟨v,z,x.mono (.refl _) λb hb=>⟨?_,(x.dom b hb).2⟩⟩;cases e:H b with|none=>exact absurd e (x.dom b hb).1|some u=>exact h b u e
 dj:=I.dj
theorem Rl.new(I:Rl K F H S ρ σ){p:Addr}(h:H p=none)(o:HO):Rl K F (DA H p o) S ρ σ:=I.same (JB h)
theorem Stp.newT(s:Stp F H S ρ X m S1 l)(h:m p=none)(u:X p=none)(o:HO):Stp F H S ρ (DA X p o) (DA m p o) S1 l :=
 let x:=s.new h o
 ⟨s.ff.trans (JB u),x.hh,x.dm,λb e z=>by by_cases hb:b=p;rw[hb];exact .inr (s.dm p h);rw[kA hb]at z;exact s.fn b e z,s.uu,s.bo⟩
theorem Ste.newT(s:Ste F H S ρ X m S1 l)(h:m p=none)(x:X p=none)(o:HO):Ste F H S ρ (DA X p o) (DA m p o) S1 l:=⟨s.toStp.newT h x o,s.ow⟩
theorem Rl.newT(I:Rl K F H S ρ σ)(h:H p=none)(o:HO):Rl K (DA F p o) (DA H p o) S ρ σ where
 fh:=λb u e=>by by_cases hb:b=p;rw[hb,pA]at e ⊢;exact e;rw[kA hb]at e ⊢;exact I.fh b u e
 len:=I.len
 sl:=λi s e=>by obtain⟨v,k,x⟩:=I.sl i s e;refine⟨v,k,x.mono (JB (I.fh.free h)) λb hb=>?_⟩;have w:b≠p:=λz=>(x.dom b hb).1 (by rw[z];exact h);rw[kA w,kA w];exact⟨rfl,(x.dom b hb).2⟩
 dj:=I.dj
theorem DV(ρ:zA)(i:Nat):(lockA ρ)[i]?=ρ[i]?.map KG:=by unfold lockA;rw[Qc]
theorem eB{ρ:zA}(h:(lockA ρ)[i]?=some (some s)):∃x,ρ[i]?=some (some x)/\s=.nv x.t:=by
 rw[DV]at h;cases e:ρ[i]? with
 |none=>rw[e]at h;cases h|some o =>
  rw[e]at h;cases o with
  |none=>cases h|some x =>
   cases x with|own t=>injection h with h;injection h with h;subst h;exact⟨_,rfl,rfl⟩|nv t=>injection h with h;injection h with h;subst h;exact⟨_,rfl,rfl⟩
theorem uD(b:Addr):¬ U (lockA ρ) S b:=λ⟨i,t,h,_⟩=>by obtain⟨x,_,e⟩:=eB h;cases e
theorem Rl.lockA(I:Rl K F H S ρ σ):Rl K F H S (lockA ρ) σ where
 fh:=I.fh
 len:=by unfold L3.lockA;rw[QF];exact I.len
 sl:=λi s e=>by obtain⟨x,h,rfl⟩:=eB e;obtain⟨v,u,z⟩:=I.sl i x h;exact⟨v,u,z.weak⟩
 dj:=λi j t s _ h=>by obtain⟨x,_,e⟩:=eB h;cases e
theorem Stp.unlockA(s:Stp F H S (L3.lockA ρ) X m S1 l):Stp F H S ρ X m S ρ :=
 ⟨s.ff,λb u e _=>s.hh b u e (uD b),s.dm,λb h z=>(s.fn b h z).elim (λq=>absurd q (uD b)) .inr,λ_ h=>.inl h,λ_ _ h _=>⟨h,rfl⟩⟩
theorem Rl.unlockA(I:Rl K F H S ρ σ)(s:Stp F H S (L3.lockA ρ) X m S1 l)(f:Same X m):Rl K X m S ρ σ where
 fh:=f
 len:=I.len
 sl:=λi sl e=>by obtain⟨v,x,h⟩:=I.sl i sl e;exact⟨v,x,s.keep h λb _=>uD b⟩
 dj:=I.dj
structure VR(K:QC)(vs:List Nat)(g:Hp)(c:Ft)(y:zA)(F H:Hp)(S:Ft)(ρ:zA)(v:V)(t:T)(n:Bool)(Z:fB):Prop where
 tr:Tr K F H n v t Z
 fr:n=true->∀b,Z b->g b=none∨U y c b
 tm:n=false->∀b,Z b->∃(i:Nat) (s:Sl),i∈vs/\ρ[i]?=some (some s)/\S i b
 nw:n=true->∀(i:Nat) s,ρ[i]?=some (some s)->∀b,Z b->¬ S i b
theorem VR.d{vs:List Nat}{g:Hp}{c:Ft}{y:zA}{v:V}{x:D}(n:Bool)(r:Rep K F v x):VR K vs g c y F H S ρ v (.d x) n (λ_=>False) :=
 ⟨.d r λ_ z=>z,λ_ _ z=>z.elim,λ_ _ z=>z.elim,λ_ _ _ _ _ z=>z.elim⟩
theorem VR.held(h:VR K vs g c y F H S ρ v t true Z):Held F H S ρ Z:=⟨λb hb=>h.tr.dom b hb,h.nw rfl⟩
theorem VR.vars{ws:List Nat}(h:VR K vs g c y F H S ρ v t n Z)(k:∀i∈vs,i∈ws):VR K ws g c y F H S ρ v t n Z :=
 ⟨h.tr,h.fr,λe b hb=>let⟨i,s,z,x⟩:=h.tm e b hb;⟨i,s,k i z,x⟩,h.nw⟩
theorem VR.from(s:Stp F H S ρ X m S1 l)(h:VR K vs m S1 l A C B Y v t n Z):VR K vs H S ρ A C B Y v t n Z :=
 ⟨h.tr,λe b hb=>by rcases h.fr e b hb with q|q;exact .inl (s.dm b q);exact(s.uu b q).symm,h.tm,h.nw⟩
theorem VR.frz{vs:List Nat}{v:V}{t:T}{n:Bool}{Z:fB}(s:Ste F H S ρ X m S1 l)(I:Rl K X m S1 l σ)(h:VR K vs H S ρ X m S1 l v t n Z) :
  ∃A o,Ste F H S ρ A m S1 l/\Rl K A m S1 l σ/\Tr K A m false v (uA t n) o/\(bH t n=true->Rep K A v t.er)/\(∀b,o b->∃(i:Nat) (s:Sl),i∈vs/\l[i]?=some (some s)/\S1 i b) /\
   ∀st a t' k,Tr K X m st a t' k->(∀b,k b->∃(i:Nat) (s:Sl),l[i]?=some (some s)/\S1 i b)->Tr K A m st a t' k:=by
 cases n with
 |true =>
  have w:=h.held;have j:=oG (H:=m) λb hb=>(w.dom b hb).2;have f:=h.tr.kept j λb u hb e=>by rw[GH hb];exact e
  refine⟨HH X m Z,λ_=>False,s.frz (λb hb=>(w.dom b hb).2) (h.fr rfl),I.frz w,.d f λ_ z=>z,λ_=>f,λb z=>z.elim,λst a t' k r G=>r.mono j λb hb=>⟨rfl,?_⟩⟩;obtain⟨i,E,L,J⟩:=G b hb;rw[gC λz=>w.nw i E L b z J];exact(r.dom b hb).2
 |false =>
  refine⟨X,Z,s,I,h.tr,?_,h.tm rfl,λ_ _ _ _ r _=>r⟩;intro e;have q:=h.tr;cases t with
  |d x=>cases q with|d r n=>exact r
  |_=>cases e
end
end
noncomputable abbrev kB(K:QC)(vs:List Nat)(F H:Hp)(S:Ft)(ρ:zA)(σ:St)(Q:TK)(R:VK):Prop :=
 ∀v z x y h t n Z,Ste F H S ρ z x y h->Rl K z x y h σ->VR K vs H S ρ z x y h v t n Z->Q t n h->R v x
noncomputable abbrev UG(K:QC)(F H:Hp)(S:Ft)(ρ:zA)(σ:St)(Q:Bool->zA->Prop)(R:Bool->Hp->Prop):Prop :=
 ∀b z x y h,Ste F H S ρ z x y h->Rl K z x y h σ->Q b h->R b x
section
variable{K:QC}{ws:List Nat}{F H M J:Hp}{S S1:Ft}{ρ L:zA}{σ:St}{v w:V}{a b:T}{N Zb:fB}{Q:TK}{R:VK}{O sb:Bool}
section
variable{G E:Hp}{B:Ft}{X:zA}{p:Addr}{vs xs:List V}{ts:List T}{ds ks:List D}{x y:D}{u:Bool->Prop}{o:HO}{A:CmpOp}{C:Bool->Hp->Prop}{n:String}{k:Bool}{Y:fB}
theorem kB.from(k:kB K ws F H S ρ σ Q R)(s:Ste F H S ρ G E B X):kB K ws G E B X σ Q R:=λv i g e h t n Z z f r q=>k v i g e h t n Z (s.trans z) f (r.from s.toStp) q
theorem UG.from{Q:Bool->zA->Prop}{R:Bool->Hp->Prop}(k:UG K F H S ρ σ Q R)(s:Ste F H S ρ G E B X):UG K G E B X σ Q R:=λb i g e h z f q=>k b i g e h (s.trans z) f q
theorem kB.vars{us:List Nat}(k:kB K ws F H S ρ σ Q R)(h:∀i∈us,i∈ws):kB K us F H S ρ σ Q R:=λv g f e z t n Z s I r q=>k v g f e z t n Z s I (r.vars h) q
theorem kB.d(k:kB K ws F H S ρ σ Q R)(s:Ste F H S ρ M J S1 L)(I:Rl K M J S1 L σ){x:D}{n:Bool}(r:Rep K M v x)(q:Q (.d x) n L):R v J:=k v M J S1 L _ n _ s I (VR.d n r) q
theorem kB.list(k:kB K ws F H S ρ σ Q R)(s:Ste F H S ρ M J S1 L)(I:Rl K M J S1 L σ)(f:J p=none){W:fB}(r:Trs K M J true vs ts W)
  (m:∀b,W b->H b=none∨U ρ S b) (g:Held M J S1 L W) (q:Q (.lst ts) true L):R (.ref p) (DA J p (.lst vs)):=by
 have l:∀b,J b≠none->b≠p:=λb h z=>h (by rw[z];exact f);refine k _ M _ S1 L _ true (λb=>b=p∨W b) (s.new f _) (I.new f _) ⟨.lst pA (I.fh.free f) (r.mono (.refl _) λb hb=>⟨?_,(g.dom b hb).2⟩) (λz=>(g.dom p z).1 f) (λb=>wj),λ_ b hb=>?_,λz=>(by cases z),λ_ i j e b hb z=>?_⟩ q;rw[kA (l b (g.dom b hb).1)];rcases hb with rfl|hb
 ·exact .inl (s.dm _ f)
 exact m b hb;rcases hb with rfl|hb
 ·exact(I.dom e z).1 f
 exact g.nw i j e b hb z
theorem kB.listD(k:kB K ws F H S ρ σ Q R)(s:Ste F H S ρ M J S1 L)(I:Rl K M J S1 L σ)(h:J p=none)(r:Reps K M vs ds)(q:Q (.lst (ds.map T.d)) true L):R (.ref p) (DA J p (.lst vs)) :=
 k.list s I h (Trs.of_reps r) (λb z=>z.elim) .none q
theorem kB.tupD(k:kB K ws F H S ρ σ Q R)(s:Ste F H S ρ M J S1 L)(I:Rl K M J S1 L σ)(h:J p=none){n:Bool}(r:Reps K M vs ds)(q:Q (.d (.tuple ds)) n L):R (.ref p) (DA J p (.tup vs)) :=
 kB.d k (s.newT h (I.fh.free h) _) (I.newT h _) (.tup (XC.of pA) (r.mono (JB (I.fh.free h)))) q
theorem kB.tup(k:kB K ws F H S ρ σ Q R)(s:Ste F H S ρ M J S1 L)(I:Rl K M J S1 L σ){p:Addr}(f:J p=none){vs:List V}{ts:List T}{W:fB}(r:Trs K M J true vs ts W)
  (m:∀b,W b->H b=none∨U ρ S b) (g:Held M J S1 L W) (q:Q (FF ts) true L):R (.ref p) (DA J p (.tup vs)):=by
 unfold FF at q;cases e:nE ts with
 |some ds=>rw[e]at q;exact k.tupD s I f (r.un e).1 q|none =>
  rw[e]at q;have l:∀b,J b≠none->b≠p:=λb h z=>h (by rw[z];exact f);refine k _ M _ S1 L _ true (λb=>b=p∨W b) (s.new f _) (I.new f _) ⟨.tup pA (I.fh.free f) (r.mono (.refl _) λb hb=>⟨?_,(g.dom b hb).2⟩) (λz=>(g.dom p z).1 f) (λb=>wj),λ_ b hb=>?_,λz=>(by cases z),λ_ i j e b hb z=>?_⟩ q;rw[kA (l b (g.dom b hb).1)];rcases hb with rfl|hb
  ·exact .inl (s.dm _ f)
  exact m b hb;rcases hb with rfl|hb
  ·exact(I.dom e z).1 f
  exact g.nw i j e b hb z
theorem cb{A:Operator}(s:Ste F H S ρ M J S1 L)(I:Rl K M J S1 L σ)(Z:Tr K M J O v a N)(r:Tr K M J sb w b Zb)(h:binT A a.vw b.vw λz n=>Q z n L)(k:kB K ws F H S ρ σ Q R):t6 K A v w J R:=by
 have W:∀{i j:Int},a.vw=.sc (.int i)->b.vw=.sc (.int j)->v=.int i/\w=.int j:=λf e=>⟨Z.int f,r.int e⟩
 cases A with
 |Add =>
  rcases h with⟨i,j,f,e,h⟩| ⟨x,y,f,e,h⟩| ⟨xs0,P,ds,es,f,e,e1,e2,hl,q⟩| ⟨xs0,P,ds,es,f,e,e1,e2,hn,hn2,hl,q⟩
  obtain⟨rfl,rfl⟩:=W f e;exact k.d s I (.int _) h;obtain rfl:=Z.str f;obtain rfl:=r.str e;exact⟨h.1,k.d s I (.str _) h.2⟩;obtain⟨p,xs,_,rfl,hp,rp,_⟩:=Z.ls I.fh f;obtain⟨p2,ys,_,rfl,hq,rq,_⟩:=r.ls I.fh e;have m:=(rp.un e1).1;have g:=(rq.un e2).1;exact .inl ⟨xs,ys,hp,hq,by rw[m.length,g.length];exact hl,λl hl=>k.listD s I hl (m.append g) q⟩;obtain⟨p,xs,_,rfl,hp,rp,_⟩:=Z.tp I.fh f;obtain⟨p2,ys,_,rfl,hq,rq,_⟩:=r.tp I.fh e;have m:=(rp.un e1).1;have g:=(rq.un e2).1;refine .inr ⟨p,p2,xs,ys,rfl,rfl,hp,hq,?_,by rw[m.length,g.length];exact hl,λz=>?_,λ_ l hl=>?_⟩;intro z;subst z;cases m;exact hn rfl;subst z;cases g;exact absurd rfl hn2;exact k.tupD s I hl (m.append g) q
 |Sub=>obtain⟨i,j,f,e,h⟩:=h;obtain⟨rfl,rfl⟩:=W f e;exact k.d s I (.int _) h|Mult =>
  rcases h with⟨i,j,f,e,h⟩| ⟨x,y,f,e,h⟩
  obtain⟨rfl,rfl⟩:=W f e;exact⟨h.1,k.d s I (.int _) h.2⟩;obtain rfl:=Z.str f;obtain rfl:=r.int e;exact⟨h.1,k.d s I (.str _) h.2⟩
 |FloorDiv=>obtain⟨i,j,f,e,h⟩:=h;obtain⟨rfl,rfl⟩:=W f e;exact⟨h.1,k.d s I (.int _) h.2⟩|Mod=>obtain⟨i,j,f,e,h⟩:=h;obtain⟨rfl,rfl⟩:=W f e;exact⟨h.1,k.d s I (.int _) h.2⟩|_=>exact h.elim
theorem Z7(neg:Bool)(e:Rep K J v x)(z:Rep K J w y)(h:Uh x y λk=>u (if neg then !k else k))(k:∀c,u c->R (.bl c) J):rEq K neg v w J R:=by
 have m:eE x/\eE y/\u (if neg then !PyData.eqv x y else Qz x y)->(∃l f,Rep K J v l/\Rep K J w f/\eE l/\eE f/\R (.bl (if neg then !PyData.eqv l f else Qz l f)) J):=λ⟨s,r,q⟩ =>
  ⟨x,y,e,z,s,r,k _ q⟩
 unfold Uh at h;split at h;cases e;cases z;exact k _ h;cases e;cases z;exact k _ h;cases e;cases z;exact k _ h;have g:=m h;rename_i n1 n2 n3;cases e with
 |int i =>
  cases z with|int j=>exact absurd rfl (n1 i j rfl)|_=>exact g
 |str i =>
  cases z with|str j=>exact absurd rfl (n2 i j rfl)|_=>exact g
 |bl i =>
  cases z with|bl j=>exact absurd rfl (n3 i j rfl)|_=>exact g
 |_=>exact g
theorem lZ{F:Hp}{v w:V}{a b:D}(z:Rep K F v a)(h:Rep K F w b)(f:tB a=true)(e:tB b=true):A5 v w=Qz a b:=by cases z<;>cases h<;>first|exact absurd (show false=true from f) QD|exact absurd (show false=true from e) QD | (simp only[Qz];rfl) | (simp only[Qz])
theorem IR{F:Hp}{v:V}{a:D}(h:Rep K F v a)(z:tB a=true):OF v=true:=by cases h<;>first|rfl|exact absurd (show false=true from z) QD
theorem zQ{F:Hp}(h:Reps K F vs ds)(f:ds.all tB=true):vs.all OF=true :=
 Reps.ind (R:=λvs ds=>ds.all tB=true->vs.all OF=true) (λ_=>rfl) (λh z f=>by rw[qr,Qg]at f ⊢;exact⟨IR h f.1,z f.2⟩) h f
theorem GK{F:Hp}{v:V}{a:D}(z:Rep K F v a)(g:tB a=true):∀{vs:List V}{ds:List D},Reps K F vs ds->ds.all tB=true->inV v vs=ds.any λy=>Qz y a
 |_,_,.nil,_=>rfl|_,_,.cons h t,f=>by rw[qr,Qg]at f;have e:=GK z g t f.2;unfold inV at e ⊢;rw[WP,WP,lZ h z f.1 g,e]
theorem dG{k:List Key}(h:Reps K F xs (k.map kD)):xs=k.map kV:=by
 induction k generalizing xs with
 |nil=>cases h;rfl|cons i k z =>
  cases h with|cons h t=>rw[QO,z t];cases i<;>(cases h;rfl)
theorem uG(q:List Key):∀(kvs:List KE),aG kvs q=(lA (kvs.map λp=>tD p.1) (tD q)).bind λn=>(kvs.map (·.2.2))[n]?
 |[]=>rfl|p::r=>by rw[QO,QO];unfold lA;by_cases e:p.1=q;rw[KO e,if_pos (by rw[e])];rfl;rw[VO e,if_neg λz=>e (HW z),uG q r];cases lA (r.map λp=>tD p.1) (tD q)<;>rfl
theorem uI(q:Key):∀(kvs:List (Key×V)),LJ kvs q=(lA (kvs.map λp=>kD p.1) (kD q)).bind λn=>(kvs.map (·.2))[n]?
 |[]=>rfl|p::r=>by rw[QO,QO];unfold lA;by_cases e:p.1=q;rw[GJ e,if_pos (by rw[e])];rfl;rw[HJ e,if_neg λz=>e (DR z),uI q r];cases lA (r.map λp=>kD p.1) (kD q)<;>rfl
theorem xI.get{a:Addr}{b:Bool}{k:D}(e:J a=some o)(q:xI K J b o ks vs)(g:Rep K J w k)(hk:pF b k):sO K J a w ((lA ks k).bind λn=>vs[n]?):=by
 cases b with
 |true =>
  obtain⟨f,h,rfl,rfl,rfl,l,_⟩:=q;obtain⟨q,rfl⟩:=hk;cases g with|tup j i=>cases dG i;exact⟨f,h,q,e,l,j,(uG q h).symm⟩
 |false =>
  obtain⟨z,rfl⟩:=hk;cases g;rcases q with⟨h,_,rfl,rfl,rfl,_⟩| ⟨f,rfl,rfl,rfl⟩
  exact .inl ⟨h,e,(uI (.inr z) h).symm⟩;exact .inr ⟨f,e,rfl⟩
theorem kQ{b:Bool}{k:D}(q:xI K J b o ks vs):((lA ks k).bind λn=>vs[n]?).isSome=(lA ks k).isSome:=by
 cases e:lA ks k with
 |none=>rfl|some n =>
  have z:=(Qe.mp (ZE e)).1;have h:n<vs.length:=by rw[<- q.len];exact z
  simp[h]
theorem HR{b neg:Bool}{a:Addr}(e:J a=some o)(q:xI K J b o ks vs)(z:Rep K J v x)(hk:pF b x)(h:R (.bl (if neg then !(lA ks x).isSome else(lA ks x).isSome)) J):zP K neg v (.ref a) J R :=
 .inr (.inr ⟨_,q.get e z hk,by rw[kQ q];exact h⟩)
theorem e7(neg:Bool)(z:Rep K J v x)(f:Rep K J w y)(h:Kh x y λk=>u (if neg then !k else k))(k:∀c,u c->R (.bl c) J):zP K neg v w J R:=by
 unfold Kh at h;split at h;cases z;cases f;exact k _ h;rename_i ds;have e:=f;cases f with
 |lst m g =>
  rcases h.1 with⟨i,fs⟩| ⟨l,j⟩
  refine .inl ⟨_,_,rfl,.inl m,IR z i,zQ g fs,?_⟩;rw[GK z i g fs];exact k _ h.2;exact .inr (.inl ⟨_,ds,z,.inl e,l,j,k _ h.2⟩)
 rename_i ds;have e:=f;cases f with
 |tup m g =>
  rcases h.1 with⟨i,fs⟩| ⟨l,j⟩
  refine .inl ⟨_,_,rfl,.inr m,IR z i,zQ g fs,?_⟩;rw[GK z i g fs];exact k _ h.2;exact .inr (.inl ⟨_,ds,z,.inr e,l,j,k _ h.2⟩)
 obtain⟨b,Z,hk,q⟩:=h;cases f with
 |@dct W a o ks vs ds h s r =>
  have hl:ks.length=ds.length:=by rw[s.len,Reps.length r]
  rw[W8 (Ww hl)]at q;cases OT s Z;exact HR h s z hk (k _ q)
 exact h.elim
theorem fN{g:Int->Int->Bool}(e:Rep K J v x)(z:Rep K J w y)(h:fV g x y u)(k:∀c,u c->R (.bl c) J):yV g v w J R:=by unfold fV at h;split at h;cases e;cases z;exact k _ h;exact h.elim
theorem uS(e:Rep K J v x)(z:Rep K J w y)(h:vW A x y u)(k:∀c,u c->R (.bl c) J):BZ K A v w J R:=by
 cases A with|Eq=>exact Z7 false e z h k|NotEq=>exact Z7 true e z h k|Lt=>exact fN e z h k|LtE=>exact fN e z h k|Gt=>exact fN e z h k|GtE=>exact fN e z h k|In=>exact e7 false e z h k|NotIn=>exact e7 true e z h k|Is=>obtain⟨a,b,rfl,rfl,q⟩:=h;cases z;cases e;exact⟨_,_,rfl,rfl,k _ q⟩|IsNot=>exact h.elim
theorem k6(f:Same M J)(z:Rep K J v x)(e:Tr K M J sb w b Zb)(h:v6 A x b u)(k:∀c,u c->R (.bl c) J):BZ K A v w J R:=by
 cases b with
 |d y=>exact uS z (e.rep f) h k|lst ts=>exact uS z (e.rep f) h k|tup ts=>exact uS z (e.rep f) h k|dct b ks ts =>
  obtain⟨hk,h⟩:=h;cases e with
  |dct g i _ _ _ _ =>
   rcases h with⟨rfl,q⟩| ⟨rfl,q⟩
   exact HR (neg:=false) g (i.mono f) z hk (k _ q);exact HR (neg:=true) g (i.mono f) z hk (k _ q)
theorem DH(r:Reps K F xs ds):(!ds.isEmpty)=!xs.isEmpty:=by cases r<;>rfl
theorem MS(z:Rep K J v x)(h:pH x u)(k:∀c,u c->C c J):oF K v J C:=by
 unfold pH at h;split at h;cases z;exact k _ h;cases z;exact k _ h;cases z;exact k _ h;cases z;exact⟨h.1,k _ h.2⟩;cases z with|lst f e=>rw[DH e]at h;exact⟨_,.inl ⟨_,f,rfl⟩,k _ h⟩
 cases z with|tup f e=>rw[DH e]at h;exact⟨_,.inr (.inl ⟨_,f,rfl⟩),k _ h⟩
 exact h.elim
theorem RZ(z:Rep K J v x)(h:gc x u)(k:∀c,u c->C c J):SZ v J C:=by unfold gc at h;split at h;cases z;exact k _ h;exact h.elim
theorem Ka(s:Ste F H S ρ M J S1 L)(I:Rl K M J S1 L σ)(P:Tr K M J O v a N)(za:∀b,N b->∃(i:Nat) (s:Sl),i∈ws/\L[i]?=some (some s)/\S1 i b)(W:Tr K M J sb w b Zb)(h:lJ a.vw b.vw λz=>Q z false L)(k:kB K ws F H S ρ σ Q R):bJ K v w J R:=by
 rcases h with⟨z,i,c,l,j,g,f,q⟩| ⟨ts,i,d,l,j,g,q⟩| ⟨ts,i,d,l,j,g,q⟩
 obtain rfl:=P.str l;obtain rfl:=W.int j;exact⟨g,c,f,k.d s I (.str _) q⟩;obtain⟨p,xs,Z',rfl,hp,m,hz⟩:=P.ls I.fh l;obtain rfl:=W.int j;obtain⟨x,Z,f,r,e⟩:=m.at g;exact⟨xs,x,.inl hp,f,k _ M J S1 L _ false Z s I ⟨r,λz=>(by cases z),λ_ b hb=>za b (hz b (e b hb)),λz=>(by cases z)⟩ q⟩;obtain⟨p,xs,Z',rfl,hp,m,hz⟩:=P.tp I.fh l;obtain rfl:=W.int j;obtain⟨x,Z,f,r,e⟩:=m.at g;exact⟨xs,x,.inr hp,f,k _ M J S1 L _ false Z s I ⟨r,λz=>(by cases z),λ_ b hb=>za b (hz b (e b hb)),λz=>(by cases z)⟩ q⟩
theorem Ha(s:Ste F H S ρ M J S1 L)(I:Rl K M J S1 L σ)(m:Tr K M J O v a N)(f:∀b,N b->∃(i:Nat) (s:Sl),i∈ws/\L[i]?=some (some s)/\S1 i b)(l:Rep K J w y)(h:KL a.vw y λz=>Q z false L)(k:kB K ws F H S ρ σ Q R):bJ K v w J R:=by
 obtain⟨b,ks,ts,n,d,ea,hk,hf,P,q⟩:=h;obtain⟨p,o,vs,Z',rfl,hp,dk,j,W,_⟩:=m.dc I.fh ea;obtain⟨x,Z,h2,r,e⟩:=j.get P;have g:=(dk.mono I.fh).get hp l hk;rw[hf]at g;have g:sO K J p w (vs[n]?):=g;rw[h2]at g;have fin:=k _ M J S1 L _ false Z s I ⟨r,λz=>(by cases z),λ_ b hb=>f b (W b (e b hb)),λz=>(by cases z)⟩ q;cases w with|str z=>exact⟨x,g,fin⟩|ref c=>exact⟨x,g,fin⟩|_=>exact g.elim
theorem Reps.cut(r:Reps K F xs ds)(h z:Option Int):Reps K F (cQ xs h z) (BD ds h z):=by unfold cQ BD;rw[r.length];exact(r.drop _).take _
theorem l8{m r:Option Int}(s:Ste F H S ρ M J S1 L)(I:Rl K M J S1 L σ)(i:Tr K M J O v a N)(h:xJ a.vw m r λz n=>Q z n L)(k:kB K ws F H S ρ σ Q R):Ci K v m r J R:=by
 rcases h with⟨z,f,h⟩| ⟨ts,ds,f,e,q⟩| ⟨ts,ds,f,e,n,q⟩
 obtain rfl:=i.str f;exact⟨h.1,k.d s I (.str _) h.2⟩;obtain⟨p,xs,_,rfl,j,g,_⟩:=i.ls I.fh f;exact .inl ⟨p,xs,rfl,j,λl hl=>k.listD s I hl ((g.un e).1.cut _ _) q⟩;obtain⟨p,xs,_,rfl,j,g,_⟩:=i.tp I.fh f;refine .inr ⟨p,xs,rfl,j,by rw[(g.un e).1.length];exact n,λl hl=>k.tupD s I hl ((g.un e).1.cut _ _) q⟩
theorem R3{P:Option Int->Prop}{z:Option Int->Hp->Prop}(e:Rep K J v x)(h:XF x P)(k:∀o,P o->z o J):lK v J z:=by unfold XF at h;split at h;cases e;exact k _ h;exact h.elim
def ph:D->Value
 | .none=>.type "NoneType"|.bool _=>.type "bool"|.int _=>.type "int"|.str _=>.type "str"|.list _=>.type "list"|.tuple _=>.type "tuple"|.dict _=>.type "dict"
theorem Rep.ty(f:Rep K J v x):TyOf K J v (ph x)∨Vm K J v (ph x):=by
 cases f with
 |non=>exact .inl .non|bl b=>exact .inl (.bl _)|int b=>exact .inl (.int _)|str b=>exact .inl (.str _)|lst h e=>exact .inr (.inl ⟨_,_,rfl,h,rfl⟩)|tup h e=>exact .inr (.inr ⟨_,_,rfl,h,rfl⟩)|@dct b _ _ _ _ _ h q _ =>
  cases b with
  |true=>obtain⟨g,z,rfl,_⟩:=q;exact .inl (.dT h)|false =>
   rcases q with⟨z,_,rfl,_⟩| ⟨g,rfl,_⟩
   exact .inl (.dK h);exact .inl (.dT h)
theorem ya(h:isD n x=some k)(z:dM n=true):QBM K (ph x) (.type n)=some k:=by simp only[dM,wV,beq_iff_eq]at z;rcases z with((((rfl|rfl)|rfl)|rfl)|rfl)|rfl<;>cases x<;>simp[isD]at h<;>subst h<;>rfl
theorem aa(z:Rep K J v x)(h:isD n x=some k)(e:dM n=true)(q:R (.bl k) J):B8 K [v,.ty n] J R :=
 ⟨ph x,.type n,k,z.ty,rfl,ya h e,q⟩
inductive Tn(K:QC)(F H:Hp)(Y:fB):List V->List T->Prop where
 |nil:Tn K F H Y [] []
 |cons {v:V}{t:T}{vs:List V}{ts:List T}{Z:fB}:Tr K F H false v t Z->(∀b,Z b->Y b)->Tn K F H Y vs ts->Tn K F H Y (v::vs) (t::ts)
theorem DJ(ts:List T):∀{xs:List (T×Bool)},YL xs=ts->vC xs=ts.map T.vw
 |[],h=>by subst h;rfl|p::r,h=>by subst h;simp only[vC,YL,QO,DJ _ rfl]
theorem Tn.one{x:Vw}(h:Tn K F H Y vs ts)(e:ts.map T.vw=[x]):∃v t Z,vs=[v]/\ts=[t]/\t.vw=x/\Tr K F H false v t Z/\∀b,Z b->Y b:=by
 cases h with
 |nil=>cases e|cons r z t =>
  simp only[QO,QAQ]at e;cases t with|nil=>exact⟨_,_,_,rfl,rfl,e.1,r,z⟩|cons _ _ _=>simp at e
theorem lD:∀{xs:List V}{z:List Str},Reps K F xs (z.map PyData.str)->xs=z.map V.str
 |_,[],.nil=>rfl|_,y::z,.cons h t=>by cases h;rw[QO,lD t]
theorem cI:∀(h:List Str),Reps K F (h.map V.str) (h.map PyData.str)
 |[]=>.nil|y::h=>.cons (.str y) (cI h)
theorem TU{α:Type}{g:α->D}{e:List V}(I:xs.Perm e):∀{l:List α},Reps K F xs (l.map g)->∃z:List α,z.Perm l/\Reps K F e (z.map g):=by
 induction I with
 |nil=>intro l r;exact⟨l,wf _,r⟩|cons x _ s =>
  intro l r;cases l with
  |nil=>cases r|cons a l=>cases r with|cons h t=>obtain⟨z,p,v⟩:=s t;exact⟨a::z,p.cons _,.cons h v⟩
 |swap x y l0 =>
  intro l r;cases l with
  |nil=>cases r|cons a l=>cases l with
   |nil=>cases r with|cons h t=>cases t
   |cons b l=>cases r with
    |cons h t=>cases t with|cons P t=>exact⟨b::a::l,List.Perm.swap _ _ _,.cons P (.cons h t)⟩
 |trans _ _ W Z=>intro l r;obtain⟨l1,m,i⟩:=W r;obtain⟨q,j,f⟩:=Z i;exact⟨q,j.trans m,f⟩
theorem kR{ls:List (List Str)}(h:Reps K F xs (ls.map gB)):∀x∈xs,∃a,∃ss:List Str,x=.ref a/\yC K F a (ss.map V.str):=by
 induction ls generalizing xs with
 |nil=>cases h;exact λ_ z=>nomatch z
 |cons l ls f =>
  cases h with
  |cons r t =>
   intro x h;rcases QK.mp h with e|h;subst e;cases r with|lst q r=>exact⟨_,l,rfl,by rw[<- lD r];exact q⟩
   exact f t x h
theorem Ub{bi:Bi}(s:Ste F H S ρ M J S1 L)(I:Rl K M J S1 L σ)(i:Tn K M J Y vs ts)(h:oW bi (ts.map T.vw) λz n=>Q z n L)(k:kB K ws F H S ρ σ Q R):Rf K bi vs J R:=by
 cases bi with
 |len =>
  rcases h with⟨z,e,h⟩| ⟨m,e,h⟩| ⟨m,e,h⟩
  obtain⟨v,t,Z,rfl,rfl,e,r,_⟩:=i.one e;obtain rfl:=r.str e;exact .inl ⟨_,rfl,h.1,k.d s I (.int _) h.2⟩;obtain⟨v,t,Z,rfl,rfl,e,r,_⟩:=i.one e;obtain⟨p,xs,_,rfl,f,g,_⟩:=r.ls I.fh e;exact .inr ⟨_,xs,rfl,.inl f,by rw[g.length];exact k.d s I (.int _) h⟩;obtain⟨v,t,Z,rfl,rfl,e,r,_⟩:=i.one e;obtain⟨p,xs,_,rfl,f,g,_⟩:=r.tp I.fh e;exact .inr ⟨_,xs,rfl,.inr f,by rw[g.length];exact k.d s I (.int _) h⟩
 |any=>obtain⟨m,bs,e,hb,q⟩:=h;obtain⟨v,t,Z,rfl,rfl,e,r,_⟩:=i.one e;obtain⟨p,xs,_,rfl,f,g,_⟩:=r.ls I.fh e;obtain rfl:=(g.un hb).1.bools;exact⟨bs,f,k.d s I (.bl _) q⟩|all=>obtain⟨m,bs,e,hb,q⟩:=h;obtain⟨v,t,Z,rfl,rfl,e,r,_⟩:=i.one e;obtain⟨p,xs,_,rfl,f,g,_⟩:=r.ls I.fh e;obtain rfl:=(g.un hb).1.bools;exact⟨bs,f,k.d s I (.bl _) q⟩|list=>obtain⟨m,ds,e,hb,q⟩:=h;obtain⟨v,t,Z,rfl,rfl,e,r,_⟩:=i.one e;obtain⟨p,xs,_,rfl,f,g,_⟩:=r.ls I.fh e;exact⟨_,xs,rfl,.inl f,λl hl=>k.listD s I hl (g.un hb).1 q⟩|sorted =>
  rcases h with⟨m,P,e,hb,j,q⟩| ⟨m,ls,e,hb,j,q⟩
  obtain⟨v,t,Z,rfl,rfl,e,r,_⟩:=i.one e;obtain⟨p,xs,_,rfl,f,g,_⟩:=r.ls I.fh e;obtain rfl:=lD (g.un hb).1;exact⟨_,rfl,.inl ⟨P,f,j,λl W hl p1 p2=>k.listD s I hl (cI W) (q W p1 p2)⟩⟩;obtain⟨v,t,Z,rfl,rfl,e,r,_⟩:=i.one e;obtain⟨p,xs,_,rfl,f,g,_⟩:=r.ls I.fh e;have rr:=(g.un hb).1;refine⟨_,rfl,.inr ⟨xs,f,by rw[Reps.length rr,QF];exact j,λx hx=>?_,λl ys hl f=>?_⟩⟩;obtain⟨a,P,e,sq⟩:=kR rr x hx;exact⟨a,P,e,I.fh.seq sq⟩;obtain⟨ls',p1,r1⟩:=TU f.symm rr;exact k.listD s I hl r1 (q ls' p1)
theorem O9{m:Mt}(s:Ste F H S ρ M J S1 L)(I:Rl K M J S1 L σ)(g:Tr K M J O v a N)(j:Tn K M J Y vs ts)(h:bc m a.vw (ts.map T.vw) λz n=>Q z n L)(k:kB K ws F H S ρ σ Q R):x5 K m v vs J R:=by
 cases m with|join=>obtain⟨z,us,f,P,e,l,hl,q⟩:=h;obtain⟨w,t,Z,rfl,rfl,e,r,_⟩:=j.one e;obtain rfl:=g.str P;obtain⟨p,xs,_,rfl,W,i,_⟩:=r.ls I.fh e;obtain rfl:=lD (i.un l).1;exact⟨z,p,f,rfl,rfl,W,hl,k.d s I (.str _) q⟩|_=>exact h.elim
theorem Ie{x:Vw}(h:x.isS=true):∃z,x=.sc (.str z):=by
 cases x with
 |sc d=>cases d with|str z=>exact⟨z,rfl⟩|_=>exact(QD h).elim
 |_=>exact(QD h).elim
theorem Fe{m:Mt}(e:Tr K M J O v a N)(h:KR m a.vw=true):HS K m.ty v J:=by
 have h:=yA h;obtain⟨z,f⟩:=Ie h.1;obtain rfl:=e.str f;cases m with|join=>rfl|_=>exact(QD h.2).elim
end
end
inductive AV(K:QC)(F H:Hp):List Md->List V->List (T×Bool)->(Addr->Prop)->(Addr->Prop)->Prop where
 |nil {md:List Md}{W Y:fB}:(∀b,¬ W b)->AV K F H md [] [] W Y
 |chg {md:List Md}{v:V}{vs:List V}{x:T}{xs:List (T×Bool)}{W Y:fB}:(md.headD .ny).isMut=true->AV K F H md.tail vs xs W Y->AV K F H md (v::vs) ((x,true)::xs) W Y
 |new {md:List Md}{v:V}{vs:List V}{x:T}{xs:List (T×Bool)}{Z W W' Y:fB}:(md.headD .ny).isMut=false->Tr K F H true v x Z->AV K F H md.tail vs xs W' Y->(∀b,Z b->¬ W' b)->(∀b,W b↔Z b∨W' b) ->
   AV K F H md (v::vs) ((x,true)::xs) W Y
 |tmp {md:List Md}{v:V}{vs:List V}{x:T}{xs:List (T×Bool)}{Z W Y:fB}:(md.headD .ny).isMut=false->Tr K F H false v x Z->(∀b,Z b->Y b)->AV K F H md.tail vs xs W Y ->
   AV K F H md (v::vs) ((x,false)::xs) W Y
section
variable{K:QC}{F H o l:Hp}{S S1:Ft}{ρ g:zA}{σ:St}
section
variable{Y W:fB}{md:List Md}{vs:List V}{xs:List (T×Bool)}{ws:List Nat}{c:Hp}{w:Ft}{y:zA}
theorem AV.sub{u:fB}(h:AV K F H md vs xs W Y)(k:∀b,Y b->u b):AV K F H md vs xs W u:=by
 induction h with|nil h=>exact .nil h|chg h t x=>exact .chg h (x k)|new h r t n q x=>exact .new h r (x k) n q|tmp h r z t x=>exact .tmp h r (λb hb=>k b (z b hb)) (x k)
theorem AV.dom(h:AV K F H md vs xs W Y):∀b,W b->H b≠none/\F b=none:=by
 induction h with|nil h=>exact λb hb=>absurd hb (h b)|chg h t x=>exact x|new h r t n q x=>exact λb hb=>((q b).mp hb).elim (r.dom b) (x b)|tmp h r z t x=>exact x
theorem AV.length(h:AV K F H md vs xs W Y):vs.length=xs.length:=by
 induction h with|nil h=>rfl|chg h t x=>simp[x]|new h r t n q x=>simp[x]|tmp h r z t x=>simp[x]
theorem AV.trs(h:AV K F H md vs xs W Y):(∀(i:Nat),(md.getD i .ny).isMut=false)->kF xs=true->Trs K F H true vs (iF xs) W:=by
 induction h with
 |nil h=>exact λ_ _=>.nil h|@chg md _ _ _ _ _ _ h t u =>
  intro m;have:=m 0;cases md with|nil=>cases h|cons a r=>exact absurd h (by simpa using this)
 |@new md v vs x xs Z W k Y h r t n q u =>
  intro m e;simp only[kF,Qg]at e;exact .cons r (u (λi=>by cases md with|nil=>exact m i|cons a md=>exact m (i+1)) e.2) n q
 |@tmp md v vs x xs Z W Y h r z t u =>
  intro m e;simp only[kF,Qg]at e;refine .cons (S1:=λ_=>False) ?_ (u (λi=>by cases md with|nil=>exact m i|cons a md=>exact m (i+1)) e.2) (λ_ z=>z.elim) λb=>by simp
  cases x with
  |d x=>cases r with|d r n=>exact .d r λ_ z=>z
  |_=>exact absurd e.1 (by simp[bH,T.isD])
theorem B9(i:Nat):((([]:List Md).getD i .ny).isMut)=false:=rfl
theorem AV.tn(h:AV K F H md vs xs W Y)(e:Same F o)(k:∀b,W b->o b=H b)(f:∀b,Y b->F b=none->o b=none)(i:md=[]):Tn K o H Y vs (YL xs):=by
 induction h with|nil h=>exact .nil|chg h t a=>subst i;cases h|@new md v vs x xs Z W m Y h r t n q a=>subst i;refine .cons (Z:=λ_=>False) ?_ (λb z=>z.elim) (a (λb hb=>k b ((q b).mpr (.inr hb))) f rfl);exact .d (r.kept e λb u hb j=>by rw[k b ((q b).mpr (.inl hb))];exact j) λ_ z=>z|@tmp md v vs x xs Z W Y h r z t a=>subst i;exact .cons (r.mono e λb hb=>⟨rfl,f b (z b hb) (r.dom b hb).2⟩) z (a k f rfl)
structure AR(K:QC)(ws:List Nat)(md:List Md)(c:Hp)(w:Ft)(y:zA)(F H:Hp)(S:Ft)(ρ:zA)(vs:List V)(xs:List (T×Bool))(W Y:fB):Prop where
 av:AV K F H md vs xs W Y
 fr:∀b,W b->c b=none∨U y w b
 tm:∀b,Y b->∃(i:Nat) (s:Sl),i∈ws/\ρ[i]?=some (some s)/\S i b
 nw:∀(i:Nat) s,ρ[i]?=some (some s)->∀b,W b->¬ S i b
theorem AR.held(h:AR K ws md c w y F H S ρ vs xs W Y):Held F H S ρ W:=⟨h.av.dom,h.nw⟩
theorem AR.from{v u:Hp}{z:Ft}{x:zA}(s:Stp F H S ρ o l S1 g)(h:AR K ws md l S1 g v u z x vs xs W Y):AR K ws md H S ρ v u z x vs xs W Y :=
 ⟨h.av,λb hb=>by rcases h.fr b hb with q|q;exact .inl (s.dm b q);exact(s.uu b q).symm,h.tm,h.nw⟩
theorem AR.vars{us:List Nat}(h:AR K ws md c w y F H S ρ vs xs W Y)(k:∀i∈ws,i∈us):AR K us md c w y F H S ρ vs xs W Y :=
 ⟨h.av,h.fr,λb hb=>let⟨i,s,z,x⟩:=h.tm b hb;⟨i,s,k i z,x⟩,h.nw⟩
theorem AR.frz{ws:List Nat}{vs:List V}{xs:List (T×Bool)}{W Y:fB}(s:Ste F H S ρ o l S1 g)(I:Rl K o l S1 g σ)(h:AR K ws [] H S ρ o l S1 g vs xs W Y) :
  ∃v,Ste F H S ρ v l S1 g/\Rl K v l S1 g σ/\Tn K v l Y vs (YL xs) /\
   ∀st k t' u,Tr K o l st k t' u->(∀b,u b->∃(i:Nat) (s:Sl),g[i]?=some (some s)/\S1 i b)->Tr K v l st k t' u:=by
 have x:=h.held;have f:=oG (H:=l) λb hb=>(x.dom b hb).2;refine⟨HH o l W,s.frz (λb hb=>(x.dom b hb).2) h.fr,I.frz x,h.av.tn f (λb hb=>GH hb) (λb m n=>?_) rfl,λst k t' u r j=>r.mono f λb hb=>⟨rfl,?_⟩⟩;obtain⟨i,a,_,e,p⟩:=h.tm b m;rw[gC λz=>h.nw i a e b z p];exact n;obtain⟨i,a,q,e⟩:=j b hb;rw[gC λz=>x.nw i a q b z e];exact(r.dom b hb).2
def pB:List Md->List V->List V
 |_,[]=>[]|md,v::vs=>match md.headD .ny with
  | .chg=>v::pB md.tail vs|_=>pB md.tail vs
noncomputable abbrev Pg(K:QC)(p:PX)(md:List Md)(F H:Hp)(S:Ft)(ρ:zA)(σ:St)(Q:List (T×Bool)->zA->Prop)(R:List V->Hp->Prop):Prop :=
 ∀vs u x z h xs W Y,Ste F H S ρ u x z h->Rl K u x z h σ->AR K (tG p) md H S ρ u x z h vs xs W Y->(pB md vs).map (λv=>some (some v))=(fA md p).map (λj=>σ[j]?)->Q xs h->R vs x
def vg(K:QC)(F H:Hp)(x:XD)(h:Option Addr):Prop:=∃a fs,h=some a/\H a=some (.xd fs)/\Paired (λ(p:Str×V) (q:Str×D)=>p.1=q.1/\Rep K F p.2 q.2) fs x.2
def HE(K:QC)(F H:Hp)(S:Ft)(ρ:zA)(E:XE)(a:XK):Prop:=∀x v u h k z,Stp F H S ρ u h k z->Same u h->vg K u h x v->E x->a x.1 v h
theorem HE.from{E:XE}{u:XK}(h:HE K F H S ρ E u)(s:Stp F H S ρ o l S1 g):HE K o l S1 g E u:=λx k e b a z v f r q=>h x k e b a z (s.trans v) f r q
theorem HE.never:HE K F H S ρ (λ_=>False) (λ_ _ _=>False):=λ_ _ _ _ _ _ _ _ _ z=>z
inductive ArgsR(K:QC)(F H:Hp)(Y:fB):List Md->List V->List T->Prop where
 |nil {md:List Md}:ArgsR K F H Y md [] []
 |chg {md:List Md}{v:V}{vs:List V}{t:T}{ts:List T}:md.headD .ny=.chg->ArgsR K F H Y md.tail vs ts->ArgsR K F H Y md (v::vs) (t::ts)
 |rd {md:List Md}{v:V}{vs:List V}{t:T}{ts:List T}{Z:fB}:md.headD .ny≠.chg->Tr K F H false v t Z->(∀b,Z b->Y b)->ArgsR K F H Y md.tail vs ts->ArgsR K F H Y md (v::vs) (t::ts)
structure Frm(M:fB)(F H F' H':Hp):Prop where
 ff:Same F F'
 fh:Same F' H'
 hh:∀b u,H b=some u->¬ M b->H' b=some u
 dm:∀b,H' b=none->H b=none
 fn:∀b,F b=none->F' b≠none->M b∨H b=none
noncomputable def lift(K:QC)(P:PSp):Sp:=λvs H Q E=>∃(F:Hp) (u:List T) (M Y:fB),Same F H/\ArgsR K F H Y P.md vs u/\Trs K F H true (pB P.md vs) (CB P.md u) M/\(∀b,Y b->¬ M b) /\
 P.run u (λr e=>∀v z h Z k,Frm M F H z h->Tr K z h true v r Z->Trs K z h true (pB P.md vs) e k->(∀b,Z b->¬ k b)->(∀b,Z b∨k b->M b∨H b=none)->Q v h)
  (λx=>∀a z h,Frm M F H z h->vg K z h x a->E x.1 a h)
structure GOk(K:QC)(Γ:Ev)(Ψ:PEv):Prop where
 sp:∀f vs H Q E,lift K (Ψ.sp f) vs H Q E->Γ.sp f vs H Q E
 va:∀x d,Ψ.va x=some d->∀F,Rep K F (Γ.va x) d
structure PSnd(K:QC)(Γ:Ev)(Ψ:PEv)(p:PX):Prop where
 e:∀{E:XE}{EK:XK}{F H:Hp}{S:Ft}{ρ:zA}{σ:St}{Q:TK}{R:VK},Rl K F H S ρ σ->HE K F H S ρ E EK->(pe Ψ p E).e ρ Q->kB K (tG p) F H S ρ σ Q R->(wp K Γ p EK).e σ H R
 t:∀{E:XE}{EK:XK}{F H:Hp}{S:Ft}{ρ:zA}{σ:St}{Q:Bool->zA->Prop}{R:Bool->Hp->Prop},Rl K F H S ρ σ->HE K F H S ρ E EK->(pe Ψ p E).t ρ Q->UG K F H S ρ σ Q R->(wp K Γ p EK).t σ H R
 a:∀{E:XE}{EK:XK}{F H:Hp}{S:Ft}{ρ:zA}{σ:St}{md:List Md}{Q:List (T×Bool)->zA->Prop}{R:List V->Hp->Prop},Rl K F H S ρ σ->HE K F H S ρ E EK->(∀j∈fA md p,∃v,σ[j]?=some (some v))->(pe Ψ p E).a md ρ Q->Pg K p md F H S ρ σ Q R->(wp K Γ p EK).a σ H R
end
end
section
variable{K:QC}{Γ:Ev}{Ψ:PEv}{E:XE}{U:XK}{F H C B:Hp}{S S1:Ft}{ρ A:zA}{σ:St}
section
variable{b a u:PX}{RR:List V->Hp->Prop}{P:List (T×Bool)->zA->Prop}{Y Z:fB}{t:T}{st:Bool}{ts:List T}{v:V}
theorem Yd(O:PSnd K Γ Ψ b)(I:Rl K F H S ρ σ)(X:HE K F H S ρ E U){x:T}{P:T×Bool->zA->Prop}{RR:VK}(h:sq x ρ (cu (pe Ψ b E).e) P)
  (N:∀w o g S' k y m Z,Ste F H S ρ o g S' k->Rl K o g S' k σ->(∀st v l,Tr K F H st v x l->Tr K o g st v x l)->(x.isD=false->k=ρ/\S'=S)->VR K (tG b) H S ρ o g S' k w y m Z->P (y,m) k->RR w g) :
  (wp K Γ b U).e σ H RR:=by
 unfold sq at h;cases p:x.isD with
 |true =>
  rw[p,if_pos rfl]at h;refine O.e I X h λw o g S' k y m Z s G r q=>N w o g S' k y m Z s G (λst v l W=>?_) (λz=>(by rw[p]at z;cases z)) r q;cases x with
  |d x=>cases W with|d r n=>exact .d (r.mono s.ff) n
  |_=>cases p
 |false =>
  rw[p,if_neg (by simp)]at h;have X':HE K F H S (lockA ρ) E U:=λx dx F2 H2 S2 Q R f r q=>X x dx F2 H2 S ρ R.unlockA f r q;refine O.e I.lockA X' h λw o g S' k y m Z s G r q=>?_;have kp:∀st v t l,Tr K F H st v t l->Tr K o g st v t l:=λst v t l W=>s.keep W λb _=>uD b;refine N w o g S ρ y m Z ⟨s.unlockA,λj t h=>⟨t,h⟩⟩ (I.unlockA s.toStp G.fh) (λst v l W=>kp st v _ l W) (λ_=>⟨rfl,rfl⟩) ⟨r.tr,λe b hb=>?_,λe b hb=>?_,λe i M hi b hb z=>?_⟩ q;exact .inl ((r.fr e b hb).elim id λz=>absurd z (uD b));obtain⟨i,M,h1,L,J⟩:=r.tm e b hb;cases M with
  |own t=>obtain⟨t0,h0⟩:=s.ow i t L;obtain⟨_,_,e0⟩:=eB h0;cases e0|nv t =>
   cases p:t.isD with|true=>exact absurd J (G.isD L p)|false=>obtain⟨g1,g2⟩:=s.bo i t L p;obtain⟨s0,g3,_⟩:=eB g1;rw[g2]at J;exact⟨i,s0,h1,g3,J⟩
  rcases r.fr e b hb with q|q
  ·exact(I.dom hi z).1 q
  exact absurd q (uD b)
theorem Zd{md:List Md}(Q:PSnd K Γ Ψ b)(I:Rl K F H S ρ σ)(X:HE K F H S ρ E U)(R:∀j∈fA md b,∃v,σ[j]?=some (some v)){x:T}(h:sq x ρ ((pe Ψ b E).a md) P)
  (O:∀ws l e S' k M W Y,Ste F H S ρ l e S' k->Rl K l e S' k σ->(∀st v g,Tr K F H st v x g->Tr K l e st v x g)->(x.isD=false->k=ρ/\S'=S)->AR K (tG b) md H S ρ l e S' k ws M W Y->(pB md ws).map (λv=>some (some v))=(fA md b).map (λj=>σ[j]?)->P M k->RR ws e) :
  (wp K Γ b U).a σ H RR:=by
 unfold sq at h;cases m:x.isD with
 |true =>
  rw[m,if_pos rfl]at h;refine Q.a I X R h λw l e S' k y W Y s p r G q=>O w l e S' k y W Y s p (λst v g o=>?_) (λz=>(by rw[m]at z;cases z)) r G q;cases x with
  |d x=>cases o with|d r n=>exact .d (r.mono s.ff) n
  |_=>cases m
 |false =>
  rw[m,if_neg (by simp)]at h;have X':HE K F H S (lockA ρ) E U:=λx dx F2 H2 S2 ρ2 s2 f r q=>X x dx F2 H2 S ρ s2.unlockA f r q;refine Q.a I.lockA X' R h λw l e S' k y W Y s p r G q=>?_;have kp:∀st v t g,Tr K F H st v t g->Tr K l e st v t g:=λst v t g o=>s.keep o λb _=>uD b;refine O w l e S ρ y W Y ⟨s.unlockA,λj t h=>⟨t,h⟩⟩ (I.unlockA s.toStp p.fh) (λst v g o=>kp st v _ g o) (λ_=>⟨rfl,rfl⟩) ⟨r.av,λb hb=>?_,λb hb=>?_,λi N hi b hb z=>?_⟩ G q;exact .inl ((r.fr b hb).elim id λz=>absurd z (uD b));obtain⟨i,N,h1,L,J⟩:=r.tm b hb;cases N with
  |own t=>obtain⟨t0,h0⟩:=s.ow i t L;obtain⟨_,_,e0⟩:=eB h0;cases e0|nv t =>
   cases m:t.isD with|true=>exact absurd J (p.isD L m)|false=>obtain⟨g1,g2⟩:=s.bo i t L m;obtain⟨s0,g3,_⟩:=eB g1;rw[g2]at J;exact⟨i,s0,h1,g3,J⟩
  rcases r.fr b hb with q|q
  ·exact(I.dom hi z).1 q
  exact absurd q (uD b)
theorem JD(l:PSnd K Γ Ψ a)(I:Rl K F H S ρ σ)(X:HE K F H S ρ E U){P:TK}{RR:VK}(h:(pe Ψ a E).e ρ P)
  (j:∀v w z S' y x n Z,Ste F H S ρ w z S' y->Rl K w z S' y σ->HE K w z S' y E U->Tr K w z false v (uA x n) Z->(bH x n=true->Rep K w v x.er)->(∀b,Z b->∃(i:Nat) (s:Sl),i∈tG a/\y[i]?=some (some s)/\S' i b)->P x n y->RR v z) :
  (wp K Γ a U).e σ H RR:=by
 refine l.e I X h λv w z S' y x n Z s W r q=>?_;obtain⟨G,o,k,p,g,m,f,_⟩:=r.frz s W;exact j v G z S' y x n o k p (X.from k.toStp) g m f q
theorem CW(ia:PSnd K Γ Ψ a)(ib:PSnd K Γ Ψ b)(I:Rl K F H S ρ σ)(X:HE K F H S ρ E U){P:T->Bool->T->Bool->zA->Prop}{RR:V->V->Hp->Prop}
  (h:(pe Ψ a E).e ρ λx n A=>sq (uA x n) A (cu (pe Ψ b E).e) λy k=>P x n y.1 y.2 k)
  (kk:∀v w l f S' z x n y m j Zb,Ste F H S ρ l f S' z->Rl K l f S' z σ->HE K l f S' z E U->Tr K l f false v (uA x n) j->(∀b,j b->∃(i:Nat) (s:Sl),i∈tG a/\z[i]?=some (some s)/\S' i b)->Tr K l f false w (uA y m) Zb ->
   P x n y m z->RR v w f):(wp K Γ a U).e σ H λv B=>(wp K Γ b U).e σ B λw q=>RR v w q:=by
 refine JD ia I X h λv C B S1 A x n j N I1 X1 o _ J q1=>?_;refine Yd ib I1 X1 q1 λw F2 q G k y m Z M I2 kp hs Q R=>?_;obtain⟨F3,Z3,L,I3,O,_,_,k3⟩:=Q.frz M I2;have W:∀b,j b->∃(i:Nat) (s:Sl),i∈tG a/\k[i]?=some (some s)/\G i b:=by
  cases p:(uA x n).isD with
  |true =>
   intro b hb;exfalso;generalize uA x n=t at o p;cases o with|d r n=>exact n b hb|_=>cases p
  |false=>obtain⟨e1,e2⟩:=hs p;rw[e1,e2];exact J
 have g:=N.trans L;exact kk v w F3 q G k x n y m j Z3 g I3 (X.from g.toStp) (k3 _ _ _ _ (kp _ _ _ o) λb hb=>let⟨i,s,_,h2⟩:=W b hb;⟨i,s,h2⟩) W O R
theorem iS(e:PSnd K Γ Ψ u)(I:Rl K F H S ρ σ)(X:HE K F H S ρ E U)(h:(pe Ψ u E).a [] ρ P)
  (k:∀vs z y S' x xs Y,Ste F H S ρ z y S' x->Rl K z y S' x σ->HE K z y S' x E U->Tn K z y Y vs (YL xs)->(∀b,Y b->∃(i:Nat) (s:Sl),i∈tG u/\x[i]?=some (some s)/\S' i b)->P xs x->RR vs y):(wp K Γ u U).a σ H RR:=by
 refine e.a (md:=[]) I X (λj f=>by cases u<;>cases f) h λvs z y S' x xs W Y s l r _ q=>?_;obtain⟨m,w,g,t,_⟩:=r.frz s l;exact k vs m y S' x xs Y w g (X.from w.toStp) t r.tm q
theorem Nc(ia:PSnd K Γ Ψ a)(ib:PSnd K Γ Ψ u)(I:Rl K F H S ρ σ)(X:HE K F H S ρ E U){P1:T->Bool->Prop}{P:T->Bool->List (T×Bool)->zA->Prop}{R1:V->Hp->Prop}{RR:V->List V->Hp->Prop}
  (h:(pe Ψ a E).e ρ λx n A=>P1 x n/\sq (uA x n) A ((pe Ψ u E).a []) λxs z=>P x n xs z)
  (k1:∀v f w x n k,Tr K f w false v (uA x n) k->P1 x n->R1 v w)
  (kk:∀v vs f w S' y x n xs k Y,Ste F H S ρ f w S' y->Rl K f w S' y σ->HE K f w S' y E U->Tr K f w false v (uA x n) k->(∀b,k b->∃(i:Nat) (s:Sl),i∈tG a/\y[i]?=some (some s)/\S' i b)->Tn K f w Y vs (YL xs) ->
   P x n xs y->RR v vs w):(wp K Γ a U).e σ H λv B=>R1 v B/\(wp K Γ u U).a σ B λvs o=>RR v vs o:=by
 refine JD ia I X h λv C B S1 A x n k M I1 X1 l _ G ⟨R,Q⟩=>⟨k1 v C B x n k l R,?_⟩
 refine Zd ib I1 X1 (λj hj=>by cases u<;>cases hj) Q λvs F2 o q z xs W Y L I2 kp hs N _ O=>?_;obtain⟨F3,J,I3,tn,k3⟩:=N.frz L I2;have p:∀b,k b->∃(i:Nat) (s:Sl),i∈tG a/\z[i]?=some (some s)/\q i b:=by
  cases m:(uA x n).isD with
  |true =>
   intro b hb;exfalso;generalize uA x n=t at l m;cases l with|d r n=>exact n b hb|_=>cases m
  |false=>obtain⟨e1,e2⟩:=hs m;rw[e1,e2];exact G
 have g:=M.trans J;exact kk v vs F3 o q z x n xs k Y g I3 (X.from g.toStp) (k3 _ _ _ _ (kp _ _ _ l) λb hb=>let⟨i,s,_,h2⟩:=p b hb;⟨i,s,h2⟩) p tn O
def lW(K:QC)(F H:Hp)(Y:fB):Item->T->Prop
 | .one v,t=>∃Z,Tr K F H false v t Z/\∀b,Z b->Y b|.tup vs,t=>∃h,t=.d (.tuple h)/\Reps K F vs h
theorem lW.mono{it:Item}(h:lW K F H Y it t)(e:Same F C)(k:∀b,Y b->B b=H b/\C b=none):lW K C B Y it t:=by
 cases it with|one v=>obtain⟨Z,r,z⟩:=h;exact⟨Z,r.mono e λb hb=>k b (z b hb),z⟩|tup y=>obtain⟨ts,x,r⟩:=h;exact⟨ts,x,r.mono e⟩
theorem OY{xs:List V}(h:Trs K F H st xs ts Z)(z:∀b,Z b->Y b):Paired (lW K F H Y) (xs.map .one) ts :=
 Trs.ind (R:=λ_ xs ts Z=>(∀b,Z b->Y b)->Paired (lW K F H Y) (xs.map .one) ts) (λ_ _=>.nil) (λh _ _ q x z=>.cons ⟨_,h.weak,λb hb=>z b ((q b).mpr (.inl hb))⟩ (x λb hb=>z b ((q b).mpr (.inr hb)))) h z
theorem DN{Y:fB}{α:Type}(f:α->V)(g:α->D)(h:∀x,Rep K F (f x) (g x)):∀(l:List α),Paired (lW K F H Y) (l.map λx=>.one (f x)) (l.map λx=>T.d (g x))
 |[]=>.nil|x::r=>.cons ⟨λ_=>False,.d (h x) λ_ z=>z,λ_ z=>z.elim⟩ (DN f g h r)
theorem Tr.lsS(f:Same F H)(h:Tr K F H st v t Z)(e:t.vw=.ls ts):∃a vs S',v=.ref a/\yC K H a vs/\Trs K F H false vs ts S'/\(∀b,S' b->Z b)/\∀y x,Same F y->Same y x->(∀b,Z b->x b=H b)->yC K x a vs:=by
 cases h with
 |d r n =>
  cases r with|lst q r=>injection e with e;subst e;exact⟨_,_,_,rfl,f.seq q,Trs.of_reps r,λb hb=>hb.elim,λy x w z _=>(w.trans z).seq q⟩|dct _ _ _=>exact(CG e).elim|_=>cases e
 |lst h _ r n q=>injection e with e;subst e;exact⟨_,_,_,rfl,yC.of h,r.weak,λb hb=>(q b).mpr (.inr hb),λy x _ _ k=>yC.of ((k _ ((q _).mpr (.inl rfl))).trans h)⟩|tup=>cases e|dct=>cases e|lstF h r n=>injection e with e;subst e;exact⟨_,_,_,rfl,f.seq h,Trs.of_reps r,λb hb=>hb.elim,λy x w z _=>(w.trans z).seq h⟩
theorem Tr.tpS(f:Same F H)(h:Tr K F H st v t Z)(e:t.vw=.tp ts):∃a vs S',v=.ref a/\XC K H a vs/\Trs K F H false vs ts S'/\(∀b,S' b->Z b)/\∀y x,Same F y->Same y x->(∀b,Z b->x b=H b)->XC K x a vs:=by
 cases h with
 |d r n =>
  cases r with|tup q r=>injection e with e;subst e;exact⟨_,_,_,rfl,f.tupl q,Trs.of_reps r,λb hb=>hb.elim,λy x w z _=>(w.trans z).tupl q⟩|dct _ _ _=>exact(FJ e).elim|_=>cases e
 |tup h _ r n q=>injection e with e;subst e;exact⟨_,_,_,rfl,XC.of h,r.weak,λb hb=>(q b).mpr (.inr hb),λy x _ _ k=>XC.of ((k _ ((q _).mpr (.inl rfl))).trans h)⟩|lst=>cases e|lstF=>cases e|dct=>cases e
theorem Tr.seqS(f:Same F H)(h:Tr K F H st v t Z)(e:t.vw.seq=some ts):∃a vs sz,v=.ref (Src.adr sz)/\pW K H sz vs/\(∃S',Trs K F H false vs ts S')/\a=Src.adr sz/\∀g k,Same F g->Same g k->(∀b,Z b->k b=H b)->pW K k sz vs:=by
 generalize ev:t.vw=w at e;cases w with|ls i=>cases e;obtain⟨a,vs,S',rfl,z,x,_,y⟩:=h.lsS f ev;exact⟨a,vs,.l a,rfl,z,⟨S',x⟩,rfl,y⟩|tp i=>cases e;obtain⟨a,vs,S',rfl,z,x,_,y⟩:=h.tpS f ev;exact⟨a,vs,.t a,rfl,z,⟨S',x⟩,rfl,y⟩|_=>cases e
theorem BH:∀(k:List Key),Reps K F (k.map kV) (k.map kD)
 |[]=>.nil|.inl i::k=>.cons (.int i) (BH k)|.inr z::k=>.cons (.str z) (BH k)
theorem ET{Y:fB}:∀{kvs:List KE}{ds:List D},vG K F kvs->Reps K F (kvs.map (·.2.2)) ds->Paired (lW K F H Y) (kvs.map λp=>.tup [.ref p.2.1,p.2.2]) (((kvs.map λp=>tD p.1).zip ds).map λp=>T.d (.tuple [p.1,p.2]))
 |[],_,_,.nil=>.nil|p::r,_,hk,.cons h t=>by simp only[QO,QAZ];exact .cons ⟨[_,_],rfl,.cons (.tup (hk p QE) (BH p.1)) (.cons h .nil)⟩ (ET (λp x=>hk p (QG _ x)) t)
theorem AT{Y:fB}:∀{kvs:List KE},vG K F kvs->Paired (lW K F H Y) (kvs.map λp=>.one (.ref p.2.1)) ((kvs.map λp=>tD p.1).map T.d)
 |[],_=>.nil|p::r,hk=>.cons ⟨λ_=>False,.d (.tup (hk p QE) (BH p.1)) λ_ z=>z,λ_ z=>z.elim⟩ (AT λp h=>hk p (QG _ h))
theorem LP{Y:fB}:∀{xs:List V}{ds:List D}(_:Reps K F xs ds) (g:Nat->Int) (n:Nat),Paired (lW K F H Y) ((xs.zipIdx n).map λp=>.tup [.int (g p.2),p.1]) ((ds.zipIdx n).map λp=>T.d (.tuple [.int (g p.2),p.1]))
 |_,_,.nil,g,n=>by simp only[List.zipIdx_nil,wI];exact .nil|_,_,.cons h t,g,n=>by simp only[List.zipIdx_cons,QO];exact .cons ⟨[_,_],rfl,.cons (.int _) (.cons h .nil)⟩ (LP t g (n+1))
theorem aI{R:ItK}{vs:List V}{RD:List T->Prop}{RR:List Item->(Hp->Prop)->Hp->Prop}(f:Same F H)(G:Tn K F H Y vs ts)(h:jC R (ts.map T.vw) RD)
  (k:∀xs ys st,Paired (lW K F H Y) xs ys->(∀m l,Same F m->Same m l->(∀b,Y b->l b=H b)->st l)->RD ys->RR xs st H):dC K R vs H RR:=by
 cases R with
 |val =>
  rcases h with⟨z,e,h⟩| ⟨N,e,h⟩| ⟨N,e,h⟩| ⟨J,N,e,h⟩
  obtain⟨v,t,Z,rfl,rfl,e,r,_⟩:=G.one e;obtain rfl:=r.str e;exact k _ _ _ (DN (λc=>.str ⟨#[c]⟩) (λc=>.str ⟨#[c]⟩) (λc=>.str _) _) (λ_ _ _ _ _=>trivial) h;obtain⟨v,t,Z,rfl,rfl,e,r,z⟩:=G.one e;obtain⟨p,xs,S',rfl,hp,s,O,W⟩:=r.lsS f e;exact .inl ⟨xs,hp,k _ _ _ (OY s λb hb=>z b (O b hb)) (λm l y g q=>W m l y g λb hb=>q b (z b hb)) h⟩;obtain⟨v,t,Z,rfl,rfl,e,r,z⟩:=G.one e;obtain⟨p,xs,S',rfl,hp,s,O,W⟩:=r.tpS f e;exact .inr (.inl ⟨xs,hp,k _ _ _ (OY s λb hb=>z b (O b hb)) (λm l y g q=>W m l y g λb hb=>q b (z b hb)) h⟩);obtain⟨v,t,Z,rfl,rfl,y,I,L⟩:=G.one e;obtain⟨a,o,xs,_,rfl,ha,dk,s,_,W⟩:=I.dc f y;obtain⟨X,w,rfl,rfl,rfl,h4,_⟩:=dk;exact .inr (.inr ⟨X,w,ha,k _ _ _ (AT h4) (λm l y g q=>W m l y g λb hb=>q b (L b hb)) h⟩)
 |rng1=>obtain⟨j,e,h⟩:=h;obtain⟨v,t,Z,rfl,rfl,e,r,_⟩:=G.one e;obtain rfl:=r.int e;exact⟨h.1,k _ _ _ (DN (λ(i:Nat)=>.int (i:Int)) (λ(i:Nat)=>.int (i:Int)) (λc=>.int _) _) (λ_ _ _ _ _=>trivial) h.2⟩|enum=>obtain⟨x,N,M,e,g1,g3,q⟩:=h;obtain⟨v,t,Z,rfl,rfl,y,I,L⟩:=G.one e;obtain⟨a,xs,sz,rfl,hq,⟨_,s⟩,_,W⟩:=I.seqS f (by rw[y];exact g1);exact⟨sz,xs,rfl,hq,k _ _ _ (LP (s.un g3).1 (λi=>(i:Int)) 0) (λm l y g q=>W m l y g λb hb=>q b (L b hb)) q⟩|itm =>
  rcases h with⟨J,N,M,e,g3,q⟩| ⟨e,q⟩
  rotate_left
  obtain⟨v,t,Z,rfl,rfl,y,I,L⟩:=G.one e;obtain⟨_,s⟩:=I.sc y;generalize ed:PyData.dict []=d at s;cases s with
  |@dct b a o J vs M h Q r =>
   have ez:J.zip M=[]:=by injection ed with ed;exact ed.symm
   have hl:J.length=M.length:=by rw[Q.len,Reps.length r]
   have ek:J=[]:=by
    cases J with
    |nil=>rfl|cons k J =>
     cases M with|nil=>cases hl|cons d M=>cases ez
   subst ek;have eo:∃X,o=.dT X []:=by
    cases b with
    |true =>
     obtain⟨X,w,y,g,_⟩:=Q;cases w with|nil=>exact⟨X,y⟩|cons p r=>cases g
    |false =>
     rcases Q with⟨w,n,_,g,_⟩| ⟨X,y,_⟩
     cases w with|nil=>exact absurd rfl n|cons p r=>cases g
     exact⟨X,y⟩
   obtain⟨X,rfl⟩:=eo;exact⟨X,[],f _ _ h,k _ _ _ .nil (λm l y g _=>g _ _ (y _ _ h)) q⟩
  |_=>cases ed
  obtain⟨v,t,Z,rfl,rfl,y,I,L⟩:=G.one e;obtain⟨a,o,xs,_,rfl,ha,dk,s,_,W⟩:=I.dc f y;obtain⟨X,w,rfl,rfl,rfl,h4,_⟩:=dk;exact⟨X,w,ha,k _ _ _ (ET h4 (s.un g3).1) (λm l y g q=>W m l y g λb hb=>q b (L b hb)) q⟩
end
end
section
variable{i j:Nat}{Z:fB}
def eF(S:Ft)(i:Nat)(Z:fB):Ft:=λj=>if j=i then Z else S j
theorem AA{S:Ft}:eF S i Z i=Z:=if_pos rfl
theorem YA{S:Ft}(h:j≠i):eF S i Z j=S j:=if_neg h
theorem bA{α:Type}{l:List α}{x y:α}(h:(l.set i x)[j]?=some y):(i=j/\y=x/\i<l.length)∨(i≠j/\l[j]?=some y):=by rw[wQ]at h;by_cases e:i=j;subst e;rw[if_pos rfl]at h;by_cases hl:i<l.length;rw[if_pos hl]at h;cases h;exact .inl ⟨rfl,rfl,hl⟩;rw[if_neg hl]at h;cases h;rw[if_neg e]at h;exact .inr ⟨e,h⟩
theorem IM{α:Type}{l:List α}{x:α}(h:i<l.length):(l.set i x)[i]?=some x:=by rw[wQ,if_pos rfl,if_pos h]
theorem AC{α:Type}{l:List α}{x:α}(h:i≠j):(l.set i x)[j]?=l[j]?:=by rw[wQ,if_neg h]
end
section
variable{K:QC}{Γ:Ev}{Ψ:PEv}{E:XE}{L:XK}{F H D G:Hp}{S S1:Ft}{ρ C:zA}{σ:St}
section
variable{Z Y:fB}{J:List Nat}{A X:Hp}{S':Ft}{g:zA}{o:St}{st:Bool}{B:Tg}{k:Nat}{l:List Bool}
theorem Rl.setB(I:Rl K F H S ρ σ)(i:Nat){v:V}{t:T}(r:Tr K F H false v t Z)(hz:∀(j:Nat) u,j≠i->ρ[j]?=some (some (.own u))->∀b,Z b->¬ S j b):Rl K F H (eF S i Z) (ρ.set i (some (.nv t))) (σ.set i (some v)) where
 fh:=I.fh
 len:=by simpa using I.len
 sl:=λj s h=>by
  rcases bA h with⟨rfl,e,hl⟩| ⟨w,h⟩
  cases e;exact⟨v,IM (by rw[<- I.len];exact hl),by rw[AA];exact r⟩;rw[AC w,YA (Q1 w)];exact I.sl j s h
 dj:=λj k z s n x y b hb hk=>by
  rcases bA x with⟨_,e,_⟩| ⟨f,x⟩
  cases e;rw[YA (Q1 f)]at hb;rcases bA y with⟨e,_,_⟩| ⟨a,y⟩
  subst e;rw[AA]at hk;exact hz j z n x b hk hb;rw[YA (Q1 a)]at hk;exact I.dj j k z s n x y b hb hk
structure Bd(J:List Nat)(F H:Hp)(S:Ft)(ρ:zA)(σ:St)(A X:Hp)(S':Ft)(g:zA)(o:St):Prop where
 ff:Same F A
 hh:Same H X
 fn:∀b,F b=none->A b≠none->H b=none
 out:∀j,j∉J->g[j]?=ρ[j]?/\S' j=S j/\o[j]?=σ[j]?
 inn:∀j t,j∈J->g[j]?≠some (some (.own t))
theorem Bd.U(h:Bd J F H S ρ σ A X S' g o){b:Addr}(u:U g S' b):L3.U ρ S b:=by obtain⟨i,t,x,z⟩:=u;by_cases y:i∈J;exact absurd x (h.inn i t y);obtain⟨w,v,_⟩:=h.out i y;rw[w]at x;rw[v]at z;exact⟨i,t,x,z⟩
theorem Bd.dm(h:Bd J F H S ρ σ A X S' g o)(b:Addr)(e:X b=none):H b=none:=h.hh.free e
theorem kT{Y:fB}(s:∀b,Y b->¬ U ρ S b):∀(w:List Nat) {vs:List V}{ts:List T}{S1:Ft}{C g:zA}{x:St}{J:List Nat},(∀i∈w,i∈J)->Rl K F H S1 C x->(∀b,U C S1 b->U ρ S b)->Tn K F H Y vs ts->aB w ts C=some g ->
  ∃o S',uB w vs x=some o/\Rl K F H S' g o/\(∀j,j∉J->g[j]?=C[j]?/\S' j=S1 j/\o[j]?=x[j]?)/\(∀j t,g[j]?=some (some (.own t))->j∉w/\C[j]?=some (some (.own t)))
 |[],_,_,S1,C,g,x,J,hJ,I,hu,.nil,h=>by simp only[aB,Qq]at h;subst h;exact⟨x,S1,rfl,I,λ_ _=>⟨rfl,rfl,rfl⟩,λj t h=>⟨(by simp),h⟩⟩|[],_,_,_,_,_,_,_,_,_,_,.cons _ _ _,h=>by simp[aB]at h|_::_,_,_,_,_,_,_,_,_,_,_,.nil,h=>by simp[aB]at h|i::w,_,_,S1,C,g,x,J,hJ,I,hu,.cons (v:=v) (t:=t) (Z:=Z) r z tl,h=>by
  simp only[aB]at h;have nu:∀b,Z b->¬ U C S1 b:=λb hb u=>s b (z b hb) (hu b u);have I2:=I.setB i r λj u _ y b hb N=>nu b hb ⟨j,u,y,N⟩;have p:∀b,U (C.set i (some (.nv t))) (eF S1 i Z) b->U ρ S b:=λb ⟨j,u,q,W⟩=>by
   rcases bA q with⟨_,e,_⟩| ⟨n,q⟩
   cases e;rw[YA (Q1 n)]at W;exact hu b ⟨j,u,q,W⟩
  obtain⟨o,S',R,Q,P,O⟩:=kT s w (λj y=>hJ j (QG _ y)) I2 p tl h;refine⟨o,S',R,Q,λj y=>?_,λj u y=>?_⟩;obtain⟨f,a,M⟩:=P j y;have n:i≠j:=λe=>y (e▸hJ i QE);rw[AC n]at f M;rw[YA (Q1 n)]at a;exact⟨f,a,M⟩;obtain⟨f,a⟩:=O j u y;rcases bA a with⟨_,e,_⟩| ⟨n,a⟩
  cases e;exact⟨λm=>(QK.mp m).elim (λe=>n e.symm) f,a⟩
theorem Tn.of_trs{vs:List V}{ts:List T}(h:Trs K F H st vs ts Z)(z:∀b,Z b->Y b):Tn K F H Y vs ts :=
 Trs.ind (R:=λ_ vs ts Z=>(∀b,Z b->Y b)->Tn K F H Y vs ts) (λ_ _=>.nil) (λh _ _ q x z=>.cons h.weak (λb hb=>z b ((q b).mpr (.inl hb))) (x λb hb=>z b ((q b).mpr (.inr hb)))) h z
theorem SK{it:Item}{t:T}{QP:zA->Prop}{RP:St->Hp->Prop}(I:Rl K F H S ρ σ)(hy:∀b,Y b->¬ U ρ S b)(r:lW K F H Y it t)(h:SH B t ρ QP)
  (k:∀m f w x O,Bd B.ix F H S ρ σ w x O m f->Rl K w x O m f->QP m->RP f x):bindI K B it σ H RP:=by
 have nm:∀(i:Nat) {v:V}{t:T}{Z:fB}{w x:Hp}{O:Ft},Same F w->Same H x->(∀b,F b=none->w b≠none->H b=none)->Rl K w x O ρ σ->O=S->Tr K w x false v t Z->(∀b,Z b->¬ U ρ S b)->QP (ρ.set i (some (.nv t)))->B=.nm i->RP (σ.set i (some v)) x:=by
  intro i v t Z w x O R e2 e3 I2 hS r hz q ht;subst hS ht;refine k _ _ w x (eF O i Z) ⟨R,e2,e3,λj N=>?_,λj u N hu=>?_⟩ (I2.setB i r λj u _ N b hb hs=>hz b hb ⟨j,u,N,hs⟩) q;have n:i≠j:=λe=>N (by subst e;exact QI.mpr rfl);exact⟨AC n,YA (Q1 n),AC n⟩;have e:j=i:=QI.mp N;subst e;rcases bA hu with⟨_,e,_⟩| ⟨n,_⟩
  cases e;exact n rfl
 have tp:∀(y:List Nat) {W:List V}{P:List T}{x:Hp}{g:zA},Same H x->B=.tp y->Tn K F x Y W P->aB y P ρ=some g->QP g->∃o,uB y W σ=some o/\RP o x:=by intro y W P x g e2 ht r e q;subst ht;obtain⟨o,S',g1,g2,g3,g4⟩:=kT hy y (J:=y) (λi hi=>hi) (I.same e2) (λb u=>u) r e;exact⟨o,g1,k _ _ F x S' ⟨.refl _,e2,λb h z=>absurd h z,g3,λj u N hu=>(g4 j u hu).1 N⟩ g2 q⟩
 cases it with
 |one v =>
  obtain⟨Z,r,z⟩:=r;cases B with|nm i=>exact nm i (.refl _) (.refl _) (λb h z=>absurd h z) I rfl r (λb hb=>hy b (z b hb)) h rfl|tp y=>have Q:(match t.vw with | .tp P=>∃g,aB y P ρ=some g/\QP g|_=>False):=h;split at Q;rename_i P e;obtain⟨g,R,q⟩:=Q;obtain⟨a,W,S',rfl,M,rp,z2⟩:=r.tp I.fh e;obtain⟨o,g1,g2⟩:=tp y (.refl _) rfl (Tn.of_trs rp λb hb=>z b (z2 b hb)) R q;exact⟨W,o,M,g1,g2⟩;exact Q.elim
 |tup W =>
  obtain⟨ds,rfl,rd⟩:=r;cases B with|nm i=>intro p M;refine nm i (JB (I.fh.free M)) (JB M) (λb h1 Q=>?_) (I.newT M (.tup W)) rfl (.d (S:=λ_=>False) (.tup (XC.of pA) (rd.mono (JB (I.fh.free M)))) λ_ z=>z) (λb z=>z.elim) h rfl;by_cases hb:b=p;rw[hb];exact M;rw[kA hb]at Q;exact absurd h1 Q|tp y=>intro X s;obtain⟨g,R,q⟩:=h;exact tp y s rfl (Tn.of_trs (Trs.of_reps (st:=false) rd) λb hb=>hb.elim) R q
def E5(k:Nat)(S:Ft):Ft:=λi=>if i<k then λ_=>False else S (i - k)
theorem vM:∀(m:List Bool) (ρ:zA) (i:Nat) s,(OC m ρ)[i]?=some (some s)->ρ[i]?=some (some s)/\m.getD i false=false
 |[],ρ,i,s,h=>by
  have e:OC [] ρ=ρ:=by cases ρ<;>rfl
  rw[e]at h;exact⟨h,rfl⟩
 |b::m,[],i,s,h=>by simp[OC]at h|b::m,v::ρ,0,s,h=>by
  cases b with|true=>simp[OC]at h|false=>simp[OC]at h;simp[h]
 |b::m,v::ρ,i+1,s,h=>by simp only[OC,wy]at h;obtain⟨y,x⟩:=vM m ρ i s h;exact⟨by simpa using y,by simpa using x⟩
theorem zM:∀(m:List Bool) (σ:St) (i:Nat) v,σ[i]?=some (some v)->m.getD i false=false->(NC m σ)[i]?=some (some v)
 |[],σ,i,v,h,_=>by
  have e:NC [] σ=σ:=by cases σ<;>rfl
  rw[e];exact h
 |b::m,[],i,v,h,_=>by simp at h|b::m,w::σ,0,v,h,hb=>by
  have:b=false:=by simpa using hb
  subst this;simpa[NC]using h
 |b::m,w::σ,i+1,v,h,hb=>by simp only[NC,wy];exact zM m σ i v (by simpa using h) (by simpa using hb)
theorem kM:∀(m:List Bool) (ρ:zA),(OC m ρ).length=ρ.length
 |[],ρ=>by cases ρ<;>rfl|_::_,[]=>rfl|b::m,v::ρ=>by simp[OC,kM m ρ]
theorem PF{ρ:zA}{i:Nat}{s:Sl}(h:(ZL k l ρ)[i]?=some (some s)):k<=i/\ρ[i - k]?=some (some s)/\l.getD (i - k) false=false:=by unfold ZL at h;rcases QA7 i k with z|z;rw[Qu (by simpa using z),w9]at h;split at h<;>cases h;rw[Q0 (by simpa using z)]at h;simp only[qg]at h;obtain⟨y,x⟩:=vM l ρ _ s h;exact⟨z,y,x⟩
theorem Rl.ent(I:Rl K F H S ρ σ)(k:Nat)(l:List Bool):Rl K F H (E5 k S) (ZL k l ρ) (MH k l σ) where
 fh:=I.fh
 len:=by simp[ZL,MH,kM,pI,I.len]
 sl:=λi s h=>by obtain⟨u,z,y⟩:=PF h;obtain⟨v,a,w⟩:=I.sl _ s z;refine⟨v,?_,?_⟩;unfold MH;rw[Q0 (by simpa using u)];simp only[qg];exact zM l σ _ v a y;unfold E5;rw[if_neg (by omega)];exact w
 dj:=λi j t s n z y b hb x=>by obtain⟨p,f,_⟩:=PF z;obtain⟨m,e,_⟩:=PF y;unfold E5 at hb x;rw[if_neg (by omega)]at hb x;exact I.dj (i - k) (j - k) t s (by omega) f e b hb x
theorem bU(b:Addr):¬ U (ZL k l (lockA ρ)) S' b:=λ⟨i,t,h,_⟩=>by obtain⟨_,x,_⟩:=PF h;obtain⟨_,_,e⟩:=eB x;cases e
theorem Paired.get_of{α v:Type}{R:α->v->Prop}{xs:List α}{u:List v}(h:Paired R xs u):∀{i:Nat}{x:α},xs[i]?=some x->∃y,u.drop i=y::u.drop (i+1)/\R x y:=by
 induction h with
 |nil=>intro i x e;simp at e|@cons x y xs u h t a =>
  intro i z e;cases i with|zero=>simp at e;subst e;exact⟨y,by simp,h⟩|succ i=>obtain⟨w,f,b⟩:=a (i:=i) (by simpa using e);exact⟨w,by simpa using f,b⟩
structure Pur(F H A X:Hp):Prop where
 ff:Same F A
 hh:Same H X
 fn:∀b,F b=none->A b≠none->H b=none
theorem Pur.trans{u y:Hp}(a:Pur F H D G)(b:Pur D G u y):Pur F H u y:=⟨a.ff.trans b.ff,a.hh.trans b.hh,λx h z=>by by_cases q:D x=none;exact a.hh.free (b.fn x q z);exact a.fn x h q⟩
theorem Pur.ste(p:Pur F H D G):Ste F H S ρ D G S ρ:=⟨⟨p.ff,λb u h _=>p.hh b u h,λb h=>p.hh.free h,λb h z=>.inr (p.fn b h z),λb h=>.inl h,λ_ _ h _=>⟨h,rfl⟩⟩,λ_ t h=>⟨t,h⟩⟩
theorem Pur.rl(p:Pur F H D G)(f:Same D G)(I:Rl K F H S ρ σ):Rl K D G S ρ σ:=⟨f,I.len,λi s e=>by
 obtain⟨v,y,h⟩:=I.sl i s e;exact⟨v,y,h.mono p.ff λb hb=>by
  obtain⟨x,z⟩:=h.dom b hb;refine⟨?_,?_⟩;cases e:H b with|none=>exact absurd e x|some u=>exact p.hh b u e
  by_cases q:D b=none
  ·exact q
  exact absurd (p.fn b z q) x⟩,I.dj⟩
theorem Stp.pur(s:Stp F H S ρ D G S' g)(n:∀b,¬ U ρ S b):Pur F H D G:=⟨s.ff,λb u h=>s.hh b u h (n b),λb h z=>(s.fn b h z).elim (λq=>absurd q (n b)) id⟩
theorem Pur.trs(p:Pur F H D G){v:List V}{t:List T}(h:Trs K F H st v t Z):Trs K D G st v t Z:=h.mono p.ff λb hb=>by
  obtain⟨x,y⟩:=h.dom b hb;refine⟨?_,?_⟩;cases e:H b with|none=>exact absurd e x|some u=>exact p.hh b u e
  by_cases q:D b=none
  ·exact q
  exact absurd (p.fn b y q) x
theorem KZ{ws:List Nat}{O:Nat}{c:zA->(Bool->zA->Prop)->Prop}{e:zA->TK->Prop}{tc:TT}{te:TE}{us:List Nat}
  (ic:∀{F H:Hp}{S:Ft}{ρ:zA}{σ:St}{Q:Bool->zA->Prop}{R:Bool->Hp->Prop},Rl K F H S ρ σ->c ρ Q->UG K F H S ρ σ Q R->tc σ H R)
  (ie:∀{F H:Hp}{S:Ft}{ρ:zA}{σ:St}{Q:TK}{R:VK},Rl K F H S ρ σ->e ρ Q->kB K us F H S ρ σ Q R->te σ H R)
  {F0 H0:Hp}{S0:Ft}{ρ0:zA}(s:Ste F0 H0 S0 ρ0 F H S ρ) (I:Rl K F H S ρ σ) {xs:List Item}{N:List T}{st:Hp->Prop}(pr:Paired (lW K F H Y) xs N) (hyd:∀b,Y b->H b≠none/\F b=none) (hst:∀A X,Same F A->Same A X->(∀b,Y b->X b=H b)->st X) {Q:TK}{R:VK}
  (h:CD (SF B (ZL O l (lockA ρ)) c e) N [] λN=>Q (.lst N) true ρ) (k:kB K ws F0 H0 S0 ρ0 σ Q R) :
  YU K xs st B tc te (MH O l σ) H R:=by
 refine VZ ?_;have len:=qW pr;have yk:∀{A X:Hp},Pur F H A X->∀b,Y b->X b=H b/\A b=none:=λ{A X} p b hb=>by
  obtain⟨d1,d2⟩:=hyd b hb;refine⟨?_,?_⟩;cases e:H b with|none=>exact absurd e d1|some u=>exact p.hh b u e
  by_cases q:A b=none
  ·exact q
  exact absurd (p.fn b d2 q) d1
 refine⟨λi m X=>∃A w W,Pur F H A X/\Same A X/\Trs K A X true m w W/\(∀b,W b->H b=none)/\CD (SF B (ZL O l (lockA ρ)) c e) (N.drop i) w λN=>Q (.lst N) true ρ,
  ⟨F,[],λ_=>False,⟨.refl _,.refl _,λb h z=>absurd h z⟩,I.fh,.nil λ_ z=>z,λ_ z=>z.elim,by simpa using h⟩,?_,?_,?_⟩
 rintro i m X _ ⟨A,w,W,p,f,_,_,_⟩;exact hst A X p.ff f λb hb=>(yk p b hb).1;rintro i x m G hx ⟨D,w,W,p1,f1,M,hw,hc⟩;obtain⟨y,hd,ry⟩:=Paired.get_of pr hx;rw[hd]at hc;unfold CD at hc;unfold SF at hc;have I1:Rl K D G (E5 O S) (ZL O l (lockA ρ)) (MH O l σ):=((p1.rl f1 I).lockA).ent O l;refine SK I1 (λb _=>bU b) (ry.mono p1.ff (yk p1)) hc λρ2 σ2 F2 H2 S2 P I2 hc=>?_;have p2:Pur D G F2 H2:=⟨P.ff,P.hh,P.fn⟩
 have nu2:∀b,¬ U ρ2 S2 b:=λb u=>bU b (P.U u);refine ic I2 hc λb F3 H3 S3 ρ3 s3 I3 q=>?_;have p3:Pur F2 H2 F3 H3:=s3.toStp.pur nu2;have nu3:∀b,¬ U ρ3 S3 b:=λb ⟨j,t,h1,_⟩=>by obtain⟨t0,h0⟩:=s3.ow j t h1;by_cases hj:j∈B.ix;exact P.inn j t0 hj h0;rw[(P.out j hj).1]at h0;obtain⟨_,h1,_⟩:=PF h0;obtain⟨_,_,e⟩:=eB h1;cases e
 have a:=p1.trans (p2.trans p3);cases b with
 |false=>exact⟨F3,w,W,a,I3.fh,p3.trs (p2.trs M),hw,q⟩|true =>
  refine ie I3 q λv F4 H4 S4 ρ4 z n Z s4 I4 r4 ⟨hk,hl,hc⟩=>?_;have p4:Pur F3 H3 F4 H4:=s4.toStp.pur nu3;have ra4:=p4.trs (p3.trs (p2.trs M));have rz:∃Z',Tr K F4 H4 true v z Z'/\∀b,Z' b->H3 b=none:=by
   cases n with
   |true=>exact⟨Z,r4.tr,λb hb=>(r4.fr rfl b hb).elim id λu=>absurd u (nu3 b)⟩|false =>
    cases z with
    |d x =>
     have tr:=r4.tr;cases tr with|d r n=>exact⟨λ_=>False,.d r λ_ z=>z,λ_ z=>z.elim⟩
    |_=>exact absurd hk (by simp[bH,T.isD])
  obtain⟨Z',rz,fz⟩:=rz;refine⟨by rw[M.length];exact hl,F4,_,λb=>W b∨Z' b,a.trans p4,I4.fh,ra4.append (Trs.one rz) λb hb hz=>?_,λb hb=>?_,hc⟩;have q1:=(M.dom b hb).1;exact q1 ((p2.trans p3).hh.free (fz b hz));rcases hb with hb|hb
  ·exact hw b hb
  exact a.hh.free (fz b hb)
 rintro m X ⟨A,w,W,p,f,M,hw,hc⟩;rw[len,QCI]at hc;unfold CD at hc;have I':=p.rl f I;refine⟨by rw[M.length];exact hc.1,λq hq=>?_⟩;refine kB.list (k.from s) (p.ste) I' hq M (λb hb=>.inl (hw b hb)) ⟨M.dom,λi sl hi b hb z=>?_⟩ hc.2;exact(I.dom hi z).1 (hw b hb)
end
end
section
variable{K:QC}{Γ:Ev}{Ψ:PEv}{E:XE}{p:XK}{F H l c:Hp}{S S1:Ft}{ρ y:zA}{σ:St}
theorem Tr.kq{v:V}{u t:T}{Z:fB}(h:Tr K F H false v u Z)(e:lF u=some t):Tr K F H false v t Z:=by
 unfold lF at e;split at e;rename_i ts ev;cases x:nE ts with
 |none=>rw[x]at e;cases e|some f =>
  rw[x]at e;injection e with e;subst e;cases h with
  |d r n =>
   cases r with|lst q r=>injection ev with ev;subst ev;rw[iA]at x;injection x with x;subst x;exact .lstF q r n|dct _ _ _=>exact(CG ev).elim|_=>cases ev
  |lst k w z b a=>injection ev with ev;subst ev;show Tr K F H false _ (.lst (f.map T.d)) Z;rw[<- OJ x];exact .lst k w z b a|tup=>cases ev|dct=>cases ev|lstF k w z=>injection ev with ev;subst ev;rw[iA]at x;injection x with x;subst x;exact .lstF k w z
 split at e
 ·injection e with e;subst e;exact h
 cases e
theorem AV.pass{Y:fB}{md:List Md}{vs:List V}{xs:List (T×Bool)}{W:fB}(h:AV K F H md vs xs W Y)(e:Same F l)(k:∀b,W b->l b=H b)(G:∀b,Y b->F b=none->l b=none) :
  ∀{g ts:List T},BA md xs g=some ts->ArgsR K l H Y md vs ts/\CB md ts=g:=by
 induction h with
 |nil h =>
  intro g ts w;cases g with|nil=>simp only[BA,Qq]at w;subst w;exact⟨.nil,rfl⟩|cons _ _=>simp[BA]at w
 |@chg md v vs x xs W Y h t C =>
  intro g ts w;have f:md.headD .ny=.chg:=by generalize md.headD .ny=m at h;cases m<;>first|rfl|cases h
  unfold BA at w;rw[f]at w;cases g with
  |nil=>cases w|cons o g =>
   cases a:BA md.tail xs g with|none=>simp only[a,wu]at w;cases w|some B=>simp only[a,qC,Qq]at w;subst w;obtain⟨s,j⟩:=C k G a;refine⟨.chg f s,?_⟩;unfold CB;rw[f];simp only[j]
 |@new md v vs x xs Z W J Y h r t n q C =>
  intro g ts w;have X:Tr K l H false v (.d x.er) (λ_=>False):=.d (r.kept e λb u hb I=>by rw[k b ((q b).mpr (.inl hb))];exact I) λ_ z=>z;have i:=@C (λb hb=>k b ((q b).mpr (.inr hb))) G;unfold BA at w;cases f:md.headD .ny with
  |chg=>rw[f]at h;cases h|ny =>
   simp only[f,uA]at w;cases a:BA md.tail xs g with|none=>simp only[a,wu]at w;cases w|some B=>simp only[a,qC,Qq]at w;subst w;obtain⟨s,j⟩:=i a;exact⟨.rd (by rw[f];simp) X (λ_ z=>z.elim) s,by unfold CB;rw[f];exact j⟩
  |kq =>
   simp only[f,uA]at w;cases A:lF (.d x.er) with
   |none=>simp only[A]at w;cases w|some u =>
    simp only[A]at w;cases a:BA md.tail xs g with|none=>simp only[a,wu]at w;cases w|some B=>simp only[a,qC,Qq]at w;subst w;obtain⟨s,j⟩:=i a;exact⟨.rd (by rw[f];simp) (X.kq A) (λ_ z=>z.elim) s,by unfold CB;rw[f];exact j⟩
  |nv =>
   simp only[f,uA]at w;cases a:BA md.tail xs g with|none=>simp only[a,wu]at w;cases w|some B=>simp only[a,qC,Qq]at w;subst w;obtain⟨s,j⟩:=i a;exact⟨.rd (by rw[f];simp) X (λ_ z=>z.elim) s,by unfold CB;rw[f];exact j⟩
 |@tmp md v vs x xs Z W Y h r z t C =>
  intro g ts w;have X:Tr K l H false v x Z:=r.mono e λb hb=>⟨rfl,G b (z b hb) (r.dom b hb).2⟩
  have i:=@C k G;unfold BA at w;cases f:md.headD .ny with
  |chg=>rw[f]at h;cases h|ny =>
   simp only[f,uA]at w;cases x with
   |d x =>
    cases a:BA md.tail xs g with|none=>simp only[a,wu]at w;cases w|some B=>simp only[a,qC,Qq]at w;subst w;obtain⟨s,j⟩:=i a;exact⟨.rd (by rw[f];simp) X z s,by unfold CB;rw[f];exact j⟩
   |_=>cases w
  |kq =>
   simp only[f,uA]at w;cases A:lF x with
   |none=>simp only[A]at w;cases w|some u =>
    simp only[A]at w;cases a:BA md.tail xs g with|none=>simp only[a,wu]at w;cases w|some B=>simp only[a,qC,Qq]at w;subst w;obtain⟨s,j⟩:=i a;exact⟨.rd (by rw[f];simp) (X.kq A) z s,by unfold CB;rw[f];exact j⟩
  |nv =>
   simp only[f,uA]at w;cases a:BA md.tail xs g with|none=>simp only[a,wu]at w;cases w|some B=>simp only[a,qC,Qq]at w;subst w;obtain⟨s,j⟩:=i a;exact⟨.rd (by rw[f];simp) X z s,by unfold CB;rw[f];exact j⟩
theorem mD:∀(J:List Nat) (ρ:zA) (i:Nat) s,(clear J ρ)[i]?=some (some s)->i∉J/\ρ[i]?=some (some s)
 |[],ρ,i,s,h=>⟨(by simp),h⟩|j::J,ρ,i,s,h=>by
  unfold clear at h;obtain⟨u,z⟩:=mD J _ i s h;rcases bA z with⟨_,e,_⟩| ⟨n,x⟩
  cases e;exact⟨λm=>(QK.mp m).elim (λe=>n e.symm) u,x⟩
theorem mM:∀(J:List Nat) (ρ:zA),(clear J ρ).length=ρ.length
 |[],_=>rfl|j::J,ρ=>by unfold clear;rw[mM J];simp
theorem Rl.drop(I:Rl K F H S ρ σ)(hl:y.length=ρ.length)(h:∀(i:Nat) s,y[i]?=some (some s)->ρ[i]?=some (some s)):Rl K F H S y σ :=
 ⟨I.fh,hl.trans I.len,λi s e=>I.sl i s (h i s e),λi j t s n z x=>I.dj i j t s n (h i _ z) (h j _ x)⟩
theorem PD:∀{J:List Nat}{ρ:zA}{x:List T},IA J ρ=some x->x.length=J.length/\∀(i:Nat) j,J[i]?=some j->∃t,x[i]?=some t/\ρ[j]?=some (some (.own t))
 |[],ρ,x,h=>by simp only[IA,Qq]at h;subst h;exact⟨rfl,λi j e=>by simp at e⟩|j::J,ρ,x,h=>by
  unfold IA at h;split at h;rename_i t e;cases z:IA J ρ with
  |none=>rw[z]at h;cases h|some f =>
   rw[z]at h;injection h with h;subst h;obtain⟨w,v⟩:=PD z;refine⟨by simp[w],λi k hk=>?_⟩;cases i with|zero=>simp at hk;subst hk;exact⟨t,rfl,e⟩|succ i=>obtain⟨u,b,a⟩:=v i k (by simpa using hk);exact⟨u,by simpa using b,a⟩
  cases h
theorem Rl.trs(I:Rl K F H S ρ σ):∀{J:List Nat}{w:List T}{vs:List V},J.Nodup->IA J ρ=some w->vs.map (λv=>some (some v))=J.map (λj=>σ[j]?)->Trs K F H true vs w (λb=>∃j∈J,S j b)
 |[],w,vs,_,h,hv=>by
  simp only[IA,Qq]at h;subst h;cases vs with|nil=>exact .nil λb ⟨j,m,_⟩=>by simp at m|cons _ _=>simp at hv
 |j::J,w,vs,nd,h,hv=>by
  unfold IA at h;split at h;rename_i t e;cases a:IA J ρ with
  |none=>rw[a]at h;cases h|some r =>
   rw[a]at h;injection h with h;subst h;cases vs with
   |nil=>simp at hv|cons v vs =>
    simp only[QO,QAQ]at hv;obtain⟨f,q,o⟩:=I.sl j _ e;rw[q]at hv;have:v=f:=by simpa using hv.1
    subst this;have x:=Qi.mp nd;refine .cons o (Rl.trs I x.2 a hv.2) (λb hb ⟨k,hk,z⟩=>?_) λb=>?_;obtain⟨i,n⟩:=W5.mp hk;obtain⟨u,_,g⟩:=(PD a).2 i k n;exact I.dj j k t _ (λz=>x.1 (z▸hk)) e g b hb z;constructor
    ·rintro⟨k,hk,z⟩
     rcases QK.mp hk with e|e;subst e;exact .inl z;exact .inr ⟨k,e,z⟩
    rintro(z|⟨k,hk,z⟩)
    ·exact⟨j,QE,z⟩
    exact⟨k,QG _ hk,z⟩
  cases h
theorem Rl.setO(I:Rl K F H S ρ σ)(i:Nat){v:V}{t:T}{Z:fB}(hv:σ[i]?=some (some v))(r:Tr K F H true v t Z)(hz:∀(j:Nat) s,j≠i->ρ[j]?=some (some s)->∀b,Z b->¬ S j b):Rl K F H (eF S i Z) (ρ.set i (some (.own t))) σ where
 fh:=I.fh
 len:=by simpa using I.len
 sl:=λj s h=>by
  rcases bA h with⟨rfl,e,hl⟩| ⟨f,h⟩
  cases e;exact⟨v,hv,by rw[AA];exact r⟩;rw[YA (Q1 f)];exact I.sl j s h
 dj:=λj k w s n u x b hb hk=>by
  rcases bA u with⟨e,_,_⟩| ⟨a,u⟩
  subst e;rw[AA]at hb;rcases bA x with⟨e,_,_⟩| ⟨z,x⟩
  exact n e;rw[YA (Q1 z)]at hk;exact hz k s (Q1 z) x b hb hk;rw[YA (Q1 a)]at hb;rcases bA x with⟨e,_,_⟩| ⟨z,x⟩
  subst e;rw[AA]at hk;exact hz j _ n u b hk hb;rw[YA (Q1 z)]at hk;exact I.dj j k w s n u x b hb hk
theorem bK:∀{J:List Nat}{w:List T}{vs:List V}{M:fB}{S1:Ft}{y x:zA},J.Nodup->Rl K F H S1 y σ->Trs K F H true vs w M->vs.map (λv=>some (some v))=J.map (λj=>σ[j]?)->Held F H S1 y M->xC J w y=some x ->
  ∃f,Rl K F H f x σ/\(∀i,i∉J->x[i]?=y[i]?/\f i=S1 i)/\∀i∈J,∀s,x[i]?=some (some s)->(∃t,s=.own t)/\∀b,f i b->M b
 |[],w,vs,M,S1,y,x,nd,I,r,hv,hm,h=>by
  cases w with|nil=>simp only[xC,Qq]at h;subst h;exact⟨S1,I,λ_ _=>⟨rfl,rfl⟩,λi u=>by simp at u⟩|cons _ _=>simp[xC]at h
 |j::J,w,vs,M,S1,y,x,nd,I,r,hv,hm,h=>by
  cases r with
  |nil _=>simp[xC]at h|@cons _ v t vs ts _ Z Q G C n q =>
   simp only[xC]at h;simp only[QO,QAQ]at hv;have a:=Qi.mp nd;have R:=I.setO j hv.1.symm G λk s _ hk b hb=>hm.nw k s hk b ((q b).mpr (.inl hb));have W:Held F H (eF S1 j Z) (y.set j (some (.own t))) Q:=⟨λb hb=>hm.dom b ((q b).mpr (.inr hb)),λi s u b hb z=>by
    rcases bA u with⟨rfl,_,_⟩| ⟨X,u⟩
    rw[AA]at z;exact n b z hb;rw[YA (Q1 X)]at z;exact hm.nw i s u b ((q b).mpr (.inr hb)) z⟩
   obtain⟨f,P,B,O⟩:=bK a.2 R C hv.2 W h;refine⟨f,P,λi u=>?_,λi u s Y=>?_⟩;have A:j≠i:=λe=>u (e▸QE);obtain⟨o,g⟩:=B i λm=>u (QG _ m);rw[AC A]at o;rw[YA (Q1 A)]at g;exact⟨o,g⟩;rcases QK.mp u with e|e
   ·subst e
    obtain⟨o,g⟩:=B i a.1;rw[o]at Y;rcases bA Y with⟨_,e,_⟩| ⟨X,_⟩
    injection e with e;refine⟨⟨t,e⟩,λb hb=>?_⟩;rw[g,AA]at hb;exact(q b).mpr (.inl hb);exact absurd rfl X
   obtain⟨N,L⟩:=O i e s Y;exact⟨N,λb hb=>(q b).mpr (.inr (L b hb))⟩
theorem f6{f:Str}{as:PX}(g:GOk K Γ Ψ)(ia:PSnd K Γ Ψ as)(I:Rl K F H S ρ σ)(X:HE K F H S ρ E p){Q:TK}{R:VK}{ws:List Nat}(h:(pe Ψ (.call f as) E).e ρ Q)(k:kB K ws F H S ρ σ Q R):(wp K Γ (.call f as) p).e σ H R:=by
 obtain⟨os,ho,nd,h⟩:=h;generalize hJ:fA (Ψ.sp f).md as=J at ho nd h;have C:∀j∈J,∃t,ρ[j]?=some (some (.own t)):=λj A=>by obtain⟨i,hi⟩:=W5.mp A;obtain⟨t,_,e⟩:=(PD ho).2 i j hi;exact⟨t,e⟩
 have I0:Rl K F H S (clear J ρ) σ:=I.drop (mM J ρ) λi s e=>(mD J ρ i s e).2;have P:∀b,U (clear J ρ) S b->U ρ S b:=λb ⟨i,t,h1,O⟩=>⟨i,t,(mD J ρ i _ h1).2,O⟩
 have X0:HE K F H S (clear J ρ) E p:=λx dx F2 H2 S2 L m ff r q=>X x dx F2 H2 (λ_ _=>False) [] ⟨m.ff,λb u e n=>m.hh b u e λz=>n (P b z),m.dm,λb e z=>(m.fn b e z).imp (P b) id,λb ⟨i,t,e,_⟩=>by simp at e,λj t e=>by simp at e⟩ ff r q;have hm:∀j∈fA (Ψ.sp f).md as,∃v,σ[j]?=some (some v):=λj A=>by obtain⟨t,e⟩:=C j (hJ▸A);obtain⟨v,h1,_⟩:=I.sl j _ e;exact⟨v,h1⟩
 show(wp K Γ as p).a σ H λvs c=>Γ.sp f vs c R p;refine ia.a I0 X0 hm h λvs l c S1 y xs W Y s1 I1 r1 mv q1=>?_;rw[hJ]at mv;obtain⟨ts,hp,q1⟩:=q1;have hw:=r1.held;have m:=s1.frz (λb hb=>(hw.dom b hb).2) r1.fr;have I2:=I1.frz hw;have yk:∀b,Y b->l b=none->HH l c W b=none:=λb hy hf=>by obtain⟨i,sl,_,O,h3⟩:=r1.tm b hy;rw[gC λz=>r1.nw i sl O b z h3];exact hf
 obtain⟨ar,mt⟩:=r1.av.pass (oG λb hb=>(hw.dom b hb).2) (λb hb=>GH hb) yk hp;generalize HH l c W=F2 at m I2 yk ar;have M0:=I.trs nd ho mv;have hM:Held F H S (clear J ρ) (λb=>∃j∈J,S j b):=⟨λb ⟨j,A,hb⟩=>let⟨t,e⟩:=C j A;I.dom e hb,λi s e b ⟨j,A,hb⟩ z=>by obtain⟨G,B⟩:=mD J ρ i s e;obtain⟨t,et⟩:=C j A;exact I.dj j i t s (λq=>G (q▸A)) et B b hb z⟩
 have N:=hM.step m.toStp I2;have M2:Trs K F2 c true (pB (Ψ.sp f).md vs) (CB (Ψ.sp f).md ts) (λb=>∃j∈J,S j b):=by
  rw[mt];refine M0.mono m.ff λb hb=>?_;refine⟨?_,(N.dom b hb).2⟩;cases e:H b with|none=>exact absurd e (hM.dom b hb).1|some u=>exact m.hh b u e (hM.nu b hb)
 refine g.sp f vs c R p ⟨F2,ts,_,Y,I2.fh,ar,M2,λb hy hb=>?_,?_⟩;obtain⟨i,sl,_,O,h3⟩:=r1.tm b hy;exact N.nw i sl O b hb h3
 ·have up:∀b,(∃j∈J,S j b)->U ρ S b:=λb ⟨j,A,hb⟩=>let⟨t,e⟩:=C j A;⟨j,t,e,hb⟩
  have lk:∀b,(∃j∈J,S j b)∨c b=none->U ρ S b∨H b=none:=λb hb=>hb.imp (up b) (m.dm b);refine(Ψ.sp f).mono ?_ ?_ q1
  rotate_left
  rintro x qx dx F' H' o xr;refine X x dx F' H' (λ_ _=>False) [] ⟨m.ff.trans o.ff,λb u e n=>o.hh b u (m.hh b u e λz=>n (P b z)) λz=>n (up b z),λb e=>m.dm b (o.dm b e),λb e z=>?_,λb ⟨i,t,e,_⟩=>by simp at e,λj t e=>by simp at e⟩ o.fh xr qx;by_cases q:F2 b=none;exact lk b (o.fn b q z);exact(m.fn b e q).imp (P b) id;rintro r os' ⟨L,hput,q⟩ v F' H' Z M' o tr trs dz hf;have I3:Rl K F' H' S1 y σ:=⟨o.fh,I2.len,λi s e=>by
   obtain⟨w,g1,g2⟩:=I2.sl i s e;refine⟨w,g1,g2.mono o.ff λb hb=>?_⟩;obtain⟨d1,d2⟩:=g2.dom b hb;have nM:¬ ∃j∈J,S j b:=λz=>N.nw i s e b z hb;refine⟨?_,?_⟩;cases e:c b with|none=>exact absurd e d1|some u=>exact o.hh b u e nM
   by_cases z:F' b=none
   ·exact z
   exact((o.fn b d2 z).elim nM d1).elim,I2.dj⟩
  have nw3:∀b,(∃j∈J,S j b)∨c b=none->∀(i:Nat) s,y[i]?=some (some s)->¬ S1 i b:=λb hb i s e z=>by rcases hb with hb|hb;exact N.nw i s e b hb z;exact(I2.dom e z).1 hb
  have hM':Held F' H' S1 y M':=⟨trs.dom,λi s e b hb=>nw3 b (hf b (.inr hb)) i s e⟩
  obtain⟨S2,I4,g2,g3⟩:=bK nd I3 trs mv hM' hput;have M:∀i s,L[i]?=some (some s)->(i∈J/\(∃t,s=.own t)/\∀b,S2 i b->M' b)∨(i∉J/\y[i]?=some (some s)/\S2 i=S1 i):=λi s e=>by by_cases hi:i∈J;exact .inl ⟨hi,g3 i hi s e⟩;obtain⟨G,B⟩:=g2 i hi;exact .inr ⟨hi,G▸e,B⟩
  have st:Ste F H S ρ F' H' S2 L:=⟨⟨m.ff.trans o.ff,λb u e n=>o.hh b u (m.hh b u e λz=>n (P b z)) λz=>n (up b z),λb e=>m.dm b (o.dm b e),λb e z=>by
    by_cases q:F2 b=none;exact lk b (o.fn b q z);exact(m.fn b e q).imp (P b) id,
   λb ⟨i,t,h1,O⟩=>by
    rcases M i _ h1 with⟨_,_,e⟩| ⟨_,G,B⟩
    exact lk b (hf b (.inr (e b O)));rw[B]at O;exact(m.uu b ⟨i,t,G,O⟩).imp (P b) id,
   λj t e hd=>by
    rcases M j _ e with⟨_,⟨t',z⟩,_⟩| ⟨_,G,B⟩
    cases z;obtain⟨b1,b2⟩:=m.bo j t G hd;exact⟨(mD J ρ j _ b1).2,B.trans b2⟩⟩,
   λj t e=>by
    rcases M j _ e with⟨A,_,_⟩| ⟨_,G,B⟩
    exact C j A;obtain⟨t0,e0⟩:=m.ow j t G;exact⟨t0,(mD J ρ j _ e0).2⟩⟩
  refine k v F' H' S2 L r true Z st I4 ⟨tr,λ_ b hb=>?_,λz=>(by cases z),λ_ i s e b hb z=>?_⟩ q;exact(lk b (hf b (.inl hb))).symm;rcases M i s e with⟨_,_,B⟩| ⟨_,G,B⟩
  ·exact dz b hb (B b z)
  rw[B]at z;exact nw3 b (hf b (.inl hb)) i s G z
end
section
variable{K:QC}{Γ:Ev}{Ψ:PEv}{E:XE}{O:XK}{F H F1 H1:Hp}{S S1:Ft}{ρ Q:zA}{σ:St}
section
variable{j i:Nat}{t s:T}{b:Bool}{G C:Hp}{B:Ft}{Y:zA}{W P Z:fB}{vs L:List V}{ts us:List T}{a:Addr}{M o:HO}{v A J:V}{x y:D}{ks:List D}{R:Hp->Prop}{N:T->Prop}
theorem zC(z:ρ[j]?=some (some (.own t))){s:Sl}(h:(ρ.set j (some (.nv t)))[i]?=some (some s)):(i=j/\s=.nv t)∨(i≠j/\ρ[i]?=some (some s)):=by
 rcases bA h with⟨rfl,e,_⟩| ⟨n,h⟩
 injection e with e;exact .inl ⟨rfl,e⟩;exact .inr ⟨Q1 n,h⟩
theorem Rl.lock1(I:Rl K F H S ρ σ)(h:ρ[j]?=some (some (.own t))):Rl K F H S (ρ.set j (some (.nv t))) σ where
 fh:=I.fh
 len:=by simpa using I.len
 sl:=λi s e=>by
  rcases zC h e with⟨rfl,rfl⟩| ⟨_,e⟩
  obtain⟨v,g,f⟩:=I.sl i _ h;exact⟨v,g,f.weak⟩;exact I.sl i s e
 dj:=λi k u s n p m=>by
  rcases zC h p with⟨_,z⟩| ⟨r,w⟩
  cases z;rcases zC h m with⟨q,_⟩| ⟨_,l⟩
  ·exact I.dj i k u _ n w (q▸h)
  exact I.dj i k u s n w l
theorem Rl.lock1U(I:Rl K F H S ρ σ)(w:ρ[j]?=some (some (.own t)))(b:Addr)(hb:S j b):¬ U (ρ.set j (some (.nv t))) S b:=λ⟨i,u,h,k⟩=>by
 rcases zC w h with⟨_,z⟩| ⟨n,h⟩
 cases z;exact I.dj i j u _ n h w b k hb
theorem lock1U(k:ρ[j]?=some (some (.own t))){b:Addr}(h:U (ρ.set j (some (.nv t))) S b):U ρ S b:=by
 obtain⟨i,u,w,e⟩:=h;rcases zC k w with⟨_,z⟩| ⟨n,w⟩
 cases z;exact⟨i,u,w,e⟩
theorem HE.lock1(X:HE K F H S ρ E O)(w:ρ[j]?=some (some (.own t))):HE K F H S (ρ.set j (some (.nv t))) E O:=λx k G C B Y h f r q =>
 X x k G C (λ_ _=>False) [] ⟨h.ff,λb u e n=>h.hh b u e λz=>n (lock1U w z),h.dm,λb e z=>(h.fn b e z).imp (lock1U w) id,λb ⟨i,t,e,_⟩=>by simp at e,λj t e=>by simp at e⟩ f r q
theorem UP(I:Rl K F H S ρ σ)(h:ρ[j]?=some (some (.own t)))(s:Ste F H S (ρ.set j (some (.nv t))) G C B Y)(l:Rl K G C B Y σ){b:Addr}(hb:S j b) :
  ∀(i:Nat) w,i≠j->Y[i]?=some (some w)->¬ B i b:=λi w n e z=>by
 cases w with
 |own u=>rcases s.uu b ⟨i,u,e,z⟩ with q|q;exact I.lock1U h b hb q;exact(I.dom h hb).1 q
 |nv u =>
  cases f:u.isD with
  |true=>exact l.isD e f z|false =>
   obtain⟨k,g⟩:=s.bo i u e f;rw[g]at z;rcases zC h k with⟨q,_⟩| ⟨_,k⟩
   exact n q;exact I.dj j i t _ (Q1 n) h k b hb z
theorem YF{t':T}{v0:V}{m:Hp}{Z':fB}(I:Rl K F H S ρ σ)(w:ρ[j]?=some (some (.own t)))(hv:σ[j]?=some (some v0))(s:Ste F H S (ρ.set j (some (.nv t))) G C B Y)(l:Rl K G C B Y σ)
  (hH:∀b u,C b=some u->¬ S j b->m b=some u) (dm:∀b,m b=none->C b=none) (r:Tr K G m true v0 t' Z') (hz:∀b,Z' b->S j b∨W b∨C b=none) (hw:Held G C B Y W) (frW:∀b,W b->H b=none∨U (ρ.set j (some (.nv t))) S b) :
  Ste F H S ρ G m (eF B j Z') (Y.set j (some (.own t')))/\Rl K G m (eF B j Z') (Y.set j (some (.own t'))) σ/\∀b,S j b∨W b∨C b=none->∀(i:Nat) h,i≠j->Y[i]?=some (some h)->¬ B i b:=by
 have nw:∀b,S j b∨W b∨C b=none->∀(i:Nat) h,i≠j->Y[i]?=some (some h)->¬ B i b:=λb hb i h n e z=>by rcases hb with hb|hb|hb;exact UP I w s l hb i h n e z;exact hw.nw i h e b hb z;exact(l.dom e z).1 hb
 have uj:∀b,S j b->U ρ S b:=λb hb=>⟨j,t,w,hb⟩
 have lk:∀b,S j b∨W b∨C b=none->U ρ S b∨H b=none:=λb hb=>by rcases hb with hb|hb|hb;exact .inl (uj b hb);exact(frW b hb).symm.imp (lock1U w) id;exact .inr (s.dm b hb)
 have fS:∀b,S j b->G b=none:=λb hb=>by
  by_cases q:G b=none;exact q;rcases s.fn b (I.dom w hb).2 q with z|z
  ·exact absurd z (I.lock1U w b hb)
  exact absurd z (I.dom w hb).1
 have fh:Same G m:=λb u e=>hH b u (l.fh b u e) λz=>by rw[fS b z]at e;cases e
 have I3:Rl K G m B (Y.set j none) σ:=⟨fh,by simpa using l.len,λi h e=>by
   rcases bA e with⟨_,z,_⟩| ⟨n,e⟩
   cases z;obtain⟨v,p,f⟩:=l.sl i h e;refine⟨v,p,f.mono (.refl _) λb hb=>⟨?_,(f.dom b hb).2⟩⟩;cases eb:C b with|none=>exact absurd eb (f.dom b hb).1|some u=>exact hH b u eb λz=>UP I w s l z i h (Q1 n) e hb,
  λi k u h n g X=>by
   rcases bA g with⟨_,z,_⟩| ⟨_,g⟩
   cases z;rcases bA X with⟨_,z,_⟩| ⟨_,X⟩
   ·cases z
   exact l.dj i k u h n g X⟩
 have I4:=I3.setO j hv r λi h n e b hb=>by
  rcases bA e with⟨_,z,_⟩| ⟨_,e⟩
  cases z;exact nw b (hz b hb) i h n e
 have es:(Y.set j none).set j (some (.own t'))=Y.set j (some (.own t')):=by simp
 rw[es]at I4;refine⟨⟨⟨s.ff,λb u e n=>hH b u (s.hh b u e λz=>n (lock1U w z)) λz=>n (uj b z),λb e=>s.dm b (dm b e),λb e z=>(s.fn b e z).imp (lock1U w) id,λb ⟨i,u,p,f⟩=>?_,λi u e hd=>?_⟩,λi u e=>?_⟩,I4,nw⟩;rcases bA p with⟨rfl,_,_⟩| ⟨n,p⟩
 ·rw[AA]at f
  exact lk b (hz b f)
 rw[YA (Q1 n)]at f;exact(s.uu b ⟨i,u,p,f⟩).imp (lock1U w) id;rcases bA e with⟨rfl,z,_⟩| ⟨n,e⟩
 ·cases z
 obtain⟨g,X⟩:=s.bo i u e hd;rcases zC w g with⟨z,_⟩| ⟨_,g⟩
 exact absurd z.symm n;exact⟨g,by rw[YA (Q1 n)];exact X⟩;rcases bA e with⟨rfl,_,_⟩| ⟨n,e⟩
 ·exact⟨t,w⟩
 obtain⟨t0,e0⟩:=s.ow i u e;rcases zC w e0 with⟨_,z⟩| ⟨_,e0⟩
 cases z;exact⟨t0,e0⟩
theorem Trs.erase{st:Bool}{S:fB}{k:Nat}(h:Trs K F H st vs ts S)(e:ts[k]?=some t):∃v P1 u,vs[k]?=some v/\Tr K F H st v t P1/\Trs K F H st (vs.eraseIdx k) (ts.eraseIdx k) u/\(∀b,P1 b->¬ u b)/\∀b,P1 b∨u b->S b:=by
 revert k;refine Trs.ind (R:=λst vs ts S=>∀{k:Nat},ts[k]?=some t->∃v P1 u,vs[k]?=some v/\Tr K F H st v t P1/\Trs K F H st (vs.eraseIdx k) (ts.eraseIdx k) u/\(∀b,P1 b->¬ u b)/\∀b,P1 b∨u b->S b) (λn k e=>by cases e) (λ{_ _ _ _ _ _ r _} h t n q f k e=>?_) h;cases k with|zero=>cases e;exact⟨_,_,_,rfl,h,t,n,λb hb=>(q b).mpr hb⟩|succ k=>obtain⟨v,P1,u,p,m,l,g,w⟩:=f (k:=k) e;refine⟨v,P1,λb=>r b∨u b,p,m,.cons h l (λb hb z=>n b hb (w b (.inr z))) λb=>wj,λb hb z=>z.elim (λz=>n b z (w b (.inl hb))) (g b hb),λb hb=>(q b).mpr ?_⟩;rcases hb with hb|hb|hb;exact .inr (w b (.inl hb));exact .inl hb;exact .inr (w b (.inr hb))
theorem VH{α:Type}:∀{l:List α}{k:α},l.Nodup->¬ k∈l->(l++[k]).Nodup
 |[],k,_,_=>by simp|a::r,k,h,hk=>by obtain⟨u,z⟩:=Qi.mp h;show(a::(r++[k])).Nodup;refine Qi.mpr ⟨λm=>?_,VH z λm=>hk (QK.mpr (Or.inr m))⟩;rcases Qf.mp m with q|q;exact u q;exact hk (QK.mpr (Or.inl (QI.mp q).symm))
theorem VJ(h:F a=none)(r:Trs K F H true L us P)(n:¬ P a):Tr K F (DA H a (.lst L)) true (.ref a) (.lst us) λb=>b=a∨P b :=
 .lst (S':=P) pA h (r.mono (.refl _) λb hb=>⟨kA λz=>n (z▸hb),(r.dom b hb).2⟩) n λb=>wj
theorem cD(w:Z a)(b:Addr)(u:HO)(e:H b=some u)(hb:¬ Z b):DA H a M b=some u:=by have h:b≠a:=λz=>hb (by rw[z];exact w);rw[kA h];exact e
theorem CA(b:Addr)(e:DA H a M b=none):H b=none:=by by_cases hb:b=a;rw[hb,pA]at e;cases e;rw[kA hb]at e;exact e
theorem z5{m:Mt}{N:T->T->Prop}{R:VK}(f:Same F H)(r:Tr K F H true v s Z)(rv:Trs K F H true vs ts W)(dj:∀b,Z b->¬ W b)(h:eK m s ts N)
  (k:∀w r s' H' S1 Zr,(∀b u,H b=some u->¬ Z b->H' b=some u)->(∀b,H' b=none->H b=none)->Tr K F H' true v s' S1->Tr K F H' true w r Zr->(∀b,Zr b->¬ S1 b)->(∀b,S1 b∨Zr b->Z b∨W b∨H b=none)->N r s'->R w H'):x5 K m v vs H R:=by
 cases m with
 |append =>
  obtain⟨us0,t0,rfl,rfl,h⟩:=h;cases r with
  |@lst _ a p _ _ S' h1 h2 l I g =>
   have e:Z a:=(g a).mpr (.inl rfl);cases rv with
   |@cons _ w t ws us _ W1 W2 X r2 n q =>
    cases r2 with
    |nil n2 =>
     have hW:∀b,W b↔W1 b:=λb=>by rw[q b];simp[n2 b]
     refine⟨a,p,w,rfl,rfl,h1,by rw[l.length];exact h.1,k .non (.d .none) _ _ _ (λ_=>False) (cD e) CA (VJ h2 (Trs.append l (Trs.one X) λb hb hw=>dj b ((g b).mpr (.inr hb)) ((hW b).mpr hw)) λz=>z.elim I λz=>dj a e ((hW a).mpr z)) (.d .non λ_ z=>z) (λ_ z=>z.elim) (λb hb=>?_) h.2⟩;rcases hb with(hb|hb|hb)|hb;exact .inl (hb▸e);exact .inl ((g b).mpr (.inr hb));exact .inr (.inl ((hW b).mpr hb));exact hb.elim
 |pop =>
  obtain⟨us0,i,j,t0,rfl,rfl,hi,ht,q⟩:=h;cases r with
  |@lst _ a p _ _ S' h1 h2 l I g =>
   have e:Z a:=(g a).mpr (.inl rfl);obtain⟨w,P1,P2,g1,g2,g3,g4,g5⟩:=l.erase ht;have na:¬ P1 a:=λz=>I (g5 a (.inl z));have nb:¬ P2 a:=λz=>I (g5 a (.inr z));cases rv with
   |cons X r2 n q2 =>
    cases r2;cases X with
    |d X n1 =>
     cases X;refine⟨a,i,p,j,w,rfl,rfl,h1,by rw[l.length];exact hi,g1,k w t0 _ _ _ P1 (cD e) CA (VJ h2 g3 nb) (g2.mono (.refl _) λb hb=>⟨kA λz=>na (z▸hb),(g2.dom b hb).2⟩) (λb hb z=>?_) (λb hb=>?_) q⟩;rcases z with z|z
     ·exact na (z▸hb)
     exact g4 b hb z;rcases hb with(hb|hb)|hb
     ·exact .inl (hb▸e)
     exact .inl ((g b).mpr (.inr (g5 b (.inr hb))));exact .inl ((g b).mpr (.inr (g5 b (.inl hb))))
 |reverse =>
  obtain⟨ds,rfl,rfl,q⟩:=h;cases rv;cases r with|@lst _ a p _ _ S' h1 h2 l I g=>have e:Z a:=(g a).mpr (.inl rfl);exact⟨a,p,rfl,rfl,h1,k .non (.d .none) _ _ _ (λ_=>False) (cD e) CA (VJ h2 (Trs.of_reps (l.un (iA ds)).1.reverse) λz=>z) (.d .non λ_ z=>z) (λ_ z=>z.elim) (λb hb=>by rcases hb with(hb|hb)|hb;exact .inl (hb▸e);exact hb.elim;exact hb.elim) q⟩
 |_=>exact h.elim
theorem Trs.setD(w:Rep K F A x){S:fB}(n:Nat)(h:Trs K F H true vs ts S):∃P,Trs K F H true (vs.set n A) (ts.set n (.d x)) P/\∀b,P b->S b:=by
 revert n;refine Trs.ind (R:=λst vs ts S=>∀n:Nat,∃P,Trs K F H st (vs.set n A) (ts.set n (.d x)) P/\∀b,P b->S b) (λ{_ S} z n=>⟨S,.nil z,λ_ h=>h⟩) (λ{_ _ _ _ _ _ S1 B} h t m q k n=>?_) h;cases n with|zero=>exact⟨B,.cons (S1:=λ_=>False) (.d w λ_ z=>z) t (λ_ z=>z.elim) λb=>by simp,λb hb=>(q b).mpr (.inr hb)⟩|succ n=>obtain⟨P,e,u⟩:=k n;exact⟨λb=>S1 b∨P b,.cons h e (λb hb z=>m b hb (u b z)) λb=>wj,λb hb=>(q b).mpr (hb.imp id (u b))⟩
theorem Trs.part{S:fB}(h:Trs K F H true vs ts S)(e:ts[i]?=some t):∃v S1,vs[i]?=some v/\Tr K F H true v t S1/\(∀b,S1 b->S b) /\
  ∀(w:Hp) t' u,(∀b,S b->¬ S1 b->w b=H b)->Tr K F w true v t' u->(∀b,u b->S1 b)->∃P,Trs K F w true vs (ts.set i t') P/\∀b,P b->S b:=by
 revert i;refine Trs.ind (R:=λst vs ts S=>∀{i:Nat},ts[i]?=some t->∃v S1,vs[i]?=some v/\Tr K F H st v t S1/\(∀b,S1 b->S b)/\∀(w:Hp) t' u,(∀b,S b->¬ S1 b->w b=H b)->Tr K F w st v t' u->(∀b,u b->S1 b)->∃P,Trs K F w st vs (ts.set i t') P/\∀b,P b->S b) (λn i e=>by cases e) (λ{_ _ _ _ _ _ m P2} h t n q p i e=>?_) h;cases i with|zero=>cases e;exact⟨_,m,rfl,h,λb hb=>(q b).mpr (.inl hb),λw t' u k r f=>⟨λb=>u b∨P2 b,.cons r (t.mono (.refl _) λb hb=>⟨k b ((q b).mpr (.inr hb)) λz=>n b z hb,(t.dom b hb).2⟩) (λb hb z=>n b (f b hb) z) λb=>wj,λb hb=>(q b).mpr (hb.imp (f b) id)⟩⟩|succ i=>obtain⟨v,S1,h1,h2,g,I⟩:=p (i:=i) e;refine⟨v,S1,h1,h2,λb hb=>(q b).mpr (.inr (g b hb)),λw t' u k r f=>?_⟩;obtain⟨P,g1,l⟩:=I w t' u (λb hb X=>k b ((q b).mpr (.inr hb)) X) r f;exact⟨λb=>m b∨P b,.cons (h.mono (.refl _) λb hb=>⟨k b ((q b).mpr (.inl hb)) λz=>n b hb (g b z),(h.dom b hb).2⟩) g1 (λb hb z=>n b hb (l b z)) λb=>wj,λb hb=>(q b).mpr (hb.imp id (l b))⟩
def Yh(ks:List D)(k:D):List D:=match lA ks k with
 |some _=>ks|none=>ks++[k]
def oh{α:Type}(ks:List D)(vs:List α)(k:D)(x:α):List α:=match lA ks k with
 |some n=>vs.set n x|none=>vs++[x]
theorem kN{α u:Type}[DecidableEq α](k:α)(h:u->α)(f:u->u)(hf:∀p,h (f p)=h p):∀(l:List u) (n:Nat),(l.map h).Nodup->(l.map h)[n]?=some k->(∀(g:u->V) (x:V),(∀p,h p=k->g (f p)=x)->(l.map λp=>if h p=k then f p else p).map g=(l.map g).set n x)
 |[],n,_,e=>by simp at e|p::r,0,nd,e=>by
  intro g x m;have e:h p=k:=by simpa using e
  rw[QO]at nd;obtain⟨w,X⟩:=Qi.mp nd;have e2:(r.map λp=>if h p=k then f p else p)=r:=by rw[show r=r.map id from(List.map_id r).symm,Qd];refine Wd λq hq=>?_;have:h q≠k:=λz=>w (QY.mpr ⟨q,by simpa using hq,z.trans e.symm⟩);simp[this]
  rw[QO,e2,QO,QO,if_pos e,m p e];rfl
 |p::r,n+1,nd,e=>by
  intro g x m;rw[QO]at nd;obtain⟨w,X⟩:=Qi.mp nd;have e:(r.map h)[n]?=some k:=by simpa using e
  have I:¬ h p=k:=λz=>w (by rw[z];exact Q9 e);rw[QO,QO,QO,if_neg I,kN k h f hf r n X e g x m];rfl
theorem put_keys{α h u:Type}[DecidableEq α](k:α)(z:h->α)(f:h->h)(g:h->u)(w:∀p,g (f p)=g p)(l:List h):(l.map λp=>if z p=k then f p else p).map g=l.map g:=by rw[Qd];refine Wd λp _=>?_;show g (if z p=k then f p else p)=g p;split;exact w p;rfl
theorem xI.put{k:D}(f:Same F H)(ha:H a=some o)(dk:xI K F b o ks vs)(ry:Rep K F J k)(hk:pF b k)(hl:ks.length<sizeLine)
  (kk:∀o',xI K F b o' (Yh ks k) (oh ks vs k A)->R (DA H a o')):NO K (.ref a) J A H R:=by
 cases b with
 |true =>
  obtain⟨ep,h,rfl,rfl,rfl,h4,r⟩:=dk;obtain⟨q,rfl⟩:=hk;cases ry with
  |@tup p _ _ hq rq =>
   cases dG rq;refine⟨ep,h,q,ha,λp hp=>f.tupl (h4 p hp),f.tupl hq,by simpa using hl,λX=>kk _ ?_⟩;have u:=uG q h;unfold uK Yh oh;cases e:lA (h.map λp=>tD p.1) (tD q) with
   |none =>
    rw[e]at u;have u:aG h q=none:=u;rw[u];refine⟨X,h++[(q,p,A)],rfl,by simp,by simp,λx g=>?_,?_⟩;rcases Qf.mp g with g|g
    ·exact h4 x g
    rw[QI.mp g];exact hq;rw[QW];refine VH r λm=>iC.mp e ?_;obtain⟨x,g,ex⟩:=QY.mp m;exact QY.mpr ⟨x,g,by rw[ex]⟩
   |some n =>
    rw[e]at u;have w:=ZE e;have l:(h.map (·.1))[n]?=some q:=by
     rw[Qc]at w ⊢;cases I:h[n]? with|none=>rw[I]at w;cases w|some x=>rw[I]at w;rw[qC,Qq]at w ⊢;exact HW w
    have hs:(aG h q).isSome=true:=by
     rw[u];have:n<h.length:=by have:=(Qe.mp l).1;simpa using this
     simp[this]
    rw[if_pos hs];refine⟨X,_,rfl,(put_keys q (·.1) (λp=>(p.1,p.2.1,A)) (λp=>tD p.1) (λ_=>rfl) h).symm,(kN q (·.1) (λp=>(p.1,p.2.1,A)) (λ_=>rfl) h n r l (·.2.2) A λ_ _=>rfl).symm,λx g=>?_,?_⟩;obtain⟨y,hy,ey⟩:=QY.mp g;have hy:=h4 y hy;by_cases z:y.1=q;rw[if_pos z]at ey;subst ey;exact hy;rw[if_neg z]at ey;subst ey;exact hy;have:=put_keys q (·.1) (λp:KE=>(p.1,p.2.1,A)) (·.1) (λ_=>rfl) h;rw[this];exact r
 |false =>
  obtain⟨z,rfl⟩:=hk;cases ry;rcases dk with⟨h,hne,rfl,rfl,rfl,r⟩| ⟨ep,rfl,rfl,rfl⟩
  rotate_left
  exact .inr ⟨ep,ha,kk _ (.inl ⟨[(.inr z,A)],by simp,rfl,rfl,rfl,by simp⟩)⟩;refine .inl ⟨h,ha,by simpa using hl,kk _ (.inl ?_)⟩;have u:=uI (.inr z) h;have ez:kD (.inr z)=.str z:=rfl;rw[ez]at u;unfold xR Yh oh;rw[ZO];cases e:lA (h.map λp=>kD p.1) (.str z) with
  |none=>rw[e]at u;have u:LJ h (.inr z)=none:=u;rw[u];refine⟨h++[(.inr z,A)],by simp,rfl,by simp[ez],by simp,?_⟩;rw[QW];refine VH r λm=>iC.mp e ?_;obtain⟨x,g,ex⟩:=QY.mp m;exact QY.mpr ⟨x,g,by rw[ex];rfl⟩|some n =>
   rw[e]at u;have w:=ZE e;have l:(h.map (·.1))[n]?=some (.inr z):=by
    rw[Qc]at w ⊢;cases I:h[n]? with|none=>rw[I]at w;cases w|some x=>rw[I]at w;rw[qC,Qq]at w ⊢;exact DR w
   have hs:(LJ h (.inr z)).isSome=true:=by
    rw[u];have:n<h.length:=by have:=(Qe.mp l).1;simpa using this
    simp[this]
   rw[if_pos hs];refine⟨_,by simpa using hne,rfl,(put_keys (.inr z) (·.1) (λp=>(p.1,A)) (λp=>kD p.1) (λ_=>rfl) h).symm,(kN (.inr z) (·.1) (λp=>(p.1,A)) (λ_=>rfl) h n r l (·.2) A λ_ _=>rfl).symm,?_⟩;have:=put_keys (.inr z) (·.1) (λp:Key×V=>(p.1,A)) (·.1) (λ_=>rfl) h;rw[this];exact r
theorem jO(h:F a=none)(u:xI K F b o ks L)(r:Trs K F H true L us P)(n:¬ P a):Tr K F (DA H a o) true (.ref a) (.dct b ks us) λb=>b=a∨P b :=
 .dct (S':=P) pA u h (r.mono (.refl _) λb hb=>⟨kA λz=>n (z▸hb),(r.dom b hb).2⟩) n λb=>wj
theorem OW(f:Same F H)(r:Tr K F H true v s Z)(ry:Rep K F J y)(rx:Rep K F A x)(h:td s y x N)
  (k:∀s' H' S1,(∀b u,H b=some u->¬ Z b->H' b=some u)->(∀b,H' b=none->H b=none)->Tr K F H' true v s' S1->(∀b,S1 b->Z b)->N s'->R H'):NO K v J A H R:=by
 cases s with
 |lst ts =>
  cases y with
  |int i =>
   obtain⟨n,hn,q⟩:=h;cases ry;cases r with|@lst _ a xs _ _ S' h1 h2 m I l=>have g:Z a:=(l a).mpr (.inl rfl);obtain⟨P,X,p⟩:=m.setD rx n;refine⟨xs,n,h1,by rw[m.length];exact hn,k _ _ _ (cD g) CA (VJ h2 X λz=>I (p a z)) (λb hb=>?_) q⟩;rcases hb with hb|hb;exact hb▸g;exact(l b).mpr (.inr (p b hb))
  |_=>exact h.elim
 |dct b ks ts =>
  obtain⟨hk,hl,q⟩:=h;cases r with
  |@dct _ _ a o _ vs _ _ S' h1 dk h2 m I l =>
   have g:Z a:=(l a).mpr (.inl rfl);refine dk.put f h1 ry hk hl λo' w=>?_;unfold Yh oh at w;unfold uR at q;cases e:lA ks y with
   |some n=>rw[e]at w q;obtain⟨P,X,p⟩:=m.setD rx n;refine k _ _ _ (cD g) CA (jO h2 w X λz=>I (p a z)) (λb hb=>?_) q;rcases hb with hb|hb;exact hb▸g;exact(l b).mpr (.inr (p b hb))
   |none=>rw[e]at w q;have X:=Trs.append m (Trs.one (Tr.d (S:=λ_=>False) rx λ_ z=>z)) λ_ _ z=>z;refine k _ _ _ (cD g) CA (jO h2 w X λz=>z.elim I id) (λb hb=>?_) q;rcases hb with hb|hb|hb;exact hb▸g;exact(l b).mpr (.inr hb);exact hb.elim
 |_=>exact h.elim
theorem xI.vs_inj{m:Hp}{f:List D}{u:List V}(h:xI K F b o ks vs)(h':xI K m b o f u):vs=u:=by
 cases b with|true=>obtain⟨l,k,e,_,rfl,_⟩:=h;obtain⟨g,w,z,_,rfl,_⟩:=h';rw[e]at z;cases z;rfl|false=>rcases h with⟨k,_,e,_,rfl,_⟩| ⟨l,e,_,rfl⟩<;>rcases h' with⟨w,_,z,_,rfl,_⟩| ⟨g,z,_,rfl⟩<;>rw[e]at z<;>cases z<;>rfl
theorem N1{F0:Hp}{n:Nat}{w:V}(f:Same F H)(r:Tr K F H true (.ref a) (.dct b ks ts) Z)(l:H a=some o)(q:xI K F0 b o ks vs)(hw:vs[n]?=some w)(ht:ts[n]?=some s)
  (ry:Rep K F J y) (rx:Rep K F A x) (h:td s y x N)
  (k:∀s' g S1,(∀b u,H b=some u->¬ Z b->g b=some u)->(∀b,g b=none->H b=none)->Tr K F g true (.ref a) (.dct b ks (ts.set n s')) S1->(∀b,S1 b->Z b)->N s'->R g):NO K w J A H R:=by
 cases r with
 |@dct _ _ a o' _ vs' _ _ S' h1 dk h2 h3 h4 p =>
  rw[l]at h1;cases h1;cases q.vs_inj dk;have ha:Z a:=(p a).mpr (.inl rfl);obtain⟨w',S1,g1,g2,g3,g4⟩:=h3.part ht;rw[hw]at g1;cases g1;refine OW f g2 ry rx h λs' g X hh dm rs sub q2=>?_;have keep:∀b,¬ S1 b->H b≠none->g b=H b:=λb hb m=>by
   cases e:H b with|none=>exact absurd e m|some u=>exact hh b u e hb
  have na:¬ S1 a:=λz=>h4 (g3 a z);obtain⟨P,p1,I⟩:=g4 g s' X (λb hb m=>keep b m (h3.dom b hb).1) rs sub;refine k _ g (λb=>b=a∨P b) (λb u e hb=>hh b u e λz=>hb ((p b).mpr (.inr (g3 b z)))) dm (.dct (S':=P) ((keep a na (by rw[l];simp)).trans l) dk h2 p1 (λz=>h4 (I a z)) λb=>wj) (λb hb=>?_) q2;rcases hb with hb|hb;exact hb▸ha;exact(p b).mpr (.inr (I b hb))
theorem J8{p:Addr}(f:Same F H)(X:H p=none)(r:Tr K F H true v t Z)(ry:Rep K F J y)(h:i8 y t N)
  (k:∀s' l S1,(∀b u,H b=some u->¬ Z b->l b=some u)->(∀b,l b=none->H b=none)->Tr K F l true v s' S1->(∀b,S1 b->Z b∨b=p)->N s'->R l):aJ K v [J,.ref p] (DA H p (.dT 0 [])) λ_ l=>R l:=by
 obtain⟨ks,ts,rfl,hk,hl,h⟩:=h;cases r with
 |@dct _ _ a o _ vs _ _ S' h1 dk h2 h3 h4 h5 =>
  have ha:Z a:=(h5 a).mpr (.inl rfl);obtain⟨ep,w,rfl,rfl,rfl,d4,d5⟩:=dk;obtain⟨q,rfl⟩:=hk;have ap:a≠p:=VA h1 X;have fp:F p=none:=f.free X;have sm:Same H (DA H p (.dT 0 [])):=JB X;cases ry with
  |@tup c _ _ hq rq =>
   cases dG rq;have vf:=uG q w;refine⟨a,c,.ref p,ep,w,q,rfl,rfl,(kA ap).trans h1,λx g=>(f.trans sm).tupl (d4 x g),(f.trans sm).tupl hq,by simpa using hl,λu eu=>?_,λen I=>?_⟩;rcases h with⟨n,e,q⟩| ⟨e,q⟩
   ·have r0:Tr K F H true (.ref a) (.dct true (w.map λp=>tD p.1) ts) Z:=.dct h1 ⟨ep,w,rfl,rfl,rfl,d4,d5⟩ h2 h3 h4 h5
    refine k _ _ Z (λb u e _=>sm b u e) (λb e=>CA b e) (r0.mono (.refl _) λb hb=>⟨kA λz=>(r0.dom b hb).1 (by rw[z];exact X),(r0.dom b hb).2⟩) (λb hb=>.inl hb) q
   rw[e]at vf;rw[vf]at eu;cases eu;rcases h with⟨n,e,q⟩| ⟨e,q2⟩
   ·have hn:=ZE e
    rw[e]at vf;have:n<w.length:=by have:=(Qe.mp hn).1;simpa using this
    rw[vf]at en;have en:(w.map (·.2.2))[n]?=none:=en;rw[List.getElem?_eq_none_iff,QF]at en;omega
   have ep2:uK w q c (.ref p)=w++[(q,c,.ref p)]:=by unfold uK;rw[en];rfl
   rw[ep2];have np:¬ S' p:=λz=>(h3.dom p z).1 X;have g0:Tr K F (DA H p (.dT 0 [])) true (.ref p) (.dct true [] []) λb=>b=p :=
    .dct (S':=λ_=>False) (vs:=[]) pA ⟨0,[],rfl,rfl,rfl,λ_ z=>(nomatch z),Qy⟩ fp (.nil λ_ z=>z) (λz=>z) λb=>by simp
   have g3:Trs K F (DA H p (.dT 0 [])) true (w.map (·.2.2)) ts S':=h3.mono (.refl _) λb hb=>⟨kA λz=>np (z▸hb),(h3.dom b hb).2⟩
   have g1:=Trs.append g3 (Trs.one g0) λb hb z=>np (z▸hb);have dk':xI K F true (.dT I (w++[(q,c,.ref p)])) ((w.map λp=>tD p.1)++[tD q]) (w.map (·.2.2)++[.ref p]):=by
    refine⟨I,_,rfl,by simp,by simp,λx g=>?_,?_⟩;rcases Qf.mp g with g|g
    ·exact d4 x g
    rw[QI.mp g];exact hq;rw[QW];refine VH d5 λm=>iC.mp e ?_;obtain⟨x,g,ex⟩:=QY.mp m;exact QY.mpr ⟨x,g,by rw[ex]⟩
   refine k _ _ _ (λb u e hb=>?_) (λb e=>CA b (CA b e)) (jO h2 dk' g1 λz=>z.elim h4 ap) (λb hb=>?_) q2;rw[kA λz=>hb (by rw[z];exact ha)];exact sm b u e;rcases hb with hb|hb|hb
   ·exact .inl (hb▸ha)
   exact .inl ((h5 b).mpr (.inr hb));exact .inr hb
end
end
section
variable{K:QC}{Γ:Ev}{Ψ:PEv}
section
variable{p:PX}{F H:Hp}{S:Ft}{ρ:zA}{Z:fB}
noncomputable abbrev ZS(K:QC)(Γ:Ev)(Ψ:PEv)(p:PX):Prop:=∀{E:XE}{x:XK}{F H:Hp}{S:Ft}{ρ:zA}{h:St}{Q:TK}{R:VK},Rl K F H S ρ h->HE K F H S ρ E x->(pe Ψ p E).e ρ Q->kB K (tG p) F H S ρ h Q R->(wp K Γ p x).e h H R
theorem AQ(f:ZS K Γ Ψ p){E:XE}{w:XK}{σ:St}{Q:Bool->zA->Prop}{R:Bool->Hp->Prop}(I:Rl K F H S ρ σ)(X:HE K F H S ρ E w)(h:(pe Ψ p E).e ρ λt _ y=>pH t.er λb=>Q b y)(k:UG K F H S ρ σ Q R) :
  (wp K Γ p w).e σ H λx i=>oF K x i R :=
 f I X h λv l j g z t n Z s u r q=>MS (r.tr.rep u.fh) q λc a=>k c l j g z s u a
theorem PSnd.of_e(w:∀E ρ Q,(pe Ψ p E).t ρ Q=(pe Ψ p E).e ρ λt _ y=>pH t.er λb=>Q b y)(z:∀v σ H R,(wp K Γ p v).t σ H R=(wp K Γ p v).e σ H λx g=>oF K x g R)(f:∀E,(pe Ψ p E).a=yD.a)(u:ZS K Γ Ψ p):PSnd K Γ Ψ p where
 e:=u
 t:=λI X h k=>by rw[w]at h;rw[z];exact AQ u I X h k
 a:=λI X _ h k=>by rw[f]at h;exact h.elim
theorem PSnd.of_0(x:∀E,(pe Ψ p E).t=yD.t)(z:∀E,(pe Ψ p E).a=yD.a)(y:ZS K Γ Ψ p):PSnd K Γ Ψ p where
 e:=y
 t:=λI X h k=>by rw[x]at h;exact h.elim
 a:=λI X _ h k=>by rw[z]at h;exact h.elim
theorem PSnd.of_t(l:∀E ρ Q,(pe Ψ p E).e ρ Q=(pe Ψ p E).t ρ λb u=>Q (.d (.bool b)) false u)(v:∀z σ H R,(wp K Γ p z).t σ H R=(wp K Γ p z).e σ H λx n=>SZ x n R)(m:∀E,(pe Ψ p E).a=yD.a)
  (f:∀{E:XE}{z:XK}{F H:Hp}{S:Ft}{ρ:zA}{σ:St}{Q:Bool->zA->Prop}{R:VK},Rl K F H S ρ σ->HE K F H S ρ E z->(pe Ψ p E).t ρ Q->UG K F H S ρ σ Q (λb=>R (.bl b))->(wp K Γ p z).e σ H R):PSnd K Γ Ψ p where
 e:=λI X h k=>by rw[l]at h;exact f I X h λb j i g y s w q=>kB.d k s w (.bl b) q
 t:=λI X h k=>by rw[v];exact f I X h λb j i g y s w q=>k b j i g y s w q
 a:=λI X _ h k=>by rw[m]at h;exact h.elim
theorem X6(i:Nat):ZS K Γ Ψ (.var i):=by
 intro E f F H S ρ u Q R I X h k;have x:Jh ρ[i]? λt=>Q t false ρ:=h;show(match u[i]? with|some (some v)=>R v H|_=>False);have y:∀s,ρ[i]?=some (some s)->Q s.t false ρ->(match u[i]? with|some (some v)=>R v H|_=>False):=λs e q=>by obtain⟨v,a,w⟩:=I.sl i _ e;rw[a];exact k v F H S ρ s.t false (S i) .refl I ⟨w.weak,λz=>(by cases z),λ_ b hb=>⟨i,s,QI.mpr rfl,e,hb⟩,λz=>(by cases z)⟩ q
 unfold Jh at x;split at x;rename_i e;exact y _ e x;rename_i e;exact y _ e x;exact x.elim;exact x.elim
theorem cC{i j:Nat}{s:Sl}(h:(ρ.set i none)[j]?=some (some s)):j≠i/\ρ[j]?=some (some s):=by
 rcases bA h with⟨_,z,_⟩| ⟨n,e⟩
 cases z;exact⟨Q1 n,e⟩
theorem Ai(i:Nat):ZS K Γ Ψ (.mv i):=by
 intro E w F H S ρ y Q R I X h k;have x:HC ρ[i]? λt=>Q t true (ρ.set i none):=h;show(match y[i]? with|some (some v)=>R v H|_=>False);unfold HC at x;split at x;rename_i t hd;obtain⟨v,u,r⟩:=I.sl i _ hd;rw[u];exact k v F H S (ρ.set i none) t true (S i) ⟨⟨.refl _,λ_ _ h _=>h,λ_ h=>h,λb h z=>absurd h z,λb ⟨j,t,e,hb⟩=>.inl ⟨j,t,(cC e).2,hb⟩,λj t e _=>⟨(cC e).2,rfl⟩⟩,λj t e=>⟨t,(cC e).2⟩⟩
  (I.drop (by simp) λj s e=>(cC e).2) ⟨r,λ_ b hb=>.inr ⟨i,t,hd,hb⟩,λz=>(by cases z),λ_ j s e b hb z=>I.dj i j t s (Q1 (cC e).1) hd (cC e).2 b hb z⟩ x
 exact x.elim;exact x.elim;exact x.elim
theorem F9{m:Mt}{v:V}{s:T}(h:isMut m=true)(x:EI m s=true)(r:Tr K F H true v s Z):HS K m.ty v H:=by
 unfold EI at x;split at x;cases r with
 |lst y _ _ _ _ =>
  refine .inl ⟨?_,_,yC.of y⟩;cases m with|append=>rfl|pop=>rfl|reverse=>rfl|_=>cases x
 cases x
theorem Ei{m:Mt}{o g:PX}(io:PSnd K Γ Ψ o)(ia:PSnd K Γ Ψ g):ZS K Γ Ψ (.mt m o g):=by
 intro E EK F H S ρ L Q R I X h k;show(wp K Γ o EK).e L H λx J=>HS K m.ty x J/\(wp K Γ g EK).a L J λA l=>x5 K m x A l R;cases hm:isMut m with
 |false =>
  have h:(pe Ψ o E).e ρ λx n M=>KR m (uA x n).vw=true/\sq (uA x n) M ((pe Ψ g E).a []) λf y=>bc m (uA x n).vw (vC f) λz k=>Q z k y:=by have C:(if isMut m=true then _ else _):=h;rw[hm,if_neg (by simp)]at C;exact C
  refine Nc (P1:=λx n=>KR m (uA x n).vw=true) (R1:=λv J=>HS K m.ty v J) (RR:=λv A l=>x5 K m v A l R) io ia I X h (λv F' H' x n Za r p=>Fe r p) λv A F' H' S' ρ' x n f Za Y s I' X' r _ tn q=>?_;rw[DJ _ rfl]at q;exact O9 s I' r tn q k
 |true =>
  have h:G6 (gX o) λj=>HC ρ[j]? λt=>EI m t=true/\(pe Ψ g E).a [] (ρ.set j (some (.nv t))) λf y=>kF f=true/\y[j]?=some (some (.nv t))/\eK m t (iF f) λr s'=>Q r true (y.set j (some (.own s'))):=by have C:(if isMut m=true then _ else _):=h;rw[hm,if_pos rfl]at C;exact C
  cases o with
  |var j =>
   have h:HC ρ[j]? _:=h;unfold HC at h;split at h;rename_i t u;obtain⟨ht,q1⟩:=h;obtain⟨v0,hv,B⟩:=I.sl j _ u;have IL:=I.lock1 u;have n0:=I.lock1U u;have B:Tr K F H true v0 t (S j):=B;have XL:=X.lock1 u;show(match L[j]? with|some (some v)=>_|_=>False);rw[hv];refine⟨F9 hm ht B,?_⟩;refine ia.a (md:=[]) IL XL (λj u=>by cases g<;>cases u) q1 λA F2 l S2 y f W Y N I2 G _ P=>?_;obtain⟨he,hj2,P⟩:=P;have r2:Tr K F2 l true v0 t (S j):=N.toStp.keep B n0;have hw:=G.held;have trs:=G.av.trs B9 he;have wS:∀b,S j b->¬ W b:=λb hb hb2=>by rcases G.fr b hb2 with q|q;exact(B.dom b hb).1 q;exact n0 b hb q
   refine z5 I2.fh r2 trs wS P λw r s' H3 S3 Zr hh dm O rr dz hf q=>?_;obtain⟨st,I3,nw⟩:=YF I u hv N I2 hh dm O (λb hb=>hf b (.inl hb)) hw G.fr;have zr:∀b,Zr b->S j b∨W b∨l b=none:=λb hb=>hf b (.inr hb);refine k w F2 H3 _ _ r true Zr st I3 ⟨rr,λ_ b hb=>?_,λz=>(by cases z),λ_ i sl e b hb z=>?_⟩ q;rcases zr b hb with q|q|q
   ·exact .inr ⟨j,t,u,q⟩
   exact(G.fr b q).imp id (lock1U u);exact .inl (N.dm b q);rcases bA e with⟨rfl,_,_⟩| ⟨n,e⟩
   ·rw[AA]at z
    exact dz b hb z
   rw[YA (Q1 n)]at z;exact nw b (zr b hb) i sl (Q1 n) e z
   all_goals exact h.elim
  |_=>exact h.elim
theorem kB.dct{ws:List Nat}{F H x y:Hp}{S S1:Ft}{ρ h:zA}{σ:St}{Q:TK}{R:VK}(k:kB K ws F H S ρ σ Q R)(s:Ste F H S ρ x y S1 h)(I:Rl K x y S1 h σ){p:Addr}(g:H p=none)(m:x p=none)(j:Held x y S1 h λb=>b=p){o:HO}{b:Bool}{ks:List D}{vs:List V}{ts:List T}{W:fB}(C:xI K x b o ks vs)(r:Trs K x y true vs ts W)
  (B:∀b,W b->H b=none∨U ρ S b) (f:Held x y S1 h W) (a:¬ W p) (q:Q (.dct b ks ts) true h):R (.ref p) (DA y p o):=by
 have Y:∀b u,H b=some u->b≠p:=λb u e=>VA e g;have X:Ste F H S ρ x (DA y p o) S1 h:=⟨⟨s.ff,λb u e n=>by rw[kA (Y b u e)];exact s.hh b u e n,λb e=>s.dm b (CA b e),s.fn,s.uu,s.bo⟩,s.ow⟩
 have E:Rl K x (DA y p o) S1 h σ:=⟨λb u e=>by rw[kA λz=>by rw[z,m]at e;cases e];exact I.fh b u e,I.len,λi w e=>by obtain⟨v,A,l⟩:=I.sl i w e;exact⟨v,A,l.mono (.refl _) λb hb=>⟨kA λz=>j.nw i w e b z hb,(l.dom b hb).2⟩⟩,I.dj⟩
 refine k _ x _ S1 h _ true (λb=>b=p∨W b) X E ⟨.dct pA C m (r.mono (.refl _) λb hb=>⟨kA λz=>a (z▸hb),(f.dom b hb).2⟩) a (λb=>wj),λ_ b hb=>?_,λz=>(by cases z),λ_ i w e b hb z=>?_⟩ q;rcases hb with hb|hb
 ·exact .inl (hb▸g)
 exact B b hb;rcases hb with hb|hb
 ·exact j.nw i w e b hb z
 exact f.nw i w e b hb z
theorem VR.strict{u y:Hp}{S1:Ft}{h:zA}{ws:List Nat}{v:V}{t:T}{n:Bool}(r:VR K ws H S ρ u y S1 h v t n Z)(e:bH t n=true):∃W,Tr K u y true v t W/\Held u y S1 h W/\∀b,W b->H b=none∨U ρ S b:=by
 cases n with
 |true=>exact⟨Z,r.tr,r.held,r.fr rfl⟩|false =>
  have w:=r.tr;cases t with
  |d x=>cases w with|d q _=>exact⟨λ_=>False,.d q λ_ z=>z,.none,λ_ z=>z.elim⟩
  |_=>cases e
theorem BK{σ:St}(I:Rl K F H S ρ σ){p:Addr}(h:H p=none)(o:HO):Held F (DA H p o) S ρ λb=>b=p :=
 ⟨λb hb=>⟨by rw[hb,pA];simp,by rw[hb];exact I.fh.free h⟩,λi x e b hb z=>(I.dom e z).1 (by rw[hb];exact h)⟩
theorem JX{F:Hp}:∀{nd:List (Str×D)}{vs:List V},Reps K F vs (nd.map λp=>PyData.tuple [.str p.1,p.2])->∃x:ec,vs=x.map (λz=>V.ref z.1)/\(∀z∈x,XC K F z.1 [.str z.2.1,z.2.2])/\(x.map λz=>z.2.1)=(nd.map λp=>p.1)/\Reps K F (x.map λz=>z.2.2) (nd.map λp=>p.2)
 |[],vs,h=>by cases h;exact⟨[],rfl,λ_ z=>(nomatch z),rfl,.nil⟩
 | (s,d)::nd,vs,h=>by
  cases h with
  |cons a b =>
   obtain⟨x,rfl,k,v,u⟩:=JX b;cases a with
   |tup q r =>
    cases r with
    |cons c e =>
     cases e with|cons w f=>cases f;cases c;refine⟨(_,s,_)::x,rfl,λz y=>?_,by rw[QO,QO,v],.cons w u⟩;rcases QK.mp y with rfl|y;exact q;exact k z y
theorem sf{nd:List (Str×D)}{h:ec}(u:nd≠[])(x:(h.map λz=>z.2.1)=(nd.map λp=>p.1))(y:(nd.map λp=>p.1).Nodup):xI K F false (.dK (oT h)) (nd.map λp=>.str p.1) (h.map λz=>z.2.2):=by refine .inl ⟨oT h,λz=>u ?_,rfl,?_,?_,ZX (by rw[x];exact y)⟩;have:h=[]:=QAR.mp z;subst this;exact QAR.mp x.symm;have:=congrArg (List.map PyData.str) x;rw[Qd,Qd]at this;unfold oT;rw[Qd];exact this.symm;unfold oT;rw[Qd];rfl
theorem GA(g:GOk K Γ Ψ):∀(p:PX),PSnd K Γ Ψ p
 | .var i=>⟨X6 i,λI X h k=>AQ (Γ:=Γ) (Ψ:=Ψ) (X6 i) I X h k,λI X _ h k=>h.elim⟩|.int i=>⟨λI X h k=>kB.d k .refl I (.int i) h,λI X h k=>k _ _ _ _ _ .refl I h,λI X _ h k=>h.elim⟩|.str x=>⟨λI X h k=>kB.d k .refl I (.str x) h,λI X h k=>h.elim,λI X _ h k=>h.elim⟩|.bl b=>⟨λI X h k=>kB.d k .refl I (.bl b) h,λI X h k=>k _ _ _ _ _ .refl I h,λI X _ h k=>h.elim⟩|.non=>⟨λI X h k=>kB.d k .refl I .non h,λI X h k=>k _ _ _ _ _ .refl I h,λI X _ h k=>h.elim⟩|.glo x=>.of_e (λ_ _ _=>rfl) (λ_ _ _ _=>rfl) (λ_=>rfl) λ{E L F H S ρ G Q R} I X h k=>by have h:(match Ψ.va x with|some d=>Q (.d d) false ρ|none=>False):=h;split at h;rename_i d e;exact kB.d k .refl I (g.va x d e F) h;exact h.elim
 | .bty _ _=>⟨λI X h k=>h.elim,λI X h k=>h.elim,λI X _ h k=>h.elim⟩|.bin op a b=>.of_e (λ_ _ _=>rfl) (λ_ _ _ _=>rfl) (λ_=>rfl) λ{E L F H S ρ G Q R} I X h k =>
  CW (P:=λx n y m O=>binT op (uA x n).vw (uA y m).vw λz k=>Q z k O) (RR:=λx y H2=>t6 K op x y H2 R) (GA g a) (GA g b) I X h λv w N M S' A x n y m Za Zb s C X' ra _ rb q=>cb s C ra rb q k
 | .cmp op a b=>.of_t (λ_ _ _=>rfl) (λ_ _ _ _=>rfl) (λ_=>rfl) λ{E L F H S ρ G Q R} I X h k =>
  CW (P:=λx n y m O=>v6 op x.er (uA y m) λk=>Q k O) (RR:=λx y H2=>BZ K op x y H2 R) (GA g a) (GA g b) I X h λv w N M S' A x n y m Za Zb s C X' ra _ rb q =>
   k6 C.fh (by have:=ra.rep C.fh;rwa [kU]at this) rb q λc qc=>k c N M S' A s C qc
 | .neg a=>.of_0 (λ_=>rfl) (λ_=>rfl) λ{E L F H S ρ G Q R} I X h k=>by
  refine(GA g a).e (Q:=λx _ B=>C9 x λt=>Q t false B) I X h λv N M S' A x n Z s C r q=>?_;have tr:=r.tr;obtain⟨i,rfl,q2⟩:=(show C9 x λt=>Q t false A from q)
  cases tr with|d rr _=>cases rr;exact kB.d k s C (.int _) q2
 | .and a b=>⟨λ{E L F H S ρ G Q R} I X h k=>by
   refine(GA g a).e (Q:=λx _ B=>gc x.er λc=>if c=true then(pe Ψ b E).e B Q else Q (.d (.bool false)) false B) (R:=λx J=>SZ x J λc H2=>if c=true then(wp K Γ b L).e G H2 R else R (.bl false) H2) I X h λv N M S' A x n Z s C r q=>?_;refine RZ (r.tr.rep C.fh) q λc qc=>?_;cases c with|false=>exact kB.d k s C (.bl false) qc|true=>exact(GA g b).e C (X.from s.toStp) qc ((k.from s).vars λi hi=>QV _ hi),
  λ{E L F H S ρ G Q R} I X h k=>by
   refine(GA g a).t (Q:=λc B=>if c=true then(pe Ψ b E).t B Q else Q false B) (R:=λc J=>if c=true then(wp K Γ b L).t G J R else R false J) I X h λc N M S' A s C qc=>?_;cases c with|false=>exact k _ N M S' A s C qc|true=>exact(GA g b).t C (X.from s.toStp) qc (UG.from k s),λI X _ h k=>h.elim⟩
 | .or a b=>⟨λ{E L F H S ρ G Q R} I X h k=>by
   refine(GA g a).e (Q:=λx _ B=>gc x.er λc=>if c=true then Q (.d (.bool true)) false B else(pe Ψ b E).e B Q) (R:=λx J=>SZ x J λc H2=>if c=true then R (.bl true) H2 else(wp K Γ b L).e G H2 R) I X h λv N M S' A x n Z s C r q=>?_;refine RZ (r.tr.rep C.fh) q λc qc=>?_;cases c with|true=>exact kB.d k s C (.bl true) qc|false=>exact(GA g b).e C (X.from s.toStp) qc ((k.from s).vars λi hi=>QV _ hi),
  λ{E L F H S ρ G Q R} I X h k=>by
   refine(GA g a).t (Q:=λc B=>if c=true then Q true B else(pe Ψ b E).t B Q) (R:=λc J=>if c=true then R true J else(wp K Γ b L).t G J R) I X h λc N M S' A s C qc=>?_;cases c with|true=>exact k _ N M S' A s C qc|false=>exact(GA g b).t C (X.from s.toStp) qc (UG.from k s),λI X _ h k=>h.elim⟩
 | .not a=>⟨λ{E L F H S ρ G Q R} I X h k=>by
   refine(GA g a).e (Q:=λx _ B=>pH x.er λc=>Q (.d (.bool (!c))) false B) (R:=λx J=>oF K x J λc H2=>R (.bl (!c)) H2) I X h λv N M S' A x n Z s C r q=>?_;exact MS (r.tr.rep C.fh) q λc qc=>kB.d k s C (.bl _) qc,
  λ{E L F H S ρ G Q R} I X h k=>(GA g a).t (Q:=λc B=>Q (!c) B) (R:=λc J=>R (!c) J) I X h λc N M S' A s C qc=>k _ N M S' A s C qc,λI X _ h k=>h.elim⟩
 | .call f as=>.of_e (λ_ _ _=>rfl) (λ_ _ _ _=>rfl) (λ_=>rfl) λ{E L F H S ρ G Q R} I X h k=>f6 g (GA g as) I X h k|.isi a c=>by
  have key:∀{E:XE}{L:XK}{F H:Hp}{S:Ft}{ρ:zA}{G:St}{Q:Bool->zA->Prop}{R:VK},Rl K F H S ρ G->HE K F H S ρ E L->(pe Ψ (.isi a c) E).t ρ Q->UG K F H S ρ G Q (λb=>R (.bl b))->(wp K Γ (.isi a c) L).e G H R:=by
   intro E L F H S ρ G Q R I X h k;refine(GA g a).e (Q:=λx _ B=>Ja c x.er λb=>Q b B) I X h λv N M S' A x n Z s C r q=>?_;cases c with|bty z n=>obtain⟨b,h1,h2,q⟩:=q;exact aa (r.tr.rep C.fh) h1 h2 (k b N M S' A s C q)|_=>exact q.elim
  refine⟨λI X h k=>key I X h λb N M S' A s C q=>kB.d k s C (.bl b) q,λ{E L F H S ρ G Q R} I X h k=>?_,λI X _ h k=>h.elim⟩;exact key (R:=λv J=>oF K v J R) I X h λb N M S' A s C q=>k b N M S' A s C q
 | .bi f as=>.of_e (λ_ _ _=>rfl) (λ_ _ _ _=>rfl) (λ_=>rfl) λ{E L F H S ρ G Q R} I X h k =>
  iS (P:=λxs B=>oW f (vC xs) λz k=>Q z k B) (RR:=λvs J=>Rf K f vs J R) (GA g as) I X h λvs N M S' A xs Y s C X' tn _ q=>by rw[DJ _ rfl]at q;exact Ub s C tn q k
 | .mt m o as=>.of_e (λ_ _ _=>rfl) (λ_ _ _ _=>rfl) (λ_=>rfl) (Ei (GA g o) (GA g as))|.idx a b=>by
  have he:ZS K Γ Ψ (.idx a b):=λ{E L F H S ρ G Q R} I X h k =>
   CW (P:=λx n y m O=>(lJ (uA x n).vw (uA y m).vw λz=>Q z false O)∨(KL (uA x n).vw y.er λz=>Q z false O)) (RR:=λx y H2=>bJ K x y H2 R) (GA g a) (GA g b) I X h λv w N M S' A x n y m Za Zb s C X' ra za rb q=>by rcases q with q|q;exact Ka s C ra za rb q k;exact Ha s C ra za (by have:=rb.rep C.fh;rwa [kU]at this) q k
  exact⟨he,λI X h k=>AQ he I X h k,λI X _ h k=>h.elim⟩
 | .slc a lo hi=>.of_0 (λ_=>rfl) (λ_=>rfl) λ{E L F H S ρ G Q R} I X h k=>by
  have part:∀(p:PX),PSnd K Γ Ψ p->∀{F H:Hp}{S:Ft}{ρ:zA}{x:T}{P:Option Int->zA->Prop}{RP:Option Int->Hp->Prop},Rl K F H S ρ G->HE K F H S ρ E L ->
    sq (α:=Option Int) x ρ (if isNop p=true then λρ (R:Option Int->zA->Prop)=>R none ρ else λρ R=>(pe Ψ p E).e ρ λl _ O=>XF l.er λo=>R o O) P ->
    (∀o N M S' A,Ste F H S ρ N M S' A->Rl K N M S' A G->(∀st v Zx,Tr K F H st v x Zx->Tr K N M st v x Zx)->P o A->RP o M) ->
    (if isNop p=true then λ(R:Option Int->Hp->Prop)=>R none H else λR=>(wp K Γ p L).e G H λl H2=>lK l H2 R) RP:=by
   intro p ip F H S ρ x P RP I X h k;cases hn:isNop p with
   |true=>simp only[hn,if_true]at h ⊢;refine k none F H S ρ .refl I (λ_ _ _ r=>r) ?_;unfold sq at h;split at h<;>exact h|false =>
    simp only[hn,qY,if_false]at h ⊢;have h2:sq x ρ (cu (pe Ψ p E).e) λy A=>XF y.1.er λo=>P o A:=by unfold sq at h ⊢;exact h
    refine Yd ip I X h2 λw N M S' A y m Z s C kp _ r q=>R3 (r.tr.rep C.fh) q λo qo=>k o N M S' A s C kp qo
  refine JD (GA g a) I X h λv F1 J S1 B x n Za s1 I1 X1 r1 _ z1 h1=>?_;refine part lo (GA g lo) I1 X1 h1 λl F2 H2 S2 O s2 I2 k2 h2=>?_;refine part hi (GA g hi) I2 (X1.from s2.toStp) h2 λu F3 H3 S3 ρ3 s3 I3 k3 h3=>?_;exact l8 (s1.trans (s2.trans s3)) I3 (k3 _ _ _ (k2 _ _ _ r1)) h3 k
 | .nop=>⟨λI X h k=>h.elim,λI X h k=>h.elim,λI X _ h k=>h.elim⟩|.lst as=>.of_0 (λ_=>rfl) (λ_=>rfl) λ{E L F H S ρ G Q R} I X h k=>by refine(GA g as).a (md:=[]) (R:=λxs J=>xs.length<=sizeLine/\∀p,J p=none->R (.ref p) (DA J p (.lst xs))) I X (λj hj=>by cases as<;>cases hj) h λvs N M S' A xs W Y s C r _ q=>?_;exact⟨by rw[r.av.length];exact q.2.1,λp hp=>kB.list k s C hp (r.av.trs B9 q.1) r.fr r.held q.2.2⟩|.tup as=>.of_0 (λ_=>rfl) (λ_=>rfl) λ{E L F H S ρ G Q R} I X h k=>by refine(GA g as).a (md:=[]) (R:=λxs J=>xs.length<=sizeLine/\∀p,J p=none->R (.ref p) (DA J p (.tup xs))) I X (λj hj=>by cases as<;>cases hj) h λvs N M S' A xs W Y s C r _ q=>?_;exact⟨by rw[r.av.length];exact q.2.1,λp hp=>kB.tup k s C hp (r.av.trs B9 q.1) r.fr r.held q.2.2⟩|.comp mask tgs tg ik its cond elt=>.of_0 (λ_=>rfl) (λ_=>rfl) λ{E L F H S ρ G Q R} I X h k=>by
  refine iS (RR:=λvs J=>dC K ik vs J λxs st H2=>YU K xs st tg (if isNop cond=true then λ_ H Q=>Q true H else(wp K Γ cond (λ_ _ _=>False)).t) (wp K Γ elt (λ_ _ _=>False)).e (MH tgs.length mask G) H2 R) (GA g its) I X h λvs F1 J S1 B xs Y s1 I1 X1 tn tm q1=>?_;rw[DJ _ rfl]at q1;refine aI I1.fh tn q1 λxs ys st pr hst hc=>?_;refine KZ (us:=tG elt) ?_ ?_ s1 I1 pr (λb hb=>?_) hst hc k;intro F H S ρ G Q R I h k;cases hn:isNop cond with|true=>simp only[hn,if_true]at h ⊢;exact k true F H S ρ .refl I h|false=>simp only[hn,qY,if_false]at h ⊢;exact(GA g cond).t I HE.never h k
  intro F H S ρ G Q R I h k;exact(GA g elt).e I HE.never h k;obtain⟨i,sl,_,h2,h3⟩:=tm b hb;exact I1.dom h2 h3
 | .mv i=>.of_0 (λ_=>rfl) (λ_=>rfl) (Ai i)|.ixm a b=>.of_0 (λ_=>rfl) (λ_=>rfl) λ{E L F H S ρ G Q R} I X h k=>by
  obtain⟨i,hb,h⟩:=h;obtain rfl:b=.int i:=by unfold Zm at hb;split at hb;cases hb;rfl;cases hb
  refine(GA g a).e I X h λv N M S' A x n Z s C r q=>?_;obtain⟨rfl,ts,t,rfl,hi,q⟩:=q;show bJ K v (.int i) M R;have rt:=r.tr;cases rt with|@tup _ c vs _ _ Y h1 h2 h3 h4 h5=>obtain⟨w,S1,g1,g2,g3⟩:=h3.at hi;have zz:∀b,S1 b->Z b:=λb hb=>(h5 b).mpr (.inr (g3 b hb));exact⟨vs,w,.inr (XC.of h1),g1,k w N M S' A t true S1 s C ⟨g2,λe b hb=>r.fr e b (zz b hb),λe=>(by cases e),λe i s h b hb=>r.nw e i s h b (zz b hb)⟩ q⟩
 | .dof a=>.of_0 (λ_=>rfl) (λ_=>rfl) λ{E L F H S ρ G Q R} I X h k =>
  JD (P:=λx n B=>j6 (uA x n).vw λz k=>Q z k B) (RR:=λx J=>C8 K x J R) (GA g a) I X h λv N M S' A x n Z s C _ r _ _ ⟨us,nd,e,hb,ne,ndp,q⟩=>by obtain⟨p,xs,_,rfl,hp,rp,_⟩:=r.ls C.fh e;obtain⟨zs,rfl,t1,t2,t3⟩:=JX (rp.un hb).1;refine⟨p,zs,rfl,hp,λz hz=>C.fh.tupl (t1 z hz),by rw[t2];exact ndp,λd hd=>?_⟩;have e:=kB.dct (o:=.dK (oT zs)) (b:=false) (ks:=nd.map λp=>.str p.1) (vs:=zs.map λz=>z.2.2) (ts:=(nd.map λp=>p.2).map T.d) (W:=λ_=>False) k (s.new hd (.dK (oT zs))) (C.new hd _) (s.dm d hd) (C.fh.free hd) (BK C hd _) (sf ne t2 ndp) (Trs.of_reps t3) (λ_ z=>z.elim) .none (λz=>z) q;rw[FS]at e;exact e
 | .lset a=>.of_0 (λ_=>rfl) (λ_=>rfl) λ{E L F H S ρ G Q R} I X h k =>
  JD (P:=λx n B=>GT (uA x n).vw λz k=>Q z k B) (RR:=λx J=>rX K x J R) (GA g a) I X h λv N M S' A x n Z s C _ r _ _ ⟨us,ss,e,hb,l,q⟩=>by obtain⟨p,xs,_,rfl,hp,rp,_⟩:=r.ls C.fh e;obtain rfl:=lD (rp.un hb).1;exact⟨p,ss,rfl,hp,l,λzs nd m=>k.d s C (.int _) (q zs nd m)⟩
 | .sset a=>.of_0 (λ_=>rfl) (λ_=>rfl) λ{E L F H S ρ G Q R} I X h k =>
  JD (P:=λx n B=>ES (uA x n).vw λz k=>Q z k B) (RR:=λx J=>pX K x J R) (GA g a) I X h λv N M S' A x n Z s C _ r _ _ ⟨us,ss,e,hb,l,q⟩=>by obtain⟨p,xs,_,rfl,hp,rp,_⟩:=r.ls C.fh e;obtain rfl:=lD (rp.un hb).1;exact⟨p,ss,rfl,hp,l,λa zs hl nd m so=>k.listD s C hl (cI zs) (q zs nd m so)⟩
 | .dnew b=>.of_0 (λ_=>rfl) (λ_=>rfl) λ{E L F H S ρ G Q R} I X h k=>by
  intro p hp;have hh:=BK I hp (.dT 0 []);have e:=kB.dct (o:=.dT 0 []) (b:=b) (ks:=[]) (vs:=[]) (ts:=[]) (W:=λ_=>False) k (Ste.refl.new hp (.dT 0 [])) (I.new hp _) hp (I.fh.free hp) hh ?_ (.nil λ_ z=>z) (λ_ z=>z.elim) .none (λz=>z) h;rw[FS]at e;exact e;cases b with
  |true=>exact⟨0,[],rfl,rfl,rfl,λ_ z=>(nomatch z),Qy⟩
  |false=>exact .inr ⟨0,rfl,rfl,rfl⟩
 | .dsp a b=>.of_0 (λ_=>rfl) (λ_=>rfl) λ{E L F H S ρ G Q R} I X h k=>by
  intro p hp;have hh:=BK I hp (.dT 0 []);have s0:Ste F H S ρ F (DA H p (.dT 0 [])) S ρ:=Ste.refl.new hp _;refine JD (GA g a) (I.new hp _) (X.from s0.toStp) h λy F1 J S1 B x n Z s1 I1 X1 _ er _ ⟨he,q1⟩=>?_;have hh1:=hh.step s1.toStp I1;have ry:=er he;refine(GA g b).e I1 X1 q1 λv F2 H2 S2 O t m Zb s2 I2 r2 q2=>?_;have hh2:=hh1.step s2.toStp I2;obtain⟨he2,hk,q2⟩:=q2;obtain⟨W,rw,hw,frw⟩:=(r2.from s1.toStp).strict he2;have hp2:H2 p=some (.dT 0 []):=s2.hh p _ (s1.hh p _ pA (hh.nu p rfl)) (hh1.nu p rfl);have np:¬ W p:=λz=>by rcases frw p z with q|q;rw[pA]at q;cases q;exact hh.nu p rfl q
  have ry2:=ry.mono s2.ff;refine⟨hp2,?_⟩;generalize x.er=d at hk ry2 q2;obtain⟨ks,rfl⟩:=hk;cases ry2 with|@tup c _ _ hq rq=>cases dG rq;refine⟨c,ks,rfl,I2.fh.tupl hq,λep=>?_⟩;exact kB.dct (o:=.dT ep [(ks,c,v)]) (b:=true) (vs:=[v]) (ts:=[t]) k (s0.trans (s1.trans s2)) I2 hp (hh2.dom p rfl).2 hh2 ⟨ep,_,rfl,rfl,rfl,λz hz=>by rw[QI.mp hz];exact hq,by simp⟩ (Trs.one rw) (λb hb=>by rcases frw b hb with q|q;exact .inl (CA b q);exact .inr q) hw np q2
 | .nr=>⟨λI X h k=>h.elim,λI X h k=>h.elim,λ{E L F H S ρ G md Q R} I X _ h k=>k [] F H S ρ [] (λ_=>False) (λ_=>False) .refl I ⟨.nil λ_ z=>z,λ_ z=>z.elim,λ_ z=>z.elim,λ_ _ _ _ z=>z.elim⟩ (by cases md with|nil=>rfl|cons m r=>cases m<;>rfl) h⟩
 | .nq a as=>⟨λI X h k=>h.elim,λI X h k=>h.elim,λ{E L F H S ρ G md Q R} I X hm h k=>by
  show(wp K Γ a L).e G H λx J=>(wp K Γ as L).a G J λxs H2=>R (x::xs) H2;have vr2:∀i∈tG as,i∈tG (.nq a as):=λi hi=>QV _ hi;cases hmd:(md.headD .ny).isMut with
  |true =>
   have h2:EY a=true/\(pe Ψ as E).a md.tail ρ λxs B=>Q ((.d .none,true)::xs) B:=by have h3:(if(md.headD .ny).isMut=true then _ else _):=h;rw[hmd,if_pos rfl]at h3;exact h3
   obtain⟨m,md',rfl⟩:∃m md',md=m::md':=by
    cases md with|nil=>cases hmd|cons m md'=>exact⟨m,md',rfl⟩
   have em:m=.chg:=by have hmd:m.isMut=true:=hmd;cases m<;>first|rfl|cases hmd
   subst em;cases a with
   |var j=>obtain⟨v,hv⟩:=hm j (show j∈j::fA md' as from QE);show(match G[j]? with|some (some v)=>_|_=>False);rw[hv];refine(GA g as).a I X (λi hi=>hm i (QG _ hi)) h2.2 λvs N M S' A xs W Y s C r mv q=>?_;refine k (v::vs) N M S' A _ W Y s C ⟨.chg hmd r.av,r.fr,(r.vars vr2).tm,r.nw⟩ ?_ q;show(some (some v))::(pB md' vs).map _=G[j]?::(fA md' as).map _;have mv:(pB md' vs).map (λv=>some (some v))=(fA md' as).map (λj=>G[j]?):=mv;rw[hv,mv]
   |_=>exact absurd h2.1 (by simp[EY])
  |false =>
   have h2:(pe Ψ a E).e ρ λx n B=>sq (α:=List (T×Bool)) (if n=true then .d .none else x) B ((pe Ψ as E).a md.tail) λxs O=>Q ((x,n)::xs) O:=by have h3:(if(md.headD .ny).isMut=true then _ else _):=h;rw[hmd,if_neg (by simp)]at h3;exact h3
   have hroots:fA md (.nq a as)=fA md.tail as:=by
    cases md with|nil=>cases as<;>rfl|cons m md'=>have hmd:m.isMut=false:=hmd;cases m<;>first|rfl|cases hmd
   have hmv:∀v vs,pB md (v::vs)=pB md.tail vs:=λv vs=>by unfold pB;generalize md.headD .ny=m at hmd;cases m<;>first | (cases vs<;>rfl)|cases hmd
   refine(GA g a).e I X h2 λv F1 J S1 B x n Z s1 I1 r1 q1=>?_;refine Zd (GA g as) I1 (X.from s1.toStp) (λi hi=>hm i (by rw[hroots];exact hi)) q1 λvs F2 H2 S2 O xs W Y s2 I2 kp hs r2 mv q2=>?_;have s12:=s1.trans s2;have r2':=(r2.from s1.toStp).vars vr2;have mv':(pB md (v::vs)).map (λv=>some (some v))=(fA md (.nq a as)).map (λj=>G[j]?):=by rw[hroots,hmv];exact mv
   cases n with
   |true =>
    have hd:=r1.held;have hd2:=hd.step s2.toStp I2;refine k (v::vs) F2 H2 S2 O _ (λb=>Z b∨W b) Y s12 I2 ⟨.new hmd (s2.toStp.keep r1.tr hd.nu) r2.av (λb hb hw=>?_) λb=>wj,λb hb=>?_,r2'.tm,λi sl e b hb=>?_⟩ mv' q2;rcases r2.fr b hw with q|q
    ·exact(hd.dom b hb).1 q
    exact hd.nu b hb q;rcases hb with hb|hb
    ·exact r1.fr rfl b hb
    exact r2'.fr b hb;rcases hb with hb|hb
    ·exact hd2.nw i sl e b hb
    exact r2.nw i sl e b hb
   |false =>
    have za:∀b,Z b->∃(i:Nat) (s:Sl),i∈tG a/\O[i]?=some (some s)/\S2 i b:=by
     cases hd:x.isD with
     |true =>
      intro b hb;exfalso;have tr:=r1.tr;cases x with
      |d x=>cases tr with|d r n=>exact n b hb
      |_=>cases hd
     |false=>obtain⟨e1,e2⟩:=hs hd;rw[e1,e2];exact r1.tm rfl
    refine k (v::vs) F2 H2 S2 O _ W (λb=>Z b∨Y b) s12 I2 ⟨.tmp hmd (kp _ _ _ r1.tr) (λb hb=>.inl hb) (r2.av.sub λb hb=>.inr hb),r2'.fr,λb hb=>?_,r2.nw⟩ mv' q2;rcases hb with hb|hb;obtain⟨i,sl,h1,h2⟩:=za b hb;exact⟨i,sl,Qr _ h1,h2⟩;exact r2'.tm b hb⟩
end
end
structure Sts(C J:List Nat)(F H:Hp)(S:Ft)(ρ:zA)(σ:St)(F' H':Hp)(S':Ft)(ρ':zA)(σ':St):Prop where
 ff:Same F F'
 hh:∀b u,H b=some u->¬ U ρ S b->H' b=some u
 dm:∀b,H' b=none->H b=none
 fn:∀b,F b=none->F' b≠none->U ρ S b∨H b=none
 uu:∀b,U ρ' S' b->U ρ S b∨H b=none
 bo:∀(j:Nat) t,j∉J->ρ'[j]?=some (some (.nv t))->t.isD=false->ρ[j]?=some (some (.nv t))/\S' j=S j/\σ'[j]?=σ[j]?
 sg:∀j∈C,σ'[j]?=σ[j]?
structure Stc(C:List Nat)(F H:Hp)(S:Ft)(ρ:zA)(σ:St)(F' H':Hp)(S':Ft)(ρ':zA)(σ':St):Prop where
 ff:Same F F'
 hh:∀b u,H b=some u->¬ U ρ S b->H' b=some u
 dm:∀b,H' b=none->H b=none
 fn:∀b,F b=none->F' b≠none->U ρ S b∨H b=none
 uu:∀b,U ρ' S' b->U ρ S b∨H b=none
 sg:∀j∈C,σ'[j]?=σ[j]?
section
variable{K:QC}{Γ:Ev}{Ψ:PEv}{E:XE}{M:XK}{F H p X B L:Hp}{S S1 G:Ft}{ρ y Y:zA}{σ g A:St}{C J:List Nat}
section
variable{t:T}{Z:fB}{i:Nat}
theorem Stp.sts(s:Stp F H S ρ p X S1 y):Sts C J F H S ρ σ p X S1 y σ:=⟨s.ff,s.hh,s.dm,s.fn,s.uu,λj t _ e h=>let⟨z,x⟩:=s.bo j t e h;⟨z,x,rfl⟩,λ_ _=>rfl⟩
theorem Sts.refl:Sts C J F H S ρ σ F H S ρ σ:=Stp.refl.sts
theorem Sts.trans(a:Sts C J F H S ρ σ p X S1 y g)(b:Sts C [] p X S1 y g B L G Y A):Sts C J F H S ρ σ B L G Y A where
 ff:=a.ff.trans b.ff
 hh:=λx u h n=>b.hh x u (a.hh x u h n) λz=>by rcases a.uu x z with q|q;exact n q;rw[q]at h;cases h
 dm:=λx h=>a.dm x (b.dm x h)
 fn:=λx h z=>by
  by_cases q:p x=none;rcases b.fn x q z with w|w
  ·exact a.uu x w
  exact .inr (a.dm x w);exact a.fn x h q
 uu:=λx h=>by rcases b.uu x h with w|w;exact a.uu x w;exact .inr (a.dm x w)
 bo:=λj t v h n=>by obtain⟨o,m,l⟩:=b.bo j t (by simp) h n;obtain⟨f,e,k⟩:=a.bo j t v o n;exact⟨f,m.trans e,l.trans k⟩
 sg:=λj v=>(b.sg j v).trans (a.sg j v)
theorem Sts.c(s:Sts C J F H S ρ σ p X S1 y g):Stc C F H S ρ σ p X S1 y g:=⟨s.ff,s.hh,s.dm,s.fn,s.uu,s.sg⟩
theorem Stc.trans(a:Stc C F H S ρ σ p X S1 y g)(b:Stc C p X S1 y g B L G Y A):Stc C F H S ρ σ B L G Y A where
 ff:=a.ff.trans b.ff
 hh:=λx u h n=>b.hh x u (a.hh x u h n) λz=>by rcases a.uu x z with q|q;exact n q;rw[q]at h;cases h
 dm:=λx h=>a.dm x (b.dm x h)
 fn:=λx h z=>by
  by_cases q:p x=none;rcases b.fn x q z with w|w
  ·exact a.uu x w
  exact .inr (a.dm x w);exact a.fn x h q
 uu:=λx h=>by rcases b.uu x h with w|w;exact a.uu x w;exact .inr (a.dm x w)
 sg:=λj v=>(b.sg j v).trans (a.sg j v)
theorem HE.fromS(h:HE K F H S ρ E M)(s:Sts C J F H S ρ σ p X S1 y g):HE K p X S1 y E M:=λx k B L G Y v f r q =>
 h x k B L (λ_ _=>False) [] ⟨s.ff.trans v.ff,λb u e n=>v.hh b u (s.hh b u e n) (λz=>(s.uu b z).elim n λw=>(by rw[w]at e;cases e)),λb e=>s.dm b (v.dm b e),λb e z=>by
  by_cases q:p b=none;rcases v.fn b q z with w|w
  ·exact s.uu b w
  exact .inr (s.dm b w);exact s.fn b e q,λb ⟨i,t,e,_⟩=>by simp at e,λj t e=>by simp at e⟩ f r q
structure EndsOk(K:QC)(C:List Nat)(F H:Hp)(S:Ft)(ρ:zA)(σ:St)(Z:PEnds)(Dn:Ends):Prop where
 nx:∀F' H' S' ρ' σ',Sts C [] F H S ρ σ F' H' S' ρ' σ'->Rl K F' H' S' ρ' σ'->Z.nx ρ'->Dn.nx σ' H'
 rt:∀v t W F' H' S' ρ' σ',Stc C F H S ρ σ F' H' S' ρ' σ'->Rl K F' H' S' ρ' σ'->Tr K F' H' true v t W->Held F' H' S' ρ' W->(∀b,W b->H b=none∨U ρ S b)->Z.rt t ρ'->Dn.rt v H'
 bk:∀F' H' S' ρ' σ',Sts C [] F H S ρ σ F' H' S' ρ' σ'->Rl K F' H' S' ρ' σ'->Z.bk ρ'->Dn.bk σ' H'
 ct:∀F' H' S' ρ' σ',Sts C [] F H S ρ σ F' H' S' ρ' σ'->Rl K F' H' S' ρ' σ'->Z.ct ρ'->Dn.ct σ' H'
theorem zk(s:Sts C J F H S ρ σ p X S1 y g){W:fB}(h:∀b,W b->X b=none∨U y S1 b):∀b,W b->H b=none∨U ρ S b:=λb hb=>by rcases h b hb with q|q;exact .inl (s.dm b q);exact(s.uu b q).symm
theorem EndsOk.from{Z:PEnds}{b:Ends}(ok:EndsOk K C F H S ρ σ Z b)(s:Sts C [] F H S ρ σ p X S1 y g):EndsOk K C p X S1 y g Z b :=
 ⟨λa k w z x u I q=>ok.nx a k w z x (s.trans u) I q,λv t W a k w z x u I r h e q=>ok.rt v t W a k w z x (s.c.trans u) I r h (zk s e) q,
  λa k w z x u I q=>ok.bk a k w z x (s.trans u) I q,λa k w z x u I q=>ok.ct a k w z x (s.trans u) I q⟩
theorem Sts.setD(s:Sts C J F H S ρ σ p X S1 y g)(i:Nat)(a:i∉C)(v:V)(k:t.isD=true)(Z:fB):Sts C J F H S ρ σ p X (eF S1 i Z) (y.set i (some (.nv t))) (g.set i (some v)) :=
 ⟨s.ff,s.hh,s.dm,s.fn,λb ⟨j,u,z,w⟩=>by
  rcases bA z with⟨_,e,_⟩| ⟨n,z⟩
  cases e;rw[YA (Q1 n)]at w;exact s.uu b ⟨j,u,z,w⟩,
 λj u h e x=>by
  rcases bA e with⟨_,e,_⟩| ⟨n,e⟩
  injection e with e;injection e with e;subst e;rw[k]at x;cases x;rw[YA (Q1 n),AC n];exact s.bo j u h e x,
 λj h=>by have n:i≠j:=λe=>a (e▸h);rw[AC n];exact s.sg j h⟩
theorem Rl.setD(I:Rl K F H S ρ σ)(i:Nat){v:V}{x:D}(r:Rep K F v x):Rl K F H (eF S i λ_=>False) (ρ.set i (some (.nv (.d x)))) (σ.set i (some v)) :=
 I.setB i (.d r λ_ z=>z) λ_ _ _ _ _ z=>z.elim
theorem Rl.setN(I:Rl K F H S ρ σ)(i:Nat){v:V}(r:Tr K F H true v t Z)(hz:∀(j:Nat) s,j≠i->ρ[j]?=some (some s)->∀b,Z b->¬ S j b):Rl K F H (eF S i Z) (ρ.set i (some (.own t))) (σ.set i (some v)) where
 fh:=I.fh
 len:=by simpa using I.len
 sl:=λj s h=>by
  rcases bA h with⟨rfl,e,hl⟩| ⟨w,h⟩
  cases e;exact⟨v,IM (by rw[<- I.len];exact hl),by rw[AA];exact r⟩;rw[AC w,YA (Q1 w)];exact I.sl j s h
 dj:=λj k a s n u x b hb hk=>by
  rcases bA u with⟨e,_,_⟩| ⟨f,u⟩
  subst e;rw[AA]at hb;rcases bA x with⟨e,_,_⟩| ⟨z,x⟩
  exact n e;rw[YA (Q1 z)]at hk;exact hz k s (Q1 z) x b hb hk;rw[YA (Q1 f)]at hb;rcases bA x with⟨e,_,_⟩| ⟨z,x⟩
  subst e;rw[AA]at hk;exact hz j _ n u b hk hb;rw[YA (Q1 z)]at hk;exact I.dj j k a s n u x b hb hk
theorem Sts.setN(s:Sts C J F H S ρ σ p X S1 y g)(i:Nat)(w:i∉C)(v:V)(t:T)(a:∀b,Z b->H b=none∨U ρ S b):Sts C J F H S ρ σ p X (eF S1 i Z) (y.set i (some (.own t))) (g.set i (some v)) :=
 ⟨s.ff,s.hh,s.dm,s.fn,λb ⟨j,u,z,x⟩=>by
  rcases bA z with⟨rfl,_,_⟩| ⟨n,z⟩
  rw[AA]at x;exact(a b x).symm;rw[YA (Q1 n)]at x;exact s.uu b ⟨j,u,z,x⟩,
 λj u h e k=>by
  rcases bA e with⟨_,e,_⟩| ⟨n,e⟩
  cases e;rw[YA (Q1 n),AC n];exact s.bo j u h e k,
 λj h=>by have n:i≠j:=λe=>w (e▸h);rw[AC n];exact s.sg j h⟩
theorem PL:∀(u:List Nat) (ds:List D) {ρ x:zA},aB u (ds.map T.d) ρ=some x->∀(j:Nat) t,x[j]?=some (some (.nv t))->t.isD=false->j∉u/\ρ[j]?=some (some (.nv t))
 |[],[],ρ,x,h,j,t,e,hd=>by simp only[wI,aB,Qq]at h;subst h;exact⟨(by simp),e⟩|[],_::_,_,_,h,_,_,_,_=>by simp[aB]at h|_::_,[],_,_,h,_,_,_,_=>by simp[aB]at h|i::u,d::ds,ρ,x,h,j,t,e,hd=>by
  simp only[QO,aB]at h;obtain⟨w,v⟩:=PL u ds h j t e hd;rcases bA v with⟨_,q,_⟩| ⟨n,q⟩
  injection q with q;injection q with q;subst q;cases hd;exact⟨λm=>(QK.mp m).elim (λz=>n z.symm) w,q⟩
theorem Rl.frz1(I:Rl K F H S ρ σ)(h:ρ[i]?=some (some (.own t))):Rl K (HH F H (S i)) H (eF S i λ_=>False) (ρ.set i (some (.nv (.d t.er)))) σ/\Sts C [] F H S ρ σ (HH F H (S i)) H (eF S i λ_=>False) (ρ.set i (some (.nv (.d t.er)))) σ:=by
 obtain⟨v,hv,r⟩:=I.sl i _ h;have k:=oG (H:=H) λb (hb:S i b)=>(r.dom b hb).2;have O:Rl K F H S (ρ.set i none) σ:=I.drop (by simp) λj s e=>by
  rcases bA e with⟨_,z,_⟩| ⟨_,e⟩
  cases z;exact e
 have l:Held F H S (ρ.set i none) (S i):=⟨r.dom,λj s e b hb z=>by
  rcases bA e with⟨_,q,_⟩| ⟨n,e⟩
  cases q;exact I.dj i j t s n h e b hb z⟩
 have N:=O.frz l;have f:Rep K (HH F H (S i)) v t.er:=Tr.kept k r λb u hb e=>by rw[GH hb];exact e
 have a:=N.setD i f;have W:(ρ.set i none).set i (some (.nv (.d t.er)))=ρ.set i (some (.nv (.d t.er))):=by simp
 have o:σ.set i (some v)=σ:=by apply wq;intro j;rw[wQ];split;rename_i e;subst e;split;exact hv.symm;rename_i n;rw[qI (by omega)];rfl
 rw[W,o]at a;refine⟨a,⟨k,λb u e _=>e,λb e=>e,λb e z=>.inl ?_,λb ⟨j,u,x,w⟩=>.inl ?_,λj u _ e m=>?_,λ_ _=>rfl⟩⟩;by_cases hb:S i b
 ·exact⟨i,t,h,hb⟩
 rw[gC hb]at z;exact absurd e z;rcases bA x with⟨_,q,_⟩| ⟨n,x⟩
 ·cases q
 rw[YA (Q1 n)]at w;exact⟨j,u,x,w⟩;rcases bA e with⟨_,q,_⟩| ⟨n,e⟩
 ·injection q with q;injection q with q;subst q;cases m
 exact⟨e,YA (Q1 n),rfl⟩
theorem UV{f:Option Sl->Option Sl}:ρ.modify i f=match ρ[i]? with|some o=>ρ.set i (f o)|none=>ρ:=by
 apply wq;intro j;rw[QAD];cases h:ρ[i]? with|none=>simp only;by_cases e:i=j;subst e;simp[h];simp[e]|some o=>simp only;rw[wQ];by_cases e:i=j;subst e;obtain⟨hl,rfl⟩:=Qe.mp h;simp[hl];simp[e]
theorem LO{α:Type}{l:List α}{o:α}(h:l[i]?=some o):l.set i o=l:=by apply wq;intro j;rw[wQ];split;rename_i e;subst e;rw[if_pos (Qe.mp h).1,h];rfl
theorem Rl.frzAt:∀(x:List Nat) {F:Hp}{S:Ft}{ρ:zA},Rl K F H S ρ σ->∃z S',Rl K z H S' (frzAt x ρ) σ/\Sts C [] F H S ρ σ z H S' (frzAt x ρ) σ
 |[],F,S,ρ,I=>⟨F,S,I,.refl⟩|i::x,F,S,ρ,I=>by
  have one:∃p S1,Rl K p H S1 (ρ.modify i TV) σ/\Sts C [] F H S ρ σ p H S1 (ρ.modify i TV) σ:=by
   rw[UV];cases h:ρ[i]? with
   |none=>exact⟨F,S,I,.refl⟩|some o =>
    cases o with
    |none=>have e:ρ.set i (TV none)=ρ:=LO h;simp only[e];exact⟨F,S,I,.refl⟩|some u =>
     cases u with|nv t=>have e:ρ.set i (TV (some (.nv t)))=ρ:=LO h;simp only[e];exact⟨F,S,I,.refl⟩|own t=>exact⟨_,_,I.frz1 h⟩
  obtain⟨p,S1,a,w⟩:=one;obtain⟨B,G,k,v⟩:=Rl.frzAt x a;exact⟨B,G,k,w.trans v⟩
end
end
noncomputable def zH(C:List Nat):PT->Bool
 | .seq s r=>zH C s&&zH C r|.set i _=>!C.contains i|.own i _=>!C.contains i|.ife _ a b=>zH C a&&zH C b|.for_ x _ _ h=>x.ix.all (λi=>!C.contains i)&&zH C h|.nil=>true|.expr _=>true|.ret _=>true|.tset y _=>y.all λi=>!C.contains i|.six _ _ _=>true|.sdf _ _=>true|.whl _ h=>zH C h|.frz _ s=>zH C s|.hs s=>zH C s
section
variable{K:QC}{Γ:Ev}{F H:Hp}{S:Ft}{ρ:zA}{σ:St}{C:List Nat}
section
variable{f:St}{i:Nat}{Z:fB}{X:XK}
theorem EO{j:Nat}{t t':T}{y:V}{h:Hp}{x:fB}(I:Rl K F H S ρ σ)(v:ρ[j]?=some (some (.own t)))(hv:σ[j]?=some (some y))(w:∀b u,H b=some u->¬ S j b->h b=some u)(dm:∀b,h b=none->H b=none)(r:Tr K F h true y t' x)(hz:∀b,x b->S j b) :
  Ste F H S ρ F h (eF S j x) (ρ.set j (some (.own t')))/\Rl K F h (eF S j x) (ρ.set j (some (.own t'))) σ:=by
 obtain⟨a,b,_⟩:=YF (W:=λ_=>False) I v hv .refl (I.lock1 v) w dm r (λb hb=>.inl (hz b hb)) .none λ_ z=>z.elim;have k:(ρ.set j (some (.nv t))).set j (some (.own t'))=ρ.set j (some (.own t')):=by simp
 rw[k]at a b;exact⟨a,b⟩
theorem Rl.off(I:Rl K F H S ρ σ)(hl:f.length=σ.length)(e:∀k,k≠i->f[k]?=σ[k]?):Rl K F H S (ρ.set i none) f where
 fh:=I.fh
 len:=by rw[qU,I.len,hl]
 sl:=λk s h=>by obtain⟨n,h⟩:=cC h;rw[e k n];exact I.sl k s h
 dj:=λk l t s n y x=>I.dj k l t s n (cC y).2 (cC x).2
theorem Stp.off{u y:Hp}{S1:Ft}{x:zA}(s:Stp F H S ρ u y S1 x)(v:i∉C)(e:∀k,k≠i->f[k]?=σ[k]?):Sts C [] F H S ρ σ u y S1 (x.set i none) f :=
 ⟨s.ff,s.hh,s.dm,s.fn,λb ⟨k,t,h,hb⟩=>s.uu b ⟨k,t,(cC h).2,hb⟩,λk t _ h w=>by obtain⟨n,h⟩:=cC h;obtain⟨g,a⟩:=s.bo k t h w;exact⟨g,a,e k n⟩,λk hk=>e k λz=>v (z▸hk)⟩
theorem LS{v:V}{us ts:List T}{k:Nat}(x:Str)(r:Tr K F H true v (.tup us) Z)(e:us[k]?=some (.lst ts)):∃a ws b vs,v=.ref a/\H a=some (.tup ws)/\ws[k]?=some (.ref b)/\H b=some (.lst vs)/\vs.length=ts.length/\Z b /\
  ∃P,Tr K F (DA H b (.lst (vs++[.str x]))) true v (.tup (us.set k (.lst (ts++[.d (.str x)])))) P/\∀c,P c->Z c:=by
 cases r with
 |@tup _ a ws _ _ M m A W l j =>
  obtain⟨w,N,I,G,E,B⟩:=W.part e;cases G with
  |@lst _ b vs _ _ o L J y n h =>
   have u:M b:=E b ((h b).mpr (.inl rfl));have q:Trs K F (DA H b (.lst (vs++[.str x]))) true vs ts o:=y.mono (.refl _) λc hc=>⟨kA λz=>n (z▸hc),(y.dom c hc).2⟩
   have p:=Trs.append q (Trs.one (Tr.d (S:=λ_=>False) (.str x) λ_ z=>z)) λ_ _ z=>z;obtain⟨P,s,g⟩:=B (DA H b (.lst (vs++[.str x]))) (.lst (ts++[.d (.str x)])) (λc=>c=b∨o c∨False) (λc _ Y=>kA λz=>Y ((h c).mpr (.inl z))) (.lst pA J p (λz=>z.elim n Qb) λc=>wj) λc hc=>(h c).mpr (hc.imp id λz=>z.elim id Qb);refine⟨a,ws,b,vs,rfl,m,I,L,y.length,(j b).mpr (.inr u),λc=>c=a∨P c,.tup ((kA λz=>l (by rw[z];exact u)).trans m) A s (λz=>l (g a z)) λc=>wj,λc hc=>(j c).mpr (hc.imp id (g c))⟩
theorem Trs.split{st:Bool}:∀{x u:List V}{y w:List T}{P:fB},x.length=y.length->Trs K F H st (x++u) (y++w) P->∃P1 k,Trs K F H st x y P1/\Trs K F H st u w k/\(∀b,P1 b->¬ k b)/\∀b,P1 b∨k b->P b
 |[],_,[],_,P,_,h=>⟨λ_=>False,P,.nil λ_ z=>z,h,λ_ z=>z.elim,λ_ z=>z.elim Qb id⟩|[],_,_::_,_,_,e,_=>nomatch e
 |_::_,_,[],_,_,e,_=>nomatch e
 |v::x,u,t::y,w,P,e,h=>by
  have h:Trs K F H st (v::(x++u)) (t::(y++w)) P:=h;cases h with|@cons _ _ _ _ _ _ A B r j n q=>obtain⟨P1,k,o,m,l,a⟩:=Trs.split (QB6 e) j;refine⟨λb=>A b∨P1 b,k,.cons r o (λb g hb=>n b g (a b (.inl hb))) λb=>wj,m,λb hb z=>hb.elim (λg=>n b g (a b (.inr z))) λhb=>l b hb z,λb hb=>(q b).mpr ?_⟩;rcases hb with(hb|hb)|hb;exact .inl hb;exact .inr (a b (.inl hb));exact .inr (a b (.inr hb))
theorem UW{v:V}{I cs:List T}(r:Tr K F H true v (.tup [.lst I,.lst cs]) Z):∃a h u w k P,v=.ref a/\H a=some (.tup [.ref h,.ref u])/\H h=some (.lst w)/\H u=some (.lst k)/\w.length=I.length/\Trs K F H true (w++k) (I++cs) P/\(∀c,P c->Z c)/\(¬ P a/\¬ P h/\¬ P u) /\
  ∀(g:Hp) b e P',g a=H a->g h=H h->g u=H u->b.length=I.length->Trs K F g true (w++k) (b++e) P'->(∀c,P' c->P c)->∃Z',Tr K F g true v (.tup [.lst b,.lst e]) Z'/\∀c,Z' c->Z c:=by
 cases r with
 |@tup _ a ws _ _ S' h1 h2 Y L h5 =>
  cases Y with
  |@cons _ w1 _ _ _ _ A B r1 Y J q1 =>
   cases Y with
   |@cons _ w2 _ _ _ _ C D r2 Y n2 q2 =>
    cases Y with
    |nil n3 =>
     cases r1 with
     |@lst _ h w _ _ n f1 f2 f3 f4 l =>
      cases r2 with
      |@lst _ u k _ _ m g1 g2 g3 g4 j =>
       have W:∀c,C c->B c:=λc hc=>(q2 c).mpr (.inl hc);have d12:∀c,n c->¬ m c:=λc x y=>J c ((l c).mpr (.inr x)) (W c ((j c).mpr (.inr y)));have nb:h≠u:=λz=>J h ((l h).mpr (.inl rfl)) (W h ((j h).mpr (.inl z)));have s:¬ m h:=λz=>J h ((l h).mpr (.inl rfl)) (W h ((j h).mpr (.inr z)));have q:¬ n u:=λz=>J u ((l u).mpr (.inr z)) (W u ((j u).mpr (.inl rfl)));have Q:∀c,A c->S' c:=λc hc=>(q1 c).mpr (.inl hc);have O:∀c,C c->S' c:=λc hc=>(q1 c).mpr (.inr (W c hc));have na1:a≠h:=λz=>L (z▸Q h ((l h).mpr (.inl rfl)));have R:a≠u:=λz=>L (z▸O u ((j u).mpr (.inl rfl)));have p:∀c,n c∨m c->S' c:=λc hc=>hc.elim (λx=>Q c ((l c).mpr (.inr x))) λx=>O c ((j c).mpr (.inr x));refine⟨a,h,u,w,k,λc=>n c∨m c,rfl,h1,f1,g1,f3.length,Trs.append f3 g3 d12,λc hc=>(h5 c).mpr (.inr (p c hc)),⟨λz=>L (p a z),λz=>z.elim f4 s,λz=>z.elim q g4⟩,λg b e P' e1 e2 e3 hl tr sub=>?_⟩;obtain⟨N,M,t1,t2,t3,t4⟩:=Trs.split (by rw[hl];exact f3.length) tr;have G:∀c,N c->n c∨m c:=λc hc=>sub c (t4 c (.inl hc));have E:∀c,M c->n c∨m c:=λc hc=>sub c (t4 c (.inr hc));have o:∀c,n c∨m c->c≠h/\c≠u/\c≠a:=λc hc=>⟨λz=>(z▸hc).elim f4 s,λz=>(z▸hc).elim q g4,λz=>L (z▸p c hc)⟩
       have L1:Tr K F g true (.ref h) (.lst b) λc=>c=h∨N c:=.lst (e2.trans f1) f2 t1 (λz=>(o h (G h z)).1 rfl) λc=>wj;have L2:Tr K F g true (.ref u) (.lst e) λc=>c=u∨M c:=.lst (e3.trans g1) g2 t2 (λz=>(o u (E u z)).2.1 rfl) λc=>wj;have dj:∀c,(c=h∨N c)->¬ (c=u∨M c):=λc x y=>by
        rcases x with x|x;rcases y with y|y
        ·exact nb (x.symm.trans y)
        exact(o c (E c y)).1 x;rcases y with y|y
        ·exact(o c (G c x)).2.1 y
        exact t3 c x y
       refine⟨λc=>c=a∨(c=h∨N c)∨c=u∨M c,.tup (e1.trans h1) h2 (.cons L1 (Trs.one L2) dj λc=>wj) (λz=>?_) λc=>wj,λc hc=>(h5 c).mpr ?_⟩;rcases z with(z|z)|z|z
       ·exact na1 z
       exact(o a (G a z)).2.2 rfl;exact R z;exact(o a (E a z)).2.2 rfl;rcases hc with hc | (hc|hc)|hc|hc
       ·exact .inl hc
       exact .inr (hc▸Q h ((l h).mpr (.inl rfl)));exact .inr (p c (G c hc));exact .inr (hc▸O u ((j u).mpr (.inl rfl)));exact .inr (p c (E c hc))
theorem TZ{x:Str}{D:Ends}{a b:Addr}{ws xs:List V}(h:σ[i]?=some (some (.ref a)))(w:H a=some (.tup ws))(u:ws[1]?=some (.ref b))(g:H b=some (.lst xs))(l:xs.length<sizeLine)(q:D.nx σ (DA H b (.lst (xs++[.str x])))) :
  pL K Γ X (.seq (.expr (.mt .append (.idx (.var i) (.int 1)) (.nq (.str x) .nr))) .nil) D σ H:=by
 show(match σ[i]? with|some (some v)=>bJ K v (.int 1) H λy z=>HS K "list" y z/\eJ y [.str x] z λ_ k=>D.nx σ k|_=>False);rw[h];exact⟨ws,.ref b,.inr (XC.of w),bD (j:=1) u,.inl ⟨rfl,_,yC.of g⟩,b,xs,_,rfl,rfl,g,l,q⟩
theorem df(s:PT){Dn:Ends}{N:zA->Prop}(c:zH C s=true)(I:Rl K F H S ρ σ)(h:Pj s N ρ)(k:∀F' A S' O f,Sts C [] F H S ρ σ F' A S' O f->Rl K F' A S' O f->N O->Dn.nx f A):pL K Γ X s Dn σ H:=by
 rcases h with⟨j,i,x,W,B,rfl,ne,il,hj,hl,hr,q⟩| ⟨j,m,x,us,M,rfl,hj,hu,hl,q⟩
 have hi:i∉C:=λz=>by
  have c1:=(yA c).1;have:(!C.contains i)=true:=by simpa[Tg.ix]using c1
  rw[Qm.mpr z]at this;cases this
 obtain⟨v,hv,r⟩:=I.sl j _ hj;obtain⟨a,b1,b2,w,l,P,rfl,ha,h1,h2,lv,tr,sub,⟨na,n1,n2⟩,close⟩:=UW (show Tr K F H true v (.tup [.lst W,.lst B]) (S j) from r);have ll:(w++l).length=(W++B).length:=tr.length;rw[QL,QL]at ll;show(match σ[j]? with|some (some v)=>bJ K v (.int 0) H λx H1=>zN K [x] H1 λx1 H2=>(match σ[j]? with|some (some v)=>bJ K v (.int 1) H2 λy H3=>zN K [y] H3 λy1 H4=>D8 K x1 y1 H4 λz H5=>dC K .val [z] H5 λxs st H6=>K6 K xs st (.nm i) _ Dn σ H6|_=>False)|_=>False);rw[hv];refine⟨_,.ref b1,.inr (XC.of ha),rfl,b1,w,rfl,.inl (yC.of h1),λl1 e1=>?_⟩;have up:∀{G:Hp}{p:Addr}{o:HO},G p=none->∀b u,G b=some u->DA G p o b=some u:=λe b u g=>JB e b u g;have ha1:=up (o:=.lst w) e1 _ _ ha;have h21:=up (o:=.lst w) e1 _ _ h2;refine⟨_,.ref b2,.inr (XC.of ha1),rfl,b2,l,rfl,.inl (yC.of h21),λl2 e2=>?_⟩;refine .inl ⟨w,l,yC.of (up e2 _ _ pA),yC.of pA,by omega,λL e3=>.inl ⟨w++l,yC.of pA,?_⟩⟩;generalize hH:DA (DA (DA H l1 (.lst w)) l2 (.lst l)) L (.lst (w++l))=G;have k0:∀b u,H b=some u->G b=some u:=λb u g=>by rw[<- hH];exact up e3 _ _ (up e2 _ _ (up e1 _ _ g))
 have h3:G L=some (.lst (w++l)):=by rw[<- hH];exact pA
 have e0:H L=none:=CA L (CA L e3);have d0:∀b,G b=none->H b=none:=λb g=>CA b (CA b (CA b (by rw[hH];exact g)));have tr0:Trs K F G true (w++l) (W++B) P:=tr.mono (.refl _) λc hc=>by
  have hd:=tr.dom c hc;refine⟨?_,hd.2⟩;cases g:H c with|none=>exact absurd g hd.1|some u=>exact k0 c u g
 have nP:¬ P L:=λz=>(tr.dom L z).1 e0;intro J Y;have E:((w++l).map Item.one).length=(W++B).length:=by rw[QF,QL,QL];exact ll
 refine⟨λn m f A=>n<=(W++B).length/\m=(W++B).length - n/\f.length=σ.length/\(∀k,k≠i->f[k]?=σ[k]?)/\(∀c,¬ P c->A c=G c)/\(∀c,A c=none->G c=none)/\∃M P',Trs K F A true (w++l) M P'/\(∀b,P' b->P b)/\M.length=(W++B).length/\∀k,n<=k->M[k]?=(W++B)[k]?,⟨_,Q5 _,rfl,rfl,λ_ _=>rfl,λ_ _=>rfl,λ_ g=>g,W++B,P,tr0,λ_ z=>z,rfl,λ_ _=>rfl⟩,?_⟩;rintro n m f A ⟨nl,rfl,sl,se,hh,hd,M,P',Q,ps,tl,tk⟩;have st:yC K A L (w++l):=yC.of ((hh L nP).trans h3);by_cases e:n=(W++B).length;refine .inl ⟨Y.stop _ A st (by rw[E,e];exact QU _),?_⟩;have sp:M=M.take W.length++M.drop W.length:=(W4 _ _).symm;rw[sp]at Q;rw[QL]at tl;obtain⟨Z',z1,z2⟩:=close A _ _ P' ((hh a na).trans ((k0 a _ ha).trans ha.symm)) ((hh b1 n1).trans ((k0 b1 _ h1).trans h1.symm)) ((hh b2 n2).trans ((k0 b2 _ h2).trans h2.symm)) (by rw[qw];omega) Q ps;obtain⟨R,I2⟩:=EO I hj hv (λc u g n=>by rw[hh c λz=>n (sub c z)];exact k0 c u g) (λc g=>d0 c (hd c g)) z1 z2;exact k F A _ _ f (R.toStp.off hi se) (I2.off sl se) (q _ _ (by rw[qw];omega) (by rw[WZ];omega));have hn:n<(W++B).length:=by omega
 refine .inr ⟨Y.go n A st (by rw[E];exact hn),λσ2 H2=>∃m',m' < (W++B).length - n/\_,λ_ _ z=>z,λy H2 hy=>?_⟩;obtain⟨it,g1,g2⟩:=Y.yld n A y H2 st (by rw[E];exact hn) hy;obtain⟨t,ht⟩:∃t,(W++B)[n]?=some t:=⟨_,Qo hn⟩
 obtain⟨t0,us,rfl,ul⟩:=hr t (Q9 ht);obtain⟨v1,S2,p1,p2,p3,p4⟩:=Q.part ((tk n (QU _)).trans ht);obtain⟨r,ws,b,xs,rfl,o1,o2,o3,o4,o5,Q',o6,o7⟩:=LS x p2 (k:=1) rfl;rw[Qc,p1]at g1;cases g1;obtain⟨hy1,hy2⟩:=g2;rw[hy1,hy2];have hi2:i<f.length:=by rw[sl,<- I.len];exact il
 show pL K Γ X _ _ (f.set i (some (.ref r))) A;refine TZ (IM hi2) o1 o2 o3 (by omega) ?_;obtain⟨P2,t1,t2⟩:=p4 (DA A b (.lst (xs++[.str x]))) _ Q' (λy _ hn=>kA λz=>hn (z▸o5)) o6 o7;have pb:P b:=ps b (p3 b o5);refine⟨(W++B).length - (n+1),by omega,hn,rfl,by rw[qU];exact sl,λk hk=>by rw[AC (Q1 hk)];exact se k hk,λc hc=>(kA λz=>hc (by rw[z];exact pb)).trans (hh c hc),λc hc=>hd c (CA c hc),_,P2,t1,λc hc=>ps c (t2 c hc),by rw[qU];exact tl,λk hk=>by rw[AC (by omega)];exact tk k (by omega)⟩;obtain⟨v,hv,r⟩:=I.sl j _ hj;obtain⟨a,ws,b,vs,rfl,ha,hw,hb,vl,zb,P,p1,p2⟩:=LS x (show Tr K F H true v (.tup us) (S j) from r) hu;show(match σ[j]? with|some (some v)=>bJ K v (.int (m:Int)) H λy H1=>HS K "list" y H1/\eJ y [.str x] H1 λ_ H3=>Dn.nx σ H3|_=>False);rw[hv];refine⟨ws,.ref b,.inr (XC.of ha),bD hw,.inl ⟨rfl,_,yC.of hb⟩,b,vs,.str x,rfl,rfl,hb,by omega,?_⟩;obtain⟨R,I2⟩:=EO I hj hv (λc u e n=>(kA λz=>n (by rw[z];exact zb)).trans e) (λc=>CA c) p1 p2;exact k _ _ _ _ _ R.toStp.sts I2 q
end
end
section
variable{K:QC}{Γ:Ev}{Ψ:PEv}{E:XE}{O:XK}{F H D B F2 N:Hp}{S S1 P:Ft}{ρ A M:zA}{σ G R:St}{C J:List Nat}
theorem Sts.bind{L:List Nat}(s:Sts C J F H S ρ σ D B S1 A G)(b:Bd L D B S1 A G F2 N P M R)(v:∀j∈L,j∈J)(w:∀j∈L,j∉C):Sts C J F H S ρ σ F2 N P M R :=
 ⟨s.ff.trans b.ff,λx u e n=>b.hh x u (s.hh x u e n),λx e=>s.dm x (b.dm x e),λx e z=>by
  by_cases q:D x=none;exact .inr (s.dm x (b.fn x q z));exact s.fn x e q,λx u=>s.uu x (b.U u),λj t h e y=>by
  obtain⟨l,i,g⟩:=b.out j λz=>h (v j z);rw[l]at e;obtain⟨f,a,k⟩:=s.bo j t h e y;exact⟨f,i.trans a,g.trans k⟩,λj h=>(b.out j λz=>w j z h).2.2.trans (s.sg j h)⟩
theorem vU{g:Tg}{body:PEnds->zA->Prop}{tb:TS}{Z:PEnds}{o:Ends}{xs:List Item}{p:List T}{st:Hp->Prop}{Y:fB}
  (ib:∀{F H:Hp}{S:Ft}{ρ:zA}{σ:St}{Z:PEnds}{o:Ends},Rl K F H S ρ σ->HE K F H S ρ E O->body Z ρ->EndsOk K C F H S ρ σ Z o->tb o σ H)
  (I:Rl K F H S ρ σ) (X:HE K F H S ρ E O) (hC:∀j∈g.ix,j∉C) (pr:Paired (lW K F H Y) xs p) (hy:∀b,Y b->¬ U ρ S b/\H b≠none/\F b=none) (hst:∀f k,Same F f->Same f k->(∀b,Y b->k b=H b)->st k) (h:JG body g Z p ρ)
  (onx:∀f k S' z w,Sts C g.ix F H S ρ σ f k S' z w->Rl K f k S' z w->Z.nx z->o.nx w k)
  (ort:∀v t W f k S' z w,Stc C F H S ρ σ f k S' z w->Rl K f k S' z w->Tr K f k true v t W->Held f k S' z W->(∀b,W b->H b=none∨U ρ S b)->Z.rt t z->o.rt v k):K6 K xs st g tb o σ H:=by
 intro J hJ;have len:=qW pr;have yk:∀{D B:Hp}{S1:Ft}{A:zA}{G:St},Sts C g.ix F H S ρ σ D B S1 A G->∀b,Y b->B b=H b/\D b=none:=λ{D B S1 A G} s b hb=>by
  obtain⟨n,d1,d2⟩:=hy b hb;refine⟨?_,?_⟩;cases e:H b with|none=>exact absurd e d1|some u=>exact s.hh b u e n
  by_cases q:D b=none
  ·exact q
  exact((s.fn b d2 q).elim n d1).elim
 refine⟨λi m w k=>i<=xs.length/\m=xs.length - i/\∃z f S',Sts C g.ix F H S ρ σ f k S' z w/\Rl K f k S' z w/\JG body g Z (p.drop i) z,⟨_,Q5 _,rfl,ρ,F,S,.refl,I,by simpa using h⟩,?_⟩;rintro i m G B ⟨hi,rfl,A,D,S1,L,I1,h1⟩;have hs:=hst D B L.ff I1.fh λb hb=>(yk L b hb).1;rcases QA7 i xs.length with l|hge;refine .inr ⟨hJ.go i B hs l,λw k=>i+1<=xs.length/\∃z f S',Sts C g.ix F H S ρ σ f k S' z w/\Rl K f k S' z w/\JG body g Z (p.drop (i+1)) z,λw k ⟨a,b⟩=>⟨_,by omega,a,rfl,b⟩,λx N hyl=>?_⟩;obtain⟨it,hx,hm⟩:=hJ.yld i B x N hs l hyl;obtain⟨y,hd,ry⟩:=Paired.get_of pr hx;rw[hd]at h1;unfold JG at h1;have key:L3.bindI K g it G B λR N=>tb { o with nx:=λw k=>i+1<=xs.length/\∃z f S',Sts C g.ix F H S ρ σ f k S' z w/\Rl K f k S' z w/\JG body g Z (p.drop (i+1)) z,ct:=λw k=>i+1<=xs.length/\∃z f S',Sts C g.ix F H S ρ σ f k S' z w/\Rl K f k S' z w/\JG body g Z (p.drop (i+1)) z,bk:=o.nx } R N:=by
  refine SK I1 (λb hb u=>?_) (ry.mono L.ff (yk L)) h1 λM R F2 H3 P bd I2 h2=>?_;rcases L.uu b u with q|q
  ·exact(hy b hb).1 q
  exact(hy b hb).2.1 q;have s2:=L.bind bd (λj hj=>hj) hC;exact ib I2 (X.fromS s2) h2 ⟨λf k S' z w Q I' q=>⟨l,z,f,S',s2.trans Q,I',q⟩,λv t W f k S' z w Q I' r hw fr q=>ort v t W f k S' z w (s2.c.trans Q) I' r hw (zk s2 fr) q,
   λf k S' z w Q I' q=>onx f k S' z w (s2.trans Q) I' q,λf k S' z w Q I' q=>⟨l,z,f,S',s2.trans Q,I',q⟩⟩
 exact AK hm key;have e:p.drop i=[]:=WJ (by omega);rw[e]at h1;exact .inl ⟨hJ.stop i B hs hge,onx D B S1 A G L I1 h1⟩
theorem LF:∀(J:List Nat) (ρ:zA) (i:Nat) s,(kill J ρ)[i]?=some (some s)->ρ[i]?=some (some s)/\(i∈J->∀t,s=.nv t->t.isD=true)
 |[],ρ,i,s,h=>⟨h,λz=>by simp at z⟩|j::J,ρ,i,s,h=>by
  unfold kill at h;obtain⟨x,w⟩:=LF J _ i s h;rw[QAD]at x;by_cases e:j=i;subst e;simp only[reduceIte]at x;cases q:ρ[j]? with
  |none=>rw[q]at x;cases x|some o =>
   rw[q]at x;have x:mF o=some s:=by simpa using x
   cases o with
   |none=>cases x|some v =>
    cases v with
    |own t=>cases x;exact⟨rfl,λ_ u z=>by cases z⟩|nv t =>
     have x:(if t.isD=true then some (Sl.nv t) else none)=some s:=x;cases y:t.isD with|true=>rw[y,if_pos rfl]at x;cases x;exact⟨rfl,λ_ u z=>by cases z;exact y⟩|false=>rw[y]at x;simp at x
  simp only[e,if_false]at x;refine⟨by simpa using x,λm=>w ((QK.mp m).elim (λz=>absurd z.symm e) id)⟩
theorem YK:∀(J:List Nat) (ρ:zA),(kill J ρ).length=ρ.length
 |[],_=>rfl|j::J,ρ=>by unfold kill;rw[YK J];simp
theorem Sts.kill(s:Sts C J F H S ρ σ D B S1 A G):Sts C [] F H S ρ σ D B S1 (L3.kill J A) G :=
 ⟨s.ff,s.hh,s.dm,s.fn,λb ⟨i,t,y,x⟩=>s.uu b ⟨i,t,(LF J A i _ y).1,x⟩,λj t _ e h=>by obtain⟨y,x⟩:=LF J A j _ e;by_cases z:j∈J;rw[x z t rfl]at h;cases h;exact s.bo j t z y h,s.sg⟩
theorem VP:∀(L:List Nat) (ρ:zA) (j:Nat),(lock L ρ)[j]?=if j∈L then ρ[j]?.map KG else ρ[j]?
 |[],ρ,j=>by simp[lock]|i::L,ρ,j=>by
  have x:∀o,KG (KG o)=KG o:=λo=>by
   match o with
   |none=>rfl|some (.own _)=>rfl|some (.nv _)=>rfl
  unfold lock;rw[VP L,QAD];by_cases e:i=j;subst e;cases h:ρ[i]? with|none=>simp|some o=>simp[x]
  have y:¬ j=i:=λz=>e z.symm;simp[e,y]
theorem KP:∀(L:List Nat) (ρ:zA),(lock L ρ).length=ρ.length
 |[],_=>rfl|i::L,ρ=>by unfold lock;rw[KP L];simp
theorem NJ:∀(L:List Nat) (x ρ:zA) (j:Nat),(∀i∈L,i<ρ.length)->(UC L x ρ)[j]?=if j∈L then some (x[j]?.getD none) else ρ[j]?
 |[],x,ρ,j,_=>by simp[UC]|i::L,x,ρ,j,h=>by unfold UC;rw[NJ L x _ j (λk hk=>by simpa using h k (QG _ hk)),wQ];by_cases e:i=j;subst e;simp[h i QE];have y:¬ j=i:=λz=>e z.symm;simp[e,y]
theorem MJ:∀(L:List Nat) (h ρ:zA),(UC L h ρ).length=ρ.length
 |[],_,_=>rfl|i::L,h,ρ=>by unfold UC;rw[MJ L];simp
theorem yH{ρ:zA}:∀(x:List Nat),∀i∈pC ρ x,∃t,ρ[i]?=some (some (.own t))
 |[],i,h=>by simp[pC]at h|j::x,i,h=>by
  unfold pC at h;split at h
  ·rename_i ho
   rcases QK.mp h with e|e
   ·subst e
    unfold gR at ho;split at ho;rename_i t e;exact⟨t,e⟩
    all_goals cases ho
   exact yH x i e
  exact yH x i h
theorem nK{ρ:zA}{i:Nat}{t:T}(h:ρ[i]?=some (some (.own t))):∀(x:List Nat),i∈x->i∈pC ρ x
 |[],hi=>by simp at hi|j::x,hi=>by
  unfold pC;rcases QK.mp hi with e|e;subst e;have:gR ρ[i]?=true:=by rw[h];rfl
  rw[if_pos this];exact QE;have:=nK h x e;split;exact QG _ this;exact this
section
variable{L:List Nat}(y:∀i∈L,∃t,ρ[i]?=some (some (.own t)))
include y
theorem II{i:Nat}{s:Sl}(h:(lock L ρ)[i]?=some (some s)):(i∈L/\∃t,ρ[i]?=some (some (.own t))/\s=.nv t)∨(i∉L/\ρ[i]?=some (some s)):=by rw[VP]at h;by_cases x:i∈L;rw[if_pos x]at h;obtain⟨t,e⟩:=y i x;rw[e]at h;injection h with h;injection h with h;exact .inl ⟨x,t,e,h.symm⟩;rw[if_neg x]at h;exact .inr ⟨x,h⟩
theorem IE{b:Addr}(h:U (lock L ρ) S b):U ρ S b:=by
 obtain⟨i,t,x,z⟩:=h;rcases II y x with⟨_,u,_,e⟩| ⟨_,x⟩
 cases e;exact⟨i,t,x,z⟩
theorem Rl.lock(I:Rl K F H S ρ σ):Rl K F H S (L3.lock L ρ) σ where
 fh:=I.fh
 len:=by rw[KP];exact I.len
 sl:=λi s e=>by
  rcases II y e with⟨_,t,h,rfl⟩| ⟨_,h⟩
  obtain⟨v,u,x⟩:=I.sl i _ h;exact⟨v,u,x.weak⟩;exact I.sl i s h
 dj:=λi j t s n k w=>by
  rcases II y k with⟨_,_,_,z⟩| ⟨_,u⟩
  cases z;rcases II y w with⟨_,a,x,_⟩| ⟨_,x⟩
  ·exact I.dj i j t _ n u x
  exact I.dj i j t s n u x
theorem Rl.lockU(I:Rl K F H S ρ σ){i:Nat}(x:i∈L){b:Addr}(hb:S i b):¬ U (L3.lock L ρ) S b:=λ⟨j,t,h,v⟩=>by
 obtain⟨w,e⟩:=y i x;rcases II y h with⟨_,_,_,z⟩| ⟨u,h⟩
 cases z;exact I.dj j i t _ (λz=>u (z▸x)) h e b v hb
theorem UU(I:Rl K F H S ρ σ)(s:Sts C [] F H S (lock L ρ) σ D B S1 A G)(W:Rl K D B S1 A G)(hl:∀i∈L,A[i]?=ρ[i]?.map KG) :
  ∃P,Rl K D B P (UC L ρ A) G/\Sts C [] F H S ρ σ D B P (UC L ρ A) G:=by
 classical
 have l1:∀i∈L,∃t,ρ[i]?=some (some (.own t))/\A[i]?=some (some (.nv t)):=λi h=>by obtain⟨t,e⟩:=y i h;have:=hl i h;rw[e]at this;exact⟨t,e,this⟩
 have hlt:∀i∈L,i<A.length:=λi h=>by obtain⟨t,_,e⟩:=l1 i h;exact(Qe.mp e).1
 let P:Ft:=λi=>if i∈L then S i else S1 i
 have l:∀i∈L,P i=S i:=λi h=>if_pos h;have g:∀i,i∉L->P i=S1 i:=λi h=>if_neg h;have get:∀i a,(UC L ρ A)[i]?=some (some a)->(i∈L/\∃t,ρ[i]?=some (some (.own t))/\A[i]?=some (some (.nv t))/\a=.own t)∨(i∉L/\A[i]?=some (some a)):=λi a e=>by rw[NJ L ρ A i hlt]at e;by_cases h:i∈L;rw[if_pos h]at e;obtain⟨t,f,Y⟩:=l1 i h;rw[f]at e;injection e with e;have e:some (Sl.own t)=some a:=e;injection e with e;exact .inl ⟨h,t,f,Y,e.symm⟩;rw[if_neg h]at e;exact .inr ⟨h,e⟩
 have Q:∀i∈L,∀k a,k∉L->A[k]?=some (some a)->∀b,S i b->¬ S1 k b:=λi h k a hk e b hb z=>by
  obtain⟨t,f,_⟩:=l1 i h;cases a with
  |own u=>rcases s.uu b ⟨k,u,e,z⟩ with q|q;exact I.lockU y h hb q;exact(I.dom f hb).1 q
  |nv u =>
   cases o:u.isD with
   |true=>exact W.isD e o z|false =>
    obtain⟨m,p,_⟩:=s.bo k u (by simp) e o;rw[p]at z;rcases II y m with⟨q,_⟩| ⟨_,m⟩
    exact hk q;exact I.dj i k t _ (λq=>hk (q▸h)) f m b hb z
 refine⟨P,⟨W.fh,by rw[MJ];exact W.len,λi a e=>?_,λi k t a n f Y b hb hk=>?_⟩,⟨s.ff,λb u e n=>s.hh b u e λz=>n (IE y z),s.dm,λb e z=>(s.fn b e z).imp (IE y) id,λb ⟨i,t,h1,h2⟩=>?_,λj t _ e o=>?_,s.sg⟩⟩;rcases get i a e with⟨h,t,f,Y,rfl⟩| ⟨h,f⟩
 ·rw[l i h]
  obtain⟨v,m,p⟩:=I.sl i _ f;cases o:t.isD with
  |true =>
   obtain⟨v',g3,g4⟩:=W.sl i _ Y;refine⟨v',g3,?_⟩;have nb:∀b,¬ S i b:=λb=>I.isD f o;cases t with
   |d x =>
    have g4:Tr K D B false v' (.d x) (S1 i):=g4;cases g4 with|d r _=>exact .d r nb
   |_=>cases o
  |false =>
   obtain⟨_,_,g5⟩:=s.bo i t (by simp) Y o;refine⟨v,g5.trans m,?_⟩;have p:Tr K F H true v t (S i):=p;refine p.mono s.ff λb hb=>?_;obtain⟨d1,d2⟩:=p.dom b hb;have nu:=I.lockU y h hb;refine⟨?_,?_⟩;cases eb:H b with|none=>exact absurd eb d1|some u=>exact s.hh b u eb nu
   by_cases q:D b=none
   ·exact q
   exact((s.fn b d2 q).elim nu d1).elim
 rw[g i h];exact W.sl i a f;rcases get i _ f with⟨h,t',X,a2,_⟩| ⟨h,X⟩
 ·rw[l i h]at hb
  rcases get k a Y with⟨w,t2,Z,b2,_⟩| ⟨w,Z⟩
  rw[l k w]at hk;exact I.dj i k t' _ n X Z b hb hk;rw[g k w]at hk;exact Q i h k a w Z b hb hk
 rw[g i h]at hb;rcases get k a Y with⟨w,t2,Z,b2,_⟩| ⟨w,Z⟩
 rw[l k w]at hk;exact Q k w i _ h X b hk hb;rw[g k w]at hk;exact W.dj i k t a n X Z b hb hk;rcases get i _ h1 with⟨h,t',X,a2,_⟩| ⟨h,X⟩
 ·rw[l i h]at h2
  exact .inl ⟨i,t',X,h2⟩
 rw[g i h]at h2;exact(s.uu b ⟨i,t,X,h2⟩).imp (IE y) id;rcases get j _ e with⟨_,_,_,_,z⟩| ⟨hj,f⟩
 ·cases z
 obtain⟨m,p,g3⟩:=s.bo j t (by simp) f o;rcases II y m with⟨q,_⟩| ⟨_,m⟩
 exact absurd q hj;exact⟨m,(g j hj).trans p,g3⟩
end
theorem eN{i:Nat}(h:(!C.contains i)=true):i∉C:=λz=>by have:C.contains i=true:=Qm.mpr z;rw[this]at h;cases h
theorem pP{x:List Nat}(h:(x.all λi=>!C.contains i)=true):∀i∈x,i∉C:=λi y=>eN (qB.mp h i y)
theorem sU:∀{xs:List (T×Bool)},nO xs=true->∀t∈YL xs,t.isD=true
 |[],_,t,h=>by simp[YL]at h|p::r,h,t,y=>by
  simp only[nO,Qg]at h;simp only[YL,QK]at y;rcases y with rfl|y;obtain⟨x,n⟩:=p;cases n with
  |true=>rfl|false =>
   have z:=h.1;cases x with|d x=>rfl|_=>cases z
  exact sU h.2 t y
theorem Tn.bare{Y:fB}{vs:List V}{ts:List T}(h:Tn K F H Y vs ts):(∀t∈ts,t.isD=true)->Tn K F H (λ_=>False) vs ts:=by
 induction h with
 |nil=>exact λ_=>.nil|@cons v t vs ts Z r z a w =>
  intro y;refine .cons (Z:=λ_=>False) ?_ (λ_ z=>z) (w λu k=>y u (QG _ k));have y:=y t QE;cases t with
  |d x=>cases r with|d q _=>exact .d q λ_ z=>z
  |_=>cases y
theorem lX{v:V}{t:T}{W:fB}{Z:PEnds}{h:Ends}(ok:EndsOk K C F H S ρ σ Z h)(s:Ste F H S ρ D B S1 A)(I:Rl K D B S1 A σ)(r:Tr K D B true v t W)(x:Held D B S1 A W)(y:∀b,W b->H b=none∨U ρ S b)(q:Z.rt t A):h.rt v B :=
 ok.rt v t W D B S1 A σ (s.toStp.sts (J:=[])).c I r x y q
theorem O2(g:GOk K Γ Ψ):∀(e:PX) {F H:Hp}{S:Ft}{ρ:zA}{σ:St}{Z:PEnds}{k:Ends},Rl K F H S ρ σ->HE K F H S ρ E O->uJ Ψ E Z.rt e ρ->EndsOk K C F H S ρ σ Z k->(wp K Γ e O).e σ H k.rt:=by
  intro e F H S ρ σ Z k I X h ok;have f:∀e,(pe Ψ e E).e ρ (λx n A=>bH x n=true/\Z.rt x A)->(wp K Γ e O).e σ H k.rt:=λe h=>by refine(GA g e).e (Q:=λx n A=>bH x n=true/\Z.rt x A) I X h λv F' H' S' l x n Za s J r ⟨Y,q⟩=>?_;obtain⟨W,m,o,fr⟩:=r.strict Y;exact lX ok s J m o fr q
  cases e with
  |var i =>
   have y:Ui ρ i Z.rt ρ[i]?:=h;show(match σ[i]? with|some (some v)=>k.rt v _|_=>False)
   match a:ρ[i]?,y with
   |some (some (.own t)),y =>
    obtain⟨v,w,r⟩:=I.sl i _ a;rw[w];have I0:Rl K F H S (ρ.set i none) σ:=I.drop (by simp) λj s e=>by
     rcases bA e with⟨_,z,_⟩| ⟨_,e⟩
     cases z;exact e
    refine ok.rt v t (S i) F H S (ρ.set i none) σ ⟨.refl _,λb u e _=>e,λb e=>e,λb e z=>absurd e z,λb ⟨j,u,w,L⟩=>.inl ?_,λ_ _=>rfl⟩ I0 r ⟨r.dom,λj s e b hb z=>?_⟩ (λb hb=>.inr ⟨i,t,a,hb⟩) y;rcases bA w with⟨_,z,_⟩| ⟨_,w⟩
    ·cases z
    exact⟨j,u,w,L⟩;rcases bA e with⟨_,q,_⟩| ⟨n,e⟩
    ·cases q
    exact I.dj i j t s n a e b hb z
   |some (some (.nv t)),y =>
    obtain⟨v,w,r⟩:=I.sl i _ a;rw[w];obtain⟨p,y⟩:=y;cases t with
    |d x =>
     have r:Tr K F H false v (.d x) (S i):=r;cases r with|d q n=>exact lX (W:=λ_=>False) ok .refl I (.d q λ_ z=>z) .none (λ_ z=>z.elim) y
    |_=>cases p
   |some none,y=>exact y.elim|none,y=>exact y.elim
  |_=>exact f _ h
theorem JH(g:GOk K Γ Ψ):∀(p:PT) {F H:Hp}{S:Ft}{ρ:zA}{σ:St}{Z:PEnds}{Dn:Ends},zH C p=true->Rl K F H S ρ σ->HE K F H S ρ E O->xA Ψ E p Z ρ->EndsOk K C F H S ρ σ Z Dn->pL K Γ O p Dn σ H
 | .nil,_,_,_,_,_,_,_,c,I,X,h,ok=>ok.nx _ _ _ _ _ .refl I h|.seq s r,_,_,_,_,_,_,_,c,I,X,h,ok=>by obtain⟨c1,c2⟩:=yA c;exact JH g s c1 I X h ⟨λF' H' S' L σ' s' J q=>JH g r c2 J (X.fromS s') q (ok.from s'),ok.rt,ok.bk,ok.ct⟩|.set i e,F,H,S,ρ,σ,Z,Dn,c,I,X,h,ok=>by have hi:=eN c;refine JD (RR:=λx B=>Dn.nx (σ.set i (some x)) B) (GA g e) I X h λv F' H' S' L x n Za s J X' r er _ ⟨he,q⟩=>?_;exact ok.nx _ _ _ _ _ (s.toStp.sts.setD i hi v rfl _) (J.setD i (er he)) q|.expr e,F,H,S,ρ,σ,Z,Dn,c,I,X,h,ok=>(GA g e).e I X h λv F' H' S' L x n Za s J r q=>ok.nx _ _ _ _ _ s.toStp.sts J q|.ret e,F,H,S,ρ,σ,Z,Dn,c,I,X,h,ok=>O2 g e I X h ok|.ife t a b,F,H,S,ρ,σ,Z,Dn,c,I,X,h,ok=>by
  obtain⟨c1,c2⟩:=yA c;refine(GA g t).t I X h λk F' H' S' L s J q=>?_;cases k with|true=>exact JH g a c1 J (X.from s.toStp) q (ok.from s.toStp.sts)|false=>exact JH g b c2 J (X.from s.toStp) q (ok.from s.toStp.sts)
 | .for_ tg ik its body,F,H,S,ρ,σ,Z,Dn,c,I,X,h,ok=>by
  obtain⟨c1,c2⟩:=yA c;have hC:=pP c1;refine iS (RR:=λvs B=>dC K ik vs B λxs st N=>K6 K xs st tg (pL K Γ O body) Dn σ N) (GA g its) I X h λvs D B S1 A xs Y s1 I1 X1 tn tm q=>?_;rw[DJ _ rfl]at q;have ok1:=ok.from s1.toStp.sts;cases ha:nO xs with
  |true=>have tn':=tn.bare (sU ha);refine aI I1.fh tn' q λits ys st pr hst hc=>?_;rw[ha,if_pos rfl]at hc;refine vU (λI X h ok=>JH g body c2 I X h ok) I1 X1 hC pr (λb z=>z.elim) hst hc ?_ ?_;exact λF' H' S' L σ' s' I' q=>ok1.nx _ _ _ _ _ s'.kill (I'.drop (YK _ _) λi sl e=>(LF _ _ i sl e).1) q;exact λv t W F' H' S' L σ' s' I' r hw fr q=>ok1.rt v t W F' H' S' L σ' s' I' r hw fr q|false =>
   refine aI I1.fh tn q λits' ys st pr hst hc=>?_;rw[ha,if_neg (by simp)]at hc;have hL:=yH (ρ:=A) (tG its);have IL:=I1.lock hL;have sL:Sts C [] D B S1 A σ D B (λ_ _=>False) [] σ:=⟨.refl _,λb u e _=>e,λb e=>e,λb e z=>absurd e z,λb ⟨i,t,e,_⟩=>by simp at e,λj t _ e=>by simp at e,λ_ _=>rfl⟩
   have XL:HE K D B S1 (lock (pC A (tG its)) A) E O:=λx dx F2 N P M s2 f r q =>
    X1 x dx F2 N (λ_ _=>False) [] ⟨s2.ff,λb u e n=>s2.hh b u e λz=>n (IE hL z),s2.dm,λb e z=>(s2.fn b e z).imp (IE hL) id,λb ⟨i,t,e,_⟩=>by simp at e,λj t e=>by simp at e⟩ f r q
   refine vU (λI X h ok=>JH g body c2 I X h ok) IL XL hC pr (λb hb=>?_) hst hc ?_ ?_;obtain⟨i,sl,h1,h2,h3⟩:=tm b hb;refine⟨λu=>?_,I1.dom h2 h3⟩;cases sl with
   |own t=>exact I1.lockU hL (nK h2 _ h1) h3 u|nv t =>
    obtain⟨j,t',e1,e2⟩:=u;rcases II hL e1 with⟨_,_,_,z⟩| ⟨_,e1⟩
    cases z;exact I1.dj j i t' _ (λz=>by subst z;rw[h2]at e1;cases e1) e1 h2 b e2 h3
   intro F' H' S' L σ' s' I' ⟨q1,q2⟩;have sk:=s'.kill;have Ik:=I'.drop (YK tg.ix L) λi sl e=>(LF _ _ i sl e).1;obtain⟨P,I2,s2⟩:=UU hL I1 sk Ik λi hi=>(q1 i hi).2;exact ok1.nx _ _ _ _ _ s2 I2 q2;intro v t W F' H' S' L σ' s' I' r hw fr q;exact ok1.rt v t W F' H' S' L σ' ⟨s'.ff,λb u e n=>s'.hh b u e λz=>n (IE hL z),s'.dm,λb e z=>(s'.fn b e z).imp (IE hL) id,λb u=>(s'.uu b u).imp (IE hL) id,s'.sg⟩ I' r hw (λb hb=>(fr b hb).imp id (IE hL)) q
 | .own i e,F,H,S,ρ,σ,Z,Dn,c,I,X,h,ok=>by refine(GA g e).e (Q:=λx n A=>bH x n=true/\Z.nx (A.set i (some (.own x)))) I X h λv F' H' S' L x n Za s J r ⟨he,q⟩=>?_;obtain⟨W,r2,hw,fr⟩:=r.strict he;exact ok.nx _ _ _ _ _ (s.toStp.sts.setN i (eN c) v x fr) (J.setN i r2 λj sl _ e b hb=>hw.nw j sl e b hb) q|.tset is e,F,H,S,ρ,σ,Z,Dn,c,I,X,h,ok=>by
  have hc:=pP c;refine JD (RR:=λx B=>VE K (.tp is) x σ B Dn.nx) (GA g e) I X h λv F' H' S' L x n Za s J X' r er _ ⟨he,q⟩=>?_;have q2:SH (.tp is) (.d x.er) L λM=>Z.nx M/\∀(j:Nat) t,M[j]?=some (some (.nv t))->t.isD=false->j∉is:=by
   generalize x.er=d at q;cases d with
   |tuple ds=>obtain⟨M,e,q⟩:=q;exact⟨M,e,q,λj t h1 h2=>(PL is ds e j t h1 h2).1⟩|dict kvs =>
    have q:(match UB kvs with | .tp ts=>∃M,aB is ts L=some M/\Z.nx M|_=>False):=q;unfold UB at q;cases ek:PC kvs with|none=>rw[ek]at q;exact q.elim|some b=>rw[ek]at q;exact q.elim
   |_=>exact q.elim
  refine SK (Y:=λ_=>False) (it:=.one v) J (λb z=>z.elim) ⟨λ_=>False,.d (er he) λ_ z=>z,λ_ z=>z⟩ q2 λM R F2 N P bd J2 qn=>?_;have st:=(s.toStp.sts (σ:=σ) (C:=C) (J:=is)).bind bd (λj hj=>hj) hc;exact ok.nx _ _ _ _ _ ⟨st.ff,st.hh,st.dm,st.fn,st.uu,λj t _ e hd=>st.bo j t (qn.2 j t e hd) e hd,st.sg⟩ J2 qn.1
 | .six o i e,F,H,S,ρ,σ,Z,Dn,c,I,X,h,ok=>by
  have later:∀{j:Nat}{t:T}{v0:V},ρ[j]?=some (some (.own t))->Tr K F H true v0 t (S j)->∀{F' H':Hp}{S':Ft}{L:zA},Ste F H S (ρ.set j (some (.nv t))) F' H' S' L->Tr K F' H' true v0 t (S j)/\∀b,S j b->H' b=H b:=λ{j t v0} hj r0 {F' H' S' L} s=>⟨s.toStp.keep r0 (I.lock1U hj),λb hb=>by
   cases e:H b with|none=>exact absurd e (r0.dom b hb).1|some u=>exact s.hh b u e (I.lock1U hj b hb)⟩
  cases o with
  |var j =>
   have h:HC ρ[j]? _:=h;unfold HC at h;split at h;rename_i t hj;obtain⟨v0,hv,r0⟩:=I.sl j _ hj;have r0:Tr K F H true v0 t (S j):=r0;show(wp K Γ e O).e σ H λv B=>(wp K Γ (.var j) O).e σ B λov N=>(wp K Γ i O).e σ N λiv H3=>NO K ov iv v H3 λH4=>Dn.nx σ H4;refine JD (GA g e) (I.lock1 hj) (X.lock1 hj) h λxv D B S1 A x n Zx s1 I1 X1 _ er1 _ ⟨he,q1⟩=>?_;have rx:=er1 he;show(match σ[j]? with|some (some v)=>_|_=>False);rw[hv];refine JD (GA g i) I1 X1 q1 λiv F2 N P M y m Zy s2 I2 X2 _ er2 _ ⟨he2,hj2,q2⟩=>?_;have s12:=s1.trans s2;refine OW I2.fh (later hj r0 s12).1 (er2 he2) (rx.mono s2.ff) q2 λt' H3 S3 hh dm rt sub q=>?_;obtain⟨st,I3,_⟩:=YF (W:=λ_=>False) I hj hv s12 I2 hh dm rt (λb hb=>.inl (sub b hb)) .none (λ_ z=>z.elim);exact ok.nx _ _ _ _ _ st.toStp.sts I3 q
   all_goals exact h.elim
  |idx a k =>
   cases a with
   |var j =>
    have h:HC ρ[j]? _:=h;unfold HC at h;split at h;rename_i t hj;obtain⟨v0,hv,r0⟩:=I.sl j _ hj;have r0:Tr K F H true v0 t (S j):=r0;show(wp K Γ e O).e σ H λv B=>(wp K Γ (.var j) O).e σ B λov N=>(wp K Γ k O).e σ N λzv H3=>bJ K ov zv H3 λow H4=>(wp K Γ i O).e σ H4 λiv H5=>NO K ow iv v H5 λH6=>Dn.nx σ H6;refine JD (GA g e) (I.lock1 hj) (X.lock1 hj) h λxv D B S1 A x n Zx s1 I1 X1 _ er1 _ ⟨he,q1⟩=>?_;have rx:=er1 he;show(match σ[j]? with|some (some v)=>_|_=>False);rw[hv];refine JD (GA g k) I1 X1 q1 λzv F2 N P M z l Zz s2 I2 X2 _ er2 _ ⟨hez,b,ks,ts,n,s,et,hk,hf,ht,q2⟩=>?_;have s12:=s1.trans s2;have rz:=er2 hez;subst et;obtain⟨r2,k2⟩:=later hj r0 s12;obtain⟨a,o,vs,ea,ho,dk,hw⟩:∃a o vs,v0=.ref a/\N a=some o/\xI K F2 b o ks vs/\∃w,vs[n]?=some w/\S j a:=by
     cases r2 with|dct h1 dk h2 h3 h4 h5=>obtain⟨w,_,g1,_⟩:=h3.get ht;exact⟨_,_,_,rfl,h1,dk,w,g1,(h5 _).mpr (.inl rfl)⟩
    obtain⟨w,hw,sa⟩:=hw;subst ea;have gd:=(dk.mono I2.fh).get ho (rz.mono I2.fh) hk;rw[hf]at gd;have gd:sO K N a zv (vs[n]?):=gd;rw[hw]at gd;have fin:(wp K Γ i O).e σ N λiv H5=>NO K w iv xv H5 λH6=>Dn.nx σ H6:=by
     refine JD (GA g i) I2 X2 q2 λiv F3 H3 S3 ρ3 y m Zy s3 I3 X3 _ er3 _ ⟨he3,hj3,q3⟩=>?_;have s13:=s12.trans s3;obtain⟨r3,k3⟩:=later hj r0 s13;have ho3:H3 a=some o:=by rw[k3 a sa,<- k2 a sa];exact ho
     refine N1 I3.fh r3 ho3 dk hw ht (er3 he3) ((rx.mono s2.ff).mono s3.ff) q3 λt' H4 S4 hh dm rt sub q=>?_;obtain⟨st,I4,_⟩:=YF (W:=λ_=>False) I hj hv s13 I3 hh dm rt (λb hb=>.inl (sub b hb)) .none (λ_ z=>z.elim);exact ok.nx _ _ _ _ _ st.toStp.sts I4 q
    cases zv with|str z=>exact⟨w,gd,fin⟩|ref c=>exact⟨w,gd,fin⟩|_=>exact gd.elim
    all_goals exact h.elim
   |_=>exact h.elim
  |_=>exact h.elim
 | .sdf j k,F,H,S,ρ,σ,Z,Dn,c,I,X,h,ok=>by
  have h:HC ρ[j]? _:=h;unfold HC at h;split at h;rename_i t hj;obtain⟨v0,hv,r0⟩:=I.sl j _ hj;have r0:Tr K F H true v0 t (S j):=r0;obtain⟨hd,h⟩:=h;show(match σ[j]? with|some (some v)=>HS K "dict" v H/\(wp K Γ k O).e σ H λx B=>∀p,B p=none->aJ K v [x,.ref p] (DA B p (.dT 0 [])) λ_ N=>Dn.nx σ N|_=>False);rw[hv];constructor;cases r0 with
  |@dct _ b _ _ _ _ _ _ _ h1 dk _ _ _ _ =>
   cases b with|true=>obtain⟨ep,kvs,rfl,_⟩:=dk;exact .inr (.inr (.inl ⟨rfl,.inr ⟨ep,kvs,h1⟩⟩))|false=>cases hd
  |_=>cases hd
  refine JD (GA g k) (I.lock1 hj) (X.lock1 hj) h λiv D B S1 A y m Zy s1 I1 X1 _ er _ ⟨he,hj1,q1⟩=>?_;intro p hp;have r1:=s1.toStp.keep r0 (I.lock1U hj);refine J8 I1.fh hp r1 (er he) q1 λt' H3 S3 hh dm rt sub q=>?_;obtain⟨st,I3,_⟩:=YF (W:=λ_=>False) I hj hv s1 I1 hh dm rt (λb hb=>(sub b hb).imp id λ(z:b=p)=>.inr (by rw[z];exact hp)) .none (λ_ z=>z.elim);exact ok.nx _ _ _ _ _ st.toStp.sts I3 q
  all_goals exact h.elim
 | .whl t body,F,H,S,ρ,σ,Z,Dn,c,I,X,h,ok=>by
  obtain⟨W,⟨m0,w0⟩,turn⟩:=h;refine⟨λm σ' H'=>∃L F' S',Sts C [] F H S ρ σ F' H' S' L σ'/\Rl K F' H' S' L σ'/\W m L,⟨m0,ρ,F,S,.refl,I,w0⟩,?_⟩;rintro m G B ⟨A,D,S1,s1,I1,w1⟩;refine(GA g t).t I1 (X.fromS s1) (turn m A w1) λk F' H' S' L s' J q=>?_;have s2:=s1.trans s'.toStp.sts;cases k with
  |false=>exact ok.nx _ _ _ _ _ s2 J q|true =>
   refine⟨λσ' H'=>∃m',m' < m/\∃L F' S',Sts C [] F H S ρ σ F' H' S' L σ'/\Rl K F' H' S' L σ'/\W m' L,λ_ _ z=>z,?_⟩;refine JH g body c J (X.fromS s2) q ⟨?_,?_,?_,?_⟩;exact λF' H' S' L σ' s' I' ⟨m',hm,w⟩=>⟨m',hm,L,F',S',s2.trans s',I',w⟩
   exact λv t W F' H' S' L σ' s' I' r hw fr q=>ok.rt v t W F' H' S' L σ' (s2.c.trans s') I' r hw (zk s2 fr) q;exact λF' H' S' L σ' s' I' q=>ok.nx _ _ _ _ _ (s2.trans s') I' q;exact λF' H' S' L σ' s' I' ⟨m',hm,w⟩=>⟨m',hm,L,F',S',s2.trans s',I',w⟩
 | .frz is s,F,H,S,ρ,σ,Z,Dn,c,I,X,h,ok=>by obtain⟨F',S',I',s'⟩:=I.frzAt (C:=C) is;exact JH g s c I' (X.fromS s') h (ok.from s')|.hs s,F,H,S,ρ,σ,Z,Dn,c,I,X,h,ok=>df (Γ:=Γ) s c I h λF' H' S' L σ' a b q=>ok.nx F' H' S' L σ' a b q
end
section
variable{z:Ev}{n:Need}
noncomputable def Rh(x:Str)(n:String):Bool:=(x==("bool":Str)&&n == "bool")||(x==("int":Str)&&n == "int")||(x==("str":Str)&&n == "str")||(x==("list":Str)&&n == "list")||(x==("tuple":Str)&&n == "tuple")||(x==("ValueError":Str)&&n == "ValueError")
theorem c8{x:Str}{n:String}(h:Rh x n=true):bootBuiltins x=some (.type n):=by simp only[Rh,wV,Qg,beq_iff_eq]at h;rcases h with((((⟨rfl,rfl⟩| ⟨rfl,rfl⟩)|⟨rfl,rfl⟩)|⟨rfl,rfl⟩)|⟨rfl,rfl⟩)|⟨rfl,rfl⟩<;>kernel_rfl
structure Need where
 fn:List Str
 va:List Str
 no:List Str
def Hj(n:Need):ItK->Bool
 | .val=>true|.rng1=>n.no.contains ("range":Str)|.enum=>n.no.contains ("enumerate":Str)|.itm=>true
noncomputable def jB(n:Need):PX->Bool
 | .glo x=>n.va.contains x|.bty x t=>n.no.contains x&&Rh x t|.bin _ a b | .cmp _ a b | .and a b | .or a b | .idx a b | .nq a b | .dsp a b | .ixm a b=>jB n a&&jB n b
 | .not a | .neg a | .lst a | .tup a=>jB n a
 | .slc a b c=>jB n a&&(jB n b&&jB n c)|.dof a=>n.no.contains "dict" && jB n a|.lset a=>n.no.contains "len" && (n.no.contains "set" && jB n a)|.sset a=>n.no.contains "sorted" && (n.no.contains "set" && jB n a)|.call f y=>n.fn.contains f&&jB n y|.bi f y=>n.no.contains f.nm&&jB n y|.isi a c=>n.no.contains ("isinstance":Str)&&(jB n a&&jB n c)|.mt _ o y=>jB n o&&jB n y|.comp _ _ _ w u h v=>Hj n w&&(jB n u&&(jB n h&&jB n v))|_=>true
noncomputable def bE(n:Need):PT->Bool
 | .seq s r=>bE n s&&bE n r|.set _ e=>jB n e|.own _ e=>jB n e|.expr e=>jB n e|.ret e=>jB n e|.ife c a b=>jB n c&&(bE n a&&bE n b)|.for_ _ y x h=>Hj n y&&(jB n x&&bE n h)|.tset _ e=>jB n e|.six o i e=>jB n o&&(jB n i&&jB n e)|.sdf i k=>jB n (Cd i k)|.whl c b=>jB n c&&bE n b|.frz _ s=>bE n s|.hs s=>bE n s|.nil=>true
def ON(z:Ev)(n:Need):Glob:=⟨z,λf=>f∈n.fn,λx=>x∈n.va,λx=>x∈n.no⟩
theorem yZ{x:ItK}(h:Hj n x=true):zf (ON z n) x:=by
 cases x with|val=>trivial|itm=>trivial|_=>exact Qm.mp h
theorem MC:∀(p:PX),jB n p=true->HA (ON z n) p:=by
 intro p;induction p with
 |glo x=>intro h;exact Qm.mp h|bty x t=>intro h;obtain⟨v,u⟩:=yA h;exact⟨Qm.mp v,c8 u⟩|bin _ a b y w|cmp _ a b y w|and a b y w|or a b y w|idx a b y w|nq a b y w|dsp a b y w|ixm a b y w=>intro h;obtain⟨v,u⟩:=yA h;exact⟨y v,w u⟩
 |not a y|neg a y|lst a y|tup a y=>intro h;exact y h
 |slc a b c y w i=>intro h;obtain⟨v,e⟩:=yA h;obtain⟨u,k⟩:=yA e;exact⟨y v,w u,i k⟩|call f l y=>intro h;obtain⟨v,u⟩:=yA h;exact⟨Qm.mp v,y u⟩|dof a y=>intro h;obtain⟨v,u⟩:=yA h;exact⟨Qm.mp v,y u⟩|lset a y=>intro h;obtain⟨v,u⟩:=yA h;obtain⟨k,g⟩:=yA u;exact⟨Qm.mp v,Qm.mp k,y g⟩|sset a y=>intro h;obtain⟨v,u⟩:=yA h;obtain⟨k,g⟩:=yA u;exact⟨Qm.mp v,Qm.mp k,y g⟩|bi f l y=>intro h;obtain⟨v,u⟩:=yA h;exact⟨Qm.mp v,y u⟩|isi a c y i=>intro h;obtain⟨v,e⟩:=yA h;obtain⟨u,k⟩:=yA e;exact⟨Qm.mp v,y u,i k⟩|mt _ o l q y=>intro h;obtain⟨v,u⟩:=yA h;exact⟨q v,y u⟩|comp _ _ _ Z m j Y X s r=>intro h;obtain⟨v,h⟩:=yA h;obtain⟨u,h⟩:=yA h;obtain⟨k,g⟩:=yA h;exact⟨yZ v,X u,s k,r g⟩|_=>intro _;trivial
theorem sV:∀(p:PT),bE n p=true->uE (ON z n) p:=by
 intro p;induction p with
 |seq s r v l=>intro h;obtain⟨u,y⟩:=yA h;exact⟨v u,l y⟩|set _ e|own _ e|expr e|ret e|tset _ e=>intro h;exact MC _ h
 |six o i e=>intro h;obtain⟨u,x⟩:=yA h;obtain⟨y,f⟩:=yA x;exact⟨MC _ u,MC _ y,MC _ f⟩|sdf i k=>intro h;exact MC _ h|frz _ s v=>intro h;exact v h|hs s v=>intro h;exact v h|whl c b w=>intro h;obtain⟨u,y⟩:=yA h;exact⟨MC _ u,w y⟩|ife c a b m w=>intro h;obtain⟨u,x⟩:=yA h;obtain⟨y,f⟩:=yA x;exact⟨MC _ u,m y,w f⟩|for_ _ q j g w=>intro h;obtain⟨u,x⟩:=yA h;obtain⟨y,f⟩:=yA x;exact⟨yZ u,MC _ y,w f⟩|_=>intro _;trivial
noncomputable def DK(N h:List Str)(sc:Scope):Bool:=sc.kind==.function&&!sc.isCoroutine&&!sc.isGenerator&&nI N&&N.take h.length==h &&
 h.all (λx=>sc.names.lookup x==some .local||sc.names.lookup x==some .cell)&&sc.names.all λy=>y.2 != .free
theorem yQ{N x:List Str}{sc:Scope}(h:DK N x sc=true):FnScope N x sc:=by simp only[DK,Qg,qB,wV,beq_iff_eq,Q7,bne_iff_ne,ne_eq]at h;obtain⟨⟨⟨⟨⟨⟨b,a⟩,k⟩,w⟩,v⟩,u⟩,y⟩:=h;exact⟨b,a,k,iE w,v,u,y⟩
def YC(n:Need)(b:PT)(N h:List Str)(st:Stmt):Bool:=DK N h (yB st)&&UL b ⟨N,yB st⟩ (FC st)&&bE n b
def u9:Md->T->Sl
 | .chg,t=>.own t|_,t=>.nv t
def xE:List Md->List T->zA
 |_,[]=>[]|md,t::ts=>some (u9 (md.headD .ny) t)::xE md.tail ts
def nA(N:List Str)(md:List Md)(ts:List T):zA:=xE md ts++Qx (N.length - ts.length) none
def FB:Nat->List Md->Nat->List Nat
 |_,_,0=>[]|k,md,n+1=>match md.headD .ny with
  | .chg=>k::FB (k+1) md.tail n|_=>FB (k+1) md.tail n
def TX:Option (List T)->(List T->Prop)->Prop
 |some os,Q=>Q os|none,_=>False
def NA(P:PSp)(n:Nat)(Q:T->List T->Prop):PEnds where
 nx:=λh=>TX (IA (FB 0 P.md n) h) (Q (.d .none))
 rt:=λt h=>TX (IA (FB 0 P.md n) h) (Q t)
def OQ(h:Str->Option Value)(x:Str):V:=((h x).bind sJ).getD .non
def mf(K:QC)(h:Str->Option Value)(Ψ:PEv):Ev:=⟨λf=>lift K (Ψ.sp f),OQ h⟩
structure ValsOk(P:Program)(w:World)(K:QC)(mg:Str->Option Value)(Ψ:PEv)(va:List Str):Prop where
 rep:∀x d,Ψ.va x=some d->∀F,Rep K F (OQ mg x) d
 has:∀x∈va,∃u v,mg x=some u/\sJ u=some v
theorem cT{u:Value}{v:V}(h:sJ u=some v):rA v u:=by cases u<;>first | (obtain rfl:=qD h;first|rfl|exact⟨_,rfl⟩)|exact nomatch (show(none:Option V)=some v from h)
end
section
variable{P:Program}{w:World}{K:QC}{mg:Str->Option Value}{base:Heap}{Ψ:PEv}
section
variable{k:Nat}{F H:Hp}{Y M:fB}{md:List Md}{vs:List V}{ts:List T}{N l:List Str}{R:PSp}{x o:Str}{st:Stmt}{f:Addr}{p:FuncData}{n:Need}
def lH(P:Program)(w:World)(K:QC)(mg:Str->Option Value)(base:Heap)(Ψ:PEv)(k:Nat)(f:Str):Prop :=
 ∃(a:Addr) (p:FuncData) (l:List Str),FnOk P w K mg base tW k a p l (lift K (Ψ.sp f))/\mg f=some (.ref a)/\WG K (.ref a)=true/\vI K p l []
theorem lH.mono{j:Nat}{f:Str}(h:lH P w K mg base Ψ j f)(hk:j<=k):lH P w K mg base Ψ k f:=by obtain⟨a,p,l,z,y⟩:=h;exact⟨a,p,l,z.mono hk,y⟩
theorem ArgsR.length(h:ArgsR K F H Y md vs ts):vs.length=ts.length:=by
 induction h with|nil=>rfl|chg _ _ e=>exact congrArg Nat.succ e|rd _ _ _ _ e=>exact congrArg Nat.succ e
theorem YH:∀(m:List Md) (ts:List T),(xE m ts).length=ts.length
 |_,[]=>rfl|m,d::ds=>by unfold xE;rw[QM,QM,YH]
theorem RX{m:Md}(h:m≠.chg)(t:T):u9 m t=.nv t:=by cases m<;>first|rfl|exact absurd rfl h
theorem kH(md:List Md)(v:V)(vs:List V):pB md (v::vs)=match md.headD .ny with | .chg=>v::pB md.tail vs|_=>pB md.tail vs:=by first | (rw[pB];done) | (rw[pB];cases md.headD .ny<;>rfl)
theorem aK(md:List Md)(v:T)(vs:List T):CB md (v::vs)=match md.headD .ny with | .chg=>v::CB md.tail vs|_=>CB md.tail vs:=by first | (rw[CB];done) | (rw[CB];cases md.headD .ny<;>rfl)
theorem EL(md:List Md)(t:T)(ts:List T):xE md (t::ts)=some (u9 (md.headD .ny) t)::xE md.tail ts:=by rw[xE]
theorem e6(h:ArgsR K F H Y md vs ts)(r:Trs K F H true (pB md vs) (CB md ts) M) :
  ∃Z:Ft,(∀(i:Nat) s,(xE md ts)[i]?=some (some s)->∃v,vs[i]?=some v/\Tr K F H s.st v s.t (Z i))/\(∀(i:Nat) t,(xE md ts)[i]?=some (some (.own t))->∀b,Z i b->M b)/\(∀(i:Nat) t,(xE md ts)[i]?=some (some (.nv t))->∀b,Z i b->Y b) /\
   ∀(i j:Nat) t u,i≠j->(xE md ts)[i]?=some (some (.own t))->(xE md ts)[j]?=some (some (.own u))->∀b,Z i b->¬ Z j b:=by
 induction h generalizing M with
 |nil=>exact⟨λ_ _=>False,λi s e=>by simp[xE]at e,λi t e=>by simp[xE]at e,λi t e=>by simp[xE]at e,λi j t u _ e=>by simp[xE]at e⟩|@chg md v vs t ts a O A =>
  have J:pB md (v::vs)=v::pB md.tail vs:=by rw[kH,a]
  have I:CB md (t::ts)=t::CB md.tail ts:=by rw[aK,a]
  rw[J,I]at r;cases r with
  |@cons _ _ _ _ _ _ L Z2 W Q n q =>
   obtain⟨Z,E,g,C,B⟩:=A Q;have G:xE md (t::ts)=some (.own t)::xE md.tail ts:=by rw[EL,a];rfl
   rw[G];refine⟨λi=>match i with|0=>L|i+1=>Z i,λi s e=>?_,λi u e b hb=>?_,λi u e b hb=>?_,λi j u w X e m b hb y=>?_⟩;cases i with|zero=>simp at e;subst e;exact⟨v,rfl,W⟩|succ i=>exact E i s (by simpa using e)
   cases i with|zero=>exact(q b).mpr (.inl hb)|succ i=>exact(q b).mpr (.inr (g i u (by simpa using e) b hb))
   cases i with|zero=>simp at e|succ i=>exact C i u (by simpa using e) b hb
   cases i with
   |zero =>
    cases j with|zero=>exact X rfl|succ j=>exact n b hb (g j w (by simpa using m) b y)
   |succ i =>
    cases j with|zero=>exact n b y (g i u (by simpa using e) b hb)|succ j=>exact B i j u w (λz=>X (by rw[z])) (by simpa using e) (by simpa using m) b hb y
 |@rd md v vs t ts L a W S O A =>
  have J:pB md (v::vs)=pB md.tail vs:=by rw[kH];cases e:md.headD .ny<;>first|exact absurd e a|rfl
  have I:CB md (t::ts)=CB md.tail ts:=by rw[aK];cases e:md.headD .ny<;>first|exact absurd e a|rfl
  rw[J,I]at r;obtain⟨Z,E,g,C,B⟩:=A r;have G:xE md (t::ts)=some (.nv t)::xE md.tail ts:=by rw[EL,RX a]
  rw[G];refine⟨λi=>match i with|0=>L|i+1=>Z i,λi s e=>?_,λi u e b hb=>?_,λi u e b hb=>?_,λi j u w X e m b hb y=>?_⟩;cases i with|zero=>simp at e;subst e;exact⟨v,rfl,W⟩|succ i=>exact E i s (by simpa using e)
  cases i with|zero=>simp at e|succ i=>exact g i u (by simpa using e) b hb
  cases i with|zero=>exact S b hb|succ i=>exact C i u (by simpa using e) b hb
  cases i with
  |zero=>simp at e|succ i =>
   cases j with|zero=>simp at m|succ j=>exact B i j u w (λz=>X (by rw[z])) (by simpa using e) (by simpa using m) b hb y
theorem NW(f:Same F H)(h:ArgsR K F H Y md vs ts)(r:Trs K F H true (pB md vs) (CB md ts) M)(C:∀b,Y b->¬ M b) :
  ∃S,Rl K F H S (nA N md ts) (MD N vs)/\∀b,U (nA N md ts) S b->M b:=by
 obtain⟨Z,A,a,W,X⟩:=e6 h r;have hl:=h.length;have get:∀(i:Nat) s,(nA N md ts)[i]?=some (some s)->(xE md ts)[i]?=some (some s):=λi s e=>by
  unfold nA at e;rcases QA7 i ts.length with z|z
  ·rwa [Qu (by rw[YH];exact z)]at e
  rw[Q0 (by rw[YH];exact z),w9]at e;split at e<;>cases e
 refine⟨Z,⟨f,?_,λi s e=>?_,λi j t s n q m b hb y=>?_⟩,λb ⟨i,t,e,hb⟩=>a i t (get i _ e) b hb⟩;unfold nA MD;rw[QL,QL,YH,QF,qg,qg,hl];obtain⟨v,g,B⟩:=A i s (get i s e);refine⟨v,?_,B⟩;unfold MD;rw[Qu (by rw[QF];exact(Qe.mp g).1),Qc,g];rfl;cases s with|own u=>exact X i j t u n (get i _ q) (get j _ m) b hb y|nv u=>exact C b (W j u (get j _ m) b y) (a i t (get i _ q) b hb)
theorem pM:∀{md:List Md}{k n:Nat}{vs:List V}{σ:St},vs.length=n->(∀(i:Nat) v,vs[i]?=some v->σ[k+i]?=some (some v))->(pB md vs).map (λv=>some (some v))=(FB k md n).map λj=>σ[j]?
 |md,k,0,vs,σ,h,g=>by
  cases vs with|nil=>rfl|cons _ _=>cases h
 |md,k,n+1,vs,σ,h,g=>by
  cases vs with
  |nil=>cases h|cons v vs =>
   have y:=pM (md:=md.tail) (k:=k+1) (n:=n) (vs:=vs) (σ:=σ) (by simpa using h) λi w z=>by have:=g (i+1) w (by simpa using z);rw[show k+1+i=k+(i+1) by omega];exact this
   have u:=g 0 v rfl;rw[kH];unfold FB;cases e:md.headD .ny with|chg=>simp only[QO,y];rw[show σ[k]?=some (some v) from u]|_=>exact y
theorem OK:∀{md:List Md}{k n j:Nat},j∈FB k md n->k<=j
 |md,k,0,j,h=>by simp[FB]at h|md,k,n+1,j,h=>by
  unfold FB at h;cases e:md.headD .ny with
  |chg=>rw[e]at h;rcases QK.mp h with z|z;omega;have:=OK z;omega
  |_=>rw[e]at h;have:=OK h;omega
theorem mQ:∀(md:List Md) (k n:Nat),(FB k md n).Nodup
 |md,k,0=>Qy|md,k,n+1=>by
  have h:=mQ md.tail (k+1) n;unfold FB;cases e:md.headD .ny with|chg=>exact Qi.mpr ⟨λz=>by have:=OK z;omega,h⟩|_=>exact h
theorem fZ{b:PT}(F:Fun K x o st f p)(DB:YC n b N l st=true)(hc:zH (FB 0 R.md l.length) b=true)
  (fns:∀g∈n.fn,lH P w K mg base Ψ k g) (G:ValsOk P w K mg Ψ n.va) (nos:∀y∈n.no,mg y=none)
  (body:∀ts Q E,R.run ts Q E->ts.length=l.length/\xA Ψ (λ_=>False) b (NA R l.length Q) (nA N R.md ts)):FnOk P w K mg base tW (k+1) f p l (lift K R):=by
 obtain⟨c12,c3⟩:=yA DB;obtain⟨c1,c2⟩:=yA c12;have S:=yQ c1;refine F.ok S (λvs H Q E h=>?_) (λcdv A L s H vs Q E hr h=>?_);obtain⟨F',ts,M,Y,h1,h2,h3,h4,h5⟩:=h;rw[h2.length];exact(body ts _ _ h5).1;obtain⟨F',ts,M,Y,h1,h2,h3,h4,h5⟩:=h;have q:=(body ts _ _ h5).2;have hlen:=(body ts _ _ h5).1;have ok:OkS ((kS tW P w K mg base N o (yB st) f cdv A L s H E).nox) ⟨N,yB st⟩ (ON (mf K mg Ψ) n) E0:={
  N:=rfl
  sc:=rfl
  calm:=rfl
  un:=by have:=hr.un;show(A.deeper _).units+66<cLine;omega
  fn:=λg hg=>by obtain⟨a,gd,gps,g1,g2,g3,g4⟩:=fns g hg;exact⟨tW,k,a,gd,gps,g1,hr,g2,g3,g4,be,λ_ _ _ _ _ z=>z⟩
  val:=λy hy=>by obtain⟨u,v,e1,e2⟩:=G.has y hy;refine⟨u,e1,?_⟩;show rA (OQ mg y) u;unfold OQ;rw[e1];show rA ((sJ u).getD .non) u;rw[e2];exact cT e2
  no:=λy hy=>nos y hy
  po:=PassesOwn.never
  nd:=S.nd
  cel:=λ_=>rfl }
 refine⟨_,(ui b ok c2 (sV b c3)).1,?_⟩;obtain⟨S0,I,hU⟩:=NW (N:=N) h1 h2 h3 h4;have g:GOk K (mf K mg Ψ) Ψ:=⟨λ_ _ _ _ _ h=>h,λy d e F=>G.rep y d e F⟩
 have hvl:vs.length=l.length:=h2.length.trans hlen;have fin:∀v t W C B J m X,Stc (FB 0 R.md l.length) F' H S0 (nA N R.md ts) (MD N vs) C B J m X->Rl K C B J m X->Tr K C B true v t W->Held C B J m W->(∀b,W b->H b=none∨U (nA N R.md ts) S0 b) ->
   TX (IA (FB 0 R.md l.length) m) (λos=>∀v F3 H3 Z M',Frm M F' H F3 H3->Tr K F3 H3 true v t Z->Trs K F3 H3 true (pB R.md vs) os M'->(∀b,Z b->¬ M' b)->(∀b,Z b∨M' b->M b∨H b=none)->Q v H3)->Q v B:=by
  intro v t W C B J m X s I2 r hw fr q;cases eo:IA (FB 0 R.md l.length) m with
  |none=>rw[eo]at q;exact q.elim|some os =>
   rw[eo]at q;have hv:(pB R.md vs).map (λv=>some (some v))=(FB 0 R.md l.length).map λj=>X[j]?:=by rw[pM (md:=R.md) (k:=0) (n:=l.length) (vs:=vs) (σ:=MD N vs) hvl λi w hw=>?_];exact Wd λj O=>(s.sg j O).symm;unfold MD;rw[QA3,Qu (by rw[QF];exact(Qe.mp hw).1),Qc,hw];rfl
   have trs:=I2.trs (mQ _ _ _) eo hv;have own:∀j∈FB 0 R.md l.length,∃t,m[j]?=some (some (.own t)):=λj O=>by obtain⟨i,hi⟩:=W5.mp O;obtain⟨t,_,e⟩:=(PD eo).2 i j hi;exact⟨t,e⟩
   have lk:∀b,U (nA N R.md ts) S0 b∨H b=none->M b∨H b=none:=λb hb=>hb.imp (hU b) id;refine q v C B W _ ⟨s.ff,I2.fh,λb u e n=>s.hh b u e λz=>n (hU b z),s.dm,λb e z=>lk b (s.fn b e z)⟩ r trs (λb hb ⟨j,O,z⟩=>?_) λb hb=>?_;obtain⟨t',e⟩:=own j O;exact hw.nw j _ e b hb z;rcases hb with hb|⟨j,O,z⟩
   ·exact lk b (fr b hb).symm
   obtain⟨t',e⟩:=own j O;exact lk b (s.uu b ⟨j,t',e,z⟩)
 refine JH g b hc I (λ_ _ _ _ _ _ _ _ _ z=>z.elim) q ⟨?_,?_,λ_ _ _ _ _ _ _ z=>z.elim,λ_ _ _ _ _ _ _ z=>z.elim⟩;intro C B J m X s I2 q;exact fin .non (.d .none) (λ_=>False) C B J m X s.c I2 (.d .non λ_ z=>z) .none (λ_ z=>z.elim) q;intro v t W C B J m X s I2 r hw fr q;exact fin v t W C B J m X s I2 r hw fr q
theorem xZ{h:PEv}{b:PT}(F:Fun K x o st f p)(a:mg x=some (.ref f))(hb:vI K p l [])(DB:YC n b N l st=true)(hc:zH (FB 0 R.md l.length) b=true)
  (v:∀g∈n.fn,lH P w K mg base Ψ k g) (z:ValsOk P w K mg Ψ n.va) (u:∀y∈n.no,mg y=none)
  (body:∀ts Q E,R.run ts Q E->ts.length=l.length/\xA Ψ (λ_=>False) b (NA R l.length Q) (nA N R.md ts)) (e:h.sp x=R):lH P w K mg base h (k+1) x :=
 ⟨f,p,l,by rw[e];exact fZ F DB hc v z u body,a,F.kp,hb⟩
end
end
def aL:PSp where
 md:=[.kq]
 run:=λy Q _=>∃x:List Int,x.length<=63/\(∀n∈x,QAS n<=1048576)/\y=[.lst ((x.map PyData.int).map T.d)]/\Q (.d (.bool true)) []
 mono:=λh _ ⟨x,v,u,z,q⟩=>⟨x,v,u,z,h _ _ q⟩
def uc:PSp:=⟨[],λ_ _ _=>False,λ_ _ h=>h⟩
theorem SL{K:QC}{F:Hp}:∀(ns:List Int),Reps K F (ns.map V.int) (ns.map PyData.int)
 |[]=>.nil|n::r=>.cons (.int n) (SL r)
theorem zK{K:QC}{F:Hp}:∀(ns:List Str),Reps K F (ns.map V.str) (ns.map PyData.str)
 |[]=>.nil|n::r=>.cons (.str n) (zK r)
theorem A9(K:QC)(H:Hp)(a:Addr)(ns:List Int)(hl:ns.length<=63)(h:∀n∈ns,QAS n<=1048576)(x:yC K H a (ns.map V.int)):lift K aL [.ref a] H (λv _=>v=.bl true) λ_ _ _=>False:=by
 refine⟨H,[.lst ((ns.map PyData.int).map T.d)],λ_=>False,λ_=>False,.refl _,.rd (Z:=λ_=>False) (by simp[aL]) (.lstF x (SL ns) λ_ z=>z) (λ_ z=>z) .nil,.nil λ_ z=>z,λ_ z=>z.elim,ns,hl,h,rfl,λv w u Z y _ r _ _ _=>?_⟩;cases r with|d r _=>cases r;rfl
theorem MQ{ns:List Int}:∀n∈ns,QAE (.int n)<=WB (ns.map QAK.int):=by
 induction ns with|nil=>intro n h;cases h|cons m ns x=>intro n h;show _<=QAE (.int m)+1+WB (ns.map QAK.int);rcases QK.mp h with rfl|h;omega;have:=x n h;omega
theorem r6{ns:List Int}(h:QAK.layableAll [.list (ns.map .int)]=true):∀n∈ns,QAS n<=1048576:=by
 intro n z;have v:=(PySem.W.layableW_iff.mp (PySem.W.layableW_arg h _ QE)).2.2;have k:WB (ns.map QAK.int)<=2 ^ 20:=v;have y:=MQ n z;have u:QAE (.int n)=if n==0 then 0 else n.natAbs.log2+1:=rfl
 rw[PySem.intBits_le_iff];by_cases x:n=0;subst x;exact Nat.pow_pos (by decide);have:(n==0)=false:=by simpa using x
 rw[u,this]at y;have w:n.natAbs.log2+1<=1048576:=by have:n.natAbs.log2+1<=WB (ns.map QAK.int):=y;omega
 exact(Nat.log2_lt (show n.natAbs≠0 by omega)).mp (by omega)
def JU(K:QC)(x:Str)(st:Stmt):Prop:=∃f h,wZ K mainGlobals x=some (some (.ref f))/\Fun K x x st f h
def kL(K:QC)(x:Str)(d:D):Prop:=∃u v,wZ K mainGlobals x=some (some u)/\sJ u=some v/\∀F,Rep K F v d
theorem VW{K:QC}{x:Str}{f:Addr}{xs:List Str}{w:Option Addr}{its:List Value}{n:Nat}{v:Array (Option Value)}(a:wZ K mainGlobals x=some (some (.ref f)))
  (l:K.lookup f=some ⟨.type "tuple",w,.seq its.toArray n,v⟩) (h:its.map sJ=xs.map λy=>some (.str y)) (hz:xs.length<=sizeLine):kL K x (.tuple (xs.map PyData.str)):=by
 refine⟨_,_,a,rfl,λF=>.tup (.inr ⟨_,its.toArray,n,l,rfl,rfl,?_,?_⟩) (zK xs)⟩;have:=congrArg qp h;simp at this;simp;omega;have z:∀(its:List Value) (xs:List Str),its.map sJ=xs.map (λy=>some (.str y))->dA (xs.map V.str) its:=by
  intro its;induction its with
  |nil =>
   intro xs h;cases xs with|nil=>exact .nil|cons _ _=>simp at h
  |cons u its k =>
   intro xs h;cases xs with|nil=>simp at h|cons y xs=>simp only[QO,QAQ]at h;exact .cons (cT h.1) (k xs h.2)
 simpa using z its xs h
section
variable{P:Program}{w:World}{K:QC}{mg:Str->Option Value}{base h:Heap}{Ψ:PEv}
section
variable{x:Str}{st:Stmt}{z:List Str}{k:Nat}
theorem kL.inMg(X:K.In h)(G:h.Ns mainGlobals mg){d:D}(v:kL K x d):(∀F,Rep K F (OQ mg x) d)/\∃u v,mg x=some u/\sJ u=some v:=by
 obtain⟨u,v,b,y,a⟩:=v;have e:=QBj X G b;refine⟨λF=>?_,u,v,e,y⟩;have:OQ mg x=v:=by unfold OQ;rw[e];show(sJ u).getD .non=v;rw[y];rfl
 rw[this];exact a F
theorem uZ{R:PSp}{u:PEv}{N:List Str}{b:PT}{n:Need}(X:K.In h)(G:h.Ns mainGlobals mg)(D:JU K x st)(DB:YC n b N z st=true)(hc:zH (FB 0 R.md z.length) b=true)
  (hb:∀(kV j m:Value) (q:Option Addr) (l ct:Value) (us:List Value),us.length=z.length->bindArgs (wX x x (TD st) (FC st) (yB st) .none kV j m q l ct) ⟨us,[]⟩=pure (z.zip us))
  (i:∀g∈n.fn,lH P w K mg base Ψ k g) (v:ValsOk P w K mg Ψ n.va) (e:∀y∈n.no,wZ K mainGlobals y=some none)
  (body:∀ts Q E,R.run ts Q E->ts.length=z.length/\xA Ψ (λ_=>False) b (NA R z.length Q) (nA N R.md ts)) (p:u.sp x=R):lH P w K mg base u (k+1) x:=by
 obtain⟨f,r,a,F⟩:=D;exact xZ F (QBj X G a) (F.binds hb) DB hc i v (λy o=>QBk X G (e y o)) body p
theorem E9{j:Addr}(X:K.In h)(G:h.Ns mainGlobals mg)(D:JU K "law" st)(q:z=[x])(g:mg "law"=some (.ref j))(p:Ψ.sp "law"=aL)
  (hb:∀(kV v i:Value) (l:Option Addr) (b ct:Value) (us:List Value),us.length=z.length->bindArgs (wX "law" "law" (TD st) (FC st) (yB st) .none kV v i l b ct) ⟨us,[]⟩=pure (z.zip us))
  (H:∀base:Heap,K.In base->base.Ns mainGlobals mg->∀f y,Fun K "law" "law" st f y->mg "law"=some (.ref f)->FnOk P w K mg base tW k f y z (lift K (Ψ.sp "law"))) :
  ∃y:FuncData,(∀(s:Shared) (u:Value),BindsTo s y ⟨[u],[]⟩ [(x,u)])/\∀base:Heap,K.In base->base.Ns mainGlobals mg->FnOk P w K mg base tW k j y [x] (lift K aL):=by
 obtain⟨f,y,a,F⟩:=D;have e:=g.symm.trans (QBj X G a);cases e;subst q;refine⟨y,λs u=>?_,λbase o n=>?_⟩;obtain⟨Z,Y,kV,v,i,l,b,ct,m,rfl,lk,r⟩:=F.ex;exact .of_eq (hb kV v i l b ct [u] rfl);rw[<- p];exact H base o n j y F g
end
end
theorem YB{α:Type}{body:T->(Option T->Prop)->Prop}(g f:α->T):∀(l:List α) (h:List T) (Q:List T->Prop),(∀x∈l,∀R:Option T->Prop,R (some (f x))->body (g x) R)->h.length+l.length<=sizeLine->Q (h++l.map f)->CD body (l.map g) h Q
 |[],h,Q,_,hl,q=>by simp only[wI,CD];exact⟨by simpa using hl,by simpa using q⟩|x::r,h,Q,hb,hl,q=>by simp only[QO,CD];refine hb x QE _ ?_;simp only[QM]at hl;refine⟨by omega,YB g f r _ Q (λy z=>hb y (QG _ z)) (by simp;omega) (by simpa using q)⟩
theorem dB{α:Type}{body:T->(Option T->Prop)->Prop}(g f:α->T)(p:α->Bool):∀(l:List α) (h:List T) (Q:List T->Prop),(∀x∈l,∀R:Option T->Prop,R (if p x=true then some (f x) else none)->body (g x) R)->h.length+l.length<=sizeLine->Q (h++(l.filter p).map f)->CD body (l.map g) h Q
 |[],h,Q,_,hl,q=>by simp only[wI,CD];exact⟨by simpa using hl,by simpa using q⟩|x::r,h,Q,hb,hl,q=>by
  simp only[QO,CD];refine hb x QE _ ?_;simp only[QM]at hl;cases u:p x with|true=>refine⟨by omega,dB g f p r _ Q (λy z=>hb y (QG _ z)) (by simp;omega) ?_⟩;rw[Wb,if_pos u]at q;simpa using q|false=>refine dB g f p r _ Q (λy z=>hb y (QG _ z)) (by omega) ?_;rw[Wb,if_neg (by rw[u];simp)]at q;exact q
theorem cO{α:Type}{xs:List α}{i:Int}(y:0<=i)(x:i<xs.length):∃v,LD xs i=some v/\xs[i.toNat]?=some v:=by
 have h:i.toNat<xs.length:=by omega
 have e:((i.toNat:Nat):Int)=i:=by omega
 have q:=bD (Qo h);rw[e]at q;exact⟨xs[i.toNat],q,Qo h⟩
theorem dO{α h:Type}(f:α->h)(xs:List α)(i:Int):LD (xs.map f) i=(LD xs i).map f:=by
 unfold LD;rw[QF];cases HP xs.length i with|none=>rfl|some j=>exact Qc
theorem VB{Ψ:PEv}{E:XE}{α:Type}{body:PT}{u:Tg}{Z:PEnds}(g:α->T)(W:List α->zA->Prop)(k:∀ρ,W [] ρ->Z.nx ρ)
  (v:∀x xs ρ (N:zA->Prop),(∀y,W xs y->N y)->W (x::xs) ρ->SH u (g x) ρ λz=>xA Ψ E body { Z with nx:=N,ct:=N,bk:=Z.nx } z):∀(xs:List α) (ρ:zA),W xs ρ->JG (xA Ψ E body) u Z (xs.map g) ρ
 |[],ρ,w=>k ρ w|x::xs,ρ,w=>v x xs ρ (λh=>JG (xA Ψ E body) u Z (xs.map g) h) (λh a=>VB g W k v xs h a) w
def B6(y:List (Str×PSp))(h:List (Str×D)):PEv:=⟨λf=>(y.lookup f).getD uc,λx=>h.lookup x⟩
theorem DS{P:Program}{w:World}{K:QC}{u:Str->Option Value}{h:Heap}{k:List (Str×PSp)}{tbl:List (Str×D)}{z:List Str}(X:K.In h)(G:h.Ns mainGlobals u)(v:∀p∈tbl,kL K p.1 p.2)
  (y:(z.all λx=>(tbl.map qQ).contains x)=true):ValsOk P w K u (B6 k tbl) z:=by
 refine⟨λx d e F=>((v (x,d) (qT e)).inMg X G).1 F,λx a=>?_⟩;have:=qB.mp y x a;obtain⟨p,b,e⟩:=QY.mp (Qm.mp this);rw[<- e];exact((v p b).inMg X G).2
theorem NM{α:Type}[BEq α][LawfulBEq α]{l m:List α}(h:(l.all λx=>m.contains x)=true):∀x∈l,x∈m:=λx y=>Qm.mp (qB.mp h x y)
section
variable{a b c:PX}{i:Nat}{n:Int}{x:Str}{m:Mt}{f:Str}{g:Bi}{u:Operator}{w:CmpOp}{is:List Bool}{h:List Str}{z:Tg}{v:ItK}{y:String}
theorem Y1:tG (.var i)=[i]:=rfl
theorem VU:tG (.nq a b)=tG a++tG b:=rfl
theorem ZW:tG .nr=[]:=rfl
end
def mC{α:Type}(o:Option α)(K:α->Prop):Prop:=∃a,o=some a/\K a
theorem mC.mk{α:Type}{o:Option α}{a:α}{K:α->Prop}(e:o=some a)(k:K a):mC o K:=⟨a,e,k⟩
theorem bC{α:Type}{a:α}{K:α->Prop}:mC (some a) K=K a:=propext ⟨λ⟨_,e,k⟩=>by cases e;exact k,λk=>⟨a,rfl,k⟩⟩
theorem lN{α:Type}{o:Option α}{a:α}{K:α->Prop}(h:o=some a):mC o K=K a:=by rw[h];exact bC
theorem UF{α h:Type}{o:Option α}{f:α->h}{K:h->Prop}:mC (o.map f) K=mC o λa=>K (f a):=by
 cases o with|none=>exact propext ⟨λ⟨_,e,_⟩=>(by cases e),λ⟨_,e,_⟩=>(by cases e)⟩|some a=>rw[qC,bC,bC]
def lB(Ψ:PEv)(e:PX)(E:XE)(ρ:zA)(K:TK):Prop:=(pe Ψ e E).e ρ K
def fL(Ψ:PEv)(e:PX)(E:XE)(ρ:zA)(K:Bool->zA->Prop):Prop:=(pe Ψ e E).t ρ K
def cJ(Ψ:PEv)(e:PX)(E:XE)(md:List Md)(ρ:zA)(K:List (T×Bool)->zA->Prop):Prop:=(pe Ψ e E).a md ρ K
def xD(p:PSp)(ts:List T)(K:T->List T->Prop)(E:XE):Prop:=p.run ts K E
def T1(x:T)(n:Bool)(Ψ:PEv)(b:PX)(E:XE)(ρ:zA)(K:TK):Prop:=sq (uA x n) ρ (cu (pe Ψ b E).e) λy h=>K y.1 y.2 h
def G0(x:T)(n:Bool)(Ψ:PEv)(b:PX)(E:XE)(md:List Md)(ρ:zA)(K:List (T×Bool)->zA->Prop):Prop:=sq (if n=true then .d .none else x) ρ ((pe Ψ b E).a md) K
def Jm(x:T)(n:Bool)(Ψ:PEv)(b:PX)(E:XE)(ρ:zA)(K:List (T×Bool)->zA->Prop):Prop:=sq (uA x n) ρ ((pe Ψ b E).a []) K
def eI(i:Nat)(σ ρ:zA)(K:TK):Prop:=Jh σ[i]? λt=>K t false ρ
def mX(i:Nat)(σ:zA)(ρ:zA)(j:Nat)(R:T->zA->Prop):Prop:=Ui ρ j R σ[i]?
def TJ(Ψ:PEv)(E:XE)(r:PT)(Z:PEnds)(i:Nat)(x:T)(n:Bool)(ρ:zA):Prop:=bH x n=true/\xA Ψ E r Z (ρ.set i (some (.nv (.d x.er))))
def ce(Ψ:PEv)(E:XE)(r:PT)(Z:PEnds)(i:Nat)(x:T)(n:Bool)(ρ:zA):Prop:=bH x n=true/\xA Ψ E r Z (ρ.set i (some (.own x)))
def JC(x:T)(n:Bool)(P:Prop):Prop:=bH x n=true/\P
def rF(h:Operator)(x:T)(n:Bool)(y:T)(m:Bool)(Q:T->Bool->Prop):Prop:=binT h (uA x n).vw (uA y m).vw Q
def TB(h:CmpOp)(x y:T)(Q:Bool->Prop):Prop:=v6 h x.er y Q
def C1(x:T)(Q:Bool->Prop):Prop:=pH x.er Q
def NV(c:PX)(x:T)(Q:Bool->Prop):Prop:=Ja c x.er Q
def JO(f:Bi)(xs:List (T×Bool))(Q:T->Bool->Prop):Prop:=oW f (vC xs) Q
def MB(x:T)(n:Bool)(y:T)(m:Bool)(Q:T->Prop):Prop:=lJ (uA x n).vw (uA y m).vw Q∨KL (uA x n).vw y.er Q
def Uc(Ψ:PEv)(E:XE)(c:PX)(q:PT)(Z:PEnds)(ρ:zA):Prop:=xA Ψ E (.whl c q) Z ρ
def ud(t y x:T)(Q:T->Prop):Prop:=td t y.er x.er Q
def yd(z t:T)(Q:T->(T->T)->Prop):Prop:=zd z.er t Q
def Ud(y t:T)(Q:T->Prop):Prop:=i8 y.er t Q
def GO(x:T)(n:Bool)(l u:Option Int)(Q:T->Bool->Prop):Prop:=xJ (uA x n).vw l u Q
def sI(xs:List (T×Bool))(C:List T->Prop):Prop:=kF xs=true/\C (iF xs)
def lL(h:ItK)(xs:List (T×Bool))(R:List T->Prop):Prop:=jC h (vC xs) R
def Ii(m:Mt)(x:T)(n:Bool)(xs:List (T×Bool))(Q:T->Bool->Prop):Prop:=bc m (uA x n).vw (vC xs) Q
def ZB(md:List Md)(xs:List (T×Bool))(C:List T->Prop):Prop:=mC (BA md xs []) C
def VG(Ψ:PEv)(E:XE)(x:List Bool)(y:List Str)(u:Tg)(h z:PX)(ρ:zA):T->(Option T->Prop)->Prop:=SF u (ZL y.length x (lockA ρ)) (if isNop h=true then λρ R=>R true ρ else(pe Ψ h E).t) (pe Ψ z E).e
def NZ(h:Tg)(x:T)(ρ:zA)(K:zA->Prop):Prop:=SH h x ρ K
section
variable{Ψ:PEv}{E:XE}{ρ:zA}{K:TK}{L:Bool->zA->Prop}{M:List (T×Bool)->zA->Prop}{a b c X its Z U:PX}{Y:T->zA->Prop}
section
variable{i j:Nat}{x:T}{v:CmpOp}{f t:Str}{p:PSp}{md:List Md}{n:Bool}{w m:List Bool}{g:List Str}{o:Tg}{q:ItK}{R:Option T->Prop}{s:Option Sl}{σ:zA}{ts:List T}
theorem Ag:lB Ψ (.var i) E ρ K=eI i ρ ρ K:=rfl
theorem og:fL Ψ (.var i) E ρ L=eI i ρ ρ λt _ ρ=>C1 t λb=>L b ρ:=rfl
theorem uh{i:Int}:lB Ψ (.int i) E ρ K=K (.d (.int i)) false ρ:=rfl
theorem Ig{x:Str}:lB Ψ (.str x) E ρ K=K (.d (.str x)) false ρ:=rfl
theorem bm{x:Bool}:lB Ψ (.bl x) E ρ K=K (.d (.bool x)) false ρ:=rfl
theorem zh:lB Ψ .non E ρ K=K (.d .none) false ρ:=rfl
theorem BG{x:Str}{d:D}(h:Ψ.va x=some d):lB Ψ (.glo x) E ρ K=K (.d d) false ρ:=by show(match Ψ.va x with|some d=>K (.d d) false ρ|none=>False)=_;rw[h]
theorem lh{v:Operator}:lB Ψ (.bin v a b) E ρ K=lB Ψ a E ρ λx n u=>T1 x n Ψ b E u λy m h=>rF v x n y m λz k=>K z k h:=rfl
theorem rg:fL Ψ (.cmp v a b) E ρ L=lB Ψ a E ρ λx n z=>T1 x n Ψ b E z λy m h=>TB v x (uA y m) λk=>L k h:=rfl
theorem gh:lB Ψ (.cmp v a b) E ρ K=fL Ψ (.cmp v a b) E ρ λk h=>K (.d (.bool k)) false h:=rfl
theorem eg:fL Ψ (.and a b) E ρ L=fL Ψ a E ρ λc h=>if c=true then fL Ψ b E h L else L false h:=rfl
theorem pO:fL Ψ (.or a b) E ρ L=fL Ψ a E ρ λc h=>if c=true then L true h else fL Ψ b E h L:=rfl
theorem vL:fL Ψ (.not a) E ρ L=fL Ψ a E ρ λc h=>L (!c) h:=rfl
theorem aA(h:Ψ.sp f=p)(F:p.md=md)(C:(md.all λm=>!m.isMut)=true):lB Ψ (.call f X) E ρ K=cJ Ψ X E md ρ λxs y=>ZB md xs λts=>xD p ts (λr u=>u=[]/\K r true y) E:=by
 have A:∀(md:List Md) (X:PX),(md.all λm=>!m.isMut)=true->fA md X=[]:=by
  intro md;induction md with
  |nil=>intro X _;cases X<;>rfl|cons m md B =>
   intro X h;rw[qr,Qg]at h;cases m with
   |chg=>cases h.1|_=>cases X with|nq a X=>exact B X h.2|_=>rfl
 show(∃u,IA (fA (Ψ.sp f).md X) ρ=some u/\(fA (Ψ.sp f).md X).Nodup/\(pe Ψ X E).a (Ψ.sp f).md (clear (fA (Ψ.sp f).md X) ρ) λxs y=>∃ts,BA (Ψ.sp f).md xs u=some ts/\(Ψ.sp f).run ts (λr l=>∃z,xC (fA (Ψ.sp f).md X) l y=some z/\K r true z) E)=_;rw[h,F,A md X C];have W:∀(r:T) (u:List T) (y:zA),(∃z,xC [] u y=some z/\K r true z)=(u=[]/\K r true y):=by
  intro r u y;cases u with|nil=>exact propext ⟨λ⟨_,e,k⟩=>by cases e;exact⟨rfl,k⟩,λk=>⟨_,rfl,k.2⟩⟩|cons _ _=>exact propext ⟨λ⟨_,e,k⟩=>(by cases e),λk=>(by cases k.1)⟩
 have:=λ(y:zA)=>funext λr=>funext λu=>W r u y;simp only[this];exact propext ⟨λ⟨_,e,_,k⟩=>by cases e;exact k,λk=>⟨_,rfl,Qy,k⟩⟩
theorem Lb:fL Ψ (.call f X) E ρ L=lB Ψ (.call f X) E ρ λt _ h=>C1 t λb=>L b h:=rfl
theorem YM:fL Ψ (.isi a c) E ρ L=lB Ψ a E ρ λx _ h=>NV c x λb=>L b h:=rfl
theorem xh:lB Ψ (.isi a c) E ρ K=fL Ψ (.isi a c) E ρ λk h=>K (.d (.bool k)) false h:=rfl
theorem cm{f:Bi}:lB Ψ (.bi f X) E ρ K=cJ Ψ X E [] ρ λxs h=>JO f xs λz k=>K z k h:=rfl
theorem N9{m:Mt}{z:Str}(h:isMut m=false):KR m (uA (.d (.str z)) n).vw=true:=by cases n<;>cases m<;>first|rfl|cases h
theorem jc:lB Ψ (.mt .join a X) E ρ K=lB Ψ a E ρ λx n y=>KR .join (uA x n).vw=true/\Jm x n Ψ X E y λxs h=>Ii .join x n xs λz k=>K z k h:=rfl
theorem yh:lB Ψ (.mt .pop (.var j) X) E ρ K=HC ρ[j]? λt=>EI .pop t=true/\cJ Ψ X E [] (ρ.set j (some (.nv t))) λxs h=>kF xs=true/\h[j]?=some (some (.nv t))/\eK .pop t (iF xs) λr s'=>K r true (h.set j (some (.own s'))):=rfl
theorem yc{x:Bool}:lB Ψ (.dnew x) E ρ K=K (.dct x [] []) true ρ:=rfl
theorem dh:lB Ψ (.dsp a b) E ρ K=lB Ψ a E ρ λy m z=>JC y m (lB Ψ b E z λx n h=>JC x n (pF true y.er/\K (.dct true [y.er] [x]) true h)):=rfl
theorem sG(h:Ψ.sp f=p)(O:p.md=.chg::md)(N:(md.all λm=>!m.isMut)=true):lB Ψ (.call f (.nq (.var j) X)) E ρ K=HC ρ[j]? λt=>cJ Ψ X E md (ρ.set j none) λxs y=>ZB md xs λts=>xD p (t::ts) (λr u=>∃t',u=[t']/\K r true (y.set j (some (.own t')))) E:=by
 have I:∀(md:List Md) (X:PX),(md.all λm=>!m.isMut)=true->fA md X=[]:=by
  intro md;induction md with
  |nil=>intro X _;cases X<;>rfl|cons m md J =>
   intro X h;rw[qr,Qg]at h;cases m with
   |chg=>cases h.1|_=>cases X with|nq a X=>exact J X h.2|_=>rfl
 show(∃u,IA (fA (Ψ.sp f).md (.nq (.var j) X)) ρ=some u/\(fA (Ψ.sp f).md (.nq (.var j) X)).Nodup/\(pe Ψ (.nq (.var j) X) E).a (Ψ.sp f).md (clear (fA (Ψ.sp f).md (.nq (.var j) X)) ρ) λxs y=>∃ts,BA (Ψ.sp f).md xs u=some ts/\(Ψ.sp f).run ts (λr l=>∃W,xC (fA (Ψ.sp f).md (.nq (.var j) X)) l y=some W/\K r true W) E)=_;rw[h,O];have P:fA (.chg::md) (.nq (.var j) X)=[j]:=by show j::fA md X=[j];rw[I md X N]
 rw[P];have A:∀(r:T) (u:List T) (y:zA),(∃W,xC [j] u y=some W/\K r true W)=(∃t',u=[t']/\K r true (y.set j (some (.own t')))):=by
  intro r u y
  match u with
  |[]=>exact propext ⟨λ⟨_,e,k⟩=>(by cases e),λ⟨_,e,k⟩=>(by cases e)⟩|[t]=>exact propext ⟨λ⟨_,e,k⟩=>by cases e;exact⟨t,rfl,k⟩,λ⟨_,e,k⟩=>by cases e;exact⟨_,rfl,k⟩⟩|_::_::_=>exact propext ⟨λ⟨_,e,k⟩=>(by cases e),λ⟨_,e,k⟩=>(by cases e)⟩
 have B:=λ(y:zA)=>funext λr=>funext λu=>A r u y;simp only[B];have C:∀(t:T) (xs:List (T×Bool)) (G:List T->Prop),(∃ts,BA (.chg::md) ((.d .none,true)::xs) [t]=some ts/\G ts)=ZB md xs λts=>G (t::ts):=by
  intro t xs G;show(∃ts,(BA md xs []).map (t::·)=some ts/\G ts)=mC (BA md xs []) λts=>G (t::ts);cases BA md xs []with|none=>exact propext ⟨λ⟨_,e,_⟩=>(by cases e),λ⟨_,e,_⟩=>(by cases e)⟩|some ts=>exact propext ⟨λ⟨_,e,k⟩=>by cases e;exact⟨_,rfl,k⟩,λ⟨_,e,k⟩=>by cases e;exact⟨_,rfl,k⟩⟩
 have F:∀t,ρ[j]?=some (some (.own t))->IA [j] ρ=some [t]:=λt e=>by unfold IA;rw[e];rfl
 have Q:∀(u:List T),((pe Ψ (.nq (.var j) X) E).a (.chg::md) (clear [j] ρ) λxs y=>∃ts,BA (.chg::md) xs u=some ts/\p.run ts (λr l=>∃t',l=[t']/\K r true (y.set j (some (.own t')))) E)=(cJ Ψ X E md (ρ.set j none) λxs y=>∃ts,BA (.chg::md) ((.d .none,true)::xs) u=some ts/\p.run ts (λr l=>∃t',l=[t']/\K r true (y.set j (some (.own t')))) E):=λu=>propext ⟨λh=>h.2,λh=>⟨rfl,h⟩⟩;simp only[Q]
 match e:ρ[j]? with
 |some (some (.own t))=>show _=(cJ Ψ X E md (ρ.set j none) λxs y=>ZB md xs λts=>xD p (t::ts) (λr u=>∃t',u=[t']/\K r true (y.set j (some (.own t')))) E);rw[F t e];have:=λxs (y:zA)=>C t xs λts=>p.run ts (λr l=>∃t',l=[t']/\K r true (y.set j (some (.own t')))) E;refine propext ⟨λ⟨_,e,_,k⟩=>?_,λk=>⟨_,rfl,by simp,?_⟩⟩;cases e;simp only[this]at k;exact k;simp only[this];exact k|some (some (.nv t))=>exact propext ⟨λ⟨_,z,_⟩=>(by unfold IA at z;rw[e]at z;cases z),λk=>k.elim⟩|some none=>exact propext ⟨λ⟨_,z,_⟩=>(by unfold IA at z;rw[e]at z;cases z),λk=>k.elim⟩|none=>exact propext ⟨λ⟨_,z,_⟩=>(by unfold IA at z;rw[e]at z;cases z),λk=>k.elim⟩
theorem K0:lB Ψ (.mt .append (.var j) X) E ρ K=HC ρ[j]? λt=>EI .append t=true/\cJ Ψ X E [] (ρ.set j (some (.nv t))) λxs h=>kF xs=true/\h[j]?=some (some (.nv t))/\eK .append t (iF xs) λr s'=>K r true (h.set j (some (.own s'))):=rfl
theorem bh:lB Ψ (.idx a b) E ρ K=lB Ψ a E ρ λx n u=>T1 x n Ψ b E u λy m h=>MB x n y m λz=>K z false h:=rfl
theorem i0{i:Int}:lB Ψ (.slc a .nop (.int i)) E ρ K=lB Ψ a E ρ λx n h=>GO x n none (some i) λz k=>K z k h:=by
 show(pe Ψ a E).e ρ (λx n h=>sq (uA x n) h (λρ (R:Option Int->zA->Prop)=>R none ρ) λl r=>sq (uA x n) r (λρ (R:Option Int->zA->Prop)=>R (some i) ρ) λu y=>xJ (uA x n).vw l u λz k=>K z k y)=_;have:∀x n h,(sq (uA x n) h (λρ (R:Option Int->zA->Prop)=>R none ρ) λl r=>sq (uA x n) r (λρ (R:Option Int->zA->Prop)=>R (some i) ρ) λu y=>xJ (uA x n).vw l u λz k=>K z k y)=xJ (uA x n).vw none (some i) λz k=>K z k h:=by intro x n h;unfold sq;split<;>rfl
 simp only[this];rfl
theorem kh:lB Ψ (.lst X) E ρ K=cJ Ψ X E [] ρ λxs y=>xs.length<=sizeLine/\sI xs λts=>K (.lst ts) true y:=by have:∀(xs:List (T×Bool)) y,(xs.length<=sizeLine/\sI xs λts=>K (.lst ts) true y)=(kF xs=true/\xs.length<=sizeLine/\K (.lst (iF xs)) true y):=λxs y=>propext ⟨λh=>⟨h.2.1,h.1,h.2.2⟩,λh=>⟨h.2.1,h.1,h.2.2⟩⟩;simp only[this];rfl
theorem Eg:lB Ψ (.tup X) E ρ K=cJ Ψ X E [] ρ λxs y=>xs.length<=sizeLine/\sI xs λts=>K (FF ts) true y:=by have:∀(xs:List (T×Bool)) y,(xs.length<=sizeLine/\sI xs λts=>K (FF ts) true y)=(kF xs=true/\xs.length<=sizeLine/\K (FF (iF xs)) true y):=λxs y=>propext ⟨λh=>⟨h.2.1,h.1,h.2.2⟩,λh=>⟨h.2.1,h.1,h.2.2⟩⟩;simp only[this];rfl
theorem zc:lB Ψ (.comp w g o q its U Z) E ρ K=cJ Ψ its E [] ρ λxs y=>lL q xs λh =>
   CD (VG Ψ (λ_=>False) w g o U Z y) h [] λz=>K (.lst z) true y:=rfl
theorem jg:VG Ψ E [] [t] (.nm 0) .nop Z ρ x R=lB Ψ Z E (some (.nv x)::lockA ρ) λy n _=>JC y n (R (some y)):=rfl
theorem xl{b:Bool}:VG Ψ E (b::m) [t] (.nm 0) .nop Z ρ x R=lB Ψ Z E (some (.nv x)::OC (b::m) (lockA ρ)) λy n _=>JC y n (R (some y)):=rfl
theorem kg:VG Ψ E [] [t] (.nm 0) (.cmp v a b) Z ρ x R=fL Ψ (.cmp v a b) E (some (.nv x)::lockA ρ) λk h=>if k=true then lB Ψ Z E h λy n _=>JC y n (R (some y)) else R none:=rfl
theorem nh:cJ Ψ .nr E md ρ M=M [] ρ:=rfl
theorem vc:cJ Ψ (.nq a X) E [] ρ M=lB Ψ a E ρ λx n y=>G0 x n Ψ X E [] y λxs h=>M ((x,n)::xs) h:=rfl
theorem B0:cJ Ψ (.nq a X) E (.kq::md) ρ M=lB Ψ a E ρ λx n y=>G0 x n Ψ X E md y λxs h=>M ((x,n)::xs) h:=rfl
theorem C0:cJ Ψ (.nq a X) E (.nv::md) ρ M=lB Ψ a E ρ λx n y=>G0 x n Ψ X E md y λxs h=>M ((x,n)::xs) h:=rfl
theorem Cg:uJ Ψ E Y (.var i) ρ=mX i ρ ρ i Y:=rfl
theorem Ul{x:Bool}:uJ Ψ E Y (.bl x) ρ=Y (.d (.bool x)) ρ:=propext ⟨λh=>h.2,λh=>⟨rfl,h⟩⟩
theorem Tb:uJ Ψ E Y (.call f X) ρ=lB Ψ (.call f X) E ρ λx n h=>JC x n (Y x h):=rfl
theorem Hg{v:Operator}:uJ Ψ E Y (.bin v a b) ρ=lB Ψ (.bin v a b) E ρ λx n h=>JC x n (Y x h):=rfl
theorem Gg:uJ Ψ E Y (.cmp v a b) ρ=lB Ψ (.cmp v a b) E ρ λx n h=>JC x n (Y x h):=rfl
theorem Bl{f:Bi}:uJ Ψ E Y (.bi f X) ρ=lB Ψ (.bi f X) E ρ λx n h=>JC x n (Y x h):=rfl
theorem Fg:uJ Ψ E Y (.idx a b) ρ=lB Ψ (.idx a b) E ρ λx n h=>JC x n (Y x h):=rfl
theorem Dg:uJ Ψ E Y (.tup X) ρ=lB Ψ (.tup X) E ρ λx n h=>JC x n (Y x h):=rfl
theorem Sb:uJ Ψ E Y (.comp w g o q its U Z) ρ=lB Ψ (.comp w g o q its U Z) E ρ λx n h=>JC x n (Y x h):=rfl
theorem Jo:eI (i+1) (s::σ) ρ K=eI i σ ρ K:=rfl
theorem Vo{t:T}:eI 0 (some (.nv t)::σ) ρ K=K t false ρ:=rfl
theorem Yo{t:T}:eI 0 (some (.own t)::σ) ρ K=K t false ρ:=rfl
theorem Ko:eI i (lockA σ) ρ K=eI i σ ρ K:=by
 unfold eI lockA;rw[Qc];cases σ[i]? with
 |none=>rfl|some s=>cases s with|none=>rfl|some s=>cases s<;>rfl
theorem Zo{b:Bool}:eI (i+1) (OC (b::m) (lockA (s::σ))) ρ K=eI i (OC m (lockA σ)) ρ K:=rfl
theorem vm:eI 0 (OC (false::m) (lockA (s::σ))) ρ K=eI 0 (lockA (s::σ)) ρ K:=rfl
theorem fo:mX (i+1) (s::σ) ρ j Y=mX i σ ρ j Y:=rfl
theorem ao{x:D}:mX 0 (some (.nv (.d x))::σ) ρ j Y=Y (.d x) ρ:=propext ⟨λh=>h.2,λh=>⟨rfl,h⟩⟩
theorem mo{t:T}:mX 0 (some (.own t)::σ) ρ j Y=Y t (ρ.set j none):=rfl
theorem Kn{x:D}:T1 (.d x) n Ψ b E ρ K=lB Ψ b E ρ K:=by cases n<;>rfl
theorem Dl:T1 x true Ψ b E ρ K=lB Ψ b E ρ K:=rfl
theorem Zn:T1 (.lst ts) false Ψ b E ρ K=lB Ψ b E (lockA ρ) λy m _=>K y m ρ:=rfl
theorem uo{x:D}:G0 (.d x) n Ψ b E md ρ M=cJ Ψ b E md ρ M:=by cases n<;>rfl
theorem vo:G0 x true Ψ b E md ρ M=cJ Ψ b E md ρ M:=rfl
theorem xo:G0 (.lst ts) false Ψ b E md ρ M=cJ Ψ b E md (lockA ρ) λxs _=>M xs ρ:=rfl
theorem An{x:D}:Jm (.d x) n Ψ b E ρ M=cJ Ψ b E [] ρ M:=by cases n<;>rfl
end
end
section
variable{Ψ:PEv}{E:XE}{ρ σ:zA}{Z:PEnds}{s r q:PT}{i:Nat}{e c its:PX}{o:Option Sl}{n:Bool}{v:D}{P:Prop}{ds:List D}{x:T}
section
variable{j:Nat}{is:List Nat}{A B:Prop}
theorem vA:xA Ψ E .nil Z ρ=Z.nx ρ:=rfl
theorem Yg:xA Ψ E (.seq (.set i e) r) Z (o::σ)=lB Ψ e E (o::σ) λx n h=>TJ Ψ E r Z i x n h:=rfl
theorem Vg:xA Ψ E (.seq (.own i e) r) Z (o::σ)=lB Ψ e E (o::σ) λx n h=>ce Ψ E r Z i x n h:=rfl
theorem Rb:xA Ψ E (.seq (.expr e) r) Z (o::σ)=lB Ψ e E (o::σ) λ_ _ h=>xA Ψ E r Z h:=rfl
theorem Kg:xA Ψ E (.seq (.ret e) r) Z (o::σ)=uJ Ψ E Z.rt e (o::σ):=rfl
theorem Xg:xA Ψ E (.seq (.ife c s .nil) r) Z (o::σ)=fL Ψ c E (o::σ) λk h=>if k=true then xA Ψ E s { Z with nx:=λy=>xA Ψ E r Z y } h else xA Ψ E r Z h:=rfl
theorem N7{u:Tg}{k:ItK}:xA Ψ E (.seq (.for_ u k its q) r) Z (o::σ)=cJ Ψ its E [] (o::σ) λxs h=>lL k xs λy =>
   if nO xs=true then JG (xA Ψ E q) u { Z with nx:=λz=>xA Ψ E r Z (kill u.ix z) } y h
   else JG (xA Ψ E q) u { Z with nx:=λz=>PQ u.ix (pC h (tG its)) h (λw=>xA Ψ E r Z w) (kill u.ix z) } y (lock (pC h (tG its)) h):=rfl
theorem Jg{a:PX}:xA Ψ E (.seq (.six (.var j) a e) r) Z (o::σ)=HC (o::σ)[j]? λt=>lB Ψ e E ((o::σ).set j (some (.nv t))) λx n z=>JC x n (lB Ψ a E z λy m h=>JC y m (h[j]?=some (some (.nv t))/\ud t y x λt'=>xA Ψ E r Z (h.set j (some (.own t'))))):=rfl
theorem Ob{a k:PX}:xA Ψ E (.seq (.six (.idx (.var j) k) a e) r) Z (o::σ)=HC (o::σ)[j]? λt=>lB Ψ e E ((o::σ).set j (some (.nv t))) λx n w=>JC x n (lB Ψ k E w λz l u=>JC z l (yd z t λs put=>lB Ψ a E u λy m h=>JC y m (h[j]?=some (some (.nv t))/\ud s y x λs'=>xA Ψ E r Z (h.set j (some (.own (put s'))))))):=rfl
theorem Zg{k:PX}:xA Ψ E (.seq (.sdf j k) r) Z (o::σ)=HC (o::σ)[j]? λt=>La t=true/\lB Ψ k E ((o::σ).set j (some (.nv t))) λy m h=>JC y m (h[j]?=some (some (.nv t))/\Ud y t λt'=>xA Ψ E r Z (h.set j (some (.own t')))):=rfl
theorem Nb:xA Ψ E (.seq (.tset is e) r) Z (o::σ)=lB Ψ e E (o::σ) λx n y=>JC x n (NZ (.tp is) (.d x.er) y λh=>xA Ψ E r Z h):=rfl
theorem Bg:xA Ψ E (.seq (.frz is s) r) Z (o::σ)=xA Ψ E (.seq s r) Z (frzAt is (o::σ)):=rfl
theorem ig:xA Ψ E (.seq (.whl c q) r) Z (o::σ)=Uc Ψ E c q { Z with nx:=λh=>xA Ψ E r Z h } (o::σ):=rfl
theorem zo:TJ Ψ E r Z i (.d v) n ρ=xA Ψ E r Z (ρ.set i (some (.nv (.d v)))):=propext ⟨λh=>h.2,λh=>⟨by cases n<;>rfl,h⟩⟩
theorem Dm:TJ Ψ E r Z i (.lst (ds.map T.d)) true ρ=xA Ψ E r Z (ρ.set i (some (.nv (.d (.list ds))))):=by unfold TJ T.er;rw[KA];exact propext ⟨λh=>h.2,λh=>⟨rfl,h⟩⟩
theorem Cn:ce Ψ E r Z i x true ρ=xA Ψ E r Z (ρ.set i (some (.own x))):=propext ⟨λh=>h.2,λh=>⟨rfl,h⟩⟩
theorem Uo:JC (.d v) n P=P:=propext ⟨λh=>h.2,λh=>⟨by cases n<;>rfl,h⟩⟩
theorem Xo:JC x true P=P:=propext ⟨λh=>h.2,λh=>⟨rfl,h⟩⟩
theorem P4:(([]:List T)=[]/\P)=P:=propext ⟨λh=>h.2,λh=>⟨rfl,h⟩⟩
theorem Mj:(if(true:Bool)=true then A else B)=A:=rfl
theorem Nj:(if(false:Bool)=true then A else B)=B:=rfl
theorem Sn{v h:Option Sl}:xA Ψ E r Z (WS (h::σ) 0 v)=xA Ψ E r Z (v::σ):=rfl
theorem Rn{v h y:Option Sl}:xA Ψ E r Z (WS (h::y::σ) 1 v)=xA Ψ E r Z (h::v::σ):=rfl
theorem Pn{v y h z:Option Sl}:xA Ψ E r Z (WS (y::h::z::σ) 2 v)=xA Ψ E r Z (y::h::v::σ):=rfl
theorem On{v z y h u:Option Sl}:xA Ψ E r Z (WS (z::y::h::u::σ) 3 v)=xA Ψ E r Z (z::y::h::v::σ):=rfl
theorem Nn{v u z y h w:Option Sl}:xA Ψ E r Z (WS (u::z::y::h::w::σ) 4 v)=xA Ψ E r Z (u::z::y::h::v::σ):=rfl
theorem Mn{v w u z y h k:Option Sl}:xA Ψ E r Z (WS (w::u::z::y::h::k::σ) 5 v)=xA Ψ E r Z (w::u::z::y::h::v::σ):=rfl
theorem Ln{v k w u z y h a:Option Sl}:xA Ψ E r Z (WS (k::w::u::z::y::h::a::σ) 6 v)=xA Ψ E r Z (k::w::u::z::y::h::v::σ):=rfl
theorem Hn{v a k w u z y h b:Option Sl}:xA Ψ E r Z (WS (a::k::w::u::z::y::h::b::σ) 7 v)=xA Ψ E r Z (a::k::w::u::z::y::h::v::σ):=rfl
theorem Gn{v b a k w u z y h f:Option Sl}:xA Ψ E r Z (WS (b::a::k::w::u::z::y::h::f::σ) 8 v)=xA Ψ E r Z (b::a::k::w::u::z::y::h::v::σ):=rfl
theorem Fn{v f b a k w u z y h g:Option Sl}:xA Ψ E r Z (WS (f::b::a::k::w::u::z::y::h::g::σ) 9 v)=xA Ψ E r Z (f::b::a::k::w::u::z::y::h::v::σ):=rfl
theorem Pl{v l g f b a k w u z y h:Option Sl}:xA Ψ E r Z (WS (l::g::f::b::a::k::w::u::z::y::h::σ) 10 v)=xA Ψ E r Z (l::g::f::b::a::k::w::u::z::y::v::σ):=rfl
theorem Ol{v m l g f b a k w u z h y:Option Sl}:xA Ψ E r Z (WS (m::l::g::f::b::a::k::w::u::z::h::y::σ) 11 v)=xA Ψ E r Z (m::l::g::f::b::a::k::w::u::z::h::v::σ):=rfl
theorem Nl{v p m l g f b a k w u y h z:Option Sl}:xA Ψ E r Z (WS (p::m::l::g::f::b::a::k::w::u::y::h::z::σ) 12 v)=xA Ψ E r Z (p::m::l::g::f::b::a::k::w::u::y::h::v::σ):=rfl
end
end
section
variable{d:D}{n m:Bool}{i j:Int}{z y:Str}{b:Bool}{xs:List (T×Bool)}{ts:List T}{ds es:List D}{md:List Md}{t:T}{C:List T->Prop}{Q:T->Bool->Prop}{L:Bool->Prop}{R:T->Prop}{W:List T->Prop}
section
variable{ρ:zA}{P:zA->Prop}{e f k:D}{w:CmpOp}{x:Str}{kvs:List (D×D)}{l u:Option Int}
theorem vd{i:Int}{x:D}{Q:T->Prop}(a:0<=i)(v:i<ds.length)(q:Q (.lst ((ds.set i.toNat x).map T.d))):ud (.lst (ds.map T.d)) (.d (.int i)) (.d x) Q:=by
 have h:i.toNat<ds.length:=by omega
 refine⟨i.toNat,?_,by rw[<- QB7];exact q⟩;unfold HP;rw[QF];rw[if_pos a,if_pos v]
theorem D7{l:List Nat}{i:Int}{K:Nat->Prop}(o:0<=i)(g:i<l.length)(k:∀v,v∈l->K v):mC (LD l i) K:=by obtain⟨v,a,h⟩:=cO o g;exact⟨v,a,k v (Q9 h)⟩
theorem aS{i:Int}{K:D->Prop}(o:0<=i)(g:i<ds.length)(k:∀v,v∈ds->K v):mC (LD ds i) K:=by obtain⟨v,a,h⟩:=cO o g;exact⟨v,a,k v (Q9 h)⟩
theorem lg{J:List Nat}{v:zA}{N:zA->Prop}:PQ J [] v N ρ=N ρ:=propext ⟨λh=>h.2,λh=>⟨λ_ z=>(nomatch z),h⟩⟩
theorem xB{α:Type}(f:α->D)(l:List α):l.map (λc=>T.d (f c))=(l.map f).map T.d:=by rw[Qd];rfl
theorem ZD:(uA (.lst (ds.map T.d)) n).vw=.ls (ds.map T.d):=by cases n;rfl;show Vw.ls ((ersT (ds.map T.d)).map T.d)=_;rw[KA]
theorem Lg:ZB md [] C=C []:=bC
theorem Xn:ZB [] ((.d d,n)::xs) C=ZB [] xs λts=>C (.d d::ts):=by
 have e:BA [] ((.d d,n)::xs) []=(BA [] xs []).map (.d d::·):=by cases n<;>rfl
 unfold ZB;rw[e,UF]
theorem Vn:ZB [] ((.lst (ds.map T.d),true)::xs) C=ZB [] xs λts=>C (.d (.list ds)::ts):=by have e:BA [] ((.lst (ds.map T.d),true)::xs) []=(BA [] xs []).map (.d (.list (ersT (ds.map T.d)))::·):=rfl;unfold ZB;rw[e,UF,KA]
theorem Bn:ZB (.nv::md) ((t,false)::xs) C=ZB md xs λts=>C (t::ts):=by have e:BA (.nv::md) ((t,false)::xs) []=(BA md xs []).map (t::·):=rfl;unfold ZB;rw[e,UF]
theorem e8:lF (.lst (ds.map T.d))=some (.lst (ds.map T.d)):=by simp only[lF,T.vw,iA,qC]
theorem Xm{u:T}(h:lF (uA t n)=some u):ZB (.kq::md) ((t,n)::xs) C=ZB md xs λts=>C (u::ts):=by
 have e:BA (.kq::md) ((t,n)::xs) []=(BA md xs []).map (u::·):=by show(match lF (uA t n) with|some t=>(BA md xs []).map (t::·)|none=>none)=_;rw[h]
 unfold ZB;rw[e,UF]
theorem Fl:ZB (.kq::md) ((.lst (ds.map T.d),n)::xs) C=ZB md xs λts=>C (.lst (ds.map T.d)::ts):=Xm (by cases n;exact e8;show lF (.d (.list (ersT (ds.map T.d))))=_;rw[KA];simp only[lF,T.vw,iA,qC])
theorem Og:sI [] C=C []:=propext ⟨λh=>h.2,λh=>⟨rfl,h⟩⟩
theorem Cm:sI ((.lst (ds.map T.d),true)::xs) C=sI xs λts=>C (.lst (ds.map T.d)::ts):=by show((bH (.lst (ds.map T.d)) true&&kF xs)=true/\C (.lst (ds.map T.d)::iF xs))=(kF xs=true/\C (.lst (ds.map T.d)::iF xs));rw[show bH (.lst (ds.map T.d)) true=true from rfl,QBX]
theorem jo:sI ((.d d,n)::xs) C=sI xs λts=>C (.d d::ts):=by show((bH (.d d) n&&kF xs)=true/\C (.d d::iF xs))=(kF xs=true/\C (.d d::iF xs));rw[show bH (.d d) n=true by cases n<;>rfl,QBX]
theorem gm{i:Nat}:NZ (.nm i) t ρ P=P (ρ.set i (some (.nv t))):=rfl
theorem Fk{h:Tg}:SH h t ρ P=NZ h t ρ P:=rfl
theorem gg:rF .Add (.d (.int i)) n (.d (.int j)) m Q=Q (.d (.int (i+j))) false:=by unfold rF;rw[oA,oA];exact Xb i j
theorem xg:rF .Sub (.d (.int i)) n (.d (.int j)) m Q=Q (.d (.int (i - j))) false:=by unfold rF;rw[oA,oA];exact Kb i j
theorem cg:rF .Mult (.d (.int i)) n (.d (.int j)) m Q=(IntMulOk i j/\Q (.d (.int (i * j))) false):=by unfold rF;rw[oA,oA];exact Yb i j
theorem ug:rF .Mult (.d (.str z)) n (.d (.int j)) m Q=((-(2 ^ 31)<=j/\j<2 ^ 31/\z.length * j.toNat<=sizeLine)/\Q (.d (.str (eG z j))) false):=by unfold rF;rw[oA,oA];exact Jb z j
theorem fg:rF .FloorDiv (.d (.int i)) n (.d (.int j)) m Q=((0<j/\j<2 ^ 200)/\Q (.d (.int (i / j))) false):=by unfold rF;rw[oA,oA];exact gb i j
theorem dg:rF .Mod (.d (.int i)) n (.d (.int j)) m Q=(0<j/\Q (.d (.int (i % j))) false):=by unfold rF;rw[oA,oA];exact db i j
theorem ml:rF .Add (.lst (ds.map T.d)) n (.lst (es.map T.d)) m Q=(ds.length+es.length<=sizeLine/\Q (.lst ((ds++es).map T.d)) true):=by unfold rF;rw[ZD,ZD,Vb,iA,iA];exact propext ⟨λ⟨_,_,v,h,k⟩=>by cases v;cases h;exact k,λk=>⟨_,_,rfl,rfl,k⟩⟩
theorem yj:FF [.d d,.d e]=.d (.tuple [d,e]):=rfl
theorem jj{g:D}:FF [.d d,.d e,.d f,.d g]=.d (.tuple [d,e,f,g]):=rfl
theorem Gf:TB .Eq (.d (.int i)) (.d (.int j)) L=L (decide (i=j)):=rfl
theorem Df:TB .Eq (.d (.str z)) (.d (.str y)) L=L (decide (z=y)):=rfl
theorem Uf:TB .NotEq (.d (.int i)) (.d (.int j)) L=L (!decide (i=j)):=rfl
theorem Vf:TB .NotEq (.d (.str z)) (.d (.str y)) L=L (!decide (z=y)):=rfl
theorem Jk:TB .Lt (.d (.int i)) (.d (.int j)) L=L (decide (i<j)):=rfl
theorem UZ:TB w (.d d) (.lst (ds.map T.d)) L=vW w d (.list ds) L:=by show vW w d (.list (ersT (ds.map T.d))) L=_;rw[KA]
theorem Yk:TB .Gt (.d (.int i)) (.d (.int j)) L=L (decide (j<i)):=rfl
theorem Xk{u:T}:TB w t (uA u false) L=TB w t u L:=rfl
theorem Cf:TB .In (.d (.str z)) (.d (.list ds)) L=(((tB (.str z)=true/\ds.all tB=true)∨(eE (.str z)/\eE (.list ds)))/\L (ds.any λy=>Qz y (.str z))):=rfl
theorem jb:TB .NotIn (.d (.str z)) (.d (.list ds)) L=(((tB (.str z)=true/\ds.all tB=true)∨(eE (.str z)/\eE (.list ds)))/\L (!(ds.any λy=>Qz y (.str z)))):=rfl
theorem Ia:TB .NotIn (.d (.str z)) (.lst (ds.map T.d)) L=(((tB (.str z)=true/\ds.all tB=true)∨(eE (.str z)/\eE (.list ds)))/\L (!(ds.any λy=>Qz y (.str z)))):=by exact UZ
theorem Xf:TB .NotEq (.d (.list ds)) (.d (.list es)) L=(eE (.list ds)/\eE (.list es)/\L (!PyData.eqv (.list ds) (.list es))):=rfl
theorem MZ{ks:List D}:TB .NotIn (.d d) (.dct b ks ts) L=(pF b d/\L (!(lA ks d).isSome)):=by show(pF b d/\((CmpOp.NotIn=.In/\L (lA ks d).isSome)∨(CmpOp.NotIn=.NotIn/\L (!(lA ks d).isSome))))=_;simp
theorem Bf:TB .In (.d (.str z)) (.lst (ds.map T.d)) L=(((tB (.str z)=true/\ds.all tB=true)∨(eE (.str z)/\eE (.list ds)))/\L (ds.any λy=>Qz y (.str z))):=by exact UZ
theorem jn:C1 (.d (.bool b)) L=L b:=rfl
theorem M5{k:String}(h:isD k d=some b)(hk:dM k=true):NV (.bty x k) (.d d) L=L b:=by show(∃b,isD k d=some b/\dM k=true/\L b)=_;exact propext ⟨λ⟨_,e,_,q⟩=>by rw[h]at e;cases e;exact q,λq=>⟨_,h,hk,q⟩⟩
theorem uf:NV (.bty x "str") (.d (.str z)) L=L true:=M5 rfl rfl
theorem bf:NV (.bty x "list") (.lst ts) L=L true:=M5 (d:=.list (ersT ts)) rfl rfl
theorem Ti:JO .len [(.d (.list ds),n)] Q=Q (.d (.int ds.length)) false:=by unfold JO vC;rw[oA];refine(C7 _).trans ?_;rw[QF]
theorem Si:JO .len [(.lst (ds.map T.d),n)] Q=Q (.d (.int ds.length)) false:=by unfold JO vC;rw[ZD];refine(C7 _).trans ?_;rw[QF]
theorem De:JO .any [(.lst (ds.map T.d),n)] Q=∃bs:List Bool,ds=bs.map PyData.bool/\Q (.d (.bool (bs.any id))) false:=by unfold JO vC;rw[ZD];refine(Of _).trans ?_;simp only[iA,Qq]
theorem Be:JO .list [(.d (.list ds),n)] Q=Q (.lst (ds.map T.d)) true:=by unfold JO vC;rw[oA];refine(Nf _).trans ?_;rw[iA];exact bC
theorem iZ:KL (.ls ts) k R=False:=propext ⟨λ⟨_,_,_,_,_,e,_⟩=>(by cases e),Qb⟩
theorem zS:KL (.tp ts) k R=False:=propext ⟨λ⟨_,_,_,_,_,e,_⟩=>(by cases e),Qb⟩
theorem Ga{x:D}:KL (.sc x) k R=False:=propext ⟨λ⟨_,_,_,_,_,e,_⟩=>(by cases e),Qb⟩
theorem Sm:MB (.lst (ds.map T.d)) n (.d (.int i)) m R=mC (LD ds i) λd=>R (.d d):=by unfold MB;rw[ZD,oA,iZ,or_false];refine(zZ _ _).trans ?_;show mC (LD (ds.map T.d) i) R=_;rw[dO,UF]
theorem Hh:MB (.d (.list ds)) n (.d (.int i)) m R=mC (LD ds i) λd=>R (.d d):=by unfold MB;rw[oA,oA,show(T.d (.list ds)).vw=.ls (ds.map T.d) from rfl,iZ,or_false];refine(zZ _ _).trans ?_;show mC (LD (ds.map T.d) i) R=_;rw[dO,UF]
theorem E7:MB (.d (.tuple ds)) n (.d (.int i)) m R=mC (LD ds i) λd=>R (.d d):=by unfold MB;rw[oA,oA,show(T.d (.tuple ds)).vw=.tp (ds.map T.d) from rfl,zS,or_false];refine(MR _ _).trans ?_;show mC (LD (ds.map T.d) i) R=_;rw[dO,UF]
theorem Om:MB (.d (.str z)) n (.d (.int i)) m R=(z.length<=sizeLine/\mC (LD z.cps.toList i) λc=>R (.d (.str ⟨#[c]⟩))):=by unfold MB;rw[oA,oA,show(T.d (.str z)).vw=.sc (.str z) from rfl,Ga,or_false];exact Va _ _
theorem Mh:MB (.lst [.d d,.d e,.d f]) n t m R=MB (.lst ([d,e,f].map T.d)) n t m R:=rfl
theorem Lh{g:D}:MB (.lst [.d d,.d e,.d f,.d g]) n t m R=MB (.lst ([d,e,f,g].map T.d)) n t m R:=rfl
theorem y8{q:Bool}{l:Nat}(o:PC kvs=some q)(g:pF q k)(a:lA (kvs.map (·.1)) k=some l)(h:(kvs.map (·.2))[l]?=some e)(v:R (.d e)):MB (.d (.dict kvs)) n (.d k) m R:=by
 unfold MB;rw[oA];refine .inr ?_;show KL (UB kvs) k R;unfold UB;rw[o];refine⟨q,_,_,l,.d e,rfl,g,a,?_,v⟩;rw[Qc]at h ⊢;cases z:kvs[l]? with|none=>rw[z]at h;cases h|some p=>rw[z]at h;cases h;rfl
theorem dn:GO (.d (.list ds)) n l u Q=Q (.lst ((BD ds l u).map T.d)) true:=by unfold GO;rw[oA];refine(IW _).trans ?_;rw[iA];exact bC
theorem Ji:GO (.lst (ds.map T.d)) n l u Q=Q (.lst ((BD ds l u).map T.d)) true:=by unfold GO;rw[ZD];refine(IW _).trans ?_;rw[iA];exact bC
theorem kj:Ii .join (.d (.str z)) n [(.lst (ds.map T.d),m)] Q=∃h:List Str,ds=h.map PyData.str/\(h.map (·.length)).sum+h.length * z.length<=16777216/\Q (.d (.str (QAJ z h))) false:=by unfold Ii vC;rw[oA,ZD];refine(He z _).trans ?_;simp only[iA,Qq]
theorem zj{P:Prop}:(KR .join (uA (.d (.str z)) n).vw=true/\P)=P:=propext ⟨λh=>h.2,λh=>⟨N9 rfl,h⟩⟩
theorem Em:lL .val [(.d (.list ds),n)] W=W (ds.map T.d):=by unfold lL vC;rw[oA];exact ZK _
theorem Fc:lL .val [(.lst (ds.map T.d),n)] W=W (ds.map T.d):=by unfold lL vC;rw[ZD];exact ZK _
theorem Oh:lL .rng1 [(.d (.int j),n)] W=((-(2 ^ 62)<=j/\j<2 ^ 62)/\W ((qA j.toNat).map λ(i:Nat)=>.d (.int (i:Int)))):=by unfold lL vC;rw[oA];exact SY j
theorem Ph:lL .enum [(.d (.list ds),n)] W=W (ds.zipIdx.map λp=>.d (.tuple [.int (p.2:Int),p.1])):=by unfold lL vC;rw[oA];refine(OP _).trans ?_;exact propext ⟨λ⟨_,_,v,h,k⟩=>by cases v;rw[iA]at h;cases h;exact k,λk=>⟨_,_,rfl,iA _,k⟩⟩
theorem Lc:lL .enum [(.lst (ds.map T.d),n)] W=W (ds.zipIdx.map λp=>.d (.tuple [.int (p.2:Int),p.1])):=by unfold lL vC;rw[ZD];refine(OP _).trans ?_;exact propext ⟨λ⟨_,_,v,h,k⟩=>by cases v;rw[iA]at h;cases h;exact k,λk=>⟨_,_,rfl,iA _,k⟩⟩
theorem Gc(h:kvs=[]∨PC kvs=some true):lL .itm [(.d (.dict kvs),n)] W=W (kvs.map λp=>.d (.tuple [p.1,p.2])):=by
 unfold lL vC;rw[oA];show jC .itm [UB kvs] W=_;rcases h with rfl|h;exact RY;unfold UB;rw[h];refine(NP _ _).trans ?_;have e:(kvs.map λp=>T.d p.2)=(kvs.map (·.2)).map T.d:=by rw[Qd];rfl
 have v:((kvs.map (·.1)).zip (kvs.map (·.2))).map (λp=>T.d (.tuple [p.1,p.2]))=kvs.map λp=>T.d (.tuple [p.1,p.2]):=by rw[QBl,Qd];rfl
 refine propext ⟨λ⟨ds,a,k⟩=>?_,λk=>⟨kvs.map (·.2),by rw[e,iA],?_⟩⟩;rw[e,iA]at a;cases a;rw[v]at k;exact k;rw[v];exact k
def eZ(Q:T->List T->Prop):PEnds:={ nx:=λ_=>Q (.d .none) [],rt:=λt _=>Q t [] }
theorem rf{Q:T->List T->Prop}{t:T}:(eZ Q).rt t ρ=Q t []:=rfl
theorem XA{Ψ:PEv}{b:PT}{p:PSp}{N v:List Str}{ds:List T}{Q:T->List T->Prop}(ρ:zA)(hl:ds.length=v.length)(hc:FB 0 p.md v.length=[])(a:nA N p.md ds=ρ)(h:xA Ψ (λ_=>False) b (eZ Q) ρ):ds.length=v.length/\xA Ψ (λ_=>False) b (NA p v.length Q) (nA N p.md ds):=by
 have e:NA p v.length Q=eZ Q:=by unfold NA;rw[hc];rfl
 rw[e,a];exact⟨hl,h⟩
end
end
end L2.L3
namespace L2.L3.K18
open PySem PySem.Spec PyProof.Rows L2 L2.L3
section
variable{c k i m s v:Int}{K Q:T->List T->Prop}{E:XE}{Ψ:PEv}{X ns st:List Str}{n c1:Nat}{Z:PEnds}{sc:Sl}{es:iB}{o6 o7 o8 Y o13 o9 o10 o11:Option Sl}{p q:Pt}{r:Rm}{l:Inn}{a b g:Str}{w:Wy}{e:Str×Str}
def bI(i:Nat):Stmt:=qb.main.body.getD i (.Pass ⟨0,0,0,0⟩)
def kG:List Str:=["edges","starts","goal","rooms","came_from","firsts","chains"]
def jD:List Str:=["edges","starts","goal"]
def tK:Need:=⟨["rooms_of","points_reached","lay_chain","chain_from","full_names"],["BEGIN"],["sorted"]⟩
def VC:PT :=
  (.seq (.expr (.call "lay_chain" (.nq (.var 3) (.nq (.var 4) (.nq (.tup (.nq (.var 2) (.nq (.str "to") .nr))) .nr)))))
  (.seq (.set 4 (.call "points_reached" (.nq (.var 3) .nr)))
  .nil))
noncomputable def jG:PT :=
  (.seq (.own 3 (.call "rooms_of" (.nq (.var 0) (.nq (.var 1) (.nq (.var 2) .nr)))))
  (.seq (.set 4 (.call "points_reached" (.nq (.var 3) .nr)))
  (.seq (.whl (.cmp .In (.tup (.nq (.var 2) (.nq (.str "to") .nr))) (.var 4)) VC)
  (.seq (.set 5 (.comp [] ["point"] (.nm 0) .val (.nq (.idx (.var 3) (.glo "BEGIN")) .nr) (.cmp .Gt (.idx (.idx (.var 4) (.var 0)) (.glo "BEGIN")) (.int 0)) (.idx (.var 0) (.int 0))))
  (.seq (.set 6 (.comp [] ["first"] (.nm 0) .val (.nq (.var 5) .nr) .nop (.call "chain_from" (.nq (.var 4) (.nq (.var 0) (.nq (.var 3) .nr))))))
  (.seq (.ret (.tup (.nq (.bi .sorted (.nq (.var 6) .nr)) (.nq (.call "full_names" (.nq (.var 4) .nr)) .nr))))
  .nil))))))
theorem pJ:YC tK jG kG jD (bI 3)=true:=by kernel_rfl
def bL:List Str:=["edges","starts","goal","rooms","name","first","second"]
def ZF:List Str:=["edges","starts","goal"]
def iR:Need:=⟨["add_name","add_way"],["BEGIN","WIDE"],[]⟩
noncomputable def xF:PT :=
  (.seq (.ife (.cmp .NotEq (.var 4) (.var 2)) (.seq (.expr (.call "add_name" (.nq (.var 3) (.nq (.var 4) .nr))))
  (.seq (.expr (.call "add_way" (.nq (.var 3) (.nq (.glo "BEGIN") (.nq (.tup (.nq (.var 4) (.nq (.str "to") .nr))) (.nq (.glo "WIDE") .nr))))))
  .nil)) .nil)
  .nil)
noncomputable def vF:PT :=
  (.seq (.ife (.and (.cmp .NotEq (.var 5) (.var 2)) (.cmp .NotEq (.var 5) (.var 6))) (.seq (.expr (.call "add_name" (.nq (.var 3) (.nq (.var 5) .nr))))
  (.seq (.expr (.call "add_name" (.nq (.var 3) (.nq (.var 6) .nr))))
  (.seq (.expr (.call "add_way" (.nq (.var 3) (.nq (.tup (.nq (.var 5) (.nq (.str "from") .nr))) (.nq (.tup (.nq (.var 6) (.nq (.str "to") .nr))) (.nq (.glo "WIDE") .nr))))))
  .nil))) .nil)
  .nil)
def IK:PT :=
  (.seq (.own 3 (.dsp (.glo "BEGIN") (.dnew true)))
  (.seq (.for_ (.nm 4) .val (.nq (.var 1) .nr) xF)
  (.seq (.for_ (.tp [5,6]) .val (.nq (.var 0) .nr) vF)
  (.seq (.ret (.var 3))
  .nil))))
theorem oQ:YC iR IK bL ZF (bI 4)=true:=by kernel_rfl
def dL:List Str:=["rooms","name"]
def VF:List Str:=["rooms","name"]
def YR:Need:=⟨["add_way"],[],[]⟩
def fH:PT :=
  (.seq (.expr (.call "add_way" (.nq (.var 0) (.nq (.tup (.nq (.var 1) (.nq (.str "to") .nr))) (.nq (.tup (.nq (.var 1) (.nq (.str "from") .nr))) (.nq (.int 1) .nr))))))
  .nil)
theorem rQ:YC YR fH dL VF (bI 5)=true:=by kernel_rfl
def DM:List Str:=["rooms","here","there","room"]
def IG:List Str:=["rooms","here","there","room"]
def ZV:Need:=⟨[],[],[]⟩
def iM:PT :=
  (.seq (.sdf 0 (.var 1))
  (.seq (.sdf 0 (.var 2))
  (.seq (.six (.idx (.var 0) (.var 1)) (.var 2) (.var 3))
  (.seq (.six (.idx (.var 0) (.var 2)) (.var 1) (.int 0))
  .nil))))
theorem pS:YC ZV iM DM IG (bI 6)=true:=by kernel_rfl
def GE:List Str:=["rooms","came_from","waiting","here","there","room"]
def uC:List Str:=["rooms"]
def oI:Need:=⟨[],["BEGIN"],["len"]⟩
def zB:PT :=
  (.seq (.ife (.and (.cmp .Gt (.var 5) (.int 0)) (.cmp .NotIn (.var 4) (.var 1))) (.seq (.six (.var 1) (.var 4) (.var 3))
  (.seq (.expr (.mt .append (.var 2) (.nq (.var 4) .nr)))
  .nil)) .nil)
  .nil)
def FD:PT :=
  (.seq (.set 3 (.mt .pop (.var 2) (.nq (.int 0) .nr)))
  (.seq (.for_ (.tp [4,5]) .itm (.nq (.idx (.var 0) (.var 3)) .nr) zB)
  .nil))
def BE:PT :=
  (.seq (.own 1 (.dsp (.glo "BEGIN") .non))
  (.seq (.own 2 (.lst (.nq (.glo "BEGIN") .nr)))
  (.seq (.whl (.cmp .Gt (.bi .len (.nq (.var 2) .nr)) (.int 0)) FD)
  (.seq (.ret (.var 1))
  .nil))))
theorem NH:YC oI BE GE uC (bI 7)=true:=by kernel_rfl
def kJ:List Str:=["rooms","came_from","last","there","here"]
def OE:List Str:=["rooms","came_from","last"]
def tP:Need:=⟨[],["BEGIN"],[]⟩
noncomputable def lE:PT :=
  (.seq (.set 4 (.idx (.var 1) (.var 3)))
  (.seq (.six (.idx (.var 0) (.var 4)) (.var 3) (.bin .Sub (.idx (.idx (.var 0) (.var 4)) (.var 3)) (.int 1)))
  (.seq (.six (.idx (.var 0) (.var 3)) (.var 4) (.bin .Add (.idx (.idx (.var 0) (.var 3)) (.var 4)) (.int 1)))
  (.seq (.set 3 (.var 4))
  .nil))))
def TF:PT :=
  (.seq (.set 3 (.var 2))
  (.seq (.whl (.cmp .NotEq (.var 3) (.glo "BEGIN")) lE)
  .nil))
theorem yO:YC tP TF kJ OE (bI 8)=true:=by kernel_rfl
def zI:List Str:=["rooms","first","goal","chain","name"]
def vE:List Str:=["rooms","first","goal"]
def KN:Need:=⟨["name_behind"],[],[]⟩
def GD:PT :=
  (.seq (.expr (.mt .append (.var 3) (.nq (.var 4) .nr)))
  (.seq (.set 4 (.call "name_behind" (.nq (.var 0) (.nq (.var 4) .nr))))
  .nil))
def gF:PT :=
  (.seq (.own 3 (.lst .nr))
  (.seq (.set 4 (.var 1))
  (.seq (.whl (.cmp .NotEq (.var 4) (.var 2)) GD)
  (.seq (.ret (.var 3))
  .nil))))
theorem CL:YC KN gF zI vE (bI 9)=true:=by kernel_rfl
def XG:List Str:=["rooms","name","here"]
def eD:List Str:=["rooms","name"]
def iL:Need:=⟨[],[],[]⟩
noncomputable def gE:PT :=
  (.seq (.set 2 (.tup (.nq (.var 1) (.nq (.str "from") .nr))))
  (.seq (.ret (.idx (.comp [] ["there"] (.nm 0) .val (.nq (.idx (.var 0) (.var 2)) .nr) (.and (.cmp .NotEq (.idx (.var 0) (.int 0)) (.var 2)) (.cmp .Gt (.idx (.idx (.var 1) (.var 0)) (.var 3)) (.int 0))) (.idx (.var 0) (.int 0))) (.int 0)))
  .nil))
theorem PK:YC iL gE XG eD (bI 10)=true:=by kernel_rfl
def yI:List Str:=["came_from"]
def kE:List Str:=["came_from"]
def ZN:Need:=⟨[],[],["sorted"]⟩
noncomputable def fF:PT :=
  (.seq (.ret (.bi .sorted (.nq (.comp [] ["point"] (.nm 0) .val (.nq (.var 0) .nr) (.and (.cmp .Eq (.idx (.var 0) (.int 1)) (.str "to")) (.cmp .NotIn (.tup (.nq (.idx (.var 0) (.int 0)) (.nq (.str "from") .nr))) (.var 1))) (.idx (.var 0) (.int 0))) .nr)))
  .nil)
theorem BL:YC ZN fF yI kE (bI 11)=true:=by kernel_rfl
def vJ:List Str:=["edges","seers","needs","ground","holders","others"]
def RE:List Str:=["edges","seers","needs"]
def aP:Need:=⟨["ground_alone","told_through"],[],[]⟩
noncomputable def EF:PT :=
  (.seq (.own 3 (.call "ground_alone" (.nq (.var 0) (.nq (.var 1) (.nq (.var 2) .nr)))))
  (.seq (.set 4 (.comp [] ["name","chains"] (.tp [0,1]) .val (.nq (.var 3) .nr) .nop (.var 0)))
  (.seq (.set 5 (.comp [] ["name","number"] (.tp [0,1]) .val (.nq (.var 2) .nr) (.cmp .NotIn (.var 0) (.var 6)) (.var 0)))
  (.seq (.ret (.tup (.nq (.mv 3) (.nq (.comp [] ["name"] (.nm 0) .val (.nq (.var 5) .nr) .nop (.tup (.nq (.var 0) (.nq (.ixm (.call "told_through" (.nq (.var 1) (.nq (.var 2) (.nq (.var 5) (.nq (.var 0) .nr))))) (.int 1)) .nr)))) .nr))))
  .nil))))
theorem zO:YC aP EF vJ RE (bI 13)=true:=by kernel_rfl
def zG:List Str:=["edges","seers","needs","ground","found","grown","name","number","chains"]
def IC:List Str:=["edges","seers","needs"]
def sK:Need:=⟨["told_through"],[],["len"]⟩
noncomputable def KC:PT :=
  (.seq (.ife (.cmp .NotIn (.var 6) (.var 4)) (.seq (.set 8 (.idx (.call "told_through" (.nq (.var 0) (.nq (.var 1) (.nq (.var 4) (.nq (.var 6) .nr))))) (.int 0)))
  (.seq (.ife (.cmp .GtE (.bi .len (.nq (.var 8) .nr)) (.var 7)) (.seq (.expr (.mt .append (.var 3) (.nq (.tup (.nq (.var 6) (.nq (.slc (.var 8) .nop (.var 7)) .nr))) .nr)))
  (.seq (.expr (.mt .append (.var 4) (.nq (.var 6) .nr)))
  (.seq (.set 5 (.bl true))
  .nil))) .nil)
  .nil)) .nil)
  .nil)
def ZC:PT :=
  (.seq (.set 5 (.bl false))
  (.seq (.for_ (.tp [6,7]) .val (.nq (.var 2) .nr) KC)
  .nil))
noncomputable def IF:PT :=
  (.seq (.own 3 (.comp [false,false,false,false,false,false,true,true] ["name","number"] (.tp [0,1]) .val (.nq (.var 2) .nr) (.cmp .In (.var 0) (.var 3)) (.tup (.nq (.var 0) (.nq (.lst .nr) .nr)))))
  (.seq (.own 4 (.comp [false,false,false,false,false,false,true,false,true] ["name","chains"] (.tp [0,1]) .val (.nq (.var 3) .nr) .nop (.var 0)))
  (.seq (.set 5 (.bl true))
  (.seq (.whl (.var 5) ZC)
  (.seq (.ret (.var 3))
  .nil)))))
theorem oJ:YC sK IF zG IC (bI 14)=true:=by kernel_rfl
def yG:List Str:=["edges","seers","people","goal"]
def EC:List Str:=["edges","seers","people","goal"]
def rK:Need:=⟨["apart_chains"],[],[]⟩
def DD:PT :=
  (.seq (.ret (.call "apart_chains" (.nq (.comp [] ["edge"] (.nm 0) .val (.nq (.var 0) .nr) (.cmp .In (.idx (.var 0) (.int 0)) (.var 3)) (.var 0)) (.nq (.var 1) (.nq (.var 3) .nr)))))
  .nil)
theorem nJ:YC rK DD yG EC (bI 15)=true:=by kernel_rfl
def UM:List Str:=["_law_cell_here","_law_k","_law_m"]
def SG:List Str:=["_law_cell_here","_law_k"]
def iV:Need:=⟨[],[],[]⟩
noncomputable def HI:PT :=
  (.seq (.set 2 (.bin .Mod (.bin .Add (.bin .Mult (.bin .Mod (.var 0) (.int 2147483647)) (.int 48271)) (.bin .Mult (.bin .Add (.bin .Add (.bin .Mult (.var 1) (.var 1)) (.bin .Mult (.int 3) (.var 1))) (.int 7)) (.int 69621))) (.int 2147483647)))
  (.seq (.ret (.bin .Mod (.bin .Mult (.var 2) (.var 2)) (.int 2147483647)))
  .nil))
theorem lS:YC iV HI UM SG (bI 18)=true:=by kernel_rfl
def XM:List Str:=["_law_cell_here","_law_many","_law_m","_law_base","_law_some","_law_size","_law_at","_law_out","_law_k","_law_signs"]
def RG:List Str:=["_law_cell_here","_law_many"]
def eV:Need:=⟨["_law_mixed"],[],["range"]⟩
noncomputable def jE:PT :=
  (.seq (.own 9 (.comp [] ["_law_place"] (.nm 0) .rng1 (.nq (.var 5) .nr) .nop (.var 4)))
  (.seq (.six (.var 9) (.var 6) (.idx (.var 4) (.bin .Mod (.bin .Add (.bin .FloorDiv (.var 2) (.int 4200)) (.bin .Mult (.int 3) (.var 8))) (.int 20))))
  (.seq (.six (.var 9) (.bin .Mod (.bin .Add (.var 6) (.int 1)) (.var 5)) (.idx (.var 4) (.bin .Mod (.bin .Add (.bin .FloorDiv (.var 2) (.int 84000)) (.bin .FloorDiv (.var 8) (.int 20))) (.int 20))))
  (.seq (.expr (.mt .append (.var 7) (.nq (.mt .join (.str "") (.nq (.var 9) .nr)) .nr)))
  .nil))))
noncomputable def FI:PT :=
  (.seq (.set 2 (.call "_law_mixed" (.nq (.var 0) (.nq (.int 3) .nr))))
  (.seq (.set 3 (.idx (.str "abcdefghijklmnpqrstvwxyz") (.bin .Mod (.var 2) (.int 24))))
  (.seq (.set 4 (.str "bcdfghjklmnpqrstvwxz"))
  (.seq (.ife (.and (.cmp .Eq (.bin .Mod (.bin .FloorDiv (.var 2) (.int 25)) (.int 3)) (.int 0)) (.cmp .Lt (.var 1) (.int 9))) (.seq (.ret (.comp [false,false,false,false,false,false,false,false,true] ["_law_k"] (.nm 0) .rng1 (.nq (.var 1) .nr) .nop (.bin .Mult (.var 4) (.bin .Sub (.var 2) (.var 0)))))
  .nil) .nil)
  (.seq (.set 5 (.bin .Add (.int 2) (.bin .Mod (.bin .FloorDiv (.var 2) (.int 75)) (.int 7))))
  (.seq (.set 6 (.bin .Mod (.bin .FloorDiv (.var 2) (.int 525)) (.var 5)))
  (.seq (.own 7 (.lst .nr))
  (.seq (.for_ (.nm 8) .rng1 (.nq (.var 1) .nr) jE)
  (.seq (.ret (.var 7))
  .nil)))))))))
theorem gS:YC eV FI XM RG (bI 19)=true:=by kernel_rfl
def XQ:List Str:=["_law_script","_law_number","_law_cell_here"]
def lI:List Str:=["_law_script"]
def KY:Need:=⟨[],[],[]⟩
def jL:PT :=
  (.seq (.set 1 (.bin .Mod (.bin .Add (.bin .Add (.bin .Mult (.var 1) (.int 1000003)) (.var 2)) (.int 1)) (.int 2147483647)))
  .nil)
def yL:PT :=
  (.seq (.set 1 (.int 0))
  (.seq (.for_ (.nm 2) .val (.nq (.var 0) .nr) jL)
  (.seq (.ret (.var 1))
  .nil)))
theorem uW:YC KY yL XQ lI (bI 20)=true:=by kernel_rfl
def iU:List Str:=["_law_script","_law_most","_law_seed","_law_m","_law_names_here","_law_edges","_law_k","_law_cell_here","_law_j","_law_n","_law_one","_law_other","_law_starts","_law_name"]
def fK:List Str:=["_law_script","_law_most"]
def j5:Need:=⟨["_law_fold","_law_mixed","_law_names"],[],["enumerate","range","len"]⟩
noncomputable def uF:PT :=
  (.seq (.ife (.cmp .Eq (.bin .Mod (.bin .FloorDiv (.var 9) (.int 256)) (.idx (.lst (.nq (.int 1) (.nq (.int 2) (.nq (.int 4) .nr)))) (.bin .Mod (.bin .FloorDiv (.var 3) (.int 27)) (.int 3)))) (.int 0)) (.seq (.expr (.mt .append (.var 5) (.nq (.tup (.nq (.idx (.var 4) (.var 10)) (.nq (.idx (.var 4) (.var 11)) .nr))) .nr)))
  .nil) .nil)
  .nil)
noncomputable def BI:PT :=
  (.seq (.set 9 (.call "_law_mixed" (.nq (.bin .Add (.var 2) (.var 7)) (.nq (.bin .Add (.bin .Add (.bin .Mult (.int 2) (.var 6)) (.var 8)) (.int 20)) .nr))))
  (.seq (.set 10 (.bin .Mod (.var 9) (.bi .len (.nq (.var 4) .nr))))
  (.seq (.set 11 (.bin .Mod (.bin .FloorDiv (.var 9) (.int 16)) (.bi .len (.nq (.var 4) .nr))))
  (.seq (.ife (.cmp .Gt (.bin .Mod (.bin .FloorDiv (.var 3) (.int 9)) (.int 3)) (.int 0)) (.seq (.set 11 (.bin .Mod (.bin .Add (.bin .Add (.var 10) (.int 1)) (.bin .Mod (.bin .FloorDiv (.var 9) (.int 16)) (.int 3))) (.bi .len (.nq (.var 4) .nr))))
  .nil) .nil)
  uF))))
def UI:PT :=
  (.seq (.for_ (.nm 8) .rng1 (.nq (.bin .Add (.int 1) (.bin .Mod (.bin .FloorDiv (.var 3) (.int 5000)) (.int 2))) .nr) BI)
  .nil)
noncomputable def XI:PT :=
  (.seq (.ife (.cmp .Eq (.bin .Mod (.call "_law_mixed" (.nq (.var 2) (.nq (.bin .Add (.int 200) (.var 6)) .nr))) (.idx (.lst (.nq (.int 2) (.nq (.int 3) (.nq (.int 2) (.nq (.int 6) .nr))))) (.bin .Mod (.bin .FloorDiv (.var 3) (.int 81)) (.int 4)))) (.int 0)) (.seq (.expr (.mt .append (.var 12) (.nq (.var 13) .nr)))
  .nil) .nil)
  .nil)
def cH:PT :=
  (.seq (.frz [5,12] (.ret (.tup (.nq (.var 4) (.nq (.var 5) (.nq (.var 12) (.nq (.idx (.var 4) (.bin .Mod (.bin .FloorDiv (.var 3) (.int 1296)) (.bi .len (.nq (.var 4) .nr)))) .nr)))))))
  .nil)
noncomputable def uO:PT :=
  (.seq (.set 2 (.call "_law_fold" (.nq (.var 0) .nr)))
  (.seq (.set 3 (.call "_law_mixed" (.nq (.var 2) (.nq (.int 1) .nr))))
  (.seq (.set 4 (.call "_law_names" (.nq (.var 2) (.nq (.bin .Add (.int 2) (.bin .Mod (.var 3) (.bin .Sub (.var 1) (.int 1)))) .nr))))
  (.seq (.own 5 (.lst .nr))
  (.seq (.for_ (.tp [6,7]) .enum (.nq (.slc (.var 0) .nop (.int 63)) .nr) UI)
  (.seq (.own 12 (.lst .nr))
  (.seq (.for_ (.tp [6,13]) .enum (.nq (.var 4) .nr) XI)
  (.seq (.ife (.cmp .Eq (.bin .Mod (.bin .FloorDiv (.var 3) (.int 324)) (.int 4)) (.int 0)) (.seq (.own 12 (.bin .Add (.var 12) (.slc (.var 12) .nop (.int 1))))
  .nil) .nil)
  cH))))))))
theorem DZ:YC j5 uO iU fK (bI 21)=true:=by kernel_rfl
def VM:List Str:=["_law_script","_law_names_here","_law_seed","_law_m","_law_needs_here","_law_k","_law_name","_law_n","_law_cut"]
def OG:List Str:=["_law_script","_law_names_here"]
def aV:Need:=⟨["_law_fold","_law_mixed"],[],["enumerate","len"]⟩
noncomputable def ID:PT :=
  (.seq (.set 7 (.call "_law_mixed" (.nq (.var 2) (.nq (.bin .Add (.int 600) (.var 5)) .nr))))
  (.seq (.expr (.mt .append (.var 4) (.nq (.tup (.nq (.var 6) (.nq (.bin .Add (.int 1) (.idx (.lst (.nq (.int 0) (.nq (.bin .Mod (.var 7) (.int 2)) (.nq (.bin .Mod (.var 7) (.int 3)) (.nq (.bin .Mod (.var 7) (.int 5)) .nr))))) (.bin .Mod (.var 3) (.int 4)))) .nr))) .nr)))
  .nil))
def bF:PT :=
  (.seq (.ret (.var 4))
  .nil)
noncomputable def DI:PT :=
  (.seq (.set 2 (.call "_law_fold" (.nq (.var 0) .nr)))
  (.seq (.set 3 (.call "_law_mixed" (.nq (.var 2) (.nq (.int 3) .nr))))
  (.seq (.own 4 (.lst .nr))
  (.seq (.for_ (.tp [5,6]) .enum (.nq (.var 1) .nr) ID)
  (.seq (.set 8 (.bin .Mod (.bin .FloorDiv (.var 3) (.int 4)) (.bi .len (.nq (.var 1) .nr))))
  (.seq (.own 4 (.bin .Add (.slc (.var 4) (.var 8) .nop) (.slc (.var 4) .nop (.var 8))))
  (.seq (.ife (.cmp .Eq (.bin .Mod (.bin .FloorDiv (.var 3) (.int 64)) (.int 2)) (.int 1)) (.seq (.expr (.mt .reverse (.var 4) .nr))
  .nil) .nil)
  bF)))))))
theorem dS:YC aV DI VM OG (bI 22)=true:=by kernel_rfl
def KM:List Str:=["_law_found"]
def NG:List Str:=["_law_found"]
def tV:Need:=⟨[],[],["isinstance","list","all","str"]⟩
noncomputable def CI:PT :=
  (.seq (.ife (.not (.isi (.var 0) (.bty "list" "list"))) (.seq (.ret (.bl false))
  .nil) .nil)
  (.seq (.ret (.bi .all (.nq (.comp [] ["_law_name"] (.nm 0) .val (.nq (.var 0) .nr) .nop (.isi (.var 0) (.bty "str" "str"))) .nr)))
  .nil))
theorem cS:YC tV CI KM NG (bI 23)=true:=by kernel_rfl
def BM:List Str:=["_law_chain_here","_law_edges","_law_starts","_law_goal"]
def AG:List Str:=["_law_chain_here","_law_edges","_law_starts","_law_goal"]
def JV:Need:=⟨["_law_texts"],[],["len","set","all","range"]⟩
noncomputable def LI:PT :=
  (.seq (.ife (.or (.not (.call "_law_texts" (.nq (.var 0) .nr))) (.or (.cmp .Eq (.bi .len (.nq (.var 0) .nr)) (.int 0)) (.or (.cmp .NotIn (.idx (.var 0) (.int 0)) (.var 2)) (.cmp .In (.var 3) (.var 0))))) (.seq (.ret (.bl false))
  .nil) .nil)
  (.seq (.ife (.or (.cmp .NotEq (.lset (.var 0)) (.bi .len (.nq (.var 0) .nr))) (.cmp .NotIn (.tup (.nq (.idx (.var 0) (.neg (.int 1))) (.nq (.var 3) .nr))) (.var 1))) (.seq (.ret (.bl false))
  .nil) .nil)
  (.seq (.ret (.bi .all (.nq (.comp [] ["_law_k"] (.nm 0) .rng1 (.nq (.bin .Sub (.bi .len (.nq (.var 0) .nr)) (.int 1)) .nr) .nop (.cmp .In (.tup (.nq (.idx (.var 1) (.var 0)) (.nq (.idx (.var 1) (.bin .Add (.var 0) (.int 1))) .nr))) (.var 2))) .nr)))
  .nil)))
theorem mS:YC JV LI BM AG (bI 24)=true:=by kernel_rfl
def CM:List Str:=["_law_chains","_law_met","_law_chain_here"]
def EG:List Str:=["_law_chains"]
def YV:Need:=⟨[],[],["list","len","set"]⟩
def AF:PT :=
  (.seq (.set 1 (.bin .Add (.var 1) (.bi .list (.nq (.var 2) .nr))))
  .nil)
def MI:PT :=
  (.seq (.set 1 (.lst .nr))
  (.seq (.for_ (.nm 2) .val (.nq (.var 0) .nr) AF)
  (.seq (.ret (.cmp .Eq (.lset (.var 1)) (.bi .len (.nq (.var 1) .nr))))
  .nil)))
theorem oS:YC YV MI CM EG (bI 25)=true:=by kernel_rfl
def cL:List Str:=["_law_ground_here","_law_edges","_law_seers","_law_needs_here","_law_ahead","_law_row","_law_chain_here"]
def KF:List Str:=["_law_ground_here","_law_edges","_law_seers","_law_needs_here"]
def JR:Need:=⟨["_law_apart","_law_chain"],[],["isinstance","list","str","len","tuple","dict","any"]⟩
noncomputable def cF:PT :=
  (.seq (.ife (.or (.not (.call "_law_chain" (.nq (.var 6) (.nq (.var 1) (.nq (.var 2) (.nq (.idx (.var 5) (.int 0)) .nr)))))) (.bi .any (.nq (.comp [] ["_law_name"] (.nm 0) .val (.nq (.var 6) .nr) .nop (.cmp .NotIn (.var 0) (.var 5))) .nr))) (.seq (.ret (.bl false))
  .nil) .nil)
  .nil)
def mE:PT :=
  (.seq (.for_ (.nm 6) .val (.nq (.idx (.var 5) (.int 1)) .nr) cF)
  (.seq (.expr (.mt .append (.var 4) (.nq (.idx (.var 5) (.int 0)) .nr)))
  .nil))
noncomputable def TH:PT :=
  (.seq (.ife (.or (.not (.isi (.var 5) (.bty "tuple" "tuple"))) (.or (.cmp .NotEq (.bi .len (.nq (.var 5) .nr)) (.int 2)) (.not (.isi (.idx (.var 5) (.int 0)) (.bty "str" "str"))))) (.seq (.ret (.bl false))
  .nil) .nil)
  (.seq (.ife (.or (.cmp .In (.idx (.var 5) (.int 0)) (.var 4)) (.or (.cmp .NotIn (.idx (.var 5) (.int 0)) (.dof (.var 3))) (.not (.isi (.idx (.var 5) (.int 1)) (.bty "list" "list"))))) (.seq (.ret (.bl false))
  .nil) .nil)
  (.seq (.ife (.cmp .In (.idx (.var 5) (.int 0)) (.var 2)) (.seq (.ife (.cmp .NotEq (.idx (.var 5) (.int 1)) (.lst .nr)) (.seq (.ret (.bl false))
  .nil) .nil)
  .nil) (.seq (.ife (.or (.cmp .NotEq (.bi .len (.nq (.idx (.var 5) (.int 1)) .nr)) (.idx (.dof (.var 3)) (.idx (.var 5) (.int 0)))) (.not (.call "_law_apart" (.nq (.idx (.var 5) (.int 1)) .nr)))) (.seq (.ret (.bl false))
  .nil) .nil)
  .nil))
  mE)))
noncomputable def dH:PT :=
  (.seq (.ife (.not (.isi (.var 0) (.bty "list" "list"))) (.seq (.ret (.bl false))
  .nil) .nil)
  (.seq (.own 4 (.lst .nr))
  (.seq (.for_ (.nm 5) .val (.nq (.var 0) .nr) TH)
  (.seq (.ret (.bl true))
  .nil))))
theorem pQ:YC JR dH cL KF (bI 26)=true:=by kernel_rfl
def O7:List Str:=["_law_script","_law_names_here","_law_edges","_law_starts","_law_goal","_law_seers","_law_needs_here","_law_handed","_law_found","_law_held","_law_row"]
def bR:List Str:=["_law_script"]
def Ce:Need:=⟨["_law_web","_law_needs","ground_by","_law_ground"],[],["sorted","set","list","len","isinstance","tuple"]⟩
def oU:PT :=
  (.seq (.expr (.mt .append (.idx (.var 10) (.int 1)) (.nq (.str "more") .nr)))
  .nil)
noncomputable def OZ:PT :=
  (.seq (.tset [1,2,3,4] (.call "_law_web" (.nq (.var 0) (.nq (.int 10) .nr))))
  (.seq (.set 5 (.sset (.var 3)))
  (.seq (.set 6 (.call "_law_needs" (.nq (.var 0) (.nq (.var 1) .nr))))
  (.seq (.set 7 (.lst (.nq (.bi .list (.nq (.var 2) .nr)) (.nq (.bi .list (.nq (.var 5) .nr)) (.nq (.bi .list (.nq (.var 6) .nr)) .nr)))))
  (.seq (.own 8 (.call "ground_by" (.nq (.idx (.var 7) (.int 0)) (.nq (.idx (.var 7) (.int 1)) (.nq (.idx (.var 7) (.int 2)) .nr)))))
  (.seq (.ife (.or (.not (.isi (.var 8) (.bty "tuple" "tuple"))) (.or (.cmp .NotEq (.bi .len (.nq (.var 8) .nr)) (.int 2)) (.not (.call "_law_ground" (.nq (.idx (.var 8) (.int 0)) (.nq (.var 2) (.nq (.var 5) (.nq (.var 6) .nr)))))))) (.seq (.ret (.bl false))
  .nil) .nil)
  (.seq (.set 9 (.bi .sorted (.nq (.comp [false,false,false,false,false,false,false,false,false,false,true] ["_law_row"] (.nm 0) .val (.nq (.idx (.var 8) (.int 0)) .nr) .nop (.idx (.var 0) (.int 0))) .nr)))
  (.seq (.hs (.for_ (.nm 10) .val (.nq (.bin .Add (.bi .list (.nq (.idx (.var 8) (.int 0)) .nr)) (.bi .list (.nq (.idx (.var 8) (.int 1)) .nr))) .nr) oU))
  (.seq (.hs (.expr (.mt .append (.idx (.var 8) (.int 0)) (.nq (.str "more") .nr))))
  (.seq (.hs (.expr (.mt .append (.idx (.var 8) (.int 1)) (.nq (.str "more") .nr))))
  (.seq (.ife (.cmp .NotEq (.var 7) (.lst (.nq (.var 2) (.nq (.var 5) (.nq (.var 6) .nr))))) (.seq (.ret (.bl false))
  .nil) .nil)
  (.seq (.ret (.cmp .Eq (.bi .sorted (.nq (.comp [false,false,false,false,false,false,false,false,false,false,true] ["_law_row"] (.nm 0) .val (.nq (.idx (.call "ground_by" (.nq (.idx (.var 7) (.int 0)) (.nq (.idx (.var 7) (.int 1)) (.nq (.idx (.var 7) (.int 2)) .nr)))) (.int 0)) .nr) .nop (.idx (.var 0) (.int 0))) .nr)) (.var 9)))
  .nil))))))))))))
theorem Ra:YC Ce OZ O7 bR (bI 27)=true:=by kernel_rfl
def bB:PSp where
 md:=[]
 run:=λx Q _=>∃c k:Int,x=[.d (.int c),.d (.int k)]/\(0<=k/\k<=1000)/\∀v:Int,0<=v->Q (.d (.int v)) []
 mono:=λh _ z=>by obtain⟨c,k,e,l,q⟩:=z;exact⟨c,k,e,l,λv hv=>h _ _ (q v hv)⟩
theorem gD:xD bB [.d (.int c),.d (.int k)] K E=((0<=k/\k<=1000)/\∀v:Int,0<=v->K (.d (.int v)) []):=propext ⟨λ⟨_,_,e,q⟩=>by cases e;exact q,λq=>⟨c,k,rfl,q⟩⟩
theorem cY(ds Q E)(h:bB.run ds Q E):ds.length=SG.length/\xA Ψ (λ_=>False) HI (NA bB SG.length Q) (nA UM bB.md ds):=by obtain⟨c,k,rfl,⟨u,z⟩,q⟩:=h;refine XA [some (.nv (.d (.int c))),some (.nv (.d (.int k))),none] rfl rfl rfl ?_;delta HI;simp?[↓vA];have a:=Qk c (show(2147483647:Int)≠0 by decide);have b:=Qj c (show(0:Int)<2147483647 by decide);have y:0<=(c % 2147483647 * 48271+(k * k+3 * k+7) * 69621) % 2147483647:=Qk _ (by decide);have x:(c % 2147483647 * 48271+(k * k+3 * k+7) * 69621) % 2147483647<2147483647:=Qj _ (by decide);exact⟨FL.ok (.inr ⟨by omega,by omega⟩),FL.ok (.inr ⟨by omega,by omega⟩),FL.ok (.inr ⟨by omega,by omega⟩),FL.ok (.inr ⟨by omega,by omega⟩),FL.ok (.inl ⟨by omega,by omega⟩),q _ (Qk _ (by decide))⟩
def ND:PSp where
 md:=[.kq]
 run:=λx Q _=>∃ns:List Int,x=[.lst ((ns.map PyData.int).map T.d)]/\∀v:Int,Q (.d (.int v)) []
 mono:=λh _ z=>by obtain⟨ns,e,q⟩:=z;exact⟨ns,e,λv=>h _ _ (q v)⟩
theorem AO{ns:List Int}:xD ND [.lst ((ns.map PyData.int).map T.d)] K E=∀v:Int,K (.d (.int v)) []:=propext ⟨λ⟨h,e,q⟩=>q,λq=>⟨ns,rfl,q⟩⟩
theorem V4(ds Q E)(h:ND.run ds Q E):ds.length=lI.length/\xA Ψ (λ_=>False) yL (NA ND lI.length Q) (nA XQ ND.md ds):=by obtain⟨ns,rfl,q⟩:=h;refine XA [some (.nv (.lst ((ns.map PyData.int).map T.d))),none,none] rfl rfl rfl ?_;delta yL;simp?[↓vA];rw[<- xB];refine VB (λ(n:Int)=>T.d (.int n)) (λl y=>∃a o,0<=a/\a<2147483647/\y=[some (.nv (.lst ((ns.map PyData.int).map T.d))),some (.nv (.d (.int a))),o]) ?_ ?_ _ _ ⟨0,_,by decide,by decide,by rw[xB]⟩;rintro y ⟨a,o,_,_,rfl⟩;simp?[↓vA];exact q a;rintro x l y N z ⟨a,o,f,u,rfl⟩;delta jL;simp?[↓vA];exact⟨FL.ok (.inr ⟨by decide,by decide⟩),z _ ⟨_,_,Qk _ (by decide),Qj _ (by decide),rfl⟩⟩
def B4(s:Str):Prop:=s.length<=9/\∀c∈s.cps.toList,c<128
theorem IV(xs:List (Array Nat)):∀(h:Array Nat),(xs.foldl (·++·) h).toList=h.toList++(xs.map QB1).flatten:=by
 induction xs with|nil=>intro h;simp|cons a xs x=>intro h;rw[WL,x];simp
theorem kK(x:Str)(k:Int):(eG x k).cps.toList=(Qx k.toNat x.cps.toList).flatten:=by
 unfold eG Txt.mul;split;rename_i h;have:k.toNat=0:=by omega
 rw[this];rfl;rename_i h;split;rename_i y;rw[wV]at y;rcases y with y|y;have:k=1:=by simpa using y
 subst this;simp;have z:x.length=0:=by simpa using y
 have:x.cps.toList=[]:=by
  have:x.cps.toList.length=0:=by rw[QX];exact z
  exact qu.mp this
 rw[this];simp;show((Qx k.toNat x.cps).foldl (·++·) #[]).toList=_;rw[IV];simp
theorem V8{c:Nat}(hc:c<128)(hk:k<=9):B4 (eG ⟨#[c]⟩ k):=by
 have h:=kK ⟨#[c]⟩ k;have e:(Qx k.toNat ([c]:List Nat)).flatten=Qx k.toNat c:=by
  generalize k.toNat=n;induction n with|zero=>rfl|succ n z=>rw[wA,wB,z,wA];rfl
 have h:(eG ⟨#[c]⟩ k).cps.toList=Qx k.toNat c:=h.trans e;refine⟨?_,λx y=>?_⟩;have:=congrArg qp h;rw[QX,qg]at this;show(eG ⟨#[c]⟩ k).cps.size<=9;omega;rw[h]at y;rw[List.eq_of_mem_replicate y];exact hc
theorem xH:∀(X:List Str),(QCL (Qh "") X).cps.toList=(X.map λy=>y.cps.toList).flatten
 |[]=>rfl|[y]=>by simp[QCL]|y::z::r=>by have h:=xH (z::r);show((y.cps++(Qh "").cps)++(QCL (Qh "") (z::r)).cps).toList=_;rw[QBW,QBW,h,show(Qh "").cps.toList=[] by decide +kernel,wG];rfl
def one(y:Str):Prop:=∃c,c<128/\y=⟨#[c]⟩
theorem K5(hl:X.length<=9)(h:∀y∈X,one y):B4 (QAJ (Qh "") X):=by
 have e:(QAJ (Qh "") X).cps.toList=(X.map λy=>y.cps.toList).flatten:=by rw[show QAJ (Qh "") X=QCL (Qh "") X from QBD _ _];exact xH X
 have f:∀(X:List Str),(∀y∈X,one y)->((X.map λy=>y.cps.toList).flatten).length=X.length/\∀c∈(X.map λy=>y.cps.toList).flatten,c<128:=by
  intro X;induction X with
  |nil=>intro _;exact⟨rfl,λc hc=>by simp at hc⟩|cons y r W =>
   intro h;obtain⟨B,A⟩:=W λz C=>h z (QG _ C);obtain⟨c,hc,rfl⟩:=h y QE;rw[QO,wB];refine⟨?_,λx u=>?_⟩;rw[QL,B,QM];show 1+r.length=r.length+1;omega;rcases Qf.mp u with u|u
   ·have:x=c:=by simpa using u
    rw[this];exact hc
   exact A x u
 obtain⟨o,j⟩:=f X h;refine⟨?_,by rw[e];exact j⟩;have:=congrArg qp e;rw[QX,o]at this;show(QAJ (Qh "") X).cps.size<=9;omega
noncomputable def oE:PSp where
 md:=[]
 run:=λf Q _=>∃c k:Int,f=[.d (.int c),.d (.int k)]/\(2<=k/\k<=10)/\∀ns:List Str,ns.length=k.toNat->(∀s∈ns,B4 s)->ns.Nodup->Q (.lst ((ns.map PyData.str).map T.d)) []
 mono:=λh _ z=>by obtain⟨c,k,e,l,q⟩:=z;exact⟨c,k,e,l,λns u y x=>h _ _ (q ns u y x)⟩
theorem OU(h:2<=k/\k<=10)(q:∀ns:List Str,ns.length=k.toNat->(∀s∈ns,B4 s)->ns.Nodup->K (.lst ((ns.map PyData.str).map T.d)) []):xD oE [.d (.int c),.d (.int k)] K E:=⟨c,k,rfl,h,q⟩
theorem Ef:(Qh "abcdefghijklmnpqrstvwxyz").cps.toList.length=24/\((Qh "abcdefghijklmnpqrstvwxyz").cps.toList.all λc=>decide (c<128))=true:=by decide +kernel
theorem EZ:(Qh "bcdfghjklmnpqrstvwxz").cps.toList.length=20/\((Qh "bcdfghjklmnpqrstvwxz").cps.toList.all λc=>decide (c<128))=true:=by decide +kernel
theorem Rk{K:Nat->Prop}(x:0<=i)(h:i<24)(k:∀c,c<128->K c):mC (LD (Qh "abcdefghijklmnpqrstvwxyz").cps.toList i) K :=
 D7 x (by rw[Ef.1];exact h) λv hv=>k v (of_decide_eq_true (qB.mp Ef.2 v hv))
theorem Sk{K:Nat->Prop}(x:0<=i)(h:i<20)(k:∀c,c<128->K c):mC (LD (Qh "bcdfghjklmnpqrstvwxz").cps.toList i) K :=
 D7 x (by rw[EZ.1];exact h) λv hv=>k v (of_decide_eq_true (qB.mp EZ.2 v hv))
theorem Pk{K:Nat->Prop}(y:0<=i)(x:i<20)(k:∀c,c<128->(Qh "bcdfghjklmnpqrstvwxz").cps.toList[i.toNat]?=some c->K c):mC (LD (Qh "bcdfghjklmnpqrstvwxz").cps.toList i) K:=by obtain⟨v,z,h⟩:=cO y (show i<((Qh "bcdfghjklmnpqrstvwxz").cps.toList.length:Int) by rw[EZ.1];exact x);exact⟨v,z,k v (of_decide_eq_true (qB.mp EZ.2 v (Q9 h))) h⟩
theorem Ri:(Qh "bcdfghjklmnpqrstvwxz").cps.toList.Nodup:=by decide +kernel
theorem Gj{j:Int}{c:Nat}(y:0<=i)(x:i<20)(h:0<=j)(a:(Qh "bcdfghjklmnpqrstvwxz").cps.toList[i.toNat]?=some c)(b:(Qh "bcdfghjklmnpqrstvwxz").cps.toList[j.toNat]?=some c):i=j:=by have:=(List.getElem?_inj (by rw[EZ.1];omega) Ri).mp (a.trans b.symm);omega
theorem J7:∀{X:List Str}{n c:Nat},(∀y∈X,one y)->X[n]?=some ⟨#[c]⟩->((X.map λy=>y.cps.toList).flatten)[n]?=some c
 |[],_,_,_,h=>(nomatch h)
 |y::r,n,c,h,e=>by
  obtain⟨d,_,rfl⟩:=h y QE;show(d::(r.map λy=>y.cps.toList).flatten)[n]?=_;cases n with|zero=>rw[QAo]at e ⊢;cases e;rfl|succ n=>rw[wy]at e ⊢;exact J7 (λz x=>h z (QG _ x)) e
theorem V5{c:Nat}(h:∀y∈X,one y)(e:X[n]?=some ⟨#[c]⟩):(QAJ (Qh "") X).cps.toList[n]?=some c:=by rw[show QAJ (Qh "") X=QCL (Qh "") X from QBD _ _,xH];exact J7 h e
theorem X8{c:Nat}:((qA k.toNat).map λ(i:Nat)=>eG ⟨#[c]⟩ (k - (i:Int))).Nodup:=by
 refine List.pairwise_map.mpr (wv (λ{a b} y hb x e=>?_) List.pairwise_lt_range);have h:∀n:Int,(eG ⟨#[c]⟩ n).cps.toList.length=n.toNat:=λn=>by rw[kK,List.length_flatten,List.map_replicate,List.sum_replicate_nat];show n.toNat * 1=_;omega
 have hb:=WT.mp hb;have:=congrArg (λs:Str=>s.cps.toList.length) e;simp only[h]at this;omega
theorem m7:(Qh "bcdfghjklmnpqrstvwxz").length<=sizeLine:=by decide +kernel
theorem Re:(Qh "abcdefghijklmnpqrstvwxyz").length<=sizeLine:=by decide +kernel
theorem KT(h:∀y∈X,one y){c:Nat}(hc:c<128):∀y∈X.set n ⟨#[c]⟩,one y:=λy x=>by rcases List.mem_or_eq_of_mem_set x with z|z;exact h y z;exact⟨c,hc,z⟩
theorem RS:∀{X:List Str},(∀y∈X,one y)->(X.map (·.length)).sum=X.length
 |[],_=>rfl|y::r,h=>by obtain⟨c,_,rfl⟩:=h y QE;rw[QO,List.sum_cons,RS λz x=>h z (QG _ x),QM];show 1+r.length=r.length+1;omega
noncomputable def Ve(c k m:Int)(c1:Nat)(sz h:Int)(ns:List Str)(o8 o9:Option Sl):zA:=[some (.nv (.d (.int c))),some (.nv (.d (.int k))),some (.nv (.d (.int m))),some (.nv (.d (.str ⟨#[c1]⟩))),some (.nv (.d (.str (Qh "bcdfghjklmnpqrstvwxz")))),some (.nv (.d (.int sz))),some (.nv (.d (.int h))),some (.own (.lst ((ns.map PyData.str).map T.d))),o8,o9]
theorem N4{sz h:Int}{o8 o9:Option Sl}{i:Nat}(H:0<=m)(hc:c1<128)(S:2<=sz)(P:sz<=8)(O:0<=h)(a1:h<sz)(hl:ns.length<=9)(q:∀s o,B4 s->(∃d,(Qh "bcdfghjklmnpqrstvwxz").cps.toList[((m / 4200+3 * (i:Int)) % 20).toNat]?=some d/\s.cps.toList[h.toNat]?=some d)->Z.nx (Ve c k m c1 sz h (ns++[s]) (some (.nv (.d (.int (i:Int))))) o)) :
  xA Ψ (λ_=>False) jE Z (Ve c k m c1 sz h ns (some (.nv (.d (.int (i:Int))))) o9):=by
 have hz:sizeLine=16777216:=QS;delta Ve at q ⊢;delta jE;simp?[↓vA];refine⟨by omega,by omega,YB (λ(i:Nat)=>T.d (.int (i:Int))) (λ_=>.d (.str ⟨#[c1]⟩)) _ _ _ (λx _ R M=>?_) (by rw[qX,Q6];omega) ?_⟩;simp?[↓vA];exact M;rw[Qw,xB];have N:(qA sz.toNat).map (λ_=>PyData.str ⟨#[c1]⟩)=((qA sz.toNat).map λ_=>(⟨#[c1]⟩:Str)).map PyData.str:=by rw[Qd];rfl
 rw[N];have A:∀y∈(qA sz.toNat).map λ_=>(⟨#[c1]⟩:Str),one y:=λy A=>by obtain⟨_,_,e⟩:=QY.mp A;exact⟨c1,hc,e.symm⟩
 have u:((qA sz.toNat).map λ_=>(⟨#[c1]⟩:Str)).length=sz.toNat:=by rw[QF,qX]
 generalize (qA sz.toNat).map (λ_=>(⟨#[c1]⟩:Str))=X at A u;refine⟨FL.ok (.inl ⟨by decide,by decide⟩),m7,Pk (Qk _ (by decide)) (Qj _ (by decide)) λW G B=>vd O (by rw[QF];omega) ?_⟩;rw[<- QB7];refine⟨m7,Sk (Qk _ (by decide)) (Qj _ (by decide)) λI F=>?_⟩;refine⟨by omega,vd (Qk _ (by omega)) (by rw[QF,qU,u];have:=Qj (h+1) (show 0<sz by omega);omega) ?_⟩;rw[<- QB7];have z:=KT (KT A (n:=h.toNat) G) (n:=((h+1) % sz).toNat) F;have C:((X.set h.toNat ⟨#[W]⟩).set ((h+1) % sz).toNat ⟨#[I]⟩).length=sz.toNat:=by rw[qU,qU,u]
 have j:((X.set h.toNat ⟨#[W]⟩).set ((h+1) % sz).toNat ⟨#[I]⟩)[h.toNat]?=some ⟨#[W]⟩:=by
  have J:((h+1) % sz).toNat≠h.toNat:=by by_cases d:h+1=sz;rw[d,Int.emod_self];omega;rw[Int.emod_eq_of_lt (by omega) (by omega)];omega
  rw[qO J,qZ (by omega)]
 generalize (X.set h.toNat ⟨#[W]⟩).set ((h+1) % sz).toNat ⟨#[I]⟩=zs at z C j;simp?[↓vA];refine⟨zs,rfl,by rw[RS z,show(Qh "").length=0 by decide +kernel];omega,?_⟩;have L:=K5 (by omega) z;have f:=q _ (some (.own (.lst ((zs.map PyData.str).map T.d)))) L ⟨W,B,V5 z j⟩;refine⟨?_,?_⟩;rw[QF,QF];omega;rw[QW,QW]at f;exact f
noncomputable def rG:PT :=
  (.seq (.set 5 (.bin .Add (.int 2) (.bin .Mod (.bin .FloorDiv (.var 2) (.int 75)) (.int 7))))
  (.seq (.set 6 (.bin .Mod (.bin .FloorDiv (.var 2) (.int 525)) (.var 5)))
  (.seq (.own 7 (.lst .nr))
  (.seq (.for_ (.nm 8) .rng1 (.nq (.var 1) .nr) jE)
  (.seq (.ret (.var 7))
  .nil)))))
noncomputable def eM:PT->PT:=λr =>
  (.seq (.set 2 (.call "_law_mixed" (.nq (.var 0) (.nq (.int 3) .nr))))
  (.seq (.set 3 (.idx (.str "abcdefghijklmnpqrstvwxyz") (.bin .Mod (.var 2) (.int 24))))
  (.seq (.set 4 (.str "bcdfghjklmnpqrstvwxz"))
  (.seq (.ife (.and (.cmp .Eq (.bin .Mod (.bin .FloorDiv (.var 2) (.int 25)) (.int 3)) (.int 0)) (.cmp .Lt (.var 1) (.int 9))) (.seq (.ret (.comp [false,false,false,false,false,false,false,false,true] ["_law_k"] (.nm 0) .rng1 (.nq (.var 1) .nr) .nop (.bin .Mult (.var 4) (.bin .Sub (.var 2) (.var 0)))))
  .nil) .nil)
  r))))
theorem YY:FI=eM rG:=rfl
theorem E4(S:0<=m)(k0:2<=k)(k1:k<=10)(hc:c1<128)(q:∀ns:List Str,ns.length=k.toNat->(∀s∈ns,B4 s)->ns.Nodup->Q (.lst ((ns.map PyData.str).map T.d)) []) :
  xA Ψ (λ_=>False) rG (eZ Q) [some (.nv (.d (.int c))),some (.nv (.d (.int k))),some (.nv (.d (.int m))),some (.nv (.d (.str ⟨#[c1]⟩))),some (.nv (.d (.str (Qh "bcdfghjklmnpqrstvwxz")))),none,none,none,none,none]:=by
 delta rG;simp?[↓vA];have s0:=Qk (m / 75) (show(7:Int)≠0 by decide);have s1:=Qj (m / 75) (show(0:Int)<7 by decide);have A:2<=2+m / 75 % 7:=by omega
 have W:2+m / 75 % 7<=8:=by omega
 generalize 2+m / 75 % 7=sz at A W;have R:=Qk (m / 525) (show sz≠0 by omega);have P:=Qj (m / 525) (show 0<sz by omega);generalize m / 525 % sz=av at R P;refine⟨by omega,Q5 _,by omega,by omega,VB (λ(i:Nat)=>T.d (.int (i:Int))) (λl G=>∃ns o8 o9,ns.length+l.length=k.toNat/\(∀s∈ns,B4 s)/\(∃n,l=List.range' ns.length n)/\ns.Nodup/\(∀s∈ns,∃(i:Nat) (d:Nat),i<ns.length/\(Qh "bcdfghjklmnpqrstvwxz").cps.toList[((m / 4200+3 * (i:Int)) % 20).toNat]?=some d/\s.cps.toList[av.toNat]?=some d)/\G=Ve c k m c1 sz av ns o8 o9) ?_ ?_ _ _ ⟨[],_,_,by rw[qX,Q6,QA3],λs B=>(nomatch B),⟨k.toNat,List.range_eq_range'⟩,Qy,λs B=>(nomatch B),rfl⟩⟩;rintro G ⟨ns,o8,o9,hl,u,_,nd,_,rfl⟩;delta Ve;simp?[↓vA];exact q ns (by rw[Q6]at hl;omega) u nd
 ·rintro i l G N H ⟨ns,o8,o9,hl,u,⟨n,f⟩,nd,C,rfl⟩
  obtain⟨ei,f⟩:i=ns.length/\∃n,l=List.range' (ns.length+1) n:=by
   cases n with|zero=>cases f|succ n=>rw[List.range'_succ]at f;exact⟨(List.cons.inj f).1,n,(List.cons.inj f).2⟩
  rw[QM]at hl;refine N4 (o8:=some (.nv (.d (.int (i:Int))))) (o9:=o9) S hc A W R P (by omega) λs o B M=>H _ ⟨ns++[s],_,_,by rw[QL,Ql];omega,λy h=>by rcases Qf.mp h with h|h;exact u y h;rw[QI.mp h];exact B,by rw[QL];exact f,?nd,?C,rfl⟩
  case nd=>obtain⟨d,L,J⟩:=M;refine qH.mpr ⟨nd,Qi.mpr ⟨WE,Qy⟩,λx z y h e=>?_⟩;rw[QI.mp h]at e;obtain⟨j,O,h1,I,F⟩:=C x z;rw[e,J]at F;cases F;have:=Gj (Qk _ (by decide)) (Qj _ (by decide)) (Qk _ (by decide)) L I;omega
  case C=>intro x z;rw[QL,Ql];rcases Qf.mp z with z|z;obtain⟨j,O,h1,I,F⟩:=C x z;exact⟨j,O,by omega,I,F⟩;obtain⟨d,L,J⟩:=M;rw[QI.mp z];exact⟨i,d,by omega,L,J⟩
theorem bY(B:Ψ.sp "_law_mixed"=bB)(ds Q E)(h:oE.run ds Q E):ds.length=RG.length/\xA Ψ (λ_=>False) FI (NA oE RG.length Q) (nA XM oE.md ds):=by
 obtain⟨c,k,rfl,⟨o,j⟩,q⟩:=h;refine XA [some (.nv (.d (.int c))),some (.nv (.d (.int k))),none,none,none,none,none,none,none,none] rfl rfl rfl ?_;rw[YY];have y:∀(m:Int) (c1:Nat),0<=m->c1<128->_:=λm c1 z hc=>E4 (Ψ:=Ψ) (c:=c) (m:=m) (c1:=c1) z o j hc q;generalize rG=r at y;delta eM;simp?[↓aA (md:=[]) B rfl rfl,↓gD];refine λm z=>⟨Re,Rk (Qk _ (by decide)) (Qj _ (by decide)) λc1 hc=>?_⟩
 have y:=y m c1 z hc;split;split
 ·rename_i f
  have f:=of_decide_eq_true f;have C:sizeLine=16777216:=QS;refine⟨by omega,by omega,YB (λ(i:Nat)=>T.d (.int (i:Int))) (λi=>.d (.str (eG ⟨#[c1]⟩ (k - (i:Int))))) _ _ _ (λx u R A=>?_) (by rw[qX,Q6];omega) ?_⟩;simp?[↓vA];have u:=WT.mp u;refine⟨by omega,by omega,?_,A⟩;show 1 * (k - (x:Int)).toNat<=sizeLine;omega;rw[Qw,xB];have:=q ((qA k.toNat).map λ(i:Nat)=>eG ⟨#[c1]⟩ (k - (i:Int))) (by rw[QF,qX]) λs W=>by obtain⟨i,_,rfl⟩:=QY.mp W;exact V8 hc (by omega)
  have this:=this X8;rw[show((qA k.toNat).map λ(i:Nat)=>eG ⟨#[c1]⟩ (k - (i:Int))).map PyData.str=(qA k.toNat).map λ(i:Nat)=>PyData.str (eG ⟨#[c1]⟩ (k - (i:Int))) by rw[Qd];rfl]at this;exact this
 exact y;exact y
def pr(p:Str×Str):D:=.tuple [.str p.1,.str p.2]
noncomputable def KU(sc h m:Sl)(ns:List Str)(es:iB)(o6 o7 o8 o9 o10 o11 Y o13:Option Sl):zA:=[some sc,some (.nv (.d (.int 10))),some h,some m,some (.nv (.d (.list (ns.map PyData.str)))),some (.own (.lst ((es.map pr).map T.d))),o6,o7,o8,o9,o10,o11,Y,o13]
theorem Bb{K:D->Prop}(y:0<=i)(x:i<ns.length)(k:∀s∈ns,K (.str s)):mC (LD (ns.map PyData.str) i) K :=
 aS y (by rw[QF];exact x) λv hv=>by obtain⟨s,h,rfl⟩:=QY.mp hv;exact k s h
theorem Sf{l:List Int}{K:D->Prop}(z:0<=i)(y:i<l.length)(x:∀s∈l,0<s)(k:∀s,0<s->K (.int s)):mC (LD (l.map PyData.int) i) K :=
 aS z (by rw[QF];exact y) λv hv=>by obtain⟨s,h,rfl⟩:=QY.mp hv;exact k s (x s h)
theorem k8{z:Sl}{n a b:Int}(hl:es.length<=200)(B:0<=a)(A:a<ns.length)(W:0<=b)(o:b<ns.length)
  (q:∀es',es'.length<=es.length+1->(∀p∈es',p∈es∨p.1∈ns/\p.2∈ns)->Z.nx (KU sc z (.nv (.d (.int m))) ns es' o6 o7 o8 (some (.nv (.d (.int n)))) (some (.nv (.d (.int a)))) (some (.nv (.d (.int b)))) Y o13)) :
  xA Ψ (λ_=>False) uF Z (KU sc z (.nv (.d (.int m))) ns es o6 o7 o8 (some (.nv (.d (.int n)))) (some (.nv (.d (.int a)))) (some (.nv (.d (.int b)))) Y o13):=by
 have C:sizeLine=16777216:=QS;delta KU at q ⊢;delta uF;simp?[↓vA];refine⟨by omega,Sf (l:=[1,2,4]) (Qk _ (by decide)) (Qj _ (by decide)) (by decide) λd j=>?_⟩;simp?[↓vA];refine⟨j,?_⟩;split;refine Bb B A λx f=>Bb W o λy u=>?_;refine⟨by omega,?_,?_⟩;rw[QF,QF];omega;have:=q (es++[(x,y)]) (by rw[QL];exact QU _) λp h=>by rcases Qf.mp h with h|h;exact .inl h;rw[QI.mp h];exact .inr ⟨f,u⟩
 rw[QW,QW]at this;exact this;exact q es (wR _) λp h=>.inl h
theorem Dc(z:Ψ.sp "_law_mixed"=bB){i j:Nat}(hl:es.length<=200)(F:0<ns.length)(I:i<63)(G:j<2)
  (q:∀es' o9 o10 o11,es'.length<=es.length+1->(∀p∈es',p∈es∨p.1∈ns/\p.2∈ns)->Z.nx (KU sc (.nv (.d (.int s))) (.nv (.d (.int m))) ns es' (some (.nv (.d (.int (i:Int))))) (some (.nv (.d (.int c)))) (some (.nv (.d (.int (j:Int))))) o9 o10 o11 Y o13)) :
  xA Ψ (λ_=>False) BI Z (KU sc (.nv (.d (.int s))) (.nv (.d (.int m))) ns es (some (.nv (.d (.int (i:Int))))) (some (.nv (.d (.int c)))) (some (.nv (.d (.int (j:Int))))) o9 o10 o11 Y o13):=by
 have C:sizeLine=16777216:=QS;have x:∀n a b:Int,0<=a->a<ns.length->0<=b->b<ns.length->xA Ψ (λ_=>False) uF Z (KU sc (.nv (.d (.int s))) (.nv (.d (.int m))) ns es (some (.nv (.d (.int (i:Int))))) (some (.nv (.d (.int c)))) (some (.nv (.d (.int (j:Int))))) (some (.nv (.d (.int n)))) (some (.nv (.d (.int a)))) (some (.nv (.d (.int b)))) Y o13):=λn a b B A W o=>k8 hl B A W o λes' f u=>q es' _ _ _ f u;have h:(0:Int)<ns.length:=by omega
 delta KU at x ⊢;delta BI;simp?[↓aA (md:=[]) z rfl rfl];refine⟨FL.ok (.inl ⟨by decide,by decide⟩),QCT gD ⟨⟨by omega,by omega⟩,λn y=>?_⟩⟩;simp?[QF];refine⟨h,h,?_⟩;split;exact⟨h,x _ _ _ (Qk _ (by omega)) (Qj _ h) (Qk _ (by omega)) (Qj _ h)⟩;exact x _ _ _ (Qk _ (by omega)) (Qj _ h) (Qk _ (by omega)) (Qj _ h)
theorem Cc(S:Ψ.sp "_law_mixed"=bB){i:Nat}(hl:es.length<=126)(M:0<ns.length)(P:i<63)
  (q:∀es' o8 o9 o10 o11,es'.length<=es.length+2->(∀p∈es',p∈es∨p.1∈ns/\p.2∈ns)->Z.nx (KU sc (.nv (.d (.int s))) (.nv (.d (.int m))) ns es' (some (.nv (.d (.int (i:Int))))) (some (.nv (.d (.int c)))) o8 o9 o10 o11 Y o13)) :
  xA Ψ (λ_=>False) UI Z (KU sc (.nv (.d (.int s))) (.nv (.d (.int m))) ns es (some (.nv (.d (.int (i:Int))))) (some (.nv (.d (.int c)))) o8 o9 o10 o11 Y o13):=by
 have hz:sizeLine=16777216:=QS;delta KU;delta UI;simp?[↓vA];have I:=Qk (m / 5000) (show(2:Int)≠0 by decide);have G:=Qj (m / 5000) (show(0:Int)<2 by decide);generalize m / 5000 % 2=t at I G;refine⟨by omega,by omega,VB (λ(j:Nat)=>T.d (.int (j:Int))) (λl y=>∃es' o8 o9 o10 o11,(∀j∈l,j<2)/\es'.length+l.length<=es.length+2/\(∀p∈es',p∈es∨p.1∈ns/\p.2∈ns)/\y=KU sc (.nv (.d (.int s))) (.nv (.d (.int m))) ns es' (some (.nv (.d (.int (i:Int))))) (some (.nv (.d (.int c)))) o8 o9 o10 o11 Y o13) ?_ ?_ _ _ ⟨es,_,_,_,_,λj O=>by have:=WT.mp O;omega,by rw[qX];omega,λp W=>.inl W,rfl⟩⟩;rintro y ⟨es',L,o,x,h,_,C,B,rfl⟩;exact q es' _ o x h (by rw[Q6]at C;omega) B;rintro j l y N R ⟨es',L,o,x,h,F,C,B,rfl⟩;rw[QM]at C;exact Dc (j:=j) (o9:=o) (o10:=x) (o11:=h) S (by omega) M P (F j QE) λA J f u f1 H=>R _ ⟨A,_,J,f,u,λk hk=>F k (QG _ hk),by omega,λp W=>by rcases H p W with z|z;exact B p z;exact .inr z,rfl⟩
noncomputable def J1(sc:Sl)(s m:Int)(ns:List Str)(es:iB)(st:List Str)(o6 o7 o8 o9 o10 o11 o13:Option Sl):zA:=[some sc,some (.nv (.d (.int 10))),some (.nv (.d (.int s))),some (.nv (.d (.int m))),some (.nv (.d (.list (ns.map PyData.str)))),some (.own (.lst ((es.map pr).map T.d))),o6,o7,o8,o9,o10,o11,some (.own (.lst ((st.map PyData.str).map T.d))),o13]
theorem Bc(f:Ψ.sp "_law_mixed"=bB){i:Nat}{x:Str}(hl:st.length<=10)(o:i<10)
  (y:Z.nx (J1 sc s m ns es st (some (.nv (.d (.int (i:Int))))) o7 o8 o9 o10 o11 (some (.nv (.d (.str x))))))
  (h:Z.nx (J1 sc s m ns es (st++[x]) (some (.nv (.d (.int (i:Int))))) o7 o8 o9 o10 o11 (some (.nv (.d (.str x)))))) :
  xA Ψ (λ_=>False) XI Z (J1 sc s m ns es st (some (.nv (.d (.int (i:Int))))) o7 o8 o9 o10 o11 (some (.nv (.d (.str x))))):=by
 have j:sizeLine=16777216:=QS;delta J1 at y h ⊢;delta XI;simp?[↓aA (md:=[]) f rfl rfl];refine QCT gD ⟨⟨by omega,by omega⟩,λn z=>?_⟩;simp?[↓vA];refine⟨by omega,Sf (l:=[2,3,2,6]) (Qk _ (by decide)) (Qj _ (by decide)) (by decide) λd u=>?_⟩;simp?[↓vA];refine⟨u,?_⟩;split;refine⟨by rw[QF,QF];omega,?_⟩;rw[QW,QW]at h;exact h;exact y
def IZ(ns:List Str)(es:iB)(st:List Str)(g:Str):Prop:=ns.length<=10/\(∀s∈ns,B4 s)/\es.length<=126/\(∀p∈es,p.1∈ns/\p.2∈ns)/\st.length<=11/\(∀s∈st,s∈ns)/\g∈ns
def v8(ns:List Str)(es:iB)(st:List Str)(g:Str):D:=.tuple [.list (ns.map PyData.str),.list (es.map pr),.list (st.map PyData.str),.str g]
theorem z8(f:0<ns.length)(q:∀g∈ns,Q (.d (v8 ns es st g)) []) :
  xA Ψ (λ_=>False) cH (eZ Q) (J1 sc s m ns es st o6 o7 o8 o9 o10 o11 o13):=by
 have u:sizeLine=16777216:=QS;have h:(0:Int)<ns.length:=by omega
 delta J1;delta cH;simp?[QF];have z:(T.lst ((es.map pr).map T.d)).er=.list (es.map pr):=by show PyData.list (ersT ((es.map pr).map T.d))=_;rw[KA]
 have y:(T.lst ((st.map PyData.str).map T.d)).er=.list (st.map PyData.str):=by show PyData.list (ersT ((st.map PyData.str).map T.d))=_;rw[KA]
 rw[z,y];exact⟨h,Bb (Qk _ (by omega)) (Qj _ h) λg x=>⟨by omega,q g x⟩⟩
theorem IN{α:Type}(l:List α)(k:Nat):(BD l none (some (k:Int))).length<=k:=by
 unfold BD;rw[qw];have:HT.sIx l.length l.length (some (k:Int))<=k:=by unfold HT.sIx;simp only;split<;>omega
 omega
theorem y6{α:Type}{l:List α}{a b:Option Int}{x:α}(h:x∈BD l a b):x∈l:=List.mem_of_mem_drop (QAF h)
theorem EN{α h:Type}(f:α->h)(l:List α)(a b:Option Int):BD (l.map f) a b=(BD l a b).map f:=by unfold BD;rw[QF,List.map_take,List.map_drop]
theorem HQ{α:Type}{l:List α}{p:α×Nat}(h:p∈l.zipIdx):p.2<l.length/\p.1∈l:=by have h:=List.mem_zipIdx_iff_getElem?.mp h;exact⟨(Qe.mp h).1,Q9 h⟩
noncomputable def DG:PSp where
 md:=[.kq]
 run:=λy Q _=>∃x:List Int,y=[.lst ((x.map PyData.int).map T.d),.d (.int 10)]/\∀ns es st g,IZ ns es st g->ns.Nodup->Q (.d (v8 ns es st g)) []
 mono:=λh _ z=>by obtain⟨x,e,q⟩:=z;exact⟨x,e,λns es st g w n=>h _ _ (q ns es st g w n)⟩
theorem V2{cs:List Int}(q:∀ns es st g,IZ ns es st g->ns.Nodup->K (.d (v8 ns es st g)) []):xD DG [.lst ((cs.map PyData.int).map T.d),.d (.int 10)] K E:=⟨cs,rfl,q⟩
theorem t9(h0:Ψ.sp "_law_fold"=ND)(I:Ψ.sp "_law_mixed"=bB)(h2:Ψ.sp "_law_names"=oE)(ds Q E)(h:DG.run ds Q E):ds.length=fK.length/\xA Ψ (λ_=>False) uO (NA DG fK.length Q) (nA iU DG.md ds):=by
 obtain⟨o,rfl,q⟩:=h;have hz:sizeLine=16777216:=QS;refine XA [some (.nv (.lst ((o.map PyData.int).map T.d))),some (.nv (.d (.int 10))),none,none,none,none,none,none,none,none,none,none,none,none] rfl rfl rfl ?_;delta uO;simp?[↓aA (md:=[.kq]) h0 rfl rfl,↓aA (md:=[]) I rfl rfl,↓aA (md:=[]) h2 rfl rfl];refine QCT AO λv=>?_;simp?[↓aA (md:=[]) I rfl rfl,↓aA (md:=[]) h2 rfl rfl];refine QCT gD ⟨⟨by decide,by decide⟩,λm hm=>?_⟩;simp?[↓aA (md:=[]) h2 rfl rfl];have k0:=Qk m (show(10 - 1:Int)≠0 by decide);have k1:=Qj m (show(0:Int)<10 - 1 by decide);refine⟨by decide,OU ⟨by omega,by omega⟩ λns hnl hns hnd=>?_⟩;have hn9:ns.length<=10:=by omega
 have C:0<ns.length:=by omega
 simp?[↓vA];rw[EN];refine⟨Q5 _,VB (λ(p:D×Nat)=>T.d (.tuple [.int (p.2:Int),p.1])) (λl f=>∃es o6 o7 o8 o9 o10 o11,(∀p∈l,p.2<63/\∃c,p.1=.int c)/\es.length+2 * l.length<=126/\(∀p∈es,p.1∈ns/\p.2∈ns)/\f=KU (.nv (.lst ((o.map PyData.int).map T.d))) (.nv (.d (.int v))) (.nv (.d (.int m))) ns es o6 o7 o8 o9 o10 o11 none none) ?_ ?_ _ _ ⟨[],_,_,_,_,_,_,λp u=>?_,?_,λp u=>(nomatch u),rfl⟩⟩;rintro f ⟨es,o6,o7,o8,o9,o10,o11,_,el,j,rfl⟩;delta KU;simp?[↓vA];refine⟨Q5 _,VB (λ(p:D×Nat)=>T.d (.tuple [.int (p.2:Int),p.1])) (λl f=>∃st o6 o13,(∀p∈l,p.2<10/\∃x∈ns,p.1=.str x)/\st.length+l.length<=10/\(∀s∈st,s∈ns)/\f=J1 (.nv (.lst ((o.map PyData.int).map T.d))) v m ns es st o6 (mF o7) o8 o9 o10 o11 o13) ?_ ?_ _ _ ⟨[],_,_,λp u=>?_,?_,λp u=>(nomatch u),rfl⟩⟩;rintro f ⟨st,P,B,_,L,W,rfl⟩;rw[Q6]at L;have hr:=λ(st:List Str) (s1:st.length<=11) (s2:∀s∈st,s∈ns)=>z8 (Ψ:=Ψ) (sc:=.nv (.lst ((o.map PyData.int).map T.d))) (s:=v) (m:=m) (es:=es) (st:=st) (o6:=mF P) (o7:=mF o7) (o8:=o8) (o9:=o9) (o10:=o10) (o11:=o11) (o13:=mF B) C λg hg=>q ns es st g ⟨hn9,hns,by rw[Q6]at el;omega,j,s1,s2,hg⟩ hnd;unfold J1 at hr;delta J1;simp?[↓vA];split;rw[EN];have c1:=IN st 1;refine⟨by rw[QF,QF];show st.length+(BD st none (some ((1:Nat):Int))).length<=_;omega,?_⟩;have:=hr (st++BD st none (some 1)) (by rw[QL];show st.length+(BD st none (some ((1:Nat):Int))).length<=_;omega) λs H=>by rcases Qf.mp H with h|h;exact W s h;exact W s (y6 h)
 rw[QW]at this;exact this;exact hr st (by omega) W;rintro⟨x,i⟩ l f N G ⟨st,P,B,A,L,W,rfl⟩;obtain⟨hi,y,hy,e⟩:=A _ QE;have e:x=.str y:=e;subst e;rw[QM]at L;refine mC.mk rfl ?_;exact Bc (i:=i) (x:=y) I (by omega) hi (G _ ⟨st,_,_,λp u=>A p (QG _ u),by omega,W,rfl⟩) (G _ ⟨st++[y],_,_,λp u=>A p (QG _ u),by rw[QL,Ql];omega,λs H=>by rcases Qf.mp H with h|h;exact W s h;rw[QI.mp h];exact hy,rfl⟩);obtain⟨F,J⟩:=HQ u;rw[QF]at F;obtain⟨x,hx,e⟩:=QY.mp J;exact⟨by omega,x,hx,e.symm⟩;rw[QBm,QF,Q6];omega;rintro⟨x,i⟩ l f N G ⟨es,P,p7,p8,p9,S,R,A,el,j,rfl⟩;obtain⟨hi,c,e⟩:=A _ QE;have e:x=.int c:=e;subst e;rw[QM]at el;refine mC.mk rfl ?_;exact Cc (i:=i) (c:=c) (o8:=p8) (o9:=p9) (o10:=S) (o11:=R) I (by omega) C hi λes' r8 r9 O M f1 f2=>G _ ⟨es',_,_,r8,r9,O,M,λp u=>A p (QG _ u),by omega,λp u=>by rcases f2 p u with z|z;exact j p z;exact z,rfl⟩;obtain⟨F,J⟩:=HQ u;have c1:=IN o 63;rw[QF]at F;obtain⟨x,hx,e⟩:=QY.mp J;exact⟨Qp F c1,x,e.symm⟩;have c1:=IN o 63;rw[QBm,QF,Q6];have c1:(BD o none (some 63)).length<=63:=c1;omega
theorem TN(a b:Str):Qz (.str a) (.str b)=decide (a=b):=by rw[qS,decide_eq_true_iff];simp[Qz]
theorem yE(l:List Str)(z:Str):((l.map PyData.str).any λy=>Qz y (.str z))=decide (z∈l):=by rw[QB8,qS,Wa,decide_eq_true_iff];constructor;rintro⟨x,u,e⟩;have e:Qz (.str x) (.str z)=true:=e;rw[TN,decide_eq_true_iff]at e;exact e▸u;intro h;exact⟨z,h,by show Qz (.str z) (.str z)=true;rw[TN];exact dT rfl⟩
theorem TC(l:List Str):(l.map PyData.str).all tB=true:=by rw[QB4,qB];exact λ_ _=>rfl
theorem M1{l:List Str}{z:Str}:PyData.str z∈l.map PyData.str↔z∈l:=by constructor;intro h;obtain⟨x,y,e⟩:=QY.mp h;cases e;exact y;exact We
def O5(g:Str)(cut:List Str)(s:Str):Bool:=!decide (s=g)&&!decide (s∈cut)
inductive Led(es:iB)(st:List Str)(g:Str)(cut:List Str):Str->Prop
 |st {s:Str}:s∈st->O5 g cut s=true->Led es st g cut s
 |ed {a b:Str}:Led es st g cut a->(a,b)∈es->O5 g cut b=true->Led es st g cut b
theorem AE:∀{ks ns:List Str},ks.Nodup->(∀s∈ks,s∈ns)->ks.length<=ns.length
 |[],_,_,_=>Q5 _|s::r,ns,h,hs=>by obtain⟨f,u⟩:=Qi.mp h;have z:=hs s QE;have:=AE (ks:=r) (ns:=ns.erase s) u λx y=>(QBJ (λ(e:x=s)=>f (e▸y))).mpr (hs x (QG _ y));rw[QAl z]at this;have j:=Wq z;rw[QM];omega
noncomputable abbrev Pt:=Str×Str
theorem uN(h:pr p=pr q):p=q:=by obtain⟨a,b⟩:=p;obtain⟨c,d⟩:=q;injection h with h;injection h with h1 h;injection h with h2 _;injection h1 with h1;injection h2 with h2;exact QCZ h1 h2
theorem mZ{x k:D}{r:List D}(h:x≠k):lA (x::r) k=(lA r k).map (·+1):=by unfold lA;rw[if_neg h];cases r<;>rfl
theorem Y7{x k:D}{r:List D}(h:x=k):lA (x::r) k=some 0:=by unfold lA;rw[if_pos h]
def look{α:Type}:List (Pt×α)->Pt->Option α
 |[],_=>none|e::l,p=>if e.1=p then some e.2 else look l p
def put{α:Type}:List (Pt×α)->Pt->α->List (Pt×α)
 |[],p,v=>[(p,v)]|e::l,p,v=>if e.1=p then(e.1,v)::l else e::put l p v
def RC{α:Type}(l:List (Pt×α)):List D:=l.map λe=>pr e.1
theorem YI{α:Type}{p:Pt}:∀{l:List (Pt×α)},look l p=none->lA (RC l) (pr p)=none/\∀w,put l p w=l++[(p,w)]
 |[],_=>⟨rfl,λ_=>rfl⟩|e::l,h=>by unfold look at h;by_cases c:e.1=p;rw[if_pos c]at h;cases h;rw[if_neg c]at h;obtain⟨y,x⟩:=YI h;refine⟨?_,λw=>?_⟩;show lA (pr e.1::RC l) (pr p)=none;rw[mZ (λz=>c (uN z)),y];rfl;show(if e.1=p then(e.1,w)::l else e::put l p w)=_;rw[if_neg c,x];rfl
theorem aC{α:Type}{p:Pt}{v:α}(f:α->T):∀{l:List (Pt×α)},look l p=some v->∃n,lA (RC l) (pr p)=some n/\(l.map λe=>f e.2)[n]?=some (f v)/\∀w,RC (put l p w)=RC l/\(l.map λe=>f e.2).set n (f w)=(put l p w).map λe=>f e.2
 |[],h=>by cases h|e::l,h=>by unfold look at h;by_cases c:e.1=p;rw[if_pos c]at h;injection h with h;refine⟨0,?_,?_,λw=>?_⟩;exact Y7 (congrArg pr c);show some (f e.2)=_;rw[h];have:put (e::l) p w=(e.1,w)::l:=if_pos c;rw[this];exact⟨rfl,rfl⟩;rw[if_neg c]at h;obtain⟨n,o,j,u⟩:=aC f h;refine⟨n+1,?_,j,λw=>?_⟩;show lA (pr e.1::RC l) (pr p)=some (n+1);rw[mZ (λz=>c (uN z)),o];rfl;have:put (e::l) p w=e::put l p w:=if_neg c;rw[this];obtain⟨y,x⟩:=u w;refine⟨?_,?_⟩;show pr e.1::RC (put l p w)=pr e.1::RC l;rw[y];show f e.2::(l.map λe=>f e.2).set n (f w)=f e.2::(put l p w).map λe=>f e.2;rw[x]
theorem VD{α:Type}{p q:Pt}{w:α}:∀{l:List (Pt×α)},look (put l p w) q=if p=q then some w else look l q
 |[]=>rfl|e::l=>by
  by_cases c:e.1=p;have h:put (e::l) p w=(e.1,w)::l:=if_pos c;rw[h];show(if e.1=q then some w else look l q)=if p=q then some w else(if e.1=q then some e.2 else look l q)
  rw[c];split<;>rfl;have h:put (e::l) p w=e::put l p w:=if_neg c;rw[h];show(if e.1=q then some e.2 else look (put l p w) q)=if p=q then some w else(if e.1=q then some e.2 else look l q)
  rw[VD];by_cases d:e.1=q;rw[if_pos d,if_pos d,if_neg (λz=>c (d.trans z.symm))];rw[if_neg d,if_neg d]
theorem lT{α:Type}{p:Pt}{w:α}:∀{l:List (Pt×α)},(put l p w).length<=l.length+1
 |[]=>QU _|e::l=>by by_cases c:e.1=p;rw[show put (e::l) p w=(e.1,w)::l from if_pos c,QM,QM];omega;have:=lT (p:=p) (w:=w) (l:=l);rw[show put (e::l) p w=e::put l p w from if_neg c,QM,QM];omega
theorem rC(p:Pt):pF true (pr p):=⟨[.inr p.1,.inr p.2],rfl⟩
noncomputable abbrev Inn:=List (Pt×Int)
noncomputable abbrev Rm:=List (Pt×Inn)
def UD(l:Inn):T:=.dct true (RC l) (l.map λe=>T.d (.int e.2))
def UA(r:Rm):T:=.dct true (RC r) (r.map λe=>UD e.2)
def sdf(r:Rm)(p:Pt):Rm:=match look r p with
 |some _=>r|none=>r++[(p,[])]
theorem vT{Q:T->Prop}(hl:r.length<sizeLine)(q:Q (UA (sdf r p))):Ud (.d (pr p)) (UA r) Q:=by
 refine⟨RC r,_,rfl,rC p,by unfold RC;rw[QF];exact hl,?_⟩;unfold sdf at q;cases h:look r p with
 |some v=>rw[h]at q;obtain⟨n,x,_⟩:=aC UD h;exact .inl ⟨n,x,q⟩|none =>
  rw[h]at q;refine .inr ⟨(YI h).1,?_⟩;have e:UA (r++[(p,[])])=.dct true (RC r++[pr p]) ((r.map λe=>UD e.2)++[.dct true [] []]):=by unfold UA RC;rw[QW,QW];rfl
  show Q (T.dct true (RC r++[pr p]) ((r.map λe=>UD e.2)++[.dct true [] []]));rw[<- e];exact q
theorem SM{Q:T->Prop}(hl:l.length<sizeLine)(q:Q (UD (put l p v))):ud (UD l) (.d (pr p)) (.d (.int v)) Q:=by
 refine⟨rC p,by unfold RC;rw[QF];exact hl,?_⟩;have e:uR true (RC l) (l.map λe=>T.d (.int e.2)) (pr p) (.d (.int v))=UD (put l p v):=by
  unfold uR;cases h:look l p with|none=>obtain⟨x,y⟩:=YI h;rw[x,y];unfold UD RC;rw[QW,QW];rfl|some u=>obtain⟨n,x,y,j⟩:=aC (λi:Int=>T.d (.int i)) h;rw[x];obtain⟨f,z⟩:=j v;show T.dct true (RC l) ((l.map λe=>T.d (.int e.2)).set n (T.d (.int v)))=_;unfold UD;rw[f,z]
 show Q (uR true (RC l) (l.map λe=>T.d (.int e.2)) (pr p) (.d (.int v)));rw[e];exact q
theorem sH{Q:T->(T->T)->Prop}(h:look r p=some l)(q:∀f:T->T,(∀x,f (UD x)=UA (put r p x))->Q (UD l) f):yd (.d (pr p)) (UA r) Q:=by obtain⟨n,o,j,u⟩:=aC UD h;refine⟨true,RC r,_,n,UD l,rfl,rC p,o,j,q _ λx=>?_⟩;obtain⟨z,y⟩:=u x;show T.dct true (RC r) ((r.map λe=>UD e.2).set n (UD x))=_;unfold UA;rw[z,y]
def ZA:Pt:=("","begin")
def tO(n:Str):Pt:=(n,"to")
def fR(n:Str):Pt:=(n,"from")
theorem Yi:("begin":Str)≠"to":=by decide +kernel
theorem Zi:("begin":Str)≠"from":=by decide +kernel
theorem ai:("to":Str)≠"from":=by decide +kernel
theorem OB:ZA≠tO a:=λh=>Yi (congrArg Prod.snd h)
theorem UE:ZA≠fR a:=λh=>Zi (congrArg Prod.snd h)
theorem MA:tO a≠fR b:=λh=>ai (congrArg Prod.snd h)
theorem BB(h:tO a=tO b):a=b:=congrArg qQ h
theorem uH(h:fR a=fR b):a=b:=congrArg qQ h
def rW(p q:Pt):Prop:=(p=ZA/\∃n,q=tO n)∨(∃n,p=tO n/\q=fR n)∨(∃a b,a≠b/\p=fR a/\q=tO b)
theorem yF(h:rW p q):¬ rW q p:=by
 rintro k;rcases h with⟨rfl,n,rfl⟩| ⟨n,rfl,rfl⟩| ⟨a,b,u,rfl,rfl⟩<;>rcases k with⟨x,m,y⟩| ⟨m,x,y⟩| ⟨c,d,z,x,y⟩
 exact OB x.symm;exact UE y;exact MA x;exact UE x.symm;exact MA x.symm;exact z ((uH x).symm.trans (BB y));exact OB x.symm;exact u ((uH y).trans (BB x).symm);exact MA x
theorem HF(h:rW p q):p≠q:=λe=>yF h (by rw[e]at h ⊢;exact h)
noncomputable abbrev Wy:=Pt×Pt×Int
def lk(r:Rm)(p:Pt):Inn:=(look r p).getD []
noncomputable def rB(r:Rm)(w:Wy):Rm:=put (put (sdf (sdf r w.1) w.2.1) w.1 (put (lk (sdf (sdf r w.1) w.2.1) w.1) w.2.1 w.2.2)) w.2.1 (put (lk (put (sdf (sdf r w.1) w.2.1) w.1 (put (lk (sdf (sdf r w.1) w.2.1) w.1) w.2.1 w.2.2)) w.2.1) w.1 0)
theorem ZP{α:Type}{p q:Pt}{v:α}:∀{l:List (Pt×α)},look (l++[(p,v)]) q=(look l q).or (if p=q then some v else none)
 |[]=>rfl|e::l=>by show(if e.1=q then some e.2 else look (l++[(p,v)]) q)=(if e.1=q then some e.2 else look l q).or (if p=q then some v else none);by_cases c:e.1=q;rw[if_pos c,if_pos c];rfl;rw[if_neg c,if_neg c];exact ZP
theorem JP:look (sdf r p) q=(look r q).or (if p=q then some [] else none):=by
 unfold sdf;cases h:look r p with
 |some v =>
  show look r q=_;cases y:look r q with
  |some x=>rfl|none =>
   show none=if p=q then some [] else none
   rw[if_neg];intro e;rw[e,y]at h;cases h
 |none=>show look (r++[(p,[])]) q=_;exact ZP
theorem jN:(sdf r p).length<=r.length+1:=by unfold sdf;split;omega;rw[QL,Ql];omega
theorem iH{α:Type}{p:Pt}{w:α}{e:Pt×α}:∀{l:List (Pt×α)},e∈put l p w->e=(p,w)∨e∈l
 |[],h=>.inl (QI.mp h)|x::l,h=>by by_cases c:x.1=p;rw[show put (x::l) p w=(x.1,w)::l from if_pos c]at h;rcases QK.mp h with h|h;exact .inl (by rw[h,c]);exact .inr (QG _ h);rw[show put (x::l) p w=x::put l p w from if_neg c]at h;rcases QK.mp h with h|h;exact .inr (by rw[h];exact QE);exact(iH h).imp_right (QG _)
theorem vN{α:Type}{p:Pt}{w:α}{q:Pt}:∀{l:List (Pt×α)},(∃v,(q,v)∈put l p w)↔q=p∨∃v,(q,v)∈l
 |[]=>by
  constructor;rintro⟨v,h⟩;exact .inl (congrArg qQ (QI.mp h));rintro(rfl|⟨v,h⟩)
  ·exact⟨w,QI.mpr rfl⟩
  exact(nomatch h)
 |x::l=>by
  by_cases c:x.1=p;rw[show put (x::l) p w=(x.1,w)::l from if_pos c];constructor;rintro⟨v,h⟩;rcases QK.mp h with h|h;exact .inl ((congrArg qQ h).trans c);exact .inr ⟨v,QG _ h⟩;rintro(rfl|⟨v,h⟩)
  ·exact⟨w,by rw[c];exact QE⟩
  rcases QK.mp h with h|h
  ·exact⟨w,by rw[<- h];exact QE⟩
  exact⟨v,QG _ h⟩;rw[show put (x::l) p w=x::put l p w from if_neg c];have y:=vN (p:=p) (w:=w) (q:=q) (l:=l);constructor;rintro⟨v,h⟩;rcases QK.mp h with h|h;exact .inr ⟨v,by rw[h];exact QE⟩;exact(y.mp ⟨v,h⟩).imp_right λ⟨v,h⟩=>⟨v,QG _ h⟩
  rintro(h|⟨v,h⟩)
  ·obtain⟨v,h⟩:=y.mpr (.inl h)
   exact⟨v,QG _ h⟩
  rcases QK.mp h with h|h
  ·exact⟨v,by rw[h];exact QE⟩
  obtain⟨v,h⟩:=y.mpr (.inr ⟨v,h⟩);exact⟨v,QG _ h⟩
def sW(r:Rm)(p q:Pt):Prop:=∃v,(q,v)∈lk r p
def Key(r:Rm)(p:Pt):Prop:=∃l,look r p=some l
def Pos(r:Rm):Prop:=∀p,∀e∈lk r p,(0<e.2↔rW p e.1)
def V0(r:Rm):Prop:=∀p q,sW r p q->Key r q
def Sz(r:Rm)(n:Nat):Prop:=r.length<=n/\∀p,(lk r p).length<=n
theorem dE:lk (put r p l) q=if p=q then l else lk r q:=by unfold lk;rw[VD];split<;>rfl
theorem cE:lk (sdf r p) q=lk r q:=by
 unfold lk;rw[JP];cases look r q with|some x=>rfl|none=>show(if p=q then some [] else none).getD []=[];split<;>rfl
theorem CH:Key (put r p l) q↔p=q∨Key r q:=by unfold Key;rw[VD];by_cases h:p=q;rw[if_pos h];exact⟨λ_=>.inl h,λ_=>⟨_,rfl⟩⟩;rw[if_neg h];exact⟨.inr,λz=>z.resolve_left h⟩
theorem SD:Key (sdf r p) q↔p=q∨Key r q:=by
 unfold Key;rw[JP];cases look r q with|some x=>exact⟨λ_=>.inr ⟨_,rfl⟩,λ_=>⟨_,rfl⟩⟩|none=>show(∃l,(if p=q then some [] else none)=some l)↔_;by_cases h:p=q;rw[if_pos h];exact⟨λ_=>.inl h,λ_=>⟨_,rfl⟩⟩;rw[if_neg h];exact⟨λ⟨_,e⟩=>(nomatch e),λz=>(z.resolve_left h)⟩
theorem UH(h:w.1≠w.2.1)(p:Pt):lk (rB r w) p=if w.2.1=p then put (lk r p) w.1 0 else if w.1=p then put (lk r p) w.2.1 w.2.2 else lk r p:=by unfold rB;rw[dE,dE,dE,cE,cE,cE,cE,if_neg h,cE,cE];by_cases y:w.2.1=p;rw[if_pos y,if_pos y,y];rw[if_neg y,if_neg y];by_cases x:w.1=p;rw[if_pos x,if_pos x,x];rw[if_neg x,if_neg x]
theorem MF:Key (rB r w) p↔p=w.1∨p=w.2.1∨Key r p:=by
 unfold rB;rw[CH,CH,SD,SD];constructor;rintro(h|h|h|h|h)
 ·exact .inr (.inl h.symm)
 exact .inl h.symm;exact .inr (.inl h.symm);exact .inl h.symm;exact .inr (.inr h);rintro(h|h|h)
 ·exact .inr (.inl h.symm)
 exact .inl h.symm;exact .inr (.inr (.inr (.inr h)))
theorem LH(h:w.1≠w.2.1):sW (rB r w) p q↔sW r p q∨(p=w.1/\q=w.2.1)∨(p=w.2.1/\q=w.1):=by
 unfold sW;rw[UH h];by_cases x:w.2.1=p;rw[if_pos x,vN];constructor;rintro(e|e)
 ·exact .inr (.inr ⟨x.symm,e⟩)
 exact .inl e;rintro(e|⟨u,y⟩| ⟨u,y⟩)
 ·exact .inr e
 exact absurd (u.symm.trans x.symm) h;exact .inl y;rw[if_neg x];by_cases f:w.1=p;rw[if_pos f,vN];constructor;rintro(e|e)
 ·exact .inr (.inl ⟨f.symm,e⟩)
 exact .inl e;rintro(e|⟨u,y⟩| ⟨u,y⟩)
 ·exact .inr e
 exact .inl y;exact absurd u.symm x;rw[if_neg f];exact⟨.inl,λz=>z.elim id λz=>z.elim (λe=>absurd e.1.symm f) λe=>absurd e.1.symm x⟩
def xG(w:Wy):Prop:=rW w.1 w.2.1/\0<w.2.2
theorem VX(g:xG w)(y:Pos r):Pos (rB r w):=by intro p e h;rw[UH (HF g.1)]at h;by_cases f:w.2.1=p;rw[if_pos f]at h;rcases iH h with z|z;rw[z,<- f];exact⟨λx=>absurd x (WC 0),λx=>absurd x (yF g.1)⟩;exact y p e z;rw[if_neg f]at h;by_cases u:w.1=p;rw[if_pos u]at h;rcases iH h with z|z;rw[z,<- u];exact⟨λ_=>g.1,λ_=>g.2⟩;exact y p e z;rw[if_neg u]at h;exact y p e h
theorem aZ(g:xG w)(x:V0 r):V0 (rB r w):=by
 intro p q h;rw[MF];rcases(LH (HF g.1)).mp h with h|⟨_,h⟩| ⟨_,h⟩
 exact .inr (.inr (x p q h));exact .inr (.inl h);exact .inl h
theorem xK{α:Type}{w:α}{l:List (Pt×α)}(h:l.length<=n):(put l p w).length<=n+1:=QZ lT (by omega)
theorem xN{α:Type}{p:Pt}{w:α}:∀{l:List (Pt×α)},(look l p).isSome=true->(put l p w).length=l.length
 |[],h=>by cases h|e::l,h=>by by_cases c:e.1=p;rw[show put (e::l) p w=(e.1,w)::l from if_pos c];rfl;rw[show put (e::l) p w=e::put l p w from if_neg c,QM,QM];rw[show look (e::l) p=look l p from if_neg c]at h;rw[xN h]
theorem GP(h:Key r p):(look r p).isSome=true:=by obtain⟨l,e⟩:=h;rw[e];rfl
theorem CY:(rB r w).length<=r.length+2:=by have x:Key (sdf (sdf r w.1) w.2.1) w.1:=SD.mpr (.inr (SD.mpr (.inl rfl)));have h:Key (sdf (sdf r w.1) w.2.1) w.2.1:=SD.mpr (.inl rfl);unfold rB;rw[xN (GP (CH.mpr (.inr h))),xN (GP x)];have:=jN (r:=r) (p:=w.1);have:=jN (r:=sdf r w.1) (p:=w.2.1);omega
theorem rH(g:w.1≠w.2.1)(h:Sz r n):Sz (rB r w) (n+2):=by
 refine⟨QZ CY (by have:=h.1;omega),λp=>?_⟩;rw[UH g];have x:=h.2 p;split;exact QZ (xK x) (by omega);split
 ·exact QZ (xK x) (by omega)
 omega
theorem cU:∀{ws:List Wy}{r:Rm},(∀w∈ws,xG w)->∀{p q:Pt},sW (ws.foldl rB r) p q↔sW r p q∨(∃v,(p,q,v)∈ws)∨∃v,(q,p,v)∈ws
 |[],r,_,p,q=>⟨.inl,λz=>z.elim id λz=>z.elim (λ⟨_,z⟩=>(nomatch z)) λ⟨_,z⟩=>(nomatch z)⟩
 |w::ws,r,h,p,q=>by
  rw[WL,cU (λw x=>h w (QG _ x)),LH (HF (h w QE).1)];constructor;rintro((z|⟨rfl,rfl⟩| ⟨rfl,rfl⟩)|⟨v,z⟩| ⟨v,z⟩)
  ·exact .inl z
  exact .inr (.inl ⟨_,QE⟩);exact .inr (.inr ⟨_,QE⟩);exact .inr (.inl ⟨v,QG _ z⟩);exact .inr (.inr ⟨v,QG _ z⟩);rintro(z|⟨v,z⟩| ⟨v,z⟩)
  ·exact .inl (.inl z)
  rcases QK.mp z with z|z
  ·rw[<- z]
   exact .inl (.inr (.inl ⟨rfl,rfl⟩))
  exact .inr (.inl ⟨v,z⟩);rcases QK.mp z with z|z
  ·rw[<- z]
   exact .inl (.inr (.inr ⟨rfl,rfl⟩))
  exact .inr (.inr ⟨v,z⟩)
theorem KQ:∀{ws:List Wy}{r:Rm}{n:Nat},(∀w∈ws,xG w)->Pos r->V0 r->Key r ZA->Sz r n->Pos (ws.foldl rB r)/\V0 (ws.foldl rB r)/\Key (ws.foldl rB r) ZA/\Sz (ws.foldl rB r) (n+2 * ws.length)
 |[],r,n,_,h1,h2,h3,h4=>⟨h1,h2,h3,h4⟩|w::ws,r,n,h,h1,h2,h3,h4=>by have g:=h w QE;have:=KQ (ws:=ws) (r:=rB r w) (n:=n+2) (λw x=>h w (QG _ x)) (VX g h1) (aZ g h2) (MF.mpr (.inr (.inr h3))) (rH (HF g.1) h4);rw[WL,QM,show n+2 * (ws.length+1)=n+2+2 * ws.length by omega];exact this
def eO(g:Str)(n:Str):List Wy:=if n=g then[] else[(tO n,fR n,1),(ZA,tO n,2)]
def FQ(g:Str)(e:Str×Str):List Wy:=if e.1=g∨e.1=e.2 then[] else[(tO e.1,fR e.1,1),(tO e.2,fR e.2,1),(fR e.1,tO e.2,2)]
def ZG:Rm:=[(ZA,[])]
def jA(es:iB)(st:List Str)(g:Str):Rm:=(es.flatMap (FQ g)).foldl rB ((st.flatMap (eO g)).foldl rB ZG)
theorem Fh:(0:Int)<1:=by decide
theorem om:(0:Int)<2:=by decide
theorem XS{n:Str}:(eO g n).length<=2:=by unfold eO;split;exact Q5 _;exact QU _
theorem US:(FQ g e).length<=3:=by unfold FQ;split;exact Q5 _;exact QU _
theorem BJ{n:Str}:∀w∈eO g n,xG w:=by
 intro w h;unfold eO at h;split at h;exact(nomatch h);rcases QK.mp h with rfl|h
 ·exact⟨.inr (.inl ⟨n,rfl,rfl⟩),Fh⟩
 rw[QI.mp h];exact⟨.inl ⟨rfl,n,rfl⟩,om⟩
theorem CJ:∀w∈FQ g e,xG w:=by
 intro w x;unfold FQ at x;split at x;exact(nomatch x);rename_i h;rcases QK.mp x with rfl|x;exact⟨.inr (.inl ⟨e.1,rfl,rfl⟩),Fh⟩;rcases QK.mp x with rfl|x
 ·exact⟨.inr (.inl ⟨e.2,rfl,rfl⟩),Fh⟩
 rw[QI.mp x];exact⟨.inr (.inr ⟨e.1,e.2,λz=>h (.inr z),rfl,rfl⟩),om⟩
theorem FK{α:Type}{f:α->List Wy}{k:Nat}(h:∀x,(f x).length<=k):∀(l:List α),(l.flatMap f).length<=k * l.length
 |[]=>QU _|x::l=>by have:=FK h l;have:=h x;rw[QAm,QL,QM,Nat.mul_succ];omega
theorem pG{α:Type}{f:α->List Wy}(h:∀x,∀w∈f x,xG w)(l:List α):∀w∈l.flatMap f,xG w:=λw z=>by obtain⟨x,_,y⟩:=QAw.mp z;exact h x w y
structure RmOk(r:Rm)(n:Nat):Prop where
 pos:Pos r
 dom:V0 r
 bg:Key r ZA
 sz:Sz r n
theorem sE:RmOk ZG 1:=by
 have e:∀p,lk ZG p=[]:=λp=>by show(if ZA=p then some [] else none).getD []=[];split<;>rfl
 refine⟨λp y x=>?_,λp q ⟨v,h⟩=>?_,⟨[],if_pos rfl⟩,QU _,λp=>?_⟩;rw[e]at x;exact(nomatch x);rw[e]at h;exact(nomatch h);rw[e];exact Q5 _
theorem RmOk.add{r:Rm}{n:Nat}(h:RmOk r n){ws:List Wy}(g:∀w∈ws,xG w):RmOk (ws.foldl rB r) (n+2 * ws.length):=by obtain⟨u,z,y,x⟩:=KQ g h.pos h.dom h.bg h.sz;exact⟨u,z,y,x⟩
theorem mP(z:es.length<=126)(y:st.length<=11):RmOk (jA es st g) 1000:=by have a:=(sE.add (pG (f:=eO g) (λ_=>BJ) st)).add (pG (f:=FQ g) (λ_=>CJ) es);have x:=FK (f:=eO g) (k:=2) (λ_=>XS) st;have h:=FK (f:=FQ g) (k:=3) (λ_=>US) es;exact⟨a.pos,a.dom,a.bg,QZ a.sz.1 (by omega),λp=>QZ (a.sz.2 p) (by omega)⟩
def L7(r:Rm)(p q:Pt):Prop:=∃v,(q,v)∈lk r p/\0<v
inductive Rch(r:Rm):Pt->Prop
 |bg:Rch r ZA
 |go {p q:Pt}:Rch r p->L7 r p q->Rch r q
theorem jf{n:Str}:(p,q,v)∈eO g n↔n≠g/\((p,q,v)=(tO n,fR n,1)∨(p,q,v)=(ZA,tO n,2)):=by unfold eO;split;rename_i h;exact⟨λz=>(nomatch z),λz=>absurd h z.1⟩;rename_i h;rw[QK,QI];exact⟨λz=>⟨h,z⟩,λz=>z.2⟩
theorem yf:(p,q,v)∈FQ g e↔(e.1≠g/\e.1≠e.2)/\((p,q,v)=(tO e.1,fR e.1,1)∨(p,q,v)=(tO e.2,fR e.2,1)∨(p,q,v)=(fR e.1,tO e.2,2)):=by unfold FQ;split;rename_i h;exact⟨λz=>(nomatch z),λz=>h.elim (λh=>absurd h z.1.1) λh=>absurd h z.1.2⟩;rename_i h;rw[QK,QK,QI];exact⟨λz=>⟨⟨λe=>h (.inl e),λe=>h (.inr e)⟩,z⟩,λz=>z.2⟩
theorem YE{cut:List Str}{s:Str}:O5 g cut s=true↔s≠g/\s∉cut:=by unfold O5;rw[Qg,Q7,Q7,decide_eq_false_iff_not,decide_eq_false_iff_not]
end
section
variable{es:iB}{st:List Str}{g:Str}{x:List Str}
theorem JK{s:Str}(h:Led es st g x s):s≠g/\s∉x:=by
 cases h with|st _ h=>exact YE.mp h|ed _ _ h=>exact YE.mp h
end
section
variable{r:Rm}{ks:List Pt}{vs:List D}
theorem MW:∀{ws:List Wy}{r:Rm}{n:Nat},(∀w∈ws,xG w)->Sz r n->Sz (ws.foldl rB r) (n+2 * ws.length)
 |[],r,n,_,h4=>h4|w::ws,r,n,h,h4=>by have:=MW (ws:=ws) (r:=rB r w) (n:=n+2) (λw x=>h w (QG _ x)) (rH (HF (h w QE).1) h4);rw[WL,QM,show n+2 * (ws.length+1)=n+2+2 * ws.length by omega];exact this
inductive CF(r:Rm):List Pt->List D->Prop
 |bg:CF r [ZA] [.none]
 |add {ks:List Pt}{vs:List D}{p q:Pt}:CF r ks vs->p∈ks->L7 r p q->q∉ks->CF r (ks++[q]) (vs++[pr p])
theorem CF.len(h:CF r ks vs):vs.length=ks.length:=by
 induction h with|bg=>rfl|add _ _ _ _ x=>rw[QL,QL,x];rfl
theorem CF.hb(h:CF r ks vs):ZA∈ks:=by
 induction h with|bg=>exact QE|add _ _ _ _ x=>exact Qr _ x
theorem CF.rch(h:CF r ks vs):∀k∈ks,Rch r k:=by
 induction h with|bg=>intro k hk;rw[QI.mp hk];exact .bg|add _ y w _ x=>intro k hk;rcases Qf.mp hk with z|z;exact x k z;rw[QI.mp z];exact .go (x _ y) w
theorem CF.nd(h:CF r ks vs):ks.Nodup:=by
 induction h with
 |bg=>exact Qi.mpr ⟨λz=>(nomatch z),Qy⟩
 |add _ _ _ n x=>refine qH.mpr ⟨x,Qi.mpr ⟨λz=>(nomatch z),Qy⟩,λa y b hb z=>?_⟩;rw[QI.mp hb]at z;exact n (z▸y)
theorem aH(x:V0 r)(hb:Key r ZA){p:Pt}(h:Rch r p):Key r p:=by
 cases h with|bg=>exact hb|go _ w=>obtain⟨v,m,_⟩:=w;exact x _ _ ⟨v,m⟩
theorem BN{p:Pt}{l:Inn}:∀{r:Rm},look r p=some l->p∈r.map (·.1)
 |[],h=>by cases h|e::r,h=>by by_cases c:e.1=p;rw[<- c];exact QE;rw[show look (e::r) p=look r p from if_neg c]at h;exact QG _ (BN (r:=r) h)
theorem mG:∀{ks ns:List Pt},ks.Nodup->(∀s∈ks,s∈ns)->ks.length<=ns.length
 |[],_,_,_=>Q5 _|s::r,ns,h,hs=>by obtain⟨v,u⟩:=Qi.mp h;have z:=hs s QE;have:=mG (ks:=r) (ns:=ns.erase s) u λx y=>(QBJ (λ(e:x=s)=>v (e▸y))).mpr (hs x (QG _ y));rw[QAl z]at this;have w:=Wq z;rw[QM];omega
theorem CF.le(y:V0 r)(hb:Key r ZA)(h:CF r ks vs):ks.length<=r.length:=by
 have:=mG (ns:=r.map (·.1)) h.nd λs x=>by obtain⟨l,e⟩:=aH y hb (h.rch s x);exact BN e
 rw[QF]at this;exact this
structure Srch(r:Rm)(ks:List Pt)(vs:List D)(ws:List Pt):Prop where
 cf:CF r ks vs
 sub:∀w∈ws,w∈ks
 clo:∀k∈ks,k∉ws->∀q,L7 r k q->q∈ks
structure Srch1(r:Rm)(here:Pt)(ks:List Pt)(vs:List D)(ws:List Pt)(l:Inn):Prop where
 cf:CF r ks vs
 sub:∀w∈ws,w∈ks
 clo:∀k∈ks,k∉ws->k≠here->∀q,L7 r k q->q∈ks
 her:here∈ks
 don:∀e∈lk r here,0<e.2->e.1∈ks∨e∈l
 all:∀e∈l,e∈lk r here
end
section
variable{r:Rm}{ks ws:List Pt}{vs:List D}
theorem Jd:Srch r [ZA] [.none] [ZA]:=⟨.bg,λ_ h=>h,λk h n=>absurd h n⟩
theorem Srch.pop{w:Pt}(h:Srch r ks vs (w::ws)):Srch1 r w ks vs ws (lk r w):=by refine⟨h.cf,λx v=>h.sub x (QG _ v),λk hk n u=>h.clo k hk λz=>?_,h.sub w QE,λe y _=>.inr y,λe y=>y⟩;rcases QK.mp z with z|z;exact u z;exact n z
theorem Srch1.skip{y:Pt}{e:Pt×Int}{l:Inn}(h:Srch1 r y ks vs ws (e::l))(c:0<e.2->e.1∈ks):Srch1 r y ks vs ws l:=by
 refine⟨h.cf,h.sub,h.clo,h.her,λx u p=>?_,λx u=>h.all x (QG _ u)⟩;rcases h.don x u p with z|z;exact .inl z;rcases QK.mp z with z|z
 ·rw[z]at p ⊢;exact .inl (c p)
 exact .inr z
theorem Srch1.add{u:Pt}{e:Pt×Int}{l:Inn}(h:Srch1 r u ks vs ws (e::l))(c:0<e.2)(n:e.1∉ks):Srch1 r u (ks++[e.1]) (vs++[pr u]) (ws++[e.1]) l:=by
 have f:=h.all e QE;refine⟨h.cf.add h.her ⟨e.2,f,c⟩ n,λx v=>?_,λk hk a b q w=>?_,Qr _ h.her,λx v p=>?_,λx v=>h.all x (QG _ v)⟩;rcases Qf.mp v with z|z
 ·exact Qr _ (h.sub x z)
 exact QV _ z;rcases Qf.mp hk with z|z
 ·exact Qr _ (h.clo k z (λy=>a (Qr _ y)) b q w)
 exact absurd (QV _ z) a;rcases h.don x v p with z|z
 ·exact .inl (Qr _ z)
 rcases QK.mp z with z|z
 ·rw[z];exact .inl (QV _ QE)
 exact .inr z
theorem Srch1.fin{x:Pt}(h:Srch1 r x ks vs ws []):Srch r ks vs ws:=by refine⟨h.cf,h.sub,λk hk n q w=>?_⟩;by_cases e:k=x;subst e;obtain⟨v,m,p⟩:=w;rcases h.don (q,v) m p with z|z;exact z;exact(nomatch z);exact h.clo k hk n e q w
theorem Srch.done(h:Srch r ks vs [])(p:Pt):p∈ks↔Rch r p:=by
 refine⟨h.cf.rch p,λz=>?_⟩;induction z with|bg=>exact h.cf.hb|go _ w x=>exact h.clo _ x (λz=>(nomatch z)) _ w
end
def eC(Q:T->List T->Prop):PEnds:={ nx:=λh=>TX (IA [0] h) (Q (.d .none)),rt:=λt h=>TX (IA [0] h) (Q t) }
theorem VI{Ψ:PEv}{b:PT}{p:PSp}{N x:List Str}{ds:List T}{Q:T->List T->Prop}(ρ:zA)(hl:ds.length=x.length)(hc:FB 0 p.md x.length=[0])(y:nA N p.md ds=ρ)(h:xA Ψ (λ_=>False) b (eC Q) ρ):ds.length=x.length/\xA Ψ (λ_=>False) b (NA p x.length Q) (nA N p.md ds):=by
 have e:NA p x.length Q=eC Q:=by unfold NA;rw[hc];rfl
 rw[e,y];exact⟨hl,h⟩
def dW(r:Rm)(h t:Pt)(v:Int):zA:=[some (.own (UA r)),some (.nv (.d (pr h))),some (.nv (.d (pr t))),some (.nv (.d (.int v)))]
section
variable{Ψ:PEv}{Z:PEnds}{q:PT}{r:Rm}{h t:Pt}{v:Int}
theorem Nk(hl:r.length<sizeLine)(k:xA Ψ (λ_=>False) q Z (dW (sdf r h) h t v)):xA Ψ (λ_=>False) (.seq (.sdf 0 (.var 1)) q) Z (dW r h t v):=by delta dW at k ⊢;simp?[↓vA];refine⟨rfl,vT hl ?_⟩;exact k
theorem Mk(hl:r.length<sizeLine)(k:xA Ψ (λ_=>False) q Z (dW (sdf r t) h t v)):xA Ψ (λ_=>False) (.seq (.sdf 0 (.var 2)) q) Z (dW r h t v):=by delta dW at k ⊢;simp?[↓vA];refine⟨rfl,vT hl ?_⟩;exact k
theorem Lk{l:Inn}(e:look r h=some l)(hl:l.length<sizeLine)(k:xA Ψ (λ_=>False) q Z (dW (put r h (put l t v)) h t v)):xA Ψ (λ_=>False) (.seq (.six (.idx (.var 0) (.var 1)) (.var 2) (.var 3)) q) Z (dW r h t v):=by delta dW at k ⊢;simp?[↓vA];refine sH e λf x=>SM hl ?_;rw[x];exact k
theorem Hk{l:Inn}(e:look r t=some l)(hl:l.length<sizeLine)(k:xA Ψ (λ_=>False) q Z (dW (put r t (put l h 0)) h t v)):xA Ψ (λ_=>False) (.seq (.six (.idx (.var 0) (.var 2)) (.var 1) (.int 0)) q) Z (dW r h t v):=by delta dW at k ⊢;simp?[↓vA];refine sH e λf x=>SM hl ?_;rw[x];exact k
end
section
variable{r:Rm}{K:T->List T->Prop}{Ψ:PEv}
theorem JE{p:Pt}(h:Key r p):look r p=some (lk r p):=by obtain⟨l,e⟩:=h;unfold lk;rw[e];rfl
noncomputable def vD:PSp where
 md:=[.chg]
 run:=λx Q _=>∃(r:Rm) (w:Wy),x=[UA r,.d (pr w.1),.d (pr w.2.1),.d (.int w.2.2)]/\(w.1≠w.2.1/\Sz r 5000)/\Q (.d .none) [UA (rB r w)]
 mono:=λh _ z=>by obtain⟨r,w,e,l,q⟩:=z;exact⟨r,w,e,l,h _ _ q⟩
theorem jK(w:Wy){E:XE}(h:w.1≠w.2.1)(s:Sz r 5000)(q:K (.d .none) [UA (rB r w)]):xD vD [UA r,.d (pr w.1),.d (pr w.2.1),.d (.int w.2.2)] K E:=⟨r,w,rfl,⟨h,s⟩,q⟩
theorem X4(ds Q E)(h:vD.run ds Q E):ds.length=IG.length/\xA Ψ (λ_=>False) iM (NA vD IG.length Q) (nA DM vD.md ds):=by obtain⟨r,w,rfl,⟨u,x⟩,q⟩:=h;have a:sizeLine=16777216:=QS;refine VI (dW r w.1 w.2.1 w.2.2) rfl rfl rfl ?_;have e:=x.1;have b:=jN (r:=r) (p:=w.1);have z:Key (sdf (sdf r w.1) w.2.1) w.1:=SD.mpr (.inr (SD.mpr (.inl rfl)));have y:Key (sdf (sdf r w.1) w.2.1) w.2.1:=SD.mpr (.inl rfl);have k:=x.2 w.1;have v:=x.2 w.2.1;refine Nk (by omega) (Mk (by omega) (Lk (JE z) (by rw[cE,cE];omega) (Hk (JE (CH.mpr (.inr y))) (by rw[dE,if_neg u,cE,cE];omega) ?_)));exact q
def OD:PSp where
 md:=[.chg]
 run:=λx Q _=>∃(r:Rm) (n:Str),x=[UA r,.d (.str n)]/\Sz r 5000/\Q (.d .none) [UA (rB r (tO n,fR n,1))]
 mono:=λh _ z=>by obtain⟨r,w,e,l,q⟩:=z;exact⟨r,w,e,l,h _ _ q⟩
theorem yK{n:Str}{E:XE}(s:Sz r 5000)(q:K (.d .none) [UA (rB r (tO n,fR n,1))]):xD OD [UA r,.d (.str n)] K E:=⟨r,n,rfl,s,q⟩
theorem U4(y:Ψ.sp "add_way"=vD)(ds Q E)(h:OD.run ds Q E):ds.length=VF.length/\xA Ψ (λ_=>False) fH (NA OD VF.length Q) (nA dL OD.md ds):=by obtain⟨r,n,rfl,x,q⟩:=h;have z:sizeLine=16777216:=QS;refine VI [some (.own (UA r)),some (.nv (.d (.str n)))] rfl rfl rfl ?_;delta fH;simp?[↓sG (md:=[]) y rfl rfl];refine⟨by omega,by omega,?_⟩;exact jK (tO n,fR n,1) MA x ⟨_,rfl,q⟩
def nW(es:iB)(st:List Str)(g:Str)(r:Rm)(o4 o5 o6:Option Sl):zA:=[some (.nv (.d (.list (es.map pr)))),some (.nv (.d (.list (st.map PyData.str)))),some (.nv (.d (.str g))),some (.own (UA r)),o4,o5,o6]
end
section
variable{Ψ:PEv}{Z:PEnds}{es:iB}{st:List Str}{g:Str}{r:Rm}
theorem Xi(h:Ψ.va "BEGIN"=some (pr ZA)){q:PT}{o3 o4 o5 o6:Option Sl}(k:xA Ψ (λ_=>False) q Z (nW es st g ZG o4 o5 o6)) :
  xA Ψ (λ_=>False) (.seq (.own 3 (.dsp (.glo "BEGIN") (.dnew true))) q) Z [some (.nv (.d (.list (es.map pr)))),some (.nv (.d (.list (st.map PyData.str)))),some (.nv (.d (.str g))),o3,o4,o5,o6]:=by
 simp?[↓BG h];exact⟨rC ZA,k⟩
theorem Vi(b:Ψ.sp "add_name"=OD)(a:Ψ.sp "add_way"=vD)(v:Ψ.va "BEGIN"=some (pr ZA))(u:Ψ.va "WIDE"=some (.int 2)){n:Str}{o5 o6:Option Sl}(h:Sz r 4900)(k:Z.nx (nW es st g ((eO g n).foldl rB r) (some (.nv (.d (.str n)))) o5 o6)) :
  xA Ψ (λ_=>False) xF Z (nW es st g r (some (.nv (.d (.str n)))) o5 o6):=by
 have f:sizeLine=16777216:=QS;delta nW at k ⊢;delta xF;simp?[↓BG v,↓BG u,↓sG (md:=[]) b rfl rfl,↓sG (md:=[]) a rfl rfl];by_cases e:n=g;rw[dT e];unfold eO at k;rw[if_pos e]at k;exact k;rw[dF e];unfold eO at k;rw[if_neg e]at k;have z:Sz r 5000:=⟨QZ h.1 (by omega),λp=>QZ (h.2 p) (by omega)⟩
 have x:=rH (w:=(tO n,fR n,1)) MA h;have y:Sz (rB r (tO n,fR n,1)) 5000:=⟨QZ x.1 (by omega),λp=>QZ (x.2 p) (by omega)⟩
 refine yK z ⟨_,rfl,?_⟩;refine⟨by omega,?_⟩;exact jK (ZA,tO n,2) OB y ⟨_,rfl,k⟩
theorem Ki(j:Ψ.sp "add_name"=OD)(i:Ψ.sp "add_way"=vD)(f:Ψ.va "WIDE"=some (.int 2)){a b:Str}{o4:Option Sl}(y:Sz r 4900)(k:Z.nx (nW es st g ((FQ g (a,b)).foldl rB r) o4 (some (.nv (.d (.str a)))) (some (.nv (.d (.str b)))))) :
  xA Ψ (λ_=>False) vF Z (nW es st g r o4 (some (.nv (.d (.str a)))) (some (.nv (.d (.str b))))):=by
 have l:sizeLine=16777216:=QS;delta nW at k ⊢;delta vF;simp?[↓BG f,↓sG (md:=[]) j rfl rfl,↓sG (md:=[]) i rfl rfl];unfold FQ at k;by_cases e:a=g;rw[dT e];rw[if_pos (.inl e)]at k;exact k;rw[dF e];by_cases h:a=b;rw[dT h];rw[if_pos (.inr h)]at k;exact k;rw[dF h];rw[if_neg (λz=>z.elim e h)]at k;have v:Sz r 5000:=⟨QZ y.1 (by omega),λp=>QZ (y.2 p) (by omega)⟩
 have x:=rH (w:=(tO a,fR a,1)) MA y;have u:=rH (w:=(tO b,fR b,1)) MA x;refine yK v ⟨_,rfl,?_⟩;refine yK ⟨QZ x.1 (by omega),λp=>QZ (x.2 p) (by omega)⟩ ⟨_,rfl,?_⟩;refine⟨by omega,by omega,?_⟩;exact jK (fR a,tO b,2) MA.symm ⟨QZ u.1 (by omega),λp=>QZ (u.2 p) (by omega)⟩ ⟨_,rfl,k⟩
end
section
variable{E:XE}{Ψ:PEv}{r:Rm}{p q:Pt}{l:Inn}{n m:Bool}{R:T->Prop}{W:List T->Prop}{ρ:zA}{b:PX}{M:List (T×Bool)->zA->Prop}{md:List Md}{ks:List Pt}{vs:List D}
noncomputable def oD:PSp where
 md:=[]
 run:=λy Q _=>∃(x:iB) (st:List Str) (g:Str),y=[.d (.list (x.map pr)),.d (.list (st.map PyData.str)),.d (.str g)]/\(x.length<=126/\st.length<=11)/\Q (UA (jA x st g)) []
 mono:=λh _ z=>by obtain⟨x,st,g,e,l,q⟩:=z;exact⟨x,st,g,e,l,h _ _ q⟩
theorem MU{es:iB}{st:List Str}{g:Str}{K:T->List T->Prop}(x:es.length<=126)(h:st.length<=11)(q:K (UA (jA es st g)) []):xD oD [.d (.list (es.map pr)),.d (.list (st.map PyData.str)),.d (.str g)] K E:=⟨es,st,g,rfl,⟨x,h⟩,q⟩
theorem nV(X:Ψ.sp "add_name"=OD)(o:Ψ.sp "add_way"=vD)(j:Ψ.va "BEGIN"=some (pr ZA))(i:Ψ.va "WIDE"=some (.int 2))(ds Q E)(h:oD.run ds Q E):ds.length=ZF.length/\xA Ψ (λ_=>False) IK (NA oD ZF.length Q) (nA bL oD.md ds):=by obtain⟨x,st,g,rfl,⟨Z,Y⟩,q⟩:=h;refine XA [some (.nv (.d (.list (x.map pr)))),some (.nv (.d (.list (st.map PyData.str)))),some (.nv (.d (.str g))),none,none,none,none] rfl rfl rfl ?_;refine Xi j ?_;delta nW;simp?[↓vA];rw[<- xB];refine VB (λ(s:Str)=>T.d (.str s)) (λl ρ=>∃r u,RmOk r (1+4 * (11 - l.length))/\l.length<=11/\(l.flatMap (eO g)).foldl rB r=(st.flatMap (eO g)).foldl rB ZG/\ρ=nW x st g r u none none) ?_ ?_ _ _ ⟨ZG,_,?_,Y,rfl,rfl⟩;rintro ρ ⟨r,u,ok,_,e,rfl⟩;have e:r=(st.flatMap (eO g)).foldl rB ZG:=e;delta nW;simp?[↓vA];rw[<- xB];refine VB (λ(p:Str×Str)=>T.d (pr p)) (λl ρ=>∃r w v,Sz r (45+6 * (126 - l.length))/\l.length<=126/\(l.flatMap (FQ g)).foldl rB r=jA x st g/\ρ=nW x st g r (mF u) w v) ?_ ?_ _ _ ⟨r,_,_,?_,Z,by rw[e];rfl,rfl⟩;rintro ρ ⟨r,w,v,_,_,e,rfl⟩;have e:r=jA x st g:=e;subst e;delta nW;simp?[↓vA];exact q;rintro⟨a,b⟩ l ρ N f ⟨r,w,v,s,k,e,rfl⟩;rw[QM]at s k;rw[QAm,QAn]at e;refine mC.mk rfl ?_;refine Ki (a:=a) (b:=b) X o i ⟨QZ s.1 (by omega),λp=>QZ (s.2 p) (by omega)⟩ (f _ ⟨_,_,_,?_,by omega,e,rfl⟩);have z:Sz ((FQ g (a,b)).foldl rB r) (45+6 * (126 - (l.length+1))+2 * (FQ g (a,b)).length):=MW CJ s;have y:=US (g:=g) (e:=(a,b));exact⟨QZ z.1 (by omega),λp=>QZ (z.2 p) (by omega)⟩;exact⟨QZ ok.sz.1 (by rw[Q6];omega),λp=>QZ (ok.sz.2 p) (by rw[Q6];omega)⟩;rintro s l ρ N f ⟨r,u,ok,k,e,rfl⟩;rw[QM]at ok k;rw[QAm,QAn]at e;refine Vi (n:=s) X o j i ⟨QZ ok.sz.1 (by omega),λp=>QZ (ok.sz.2 p) (by omega)⟩ (f _ ⟨_,_,?_,by omega,e,rfl⟩);have z:=ok.add (ws:=eO g s) BJ;have y:=XS (g:=g) (n:=s);exact⟨z.pos,z.dom,z.bg,QZ z.sz.1 (by omega),λp=>QZ (z.sz.2 p) (by omega)⟩;exact⟨sE.pos,sE.dom,sE.bg,QZ sE.sz.1 (by omega),λp=>QZ (sE.sz.2 p) (by omega)⟩
def GR(l:Inn):D:=.dict (l.map λe=>(pr e.1,.int e.2))
def ja(r:Rm):List (D×D):=r.map λe=>(pr e.1,GR e.2)
theorem GV(h:look r p=some l):PC (ja r)=some true:=by
 cases r with|nil=>cases h|cons e r=>rfl
theorem LY(l:Inn):(l.map λe=>(pr e.1,PyData.int e.2))=[]∨PC (l.map λe=>(pr e.1,PyData.int e.2))=some true:=by
 cases l with|nil=>exact .inl rfl|cons e r=>exact .inr rfl
theorem j8(h:Key r p)(k:R (.d (GR (lk r p)))):MB (.d (.dict (ja r))) n (.d (pr p)) m R:=by
 have e:=JE h;obtain⟨i,u,y,_⟩:=aC (λl=>T.d (GR l)) e;have w:(ja r).map (·.1)=RC r:=by unfold ja RC;rw[Qd];rfl
 refine y8 (GV e) (rC p) (by rw[w];exact u) ?_ k;have v:(ja r).map (·.2)=r.map λe=>GR e.2:=by unfold ja;rw[Qd];rfl
 rw[v];rw[Qc]at y ⊢;cases z:r[i]? with|none=>rw[z]at y;cases y|some x=>rw[z]at y;injection y with y;injection y with y;show some (GR x.2)=_;rw[y]
theorem Hc:lL .itm [(.d (GR l),n)] W=W (l.map λe=>.d (.tuple [pr e.1,.int e.2])):=by unfold GR;rw[Gc (LY l),Qd];rfl
theorem gH{K:TK}:T1 (UA r) false Ψ b E ρ K=lB Ψ b E (lockA ρ) λy m _=>K y m ρ:=rfl
theorem aU{K:TK}:T1 (UD l) false Ψ b E ρ K=lB Ψ b E (lockA ρ) λy m _=>K y m ρ:=rfl
theorem rO:G0 (UA r) false Ψ b E md ρ M=cJ Ψ b E md (lockA ρ) λxs _=>M xs ρ:=rfl
theorem x0:G0 (UD l) false Ψ b E md ρ M=cJ Ψ b E md (lockA ρ) λxs _=>M xs ρ:=rfl
def Z6(t:T)(r:Rm):Prop:=t=UA r∨t=.d (.dict (ja r))
theorem Vc{b:Bool}{ks:List D}{ts:List T}{n m:Bool}{k:D}{l:Nat}{t:T}(z:pF b k)(y:lA ks k=some l)(x:ts[l]?=some t)(h:R t):MB (.dct b ks ts) false (.d k) m R:=.inr ⟨b,ks,ts,l,t,rfl,z,y,x,h⟩
theorem ME(h:Key r p)(k:R (UD (lk r p))):MB (UA r) false (.d (pr p)) m R:=by obtain⟨i,y,x,_⟩:=aC UD (JE h);exact Vc (n:=false) (rC p) y x k
theorem FM{v:Int}(h:look l p=some v)(k:R (.d (.int v))):MB (UD l) false (.d (pr p)) m R:=by obtain⟨i,y,x,_⟩:=aC (λv:Int=>T.d (.int v)) h;exact Vc (n:=false) (rC p) y x k
theorem GS(l:Inn):nE (l.map λe=>T.d (.int e.2))=some (l.map λe=>.int e.2):=by rw[show(l.map λe=>T.d (.int e.2))=(l.map λe=>PyData.int e.2).map T.d by rw[Qd];rfl,iA]
theorem u8:lL .itm [(UD l,false)] W=W (l.map λe=>.d (.tuple [pr e.1,.int e.2])):=by
 refine(NP _ _).trans ?_;have e:((RC l).zip (l.map λe=>PyData.int e.2)).map (λp=>T.d (.tuple [p.1,p.2]))=l.map λe=>T.d (.tuple [pr e.1,.int e.2]):=by unfold RC;rw[QBl,Qd];rfl
 refine propext ⟨λ⟨x,h,k⟩=>?_,λk=>⟨_,GS l,by rw[e];exact k⟩⟩;rw[GS]at h;cases h;rw[e]at k;exact k
theorem K1{a:PX}:tG (.idx a b)=tG a:=rfl
theorem Fb:nO [(UD l,false)]=false:=rfl
def N0(ks:List Pt)(vs:List D):T:=.dct true (ks.map pr) (vs.map T.d)
theorem tX:pr q∈ks.map pr↔q∈ks:=by constructor;intro h;obtain⟨x,y,e⟩:=QY.mp h;rw[<- uN e];exact y;exact We
theorem RN(ks:List Pt)(q:Pt):(lA (ks.map pr) (pr q)).isSome=decide (q∈ks):=by rw[qS,HK,tX,decide_eq_true_iff]
theorem g8{x:D}{Q:T->Prop}(n:q∉ks)(hl:ks.length<sizeLine)(k:Q (N0 (ks++[q]) (vs++[x]))):ud (N0 ks vs) (.d (pr q)) (.d x) Q:=by refine⟨rC q,by rw[QF];exact hl,?_⟩;show Q (uR true (ks.map pr) (vs.map T.d) (pr q) (.d x));unfold uR;rw[iC.mpr (λz=>n (tX.mp z))];unfold N0 at k;rw[QW,QW]at k;exact k
theorem xb{L:Bool->Prop}:TB .NotIn (.d (pr q)) (N0 ks vs) L=L (!decide (q∈ks)):=by unfold N0;rw[MZ,RN];exact propext ⟨λh=>h.2,λh=>⟨rC q,h⟩⟩
def AL(h:T)(ks:List Pt)(vs:List D)(ws:List Pt)(o3 o4 o5:Option Sl):zA:=[some (.nv h),some (.own (N0 ks vs)),some (.own (.lst ((ws.map pr).map T.d))),o3,o4,o5]
end
section
variable{Ψ:PEv}{Z:PEnds}{x:T}{r:Rm}{ks ws:List Pt}{vs:List D}
section
variable{w:Pt}{o3 o4 o5:Option Sl}
theorem Gi{p q:Pt}{v:Int}(hl:ks.length<sizeLine)(a:ws.length<sizeLine)(u:(0<v->q∈ks)->Z.nx (AL x ks vs ws (some (.nv (.d (pr p)))) (some (.nv (.d (pr q)))) (some (.nv (.d (.int v))))))
  (k:0<v->q∉ks->Z.nx (AL x (ks++[q]) (vs++[pr p]) (ws++[q]) (some (.nv (.d (pr p)))) (some (.nv (.d (pr q)))) (some (.nv (.d (.int v)))))) :
  xA Ψ (λ_=>False) zB Z (AL x ks vs ws (some (.nv (.d (pr p)))) (some (.nv (.d (pr q)))) (some (.nv (.d (.int v))))):=by
 delta AL at u k ⊢;delta zB;simp?[↓xb];by_cases h:0<v;rw[dT h];by_cases y:q∈ks;rw[dT y];exact u λ_=>y;rw[dF y];simp only[QBK,↓reduceIte];refine g8 y hl ?_;refine⟨by rw[QF,QF];exact a,?_⟩;have:=k h y;rw[QW,QW]at this;exact this;rw[dF h];exact u λz=>absurd z h
theorem P8{q:PT}(k:xA Ψ (λ_=>False) q Z (AL x ks vs ws (some (.nv (.d (pr w)))) o4 o5)) :
  xA Ψ (λ_=>False) (.seq (.set 3 (.mt .pop (.var 2) (.nq (.int 0) .nr))) q) Z (AL x ks vs (w::ws) o3 o4 o5):=by
 delta AL at k ⊢;simp?[↓vA];refine⟨0,.d (pr w),?_,rfl,rfl,k⟩;unfold HP;rw[if_pos (by decide),if_pos (by rw[QF,QF,QM];omega)];rfl
theorem R8(y:Z6 x r)(hk:Key r w)
  (k:JG (xA Ψ (λ_=>False) zB) (.tp [4,5]) { Z with nx:=λh=>Z.nx (kill [4,5] h) } ((lk r w).map λe=>T.d (.tuple [pr e.1,.int e.2])) (AL x ks vs ws (some (.nv (.d (pr w)))) o4 o5)) :
  xA Ψ (λ_=>False) (.seq (.for_ (.tp [4,5]) .itm (.nq (.idx (.var 0) (.var 3)) .nr) zB) .nil) Z (AL x ks vs ws (some (.nv (.d (pr w)))) o4 o5):=by
 rcases y with rfl|rfl;delta AL at k ⊢;simp?[↓gH];refine ME hk ?_;simp?[↓x0,↓u8,Fb,K1];exact k;delta AL at k ⊢;simp?[↓vA];refine j8 hk ?_;simp?[↓Hc];exact k
theorem Fi(m:Z6 x r)(a:V0 r)(hb:Key r ZA)(Y:r.length<=1000)(h:Srch r ks vs (w::ws))(W:2 * (r.length - ks.length)+ws.length+1<=3000)
  (hz:∀z u y o3 o4 o5,Srch r z u y->2 * (r.length - z.length)+y.length<=2 * (r.length - ks.length)+ws.length->Z.nx (AL x z u y o3 o4 o5)) :
  xA Ψ (λ_=>False) FD Z (AL x ks vs (w::ws) o3 o4 o5):=by
 have K:sizeLine=16777216:=QS;refine P8 ?_;have o:=h.pop;have hk:Key r w:=aH a hb (h.cf.rch w (h.sub w QE));refine R8 m hk ?_;refine VB (λ(e:Pt×Int)=>T.d (.tuple [pr e.1,.int e.2])) (λl k=>∃z u y o4 o5,Srch1 r w z u y l/\2 * (r.length - z.length)+y.length<=2 * (r.length - ks.length)+ws.length/\k=AL x z u y (some (.nv (.d (pr w)))) o4 o5) ?_ ?_ _ _ ⟨ks,vs,ws,_,_,o,QU _,rfl⟩;rintro k ⟨z,u,y,g,f,s,l,rfl⟩;exact hz z u y _ (mF g) (mF f) s.fin l;rintro⟨q,v⟩ l k N i ⟨z,u,y,g,f,s,e,rfl⟩;refine mC.mk rfl ?_;have X:=s.cf.le a hb;refine Gi (p:=w) (q:=q) (v:=v) (by omega) (by omega) (λc=>i _ ⟨z,u,y,_,_,s.skip c,e,rfl⟩) λc n=>?_;have b:=s.add c n;have j:=b.cf.le a hb;rw[QL,Ql]at j;exact i _ ⟨_,_,_,_,_,b,by rw[QL,QL,Ql];omega,rfl⟩
theorem Hi(h:Ψ.va "BEGIN"=some (pr ZA)){q:PT}(k:xA Ψ (λ_=>False) q Z (AL x [ZA] [.none] [ZA] none none none)) :
  xA Ψ (λ_=>False) (.seq (.own 1 (.dsp (.glo "BEGIN") .non)) (.seq (.own 2 (.lst (.nq (.glo "BEGIN") .nr))) q)) Z [some (.nv x),none,none,none,none,none]:=by
 have y:sizeLine=16777216:=QS;simp?[↓BG h];exact⟨rC ZA,by omega,k⟩
end
end
theorem oH{Ψ:PEv}{E:XE}{c:PX}{q:PT}{Z:PEnds}{ρ:zA}(W:Nat->zA->Prop)(m:Nat)(u:W m ρ)(z:∀m ρ,W m ρ->fL Ψ c E ρ λb x=>if b=true then xA Ψ E q { Z with nx:=λh=>∃y,y < m/\W y h,ct:=λh=>∃y,y < m/\W y h,bk:=Z.nx } x else Z.nx x):Uc Ψ E c q Z ρ:=⟨W,⟨m,u⟩,z⟩
noncomputable def GC:PSp where
 md:=[.nv]
 run:=λv Q _=>∃(u:T) (r:Rm),v=[u]/\(Z6 u r/\V0 r/\Key r ZA/\r.length<=1000)/\∀x y,CF r x y->(∀p,p∈x↔Rch r p)->Q (N0 x y) []
 mono:=λh _ z=>by obtain⟨u,r,e,l,q⟩:=z;exact⟨u,r,e,l,λx y a b=>h _ _ (q x y a b)⟩
theorem RL{h:T}{r:Rm}{K:T->List T->Prop}{E:XE}(u:Z6 h r)(z:V0 r)(y:Key r ZA)(x:r.length<=1000)(q:∀ks vs,CF r ks vs->(∀p,p∈ks↔Rch r p)->K (N0 ks vs) []):xD GC [h] K E:=⟨h,r,rfl,⟨u,z,y,x⟩,q⟩
theorem xY{Ψ:PEv}(n:Ψ.va "BEGIN"=some (pr ZA))(ds Q E)(h:GC.run ds Q E):ds.length=uC.length/\xA Ψ (λ_=>False) BE (NA GC uC.length Q) (nA GE GC.md ds):=by
 obtain⟨b,r,rfl,⟨o,l,hb,j⟩,q⟩:=h;refine XA [some (.nv b),none,none,none,none,none] rfl rfl rfl ?_;refine Hi n ?_;delta AL;simp?[↓vA];refine oH (λm a=>m<=3000/\∃y z x o3 o4 o5,Srch r y z x/\m=2 * (r.length - y.length)+x.length/\a=AL b y z x o3 o4 o5) (2 * (r.length - 1)+1) ⟨by omega,[ZA],[.none],[ZA],none,none,none,Jd,rfl,rfl⟩ ?_;rintro m a ⟨X,y,z,x,o3,o4,o5,s,e,rfl⟩;cases x with|nil=>delta AL;simp?[QF];rw[dF (by omega)];simp?[↓vA];exact q y z s.cf s.done|cons w x=>rw[QM]at e;have f:=λ(Z:PEnds) i=>Fi (Ψ:=Ψ) (Z:=Z) (o3:=o3) (o4:=o4) (o5:=o5) o l hb j s (by omega) i;unfold AL at f;delta AL;simp?[QF];rw[dT (by omega)];refine f _ λk v u o3 o4 o5 g p=>⟨_,by omega,by omega,k,v,u,o3,o4,o5,g,rfl,rfl⟩
theorem bO{α:Type}{x:α}{r:List α}:LD (x::r) 0=some x:=bD (j:=0) rfl
theorem eS{α:Type}{x y:α}{r:List α}:LD (x::y::r) 1=some y:=bD (j:=1) rfl
def sm:List Pt->(Pt->Int)->Int
 |[],_=>0|x::l,f=>f x+sm l f
section
variable{f g:Pt->Int}
theorem EA:∀{l:List Pt},(∀x∈l,f x=g x)->sm l f=sm l g
 |[],_=>rfl|x::l,h=>by show f x+sm l f=g x+sm l g;rw[h x QE,EA λy z=>h y (QG _ z)]
theorem MG:∀(l:List Pt),sm l (λx=>f x+g x)=sm l f+sm l g
 |[]=>rfl|x::l=>by show f x+g x+sm l _=f x+sm l f+(g x+sm l g);rw[MG l];omega
theorem dI:∀(l:List Pt),sm l (λx=>- f x)=- sm l f
 |[]=>rfl|x::l=>by show - f x+sm l _=- (f x+sm l f);rw[dI l];omega
theorem cG:∀(l:List Pt),sm l (λ_=>0)=0
 |[]=>rfl|x::l=>by show 0+sm l _=0;rw[cG l];rfl
theorem NL:∀{l:List Pt},(∀x∈l,0<=f x)->0<=sm l f
 |[],_=>QCU _|x::l,h=>by have v:=h x QE;have u:=NL (l:=l) λy z=>h y (QG _ z);show 0<=f x+sm l f;omega
theorem LG:∀{l:List Pt},(∀x∈l,0<=f x)->∀{y:Pt},y∈l->f y<=sm l f
 |x::l,h,y,z=>by have w:=h x QE;have u:∀y∈l,0<=f y:=λy z=>h y (QG _ z);show f y<=f x+sm l f;rcases QK.mp z with e|e;have v:=NL u;rw[e];omega;have v:=LG u e;omega
theorem AW:∀{l:List Pt},(∀x∈l,0<=f x)->∀{y z:Pt},y∈l->z∈l->y≠z->f y+f z<=sm l f
 |x::l,h,y,z,v,hz,ne=>by
  have a:=h x QE;have w:∀y∈l,0<=f y:=λy v=>h y (QG _ v);show f y+f z<=f x+sm l f;rcases QK.mp v with e|e;rcases QK.mp hz with u|u
  ·exact absurd (e.trans u.symm) ne
  have k:=LG w u;rw[e];omega;rcases QK.mp hz with u|u
  ·have k:=LG w e
   rw[u];omega
  have k:=AW w e u ne;omega
theorem EW:∀{l:List Pt},0<sm l f->∃x∈l,0<f x
 |[],h=>absurd h (WC 0)|x::l,h=>by by_cases c:0<f x;exact⟨x,QE,c⟩;have h:0<f x+sm l f:=h;obtain⟨y,z,p⟩:=EW (l:=l) (by omega);exact⟨y,QG _ z,p⟩
theorem jT{k:Pt->Pt->Int}{m:List Pt}:∀(l:List Pt),sm l (λx=>sm m λy=>k x y)=sm m λy=>sm l λx=>k x y
 |[]=>(cG m).symm|x::l=>by show sm m (λy=>k x y)+sm l _=sm m λy=>k x y+sm l λx=>k x y;rw[jT l,MG]
theorem TM{u:Pt}{k:Int}:∀{l:List Pt},u∉l->sm l (λx=>if x=u then k else 0)=0
 |[],_=>rfl|x::l,h=>by show(if x=u then k else 0)+sm l _=0;rw[if_neg (λ(e:x=u)=>h (e▸QE)),TM λz=>h (QG _ z)];rfl
theorem fI{u:Pt}{k:Int}:∀{l:List Pt},l.Nodup->u∈l->sm l (λx=>if x=u then k else 0)=k
 |x::l,nd,h=>by obtain⟨v,y⟩:=Qi.mp nd;show(if x=u then k else 0)+sm l _=k;by_cases e:x=u;rw[if_pos e,TM (by rw[<- e];exact v)];omega;rw[if_neg e,fI y ((QK.mp h).resolve_left λz=>e z.symm)];omega
theorem FO(p:Pt->Bool):∀(l:List Pt),sm l f=sm (l.filter p) f+sm (l.filter λx=>!p x) f
 |[]=>rfl|x::l=>by
  show f x+sm l f=_;rw[Wb,Wb,FO p l];cases p x with|true=>show _=(f x+sm (l.filter p) f)+sm (l.filter λx=>!p x) f;omega|false=>show _=sm (l.filter p) f+(f x+sm (l.filter λx=>!p x) f);omega
theorem E1{a:Pt->Pt->Int}(l:List Pt)(h:∀x∈l,∀y∈l,a x y=- a y x):sm l (λx=>sm l λy=>a x y)=0:=by
 have w:sm l (λx=>sm l λy=>a x y)=sm l λy=>sm l λx=>a x y:=jT l;have v:(sm l λy=>sm l λx=>a x y)=- sm l (λy=>sm l λx=>a y x):=by rw[<- dI];refine EA λy z=>?_;rw[<- dI];exact EA λx u=>h x u y z
 omega
end
section
variable{p q u v:Pt}{r:Rm}{w:Wy}{es:iB}{st:List Str}{g:Str}
def rm(r:Rm)(p q:Pt):Int:=(look (lk r p) q).getD 0
def mH(r:Rm)(p q:Pt):Prop:=∃v,look (lk r p) q=some v
def Y6(r:Rm):Prop:=∀p,((lk r p).map (·.1)).Nodup
theorem nG{α:Type}{q:Pt}{v:α}:∀{l:List (Pt×α)},look l q=some v->(q,v)∈l
 |[],h=>by cases h|e::l,h=>by by_cases c:e.1=q;rw[show look (e::l) q=some e.2 from if_pos c]at h;injection h with h;rw[<- c,<- h];exact QE;rw[show look (e::l) q=look l q from if_neg c]at h;exact QG _ (nG h)
theorem LN{α:Type}{q:Pt}{v:α}:∀{l:List (Pt×α)},(l.map (·.1)).Nodup->(q,v)∈l->look l q=some v
 |e::l,nd,h=>by obtain⟨k,y⟩:=Qi.mp nd;rcases QK.mp h with c|c;rw[<- c];exact if_pos rfl;have x:e.1≠q:=λz=>k (QY.mpr ⟨(q,v),c,z.symm⟩);rw[show look (e::l) q=look l q from if_neg x];exact LN y c
theorem put_keys{α:Type}{p:Pt}{w:α}:∀{l:List (Pt×α)},(put l p w).map (·.1)=if p∈l.map (·.1) then l.map (·.1) else l.map (·.1)++[p]
 |[]=>rfl|e::l=>by by_cases c:e.1=p;rw[show put (e::l) p w=(e.1,w)::l from if_pos c,if_pos (by rw[<- c];exact QE)];rfl;rw[show put (e::l) p w=e::put l p w from if_neg c];rw[QO,QO,put_keys];by_cases h:p∈l.map (·.1);rw[if_pos h,if_pos (QG _ h)];rw[if_neg h,if_neg (λz=>(QK.mp z).elim (λz=>c z.symm) h)];rfl
theorem fG{α:Type}{w:α}{l:List (Pt×α)}(h:(l.map (·.1)).Nodup):((put l p w).map (·.1)).Nodup:=by rw[put_keys];split;exact h;rename_i n;refine qH.mpr ⟨h,Qi.mpr ⟨λz=>(nomatch z),Qy⟩,λa x b hb z=>?_⟩;rw[QI.mp hb]at z;exact n (z▸x)
theorem NQ(nd:Y6 r):L7 r p q↔0<rm r p q:=by
 unfold L7 rm;constructor;rintro⟨v,m,h⟩;rw[LN (nd p) m];exact h;intro h;cases e:look (lk r p) q with|none=>rw[e]at h;exact absurd h (WC 0)|some v=>rw[e]at h;exact⟨v,nG e,h⟩
def zV(r:Rm)(u v:Pt):Rm:=put (put r u (put (lk r u) v (rm r u v - 1))) v (put (lk (put r u (put (lk r u) v (rm r u v - 1))) v) u (rm (put r u (put (lk r u) v (rm r u v - 1))) v u+1))
theorem UR(h:u≠v)(p:Pt):lk (zV r u v) p=if v=p then put (lk r v) u (rm r v u+1) else if u=p then put (lk r u) v (rm r u v - 1) else lk r p:=by
 have e:rm (put r u (put (lk r u) v (rm r u v - 1))) v u=rm r v u:=by unfold rm;rw[dE,if_neg h]
 unfold zV;rw[e,dE,dE,dE,if_neg h]
theorem zR(h:u≠v)(p q:Pt):rm (zV r u v) p q=rm r p q+(if p=v/\q=u then 1 else 0) - (if p=u/\q=v then 1 else 0):=by show(look (lk (zV r u v) p) q).getD 0=_;rw[UR h];by_cases y:v=p;rw[if_pos y,VD,if_neg (c:=p=u/\q=v) (λz=>h (z.1.symm.trans y.symm))];by_cases x:u=q;rw[if_pos x,if_pos ⟨y.symm,x.symm⟩,<- y,<- x];show rm r v u+1=rm r v u+1 - 0;omega;rw[if_neg x,if_neg (λz=>x z.2.symm),y];show rm r p q=rm r p q+0 - 0;omega;rw[if_neg y,if_neg (c:=p=v/\q=u) (λz=>y z.1.symm)];by_cases x:u=p;rw[if_pos x,VD];by_cases k:v=q;rw[if_pos k,if_pos ⟨x.symm,k.symm⟩,<- x,<- k];show rm r u v - 1=rm r u v+0 - 1;omega;rw[if_neg k,if_neg (λz=>k z.2.symm),x];show rm r p q=rm r p q+0 - 0;omega;rw[if_neg x,if_neg (λz=>x z.1.symm)];show rm r p q=rm r p q+0 - 0;omega
theorem oB:mH r p q↔sW r p q:=by
 unfold mH sW;constructor;rintro⟨v,h⟩;exact⟨v,nG h⟩;rintro⟨v,h⟩;generalize lk r p=l at h;induction l with
 |nil=>exact(nomatch h)
 |cons e l x =>
  by_cases c:e.1=q;exact⟨e.2,if_pos c⟩;rcases QK.mp h with z|z
  ·exact absurd (by rw[<- z]) c
  obtain⟨w,y⟩:=x z;exact⟨w,(show look (e::l) q=look l q from if_neg c).trans y⟩
theorem i6(h:u≠v)(a:mH r u v)(k:mH r v u):mH (zV r u v) p q↔mH r p q:=by unfold mH;rw[UR h];by_cases y:v=p;rw[if_pos y,VD];by_cases x:u=q;rw[if_pos x,<- y,<- x];exact⟨λ_=>k,λ_=>⟨_,rfl⟩⟩;rw[if_neg x,y];rw[if_neg y];by_cases x:u=p;rw[if_pos x,VD];by_cases z:v=q;rw[if_pos z,<- x,<- z];exact⟨λ_=>a,λ_=>⟨_,rfl⟩⟩;rw[if_neg z,x];rw[if_neg x]
theorem T4(h:u≠v)(nd:Y6 r):Y6 (zV r u v):=by
 intro p;rw[UR h];split;exact fG (nd v);split
 ·exact fG (nd u)
 exact nd p
theorem yN(h:¬ mH r p q):rm r p q=0:=by
 unfold rm;cases e:look (lk r p) q with|none=>rfl|some v=>exact absurd ⟨v,e⟩ h
def mh(p q:Pt)(v:Int):Prop:=(∃n,p=tO n/\q=fR n/\v=1)∨(∃n,p=ZA/\q=tO n/\v=2)∨(∃a b,a≠b/\p=fR a/\q=tO b/\v=2)∨(¬ rW p q/\v=0)
def Eb(P:Pt->Pt->Int->Prop)(r:Rm):Prop:=∀p,∀e∈lk r p,P p e.1 e.2
theorem yW{P:Pt->Pt->Int->Prop}(a:w.1≠w.2.1)(f:P w.1 w.2.1 w.2.2)(b:P w.2.1 w.1 0)(h:Eb P r):Eb P (rB r w):=by intro p e x;rw[UH a]at x;by_cases k:w.2.1=p;rw[if_pos k]at x;rcases iH x with z|z;rw[z,<- k];exact b;exact h p e z;rw[if_neg k]at x;by_cases y:w.1=p;rw[if_pos y]at x;rcases iH x with z|z;rw[z,<- y];exact f;exact h p e z;rw[if_neg y]at x;exact h p e x
theorem OO(h:(r.map (·.1)).Nodup):((sdf r p).map (·.1)).Nodup:=by
 unfold sdf;cases e:look r p with|some v=>exact h|none=>show(List.map (λe:Pt×Inn=>e.1) (r++[(p,[])])).Nodup;rw[QW];refine qH.mpr ⟨h,Qi.mpr ⟨λz=>(nomatch z),Qy⟩,λa y b hb z=>?_⟩;have hb:b=p:=QI.mp hb;rw[z,hb]at y;obtain⟨x,k,f⟩:=QY.mp y;have:=LN h (show(p,x.2)∈r by rw[<- f];exact k);rw[e]at this;cases this
theorem eY(x:w.1≠w.2.1)(h:Y6 r):Y6 (rB r w):=by
 intro p;rw[UH x];split;exact fG (h p);split
 ·exact fG (h p)
 exact h p
theorem vB:Key r p↔p∈r.map (·.1):=by
 constructor;rintro⟨l,e⟩;exact BN e;intro h;induction r with
 |nil=>exact(nomatch h)
 |cons e r x =>
  by_cases c:e.1=p;exact⟨e.2,if_pos c⟩;rcases QK.mp h with z|z
  ·exact absurd z.symm c
  obtain⟨l,hl⟩:=x z;exact⟨l,(show look (e::r) p=look r p from if_neg c).trans hl⟩
structure Tbl0(r:Rm):Prop where
 ndk:(r.map (·.1)).Nodup
 ndi:Y6 r
 cap:Eb mh r
 kind:∀p,Key r p->p=ZA∨∃n,p=tO n∨p=fR n
 sym:∀p q,sW r p q->sW r q p/\Key r p
theorem FP(h:rW p q):(p=ZA∨∃n,p=tO n∨p=fR n)/\(q=ZA∨∃n,q=tO n∨q=fR n):=by
 rcases h with⟨h,n,e⟩| ⟨n,h,e⟩| ⟨a,b,_,h,e⟩
 exact⟨.inl h,.inr ⟨n,.inl e⟩⟩;exact⟨.inr ⟨n,.inl h⟩,.inr ⟨n,.inr e⟩⟩;exact⟨.inr ⟨a,.inr h⟩,.inr ⟨b,.inl e⟩⟩
theorem D1(k:rW w.1 w.2.1)(f:mh w.1 w.2.1 w.2.2)(t:Tbl0 r):Tbl0 (rB r w):=by
 have y:=HF k;refine⟨?_,eY y t.ndi,yW y f (.inr (.inr (.inr ⟨yF k,rfl⟩))) t.cap,λp h=>?_,λp q h=>?_⟩;unfold rB;exact fG (fG (OO (OO t.ndk)));rcases MF.mp h with z|z|z
 ·rw[z];exact(FP k).1
 rw[z];exact(FP k).2;exact t.kind p z;rw[LH y,MF];rcases(LH y).mp h with z|⟨x,a⟩| ⟨x,a⟩
 obtain⟨e,b⟩:=t.sym p q z;exact⟨.inl e,.inr (.inr b)⟩;exact⟨.inr (.inr ⟨a,x⟩),.inl x⟩;exact⟨.inr (.inl ⟨a,x⟩),.inr (.inl x)⟩
theorem OS:∀{ws:List Wy}{r:Rm},(∀w∈ws,rW w.1 w.2.1/\mh w.1 w.2.1 w.2.2)->Tbl0 r->Tbl0 (ws.foldl rB r)
 |[],_,_,t=>t|w::ws,r,h,t=>OS (ws:=ws) (λw x=>h w (QG _ x)) (D1 (h w QE).1 (h w QE).2 t)
theorem ZJ{p:Pt}:∀{ws:List Wy}{r:Rm},Key (ws.foldl rB r) p↔Key r p∨∃w∈ws,p=w.1∨p=w.2.1
 |[],r=>⟨.inl,λz=>z.elim id λ⟨_,m,_⟩=>(nomatch m)⟩
 |w::ws,r=>by
  rw[WL,ZJ (ws:=ws),MF];constructor;rintro((z|z|z)|⟨x,m,z⟩)
  ·exact .inr ⟨w,QE,.inl z⟩
  exact .inr ⟨w,QE,.inr z⟩;exact .inl z;exact .inr ⟨x,QG _ m,z⟩;rintro(z|⟨x,m,z⟩)
  ·exact .inl (.inr (.inr z))
  rcases QK.mp m with rfl|m
  ·rcases z with z|z
   ·exact .inl (.inl z)
   exact .inl (.inr (.inl z))
  exact .inr ⟨x,m,z⟩
def mW(es:iB)(st:List Str)(g:Str):List Wy:=st.flatMap (eO g)++es.flatMap (FQ g)
theorem rE:jA es st g=(mW es st g).foldl rB ZG:=by unfold jA mW;rw[QAn]
theorem fE{v:Int}:(p,q,v)∈mW es st g↔(∃n∈st,n≠g/\((p,q,v)=(tO n,fR n,1)∨(p,q,v)=(ZA,tO n,2)))∨(∃e∈es,(e.1≠g/\e.1≠e.2)/\((p,q,v)=(tO e.1,fR e.1,1)∨(p,q,v)=(tO e.2,fR e.2,1)∨(p,q,v)=(fR e.1,tO e.2,2))):=by
 unfold mW;rw[Qf,QAw,QAw];constructor;rintro(⟨n,m,h⟩| ⟨e,m,h⟩)
 ·exact .inl ⟨n,m,jf.mp h⟩
 exact .inr ⟨e,m,yf.mp h⟩;rintro(⟨n,m,h⟩| ⟨e,m,h⟩)
 ·exact .inl ⟨n,m,jf.mpr h⟩
 exact .inr ⟨e,m,yf.mpr h⟩
theorem EB:∀w∈mW es st g,rW w.1 w.2.1/\mh w.1 w.2.1 w.2.2:=by
 rintro⟨p,q,v⟩ h;rcases fE.mp h with⟨n,_,_,e|e⟩| ⟨e,_,⟨_,x⟩,z|z|z⟩
 cases e;exact⟨.inr (.inl ⟨n,rfl,rfl⟩),.inl ⟨n,rfl,rfl,rfl⟩⟩;cases e;exact⟨.inl ⟨rfl,n,rfl⟩,.inr (.inl ⟨n,rfl,rfl,rfl⟩)⟩;cases z;exact⟨.inr (.inl ⟨_,rfl,rfl⟩),.inl ⟨_,rfl,rfl,rfl⟩⟩;cases z;exact⟨.inr (.inl ⟨_,rfl,rfl⟩),.inl ⟨_,rfl,rfl,rfl⟩⟩;cases z;exact⟨.inr (.inr ⟨_,_,x,rfl,rfl⟩),.inr (.inr (.inl ⟨_,_,x,rfl,rfl,rfl⟩))⟩
theorem XH(p:Pt):lk ZG p=[]:=by show(if ZA=p then some [] else none).getD []=[];split<;>rfl
theorem Oc:Tbl0 ZG:=by refine⟨Qi.mpr ⟨λz=>(nomatch z),Qy⟩,λp=>?_,λp e x=>?_,λp h=>?_,λp q h=>?_⟩;rw[XH];exact Qy;rw[XH]at x;exact(nomatch x);exact .inl (QI.mp (vB.mp h));obtain⟨v,h⟩:=h;rw[XH]at h;exact(nomatch h)
end
section
variable{es:iB}{st:List Str}{g:Str}
section
variable{p q:Pt}{n:Str}
theorem dD:Tbl0 (jA es st g):=by rw[rE];exact OS EB Oc
theorem bZ:∀w∈mW es st g,xG w:=λw h=>by unfold mW at h;rcases Qf.mp h with z|z;exact pG (f:=eO g) (λ_=>BJ) st w z;exact pG (f:=FQ g) (λ_=>CJ) es w z
theorem kC:sW (jA es st g) p q↔(∃v,(p,q,v)∈mW es st g)∨∃v,(q,p,v)∈mW es st g:=by
 rw[rE,cU bZ];constructor;rintro(⟨v,h⟩| h)
 ·rw[XH]at h;exact(nomatch h)
 exact h;exact .inr
theorem yM(h:Key (jA es st g) (tO n)):sW (jA es st g) (tO n) (fR n):=by
 rw[rE]at h;rcases ZJ.mp h with z|⟨⟨p,q,v⟩,m,z⟩
 exact absurd (QI.mp (vB.mp z)).symm OB;refine kC.mpr (.inl ⟨1,fE.mpr ?_⟩);have z:tO n=p∨tO n=q:=z;rcases fE.mp m with⟨k,mk,x,e|e⟩| ⟨e,u,x,y|y|y⟩
 cases e;rcases z with z|z;rw[BB z];exact .inl ⟨k,mk,x,.inl rfl⟩;exact absurd z MA;cases e;rcases z with z|z;exact absurd z.symm OB;rw[BB z];exact .inl ⟨k,mk,x,.inl rfl⟩;cases y;rcases z with z|z;rw[BB z];exact .inr ⟨e,u,x,.inl rfl⟩;exact absurd z MA;cases y;rcases z with z|z;rw[BB z];exact .inr ⟨e,u,x,.inr (.inl rfl)⟩;exact absurd z MA;cases y;rcases z with z|z;exact absurd z MA;rw[BB z];exact .inr ⟨e,u,x,.inr (.inl rfl)⟩
theorem bW:mh p q (rm (jA es st g) p q)∨(¬ mH (jA es st g) p q/\rm (jA es st g) p q=0):=by by_cases h:mH (jA es st g) p q;obtain⟨v,e⟩:=h;have:=dD (es:=es) (st:=st) (g:=g) |>.cap p (q,v) (nG e);unfold rm;rw[e];exact .inl this;exact .inr ⟨h,yN h⟩
theorem ak:0<=rm (jA es st g) p q:=by rcases bW (es:=es) (st:=st) (g:=g) (p:=p) (q:=q) with(⟨_,_,_,e⟩| ⟨_,_,_,e⟩| ⟨_,_,_,_,_,e⟩| ⟨_,e⟩)|⟨_,e⟩<;>rw[e]<;>decide
theorem RH(h:¬ rW p q):rm (jA es st g) p q=0:=by
 rcases bW (es:=es) (st:=st) (g:=g) (p:=p) (q:=q) with(⟨n,y,x,_⟩| ⟨n,y,x,_⟩| ⟨a,b,z,y,x,_⟩| ⟨_,e⟩)|⟨_,e⟩
 exact absurd (.inr (.inl ⟨n,y,x⟩)) h;exact absurd (.inl ⟨y,n,x⟩) h;exact absurd (.inr (.inr ⟨a,b,z,y,x⟩)) h;exact e;exact e
theorem Aa(h:q≠fR n):rm (jA es st g) (tO n) q=0:=RH λl=>by
 rcases l with⟨e,_⟩| ⟨m,y,x⟩| ⟨a,b,_,e,_⟩
 exact OB e.symm;exact h (by rw[x,BB y]);exact MA e
theorem Kf:rm (jA es st g) (tO n) (fR n)<=1:=by
 rcases bW (es:=es) (st:=st) (g:=g) (p:=tO n) (q:=fR n) with(⟨_,_,_,e⟩| ⟨m,h,_,_⟩| ⟨a,b,x,h,y,_⟩| ⟨_,e⟩)|⟨_,e⟩
 rw[e];decide;exact absurd h.symm OB;exact absurd h MA;rw[e];decide;rw[e];decide
theorem Ea(h:Key (jA es st g) (tO n)):rm (jA es st g) (tO n) (fR n)=1:=by
 have a:=oB.mpr (yM h);rcases bW (es:=es) (st:=st) (g:=g) (p:=tO n) (q:=fR n) with(⟨_,_,_,e⟩| ⟨m,x,_,_⟩| ⟨a,b,y,x,u,_⟩| ⟨l,e⟩)|⟨z,e⟩
 exact e;exact absurd x.symm OB;exact absurd x MA;exact absurd (.inr (.inl ⟨n,rfl,rfl⟩)) l;exact absurd a z
theorem Kk(h:p≠tO n):rm (jA es st g) p (fR n)=0:=RH λl=>by
 rcases l with⟨_,m,e⟩| ⟨m,y,x⟩| ⟨a,b,_,_,e⟩
 exact MA e.symm;exact h (by rw[y,uH x]);exact MA e.symm
theorem Vk:rm (jA es st g) p ZA=0:=RH λl=>by
 rcases l with⟨_,m,e⟩| ⟨m,x,h⟩| ⟨a,b,_,_,e⟩
 exact OB e;exact UE h;exact OB e
theorem Zf(h:p≠fR n):rm (jA es st g) p (tO n)=0∨rm (jA es st g) p (tO n)=2:=by
 rcases bW (es:=es) (st:=st) (g:=g) (p:=p) (q:=tO n) with(⟨_,_,e,_⟩| ⟨m,_,_,e⟩| ⟨a,b,_,_,_,e⟩| ⟨l,e⟩)|⟨_,e⟩
 exact absurd e MA;exact .inr e;exact .inr e;exact .inl e;exact .inl e
theorem Ta{v:Int}(h:(p,tO n,v)∈mW es st g):rm (jA es st g) p (tO n)=2:=by
 have a:mH (jA es st g) p (tO n):=oB.mpr (kC.mpr (.inl ⟨v,h⟩));have l:rW p (tO n):=(EB _ h).1;rcases bW (es:=es) (st:=st) (g:=g) (p:=p) (q:=tO n) with(⟨_,_,e,_⟩| ⟨m,_,_,e⟩| ⟨a,b,_,_,_,e⟩| ⟨x,e⟩)|⟨z,e⟩
 exact absurd e MA;exact e;exact e;exact absurd l x;exact absurd a z
end
end
section
variable{es:iB}{st:List Str}{g:Str}
def sF(es:iB)(st:List Str)(g:Str):List Pt:=(jA es st g).map (·.1)
def fl(es:iB)(st:List Str)(g:Str)(r:Rm)(p q:Pt):Int:=rm (jA es st g) p q - rm r p q
def out(es:iB)(st:List Str)(g:Str)(r:Rm)(p:Pt):Int:=sm (sF es st g) (fl es st g r p)
structure Base(es:iB)(st:List Str)(g:Str)(r:Rm):Prop where
 ndi:Y6 r
 adj:∀p q,mH r p q↔mH (jA es st g) p q
 keys:r.map (·.1)=sF es st g
 nn:∀p q,0<=rm r p q
 anti:∀p q,fl es st g r p q=- fl es st g r q p
structure Flow(es:iB)(st:List Str)(g:Str)(r:Rm):Prop extends Base es st g r where
 cons:∀x,x≠ZA->x≠tO g->out es st g r x=0
theorem aF:(sF es st g).Nodup:=dD.ndk
theorem i7:Flow es st g (jA es st g):=by
 have e:∀p q,fl es st g (jA es st g) p q=0:=λp q=>by unfold fl;omega
 refine⟨⟨dD.ndi,λp q=>wj,rfl,λp q=>ak,λp q=>by rw[e,e];rfl⟩,λx _ _=>?_⟩;unfold out;rw[EA (g:=λ_=>0) λq _=>e x q];exact cG _
theorem XB{p q:Pt}(h:mH (jA es st g) p q):mH (jA es st g) q p:=oB.mpr (dD.sym p q (oB.mp h)).1
theorem mB{p q:Pt}(h:mH (jA es st g) p q):p∈sF es st g:=vB.mp (dD.sym p q (oB.mp h)).2
theorem oO{p q:Pt}(h:mH (jA es st g) p q):p≠q:=by
 rcases kC.mp (oB.mp h) with⟨v,m⟩| ⟨v,m⟩
 exact HF (EB _ m).1;exact(HF (EB _ m).1).symm
section
variable{r:Rm}
theorem Base.dom(b:Base es st g r):V0 r:=λp q h=>by have a:=(b.adj p q).mp (oB.mpr h);rw[vB,b.keys];exact mB (XB a)
theorem Base.bg(b:Base es st g r):Key r ZA:=by rw[vB,b.keys];refine vB.mp ?_;show Key (jA es st g) ZA;rw[rE];exact ZJ.mpr (.inl ⟨[],if_pos rfl⟩)
theorem Base.len(b:Base es st g r):r.length=(jA es st g).length:=by have:=congrArg qp b.keys;unfold sF at this;rw[QF,QF]at this;exact this
theorem Base.adjw(b:Base es st g r){p q:Pt}(h:0<rm r p q):mH (jA es st g) p q:=(b.adj p q).mp (by
 unfold rm at h;cases e:look (lk r p) q with|none=>rw[e]at h;exact absurd h (WC 0)|some v=>exact⟨v,e⟩)
theorem VN{u:Pt}{l:Inn}(h:u∈r.map (·.1)):(put r u l).map (·.1)=r.map (·.1):=by rw[put_keys,if_pos h]
theorem Base.pushed(b:Base es st g r){u v:Pt}(h:0<rm r u v):Base es st g (zV r u v):=by
 have a:=b.adjw h;have y:=oO a;have e:=zR (r:=r) y;refine⟨T4 y b.ndi,λp q=>?_,?_,λp q=>?_,λp q=>?_⟩;rw[i6 y ((b.adj u v).mpr a) ((b.adj v u).mpr (XB a))];exact b.adj p q;have k:u∈r.map (·.1):=by rw[b.keys];exact mB a
 have kv:v∈r.map (·.1):=by rw[b.keys];exact mB (XB a)
 unfold zV;rw[VN (by rw[VN k];exact kv),VN k];exact b.keys;rw[e];have:=b.nn p q;by_cases c:p=u/\q=v;rw[if_pos c,c.1,c.2];split<;>omega;rw[if_neg c];split<;>omega;unfold fl;rw[e,e];have:=b.anti p q;unfold fl at this;by_cases x:p=v/\q=u;rw[if_pos x,if_pos (c:=q=u/\p=v) ⟨x.2,x.1⟩,if_neg (c:=p=u/\q=v) (λz=>y (z.1.symm.trans x.1)),if_neg (c:=q=v/\p=u) (λz=>y (z.2.symm.trans x.1))];omega;rw[if_neg x,if_neg (c:=q=u/\p=v) (λz=>x ⟨z.2,z.1⟩)];by_cases w:p=u/\q=v;rw[if_pos w,if_pos (c:=q=v/\p=u) ⟨w.2,w.1⟩];omega;rw[if_neg w,if_neg (c:=q=v/\p=u) (λz=>w ⟨z.2,z.1⟩)];omega
theorem ZT(b:Base es st g r){u v:Pt}(h:0<rm r u v)(x:Pt):out es st g (zV r u v) x=out es st g r x+(if x=u then 1 else 0) - (if x=v then 1 else 0):=by
 have a:=b.adjw h;have f:=oO a;unfold out;have e:∀q,fl es st g (zV r u v) x q=fl es st g r x q+((if q=v then(if x=u then 1 else 0) else 0)+-(if q=u then(if x=v then 1 else 0) else 0)):=λq=>by unfold fl;rw[zR f];by_cases k:x=u;have w:x≠v:=λz=>f (k.symm.trans z);rw[if_neg (c:=x=v/\q=u) (λz=>w z.1),if_pos k,if_neg w];by_cases y:q=v;rw[if_pos (c:=x=u/\q=v) ⟨k,y⟩,if_pos y];split<;>omega;rw[if_neg (c:=x=u/\q=v) (λz=>y z.2),if_neg y];split<;>omega;rw[if_neg (c:=x=u/\q=v) (λz=>k z.1),if_neg k];by_cases w:x=v;rw[if_pos w];by_cases y:q=u;rw[if_pos (c:=x=v/\q=u) ⟨w,y⟩,if_pos y];split<;>omega;rw[if_neg (c:=x=v/\q=u) (λz=>y z.2),if_neg y];split<;>omega;rw[if_neg (c:=x=v/\q=u) (λz=>w z.1),if_neg w];split<;>split<;>omega
 rw[EA λq _=>e q,MG,MG,dI,fI aF (mB (XB a)),fI aF (mB a)];omega
end
section
variable{r y:Rm}{ks:List Pt}
theorem CF.find{vs:List D}(h:CF r ks vs){q:Pt}(m:q∈ks)(b:q≠ZA):∃z u p k v,CF r z u/\p∈z/\L7 r p q/\q∉z/\ks=z++q::k/\vs=u++pr p::v:=by
 induction h with|bg=>exact absurd (QI.mp m) b|@add ks vs p x c i w n f=>by_cases e:q∈ks;obtain⟨z,u,a,k,v,Z,Y,X,s,o,l⟩:=f e;exact⟨z,u,a,k++[x],v++[pr p],Z,Y,X,s,by rw[o,qN];rfl,by rw[l,qN];rfl⟩;have j:q=x:=QI.mp ((Qf.mp m).resolve_left e);subst j;exact⟨ks,vs,p,[],[],c,i,w,n,rfl,rfl⟩
structure LC(es:iB)(st:List Str)(g:Str)(y r:Rm)(here:Pt)(ks:List Pt):Prop extends Base es st g r where
 cons:∀x,x≠ZA->x≠tO g->out es st g r x=if x=here then 1 else 0
 val:out es st g r ZA=out es st g y ZA+if here=ZA then 1 else 0
 fresh:∀p,∀q∈ks,rm y p q<=rm r p q
theorem DY(f:Flow es st g y)(ks:List Pt):LC es st g y y (tO g) ks:=by refine⟨f.toBase,λx u h=>?_,?_,λp q _=>QCU _⟩;rw[if_neg h];exact f.cons x u h;rw[if_neg (λz=>OB z.symm)];omega
theorem i5{h p:Pt}{u:List Pt}(nd:Y6 y)(l:LC es st g y r h ks)(i:h∈ks)(hb:h≠ZA)(w:L7 y p h)(f:h∉u)(e:∀q∈u,q∈ks):0<rm r p h/\LC es st g y (zV r p h) p u:=by have v:0<rm r p h:=Int.lt_of_lt_of_le ((NQ nd).mp w) (l.fresh p h i);have b:=oO (l.adjw v);refine⟨v,l.toBase.pushed v,λx a j=>?_,?_,λx q k=>?_⟩;rw[ZT l.toBase v,l.cons x a j];split<;>split<;>omega;rw[ZT l.toBase v,l.val,if_neg hb,if_neg (c:=ZA=h) (λz=>hb z.symm)];by_cases c:p=ZA;rw[if_pos c,if_pos c.symm];omega;rw[if_neg c,if_neg (λz=>c z.symm)];omega;have a:=l.fresh x q (e q k);rw[zR b,if_neg (c:=x=p/\q=h) (λz=>f (z.2▸k))];split<;>omega
theorem T9(l:LC es st g y r ZA ks):Flow es st g r/\out es st g r ZA=out es st g y ZA+1:=by refine⟨⟨l.toBase,λx h z=>?_⟩,?_⟩;rw[l.cons x h z,if_neg h];rw[l.val,if_pos rfl]
end
end
section
variable{es:iB}{st:List Str}{g:Str}{r:Rm}
section
variable{p q y:Pt}{n a:Str}{ks:List Pt}
theorem KJ(b:Base es st g r)(h:rm (jA es st g) q p=0):fl es st g r p q=rm r q p:=by have:=b.anti p q;unfold fl at this ⊢;omega
def GQ(r:Rm)(n:Str):Int:=rm r (fR n) (tO n)
theorem EQ(b:Base es st g r)(n:Str):fl es st g r (tO n) (fR n)=GQ r n:=KJ b (RH λl=>yF (.inr (.inl ⟨n,rfl,rfl⟩)) l)
theorem PJ(b:Base es st g r)(n:Str):GQ r n<=1:=by rw[<- EQ b];have x:=Kf (es:=es) (st:=st) (g:=g) (n:=n);have h:=b.nn (tO n) (fR n);unfold fl;omega
theorem hX(b:Base es st g r)(h:p∉sF es st g∨q∉sF es st g):rm r p q=0:=by refine yN λa=>?_;have a:=(b.adj p q).mp a;rcases h with h|h;exact h (mB a);exact h (mB (XB a))
theorem F6(l:List Pt)(nd:l.Nodup)(u:Pt)(k:Int)(h:u∉l->k=0):sm l (λx=>if x=u then k else 0)=k:=by by_cases m:u∈l;exact fI nd m;rw[TM m,h m]
def inn(r:Rm)(n:Str)(y:Pt):Int:=if y=fR n then 0 else rm r (tO n) y
theorem HN(f:Flow es st g r)(h:n≠g):sm (sF es st g) (inn r n)=GQ r n:=by
 have c:=f.cons (tO n) (λz=>OB z.symm) (λz=>h (BB z));unfold out at c;have e:∀y,fl es st g r (tO n) y=(if y=fR n then GQ r n else 0)+- inn r n y:=λy=>by unfold inn;by_cases e:y=fR n;rw[if_pos e,if_pos e,e,EQ f.toBase];omega;rw[if_neg e,if_neg e];unfold fl;rw[Aa e];omega
 rw[EA λy _=>e y,MG,dI,F6 _ aF (fR n) (GQ r n) (λz=>hX f.toBase (.inl z))]at c;omega
theorem GN(b:Base es st g r)(n:Str)(y:Pt):0<=inn r n y:=by unfold inn;split;decide;exact b.nn _ _
def T3(r:Rm)(n:Str)(y:Pt):Int:=if y=tO n then 0 else rm r y (fR n)
theorem YT(f:Flow es st g r)(n:Str):sm (sF es st g) (T3 r n)=GQ r n:=by
 have c:=f.cons (fR n) (λz=>UE z.symm) (λz=>MA z.symm);unfold out at c;have e:∀y,fl es st g r (fR n) y=- (if y=tO n then GQ r n else 0)+T3 r n y:=λy=>by unfold T3;by_cases e:y=tO n;rw[if_pos e,if_pos e,e];have:=f.anti (fR n) (tO n);rw[EQ f.toBase]at this;omega;rw[if_neg e,if_neg e,KJ f.toBase (Kk e)];omega
 rw[EA λy _=>e y,MG,dI,F6 _ aF (tO n) (GQ r n) (λz=>hX f.toBase (.inr z))]at c;omega
theorem b9(b:Base es st g r)(n:Str)(y:Pt):0<=T3 r n y:=by unfold T3;split;decide;exact b.nn _ _
def UQ(r:Rm)(n:Str):Prop:=0<rm r (tO n) ZA
def z0(r:Rm)(a b:Str):Prop:=a≠b/\0<rm r (tO b) (fR a)
theorem iI(b:Base es st g r)(h:UQ r n):n∈st/\n≠g:=by
 rcases kC.mp (oB.mp (b.adjw h)) with⟨v,m⟩| ⟨v,m⟩
 exact absurd (EB _ m).1 λl=>by
  rcases l with⟨e,_⟩| ⟨_,_,e⟩| ⟨_,_,_,e,_⟩
  exact OB e.symm;exact UE e;exact MA e
 rcases fE.mp m with⟨k,mk,x,e|e⟩| ⟨e,_,_,y|y|y⟩
 ·exact absurd (congrArg qQ e) OB
 have:=congrArg (λw:Wy=>w.2.1) e;rw[BB this];exact⟨mk,x⟩;exact absurd (congrArg qQ y) OB;exact absurd (congrArg qQ y) OB;exact absurd (congrArg qQ y) UE
theorem X9(b:Base es st g r){c:Str}(h:z0 r a c):(a,c)∈es/\a≠g:=by
 rcases kC.mp (oB.mp (b.adjw h.2)) with⟨v,m⟩| ⟨v,m⟩
 exact absurd (EB _ m).1 λl=>by
  rcases l with⟨e,_⟩| ⟨k,z,x⟩| ⟨_,_,_,e,_⟩
  exact OB e.symm;exact h.1 ((uH x).trans (BB z).symm);exact MA e
 rcases fE.mp m with⟨k,mk,u,e|e⟩| ⟨e,f,u,y|y|y⟩
 ·exact absurd (congrArg qQ e).symm MA
 exact absurd (congrArg qQ e).symm UE;exact absurd (congrArg qQ y).symm MA;exact absurd (congrArg qQ y).symm MA;have z:a=e.1:=uH (congrArg qQ y);have x:c=e.2:=BB (congrArg (λw:Wy=>w.2.1) y);rw[z,x];exact⟨f,u.1⟩
theorem NR:inn r n ZA=rm r (tO n) ZA:=by unfold inn;exact if_neg UE
theorem tN(h:a≠n):inn r n (fR a)=rm r (tO n) (fR a):=by unfold inn;exact if_neg λz=>h (uH z)
theorem G4(h:a≠n):T3 r a (tO n)=rm r (tO n) (fR a):=by unfold T3;exact if_neg λz=>h (BB z).symm
theorem ZH(b:Base es st g r)(h:0<rm r p q):p∈sF es st g/\q∈sF es st g:=⟨mB (b.adjw h),mB (XB (b.adjw h))⟩
theorem zU(f:Flow es st g r)(n:Str)(h:n≠g):rm r (tO n) ZA<=1:=by by_cases c:0<rm r (tO n) ZA;have z:=LG (λx _=>GN f.toBase n x) (ZH f.toBase c).2;rw[HN f h,NR]at z;exact QBE z (PJ f.toBase n);omega
theorem P5(f:Flow es st g r)(h:UQ r n):GQ r n=1:=by have ng:=(iI f.toBase h).2;have z:=LG (λx _=>GN f.toBase n x) (ZH f.toBase h).2;rw[HN f ng,NR]at z;have:=PJ f.toBase n;unfold UQ at h;omega
theorem D4(f:Flow es st g r)(h:z0 r a n)(ng:n≠g):GQ r n=1:=by have z:=LG (λx _=>GN f.toBase n x) (ZH f.toBase h.2).2;rw[HN f ng,tN h.1]at z;have:=PJ f.toBase n;have:=h.2;omega
theorem BW(f:Flow es st g r)(ng:n≠g){x:Pt}(u:0<inn r n x)(h:0<inn r n y):x=y:=by
 have w:x∈sF es st g:=by unfold inn at u;split at u;exact absurd u (WC 0);exact(ZH f.toBase u).2
 have v:y∈sF es st g:=by unfold inn at h;split at h;exact absurd h (WC 0);exact(ZH f.toBase h).2
 by_cases e:x=y;exact e;have k:=AW (λz _=>GN f.toBase n z) w v e;rw[HN f ng]at k;have:=PJ f.toBase n;omega
theorem XT(f:Flow es st g r){b:Str}(ng:n≠g)(x:z0 r a n)(h:z0 r b n):a=b :=
 uH (BW f ng (by rw[tN x.1];exact x.2) (by rw[tN h.1];exact h.2))
theorem PN(f:Flow es st g r)(x:UQ r n)(h:z0 r a n):False :=
 UE (BW f (iI f.toBase x).2 (by rw[NR];exact x) (by rw[tN h.1];exact h.2))
theorem lY(f:Flow es st g r)(h:GQ r n=1):∃y,y≠tO n/\0<rm r y (fR n):=by obtain⟨y,_,x⟩:=EW (f:=T3 r n) (l:=sF es st g) (by rw[YT f,h];decide);unfold T3 at x;split at x;exact absurd x (WC 0);rename_i ne;exact⟨y,ne,x⟩
theorem d7(b:Base es st g r)(h:mH r y (fR n)):∃m,y=tO m:=by
 rcases kC.mp (oB.mp ((b.adj _ _).mp h)) with⟨v,m⟩| ⟨v,m⟩
 rcases(EB _ m).1 with⟨_,k,e⟩| ⟨k,e,_⟩| ⟨_,k,_,_,e⟩
 ·exact absurd e.symm MA
 exact⟨k,e⟩;exact absurd e.symm MA;rcases(EB _ m).1 with⟨e,_⟩| ⟨k,e,_⟩| ⟨_,k,_,_,e⟩
 ·exact absurd e.symm UE
 exact absurd e.symm MA;exact⟨k,e⟩
theorem JY(b:Base es st g r)(h:mH r y ZA):∃m,y=tO m:=by
 rcases kC.mp (oB.mp ((b.adj _ _).mp h)) with⟨v,m⟩| ⟨v,m⟩
 rcases(EB _ m).1 with⟨_,k,e⟩| ⟨k,_,e⟩| ⟨_,k,_,_,e⟩
 ·exact absurd e OB
 exact absurd e UE;exact absurd e OB;rcases(EB _ m).1 with⟨_,k,e⟩| ⟨k,e,_⟩| ⟨_,k,_,e,_⟩
 ·exact⟨k,e⟩
 exact absurd e OB;exact absurd e UE
theorem V9(f:Flow es st g r)(h:GQ r n=1):∃m,z0 r n m:=by obtain⟨y,z,x⟩:=lY f h;obtain⟨m,rfl⟩:=d7 f.toBase ((f.adj _ _).mpr (f.toBase.adjw x));exact⟨m,λe=>z (by rw[e]),x⟩
theorem GL(f:Flow es st g r){v:Int}(m:(p,tO n,v)∈mW es st g):0<rm r p (tO n):=by
 have c:=Ta m;have l:=(EB _ m).1;have h:fl es st g r p (tO n)=rm r (tO n) p:=KJ f.toBase (RH (yF l));unfold fl at h;rw[c]at h;have o:rm r (tO n) p<=1:=by
  rcases fE.mp m with⟨k,mk,z,e|e⟩| ⟨e,s,z,y|y|y⟩
  exact absurd (congrArg (λw:Wy=>w.2.1) e) MA;have b:p=ZA:=congrArg qQ e;have u:n=k:=BB (congrArg (λw:Wy=>w.2.1) e);rw[b];exact zU f n (by rw[u];exact z);exact absurd (congrArg (λw:Wy=>w.2.1) y) MA;exact absurd (congrArg (λw:Wy=>w.2.1) y) MA;have b:p=fR e.1:=congrArg qQ y;have u:n=e.2:=BB (congrArg (λw:Wy=>w.2.1) y);rw[b];by_cases c:0<rm r (tO n) (fR e.1);have j:e.1≠n:=by rw[u];exact z.2
  have i:=LG (λx _=>b9 f.toBase e.1 x) (ZH f.toBase c).1;rw[YT f,G4 j]at i;exact QBE i (PJ f.toBase _);omega
 omega
theorem RO{l m:List Pt}(v:l.Nodup)(u:m.Nodup)(h:∀x,x∈l↔x∈m):l.length=m.length:=by have a:=mG v λx z=>(h x).mp z;have b:=mG u λx z=>(h x).mpr z;omega
def RF(ks:List Pt)(x:Pt):Bool:=decide (x.2="to")&&!decide (fR x.1∈ks)
theorem AD{x:Pt}:RF ks x=true↔∃n,x=tO n/\fR n∉ks:=by unfold RF;rw[Qg,Q7,decide_eq_true_iff,decide_eq_false_iff_not];constructor;rintro⟨u,z⟩;exact⟨x.1,QCZ rfl u,z⟩;rintro⟨n,rfl,h⟩;exact⟨rfl,h⟩
theorem AM(p:Pt->Bool):∀(l:List Pt),sm l (λx=>if p x=true then 1 else 0)=(l.filter p).length
 |[]=>rfl|x::l=>by show(if p x=true then 1 else 0)+sm l _=_;rw[AM p l,Wb];by_cases c:p x=true;rw[if_pos c,if_pos c,QM];omega;rw[if_neg c,if_neg c];omega
theorem bQ(f:Flow es st g r)(nd:ks.Nodup)(hk:∀p,p∈ks↔Rch r p)(M:tO g∉ks):out es st g r ZA=(ks.filter (RF ks)).length:=by
 have sub:∀p∈ks,p∈sF es st g:=λp L=>by have:=vB.mp (aH f.toBase.dom f.toBase.bg ((hk p).mp L));rw[f.keys]at this;exact this
 have o:∀x∈ks,∀y,y∉ks->rm r x y=0:=λx w y u=>by have:=f.nn x y;by_cases c:0<rm r x y;exact absurd ((hk y).mpr (.go ((hk x).mp w) ((NQ f.ndi).mpr c))) u;omega
 have I:sm ((sF es st g).filter λx=>decide (x∈ks)) (λx=>out es st g r x)=out es st g r ZA:=by
  have hb:ZA∈ks:=(hk ZA).mpr .bg;have e:∀x∈(sF es st g).filter (λx=>decide (x∈ks)),out es st g r x=if x=ZA then out es st g r ZA else 0:=λx w=>by by_cases c:x=ZA;rw[if_pos c,c];rw[if_neg c];exact f.cons x c λz=>M (z▸of_decide_eq_true (Qn.mp w).2)
  rw[EA e];exact fI (aF.sublist qF) (Qn.mpr ⟨sub _ hb,dT hb⟩)
 have G:∀x∈(sF es st g).filter (λx=>decide (x∈ks)),sm ((sF es st g).filter λy=>!decide (y∈ks)) (fl es st g r x)=if RF ks x=true then 1 else 0:=λx w=>by
  have W:x∈ks:=of_decide_eq_true (Qn.mp w).2;have Z:=(Qn.mp w).1;have k:∀y∈(sF es st g).filter (λy=>!decide (y∈ks)),y∉ks/\fl es st g r x y=rm (jA es st g) x y:=λy u=>by have:=(Qn.mp u).2;rw[Q7,decide_eq_false_iff_not]at this;refine⟨this,?_⟩;unfold fl;rw[o x W y this];omega
  have B:∀y∈(sF es st g).filter (λy=>!decide (y∈ks)),∀n,y=tO n->fl es st g r x y=0:=λy u n e=>by
   obtain⟨C,O⟩:=k y u;rw[O,e];by_cases A:x=fR n;rw[A];exact RH λl=>yF (.inr (.inl ⟨n,rfl,rfl⟩)) l;rcases Zf (es:=es) (st:=st) (g:=g) A with z|z
   ·exact z
   have a:mH (jA es st g) x (tO n):=by refine wE λJ=>?_;rw[yN J]at z;exact absurd z (by decide)
   rcases kC.mp (oB.mp a) with⟨v,m⟩| ⟨v,m⟩
   have:=GL f m;rw[o x W (tO n) (e▸C)]at this;exact absurd this (WC 0);rw[RH (yF (EB _ m).1)]
  rcases dD.kind x (vB.mpr Z) with e|⟨n,e|e⟩
  have i:¬ RF ks x=true:=λz=>by obtain⟨n,j,_⟩:=AD.mp z;exact OB (e.symm.trans j)
  rw[if_neg i];rw[EA (g:=λ_=>0),cG];intro y u;by_cases t:∃n,y=tO n;obtain⟨n,t⟩:=t;exact B y u n t;rw[(k y u).2,e];exact RH λl=>by
   rcases l with⟨_,z⟩| ⟨n,z,_⟩| ⟨_,b,_,_,z⟩
   exact t z;exact OB z;exact t ⟨b,z⟩
  by_cases X:fR n∈ks
  ·have i:¬ RF ks x=true:=λz=>by
    obtain⟨m,j,h⟩:=AD.mp z;rw[<- BB (e.symm.trans j)]at h;exact h X
   rw[if_neg i,EA (g:=λ_=>0),cG];intro y u;rw[(k y u).2,e];exact Aa λz=>(k y u).1 (z▸X)
  rw[if_pos (AD.mpr ⟨n,e,X⟩)];have K:Key (jA es st g) (tO n):=by rw[<- e];exact vB.mpr Z
  have N:fR n∈sF es st g:=mB (XB (oB.mpr (yM K)));rw[EA (g:=λy=>if y=fR n then 1 else 0)];exact fI (aF.sublist qF) (Qn.mpr ⟨N,by rw[dF X];rfl⟩);intro y u;rw[(k y u).2,e];by_cases c:y=fR n;rw[if_pos c,c,Ea K];rw[if_neg c,Aa c];have i:¬ RF ks x=true:=λz=>by obtain⟨m,j,_⟩:=AD.mp z;exact MA (j.symm.trans e)
  rw[if_neg i,EA (g:=λ_=>0),cG];intro y u;by_cases t:∃n,y=tO n;obtain⟨n,t⟩:=t;exact B y u n t;rw[(k y u).2,e];exact RH λl=>by
   rcases l with⟨z,_⟩| ⟨n,z,_⟩| ⟨_,b,_,_,z⟩
   exact UE z.symm;exact MA z.symm;exact t ⟨b,z⟩
 have F:∀x,out es st g r x=sm ((sF es st g).filter λy=>decide (y∈ks)) (fl es st g r x)+sm ((sF es st g).filter λy=>!decide (y∈ks)) (fl es st g r x):=λx=>FO _ _;have E:sm ((sF es st g).filter λx=>decide (x∈ks)) (λx=>out es st g r x)=sm ((sF es st g).filter λx=>decide (x∈ks)) (λx=>if RF ks x=true then 1 else 0):=by rw[EA λx _=>F x,MG,E1 _ λx _ y _=>f.anti x y,EA G];omega
 rw[<- I,E,AM];have:(((sF es st g).filter λx=>decide (x∈ks)).filter (RF ks)).length=(ks.filter (RF ks)).length:=by refine RO ((aF.sublist qF).sublist qF) (nd.sublist qF) λx=>?_;rw[Qn,Qn,Qn,decide_eq_true_iff];exact⟨λ⟨⟨_,s⟩,Y⟩=>⟨s,Y⟩,λ⟨s,Y⟩=>⟨⟨sub x s,s⟩,Y⟩⟩
 rw[this]
theorem R5(f:Flow es st g r):out es st g r ZA=(((lk r ZA).map (·.1)).filter λy=>decide (0<rm r y ZA)).length:=by
 have e:∀y∈sF es st g,fl es st g r ZA y=if decide (0<rm r y ZA)=true then 1 else 0:=λy x=>by rw[KJ f.toBase Vk];have z:=f.nn y ZA;by_cases c:0<rm r y ZA;rw[dT c,if_pos rfl];obtain⟨n,e⟩:=JY f.toBase ((f.adj _ _).mpr (f.toBase.adjw c));rw[e]at c ⊢;have:=zU f n (iI f.toBase c).2;omega;rw[dF c,if_neg (by decide)];omega
 unfold out;rw[EA e,AM];have:((sF es st g).filter λy=>decide (0<rm r y ZA)).length=(((lk r ZA).map (·.1)).filter λy=>decide (0<rm r y ZA)).length:=by refine RO (aF.sublist qF) ((f.ndi ZA).sublist qF) λy=>?_;rw[Qn,Qn,decide_eq_true_iff];refine⟨λ⟨_,h⟩=>⟨?_,h⟩,λ⟨_,h⟩=>⟨(ZH f.toBase h).1,h⟩⟩;obtain⟨v,hv⟩:=(f.adj ZA y).mpr (XB (f.toBase.adjw h));exact QY.mpr ⟨(y,v),nG hv,rfl⟩
 rw[this]
theorem z6(f:Flow es st g r)(hk:∀p,p∈ks↔Rch r p)(X:tO g∉ks){cut:List Str}(hc:∀n,tO n∈ks->fR n∉ks->n∈cut):¬ ∃a,(a,g)∈es/\Led es st g cut a:=by
 have w:∀p∈ks,∀n v,(p,tO n,v)∈mW es st g->tO n∈ks:=λp o n v m=>(hk _).mpr (.go ((hk _).mp o) ((NQ f.ndi).mpr (GL f m)));have x:∀n,Led es st g cut n->fR n∈ks:=λn h=>by
  induction h with|@st s h k=>obtain⟨i,u⟩:=YE.mp k;have t:=w ZA ((hk _).mpr .bg) s 2 (fE.mpr (.inl ⟨s,h,i,.inr rfl⟩));exact wE λz=>u (hc s t z)|@ed a b l m k j=>obtain⟨i,u⟩:=YE.mp k;by_cases e:a=b;rw[<- e];exact j;have t:=w (fR a) j b 2 (fE.mpr (.inr ⟨(a,b),m,⟨(JK l).1,e⟩,.inr (.inr rfl)⟩));exact wE λz=>u (hc b t z)
 rintro⟨a,m,l⟩;exact X (w (fR a) (x a l) g 2 (fE.mpr (.inr ⟨(a,g),m,⟨(JK l).1,(JK l).1⟩,.inr (.inr rfl)⟩)))
end
end
inductive Run(r:Rm)(g f:Str):List Str->Str->Prop
 |nil:Run r g f [] f
 |go {c:List Str}{n m:Str}:Run r g f c n->n≠g->z0 r n m->Run r g f (c++[n]) m
inductive Chn(es:iB)(st:List Str)(g:Str):List Str->Str->Prop
 |st {f:Str}:f∈st->f≠g->Chn es st g [] f
 |go {c:List Str}{n m:Str}:Chn es st g c n->n≠g->(n,m)∈es->Chn es st g (c++[n]) m
section
variable{es:iB}{st:List Str}{g:Str}{r:Rm}
section
variable{s n:Str}{c:List Str}
theorem Run.chn(f:Flow es st g r)(x:UQ r s)(h:Run r g s c n):Chn es st g c n:=by
 induction h with|nil=>exact .st (iI f.toBase x).1 (iI f.toBase x).2|go _ ng y z=>exact .go z ng (X9 f.toBase y).1
theorem Run.thr1(f:Flow es st g r)(y:UQ r s)(h:Run r g s c n)(ng:n≠g):GQ r n=1:=by
 cases h with|nil=>exact P5 f y|go _ _ x=>exact D4 f x ng
theorem Run.pred(h:Run r g s c n):∀x,x∈c∨x=n->x=s∨∃y∈c,z0 r y x:=by
 induction h with
 |nil=>intro x u;exact u.elim (λz=>(nomatch z)) .inl
 |@go c n m _ _ v w =>
  intro x u;rcases u with u|rfl;have:x∈c∨x=n:=(Qf.mp u).imp_right QI.mp;rcases w x this with z|⟨y,k,z⟩
  exact .inl z;exact .inr ⟨y,Qr _ k,z⟩;exact .inr ⟨n,QV _ QE,v⟩
theorem Run.ng(h:Run r g s c n):∀x∈c,x≠g:=by
 induction h with
 |nil=>exact λx y=>(nomatch y)
 |go _ k _ u=>intro x y;rcases Qf.mp y with z|z;exact u x z;rw[QI.mp z];exact k
theorem Run.nd(f:Flow es st g r)(w:UQ r s)(h:Run r g s c n):c.Nodup/\n∉c:=by
 induction h with
 |nil=>exact⟨Qy,λz=>(nomatch z)⟩
 |@go c n m h k x u =>
  have nd:(c++[n]).Nodup:=qH.mpr ⟨u.1,Qi.mpr ⟨λz=>(nomatch z),Qy⟩,λa i b hb z=>by rw[QI.mp hb]at z;exact u.2 (z▸i)⟩;refine⟨nd,λz=>?_⟩;rcases Qf.mp z with z|z;rcases h.pred m (.inl z) with e|⟨y,v,e⟩
  ·rw[e]at x;exact PN f w x
  rw[XT f (h.ng m z) e x]at v;exact u.2 v;exact x.1 (QI.mp z).symm
theorem Run.apart(f:Flow es st g r){s':Str}(q:UQ r s)(b:UQ r s'){l:List Str}{p:Str}(h:Run r g s c n)(h':Run r g s' l p):∀x∈c,x∈l->s=s':=by
 induction h with
 |nil=>exact λx a=>(nomatch a)
 |@go c n m h k X i =>
  intro x a v;rcases Qf.mp a with z|z;exact i x z v;have z:=QI.mp z;subst z;rcases h.pred x (.inr rfl) with e|⟨y,j,e⟩<;>rcases h'.pred x (.inl v) with u|⟨o,w,u⟩
  exact e.symm.trans u;rw[e]at u;exact(PN f q u).elim;rw[u]at e;exact(PN f b e).elim;rw[XT f k e u]at j;exact i o j w
end
end
section
variable{es:iB}{st:List Str}{g:Str}
section
variable{y c:List Str}
theorem u6{n:Str}(h:Chn es st g c n)(hc:∀x∈c,x∉y)(ng:n≠g)(z:n∉y):Led es st g y n:=by
 induction h with|st h _=>exact .st h (YE.mpr ⟨ng,z⟩)|@go c n m _ k e u=>exact .ed (u (λx v=>hc x (Qr _ v)) k (hc n (QV _ QE))) e (YE.mpr ⟨ng,z⟩)
theorem CZ(h:Chn es st g c g)(hl:¬ ∃a,(a,g)∈es/\Led es st g y a):∃x∈c,x∈y:=by
 refine wE λz=>?_;have hc:∀x∈c,x∉y:=λx u m=>z ⟨x,u,m⟩;cases h with|st _ e=>exact e rfl|@go c n _ h k e=>exact hl ⟨n,e,u6 h (λx u=>hc x (Qr _ u)) k (hc n (QV _ QE))⟩
def HD:List (List Str)->Prop
 |[]=>True|c::cs=>(∀d∈cs,∀x∈c,x∉d)/\HD cs
theorem S6{y:List Str}:∀{cs:List (List Str)},HD cs->(∀c∈cs,∃x∈c,x∈y)->∃v:List Str,v.length=cs.length/\v.Nodup/\(∀p∈v,p∈y)/\∀p∈v,∃c∈cs,p∈c
 |[],_,_=>⟨[],rfl,Qy,λ_ z=>(nomatch z),λ_ z=>(nomatch z)⟩
 |c::cs,a,h=>by
  obtain⟨v,i,f,e,b⟩:=S6 (cs:=cs) a.2 λd w=>h d (QG _ w);obtain⟨x,k,hc⟩:=h c QE;refine⟨x::v,by rw[QM,QM,i],Qi.mpr ⟨λz=>?_,f⟩,λp u=>?_,λp u=>?_⟩;obtain⟨d,w,u⟩:=b x z;exact a.1 d w x k u;rcases QK.mp u with z|z
  ·rw[z];exact hc
  exact e p z;rcases QK.mp u with z|z
  ·exact⟨c,QE,by rw[z];exact k⟩
  obtain⟨d,w,u⟩:=b p z;exact⟨d,QG _ w,u⟩
theorem xW{cs:List (List Str)}(a:HD cs)(h:∀c∈cs,Chn es st g c g)(hl:¬ ∃a,(a,g)∈es/\Led es st g y a):cs.length<=y.length:=by obtain⟨v,u,z,x,_⟩:=S6 a λc hc=>CZ (h c hc) hl;rw[<- u];exact AE z x
end
end
section
variable{ks:List Pt}{vs:List D}{p:Pt}
def nC(ks:List Pt)(vs:List D):List (D×D):=(ks.map pr).zip vs
theorem Sa(ks:List Pt)(vs:List D):(N0 ks vs).er=.dict (nC ks vs):=by show PyData.dict ((ks.map pr).zip (ersT (vs.map T.d)))=_;rw[KA];rfl
theorem XJ(h:vs.length=ks.length):(nC ks vs).map (·.1)=ks.map pr:=W8 (by rw[QF];omega)
theorem d6(h:vs.length=ks.length):(nC ks vs).map (·.2)=vs:=W9 (by rw[QF];omega)
theorem OH(h:vs.length=ks.length)(m:p∈ks):PC (nC ks vs)=some true:=by
 cases ks with
 |nil=>exact(nomatch m)
 |cons x ks=>cases vs with|nil=>cases h|cons y vs=>rfl
theorem vQ{q:Pt}{u:List Pt}:∀{y:List Pt},q∉y->lA ((y++q::u).map pr) (pr q)=some y.length
 |[],_=>Y7 rfl|x::y,h=>by show lA (pr x::(y++q::u).map pr) (pr q)=_;rw[mZ (λz=>h (by rw[uN z];exact QE)),vQ λz=>h (QG _ z)];rfl
theorem Xc{h z:List Pt}{y x:List D}{q:Pt}{n m:Bool}{R:T->Prop}(u:y.length=h.length)(w:x.length=z.length)(v:q∉h)(k:R (.d (pr p))):MB (.d (.dict (nC (h++q::z) (y++pr p::x)))) n (.d (pr q)) m R:=by
 have hl:(y++pr p::x).length=(h++q::z).length:=by rw[QL,QL,QM,QM,u,w]
 refine y8 (OH hl (p:=q) (QV _ QE)) (rC q) (by rw[XJ hl];exact vQ v) ?_ k;rw[d6 hl,<- u,Q0 (QU _),QBF];rfl
theorem jS(a b:Pt):Qz (pr a) (pr b)=decide (a=b):=by
 rw[qS,decide_eq_true_iff];have e:Qz (pr a) (pr b)=(Qz (.str a.1) (.str b.1)&&(Qz (.str a.2) (.str b.2)&&true)):=by simp[pr,Qz,PyData.eqvAll]
 rw[e,TN,TN,Bool.and_true,Qg,decide_eq_true_iff,decide_eq_true_iff];exact⟨λh=>QCZ h.1 h.2,λh=>by rw[h];exact⟨rfl,rfl⟩⟩
def HB(es:iB)(st:List Str):Prop:=(∀s∈st,qV s=true)/\∀e∈es,qV e.1=true/\qV e.2=true
theorem aE{a b:Str}(x:qV a=true)(h:qV b=true):eE (pr (a,b)):=by refine⟨?_,?_⟩;simp only[pr,wC,qj,x,h,Bool.and_self];simp only[pr,wx,wU];decide
theorem DO:qV "to"=true:=by decide +kernel
theorem IS:qV "from"=true:=by decide +kernel
theorem ML:qV ""=true/\qV "begin"=true:=by decide +kernel
theorem MY{es:iB}{st:List Str}{g:Str}(h:HB es st)(k:p∈sF es st g):eE (pr p):=by
 have k:Key (jA es st g) p:=vB.mpr k;rw[rE]at k;rcases ZJ.mp k with z|⟨⟨u,v,c⟩,m,z⟩
 rw[QI.mp (vB.mp z)];exact aE ML.1 ML.2;have z:p=u∨p=v:=z;rcases fE.mp m with⟨n,w,_,e|e⟩| ⟨e,x,_,y|y|y⟩
 cases e;rcases z with z|z<;>subst z;exact aE (h.1 n w) DO;exact aE (h.1 n w) IS;cases e;rcases z with z|z<;>subst z;exact aE ML.1 ML.2;exact aE (h.1 n w) DO;cases y;rcases z with z|z<;>subst z;exact aE (h.2 e x).1 DO;exact aE (h.2 e x).1 IS;cases y;rcases z with z|z<;>subst z;exact aE (h.2 e x).2 DO;exact aE (h.2 e x).2 IS;cases y;rcases z with z|z<;>subst z;exact aE (h.2 e x).1 IS;exact aE (h.2 e x).2 DO
def iO(r:Rm)(x:List (D×D))(last:D)(h:Pt)(o4:Option Sl):zA:=[some (.own (UA r)),some (.nv (.d (.dict x))),some (.nv (.d last)),some (.nv (.d (pr h))),o4]
end
section
variable{Ψ:PEv}{Z:PEnds}{q:PT}{r:Rm}{h:List (D×D)}{last:D}{u v:Pt}
theorem xj(hk:Key r u)(w:mH r u v)(hl:(lk r u).length<sizeLine)(k:xA Ψ (λ_=>False) q Z (iO (put r u (put (lk r u) v (rm r u v - 1))) h last v (some (.nv (.d (pr u)))))) :
  xA Ψ (λ_=>False) (.seq (.six (.idx (.var 0) (.var 4)) (.var 3) (.bin .Sub (.idx (.idx (.var 0) (.var 4)) (.var 3)) (.int 1))) q) Z (iO r h last v (some (.nv (.d (pr u))))):=by
 obtain⟨x,y⟩:=w;have e:rm r u v=x:=by unfold rm;rw[y];rfl
 rw[e]at k;delta iO at k ⊢;simp?[↓gH];refine ME hk ?_;simp?[↓aU];refine FM y ?_;simp?[↓vA];refine sH (JE hk) λf z=>SM hl ?_;rw[z];exact k
theorem vj(hk:Key r v)(w:mH r v u)(hl:(lk r v).length<sizeLine)(k:xA Ψ (λ_=>False) q Z (iO (put r v (put (lk r v) u (rm r v u+1))) h last v (some (.nv (.d (pr u)))))) :
  xA Ψ (λ_=>False) (.seq (.six (.idx (.var 0) (.var 3)) (.var 4) (.bin .Add (.idx (.idx (.var 0) (.var 3)) (.var 4)) (.int 1))) q) Z (iO r h last v (some (.nv (.d (pr u))))):=by
 obtain⟨x,y⟩:=w;have e:rm r v u=x:=by unfold rm;rw[y];rfl
 rw[e]at k;delta iO at k ⊢;simp?[↓gH];refine ME hk ?_;simp?[↓aU];refine FM y ?_;simp?[↓vA];refine sH (JE hk) λf z=>SM hl ?_;rw[z];exact k
end
theorem Base.inn{es:iB}{st:List Str}{g:Str}{r:Rm}(b:Base es st g r)(p:Pt):(lk r p).length<=(jA es st g).length:=by
 have:=mG (ns:=sF es st g) (b.ndi p) λq h=>by obtain⟨e,x,z⟩:=QY.mp h;have a:mH r p q:=oB.mpr ⟨e.2,by rw[<- z];exact x⟩;exact mB (XB ((b.adj p q).mp a))
 unfold sF at this;rw[QF,QF]at this;exact this
section
variable{Ψ:PEv}{Z:PEnds}{es:iB}{st:List Str}{g:Str}
theorem u5{m r:Rm}{ks:List Pt}{vs:List D}{x:Pt}{last:D}{o4:Option Sl}{z v:List Pt}{b u:List D}(hsz:(jA es st g).length<=1000)(R:Y6 m)(I:CF m z b)(H:ks=z++v)(S:vs=b++u)(h9:u.length=v.length)(F:x∈z)(hb:x≠ZA)(i:LC es st g m r x z)
  (k:∀h y n l p A,CF m h y->ks=h++n->vs=y++l->l.length=n.length->h.length<z.length->p∈h->LC es st g m A p h->Z.nx (iO A (nC ks vs) last p (some (.nv (.d (pr p)))))) :
  xA Ψ (λ_=>False) lE Z (iO r (nC ks vs) last x o4):=by
 have hz:sizeLine=16777216:=QS;obtain⟨h,y,p,j,e,J,Q,w,B,X,G⟩:=I.find F hb;have M:=I.len;have L:=J.len;have l2:e.length=j.length:=by rw[X,G,QL,QL,QM,QM]at M;omega
 have s:ks=h++x::(j++v):=by rw[H,X,qN];rfl
 have o:vs=y++pr p::(e++u):=by rw[S,G,qN];rfl
 obtain⟨W,K⟩:=i5 R i F hb w B λq P=>by rw[X];exact Qr _ P
 have a:=i.adjw W;have C:=oO a;have O:Key r p:=by rw[vB,i.keys];exact mB a
 have N:Key r x:=by rw[vB,i.keys];exact mB (XB a)
 have E:=i.toBase.inn;have Y:xA Ψ (λ_=>False) (.seq (.set 3 (.var 4)) .nil) Z (iO (zV r p x) (nC ks vs) last x (some (.nv (.d (pr p))))):=by have:=k h y (x::(j++v)) (pr p::(e++u)) p (zV r p x) J s o (by rw[QM,QM,QL,QL];omega) (by rw[X,QL,QM];omega) Q K;unfold iO at this;delta iO;simp?[↓vA];exact this
 have f:xA Ψ (λ_=>False) (.seq (.six (.idx (.var 0) (.var 4)) (.var 3) (.bin .Sub (.idx (.idx (.var 0) (.var 4)) (.var 3)) (.int 1))) (.seq (.six (.idx (.var 0) (.var 3)) (.var 4) (.bin .Add (.idx (.idx (.var 0) (.var 3)) (.var 4)) (.int 1))) (.seq (.set 3 (.var 4)) .nil))) Z (iO r (nC ks vs) last x (some (.nv (.d (pr p))))):=by have i1:=E p;have i2:=E x;refine xj O ((i.adj _ _).mpr a) (by omega) (vj ?_ ?_ ?_ Y);exact CH.mpr (.inr N);show mH _ x p;have:=(i.adj x p).mpr (XB a);unfold mH at this ⊢;rw[dE,if_neg C];exact this;rw[dE,if_neg C];omega
 unfold iO at f;delta iO;delta lE;simp?[↓vA];rw[s,o]at f ⊢;refine Xc L (by rw[QL,QL];omega) B ?_;simp?[↓vA];exact f
end
section
variable{es:iB}{st c:List Str}{g a f:Str}{ks:List Pt}{vs:List D}{K:T->List T->Prop}{E:XE}{Ψ:PEv}{W:List T->Prop}{n m:Bool}{ρ:zA}{R:T->Prop}{r:Rm}{Z:PEnds}{L:Bool->Prop}{Q:T->Bool->Prop}{i:Nat}{cs:List (List Str)}
noncomputable def GG:PSp where
 md:=[.chg]
 run:=λu Q _=>∃(es:iB) (st:List Str) (g:Str) (x:Rm) (ks:List Pt) (vs:List D),u=[UA x,.d (.dict (nC ks vs)),.d (pr (tO g))]/\((jA es st g).length<=1000/\HB es st/\Flow es st g x/\CF x ks vs/\tO g∈ks)/\∀y,Flow es st g y->out es st g y ZA=out es st g x ZA+1->Q (.d .none) [UA y]
 mono:=λh _ z=>by obtain⟨es,st,g,x,ks,vs,e,l,q⟩:=z;exact⟨es,st,g,x,ks,vs,e,l,λy a b=>h _ _ (q y a b)⟩
theorem C2{h:Rm}(w:(jA es st g).length<=1000)(v:HB es st)(u:Flow es st g h)(z:CF h ks vs)(y:tO g∈ks)(q:∀x,Flow es st g x->out es st g x ZA=out es st g h ZA+1->K (.d .none) [UA x]):xD GG [UA h,.d (.dict (nC ks vs)),.d (pr (tO g))] K E:=⟨es,st,g,h,ks,vs,rfl,⟨w,v,u,z,y⟩,q⟩
theorem Y9(F:Ψ.va "BEGIN"=some (pr ZA))(ds Q E)(h:GG.run ds Q E):ds.length=OE.length/\xA Ψ (λ_=>False) TF (NA GG OE.length Q) (nA kJ GG.md ds):=by
 obtain⟨es,st,g,b,ks,vs,rfl,⟨P,O,fl,cf,M⟩,q⟩:=h;refine VI [some (.own (UA b)),some (.nv (.d (.dict (nC ks vs)))),some (.nv (.d (pr (tO g)))),none,none] rfl rfl rfl ?_;delta TF;simp?[↓vA];refine oH (λm ρ=>∃r x y w v z o4,m=x.length/\CF b x y/\ks=x++w/\vs=y++v/\v.length=w.length/\z∈x/\LC es st g b r z x/\ρ=iO r (nC ks vs) (pr (tO g)) z o4) ks.length ⟨b,ks,vs,[],[],tO g,_,rfl,cf,by rw[wG],by rw[wG],rfl,M,DY fl ks,rfl⟩ ?_;rintro m ρ ⟨r,x,y,w,v,z,o4,em,G,ek,ev,N,B,A,rfl⟩;have s:eE (pr z):=MY O (by have:=aH fl.toBase.dom fl.toBase.bg (G.rch z B);rw[vB,fl.keys]at this;exact this);have X:eE (pr ZA):=aE ML.1 ML.2;have u:∀L:Bool->Prop,L (!decide (z=ZA))->TB .NotEq (.d (pr z)) (.d (pr ZA)) L:=λL l=>by show eE (pr z)/\eE (pr ZA)/\L (!PyData.eqv (pr z) (pr ZA));rw[jS];exact⟨s,X,l⟩
 by_cases e:z=ZA;subst e;delta iO;simp?[↓BG F];refine u _ ?_;rw[dT rfl];obtain⟨H,S⟩:=T9 A;exact q r H S;have C:=λ(Z:PEnds) J=>u5 (Ψ:=Ψ) (Z:=Z) (last:=pr (tO g)) (o4:=o4) P fl.ndi G ek ev N B e A J;unfold iO at C;delta iO;simp?[↓BG F];refine u _ ?_;rw[dF e];refine C _ λk o Y j p I a1 a2 a3 a4 a5 a6 a7=>⟨k.length,by omega,I,k,o,Y,j,p,_,rfl,a1,a2,a3,a4,a6,a7,rfl⟩
theorem YW{l:Inn}:lL .val [(UD l,false)] W=W ((l.map λe=>pr e.1).map T.d):=MP _ _
theorem x8{kvs:List (D×D)}(h:PC kvs=some true):lL .val [(.d (.dict kvs),n)] W=W ((kvs.map (·.1)).map T.d):=by unfold lL vC;rw[oA];show jC .val [UB kvs] W=_;unfold UB;rw[h];exact MP _ _
theorem G7{a b h:PX}{t:Str}{x:T}{R:Option T->Prop}:VG Ψ E [] [t] (.nm 0) (.and a b) h ρ x R=fL Ψ (.and a b) E (some (.nv x)::lockA ρ) λk z=>if k=true then lB Ψ h E z λy n _=>JC y n (R (some y)) else R none:=rfl
theorem YO{p:Pt}:MB (.d (pr p)) n (.d (.int 0)) m R=R (.d (.str p.1)):=by delta pr;rw[E7,bO,bC]
theorem Kc{p:Pt}:MB (.d (pr p)) n (.d (.int 1)) m R=R (.d (.str p.2)):=by delta pr;rw[E7,eS,bC]
theorem R6:(T.d (.tuple [.str a,.str "from"]))=.d (pr (fR a)):=rfl
theorem YX:(T.d (.tuple [.str a,.str "to"]))=.d (pr (tO a)):=rfl
noncomputable def oC:PSp where
 md:=[.nv]
 run:=λx Q _=>∃(es:iB) (st:List Str) (g:Str) (r:Rm) (n:Str),x=[UA r,.d (.str n)]/\((jA es st g).length<=1000/\Flow es st g r/\GQ r n=1)/\∀m,z0 r n m->Q (.d (.str m)) []
 mono:=λh _ z=>by obtain⟨es,st,g,r,n,e,l,q⟩:=z;exact⟨es,st,g,r,n,e,l,λm a=>h _ _ (q m a)⟩
theorem yR{n:Str}(y:(jA es st g).length<=1000)(x:Flow es st g r)(h:GQ r n=1)(q:∀m,z0 r n m->K (.d (.str m)) []):xD oC [UA r,.d (.str n)] K E:=⟨es,st,g,r,n,rfl,⟨y,x,h⟩,q⟩
theorem oV(ds Q E)(h:oC.run ds Q E):ds.length=eD.length/\xA Ψ (λ_=>False) gE (NA oC eD.length Q) (nA XG oC.md ds):=by
 obtain⟨es,st,g,r,n,rfl,⟨S,fl,C⟩,q⟩:=h;have O:sizeLine=16777216:=QS;have P:=fl.toBase.inn (fR n);obtain⟨j,b⟩:=V9 fl C;have s:mH r (fR n) (tO j):=(fl.adj _ _).mpr (XB (fl.toBase.adjw b.2));have Y:Key r (fR n):=by rw[vB,fl.keys];exact mB ((fl.adj _ _).mp s)
 refine XA [some (.nv (UA r)),some (.nv (.d (.str n))),none] rfl rfl rfl ?_;delta gE;simp?[R6,↓gH];refine⟨by omega,ME Y ?_⟩;simp?[↓x0,↓YW];have J:((lk r (fR n)).map λe=>pr e.1).map T.d=((lk r (fR n)).map (·.1)).map λp=>T.d (pr p):=by rw[Qd,Qd];rfl
 rw[J];refine dB (λp=>T.d (pr p)) (λ(p:Pt)=>T.d (.str p.1)) (λp=>!decide (p.1=n)&&decide (0<rm r p (fR n))) ((lk r (fR n)).map (·.1)) [] _ (λx B R w=>?_) (by show 0+((lk r (fR n)).map (·.1)).length<=_;rw[QF];omega) ?_;obtain⟨e,F,I⟩:=QY.mp B;have M:mH r (fR n) x:=oB.mpr ⟨e.2,by rw[<- I];exact F⟩;have k:mH r x (fR n):=(fl.adj _ _).mpr (XB ((fl.adj _ _).mp M));have X:Key r x:=by rw[vB,fl.keys];exact mB ((fl.adj _ _).mp k)
 obtain⟨v,hv⟩:=k;have G:rm r x (fR n)=v:=by unfold rm;rw[hv];rfl
 rw[G]at w;simp?[↓G7,↓YO,↓gH];by_cases c:x.1=n;rw[dT c]at w ⊢;exact w;rw[dF c]at w ⊢;simp only[QBK,↓reduceIte];refine ME X ?_;simp?[↓aU];refine FM hv ?_;simp?[↓YO];by_cases d:0<v;rw[dT d]at w ⊢;exact w;rw[dF d]at w ⊢;exact w;have l:tO j∈((lk r (fR n)).map (·.1)).filter λp=>!decide (p.1=n)&&decide (0<rm r p (fR n)):=by obtain⟨v,hv⟩:=s;refine Qn.mpr ⟨QY.mpr ⟨_,nG hv,rfl⟩,?_⟩;rw[dF (show ¬ (tO j).1=n from λz=>b.1 z.symm),dT b.2];rfl
 cases o:((lk r (fR n)).map (·.1)).filter λp=>!decide (p.1=n)&&decide (0<rm r p (fR n)) with
 |nil=>rw[o]at l;exact(nomatch l)
 |cons y N =>
  have A:y∈((lk r (fR n)).map (·.1)).filter λp=>!decide (p.1=n)&&decide (0<rm r p (fR n)):=by rw[o];exact QE
  have u:=(Qn.mp A).2;rw[Qg,Q7,decide_eq_false_iff_not,decide_eq_true_iff]at u;obtain⟨m,rfl⟩:=d7 fl.toBase ((fl.adj _ _).mpr (fl.toBase.adjw u.2));rw[Qw,xB (λp:Pt=>PyData.str p.1)];simp?[↓vA];rw[QO,bO];simp?[↓vA];exact q m ⟨λz=>u.1 z.symm,u.2⟩
noncomputable def rD:PSp where
 md:=[.nv]
 run:=λx Q _=>∃(es:iB) (st:List Str) (g:Str) (r:Rm) (f:Str),x=[UA r,.d (.str f),.d (.str g)]/\((jA es st g).length<=1000/\Flow es st g r/\UQ r f)/\∀c,Run r g f c g->Q (.lst ((c.map PyData.str).map T.d)) []
 mono:=λh _ z=>by obtain⟨es,st,g,r,n,e,l,q⟩:=z;exact⟨es,st,g,r,n,e,l,λm a=>h _ _ (q m a)⟩
theorem PU(y:(jA es st g).length<=1000)(x:Flow es st g r)(h:UQ r f)(q:∀c,Run r g f c g->K (.lst ((c.map PyData.str).map T.d)) []):xD rD [UA r,.d (.str f),.d (.str g)] K E:=⟨es,st,g,r,f,rfl,⟨y,x,h⟩,q⟩
theorem K8(fl:Flow es st g r)(w:UQ r f){n:Str}(h:Run r g f c n):(∀x∈c,tO x∈sF es st g)/\tO n∈sF es st g:=by
 induction h with
 |nil=>exact⟨λx y=>(nomatch y),(ZH fl.toBase w).1⟩
 |go _ _ v u=>refine⟨λx y=>?_,(ZH fl.toBase v.2).1⟩;rcases Qf.mp y with z|z;exact u.1 x z;rw[QI.mp z];exact u.2
theorem uT(fl:Flow es st g r)(y:UQ r f){n:Str}(h:Run r g f c n):c.length<=(jA es st g).length:=by
 have nd:=(h.nd fl y).1;have:=mG (ks:=c.map tO) (ns:=sF es st g) (WR tO (λa b u z=>u (BB z)) nd) λp w=>by obtain⟨x,v,e⟩:=QY.mp w;rw[<- e];exact(K8 fl y h).1 x v
 unfold sF at this;rw[QF,QF]at this;exact this
def Pa(r:Rm)(f g:Str)(c:List Str)(n:Str):zA:=[some (.nv (UA r)),some (.nv (.d (.str f))),some (.nv (.d (.str g))),some (.own (.lst ((c.map PyData.str).map T.d))),some (.nv (.d (.str n)))]
theorem c6(y:Ψ.sp "name_behind"=oC){n:Str}(x:(jA es st g).length<=1000)(fl:Flow es st g r)(h:GQ r n=1)(hl:c.length<=1000)(k:∀m,z0 r n m->Z.nx (Pa r f g (c++[n]) m)) :
  xA Ψ (λ_=>False) GD Z (Pa r f g c n):=by
 have z:sizeLine=16777216:=QS;delta Pa at k ⊢;delta GD;simp?[↓rO,↓aA (md:=[.nv]) y rfl rfl];refine⟨by rw[QF,QF];omega,yR x fl h λm nx=>?_⟩;have:=k m nx;rw[QW,QW]at this;simp?[↓vA];exact this
theorem dY(l:Ψ.sp "name_behind"=oC)(ds Q E)(h:rD.run ds Q E):ds.length=vE.length/\xA Ψ (λ_=>False) gF (NA rD vE.length Q) (nA zI rD.md ds):=by
 obtain⟨es,st,g,r,f,rfl,⟨j,fl,u⟩,q⟩:=h;have v:sizeLine=16777216:=QS;refine XA [some (.nv (UA r)),some (.nv (.d (.str f))),some (.nv (.d (.str g))),none,none] rfl rfl rfl ?_;delta gF
 simp?[↓vA];refine⟨Q5 _,oH (λm ρ=>∃c n,m+c.length=1001/\Run r g f c n/\ρ=Pa r f g c n) 1001 ⟨[],f,rfl,.nil,rfl⟩ ?_⟩;rintro m ρ ⟨c,n,o,y,rfl⟩;have hl:=uT fl u y;by_cases e:n=g;subst e;delta Pa;simp?[↓vA];exact q c y;have w:=λ(Z:PEnds) v=>c6 (Ψ:=Ψ) (Z:=Z) (f:=f) (g:=g) (c:=c) l j fl (y.thr1 fl u e) (by omega) v;unfold Pa at w;delta Pa;simp?[↓vA];rw[dF e];refine w _ λb k=>?_;have x:=y.go e k;have z:=uT fl u x;rw[QL,Ql]at z;exact⟨m - 1,by omega,c++[n],b,by rw[QL,Ql];omega,x,rfl⟩
theorem vb{q:Pt}(hv:vs.length=ks.length)(hb:ZA∈ks):TB .NotIn (.d (pr q)) (.d (.dict (nC ks vs))) L=L (!decide (q∈ks)):=by show(∃b,PC (nC ks vs)=some b/\pF b (pr q)/\L (!(lA ((nC ks vs).map (·.1)) (pr q)).isSome))=_;rw[OH hv hb,XJ hv,RN];exact propext ⟨λ⟨_,_,_,h⟩=>h,λh=>⟨true,rfl,rC q,h⟩⟩
theorem X7{q:Pt}(hv:vs.length=ks.length)(hb:ZA∈ks):TB .In (.d (pr q)) (.d (.dict (nC ks vs))) L=L (decide (q∈ks)):=by show(∃b,PC (nC ks vs)=some b/\pF b (pr q)/\L (lA ((nC ks vs).map (·.1)) (pr q)).isSome)=_;rw[OH hv hb,XJ hv,RN];exact propext ⟨λ⟨_,_,_,h⟩=>h,λh=>⟨true,rfl,rC q,h⟩⟩
theorem ZY{ss:List Str}(x:ss.length<64)(q:∀h:List Str,h.Perm ss->sortedS h=true->Q (.lst ((h.map PyData.str).map T.d)) true):JO .sorted [(.lst ((ss.map PyData.str).map T.d),n)] Q:=by unfold JO vC;rw[ZD];exact .inl ⟨_,ss,rfl,iA _,x,q⟩
theorem Ue{ls:List (List Str)}(x:ls.length<64)(q:∀h:List (List Str),h.Perm ls->Q (.lst ((h.map gB).map T.d)) true):JO .sorted [(.d (.list (ls.map gB)),n)] Q:=by unfold JO vC;rw[oA];exact .inr ⟨_,ls,rfl,iA _,x,q⟩
def mJ(ks:List Pt):List Str:=(ks.filter (RF ks)).map λp=>p.1
noncomputable def bG:PSp where
 md:=[]
 run:=λx Q _=>∃(ks:List Pt) (vs:List D),x=[.d (.dict (nC ks vs))]/\(vs.length=ks.length/\ZA∈ks/\ks.length<=1000/\(ks.filter (RF ks)).length<64)/\∀cut:List Str,cut.Perm (mJ ks)->sortedS cut=true->Q (.lst ((cut.map PyData.str).map T.d)) []
 mono:=λh _ z=>by obtain⟨ks,vs,e,l,q⟩:=z;exact⟨ks,vs,e,l,λm a b=>h _ _ (q m a b)⟩
theorem cX(z:vs.length=ks.length)(y:ZA∈ks)(x:ks.length<=1000)(h:(ks.filter (RF ks)).length<64)(q:∀cut:List Str,cut.Perm (mJ ks)->sortedS cut=true->K (.lst ((cut.map PyData.str).map T.d)) []):xD bG [.d (.dict (nC ks vs))] K E:=⟨ks,vs,rfl,⟨z,y,x,h⟩,q⟩
theorem K4(ds Q E)(h:bG.run ds Q E):ds.length=kE.length/\xA Ψ (λ_=>False) fF (NA bG kE.length Q) (nA yI bG.md ds):=by obtain⟨ks,vs,rfl,⟨hv,hb,e,w⟩,q⟩:=h;have k:sizeLine=16777216:=QS;refine XA [some (.nv (.d (.dict (nC ks vs))))] rfl rfl rfl ?_;delta fF;simp?[↓x8 (OH hv hb),XJ hv];rw[<- xB];refine dB (λp=>T.d (pr p)) (λ(p:Pt)=>T.d (.str p.1)) (RF ks) ks [] _ (λx b R y=>?_) (by show 0+ks.length<=_;omega) ?_;have y:R (if(decide (x.2="to")&&!decide (fR x.1∈ks))=true then some (T.d (.str x.1)) else none):=y;simp?[↓G7,↓YO,↓Kc,R6,↓vb hv hb];by_cases c:x.2="to";rw[dT c]at y ⊢;refine⟨by omega,?_⟩;by_cases d:fR x.1∈ks;rw[dT d]at y ⊢;exact y;rw[dF d]at y ⊢;exact y;rw[dF c]at y ⊢;exact y;rw[Qw,xB (λp:Pt=>PyData.str p.1),show((ks.filter (RF ks)).map λp=>PyData.str p.1)=(mJ ks).map PyData.str by unfold mJ;rw[Qd];rfl];refine ZY (by unfold mJ;rw[QF];exact w) λz v u=>?_;simp?[↓vA];exact q z v u
theorem SV(f:Flow es st g r):(((lk r ZA).map (·.1)).filter λy=>decide (0<rm r y ZA)).length<=st.length:=by
 have u:∀y∈((lk r ZA).map (·.1)).filter (λy=>decide (0<rm r y ZA)),y=tO y.1/\UQ r y.1:=λy x=>by have h:=of_decide_eq_true (Qn.mp x).2;obtain⟨n,rfl⟩:=JY f.toBase ((f.adj _ _).mpr (f.toBase.adjw h));exact⟨rfl,h⟩
 have nd:(((lk r ZA).map (·.1)).filter λy=>decide (0<rm r y ZA)).Nodup:=(f.ndi ZA).sublist qF;have:=AE (ks:=(((lk r ZA).map (·.1)).filter λy=>decide (0<rm r y ZA)).map (·.1)) (ns:=st) (by
  refine WR _ (λa b h=>h) (wv (λ{a b} k hb v z=>?_) nd);exact v (by rw[(u a k).1,(u b hb).1,z])) λs w=>by
  obtain⟨y,x,e⟩:=QY.mp w;rw[<- e];exact(iI f.toBase (u y x).2).1
 rw[QF]at this;exact this
theorem KI{α v:Type}{body:T->(Option T->Prop)->Prop}(P:α->v->Prop)(g:α->T)(f:v->T):∀(l:List α) (h:List T) (Q:List T->Prop),(∀x∈l,∀R:Option T->Prop,(∀y,P x y->R (some (f y)))->body (g x) R)->h.length+l.length<=sizeLine->(∀u,Paired P l u->Q (h++u.map f))->CD body (l.map g) h Q
 |[],h,Q,_,hl,q=>by have:=q [] .nil;rw[wI,wG]at this;exact⟨by rw[Q6]at hl;omega,this⟩|x::r,h,Q,hb,hl,q=>by
  rw[QM]at hl;refine hb x QE _ λy k=>⟨by omega,?_⟩
  refine KI P g f r _ Q (λz w=>hb z (QG _ w)) (by rw[QL,Ql];omega) λu b=>?_;have:=q (y::u) (.cons k b);rw[QO]at this;rw[qN];exact this
theorem P7{r:PT}:TJ Ψ E r Z i (N0 ks vs) true ρ=xA Ψ E r Z (ρ.set i (some (.nv (.d (.dict (nC ks vs)))))):=by unfold TJ;rw[Sa];exact propext ⟨λh=>h.2,λh=>⟨rfl,h⟩⟩
def Jf(c:List Str):T:=.lst ((c.map PyData.str).map T.d)
theorem Oa(cs:List (List Str)):ersT (cs.map Jf)=cs.map gB:=by rw[SN,Qd];congr 1;funext c;show PyData.list (ersT ((c.map PyData.str).map T.d))=_;rw[KA];rfl
theorem Il{r:PT}:TJ Ψ E r Z i (.lst (cs.map Jf)) true ρ=xA Ψ E r Z (ρ.set i (some (.nv (.d (.list (cs.map gB)))))):=by
 have e:(T.lst (cs.map Jf)).er=.list (cs.map gB):=by show PyData.list (ersT (cs.map Jf))=_;rw[Oa]
 unfold TJ;rw[e];exact propext ⟨λh=>h.2,λh=>⟨rfl,h⟩⟩
theorem g7{a b:List T}:FF [.lst a,.lst b]=.tup [.lst a,.lst b]:=rfl
theorem NI:∀{cs:List (List Str)},HD cs↔cs.Pairwise λc d=>∀x∈c,x∉d
 |[]=>⟨λ_=>.nil,λ_=>trivial⟩|c::cs=>by rw[QAa,<- NI];exact wj
theorem JS{ds:List (List Str)}(h:ds.Perm cs)(a:HD cs):HD ds:=NI.mpr ((h.pairwise_iff (λ{a b} z x u y=>z x y u)).mpr (NI.mp a))
structure Good(es:iB)(st:List Str)(g:Str)(cs:List (List Str))(cut:List Str):Prop where
 chn:∀c∈cs,Chn es st g c g/\c.Nodup/\∀x∈c,x≠g
 apart:HD cs
 len:cs.length=cut.length
 few:cut.length<=11
 nd:cut.Nodup
 srt:sortedS cut=true
 ng:g∉cut
 led:¬ ∃a,(a,g)∈es/\Led es st g cut a
 okn:∀s∈cut,qV s=true
end
section
variable{es:iB}{st:List Str}{g:Str}{r:Rm}
theorem IJ(f:Flow es st g r):∀{fs:List Str}{cs:List (List Str)},fs.Nodup->(∀s∈fs,UQ r s)->Paired (λs c=>Run r g s c g) fs cs->HD cs/\(∀c∈cs,∃s∈fs,Run r g s c g)
 |_,_,_,_,.nil=>⟨trivial,λ_ h=>(nomatch h)⟩
 |s::fs,c::cs,nd,hf,.cons h t=>by
  obtain⟨b,a⟩:=Qi.mp nd;obtain⟨l,k⟩:=IJ f a (λs j=>hf s (QG _ j)) t;refine⟨⟨λd w x i e=>?_,l⟩,λd w=>?_⟩;obtain⟨u,y,v⟩:=k d w;have:=Run.apart f (hf s QE) (hf u (QG _ y)) h v x i e;exact b (this▸y);rcases QK.mp w with z|z
  ·rw[z];exact⟨s,QE,h⟩
  obtain⟨u,y,v⟩:=k d z;exact⟨u,QG _ y,v⟩
def Vh(r:Rm):List Pt:=((lk r ZA).map λe=>e.1).filter λy=>decide (0<rm r y ZA)
def PR(r:Rm):List Str:=(Vh r).map λp=>p.1
theorem cZ(f:Flow es st g r):∀y∈Vh r,y=tO y.1/\UQ r y.1:=λy x=>by have h:=of_decide_eq_true (Qn.mp x).2;obtain⟨n,rfl⟩:=JY f.toBase ((f.adj _ _).mpr (f.toBase.adjw h));exact⟨rfl,h⟩
theorem gf(f:Flow es st g r):(PR r).Nodup:=by have nd:(Vh r).Nodup:=(f.ndi ZA).sublist qF;refine WR _ (λa b h=>h) (wv (λ{a b} y hb x z=>?_) nd);exact x (by rw[(cZ f a y).1,(cZ f b hb).1,z])
theorem OR(f:Flow es st g r):∀s∈PR r,UQ r s:=λs x=>by obtain⟨y,h,e⟩:=QY.mp x;rw[<- e];exact(cZ f y h).2
theorem JI(f:Flow es st g r):out es st g r ZA=(PR r).length/\(PR r).length<=st.length:=by have x:=R5 f;have h:=SV f;unfold PR;rw[QF];exact⟨x,h⟩
theorem mK{α x:Type}{P:α->x->Prop}{l:List α}{m:List x}(h:Paired P l m):l.length=m.length:=qW h
theorem N5(f:Flow es st g r)(C:HB es st)(F:st.length<=11){ks:List Pt}{vs:List D}(W:CF r ks vs)(hk:∀p,p∈ks↔Rch r p)(q:tO g∉ks){cs ds:List (List Str)}(Y:Paired (λs c=>Run r g s c g) (PR r) cs)(j:ds.Perm cs){cut:List Str}(w:cut.Perm (mJ ks))(sc:sortedS cut=true):Good es st g ds cut:=by
 obtain⟨J,I⟩:=IJ f (gf f) (OR f) Y;obtain⟨P,O⟩:=JI f;have N:=bQ f W.nd hk q;have M:(mJ ks).length=(ks.filter (RF ks)).length:=by unfold mJ;rw[QF]
 have L:=mK Y;have u:∀s,s∈mJ ks↔tO s∈ks/\fR s∉ks:=λs=>by unfold mJ;rw[QY];constructor;rintro⟨y,B,e⟩;obtain⟨v,x⟩:=Qn.mp B;obtain⟨n,X,k⟩:=AD.mp x;subst X;have e:n=s:=e;subst e;exact⟨v,k⟩;rintro⟨v,x⟩;exact⟨tO s,Qn.mpr ⟨v,AD.mpr ⟨s,rfl,x⟩⟩,rfl⟩
 have l:(mJ ks).Nodup:=by unfold mJ;refine WR _ (λa b h=>h) (wv (λ{a b} E hb A z=>?_) (W.nd.sublist (qF (p:=RF ks))));obtain⟨n,G,_⟩:=AD.mp (Qn.mp E).2;obtain⟨m,X,_⟩:=AD.mp (Qn.mp hb).2;subst G X;have z:n=m:=z;exact A (by rw[z])
 have K:=w.length_eq;refine⟨λc hc=>?_,JS j J,by rw[j.length_eq,K];omega,by omega,w.nodup_iff.mpr l,sc,λz=>q ((u g).mp (w.mem_iff.mp z)).1,?_,λs o=>?_⟩;obtain⟨s,o,i⟩:=I c (j.mem_iff.mp hc);have Z:=OR f s o;exact⟨i.chn f Z,(i.nd f Z).1,i.ng⟩;exact z6 f hk q λn v x=>w.mem_iff.mpr ((u n).mpr ⟨v,x⟩);have v:=((u s).mp (w.mem_iff.mp o)).1;have x:=vB.mp (aH f.toBase.dom f.toBase.bg ((hk _).mp v));rw[f.keys]at x;have k:=(MY C x).1;simp only[pr,tO,wC,qj,Qg]at k;exact k.1
end
noncomputable def lO(es:iB)(st:List Str)(g:Str)(r:Rm)(h:List (D×D))(o5 o6:Option Sl):zA:=[some (.nv (.d (.list (es.map pr)))),some (.nv (.d (.list (st.map PyData.str)))),some (.nv (.d (.str g))),some (.own (UA r)),some (.nv (.d (.dict h))),o5,o6]
section
variable{Ψ:PEv}{Z:PEnds}{es:iB}{st:List Str}{g:Str}{r:Rm}
section
variable{q:PT}{h:List (D×D)}{o6:Option Sl}
theorem jl(u:Ψ.sp "rooms_of"=oD)(z:Ψ.sp "points_reached"=GC)(y:es.length<=126)(x:st.length<=11)(k:∀ks vs,CF (jA es st g) ks vs->(∀p,p∈ks↔Rch (jA es st g) p)->xA Ψ (λ_=>False) q Z (lO es st g (jA es st g) (nC ks vs) none none)) :
  xA Ψ (λ_=>False) (.seq (.own 3 (.call "rooms_of" (.nq (.var 0) (.nq (.var 1) (.nq (.var 2) .nr))))) (.seq (.set 4 (.call "points_reached" (.nq (.var 3) .nr))) q)) Z [some (.nv (.d (.list (es.map pr)))),some (.nv (.d (.list (st.map PyData.str)))),some (.nv (.d (.str g))),none,none,none,none]:=by
 have ok:=mP (g:=g) y x;delta lO at k;simp?[↓aA (md:=[]) u rfl rfl,↓aA (md:=[.nv]) z rfl rfl];refine MU y x ?_;simp?[↓rO,↓aA (md:=[.nv]) z rfl rfl];refine RL (.inl rfl) ok.dom ok.bg ok.sz.1 λks vs hc hk=>?_;simp?[↓P7];exact k ks vs hc hk
theorem Ek(w:Ψ.sp "points_reached"=GC)(i:Ψ.sp "lay_chain"=GG){ks:List Pt}{vs:List D}(v:(jA es st g).length<=1000)(a:HB es st)(f:Flow es st g r)(j:CF r ks vs)(b:tO g∈ks)
  (k:∀z x y,Flow es st g z->out es st g z ZA=out es st g r ZA+1->CF z x y->(∀p,p∈x↔Rch z p)->Z.nx (lO es st g z (nC x y) none none)) :
  xA Ψ (λ_=>False) VC Z (lO es st g r (nC ks vs) none none):=by
 have l:sizeLine=16777216:=QS;delta lO at k ⊢;delta VC;simp?[YX,↓sG (md:=[]) i rfl rfl,↓aA (md:=[.nv]) w rfl rfl];refine⟨by omega,C2 v a f j b λz u e=>⟨_,rfl,?_⟩⟩;simp?[↓rO,↓aA (md:=[.nv]) w rfl rfl];refine RL (.inl rfl) u.toBase.dom u.toBase.bg (by rw[u.toBase.len];exact v) λx y hc hk=>?_;simp?[↓P7];exact k z x y u e hc hk
theorem Ak(w:Ψ.va "BEGIN"=some (pr ZA)){o5:Option Sl}(X:(jA es st g).length<=1000)(f:Flow es st g r)(k:xA Ψ (λ_=>False) q Z (lO es st g r h (some (.nv (.d (.list ((PR r).map PyData.str))))) o6)) :
  xA Ψ (λ_=>False) (.seq (.set 5 (.comp [] ["point"] (.nm 0) .val (.nq (.idx (.var 3) (.glo "BEGIN")) .nr) (.cmp .Gt (.idx (.idx (.var 4) (.var 0)) (.glo "BEGIN")) (.int 0)) (.idx (.var 0) (.int 0)))) q) Z (lO es st g r h o5 o6):=by
 have s:sizeLine=16777216:=QS;have Y:=f.toBase.inn ZA;delta lO at k ⊢;simp?[↓gH,↓BG w];refine ME f.toBase.bg ?_;simp?[↓x0,↓YW];have n:((lk r ZA).map λe=>pr e.1).map T.d=((lk r ZA).map λe=>e.1).map λp=>T.d (pr p):=by rw[Qd,Qd];rfl
 rw[n];refine dB (λp=>T.d (pr p)) (λ(p:Pt)=>T.d (.str p.1)) (λy=>decide (0<rm r y ZA)) ((lk r ZA).map λe=>e.1) [] _ (λx b R z=>?_) (by show 0+((lk r ZA).map λe=>e.1).length<=_;rw[QF];omega) ?_;obtain⟨e,i,l⟩:=QY.mp b;have o:mH r ZA x:=oB.mpr ⟨e.2,by rw[<- l];exact i⟩;have u:mH r x ZA:=(f.adj _ _).mpr (XB ((f.adj _ _).mp o));have a:Key r x:=by rw[vB,f.keys];exact mB ((f.adj _ _).mp u)
 obtain⟨v,hv⟩:=u;have j:rm r x ZA=v:=by unfold rm;rw[hv];rfl
 rw[j]at z;simp?[↓gH,↓BG w];refine ME a ?_;simp?[↓aU,↓BG w];refine FM hv ?_;simp?[↓YO];by_cases d:0<v;rw[dT d]at z ⊢;exact z;rw[dF d]at z ⊢;exact z;rw[Qw,xB (λp:Pt=>PyData.str p.1)];have m:((((lk r ZA).map λe=>e.1).filter λy=>decide (0<rm r y ZA)).map λp=>PyData.str p.1)=(PR r).map PyData.str:=by unfold PR Vh;rw[Qd];rfl
 rw[m];simp?[↓vA];exact k
theorem Tk(a:Ψ.sp "chain_from"=rD)(u:(jA es st g).length<=1000)(b:st.length<=11)(f:Flow es st g r)(k:∀cs,Paired (λs c=>Run r g s c g) (PR r) cs->xA Ψ (λ_=>False) q Z (lO es st g r h (some (.nv (.d (.list ((PR r).map PyData.str))))) (some (.nv (.d (.list (cs.map gB))))))) :
  xA Ψ (λ_=>False) (.seq (.set 6 (.comp [] ["first"] (.nm 0) .val (.nq (.var 5) .nr) .nop (.call "chain_from" (.nq (.var 4) (.nq (.var 0) (.nq (.var 3) .nr)))))) q) Z (lO es st g r h (some (.nv (.d (.list ((PR r).map PyData.str))))) o6):=by
 have e:sizeLine=16777216:=QS;have hl:=(JI f).2;delta lO at k ⊢;simp?[↓vA];rw[<- xB PyData.str (PR r)];refine KI (λs c=>Run r g s c g) (λs=>T.d (.str s)) Jf (PR r) [] _ (λx z R w=>?_) (by show 0+(PR r).length<=_;omega) λcs v=>?_;simp?[↓rO,↓aA (md:=[.nv]) a rfl rfl];refine PU u f (OR f x z) λc y=>?_;simp?[↓vA];exact w c y;rw[Qw];simp?[↓Il];exact k cs v
end
end
section
variable{es es':iB}{g x:Str}{F sr u:List Str}{n:Int}
noncomputable def pE:PSp where
 md:=[]
 run:=λv Q _=>∃(es:iB) (st:List Str) (g:Str),v=[.d (.list (es.map pr)),.d (.list (st.map PyData.str)),.d (.str g)]/\(es.length<=126/\st.length<=11/\HB es st)/\∀y cut,Good es st g y cut->Q (.tup [.lst ((y.map gB).map T.d),.lst ((cut.map PyData.str).map T.d)]) []
 mono:=λh _ z=>by obtain⟨es,st,g,e,l,q⟩:=z;exact⟨es,st,g,e,l,λy cut a=>h _ _ (q y cut a)⟩
theorem RU{st:List Str}{K:T->List T->Prop}{E:XE}(z:es.length<=126)(y:st.length<=11)(h:HB es st)(q:∀cs cut,Good es st g cs cut->K (.tup [.lst ((cs.map gB).map T.d),.lst ((cut.map PyData.str).map T.d)]) []):xD pE [.d (.list (es.map pr)),.d (.list (st.map PyData.str)),.d (.str g)] K E:=⟨es,st,g,rfl,⟨z,y,h⟩,q⟩
theorem fY{Ψ:PEv}(R:Ψ.sp "rooms_of"=oD)(C:Ψ.sp "points_reached"=GC)(P:Ψ.sp "lay_chain"=GG)(O:Ψ.sp "chain_from"=rD)(B:Ψ.sp "full_names"=bG)(N:Ψ.va "BEGIN"=some (pr ZA))(ds Q E)(h:pE.run ds Q E):ds.length=jD.length/\xA Ψ (λ_=>False) jG (NA pE jD.length Q) (nA kG pE.md ds):=by
 obtain⟨es,st,g,rfl,⟨Y,b,A⟩,q⟩:=h;have W:sizeLine=16777216:=QS;have i:(jA es st g).length<=1000:=(mP (g:=g) Y b).sz.1;refine XA [some (.nv (.d (.list (es.map pr)))),some (.nv (.d (.list (st.map PyData.str)))),some (.nv (.d (.str g))),none,none,none,none] rfl rfl rfl ?_;refine jl R C Y b λl v S L=>?_;have b0:=JI (i7 (es:=es) (st:=st) (g:=g));delta lO;simp?[↓vA];refine oH (λm X=>∃r z a,(m:Int)+out es st g r ZA=12/\Flow es st g r/\CF r z a/\(∀p,p∈z↔Rch r p)/\X=lO es st g r (nC z a) none none) (12 - out es st g (jA es st g) ZA).toNat ⟨jA es st g,l,v,by omega,i7,S,L,rfl⟩ ?_;rintro m X ⟨r,z,a,em,f,y,hk,rfl⟩;have bd:=JI f;by_cases k:tO g∈z;have w:=λ(Z:PEnds) W=>Ek (Ψ:=Ψ) (Z:=Z) C P i A f y k W;unfold lO at w;delta lO;simp?[YX,↓X7 y.len y.hb];refine⟨by omega,?_⟩;rw[dT k];refine w _ λG o j s e H M=>⟨m - 1,?_,G,o,j,?_,s,H,M,rfl⟩
 have:=JI s;omega;have:=JI s;omega;have K:xA Ψ (λ_=>False) (.seq (.set 5 (.comp [] ["point"] (.nm 0) .val (.nq (.idx (.var 3) (.glo "BEGIN")) .nr) (.cmp .Gt (.idx (.idx (.var 4) (.var 0)) (.glo "BEGIN")) (.int 0)) (.idx (.var 0) (.int 0)))) (.seq (.set 6 (.comp [] ["first"] (.nm 0) .val (.nq (.var 5) .nr) .nop (.call "chain_from" (.nq (.var 4) (.nq (.var 0) (.nq (.var 3) .nr)))))) (.seq (.ret (.tup (.nq (.bi .sorted (.nq (.var 6) .nr)) (.nq (.call "full_names" (.nq (.var 4) .nr)) .nr)))) .nil))) (eZ Q) (lO es st g r (nC z a) none none):=by refine Ak N i f (Tk O i b f λcs w=>?_);have lc:=mK w;have l3:=bQ f y.nd hk k;delta lO;simp?[↓aA (md:=[]) B rfl rfl];refine Ue (by omega) λds I=>?_;simp?[↓aA (md:=[]) B rfl rfl];refine cX y.len y.hb (QZ (y.le f.toBase.dom f.toBase.bg) (by rw[f.toBase.len];exact i)) (by omega) λcut J sc=>?_;simp?[g7];exact⟨by omega,q ds cut (N5 f A b y hk k w I J sc)⟩
 unfold lO at K;delta lO;simp?[YX,↓X7 y.len y.hb];refine⟨by omega,?_⟩;rw[dF k];exact K
def ZI(es:iB)(F:List Str):iB:=es.filter λe=>decide (e.1∈F)
theorem FH{e:Str×Str}:e∈ZI es F↔e∈es/\e.1∈F:=by unfold ZI;rw[Qn,decide_eq_true_iff]
def tJ(es:iB)(sr:List Str)(x:Str)(F:List Str)(n:Int):Prop:=∃h:List (List Str),HD h/\(∀c∈h,Chn (ZI es F) sr x c x)/\n<=(h.length:Int)
theorem Chn.sub(v:∀e∈es,e∈es')(z:∀s∈sr,s∈u){c:List Str}{n:Str}(h:Chn es sr g c n):Chn es' u g c n:=by
 induction h with|st a b=>exact .st (z _ a) b|go _ b c y=>exact .go y b (v _ c)
theorem tJ.sub{v:List Str}{z:Int}(j:∀e∈es,e∈es')(i:∀s∈sr,s∈u)(f:∀y∈F,y∈v)(w:z<=n)(h:tJ es sr x F n):tJ es' u x v z:=by obtain⟨p,a,c,l⟩:=h;refine⟨p,a,λd b=>Chn.sub (λe k=>?_) i (c d b),QBE w l⟩;obtain⟨o,m⟩:=FH.mp k;exact FH.mpr ⟨j e o,f _ m⟩
theorem BY{cs:List (List Str)}{cut:List Str}(h:Good (ZI es F) sr x cs cut):tJ es sr x F n↔n<=(cs.length:Int):=by constructor;rintro⟨y,a,c,l⟩;have:=xW a c h.led;rw[<- h.len]at this;exact QBE l (Int.ofNat_le.mpr this);exact λl=>⟨cs,h.apart,λc hc=>(h.chn c hc).1,l⟩
inductive Held(es:iB)(sr:List Str)(nd:List (Str×Int)):Str->Prop
 |see {x:Str}{n:Int}:(x,n)∈nd->x∈sr->Held es sr nd x
 |tell {x:Str}{n:Int}(F:List Str):(x,n)∈nd->(∀y∈F,Held es sr nd y)->tJ es sr x F n->Held es sr nd x
end
section
variable{es es':iB}{sr y:List Str}{nd u:List (Str×Int)}
theorem vZ{S:List Str}(e:∀x∈S,Held es sr nd x)(k:∀x n,(x,n)∈nd->x∈sr->x∈S)(w:∀x n,(x,n)∈nd->x∉S->¬ tJ es sr x S n)(x:Str):x∈S↔Held es sr nd x:=by
 refine⟨e x,λh=>?_⟩;induction h with|see a b=>exact k _ _ a b|@tell x n F a _ m v=>by_cases z:x∈S;exact z;exact absurd (m.sub (λ_ h=>h) (λ_ h=>h) v (QCU _)) (w x n a z)
theorem NN{x:Str}(h:Held es sr nd x):∃n,(x,n)∈nd:=by
 cases h with|see a _=>exact⟨_,a⟩|tell _ a=>exact⟨_,a⟩
end
noncomputable def BC:PSp where
 md:=[.ny,.ny,.kq]
 run:=λv Q _=>∃(y:iB) (x F:List Str) (g:Str),v=[.d (.list (y.map pr)),.d (.list (x.map PyData.str)),.lst ((F.map PyData.str).map T.d),.d (.str g)]/\(y.length<=126/\x.length<=11/\HB y x)/\∀u cut,Good (ZI y F) x g u cut->Q (.tup [.lst ((u.map gB).map T.d),.lst ((cut.map PyData.str).map T.d)]) []
 mono:=λh _ z=>by obtain⟨y,x,F,g,e,l,q⟩:=z;exact⟨y,x,F,g,e,l,λu cut a=>h _ _ (q u cut a)⟩
theorem SO{es:iB}{sr F:List Str}{g:Str}{K:T->List T->Prop}{E:XE}(y:es.length<=126)(x:sr.length<=11)(h:HB es sr)(q:∀cs cut,Good (ZI es F) sr g cs cut->K (.tup [.lst ((cs.map gB).map T.d),.lst ((cut.map PyData.str).map T.d)]) []):xD BC [.d (.list (es.map pr)),.d (.list (sr.map PyData.str)),.lst ((F.map PyData.str).map T.d),.d (.str g)] K E:=⟨es,sr,F,g,rfl,⟨y,x,h⟩,q⟩
theorem Y4{Ψ:PEv}(k:Ψ.sp "apart_chains"=pE)(ds Q E)(h:BC.run ds Q E):ds.length=EC.length/\xA Ψ (λ_=>False) DD (NA BC EC.length Q) (nA yG BC.md ds):=by
 obtain⟨y,v,F,g,rfl,⟨f,b,w⟩,q⟩:=h;have m:sizeLine=16777216:=QS;have a:(ZI y F).length<=126:=QZ (W6 _ _) f;have u:HB (ZI y F) v:=⟨w.1,λe i=>w.2 e (FH.mp i).1⟩
 refine XA [some (.nv (.d (.list (y.map pr)))),some (.nv (.d (.list (v.map PyData.str)))),some (.nv (.lst ((F.map PyData.str).map T.d))),some (.nv (.d (.str g)))] rfl rfl rfl ?_;delta DD;simp?[↓aA (md:=[]) k rfl rfl];rw[<- xB pr y];refine dB (λp=>T.d (pr p)) (λ(p:Str×Str)=>T.d (pr p)) (λp=>decide (p.1∈F)) y [] _ (λx n R z=>?_) (by show 0+y.length<=_;omega) ?_;simp?[↓YO,yE,TC,tB,true_or];by_cases d:x.1∈F;rw[dT d]at z ⊢;exact z;rw[dF d]at z ⊢;exact z;rw[Qw,xB pr];simp?[↓aA (md:=[]) k rfl rfl];refine RU a b u λl cut j=>?_;simp?[↓vA];exact q l cut j
section
variable{Ψ:PEv}{E:XE}{ρ:zA}{K:TK}{a b c h:PX}{ds:List D}{n m:Bool}{L:Bool->Prop}
def m8(x:T)(n:Bool)(Ψ:PEv)(b:PX)(E:XE)(ρ:zA)(K:TK):Prop:=sq (α:=Option Int) (uA x n) ρ (λρ R=>(pe Ψ b E).e ρ λu _ y=>XF u.er λo=>R o y) λu y=>xJ (uA x n).vw none u λz k=>K z k y
def Xd(x:T)(n:Bool)(Ψ:PEv)(b:PX)(E:XE)(ρ:zA)(K:TK):Prop:=sq (α:=Option Int) (uA x n) ρ (λρ R=>(pe Ψ b E).e ρ λu _ y=>XF u.er λo=>R o y) λl y=>xJ (uA x n).vw l none λz k=>K z k y
def JT(x:T)(Q:Option Int->Prop):Prop:=XF x.er Q
theorem ye{i:Int}{Q:Option Int->Prop}:JT (.d (.int i)) Q=Q (some i):=rfl
theorem TW{x:T}{R:Option Int->zA->Prop}:sq (α:=Option Int) x ρ (λρ (R:Option Int->zA->Prop)=>R none ρ) R=R none ρ:=by unfold sq;split<;>rfl
theorem Y0{j:Nat}:lB Ψ (.slc a .nop (.var j)) E ρ K=lB Ψ a E ρ λx n v=>m8 x n Ψ (.var j) E v K:=by show(pe Ψ a E).e ρ (λx n v=>sq (α:=Option Int) (uA x n) v (λρ (R:Option Int->zA->Prop)=>R none ρ) λl w=>sq (α:=Option Int) (uA x n) w (λρ R=>(pe Ψ (.var j) E).e ρ λu _ y=>XF u.er λo=>R o y) λu y=>xJ (uA x n).vw l u λz k=>K z k y)=_;simp only[TW];rfl
theorem km{x:D}:m8 (.d x) n Ψ b E ρ K=lB Ψ b E ρ λu _ y=>JT u λo=>GO (.d x) n none o λz k=>K z k y:=by cases n<;>rfl
theorem gl{t u:Str}{x y:D}{R:Option T->Prop}{v:CmpOp}:VG Ψ E [] [t,u] (.tp [0,1]) (.cmp v a b) h ρ (.d (.tuple [x,y])) R=fL Ψ (.cmp v a b) E (some (.nv (.d x))::some (.nv (.d y))::lockA ρ) λk z=>if k=true then lB Ψ h E z λy n _=>JC y n (R (some y)) else R none:=bC
theorem jh{j:Nat}{es:PX}:lB Ψ (.mt .reverse (.var j) es) E ρ K=HC ρ[j]? λt=>EI .reverse t=true/\cJ Ψ es E [] (ρ.set j (some (.nv t))) λxs x=>kF xs=true/\x[j]?=some (some (.nv t))/\eK .reverse t (iF xs) λr s'=>K r true (x.set j (some (.own s'))):=rfl
theorem G9{N:T->T->Prop}:eK .reverse (.lst (ds.map T.d)) [] N=N (.d .none) (.lst (ds.reverse.map T.d)):=by refine propext ⟨λ⟨x,e,_,k⟩=>?_,λk=>⟨ds,rfl,rfl,k⟩⟩;injection e with e;have:=congrArg ersT e;rw[KA,KA]at this;rw[this];exact k
theorem Jl{t:T}{Q:T->Bool->Prop}:rF .Add (.d (.list ds)) n t m Q=rF .Add (.lst (ds.map T.d)) false t m Q:=by unfold rF;rw[oA];rfl
theorem ck:(T.lst (ds.map T.d)).er=.list ds:=by show PyData.list (ersT (ds.map T.d))=_;rw[KA]
end
theorem uQ{α:Type}(l:List α)(k:Nat):BD l none (some (k:Int))=l.take k:=by
 unfold BD;have x:HT.sIx l.length 0 none=0:=rfl;rw[x,List.drop_zero,QB5];have h:HT.sIx l.length l.length (some (k:Int))=min k l.length:=by unfold HT.sIx;simp only;split<;>omega
 rw[h,List.take_eq_take_iff];omega
theorem ZZ{α:Type}(l:List α)(k:Nat):BD l (some (k:Int)) none=l.drop k:=by
 unfold BD;have x:HT.sIx l.length l.length none=l.length:=rfl;have h:HT.sIx l.length 0 (some (k:Int))=min k l.length:=by unfold HT.sIx;simp only;split<;>omega
 rw[x,h,List.take_of_length_le (by rw[WZ];omega)];by_cases c:k<=l.length;rw[Nat.min_eq_left c];rw[Nat.min_eq_right (by omega),QCI,WJ (by omega)]
theorem T5(a b:List D):(T.tup [.lst (a.map T.d),.lst (b.map T.d)]).er=.tuple [.list a,.list b]:=by show PyData.tuple [.list (ersT (a.map T.d)),.list (ersT (b.map T.d))]=_;rw[KA,KA]
theorem Gh{a b:List D}{m:Bool}{t:T}{R:T->Prop}:MB (.tup [.lst (a.map T.d),.lst (b.map T.d)]) true t m R=MB (.d (.tuple [.list a,.list b])) false t m R:=by
 have e:uA (.tup [.lst (a.map T.d),.lst (b.map T.d)]) true=.d (.tuple [.list a,.list b]):=by show T.d (T.tup [.lst (a.map T.d),.lst (b.map T.d)]).er=_;rw[T5]
 unfold MB;rw[e];rfl
section
variable{Ψ:PEv}{E:XE}{ρ:zA}{a c h:PX}{W:List T->Prop}{R:Option T->Prop}{C:List T->Prop}{xs:List (T×Bool)}{ds:List D}{n m:Bool}
section
variable{md:List Md}{ts:List T}{b:Bool}{t u:Str}
theorem DQ{v:PX}{M:List (T×Bool)->zA->Prop}:cJ Ψ (.nq a v) E (.ny::md) ρ M=lB Ψ a E ρ λx n z=>G0 x n Ψ v E md z λxs y=>M ((x,n)::xs) y:=rfl
theorem Um{d:D}:ZB (.ny::md) ((.d d,n)::xs) C=ZB md xs λts=>C (.d d::ts):=by
 have e:BA (.ny::md) ((.d d,n)::xs) []=(BA md xs []).map (.d d::·):=by cases n<;>rfl
 unfold ZB;rw[e,UF]
theorem BS:lL .val [(.lst ts,false)] W=W ts:=by unfold lL vC;exact ZK ts
theorem yg{m:List Bool}{x y:D}{v:CmpOp}:VG Ψ E (b::m) [t,u] (.tp [0,1]) (.cmp v a c) h ρ (.d (.tuple [x,y])) R=fL Ψ (.cmp v a c) E (some (.nv (.d x))::some (.nv (.d y))::OC (b::m) (lockA ρ)) λk z=>if k=true then lB Ψ h E z λy n _=>JC y n (R (some y)) else R none:=bC
theorem yl{m:List Bool}{x y:T}:VG Ψ E (b::m) [t,u] (.tp [0,1]) .nop h ρ (.tup [x,y]) R=lB Ψ h E (some (.nv x)::some (.nv y)::OC (b::m) (lockA ρ)) λy n _=>JC y n (R (some y)):=bC
theorem En:sI ((.lst [],true)::xs) C=sI xs λts=>C (.lst []::ts):=Cm (ds:=[])
theorem Le{d:D}:FF [.d d,.lst ts]=.tup [.d d,.lst ts]:=rfl
theorem Zk{i j:Int}{L:Bool->Prop}:TB .GtE (.d (.int i)) (.d (.int j)) L=L (decide (j<=i)):=rfl
end
end
noncomputable abbrev Rw:=Str×List (List Str)
def PB(r:Rw):T:=.tup [.d (.str r.1),.lst ((r.2.map gB).map T.d)]
def iG(p:Str×Int):D:=.tuple [.str p.1,.int p.2]
noncomputable def RV(es:iB)(sr:List Str)(nd:List (Str×Int))(h:List Rw)(F:List Str)(b:Bool)(o6 o7 o8:Option Sl):zA:=[some (.nv (.d (.list (es.map pr)))),some (.nv (.d (.list (sr.map PyData.str)))),some (.nv (.d (.list (nd.map iG)))),some (.own (.lst (h.map PB))),some (.own (.lst ((F.map PyData.str).map T.d))),some (.nv (.d (.bool b))),o6,o7,o8]
section
variable{Ψ:PEv}{Z:PEnds}{es:iB}{sr:List Str}{nd:List (Str×Int)}{q:PT}
section
variable{o5 o6 o7 o8:Option Sl}{u:List Rw}
def tL(sr:List Str)(nd:List (Str×Int)):List Rw:=(nd.filter λp=>decide (p.1∈sr)).map λp=>(p.1,[])
theorem Ej(hl:nd.length<=100){o4:Option Sl}(k:xA Ψ (λ_=>False) q Z [some (.nv (.d (.list (es.map pr)))),some (.nv (.d (.list (sr.map PyData.str)))),some (.nv (.d (.list (nd.map iG)))),some (.own (.lst ((tL sr nd).map PB))),o4,o5,o6,o7,o8]) :
  xA Ψ (λ_=>False) (.seq (.own 3 (.comp [false,false,false,false,false,false,true,true] ["name","number"] (.tp [0,1]) .val (.nq (.var 2) .nr) (.cmp .In (.var 0) (.var 3)) (.tup (.nq (.var 0) (.nq (.lst .nr) .nr))))) q) Z [some (.nv (.d (.list (es.map pr)))),some (.nv (.d (.list (sr.map PyData.str)))),some (.nv (.d (.list (nd.map iG)))),none,o4,o5,o6,o7,o8]:=by
 have y:sizeLine=16777216:=QS;simp?[↓vA];rw[<- xB iG nd];refine dB (λp=>T.d (iG p)) (λ(p:Str×Int)=>PB (p.1,[])) (λp=>decide (p.1∈sr)) nd [] _ (λx z R h=>?_) (by show 0+nd.length<=_;omega) ?_;obtain⟨x,n⟩:=x;delta iG;simp?[↓yg,yE,TC,tB,true_or];by_cases d:x∈sr;rw[dT d]at h ⊢;simp?[↓En,↓Le];exact⟨by omega,by omega,h⟩;rw[dF d]at h ⊢;exact h;rw[Qw];have e:(nd.filter λp=>decide (p.1∈sr)).map (λp=>PB (p.1,[]))=(tL sr nd).map PB:=by unfold tL;rw[Qd];rfl
 rw[e];exact k
theorem Aj(hl:u.length<=100)(k:xA Ψ (λ_=>False) q Z [some (.nv (.d (.list (es.map pr)))),some (.nv (.d (.list (sr.map PyData.str)))),some (.nv (.d (.list (nd.map iG)))),some (.own (.lst (u.map PB))),some (.own (.lst (((u.map λr=>r.1).map PyData.str).map T.d))),o5,o6,o7,o8]) :
  xA Ψ (λ_=>False) (.seq (.own 4 (.comp [false,false,false,false,false,false,true,false,true] ["name","chains"] (.tp [0,1]) .val (.nq (.var 3) .nr) .nop (.var 0))) q) Z [some (.nv (.d (.list (es.map pr)))),some (.nv (.d (.list (sr.map PyData.str)))),some (.nv (.d (.list (nd.map iG)))),some (.own (.lst (u.map PB))),none,o5,o6,o7,o8]:=by
 have y:sizeLine=16777216:=QS;simp?[↓BS];refine YB PB (λr=>T.d (.str r.1)) u [] _ (λx z R h=>?_) (by show 0+u.length<=_;omega) ?_;delta PB;simp?[↓yl];exact h;rw[Qw,xB (λr:Rw=>PyData.str r.1)];have e:(u.map λr=>PyData.str r.1)=(u.map λr=>r.1).map PyData.str:=by rw[Qd];rfl
 rw[e];exact k
theorem zL:∀{cs:List (List Str)}(m:Nat),HD cs->HD (cs.take m)
 |[],m,_=>by rw[List.take_nil];trivial|_::_,0,_=>trivial|_::_,m+1,h=>⟨λd x=>h.1 d (QAF x),zL m h.2⟩
theorem Tj(l:Ψ.sp "told_through"=BC){F:List Str}{b:Bool}{x:Str}{n:Int}(i:es.length<=126)(g:sr.length<=11)(j:HB es sr)(p:u.length<=100)(o:F.length<=100)
  (f:x∈F->∀o8,Z.nx (RV es sr nd u F b (some (.nv (.d (.str x)))) (some (.nv (.d (.int n)))) o8))
  (e:x∉F->¬ tJ es sr x F n->∀o8,Z.nx (RV es sr nd u F b (some (.nv (.d (.str x)))) (some (.nv (.d (.int n)))) o8))
  (h:0<=n) (a:x∉F->tJ es sr x F n->∀cs o8,HD cs->(∀c∈cs,Chn (ZI es F) sr x c x/\c.Nodup/\∀y∈c,y≠x)->(cs.length:Int)=n->Z.nx (RV es sr nd (u++[(x,cs)]) (F++[x]) true (some (.nv (.d (.str x)))) (some (.nv (.d (.int n)))) o8)) :
  xA Ψ (λ_=>False) KC Z (RV es sr nd u F b (some (.nv (.d (.str x)))) (some (.nv (.d (.int n)))) o8):=by
 have r:sizeLine=16777216:=QS;delta RV at f e a ⊢;delta KC;simp?[yE,TC,tB,true_or];by_cases d:x∈F;rw[dT d];exact f d _;rw[dF d];simp?[↓DQ,↓Um,↓aA (md:=[.ny,.ny,.kq]) l rfl rfl];refine SO i g j λcs cut v=>?_;have k:=BY (n:=n) v;simp?[↓Gh,↓bO,↓Zk,QF];by_cases c:n<=(cs.length:Int);rw[dT c];simp?[↓Y0,↓km,↓ye,↓Le];rw[EN];refine⟨by omega,by omega,by rw[QF,QF];omega,?_⟩;obtain⟨m,rfl⟩:=Int.eq_ofNat_of_zero_le h;have w:BD cs none (some (m:Int))=cs.take m:=uQ cs m;have:=a d (k.mpr c) (BD cs none (some (m:Int))) (some (.nv (.d (.list (cs.map gB))))) (by rw[w];exact zL m v.apart) (λc hc=>v.chn c (QAF (w▸hc))) (by rw[w,qw];omega);rw[QW,QW,QW]at this;exact this;rw[dF c];exact e d (λz=>c (k.mp z)) _
end
end
structure GI(es:iB)(sr:List Str)(nd:List (Str×Int))(rs:List Rw)(F:List Str):Prop where
 e:F=rs.map λr=>r.1
 ndp:F.Nodup
 held:∀x∈F,Held es sr nd x
 see:∀x n,(x,n)∈nd->x∈sr->x∈F
 non:∀r∈rs,r.1∈sr->r.2=[]
 row:∀(l:List Rw) (x:Str) (cs:List (List Str)) (r:List Rw),rs=l++(x,cs)::r->x∉sr->(∃n,(x,n)∈nd/\(cs.length:Int)=n)/\HD cs/\∀c∈cs,Chn (ZI es (l.map λr=>r.1)) sr x c x/\c.Nodup/\∀y∈c,y≠x
section
variable{es:iB}{sr:List Str}{nd:List (Str×Int)}{u:List Rw}{F:List Str}
theorem GI.len(g:GI es sr nd u F):F.length<=nd.length:=by
 have:=AE (ns:=nd.map λp=>p.1) g.ndp λs x=>by obtain⟨n,h⟩:=NN (g.held s x);exact QY.mpr ⟨_,h,rfl⟩
 rw[QF]at this;exact this
theorem GI.rlen(g:GI es sr nd u F):u.length=F.length:=by rw[g.e,QF]
theorem Rj(h:(nd.map λp=>p.1).Nodup):GI es sr nd (tL sr nd) ((tL sr nd).map λr=>r.1):=by
 have e:((tL sr nd).map λr=>r.1)=(nd.filter λp=>decide (p.1∈sr)).map λp=>p.1:=by unfold tL;rw[Qd];rfl
 refine⟨rfl,?_,λx y=>?_,λx n y k=>?_,λr v _=>?_,λl x j r i y=>?_⟩;rw[e];exact h.sublist (qF.map _);rw[e]at y;obtain⟨p,z,rfl⟩:=QY.mp y;obtain⟨b,a⟩:=Qn.mp z;exact .see (n:=p.2) b (of_decide_eq_true a);rw[e];exact QY.mpr ⟨(x,n),Qn.mpr ⟨y,dT k⟩,rfl⟩;unfold tL at v;obtain⟨p,_,rfl⟩:=QY.mp v;rfl;have w:(x,j)∈tL sr nd:=by rw[i];exact QV _ QE
 unfold tL at w;obtain⟨p,z,g⟩:=QY.mp w;have f:p.1=x:=congrArg qQ g;exact absurd (f▸of_decide_eq_true (Qn.mp z).2) y
theorem GI.add(g:GI es sr nd u F){x:Str}{n:Int}(w:(x,n)∈nd)(i:x∉F)(m:tJ es sr x F n)(cs:List (List Str))(W:HD cs)(Z:∀c∈cs,Chn (ZI es F) sr x c x/\c.Nodup/\∀y∈c,y≠x)(Y:(cs.length:Int)=n):GI es sr nd (u++[(x,cs)]) (F++[x]):=by
 refine⟨by rw[QW,<- g.e];rfl,qH.mpr ⟨g.ndp,Qi.mpr ⟨λz=>(nomatch z),Qy⟩,λa p b hb e=>?_⟩,λy h=>?_,λy k h v=>Qr _ (g.see y k h v),λr o v=>?_,λl y X r f h=>?_⟩;rw[QI.mp hb]at e;exact i (e▸p);rcases Qf.mp h with z|z
 ·exact g.held y z
 rw[QI.mp z];exact .tell F w g.held m;rcases Qf.mp o with z|z
 ·exact g.non r z v
 rw[QI.mp z]at v;exact absurd (g.see x n w v) i;rcases List.eq_nil_or_concat r with rfl|⟨j,z,rfl⟩
 ·obtain⟨s,q⟩:=QCJ f rfl
  cases q;subst s;rw[<- g.e];exact⟨⟨n,w,Y⟩,W,Z⟩
 rw[List.concat_eq_append,<- QB9,<- qN]at f;exact g.row l y X j (QCJ f rfl).1 h
end
noncomputable def sD:PSp where
 md:=[]
 run:=λw Q _=>∃(u:iB) (y:List Str) (nd:List (Str×Int)),w=[.d (.list (u.map pr)),.d (.list (y.map PyData.str)),.d (.list (nd.map iG))]/\(u.length<=126/\y.length<=11/\HB u y/\nd.length<=90/\(nd.map λp=>p.1).Nodup/\∀p∈nd,0<=p.2)/\∀v F,GI u y nd v F->(∀x,x∈F↔Held u y nd x)->Q (.lst (v.map PB)) []
 mono:=λh _ z=>by obtain⟨u,y,nd,e,l,q⟩:=z;exact⟨u,y,nd,e,l,λv F a b=>h _ _ (q v F a b)⟩
theorem SU{es:iB}{sr:List Str}{nd:List (Str×Int)}{K:T->List T->Prop}{E:XE}(l:es.length<=126/\sr.length<=11/\HB es sr/\nd.length<=90/\(nd.map λp=>p.1).Nodup/\∀p∈nd,0<=p.2)(q:∀h F,GI es sr nd h F->(∀x,x∈F↔Held es sr nd x)->K (.lst (h.map PB)) []):xD sD [.d (.list (es.map pr)),.d (.list (sr.map PyData.str)),.d (.list (nd.map iG))] K E:=⟨es,sr,nd,rfl,l,q⟩
section
variable{Ψ:PEv}{Z:PEnds}{es:iB}{sr:List Str}{nd:List (Str×Int)}{u:List Rw}{F:List Str}
theorem Sj(M:Ψ.sp "told_through"=BC)(I:es.length<=126)(G:sr.length<=11)(L:HB es sr)(S:nd.length<=90)(E:∀p∈nd,0<=p.2){b:Bool}{o6 o7 o8:Option Sl}(g:GI es sr nd u F)
  (k:∀v w a o6 o7 o8,GI es sr nd v w->F.length<=w.length->(a=true->F.length<w.length)->(a=false->∀x n,(x,n)∈nd->x∉w->¬ tJ es sr x w n)->Z.nx (RV es sr nd v w a o6 o7 o8)) :
  xA Ψ (λ_=>False) ZC Z (RV es sr nd u F b o6 o7 o8):=by
 delta RV;delta ZC;simp?[↓vA];rw[<- xB iG nd];refine VB (λ(p:Str×Int)=>T.d (iG p)) (λl s=>∃v w a o6 o7 o8,GI es sr nd v w/\(∀p∈l,p∈nd)/\F.length<=w.length/\(a=true->F.length<w.length)/\(a=false->∀x n,(x,n)∈nd->(x,n)∈l∨x∈w∨¬ tJ es sr x w n)/\s=RV es sr nd v w a o6 o7 o8) ?_ ?_ _ _ ⟨u,F,false,_,_,_,g,λ_ z=>z,QU _,λz=>(nomatch z),λ_ x n h=>.inl h,rfl⟩;rintro s ⟨v,w,a,B,A,K,f,_,r,q,o,rfl⟩;exact k v w a _ _ _ f r q λhb x n j i=>((o hb x n j).resolve_left λz=>(nomatch z)).resolve_left i;rintro⟨x,n⟩ l s N W ⟨v,w,a,B,A,K,f,m,r,q,o,rfl⟩;have j:=m _ QE;have X:∀p∈l,p∈nd:=λp J=>m p (QG _ J);have g1:=f.len;have H:=f.rlen;refine mC.mk rfl ?_;refine Tj (x:=x) (n:=n) M I G L (by omega) (by omega) (λi o8=>W _ ⟨v,w,a,_,_,_,f,X,r,q,λhb y k Y=>?_,rfl⟩) (λi nm o8=>W _ ⟨v,w,a,_,_,_,f,X,r,q,λhb y k Y=>?_,rfl⟩) (E _ j) λi C O o8 R Q P=>W _ ⟨_,_,true,_,_,_,f.add j i C O R Q P,X,?_,λ_=>?_,λz=>(nomatch z),rfl⟩;rcases o hb y k Y with z|z
 ·rcases QK.mp z with e|z
  ·cases e
   exact .inr (.inl i)
  exact .inl z
 exact .inr z;rcases o hb y k Y with z|z
 ·rcases QK.mp z with e|z
  ·cases e
   exact .inr (.inr nm)
  exact .inl z
 exact .inr z;rw[QL,Ql];omega;rw[QL,Ql];omega
end
theorem gY{Ψ:PEv}(X:Ψ.sp "told_through"=BC)(ds Q E)(h:sD.run ds Q E):ds.length=IC.length/\xA Ψ (λ_=>False) IF (NA sD IC.length Q) (nA zG sD.md ds):=by
 obtain⟨es,sr,nd,rfl,⟨o,l,r,j,s,i⟩,q⟩:=h;refine XA [some (.nv (.d (.list (es.map pr)))),some (.nv (.d (.list (sr.map PyData.str)))),some (.nv (.d (.list (nd.map iG)))),none,none,none,none,none,none] rfl rfl rfl ?_;have v:=Rj (es:=es) (sr:=sr) s;have C:=v.len;have B:=v.rlen;refine Ej (by omega) (Aj (by omega) ?_);simp?[↓vA];refine oH (λm w=>∃y F b o6 o7 o8,m=2 * (nd.length - F.length)+(if b=true then 1 else 0)/\GI es sr nd y F/\(b=false->∀x n,(x,n)∈nd->x∉F->¬ tJ es sr x F n)/\w=RV es sr nd y F b o6 o7 o8) _ ⟨_,_,true,none,none,none,rfl,v,λz=>(nomatch z),rfl⟩ ?_;rintro m w ⟨y,F,b,o6,o7,o8,e,g,Y,rfl⟩;cases b with
 |true =>
  have k:=λ(Z:PEnds) p=>Sj (Ψ:=Ψ) (Z:=Z) (b:=true) (o6:=o6) (o7:=o7) (o8:=o8) X o l r j i g p;unfold RV at k;delta RV;simp?[↓vA];refine k _ λu A f o6 o7 o8 a G K W=>⟨_,?_,u,A,f,o6,o7,o8,rfl,a,W,rfl⟩
  have:=a.len;cases f with|true=>have:=K rfl;rw[e,if_pos rfl];omega|false=>rw[e,if_pos rfl,if_neg QD];omega
 |false=>delta RV;simp?[↓vA];exact q y F g λx=>vZ g.held g.see (Y rfl) x
def N2(r:Rw):D:=.tuple [.str r.1,.list (r.2.map gB)]
def Ma(y:Str×List Str):T:=.tup [.d (.str y.1),.lst ((y.2.map PyData.str).map T.d)]
theorem G2(h:List Rw):ersT (h.map PB)=h.map N2:=by rw[SN,Qd];congr 1;funext r;show PyData.tuple [.str r.1,.list (ersT ((r.2.map gB).map T.d))]=_;rw[KA];rfl
section
variable{Ψ:PEv}{E:XE}{ρ:zA}{r:PT}{Z:PEnds}{i:Nat}{n:Bool}{md:List Md}{xs:List (T×Bool)}{C:List T->Prop}{ds:List D}
theorem yo{t:T}:sI ((t,true)::xs) C=sI xs λts=>C (t::ts):=rfl
theorem xm{K:TK}:lB Ψ (.mv i) E ρ K=HC ρ[i]? λt=>K t true (ρ.set i none):=rfl
def Ae(x:T)(n:Bool)(i:Int)(C:T->Prop):Prop:=n=true/\∃h t,x=.tup h/\LD h i=some t/\C t
theorem vh{a:PX}{i:Int}{K:TK}:lB Ψ (.ixm a (.int i)) E ρ K=lB Ψ a E ρ λx n h=>Ae x n i λt=>K t true h:=propext ⟨λ⟨_,e,q⟩=>by cases e;exact q,λq=>⟨i,rfl,q⟩⟩
theorem Te{x y:T}{C:T->Prop}:Ae (.tup [x,y]) true 1 C=C y:=propext ⟨λ⟨_,z,t,e,h,q⟩=>by cases e;rw[eS]at h;cases h;exact q,λq=>⟨rfl,_,y,rfl,eS,q⟩⟩
theorem zg{t u:Str}{x y:T}{h:PX}{R:Option T->Prop}:VG Ψ E [] [t,u] (.tp [0,1]) .nop h ρ (.tup [x,y]) R=lB Ψ h E (some (.nv x)::some (.nv y)::lockA ρ) λy n _=>JC y n (R (some y)):=bC
theorem Hl:ZB (.kq::md) ((.d (.list ds),n)::xs) C=ZB md xs λts=>C (.lst (ds.map T.d)::ts):=Xm (by rw[oA];simp only[lF,T.vw,iA,qC])
theorem Me{d:D}{ts:List T}:FF [.d d,.lst ts]=.tup [.d d,.lst ts]:=rfl
end
def BQ(es:iB)(sr F:List Str)(x:Str)(y:Str×List Str):Prop:=y.1=x/\∃h,Good (ZI es F) sr x h y.2
def cN(nd:List (Str×Int))(F:List Str):List Str:=(nd.filter λp=>!decide (p.1∈F)).map λp=>p.1
noncomputable def SI:PSp where
 md:=[]
 run:=λk Q _=>∃(u:iB) (y:List Str) (nd:List (Str×Int)),k=[.d (.list (u.map pr)),.d (.list (y.map PyData.str)),.d (.list (nd.map iG))]/\(u.length<=126/\y.length<=11/\HB u y/\nd.length<=90/\(nd.map λp=>p.1).Nodup/\∀p∈nd,0<=p.2)/\∀w F v,GI u y nd w F->(∀x,x∈F↔Held u y nd x)->Paired (BQ u y F) (cN nd F) v->Q (.tup [.lst (w.map PB),.lst (v.map Ma)]) []
 mono:=λh _ z=>by obtain⟨u,y,nd,e,l,q⟩:=z;exact⟨u,y,nd,e,l,λw F v a b c=>h _ _ (q w F v a b c)⟩
theorem fX{es:iB}{sr:List Str}{nd:List (Str×Int)}{K:T->List T->Prop}{E:XE}(l:es.length<=126/\sr.length<=11/\HB es sr/\nd.length<=90/\(nd.map λp=>p.1).Nodup/\∀p∈nd,0<=p.2)(q:∀y F h,GI es sr nd y F->(∀x,x∈F↔Held es sr nd x)->Paired (BQ es sr F) (cN nd F) h->K (.tup [.lst (y.map PB),.lst (h.map Ma)]) []):xD SI [.d (.list (es.map pr)),.d (.list (sr.map PyData.str)),.d (.list (nd.map iG))] K E:=⟨es,sr,nd,rfl,l,q⟩
noncomputable def O0(es:iB)(sr:List Str)(nd:List (Str×Int))(h:List Rw)(o4 o5:Option Sl):zA:=[some (.nv (.d (.list (es.map pr)))),some (.nv (.d (.list (sr.map PyData.str)))),some (.nv (.d (.list (nd.map iG)))),some (.own (.lst (h.map PB))),o4,o5]
section
variable{Ψ:PEv}{Z:PEnds}{es:iB}{sr:List Str}{nd:List (Str×Int)}{h:List Rw}{F:List Str}{q:PT}{o4 o5:Option Sl}
theorem Ck(hl:h.length<=100)(k:xA Ψ (λ_=>False) q Z (O0 es sr nd h (some (.nv (.d (.list ((h.map λr=>r.1).map PyData.str))))) o5)) :
  xA Ψ (λ_=>False) (.seq (.set 4 (.comp [] ["name","chains"] (.tp [0,1]) .val (.nq (.var 3) .nr) .nop (.var 0))) q) Z (O0 es sr nd h o4 o5):=by
 have z:sizeLine=16777216:=QS;delta O0 at k ⊢;simp?[↓BS];refine YB PB (λr=>T.d (.str r.1)) h [] _ (λx u R y=>?_) (by show 0+h.length<=_;omega) ?_;delta PB;simp?[↓zg];exact y;rw[Qw,xB (λr:Rw=>PyData.str r.1),show(h.map λr=>PyData.str r.1)=(h.map λr=>r.1).map PyData.str by rw[Qd];rfl];simp?[↓vA];exact k
theorem Bk(hl:nd.length<=100)(k:xA Ψ (λ_=>False) q Z (O0 es sr nd h (some (.nv (.d (.list (F.map PyData.str))))) (some (.nv (.d (.list ((cN nd F).map PyData.str))))))) :
  xA Ψ (λ_=>False) (.seq (.set 5 (.comp [] ["name","number"] (.tp [0,1]) .val (.nq (.var 2) .nr) (.cmp .NotIn (.var 0) (.var 6)) (.var 0))) q) Z (O0 es sr nd h (some (.nv (.d (.list (F.map PyData.str))))) o5):=by
 have z:sizeLine=16777216:=QS;delta O0 at k ⊢;simp?[↓vA];rw[<- xB iG nd];refine dB (λp=>T.d (iG p)) (λ(p:Str×Int)=>T.d (.str p.1)) (λp=>!decide (p.1∈F)) nd [] _ (λx u R y=>?_) (by show 0+nd.length<=_;omega) ?_;obtain⟨x,n⟩:=x;delta iG;simp?[↓gl,yE,TC,tB,true_or];by_cases d:x∈F;rw[dT d]at y ⊢;exact y;rw[dF d]at y ⊢;exact y;rw[Qw,xB (λp:Str×Int=>PyData.str p.1),show((nd.filter λp=>!decide (p.1∈F)).map λp=>PyData.str p.1)=(cN nd F).map PyData.str by unfold cN;rw[Qd];rfl];simp?[↓vA];exact k
theorem Uk(e:Ψ.sp "told_through"=BC){Q:T->List T->Prop}{y:List Str}(v:es.length<=126)(u:sr.length<=11)(a:HB es sr)(hl:y.length<=100)(k:∀z,Paired (BQ es sr F) y z->Q (.tup [.lst (h.map PB),.lst (z.map Ma)]) []) :
  xA Ψ (λ_=>False) (.seq (.ret (.tup (.nq (.mv 3) (.nq (.comp [] ["name"] (.nm 0) .val (.nq (.var 5) .nr) .nop (.tup (.nq (.var 0) (.nq (.ixm (.call "told_through" (.nq (.var 1) (.nq (.var 2) (.nq (.var 5) (.nq (.var 0) .nr))))) (.int 1)) .nr)))) .nr)))) .nil) (eZ Q) (O0 es sr nd h (some (.nv (.d (.list (F.map PyData.str))))) (some (.nv (.d (.list (y.map PyData.str)))))):=by
 have i:sizeLine=16777216:=QS;delta O0;simp?[↓xm];rw[<- xB PyData.str y];refine KI (BQ es sr F) (λs=>T.d (.str s)) Ma y [] _ (λx j R b=>?_) (by show 0+y.length<=_;omega) λz w=>?_;simp?[↓DQ,↓Um,↓Hl,↓vh,↓aA (md:=[.ny,.ny,.kq]) e rfl rfl];refine SO v u a λg cut f=>?_;simp?[↓Te,↓Me];exact⟨by omega,b (x,cut) ⟨rfl,g,f⟩⟩;rw[Qw];simp?[↓yo,↓g7];exact⟨by omega,k z w⟩
theorem Dk(z:Ψ.sp "ground_alone"=sD)(l:es.length<=126/\sr.length<=11/\HB es sr/\nd.length<=90/\(nd.map λp=>p.1).Nodup/\∀p∈nd,0<=p.2)(k:∀h F,GI es sr nd h F->(∀x,x∈F↔Held es sr nd x)->xA Ψ (λ_=>False) q Z (O0 es sr nd h o4 o5)) :
  xA Ψ (λ_=>False) (.seq (.own 3 (.call "ground_alone" (.nq (.var 0) (.nq (.var 1) (.nq (.var 2) .nr))))) q) Z [some (.nv (.d (.list (es.map pr)))),some (.nv (.d (.list (sr.map PyData.str)))),some (.nv (.d (.list (nd.map iG)))),none,o4,o5]:=by
 delta O0 at k;simp?[↓aA (md:=[]) z rfl rfl];refine SU l λh F g y=>?_;simp?[↓vA];exact k h F g y
end
theorem Ze{Ψ:PEv}(f:Ψ.sp "ground_alone"=sD)(b:Ψ.sp "told_through"=BC)(ds Q E)(h:SI.run ds Q E):ds.length=RE.length/\xA Ψ (λ_=>False) EF (NA SI RE.length Q) (nA vJ SI.md ds):=by obtain⟨i,y,nd,rfl,l,q⟩:=h;refine XA [some (.nv (.d (.list (i.map pr)))),some (.nv (.d (.list (y.map PyData.str)))),some (.nv (.d (.list (nd.map iG)))),none,none,none] rfl rfl rfl ?_;delta EF;refine Dk f l λz F g a=>?_;obtain⟨v,u,k,j,_⟩:=l;have n:=g.len;have m:=g.rlen;refine Ck (by omega) ?_;rw[<- g.e];refine Bk (by omega) (Uk b v u k ?_ λx w=>q z F x g a w);unfold cN;rw[QF];exact QZ (W6 _ _) (by omega)
def Ab(ns:List Str)(nd:List (Str×Int)):Prop:=(nd.map λp=>p.1).Perm ns/\∀p∈nd,1<=p.2/\p.2<=5
noncomputable def pD:PSp where
 md:=[.kq]
 run:=λu Q _=>∃(y:List Int) (x:List Str),u=[.lst ((y.map PyData.int).map T.d),.d (.list (x.map PyData.str))]/\(0<x.length/\x.length<=10)/\∀nd,Ab x nd->Q (.lst ((nd.map iG).map T.d)) []
 mono:=λh _ z=>by obtain⟨y,x,e,l,q⟩:=z;exact⟨y,x,e,l,λnd a=>h _ _ (q nd a)⟩
theorem NU{h:List Int}{ns:List Str}{K:T->List T->Prop}{E:XE}(l:0<ns.length/\ns.length<=10)(q:∀nd,Ab ns nd->K (.lst ((nd.map iG).map T.d)) []):xD pD [.lst ((h.map PyData.int).map T.d),.d (.list (ns.map PyData.str))] K E:=⟨h,ns,rfl,l,q⟩
noncomputable def CT(sc:Sl)(ns:List Str)(v m:Int)(nd:List (Str×Int))(o5 o6 o7 o8:Option Sl):zA:=[some sc,some (.nv (.d (.list (ns.map PyData.str)))),some (.nv (.d (.int v))),some (.nv (.d (.int m))),some (.own (.lst ((nd.map iG).map T.d))),o5,o6,o7,o8]
section
variable{Ψ:PEv}{Z:PEnds}{sc:Sl}{ns:List Str}{v m:Int}{nd:List (Str×Int)}{o5 o6 o7 o8:Option Sl}{q:PT}
theorem Oi(a:Ψ.sp "_law_mixed"=bB){x:Str}{i:Nat}(s:0<=m)(X:i<10)(hl:nd.length<=100)(k:∀(n:Int) o7,1<=n/\n<=5->Z.nx (CT sc ns v m (nd++[(x,n)]) (some (.nv (.d (.int (i:Int))))) (some (.nv (.d (.str x)))) o7 o8)) :
  xA Ψ (λ_=>False) ID Z (CT sc ns v m nd (some (.nv (.d (.int (i:Int))))) (some (.nv (.d (.str x)))) o7 o8):=by
 have p:sizeLine=16777216:=QS;delta CT at k ⊢;delta ID;simp?[↓aA (md:=[]) a rfl rfl];refine QCT gD ⟨⟨by omega,by omega⟩,λn r=>?_⟩;have w:=Qk n (show(2:Int)≠0 by decide);have u:=Qk n (show(3:Int)≠0 by decide);have y:=Qk n (show(5:Int)≠0 by decide);have g:=Qj n (show(0:Int)<2 by decide);have f:=Qj n (show(0:Int)<3 by decide);have b:=Qj n (show(0:Int)<5 by decide);simp?[↓vA];refine⟨by omega,aS (Qk _ (by decide)) (Qj _ (by decide)) λd h=>?_⟩;have e:∃j:Int,d=.int j/\0<=j/\j<=4:=by
  rcases QK.mp h with z|h;exact⟨0,z,by decide,by decide⟩;rcases QK.mp h with z|h
  ·exact⟨_,z,w,by omega⟩
  rcases QK.mp h with z|h
  ·exact⟨_,z,u,by omega⟩
  exact⟨_,QI.mp h,y,by omega⟩
 obtain⟨j,rfl,o,l⟩:=e;simp?[↓vA];refine⟨by omega,by rw[QF,QF];omega,?_⟩;have:=k (1+j) (some (.nv (.d (.int n)))) ⟨by omega,by omega⟩;rw[QW,QW]at this;exact this
end
section
variable{Ψ:PEv}{E:XE}{ρ:zA}{K:TK}{a b:PX}{ds:List D}
theorem V6{j:Nat}:lB Ψ (.slc a (.var j) .nop) E ρ K=lB Ψ a E ρ λx n y=>Xd x n Ψ (.var j) E y K:=by show(pe Ψ a E).e ρ (λx n y=>sq (α:=Option Int) (uA x n) y (λρ R=>(pe Ψ (.var j) E).e ρ λu _ h=>XF u.er λo=>R o h) λl v=>sq (α:=Option Int) (uA x n) v (λρ (R:Option Int->zA->Prop)=>R none ρ) λu h=>xJ (uA x n).vw l u λz k=>K z k h)=_;simp only[TW];rfl
theorem El:Xd (.lst (ds.map T.d)) false Ψ b E ρ K=lB Ψ b E (lockA ρ) λu _ _=>JT u λo=>GO (.lst (ds.map T.d)) false o none λz k=>K z k ρ:=rfl
theorem zm:m8 (.lst (ds.map T.d)) false Ψ b E ρ K=lB Ψ b E (lockA ρ) λu _ _=>JT u λo=>GO (.lst (ds.map T.d)) false none o λz k=>K z k ρ:=rfl
end
section
variable{Ψ:PEv}{Z:PEnds}{sc:Sl}{ns:List Str}{v m:Int}{nd:List (Str×Int)}{o5 o6 o7 o8:Option Sl}{q:PT}
theorem Ni(x:0<ns.length)(hl:nd.length<=100)(k:∀c:Nat,xA Ψ (λ_=>False) q Z (CT sc ns v m (nd.drop c++nd.take c) o5 o6 o7 (some (.nv (.d (.int (c:Int))))))) :
  xA Ψ (λ_=>False) (.seq (.set 8 (.bin .Mod (.bin .FloorDiv (.var 3) (.int 4)) (.bi .len (.nq (.var 1) .nr)))) (.seq (.own 4 (.bin .Add (.slc (.var 4) (.var 8) .nop) (.slc (.var 4) .nop (.var 8)))) q)) Z (CT sc ns v m nd o5 o6 o7 o8):=by
 have h:sizeLine=16777216:=QS;have y:=Qk (m / 4) (show(ns.length:Int)≠0 by omega);obtain⟨c,hc⟩:∃c:Nat,m / 4 % (ns.length:Int)=(c:Int):=⟨(m / 4 % (ns.length:Int)).toNat,by omega⟩
 delta CT at k ⊢;simp?[↓V6,↓El,↓Y0,↓zm,↓ye,QF,hc,uQ,ZZ];refine⟨by omega,by rw[qw,WZ,QF];omega,?_⟩;rw[<- List.map_take,<- List.map_drop,<- QW];exact k c
theorem Pi(z:Ψ.sp "_law_fold"=ND)(x:Ψ.sp "_law_mixed"=bB){h:List Int}(k:∀v m,0<=m->xA Ψ (λ_=>False) q Z (CT (.nv (.lst ((h.map PyData.int).map T.d))) ns v m [] o5 o6 o7 o8)) :
  xA Ψ (λ_=>False) (.seq (.set 2 (.call "_law_fold" (.nq (.var 0) .nr))) (.seq (.set 3 (.call "_law_mixed" (.nq (.var 2) (.nq (.int 3) .nr)))) (.seq (.own 4 (.lst .nr)) q))) Z [some (.nv (.lst ((h.map PyData.int).map T.d))),some (.nv (.d (.list (ns.map PyData.str)))),none,none,none,o5,o6,o7,o8]:=by
 have u:sizeLine=16777216:=QS;delta CT at k;simp?[↓aA (md:=[.kq]) z rfl rfl,↓aA (md:=[]) x rfl rfl];refine QCT AO λv=>?_;simp?[↓aA (md:=[]) x rfl rfl];refine QCT gD ⟨⟨by decide,by decide⟩,λm y=>?_⟩;simp?[↓vA];exact⟨by omega,k v m y⟩
theorem Mi(C:Ψ.sp "_law_mixed"=bB)(K:0<=m)(W:ns.length<=10)(k:∀nd o5 o6 o7,nd.map (λp=>p.1)=ns->(∀p∈nd,1<=p.2/\p.2<=5)->xA Ψ (λ_=>False) q Z (CT sc ns v m nd o5 o6 o7 o8)) :
  xA Ψ (λ_=>False) (.seq (.for_ (.tp [5,6]) .enum (.nq (.var 1) .nr) ID) q) Z (CT sc ns v m [] o5 o6 o7 o8):=by
 have j:∀p∈(ns.map PyData.str).zipIdx,p.2<10/\∃x,p.1=PyData.str x:=λp u=>by obtain⟨y,i⟩:=p;obtain⟨f,o⟩:=HQ u;rw[QF]at f;obtain⟨x,_,e⟩:=QY.mp o;exact⟨Qp f W,x,e.symm⟩
 delta CT;simp?[↓vA];refine VB (λ(p:D×Nat)=>T.d (.tuple [.int (p.2:Int),p.1])) (λl w=>∃nd o5 o6 o7,(∀p∈l,p.2<10/\∃x,p.1=PyData.str x)/\(nd.map λp=>p.1).map PyData.str++l.map (λp=>p.1)=ns.map PyData.str/\(∀p∈nd,1<=p.2/\p.2<=5)/\w=CT sc ns v m nd o5 o6 o7 o8) ?_ ?_ _ _ ⟨[],_,_,_,j,by rw[wI,wI,Qw,List.zipIdx_map_fst],λ_ z=>(nomatch z),rfl⟩;rintro w ⟨nd,X,s,r,_,e,b,rfl⟩;rw[wI,wG]at e;exact k nd _ _ _ (List.map_inj_right (λx y h=>by injection h) |>.mp e) b;rintro⟨y,i⟩ l w N B ⟨nd,X,s,r,g,e,b,rfl⟩;obtain⟨A,x,a⟩:=g _ QE;have a:y=.str x:=a;subst a;have Y:nd.length<=100:=by have:=congrArg qp e;rw[QL,QF,QF,QF,QF]at this;omega
 refine mC.mk rfl ?_;refine Oi (x:=x) (i:=i) C K A Y λn o7 hb=>B _ ⟨nd++[(x,n)],_,_,_,λp u=>g p (QG _ u),?_,λp u=>?_,rfl⟩;rw[<- e,QW,QW,qN];rfl;rcases Qf.mp u with z|z
 ·exact b p z
 rw[QI.mp z];exact hb
theorem Li{Q:T->List T->Prop}(k:∀h:List (Str×Int),h.Perm nd->Q (.lst ((h.map iG).map T.d)) []) :
  xA Ψ (λ_=>False) (.seq (.ife (.cmp .Eq (.bin .Mod (.bin .FloorDiv (.var 3) (.int 64)) (.int 2)) (.int 1)) (.seq (.expr (.mt .reverse (.var 4) .nr)) .nil) .nil) bF) (eZ Q) (CT sc ns v m nd o5 o6 o7 o8):=by
 delta CT bF;simp?[↓vA];split;simp?[↓jh,↓G9];rw[<- List.map_reverse];exact k _ (List.reverse_perm nd);exact k _ (wf _)
end
theorem uY{Ψ:PEv}(l:Ψ.sp "_law_fold"=ND)(w:Ψ.sp "_law_mixed"=bB)(ds Q E)(h:pD.run ds Q E):ds.length=OG.length/\xA Ψ (λ_=>False) DI (NA pD OG.length Q) (nA VM pD.md ds):=by
 obtain⟨g,u,rfl,⟨f,a⟩,q⟩:=h;refine XA [some (.nv (.lst ((g.map PyData.int).map T.d))),some (.nv (.d (.list (u.map PyData.str)))),none,none,none,none,none,none,none] rfl rfl rfl ?_;delta DI;refine Pi l w λv m j=>Mi w j a λnd r o n e b=>?_;have hl:nd.length=u.length:=by rw[<- e,QF]
 refine Ni f (by omega) λc=>Li λy p=>q y ?_;have k:(nd.drop c++nd.take c).Perm nd:=List.perm_append_comm.trans (by rw[W4]);have z:=p.trans k;exact⟨by rw[<- e];exact z.map _,λx i=>b x (z.mem_iff.mp i)⟩
theorem Ib{Ψ:PEv}{E:XE}{ρ:zA}{a:PX}{K:TK}:lB Ψ (.sset a) E ρ K=lB Ψ a E ρ λx n h=>ES (uA x n).vw λz k=>K z k h:=rfl
theorem Gb{ss:List Str}{n:Bool}{Q:T->Bool->Prop}(h:ss.length<64)(q:∀x:List Str,x.Nodup->(∀s,s∈x↔s∈ss)->sortedS x=true->Q (.lst ((x.map PyData.str).map T.d)) true):ES (uA (.d (.list (ss.map PyData.str))) n).vw Q:=by rw[oA];exact⟨_,ss,rfl,iA _,h,q⟩
theorem Je{s:Str}(h:B4 s):qV s=true:=by unfold qV;rw[Array.all_eq_true_iff_forall_mem];intro c hc;have:=h.2 c (QBG.mpr hc);exact dT (by omega)
theorem bT:∀{l:List Str}{p:Str},risingS p l=true->(p::l).Pairwise λa b=>a.cps.toList<=b.cps.toList
 |[],p,_=>List.pairwise_singleton _ _|x::r,p,h=>by obtain⟨z,w⟩:=yA h;have v:=bT w;rw[Q7,ltCps_eq,decide_eq_false_iff_not]at z;have z:=List.not_lt.mp z;refine QAa.mpr ⟨λy u=>?_,v⟩;rcases QK.mp u with rfl|u;exact z;exact List.le_trans z ((QAa.mp v).1 y u)
theorem RW{l:List Str}(h:sortedS l=true):l.Pairwise λa b=>a.cps.toList<=b.cps.toList:=by
 cases l with|nil=>exact .nil|cons x r=>exact bT h
theorem f8{a b:Str}(h:a.cps.toList=b.cps.toList):a=b:=by obtain⟨⟨a⟩⟩:=a;obtain⟨⟨b⟩⟩:=b;cases h;rfl
theorem SW{a b:List Str}(z:sortedS a=true)(hb:sortedS b=true)(h:a.Perm b):a=b:=h.eq_of_pairwise (λx y _ _ v u=>f8 (List.le_antisymm v u)) (RW z) (RW hb)
theorem UN{k:Nat}:∀{l:List D},(∀x∈l,x.canLay0=true/\x.depth<=k)->qj l=true/\wU l<=k
 |[],_=>by simp[qj,wU]|x::l,h=>by obtain⟨v,a⟩:=h x QE;obtain⟨z,w⟩:=UN (l:=l) λy u=>h y (QG _ u);simp only[qj,wU,v,z,Bool.and_self,true_and];omega
theorem rN{k:Nat}{l:List D}(hk:k<60)(h:∀x∈l,x.canLay0=true/\x.depth<=k):eE (.list l):=by obtain⟨y,z⟩:=UN h;refine⟨?_,?_⟩;simp only[wC];exact y;simp only[wx];omega
theorem Z4{l:List Str}(h:∀s∈l,qV s=true):eE (.list (l.map PyData.str)):=rN (k:=1) (by decide) λx y=>by obtain⟨s,z,rfl⟩:=QY.mp y;simp only[wC,wx];exact⟨h s z,by omega⟩
section
variable{Ψ:PEv}{E:XE}{ρ:zA}{a b:PX}{K:T->Bool->zA->Prop}{n m:Bool}{Q:T->Bool->Prop}{L:Bool->Prop}{ds:List D}{Z:PEnds}{r:PT}{i:Nat}
theorem Z0:lB Ψ (.lset a) E ρ K=lB Ψ a E ρ λx n h=>GT (uA x n).vw λz k=>K z k h:=rfl
theorem um:lB Ψ (.neg (.int 1)) E ρ K=K (.d (.int (-1))) false ρ:=propext ⟨λ⟨_,e,q⟩=>by cases e;exact q,λq=>⟨1,rfl,q⟩⟩
theorem Rg:TJ Ψ E r Z i (.lst []) true ρ=xA Ψ E r Z (ρ.set i (some (.nv (.d (.list []))))):=Dm (ds:=[])
theorem Oj{x:Str}:NV (.bty x "list") (.d (.list ds)) L=L true:=M5 rfl rfl
theorem VY{α:Type}{l:List α}(q:Q (.d (.bool true)) false):JO .all [(.lst ((l.map λ_=>PyData.bool true).map T.d),n)] Q:=by unfold JO vC;rw[ZD];refine⟨_,l.map λ_=>true,rfl,by rw[iA,Qd];rfl,?_⟩;rw[QB4];show Q (.d (.bool (l.all λ_=>true))) false;rw[qB.mpr λ_ _=>rfl];exact q
theorem D9{α:Type}{l:List α}(q:Q (.d (.bool false)) false):JO .any [(.lst ((l.map λ_=>PyData.bool false).map T.d),n)] Q:=by rw[De];refine⟨l.map λ_=>false,by rw[Qd];rfl,?_⟩;rw[QB8];show Q (.d (.bool (l.any λ_=>false))) false;rw[QAg.mpr λ_ _=>QD];exact q
theorem FT{ss:List Str}(h:ss.length<4000)(nd:ss.Nodup)(q:Q (.d (.int ss.length)) false):GT (uA (.d (.list (ss.map PyData.str))) n).vw Q:=by rw[oA];refine⟨_,ss,rfl,iA _,h,λz y x=>?_⟩;rw[Nat.le_antisymm (AE y λs=>(x s).mp) (AE nd λs=>(x s).mpr)];exact q
end
section
variable{es:iB}{st:List Str}{a b:Str}{L:Bool->Prop}
theorem e9(h:HB es st):eE (.list (es.map pr)):=rN (k:=2) (by decide) λx y=>by obtain⟨e,z,rfl⟩:=QY.mp y;obtain⟨v,u⟩:=h.2 e z;simp only[pr,wC,wx,qj,wU,v,u];decide
theorem Db(es:iB)(e:Str×Str):((es.map pr).any λy=>Qz y (pr e))=decide (e∈es):=by rw[QB8,qS,Wa,decide_eq_true_iff];constructor;rintro⟨x,u,z⟩;have z:Qz (pr x) (pr e)=true:=z;rw[jS,decide_eq_true_iff]at z;exact z▸u;intro h;exact⟨e,h,by show Qz (pr e) (pr e)=true;rw[jS];exact dT rfl⟩
theorem jZ(h:HB es st)(m:(a,b)∈es)(l:L true):TB .In (.d (.tuple [.str a,.str b])) (.d (.list (es.map pr))) L:=by obtain⟨z,x⟩:=h.2 _ m;refine⟨.inr ⟨aE z x,e9 h⟩,?_⟩;have:=Db es (a,b);rw[dT m]at this;show L ((es.map pr).any λy=>Qz y (pr (a,b)));rw[this];exact l
theorem O4(h:HB es st)(m:(a,b)∈es)(l:L false):TB .NotIn (.d (.tuple [.str a,.str b])) (.d (.list (es.map pr))) L:=jZ (L:=λk=>L (!k)) h m l
end
section
variable{es:iB}{st:List Str}{g:Str}
section
variable{c:List Str}{n:Str}
theorem Na(h:Chn es st g c g):c≠[]:=λe=>by
 cases h with|st _ h=>exact h rfl|go=>exact List.append_ne_nil_of_right_ne_nil _ (List.cons_ne_nil _ _) e
theorem b6(h:Chn es st g c n):∃x∈st,(c++[n])[0]?=some x:=by
 induction h with|st h _=>exact⟨_,h,rfl⟩|go _ _ _ y=>obtain⟨x,z,e⟩:=y;exact⟨x,z,by rw[Qu (by rw[QL,Ql];omega)];exact e⟩
theorem lQ(h:Chn es st g c n):∀k,k<c.length->∃x y,(c++[n])[k]?=some x/\(c++[n])[k+1]?=some y/\(x,y)∈es:=by
 induction h with
 |st h _=>exact λk hk=>(nomatch hk)
 |@go c n m _ _ w u =>
  intro k hk;rw[QL,Ql]at hk;have e:∀j,j<c.length+1->(c++[n]++[m])[j]?=(c++[n])[j]?:=λj v=>Qu (by rw[QL,Ql];exact v);rw[e k hk];by_cases z:k<c.length;rw[e (k+1) (by omega)];exact u k z;have a:k=c.length:=by omega
  subst a;refine⟨n,m,?_,?_,w⟩;rw[Q0 (QU _),QBF];rfl;rw[Q0 (by rw[QL,Ql];omega),QL,Ql,QBF];rfl
end
end
theorem YQ:∀{cs:List (List Str)},HD cs->(∀c∈cs,c.Nodup)->cs.flatten.Nodup
 |[],_,_=>.nil|c::cs,h,hn=>by rw[wB];refine qH.mpr ⟨hn c QE,YQ h.2 λd x=>hn d (QG _ x),λa z b hb e=>?_⟩;subst e;obtain⟨d,x,y⟩:=QCK.mp hb;exact h.1 d x a z y
def nD:PSp where
 md:=[]
 run:=λy Q _=>∃x:List Str,y=[.d (.list (x.map PyData.str))]/\x.length<=1000/\Q (.d (.bool true)) []
 mono:=λh _ z=>by obtain⟨x,e,l,q⟩:=z;exact⟨x,e,l,h _ _ q⟩
theorem LU{ss:List Str}{K:T->List T->Prop}{E:XE}(h:ss.length<=1000)(q:K (.d (.bool true)) []):xD nD [.d (.list (ss.map PyData.str))] K E:=⟨ss,rfl,h,q⟩
theorem vY{Ψ:PEv}(ds Q E)(h:nD.run ds Q E):ds.length=NG.length/\xA Ψ (λ_=>False) CI (NA nD NG.length Q) (nA KM nD.md ds):=by obtain⟨y,rfl,hl,q⟩:=h;have u:sizeLine=16777216:=QS;refine XA [some (.nv (.d (.list (y.map PyData.str))))] rfl rfl rfl ?_;delta CI;simp?[↓YM,↓Oj];rw[<- xB];refine YB (λ(s:Str)=>T.d (.str s)) (λ_=>T.d (.bool true)) y _ _ (λx _ R z=>?_) (by rw[Q6];omega) ?_;simp?[↓xh,↓YM,↓uf];exact z;rw[Qw,xB];refine VY ?_;simp?[↓vA];exact q
def J5(c:List Str)(es:iB)(st:List Str)(g:Str):zA:=[some (.nv (.d (.list (c.map PyData.str)))),some (.nv (.d (.list (es.map pr)))),some (.nv (.d (.list (st.map PyData.str)))),some (.nv (.d (.str g)))]
section
variable{Ψ:PEv}{Z:PEnds}{c:List Str}{es:iB}{st:List Str}{g:Str}{q:PT}
theorem Bj(u:Ψ.sp "_law_texts"=nD){x:Str}(hl:c.length<=1000)(h:c[0]?=some x)(y:x∈st)(z:g∉c)(k:xA Ψ (λ_=>False) q Z (J5 c es st g)) :
  xA Ψ (λ_=>False) (.seq (.ife (.or (.not (.call "_law_texts" (.nq (.var 0) .nr))) (.or (.cmp .Eq (.bi .len (.nq (.var 0) .nr)) (.int 0)) (.or (.cmp .NotIn (.idx (.var 0) (.int 0)) (.var 2)) (.cmp .In (.var 3) (.var 0))))) (.seq (.ret (.bl false)) .nil) .nil) q) Z (J5 c es st g):=by
 have w:LD (c.map PyData.str) 0=some (.str x):=bD (j:=0) (by rw[Qc,h];rfl);have v:¬ (c.length:Int)=0:=by have:=(Qe.mp h).1;omega
 delta J5 at k ⊢;simp?[↓pO,↓aA (md:=[]) u rfl rfl];refine LU hl ?_;simp?[↓pO,↓lN w,yE,TC,tB,true_or,QF,dF v,dT y,dF z];exact k
theorem Uj(y:HB es st){x:Str}(hl:c.length<=1000)(h:c[c.length - 1]?=some x)(z:(x,g)∈es)(nd:c.Nodup)(k:xA Ψ (λ_=>False) q Z (J5 c es st g)) :
  xA Ψ (λ_=>False) (.seq (.ife (.or (.cmp .NotEq (.lset (.var 0)) (.bi .len (.nq (.var 0) .nr))) (.cmp .NotIn (.tup (.nq (.idx (.var 0) (.neg (.int 1))) (.nq (.var 3) .nr))) (.var 1))) (.seq (.ret (.bl false)) .nil) .nil) q) Z (J5 c es st g):=by
 have v:sizeLine=16777216:=QS;have u:LD (c.map PyData.str) (-1)=some (.str x):=by have:=(Qe.mp h).1;unfold LD HP;rw[QF,if_neg (by decide),if_pos (by omega),Option.bind_some,show(-1+(c.length:Int)).toNat=c.length - 1 by omega,Qc,h];rfl
 delta J5 at k ⊢;simp?[↓pO,↓Z0];refine FT (by omega) nd ?_;simp?[↓pO,↓um,↓lN u,QF];refine⟨by omega,O4 y z ?_⟩;simp?[↓vA];exact k
theorem Xj{Q:T->List T->Prop}(v:HB es st)(hl:c.length<=1000)(a:∀k,k+1<c.length->∃x y,c[k]?=some x/\c[k+1]?=some y/\(x,y)∈es)(k:Q (.d (.bool true)) []) :
  xA Ψ (λ_=>False) (.seq (.ret (.bi .all (.nq (.comp [] ["_law_k"] (.nm 0) .rng1 (.nq (.bin .Sub (.bi .len (.nq (.var 0) .nr)) (.int 1)) .nr) .nop (.cmp .In (.tup (.nq (.idx (.var 1) (.var 0)) (.nq (.idx (.var 1) (.bin .Add (.var 0) (.int 1))) .nr))) (.var 2))) .nr))) .nil) (eZ Q) (J5 c es st g):=by
 have l:sizeLine=16777216:=QS;delta J5;simp?[QF];refine⟨by omega,by omega,?_⟩;refine YB (λ(i:Nat)=>T.d (.int (i:Int))) (λ_=>T.d (.bool true)) _ _ _ (λi h R b=>?_) (by rw[Q6,qX];omega) ?_;have h:=WT.mp h;obtain⟨x,y,u,z,w⟩:=a i (by omega);have f:LD (c.map PyData.str) (i:Int)=some (.str x):=bD (by rw[Qc,u];rfl);have e:LD (c.map PyData.str) ((i:Int)+1)=some (.str y):=bD (j:=i+1) (by rw[Qc,z];rfl);simp?[↓lN f,↓lN e];exact⟨by omega,jZ v w b⟩;rw[Qw,xB];refine VY ?_;simp?[↓vA];exact k
end
section
variable{K:T->List T->Prop}{Ψ:PEv}
noncomputable def JF:PSp where
 md:=[]
 run:=λu Q _=>∃(c:List Str) (y:iB) (st:List Str) (g:Str),u=[.d (.list (c.map PyData.str)),.d (.list (y.map pr)),.d (.list (st.map PyData.str)),.d (.str g)]/\(HB y st/\c.length<=1000/\Chn y st g c g/\c.Nodup/\∀x∈c,x≠g)/\Q (.d (.bool true)) []
 mono:=λh _ z=>by obtain⟨c,y,st,g,e,l,q⟩:=z;exact⟨c,y,st,g,e,l,h _ _ q⟩
theorem B2{c:List Str}{es:iB}{st:List Str}{g:Str}{E:XE}(h:HB es st/\c.length<=1000/\Chn es st g c g/\c.Nodup/\∀x∈c,x≠g)(q:K (.d (.bool true)) []):xD JF [.d (.list (c.map PyData.str)),.d (.list (es.map pr)),.d (.list (st.map PyData.str)),.d (.str g)] K E:=⟨c,es,st,g,rfl,h,q⟩
theorem J9(o:Ψ.sp "_law_texts"=nD)(ds Q E)(h:JF.run ds Q E):ds.length=AG.length/\xA Ψ (λ_=>False) LI (NA JF AG.length Q) (nA BM JF.md ds):=by obtain⟨c,p,st,g,rfl,⟨i,hl,w,nd,ng⟩,q⟩:=h;have l:=List.length_pos_iff.mpr (Na w);obtain⟨x,j,e⟩:=b6 w;obtain⟨y,z,b,a,n⟩:=lQ w (c.length - 1) (by omega);rw[Qu l]at e;rw[Qu (by omega)]at b;rw[show c.length - 1+1=c.length by omega,Q0 (QU _),QBF]at a;cases a;refine XA (J5 c p st g) rfl rfl rfl ?_;delta LI;refine Bj o hl e j (λz=>ng g z rfl) (Uj i hl b n nd (Xj i hl (λk hk=>?_) q));obtain⟨u,v,f,hv,m⟩:=lQ w k (by omega);rw[Qu (by omega)]at f hv;exact⟨u,v,f,hv,m⟩
def HG:PSp where
 md:=[.kq]
 run:=λy Q _=>∃x:List (List Str),y=[.lst ((x.map gB).map T.d)]/\(x.flatten.Nodup/\x.flatten.length<=1000)/\Q (.d (.bool true)) []
 mono:=λh _ z=>by obtain⟨x,e,l,q⟩:=z;exact⟨x,e,l,h _ _ q⟩
theorem D2{cs:List (List Str)}{E:XE}(x:cs.flatten.Nodup)(h:cs.flatten.length<=1000)(q:K (.d (.bool true)) []):xD HG [.lst ((cs.map gB).map T.d)] K E:=⟨cs,rfl,⟨x,h⟩,q⟩
theorem K9(ds Q E)(h:HG.run ds Q E):ds.length=EG.length/\xA Ψ (λ_=>False) MI (NA HG EG.length Q) (nA CM HG.md ds):=by
 obtain⟨y,rfl,⟨nd,hl⟩,q⟩:=h;have w:sizeLine=16777216:=QS;refine XA [some (.nv (.lst ((y.map gB).map T.d))),none,none] rfl rfl rfl ?_;delta MI;simp?[↓Rg];refine⟨by omega,?_⟩;rw[<- xB];refine VB (λc=>T.d (gB c)) (λl z=>∃(x:List Str) (u:Option Sl),x++l.flatten=y.flatten/\z=[some (.nv (.lst (y.map λc=>T.d (gB c)))),some (.nv (.d (.list (x.map PyData.str)))),u]) ?_ ?_ _ _ ⟨[],_,rfl,rfl⟩;rintro z ⟨x,u,e,rfl⟩;rw[List.flatten_nil,wG]at e;subst e;simp?[↓Z0];refine FT (by omega) nd ?_;simp?[QF];exact q;rintro c l z N v ⟨x,u,e,rfl⟩;rw[wB,<- qN]at e;have k:x.length+c.length<=1000:=by have:=congrArg qp e;rw[QL,QL]at this;omega
 show xA Ψ (λ_=>False) AF _ [some (.nv (.lst (y.map λc=>T.d (gB c)))),some (.nv (.d (.list (x.map PyData.str)))),some (.nv (.d (.list (c.map PyData.str))))];delta AF;simp?[↓Jl,QF];rw[<- QW];exact⟨by omega,v _ ⟨x++c,_,e,rfl⟩⟩
theorem nZ(ks:List Str)(z:Str):(lA (ks.map PyData.str) (.str z)).isSome=decide (z∈ks):=by rw[qS,HK,M1,decide_eq_true_iff]
def kv(nd:List (Str×Int)):List (D×D):=nd.map λp=>(.str p.1,.int p.2)
def dN(nd:List (Str×Int)):T:=.dct false (nd.map λp=>.str p.1) ((nd.map λp=>PyData.int p.2).map T.d)
end
section
variable{Ψ:PEv}{E:XE}{ρ:zA}{a:PX}{K:TK}{n m:Bool}{Q:T->Bool->Prop}{L:Bool->Prop}{nd:List (Str×Int)}{R:T->Prop}{z:Str}
theorem Ug{c:PX}{s t r:PT}{o:Option Sl}{σ:zA}{Z:PEnds}:xA Ψ E (.seq (.ife c s t) r) Z (o::σ)=fL Ψ c E (o::σ) λk x=>if k=true then xA Ψ E s { Z with nx:=λh=>xA Ψ E r Z h } x else xA Ψ E t { Z with nx:=λh=>xA Ψ E r Z h } x:=rfl
theorem Gk{i:Nat}{t:T}{N:zA->Prop}:SH (.nm i) t ρ N=N (ρ.set i (some (.nv t))):=rfl
theorem Vl{f:Bi}{x:PX}{L:Bool->zA->Prop}:fL Ψ (.bi f x) E ρ L=lB Ψ (.bi f x) E ρ λt _ h=>C1 t λb=>L b h:=rfl
theorem nk{h:CmpOp}{t:T}:TB h t (uA (.lst []) true) L=TB h t (.d (.list [])) L:=rfl
theorem R7:lB Ψ (.dof a) E ρ K=lB Ψ a E ρ λx n h=>j6 (uA x n).vw λz k=>K z k h:=rfl
theorem M7(x:nd≠[])(h:(nd.map λp=>p.1).Nodup)(q:Q (dN nd) true):j6 (uA (.d (.list (nd.map iG))) n).vw Q:=by
 rw[oA];refine⟨_,nd.map λp=>(p.1,.int p.2),rfl,?_,λz=>x (QAR.mp z),?_,?_⟩;rw[iA,Qd];rfl;rw[Qd];exact h;have u:((nd.map λp=>(p.1,PyData.int p.2)).map λp=>PyData.str p.1)=nd.map λp=>.str p.1:=by rw[Qd];rfl
 have y:((nd.map λp=>(p.1,PyData.int p.2)).map λp=>p.2)=nd.map λp=>.int p.2:=by rw[Qd];rfl
 rw[u,y];exact q
theorem dZ:uA (dN nd) true=.d (.dict (kv nd)):=by show T.d (.dict ((nd.map λp=>.str p.1).zip (ersT ((nd.map λp=>PyData.int p.2).map T.d))))=_;rw[KA,QBl];rfl
theorem Cj:(kv nd).map (·.1)=(nd.map λp=>p.1).map PyData.str:=by unfold kv;rw[Qd,Qd];rfl
theorem MT(h:nd≠[]):PC (kv nd)=some false:=by
 cases nd with|nil=>exact absurd rfl h|cons p r=>rfl
theorem yb(x:nd≠[])(h:z∈nd.map λp=>p.1)(q:L false):TB .NotIn (.d (.str z)) (uA (dN nd) true) L:=by rw[dZ];refine⟨false,MT x,⟨z,rfl⟩,?_⟩;rw[Cj,nZ,dT h];exact q
theorem Km:∀{nd:List (Str×Int)}{z:Str}{n:Int},(nd.map λp=>p.1).Nodup->(z,n)∈nd->∃l,lA ((kv nd).map (·.1)) (.str z)=some l/\((kv nd).map (·.2))[l]?=some (.int n)
 | (y,k)::r,z,n,h,m=>by obtain⟨b,v⟩:=Qi.mp h;show ∃l,lA (PyData.str y::(kv r).map (·.1)) (.str z)=some l/\(PyData.int k::(kv r).map (·.2))[l]?=some (PyData.int n);unfold lA;rcases QK.mp m with e|e;cases e;exact⟨0,if_pos rfl,rfl⟩;obtain⟨l,u,x⟩:=Km v e;refine⟨l+1,?_,x⟩;rw[if_neg λw=>?_,u];rfl;injection w with w;exact b (w▸QY.mpr ⟨_,e,rfl⟩)
theorem Nh{v:Int}(h:(nd.map λp=>p.1).Nodup)(x:(z,v)∈nd)(q:R (.d (.int v))):MB (dN nd) true (.d (.str z)) m R:=by obtain⟨l,u,y⟩:=Km h x;have:=y8 (n:=false) (m:=m) (MT λw=>by rw[w]at x;cases x) ⟨z,rfl⟩ u y q;unfold MB at this ⊢;rw[oA]at this;rw[dZ];exact this
end
section
variable{Ψ:PEv}{E:XE}{ρ:zA}{b:PX}{K:TK}{M:List (T×Bool)->zA->Prop}{n m:Bool}{Q:T->Bool->Prop}{L:Bool->Prop}{R:T->Prop}{ts:List T}{x y:T}
theorem tU:T1 (.tup ts) false Ψ b E ρ K=lB Ψ b E (lockA ρ) λy m _=>K y m ρ:=rfl
theorem Fm{md:List Md}:G0 (.tup ts) false Ψ b E md ρ M=cJ Ψ b E md (lockA ρ) λxs _=>M xs ρ:=rfl
theorem xf{z:Str}:NV (.bty z "tuple") (.tup ts) L=L true:=M5 (d:=.tuple (ersT ts)) rfl rfl
theorem Xe:JO .len [(.tup ts,false)] Q=Q (.d (.int ts.length)) false:=by unfold JO vC;exact Pf ts
theorem mL:MB (.tup [x,y]) false (.d (.int 0)) m R=R x:=by unfold MB;rw[oA];show(lJ (.tp [x,y]) (.sc (.int 0)) R∨KL (.tp [x,y]) _ R)=_;rw[zS,or_false,MR];exact propext ⟨λ⟨t,h,q⟩=>by rw[bO]at h;cases h;exact q,λq=>⟨x,bO,q⟩⟩
theorem eW:MB (.tup [x,y]) false (.d (.int 1)) m R=R y:=by unfold MB;rw[oA];show(lJ (.tp [x,y]) (.sc (.int 1)) R∨KL (.tp [x,y]) _ R)=_;rw[zS,or_false,MR];exact propext ⟨λ⟨t,h,q⟩=>by rw[eS]at h;cases h;exact q,λq=>⟨y,eS,q⟩⟩
theorem gk{h:CmpOp}{ds:List D}{t:T}:TB h (.lst (ds.map T.d)) t L=TB h (.d (.list ds)) t L:=by unfold TB;rw[ck];rfl
theorem Af:nO [(.lst ts,false)]=false:=rfl
end
noncomputable def tI(h:List Rw)(es:iB)(sr:List Str)(nd:List (Str×Int))(A:List Str)(o5 o6:Option Sl):zA:=[some (.nv (.lst (h.map PB))),some (.nv (.d (.list (es.map pr)))),some (.nv (.d (.list (sr.map PyData.str)))),some (.nv (.d (.list (nd.map iG)))),some (.own (.lst ((A.map PyData.str).map T.d))),o5,o6]
theorem S9{h:List Rw}{es:iB}{sr:List Str}{nd:List (Str×Int)}{A:List Str}{o5 o6 v:Option Sl}:WS (tI h es sr nd A o5 o6) 5 v=tI h es sr nd A v o6:=rfl
def EJ(x:Str)(cs:List (List Str)):Option Sl:=some (.nv (.tup [.d (.str x),.lst ((cs.map gB).map T.d)]))
section
variable{Ψ:PEv}{Z:PEnds}{h:List Rw}{es:iB}{sr:List Str}{nd:List (Str×Int)}{A:List Str}{x:Str}{cs:List (List Str)}{q:PT}{o6:Option Sl}
theorem Vj(k:xA Ψ (λ_=>False) q Z (tI h es sr nd A (EJ x cs) o6)) :
  xA Ψ (λ_=>False) (.seq (.ife (.or (.not (.isi (.var 5) (.bty "tuple" "tuple"))) (.or (.cmp .NotEq (.bi .len (.nq (.var 5) .nr)) (.int 2)) (.not (.isi (.idx (.var 5) (.int 0)) (.bty "str" "str"))))) (.seq (.ret (.bl false)) .nil) .nil) q) Z (tI h es sr nd A (EJ x cs) o6):=by
 delta tI EJ at k ⊢;simp?[↓pO,↓vL,↓YM,↓xf,↓uf,↓Xe,↓Fm,↓tU,↓mL];exact k
theorem Kj(y:nd≠[])(v:x∉A)(z:x∈nd.map λp=>p.1)(u:(nd.map λp=>p.1).Nodup)(k:xA Ψ (λ_=>False) q Z (tI h es sr nd A (EJ x cs) o6)) :
  xA Ψ (λ_=>False) (.seq (.ife (.or (.cmp .In (.idx (.var 5) (.int 0)) (.var 4)) (.or (.cmp .NotIn (.idx (.var 5) (.int 0)) (.dof (.var 3))) (.not (.isi (.idx (.var 5) (.int 1)) (.bty "list" "list"))))) (.seq (.ret (.bl false)) .nil) .nil) q) Z (tI h es sr nd A (EJ x cs) o6):=by
 delta tI EJ at k ⊢;simp?[↓pO,↓tU,↓mL,yE,TC,tB,true_or,dF v,↓R7];refine M7 y u (yb y z ?_);simp?[↓vL,↓YM,↓bf,↓tU,↓eW];exact k
theorem Zj(f:Ψ.sp "_law_apart"=HG)(e:x∈sr->cs=[])(u:(nd.map λp=>p.1).Nodup)(b:x∉sr->(x,(cs.length:Int))∈nd/\cs.flatten.Nodup/\cs.flatten.length<=1000)(k:xA Ψ (λ_=>False) q Z (tI h es sr nd A (EJ x cs) o6)) :
  xA Ψ (λ_=>False) (.seq (.ife (.cmp .In (.idx (.var 5) (.int 0)) (.var 2)) (.seq (.ife (.cmp .NotEq (.idx (.var 5) (.int 1)) (.lst .nr)) (.seq (.ret (.bl false)) .nil) .nil) .nil) (.seq (.ife (.or (.cmp .NotEq (.bi .len (.nq (.idx (.var 5) (.int 1)) .nr)) (.idx (.dof (.var 3)) (.idx (.var 5) (.int 0)))) (.not (.call "_law_apart" (.nq (.idx (.var 5) (.int 1)) .nr)))) (.seq (.ret (.bl false)) .nil) .nil) .nil)) q) Z (tI h es sr nd A (EJ x cs) o6):=by
 delta tI EJ at k ⊢;simp?[↓Ug,↓tU,↓mL,yE,TC,tB,true_or];by_cases d:x∈sr;rw[dT d];have:=e d;subst this;have o:eE (.list []):=rN (k:=0) (by decide) λ_ z=>(nomatch z)
 simp?[↓tU,↓eW,↓nk,wI];refine⟨Q5 _,o,o,?_⟩;rw[show Qz (T.lst []).er (.list [])=true from QAG _ o.1];exact k;rw[dF d];obtain⟨y,a,v⟩:=b d;simp?[↓pO,↓tU,↓mL,↓eW,↓R7];refine M7 (λw=>by rw[w]at y;cases y) u ?_;simp?[↓Dl,↓tU,↓mL];refine Nh u y ?_;simp?[↓vL,↓tU,↓eW,QF,↓aA (md:=[.kq]) f rfl rfl];refine D2 a v ?_;simp?[↓vA];exact k
theorem Yj(a:Ψ.sp "_law_chain"=JF)(u:HB es sr){c:List Str}(hl:c.length<=1000)(hc:Chn es sr x c x/\c.Nodup/\∀y∈c,y≠x)(w:∀y∈c,y∈A)(k:Z.nx (tI h es sr nd A (EJ x cs) (some (.nv (.d (.list (c.map PyData.str))))))) :
  xA Ψ (λ_=>False) cF Z (tI h es sr nd A (EJ x cs) (some (.nv (.d (.list (c.map PyData.str)))))):=by
 have b:sizeLine=16777216:=QS;delta tI EJ at k ⊢;delta cF;simp?[↓pO,↓vL,↓tU,↓mL,↓aA (md:=[]) a rfl rfl];refine B2 ⟨u,hl,hc⟩ ?_;simp?[↓Vl];rw[<- xB PyData.str c];refine YB (λs=>T.d (.str s)) (λ_=>T.d (.bool false)) c [] _ (λy z R v=>?_) (by show 0+c.length<=_;omega) ?_;simp?[yE,TC,tB,true_or,dT (w y z)];exact v;rw[Qw,xB];refine D9 ?_;simp?[↓vA];exact k
theorem Jj(f:Ψ.sp "_law_chain"=JF)(w:HB es sr)(hl:A.length<=1000)(hc:∀c∈cs,c.length<=1000/\(Chn es sr x c x/\c.Nodup/\∀y∈c,y≠x)/\∀y∈c,y∈A)(k:∀o6,Z.nx (tI h es sr nd (A++[x]) (EJ x cs) o6)) :
  xA Ψ (λ_=>False) mE Z (tI h es sr nd A (EJ x cs) o6):=by
 have o:sizeLine=16777216:=QS;delta tI;delta mE;rw[N7];have e:cJ Ψ (.nq (.idx (.var 5) (.int 1)) .nr) (λ_=>False) [] (tI h es sr nd A (EJ x cs) o6)=λM=>M [(.lst ((cs.map gB).map T.d),false)] (tI h es sr nd A (EJ x cs) o6):=by funext M;delta tI EJ;simp?[↓tU,↓eW]
 delta tI at e;refine QCT (congrFun e _) ?_;show lL ItK.val [(T.lst ((cs.map gB).map T.d),false)] _;rw[Fc,Af,if_neg QD];show JG _ (.nm 6) { Z with nx:=λu=>(∀i∈([]:List Nat),_)/\xA Ψ (λ_=>False) _ Z (kill [6] u) } _ (tI h es sr nd A (EJ x cs) o6);rw[<- xB gB cs];refine VB (λc=>T.d (gB c)) (λl v=>∃o6,(∀c∈l,c∈cs)/\v=tI h es sr nd A (EJ x cs) o6) ?_ ?_ _ _ ⟨_,λ_ z=>z,rfl⟩;rintro v ⟨o6,_,rfl⟩;refine⟨λ_ z=>(nomatch z),?_⟩;show xA Ψ (λ_=>False) _ Z (tI h es sr nd A (EJ x cs) (mF o6));delta tI EJ at k ⊢;simp?[↓tU,↓mL];refine⟨by rw[QF,QF];omega,?_⟩;have:=k (mF o6);rw[QW,QW]at this;exact this;rintro c l v N b ⟨o6,m,rfl⟩;obtain⟨n,j,g⟩:=hc c (m c QE);exact Yj f w n j g (b _ ⟨_,λd a=>m d (QG _ a),rfl⟩)
end
noncomputable def FG:PSp where
 md:=[.nv]
 run:=λv Q _=>∃(y:iB) (x:List Str) (nd:List (Str×Int)) (u:List Rw) (F:List Str),v=[.lst (u.map PB),.d (.list (y.map pr)),.d (.list (x.map PyData.str)),.d (.list (nd.map iG))]/\(GI y x nd u F/\HB y x/\nd.length<=90/\(nd.map λp=>p.1).Nodup)/\Q (.d (.bool true)) []
 mono:=λh _ z=>by obtain⟨y,x,nd,u,F,e,l,q⟩:=z;exact⟨y,x,nd,u,F,e,l,h _ _ q⟩
theorem U2{es:iB}{sr:List Str}{nd:List (Str×Int)}{h:List Rw}{F:List Str}{K:T->List T->Prop}{E:XE}(l:GI es sr nd h F/\HB es sr/\nd.length<=90/\(nd.map λp=>p.1).Nodup)(q:K (.d (.bool true)) []):xD FG [.lst (h.map PB),.d (.list (es.map pr)),.d (.list (sr.map PyData.str)),.d (.list (nd.map iG))] K E:=⟨es,sr,nd,h,F,rfl,l,q⟩
theorem x6{es:iB}{sr A:List Str}{g:Str}{c:List Str}{n:Str}(h:Chn (ZI es A) sr g c n):∀y∈c,y∈A:=by
 induction h with
 |st _ _=>exact λ_ z=>(nomatch z)
 |go _ _ e x=>intro y u;rcases Qf.mp u with z|z;exact x y z;rw[QI.mp z];exact(FH.mp e).2
theorem A4{ns:List Str}{cs:List (List Str)}(x:cs.flatten.Nodup)(hc:∀c∈cs,∀y∈c,y∈ns):cs.flatten.length<=ns.length:=AE x λs h=>by obtain⟨c,u,z⟩:=QCK.mp h;exact hc c u s z
theorem i9{Ψ:PEv}(J:Ψ.sp "_law_apart"=HG)(I:Ψ.sp "_law_chain"=JF)(ds Q E)(h:FG.run ds Q E):ds.length=KF.length/\xA Ψ (λ_=>False) dH (NA FG KF.length Q) (nA cL FG.md ds):=by
 obtain⟨Z,k,nd,j,F,rfl,⟨w,A,M,X⟩,q⟩:=h;refine XA [some (.nv (.lst (j.map PB))),some (.nv (.d (.list (Z.map pr)))),some (.nv (.d (.list (k.map PyData.str)))),some (.nv (.d (.list (nd.map iG)))),none,none,none] rfl rfl rfl ?_;have P:=w.len;have O:=w.rlen;delta dH;simp?[↓vL,↓YM,↓bf,↓BS,↓Af];refine⟨Q5 _,?_⟩;refine VB PB (λl i=>∃(p:List Rw) (m b:Option Sl),j=p++l/\i=tI j Z k nd (p.map λr=>r.1) m b) ?_ ?_ _ _ ⟨[],_,_,rfl,rfl⟩;rintro i ⟨p,m,b,_,rfl⟩;delta tI;simp?[↓vA];exact q
 ·rintro⟨x,v⟩ l i N C ⟨p,m,b,e,rfl⟩
  have K:x∈F:=by rw[w.e,e,QW];exact QV _ QE
  obtain⟨L,a⟩:=NN (w.held x K);have G:x∉p.map λr=>r.1:=λz=>by have:=w.ndp;rw[w.e,e,QW]at this;exact(qH.mp this).2.2 x z x QE rfl
  have hl:(p.map λr=>r.1).length<=90:=by have:=congrArg qp e;rw[QL]at this;rw[QF];omega
  have u:=w.row p x v l e;have s:x∉k->∀c∈v,∀y∈c,y∈p.map λr=>r.1:=λd c hc=>x6 ((u d).2.2 c hc).1;have Y:x∉k->v.flatten.Nodup:=λd=>YQ (u d).2.1 λc hc=>((u d).2.2 c hc).2.1;have fl:x∉k->v.flatten.length<=90:=λd=>QZ (A4 (Y d) (s d)) hl;have f:x∈k->v=[]:=λd=>w.non (x,v) (by rw[e];exact QV _ QE) d;rw[Gk,S9,show(some (Sl.nv (PB (x,v))):Option Sl)=EJ x v from rfl];delta TH;refine Vj ?_;refine Kj (λz=>by rw[z]at a;cases a) G (QY.mpr ⟨_,a,rfl⟩) X ?_;refine Zj J f X (λd=>⟨?_,Y d,QZ (fl d) (by decide)⟩) ?_
  rotate_left
  refine Jj I A (by omega) (λc hc=>?_) λb=>?_
  rotate_left
  refine C _ ⟨p++[(x,v)],EJ x v,b,by rw[qN];exact e,?_⟩;rw[QW];rfl;obtain⟨⟨n,o,g⟩,_⟩:=u d;rw[g];exact o;have d:x∉k:=λd=>by rw[f d]at hc;cases hc
  obtain⟨o,g,W⟩:=(u d).2.2 c hc;have R:c.length<=90:=QZ (AE g (s d c hc)) hl;exact⟨by omega,⟨o.sub (λe B=>(FH.mp B).1) λ_ h=>h,g,W⟩,s d c hc⟩
noncomputable def nH(h:List Int)(ns:List Str)(es:iB)(st:List Str)(g:Str)(o5 o6 o7 o8 o9 o10:Option Sl):zA:=[some (.nv (.lst ((h.map PyData.int).map T.d))),some (.nv (.d (.list (ns.map PyData.str)))),some (.nv (.d (.list (es.map pr)))),some (.nv (.d (.list (st.map PyData.str)))),some (.nv (.d (.str g))),o5,o6,o7,o8,o9,o10]
def SR(l:List Str):Option Sl:=some (.nv (.d (.list (l.map PyData.str))))
def iY(nd:List (Str×Int)):Option Sl:=some (.nv (.d (.list (nd.map iG))))
def Xa(es:iB)(h:List Str)(nd:List (Str×Int)):List D:=[.list (es.map pr),.list (h.map PyData.str),.list (nd.map iG)]
def L0(es:iB)(h:List Str)(nd:List (Str×Int)):Option Sl:=some (.nv (.d (.list (Xa es h nd))))
def xU(h cs:List T):Option Sl:=some (.own (.tup [.lst h,.lst cs]))
section
variable{Ψ:PEv}{E:XE}{ρ:zA}{r:PT}{Z:PEnds}{i:Nat}{a b c:List D}{n m:Bool}{t:T}{R:T->Prop}{L:Bool->Prop}{v:CmpOp}
theorem ko:TJ Ψ E r Z i (.lst [.lst (a.map T.d),.lst (b.map T.d),.lst (c.map T.d)]) true ρ=xA Ψ E r Z (ρ.set i (some (.nv (.d (.list [.list a,.list b,.list c]))))):=by
 have e:(T.lst [.lst (a.map T.d),.lst (b.map T.d),.lst (c.map T.d)]).er=.list [.list a,.list b,.list c]:=by show PyData.list [.list (ersT (a.map T.d)),.list (ersT (b.map T.d)),.list (ersT (c.map T.d))]=_;rw[KA,KA,KA]
 unfold TJ;rw[e];exact propext ⟨λh=>h.2,λh=>⟨rfl,h⟩⟩
theorem Tf{α:Type}{x y z:α}{r:List α}:LD (x::y::z::r) 2=some z:=bD (j:=2) rfl
theorem F7{b:Bool}{m:List Bool}{u:Str}{x:T}{h:PX}{R:Option T->Prop}:VG Ψ E (b::m) [u] (.nm 0) .nop h ρ x R=lB Ψ h E (some (.nv x)::OC (b::m) (lockA ρ)) λy n _=>JC y n (R (some y)):=rfl
theorem Pb{s:PT}:xA Ψ E (.seq (.hs s) r) Z ρ=Pj s (λh=>xA Ψ E r Z h) ρ:=rfl
theorem pk{a b c:D}:TB v t (uA (.lst [.d a,.d b,.d c]) true) L=TB v t (.d (.list [a,b,c])) L:=rfl
theorem Am{a b:List T}:MB (.tup [.lst a,.lst b]) true t m R=MB (.d (.tuple [.list (ersT a),.list (ersT b)])) false t m R:=by unfold MB;rw[oA];rfl
theorem Ff{ds es:List D}:TB .Eq (.d (.list ds)) (.d (.list es)) L=(eE (.list ds)/\eE (.list es)/\L (Qz (.list ds) (.list es))):=rfl
end
theorem LR{k:Nat}{l:List D}(h:∀x∈l,x.canLay0=true/\x.depth<=k):(PyData.list l).canLay0=true/\(PyData.list l).depth<=k+1:=by obtain⟨y,z⟩:=UN h;simp only[wC,wx];exact⟨y,by omega⟩
theorem Ye{es:iB}{z:List Str}{nd:List (Str×Int)}(u:HB es z)(h:∀p∈nd,qV p.1=true):eE (.list (Xa es z nd)):=rN (k:=3) (by decide) λx y=>by
 rcases QK.mp y with rfl|y;refine LR λx y=>?_;obtain⟨e,a,rfl⟩:=QY.mp y;obtain⟨f,b⟩:=u.2 e a;simp only[pr,wC,wx,qj,wU,f,b];decide;rcases QK.mp y with rfl|y
 ·refine LR λx y=>?_
  obtain⟨s,v,rfl⟩:=QY.mp y;simp only[wC,wx];exact⟨u.1 s v,by omega⟩
 rw[QI.mp y];refine LR λx y=>?_;obtain⟨p,w,rfl⟩:=QY.mp y;simp only[iG,wC,wx,qj,wU,h p w];decide
section
variable{Ψ:PEv}{Z:PEnds}{is:List Int}{ns:List Str}{es:iB}{st:List Str}{g:Str}{h:List Str}{nd:List (Str×Int)}{q:PT}{o5 o6 o7 o8 o9 o10:Option Sl}{z:List Rw}{u:List (Str×List Str)}{F:List Str}{ts us:List T}
theorem ij(x:Ψ.sp "_law_web"=DG)(k:∀ns es st g,IZ ns es st g->ns.Nodup->xA Ψ (λ_=>False) q Z (nH is ns es st g none none none none none none)) :
  xA Ψ (λ_=>False) (.seq (.tset [1,2,3,4] (.call "_law_web" (.nq (.var 0) (.nq (.int 10) .nr)))) q) Z [some (.nv (.lst ((is.map PyData.int).map T.d))),none,none,none,none,none,none,none,none,none,none]:=by
 simp?[↓aA (md:=[.kq]) x rfl rfl];refine V2 λns es st g w n=>?_;exact⟨rfl,_,rfl,k ns es st g w n⟩
theorem sj(hl:st.length<=11)(k:∀h:List Str,h.Nodup->(∀s,s∈h↔s∈st)->xA Ψ (λ_=>False) q Z (nH is ns es st g (SR h) o6 o7 o8 o9 o10)) :
  xA Ψ (λ_=>False) (.seq (.set 5 (.sset (.var 3))) q) Z (nH is ns es st g o5 o6 o7 o8 o9 o10):=by
 delta nH SR at *;simp?[↓Ib];refine Gb (by omega) λh n m _=>?_;simp?[↓vA];exact k h n m
theorem rj(x:Ψ.sp "_law_needs"=pD)(hl:0<ns.length/\ns.length<=10)(k:∀nd,Ab ns nd->xA Ψ (λ_=>False) q Z (nH is ns es st g o5 (iY nd) o7 o8 o9 o10)) :
  xA Ψ (λ_=>False) (.seq (.set 6 (.call "_law_needs" (.nq (.var 0) (.nq (.var 1) .nr)))) q) Z (nH is ns es st g o5 o6 o7 o8 o9 o10):=by
 delta nH iY at *;simp?[↓aA (md:=[.kq]) x rfl rfl];refine NU hl λnd ok=>?_;simp?[↓vA];exact k nd ok
theorem pj(k:xA Ψ (λ_=>False) q Z (nH is ns es st g (SR h) (iY nd) (L0 es h nd) o8 o9 o10)) :
  xA Ψ (λ_=>False) (.seq (.set 7 (.lst (.nq (.bi .list (.nq (.var 2) .nr)) (.nq (.bi .list (.nq (.var 5) .nr)) (.nq (.bi .list (.nq (.var 6) .nr)) .nr))))) q) Z (nH is ns es st g (SR h) (iY nd) o7 o8 o9 o10):=by
 have x:sizeLine=16777216:=QS;delta nH SR iY L0 Xa at *;simp?[↓ko];exact⟨by omega,k⟩
theorem oj(y:Ψ.sp "ground_by"=SI)(l:es.length<=126/\h.length<=11/\HB es h/\nd.length<=90/\(nd.map λp=>p.1).Nodup/\∀p∈nd,0<=p.2)(k:∀z F u,GI es h nd z F->(∀x,x∈F↔Held es h nd x)->Paired (BQ es h F) (cN nd F) u->xA Ψ (λ_=>False) q Z (nH is ns es st g o5 o6 (L0 es h nd) (xU (z.map PB) (u.map Ma)) o9 o10)) :
  xA Ψ (λ_=>False) (.seq (.own 8 (.call "ground_by" (.nq (.idx (.var 7) (.int 0)) (.nq (.idx (.var 7) (.int 1)) (.nq (.idx (.var 7) (.int 2)) .nr))))) q) Z (nH is ns es st g o5 o6 (L0 es h nd) o8 o9 o10):=by
 delta nH L0 Xa xU at *;simp?[↓bO,↓eS,↓Tf,↓aA (md:=[]) y rfl rfl];refine fX l λz F u a b c=>?_;simp?[↓vA];exact k z F u a b c
theorem mj(x:Ψ.sp "_law_ground"=FG)(l:GI es h nd z F/\HB es h/\nd.length<=90/\(nd.map λp=>p.1).Nodup)(k:xA Ψ (λ_=>False) q Z (nH is ns es st g (SR h) (iY nd) o7 (xU (z.map PB) us) o9 o10)) :
  xA Ψ (λ_=>False) (.seq (.ife (.or (.not (.isi (.var 8) (.bty "tuple" "tuple"))) (.or (.cmp .NotEq (.bi .len (.nq (.var 8) .nr)) (.int 2)) (.not (.call "_law_ground" (.nq (.idx (.var 8) (.int 0)) (.nq (.var 2) (.nq (.var 5) (.nq (.var 6) .nr)))))))) (.seq (.ret (.bl false)) .nil) .nil) q) Z (nH is ns es st g (SR h) (iY nd) o7 (xU (z.map PB) us) o9 o10):=by
 delta nH SR iY xU at *;simp?[↓pO,↓vL,↓YM,↓xf,↓Xe,↓Fm,↓tU,↓mL,↓aA (md:=[.nv]) x rfl rfl];refine U2 l ?_;simp?[↓vA];exact k
theorem lj(hl:z.length<=60)(k:∀y:List Str,y.Perm (z.map λr=>r.1)->sortedS y=true->xA Ψ (λ_=>False) q Z (nH is ns es st g o5 o6 o7 (xU (z.map PB) us) (SR y) o10)) :
  xA Ψ (λ_=>False) (.seq (.set 9 (.bi .sorted (.nq (.comp [false,false,false,false,false,false,false,false,false,false,true] ["_law_row"] (.nm 0) .val (.nq (.idx (.var 8) (.int 0)) .nr) .nop (.idx (.var 0) (.int 0))) .nr))) q) Z (nH is ns es st g o5 o6 o7 (xU (z.map PB) us) o9 o10):=by
 have a:sizeLine=16777216:=QS;delta nH SR xU at *;simp?[↓tU,↓mL,↓BS];refine YB PB (λr=>T.d (.str r.1)) z [] _ (λx b R w=>?_) (by show 0+z.length<=_;omega) ?_;delta PB;simp?[↓F7,↓tU,↓mL];exact w;rw[Qw,xB (λr:Rw=>PyData.str r.1),show(z.map λr=>PyData.str r.1)=(z.map λr=>r.1).map PyData.str by rw[Qd];rfl];refine ZY (by rw[QF];omega) λy p v=>?_;simp?[↓vA];exact k y p v
theorem fj(hl:z.length+u.length<=1000)(hc:∀r∈z,r.2.length<=1000)(a:∀y∈u,y.2.length<=1000)(k:∀ts us:List T,ts.length<=1000->us.length<=1000->xA Ψ (λ_=>False) q Z (nH is ns es st g o5 o6 o7 (xU ts us) o9 none)) :
  xA Ψ (λ_=>False) (.seq (.hs (.for_ (.nm 10) .val (.nq (.bin .Add (.bi .list (.nq (.idx (.var 8) (.int 0)) .nr)) (.bi .list (.nq (.idx (.var 8) (.int 1)) .nr))) .nr) oU)) q) Z (nH is ns es st g o5 o6 o7 (xU (z.map PB) (u.map Ma)) o9 o10):=by
 have f:sizeLine=16777216:=QS;rw[Pb];refine .inl ⟨8,10,"more",z.map PB,u.map Ma,rfl,by decide,by show 10<11;decide,rfl,by rw[QF,QF];omega,λt x=>?_,λts us w v=>?_⟩;rcases Qf.mp x with x|x
 ·obtain⟨r,b,rfl⟩:=QY.mp x
  have:=hc r b;exact⟨_,_,rfl,by rw[QF,QF];omega⟩
 obtain⟨y,e,rfl⟩:=QY.mp x;have:=a y e;exact⟨_,_,rfl,by rw[QF,QF];omega⟩;rw[QF]at w v;exact k ts us (by omega) (by omega)
theorem cj(hl:ts.length<=1000)(k:∀ts:List T,xA Ψ (λ_=>False) q Z (nH is ns es st g o5 o6 o7 (xU ts us) o9 o10)) :
  xA Ψ (λ_=>False) (.seq (.hs (.expr (.mt .append (.idx (.var 8) (.int 0)) (.nq (.str "more") .nr)))) q) Z (nH is ns es st g o5 o6 o7 (xU ts us) o9 o10):=by
 have x:sizeLine=16777216:=QS;rw[Pb];exact .inr ⟨8,0,"more",[.lst ts,.lst us],ts,rfl,rfl,rfl,by omega,k _⟩
theorem bj(hl:us.length<=1000)(k:∀us:List T,xA Ψ (λ_=>False) q Z (nH is ns es st g o5 o6 o7 (xU ts us) o9 o10)) :
  xA Ψ (λ_=>False) (.seq (.hs (.expr (.mt .append (.idx (.var 8) (.int 1)) (.nq (.str "more") .nr)))) q) Z (nH is ns es st g o5 o6 o7 (xU ts us) o9 o10):=by
 have x:sizeLine=16777216:=QS;rw[Pb];exact .inr ⟨8,1,"more",[.lst ts,.lst us],us,rfl,rfl,rfl,by omega,k _⟩
theorem Pe(ok:eE (.list (Xa es h nd)))(k:xA Ψ (λ_=>False) q Z (nH is ns es st g (SR h) (iY nd) (L0 es h nd) o8 o9 o10)) :
  xA Ψ (λ_=>False) (.seq (.ife (.cmp .NotEq (.var 7) (.lst (.nq (.var 2) (.nq (.var 5) (.nq (.var 6) .nr))))) (.seq (.ret (.bl false)) .nil) .nil) q) Z (nH is ns es st g (SR h) (iY nd) (L0 es h nd) o8 o9 o10):=by
 have x:sizeLine=16777216:=QS;delta nH SR iY L0 Xa at *;simp?[↓pk];refine⟨by omega,ok,ok,?_⟩;rw[QAG _ ok.1];exact k
theorem Oe{Q:T->List T->Prop}(m:Ψ.sp "ground_by"=SI){y:List Str}(l:es.length<=126/\h.length<=11/\HB es h/\nd.length<=90/\(nd.map λp=>p.1).Nodup/\∀p∈nd,0<=p.2)(ok:∀s∈y,qV s=true)(hl:nd.length<=50)(a:sortedS y=true)
  (b:∀F:List Str,F.Nodup->(∀x,x∈F↔Held es h nd x)->F.Perm y) (k:Q (.d (.bool true)) []) :
  xA Ψ (λ_=>False) (.seq (.ret (.cmp .Eq (.bi .sorted (.nq (.comp [false,false,false,false,false,false,false,false,false,false,true] ["_law_row"] (.nm 0) .val (.nq (.idx (.call "ground_by" (.nq (.idx (.var 7) (.int 0)) (.nq (.idx (.var 7) (.int 1)) (.nq (.idx (.var 7) (.int 2)) .nr)))) (.int 0)) .nr) .nop (.idx (.var 0) (.int 0))) .nr)) (.var 9))) .nil) (eZ Q) (nH is ns es st g o5 o6 (L0 es h nd) o8 (SR y) o10):=by
 have n:sizeLine=16777216:=QS;have o:=Z4 ok;delta nH L0 Xa SR;simp?[↓bO,↓eS,↓Tf,↓aA (md:=[]) m rfl rfl];refine fX l λz F u v i _=>?_;have W:=v.len;have Y:=v.rlen;simp?[↓Dl,↓Am,G2,↓bO];rw[<- xB N2 z];refine YB (λr=>T.d (N2 r)) (λr=>T.d (.str r.1)) z [] _ (λx X R f=>?_) (by show 0+z.length<=_;omega) ?_;delta N2;simp?[↓F7,↓bO];exact f;rw[Qw,xB (λr:Rw=>PyData.str r.1),show(z.map λr=>PyData.str r.1)=(z.map λr=>r.1).map PyData.str by rw[Qd];rfl,<- v.e];refine ZY (by omega) λj p w=>?_;have e:j=y:=SW w a (p.trans (b F v.ndp i));subst e;simp?[↓gk,↓Ff];refine⟨o,o,?_⟩;rw[QAG _ o.1];exact k
end
theorem S8{α x:Type}{P:α->x->Prop}{C:x->Prop}(h:∀a b,P a b->C b){l:List α}{m:List x}(p:Paired P l m):(∀y∈m,C y)/\m.length=l.length:=by
 induction p with
 |nil=>exact⟨λ_ z=>(nomatch z),rfl⟩
 |cons a _ u=>exact⟨λy v=>(QK.mp v).elim (λe=>e▸h _ _ a) (u.1 y),congrArg Nat.succ u.2⟩
theorem Z9{Ψ:PEv}(h4:Ψ.sp "_law_web"=DG)(h5:Ψ.sp "_law_needs"=pD)(I:Ψ.sp "ground_by"=SI)(h7:Ψ.sp "_law_ground"=FG)(ds Q E)(h:aL.run ds Q E):ds.length=bR.length/\xA Ψ (λ_=>False) OZ (NA aL bR.length Q) (nA O7 aL.md ds):=by
 obtain⟨is,hl,hb,rfl,q⟩:=h;refine XA [some (.nv (.lst ((is.map PyData.int).map T.d))),none,none,none,none,none,none,none,none,none,none] rfl rfl rfl ?_;delta OZ;refine ij h4 λo Z st g w nn=>?_;obtain⟨A,O,N,K,M,L,J⟩:=w;have z:∀s∈o,qV s=true:=λs k=>Je (O s k);refine sj M λf nz mz=>rj h5 ⟨Wq J,A⟩ λnd ok=>?_;have i:∀s∈f,s∈o:=λs k=>L s ((mz s).mp k);have zl:=QZ (AE nz i) A;have Y:HB Z f:=⟨λs k=>z s (i s k),λe G=>⟨z _ (K e G).1,z _ (K e G).2⟩⟩
 have ln:nd.length=o.length:=by rw[<- ok.1.length_eq,QF]
 have m:(nd.map λp=>p.1).Nodup:=ok.1.nodup_iff.mpr nn;have j:∀p∈nd,p.1∈o:=λp v=>ok.1.mem_iff.mp (QY.mpr ⟨p,v,rfl⟩);have l:Z.length<=126/\f.length<=11/\HB Z f/\nd.length<=90/\(nd.map λp=>p.1).Nodup/\∀p∈nd,0<=p.2:=⟨N,by omega,Y,by omega,m,λp v=>by have:=ok.2 p v;omega⟩
 refine pj (oj I l λrs F ys u hF v=>?_);have g1:=u.len;have g2:=u.rlen;obtain⟨c1,c2⟩:=S8 (C:=λy:Str×List Str=>y.2.length<=1000) (λa b ⟨_,W,gd⟩=>by have:=gd.few;omega) v;have ol:(cN nd F).length<=nd.length:=by unfold cN;rw[QF];exact W6 _ _
 refine mj h7 ⟨u,Y,by omega,m⟩ (lj (by omega) λk p so=>?_);have e:=u.e;refine fj (by omega) (λr B=>?_) c1 λR P H S=>cj H λR=>bj S λP=>Pe (Ye Y λp v=>z _ (j p v)) (Oe I l (λs X=>?_) (by omega) so (λF' f1 f2=>?_) q);obtain⟨x,W⟩:=r;by_cases d:x∈f;rw[u.non _ B d];exact Q5 _;obtain⟨a,b,e⟩:=List.append_of_mem B;obtain⟨⟨n,i1,i2⟩,_⟩:=u.row a x W b e d;have:=ok.2 _ i1;show W.length<=1000;have:n<=5:=this.2;omega;have:=(p.mem_iff (a:=s)).mp X;rw[<- e]at this;obtain⟨n,h⟩:=NN (u.held s this);exact z s (j _ h);refine((List.perm_ext_iff_of_nodup f1 u.ndp).mpr λx=>(f2 x).trans (hF x).symm).trans ?_;rw[e];exact p.symm
end L2.L3.K18
namespace L2.L3
open PySem PySem.Spec PyProof.Rows
section
variable{K:QC}{x:Str}
def Xh(y:List Addr)(h:Heap):QC:=y.filterMap λa=>(h.get? a).map λo=>(a,o)
theorem TR{h:Heap}:∀(y:List Addr),(Xh y h).In h
 |[],a,o,e=>nomatch e
 |b::y,a,o,e=>by
  unfold Xh at e;rw[wz]at e;cases c:h.get? b with
  |none=>rw[c]at e;exact TR y a o e|some z =>
   rw[c]at e;have e:QCO a ((b,z)::Xh y h)=some o:=e;rw[WD]at e;cases d:a==b with|true=>rw[d]at e;cases e;rw[beq_iff_eq.mp d];exact c|false=>rw[d]at e;exact TR y a o e
noncomputable abbrev Dh:=(Str×Str×Arguments×FuncBody×Scope)×(Addr×List (Str×Addr)×Value×Addr)×Bool
def uk(h:FuncData)(b:Bool):Dh:=((h.name,h.qualname,h.params,h.body,h.scope),(h.globals,h.closure,h.defaults,h.builtins),b)
def ER(K:QC)(x:Str):Option Dh:=match wZ K mainGlobals x with
 |some (some (.ref f))=>(match K.lookup f with
  |some ⟨_,_,.func fd,_⟩=>some (uk fd (QAb K fd.code x&&WG K (.ref f)))|_=>none)
 |_=>none
def gZ(x:Str)(st:Stmt):Option Dh:=some (uk (wX x x (TD st) (FC st) (yB st) .none .none .none .none none .none .none) true)
theorem bX{st:Stmt}(h:ER K x=gZ x st):JU K x st:=by unfold ER at h;split at h;rename_i f hf;split at h;rename_i oc od fd osl hl;unfold gZ at h;injection h with h;obtain⟨p,o,n,m,l,j,i,g,e,b,a,k,w,v,u⟩:=fd;unfold uk at h;injection h with h1 h2;injection h2 with h2 h3;injection h1 with b1 h1;injection h1 with b2 h1;injection h1 with b3 h1;injection h1 with b4 b5;injection h2 with c1 h2;injection h2 with c2 h2;injection h2 with c3 c4;obtain⟨y,z⟩:=QAH.mp h3;simp only at b1 b2 b3 b4 b5 c1 c2 c3 c4 y;subst b1 b2 b3 b4 b5 c1 c2 c3 c4;exact⟨f,_,hf,Ua hl y z⟩;cases h;cases h
noncomputable def LM(K:QC)(x:Str):Option (List (Option V)):=match wZ K mainGlobals x with
 |some (some (.ref f))=>(match K.lookup f with
  |some ⟨.type t,_,.seq its _,_⟩=>if t="tuple" then some (its.toList.map sJ) else none|_=>none)
 |_=>none
def HM(K:QC)(x:Str):Option V:=match wZ K mainGlobals x with
 |some (some u)=>sJ u|_=>none
def aR(K:QC)(x:Str):Bool:=match wZ K mainGlobals x with
 |some none=>true|_=>false
theorem Y2(h:aR K x=true):wZ K mainGlobals x=some none:=by unfold aR at h;split at h;assumption;cases h
theorem uX{i:Int}(h:HM K x=some (.int i)):kL K x (.int i):=by unfold HM at h;split at h;rename_i u hu;exact⟨u,_,hu,h,λ_=>.int i⟩;cases h
theorem HU{xs:List Str}(h:LM K x=some (xs.map λy=>some (.str y)))(hz:xs.length<=sizeLine):kL K x (.tuple (xs.map PyData.str)):=by unfold LM at h;split at h;rename_i f hf;split at h;rename_i t od its n osl hl;split at h;rename_i et;subst et;injection h with h;exact VW (its:=its.toList) hf (by simpa using hl) h hz;cases h;cases h;cases h
theorem walk_seen{l:PySem.W.OpenLaw}{k:Nat}{q:Program}{loose:List Str}{XP:(Str->Option Value)->Heap->Prop}{YP:World->Heap->Prop}{d:DefRec}{Fs:QC->Prop}
  (S:l.most=some 63) (B:d.params.defaults=[]) (Q:Room k callerA) (hY:∀(w:World) (h:Heap),YP w h->∃K:QC,K.In h/\Fs K)
  (F:∀(w:World) (j:Str->Option Value) (X:Addr) (h:Heap) (K:QC),K.In h->Fs K->h.Ns mainGlobals j->j d.name=some (.ref X) ->
   ∃C:FuncData,(∀(s:Shared) (u:Value),BindsTo s C ⟨[u],[]⟩ [(x,u)]) /\
    ∀y:Heap,K.In y->y.Ns mainGlobals j->FnOk l.prog w K j y tW k X C [x] (lift K aL)) :
  PySem.W.WalkO q loose XP YP l.row.toRowW d [] (λf vs=>PySem.call f vs):=by
 intro w J I j mb G Y X o pm cd doc dV kV ho hd hcd L A hg args E as m p P Z hlo;obtain rfl:dV=.none:=PySem.W.Dflts.none L B;obtain rfl:kV=.none:=PySem.W.Dflts.noKw L;obtain⟨a,vs,O,rfl,rfl,n,i,v⟩:=Att.script_of S m Z;obtain⟨K,M,fs⟩:=hY w _ Y;obtain⟨C,hb,hF⟩:=F w j X _ K M fs G.T.g A;refine PySem.W.enter_call (QAY (GY M G.T.g G.T.b G.T.builtins G.T.nolimit hg n i (QZ v (by decide)) Q hF hb (λH hO hS=>A9 _ H a O v (r6 p) hS) λH e N=>λz=>z) λr N R=>?_);obtain⟨rfl,h2,h3,h4⟩:=R;exact⟨.inl ⟨.bool true,.bool true,[],rfl,λ_=>rfl,.bool true,Att.post_true l _,λ_=>⟨List.Pairwise.nil,λ_ hm=>(nomatch hm)⟩⟩,h2,h3,h4⟩
end
end L2.L3
namespace L2.L3.K18
open PySem PySem.Spec PyProof.Rows L2 L2.L3
def Yl:Nat->(List Value->Prop)->Prop
 |0,p=>p []|n+1,p=>∀u,Yl n λh=>p (u::h)
theorem am:∀{n:Nat}{p:List Value->Prop},Yl n p->∀us:List Value,us.length=n->p us
 |0,_,h,us,e=>by rw[qu.mp e];exact h|_+1,_,_,[],e=>nomatch e
 |_+1,_,h,u::us,e=>am (h u) us (QB6 e)
def Bo(x q:Str)(st:Stmt)(u:List Str):Prop:=∀(kV h v:Value) (k:Option Addr) (y w:Value),Yl u.length λz=>bindArgs (wX x q (TD st) (FC st) (yB st) .none kV h v k y w) ⟨z,[]⟩=pure (u.zip z)
noncomputable def fT:List (Str×Nat):=([("_law_fold",20),("_law_mixed",18),("_law_names",19),("_law_web",21),("_law_needs",22),("add_way",6),("add_name",5),("rooms_of",4),("points_reached",7),("lay_chain",8),("name_behind",10),("chain_from",9),("full_names",11),("apart_chains",3),("told_through",15),("ground_alone",14),("ground_by",13),("_law_apart",25),("_law_texts",23),("_law_chain",24),("_law_ground",26),("law",27)]:List (String×Nat)).map λp=>(Qh p.1,p.2)
def tT:List (Str×List Str):=[("BEGIN",["","begin"])]
def sT:List (Str×Int):=[("WIDE",2)]
def nT:List Str:=(["all","any","dict","enumerate","isinstance","len","list","range","set","sorted","str","tuple"]:List String).map Qh
def qv:Program:={ qb with main:={ qb.main with body:=[1,2,3,4,5,6,7,8,9,10,11,13,14,15,17,18,19,20,21,22,23,24,25,26,27].map bI } }
noncomputable abbrev y0:=List (Option Dh)×List (Option (List (Option V)))×List (Option V)×List Bool
def seen(K:QC):y0:=(fT.map λp=>ER K p.1,tT.map λp=>LM K p.1,sT.map λp=>HM K p.1,nT.map (aR K))
def due:y0:=(fT.map λp=>gZ p.1 (bI p.2),tT.map λp=>some (p.2.map λy=>some (.str y)),sT.map λp=>some (.int p.2),nT.map λ_=>true)
def xc:List (Str×D):=tT.map (λp=>(p.1,.tuple (p.2.map PyData.str)))++sT.map λp=>(p.1,.int p.2)
structure Cx(K:QC)(h:Heap)(mg:Str->Option Value):Prop where
 X:K.In h
 G:h.Ns mainGlobals mg
 V:∀p∈xc,kL K p.1 p.2
 N:∀y∈nT,wZ K mainGlobals y=some none
 D:∀p∈fT,JU K p.1 (bI p.2)
theorem NF{α:Type}{d:α}:∀{l:List α}{i:Nat},QCa i l.length=true->l.getD i d∈l
 |[],_,h=>nomatch h
 |_::_,0,_=>.head _|_::_,_+1,h=>.tail _ (NF (Nat.blt_eq.mpr (Nat.lt_of_succ_lt_succ (Nat.blt_eq.mp h))))
theorem l7{α:Type}{l:List (Str×α)}{p:Str×α}(nd:(l.map qQ).Nodup)(h:p∈l):l.lookup p.1=some p.2:=by
 induction l with|nil=>cases h|cons a l y=>obtain⟨x,s⟩:=a;rw[QO,Qi]at nd;rw[WD];rcases QK.mp h with rfl|h;rw[beq_self_eq_true];have v:p.1∈l.map qQ:=We h;have u:(p.1==x)=false:=beq_eq_false_iff_ne.mpr λz=>nd.1 (by rw[<- z];exact v);rw[u];exact y nd.2 h
def c7:List Str:=fT.map qQ
def fx(i:Nat):Str×Nat:=fT.getD i ("",0)
def tbl(r:List PSp):PEv:=B6 (c7.zip r) xc
theorem XO{r:List PSp}(i:Nat)(h:QCa i xc.length=true:=by rfl):(tbl r).va (xc.getD i ("",.none)).1=some (xc.getD i ("",.none)).2:=l7 (iE (by kernel_rfl)) (NF h)
theorem Kd{r:List PSp}(nd:nI ((c7.zip r).map qQ)=true)(i:Nat)(h:QCa i (c7.zip r).length=true):(tbl r).sp ((c7.zip r).getD i ("",uc)).1=((c7.zip r).getD i ("",uc)).2:=by show(QCO _ _).getD uc=_;rw[l7 (iE nd) (NF h)];rfl
def nB(n:Need)(fs:List Str):Bool:=n.fn.all (λx=>fs.contains x)&&((n.va.all λx=>(xc.map qQ).contains x)&&n.no.all (λx=>nT.contains x))
section
variable{P:Program}{w:World}{K:QC}{h base:Heap}{mg:Str->Option Value}{r v:List PSp}{R:PSp}{u:List Str}{k:Nat}{b:PT}{n:Need}{N z:List Str}
theorem hv(C:Cx K h mg)(A:∀g∈u,lH P w K mg base (tbl r) k g)(i:Nat)(DB:YC n b N z (bI (fx i).2)=true)
  (body:∀ts Q E,R.run ts Q E->ts.length=z.length/\xA (tbl r) (λ_=>False) b (NA R z.length Q) (nA N R.md ts)) (o:(tbl v).sp (fx i).1=R) (hc:zH (FB 0 R.md z.length) b=true:=by kernel_rfl)
  (hb:Bo (fx i).1 (fx i).1 (bI (fx i).2) z:=by(repeat intro _);rfl)
  (x:nB n u=true:=by kernel_rfl) (l:QCa i fT.length=true:=by rfl):lH P w K mg base (tbl v) (k+1) (fx i).1:=by
 obtain⟨s,x⟩:=yA x;obtain⟨q,p⟩:=yA x;exact uZ C.X C.G (C.D _ (NF l)) DB hc (λa b c d e f=>am (hb a b c d e f)) (λg m=>A g (NM s g m)) (DS C.X C.G C.V q) (λy j=>C.N y (NM p y j)) body o
theorem hc(A:∀g∈u,lH P w K mg base (tbl r) k g){x:Str}(Z:lH P w K mg base (tbl r) (k+1) x):∀g∈x::u,lH P w K mg base (tbl r) (k+1) g:=by intro g y;rcases QK.mp y with rfl|y;exact Z;exact(A g y).mono (wR _)
theorem hl(C:Cx K h mg)(A:∀g∈u,lH P w K mg base (tbl r) k g){x q:Str}{st:Stmt}{f:Addr}{e:FuncData}(F:Fun K x q st f e)(DB:YC n b N z st=true)
  (body:∀ts Q E,R.run ts Q E->ts.length=z.length/\xA (tbl r) (λ_=>False) b (NA R z.length Q) (nA N R.md ts)) (hc:zH (FB 0 R.md z.length) b=true:=by kernel_rfl) (a:nB n u=true:=by kernel_rfl):FnOk P w K mg base tW (k+1) f e z (lift K R):=by
 obtain⟨o,a⟩:=yA a;obtain⟨m,l⟩:=yA a;exact fZ F DB hc (λg j=>A g (NM o g j)) (DS C.X C.G C.V m) (λy i=>QBk C.X C.G (C.N y (NM l y i))) body
theorem cx_of(X:K.In h)(G:h.Ns mainGlobals mg)(e:seen K=due)(m:(tT.all λp=>decide (p.2.length<=1000))=true):Cx K h mg:=by injection e with j e;injection e with i e;injection e with g f;have j:=Wv.mp j;have i:=Wv.mp i;have g:=Wv.mp g;have f:=Wv.mp f;have o:sizeLine=16777216:=QS;refine⟨X,G,λp x=>?_,λy l=>Y2 (f y l),λp x=>bX (j p x)⟩;rcases Qf.mp x with x|x;obtain⟨q,a,rfl⟩:=QY.mp x;have:=of_decide_eq_true (qB.mp m q a);exact HU (i q a) (by omega);obtain⟨q,a,rfl⟩:=QY.mp x;exact uX (g q a)
end
def Vd:List PSp:=[ND,bB,oE,DG,pD,vD,OD,oD,GC,GG,oC,rD,bG,pE,BC,sD,SI,HG,nD,JF,FG,aL]
theorem eA(i:Nat)(h:QCa i (c7.zip Vd).length=true:=by rfl):(tbl Vd).sp ((c7.zip Vd).getD i ("",uc)).1=((c7.zip Vd).getD i ("",uc)).2:=Kd (by kernel_rfl) i h
theorem all{P:Program}{w:World}{K:QC}{h:Heap}{y:Str->Option Value}{k:Addr}(C:Cx K h y)(z:y "law"=some (.ref k)) :
  ∃v:FuncData,(∀(s:Shared) (u:Value),BindsTo s v ⟨[u],[]⟩ [("_law_script",u)])/\∀x:Heap,K.In x->x.Ns mainGlobals y->FnOk P w K y x tW 22 k v ["_law_script"] (lift K aL):=by
 refine E9 C.X C.G (C.D (fx 21) (NF rfl)) rfl z (eA 21) (λ_ _ _ _ _ _ a hl=>by obtain⟨u,rfl⟩:=QA1.mp hl;rfl) λx e b f v F _=>?_;have A:∀g∈([]:List Str),lH P w K y x (tbl Vd) 0 g:=nofun;have A:=hc A (hv C A 0 uW V4 (eA 0));have A:=hc A (hv C A 1 lS cY (eA 1));have A:=hc A (hv C A 2 gS (bY (eA 1)) (eA 2));have A:=hc A (hv C A 3 DZ (t9 (eA 0) (eA 1) (eA 2)) (eA 3));have A:=hc A (hv C A 4 dS (uY (eA 0) (eA 1)) (eA 4));have A:=hc A (hv C A 5 pS X4 (eA 5));have A:=hc A (hv C A 6 rQ (U4 (eA 5)) (eA 6));have A:=hc A (hv C A 7 oQ (nV (eA 6) (eA 5) (XO 0) (XO 1)) (eA 7));have A:=hc A (hv C A 8 NH (xY (XO 0)) (eA 8));have A:=hc A (hv C A 9 yO (Y9 (XO 0)) (eA 9));have A:=hc A (hv C A 10 PK oV (eA 10));have A:=hc A (hv C A 11 CL (dY (eA 10)) (eA 11));have A:=hc A (hv C A 12 BL K4 (eA 12));have A:=hc A (hv C A 13 pJ (fY (eA 7) (eA 8) (eA 9) (eA 11) (eA 12) (XO 0)) (eA 13));have A:=hc A (hv C A 14 nJ (Y4 (eA 13)) (eA 14));have A:=hc A (hv C A 15 oJ (gY (eA 14)) (eA 15));have A:=hc A (hv C A 16 zO (Ze (eA 15) (eA 14)) (eA 16));have A:=hc A (hv C A 17 oS K9 (eA 17));have A:=hc A (hv C A 18 cS vY (eA 18));have A:=hc A (hv C A 19 mS (J9 (eA 18)) (eA 19));have A:=hc A (hv C A 20 pQ (i9 (eA 17) (eA 19)) (eA 20));exact hl C A F Ra (Z9 (eA 3) (eA 4) (eA 16) (eA 20))
def hk:PySem.W.Hook:=⟨y0,λs=>seen (Xh (qA 400) s.heap),λ_=>due,λ_ h=>∃K:QC,K.In h/\seen K=due,λ_ _ e=>⟨_,TR _,e⟩,λ_ _ _ ⟨K,X,e⟩ k=>⟨K,X.keeps k,e⟩⟩
end L2.L3.K18
open PySem PySem.W PyProof.Rows
set_option maxRecDepth 100000 in
set_option maxHeartbeats 0 in
theorem PySem.Challenge.cw_quoteweave_k18_ground_walked_holds : PySem.Challenge.rw_quoteweave_k18_ground_walked.Holds := by
 refine holds_law (by kernel_rfl) λy=>?_;refine holds_open (q:=L2.L3.K18.qv) (loose:=[]) (Xt:=λs=>xlAt L2.L3.K18.qv [] s&&recOk (RowW.records qd.row.toRowW) s) (XP:=XL L2.L3.K18.qv []) (Yf:=Hook.obs L2.L3.K18.hk) (Ya:=Hook.val L2.L3.K18.hk) (YP:=Hook.says L2.L3.K18.hk) (N:=1700) ?hl (Hook.of L2.L3.K18.hk) (Hook.keeps L2.L3.K18.hk) (λs e=>xl_of s (QAH.mp e).1) XL.keeps (by rfl) (by rfl) (by rfl) (λs e=>recFacts_of (QAH.mp e).2) (by rfl) (by first|assumption|decide +kernel) (by decide +kernel) ⟨rfl,rfl,rfl,rfl,rfl,by decide +kernel⟩ ?hw ?hc
 case hl=>intro w;kernel_rfl
 case hw=>w_witness2
 case hc=>exact L2.L3.walk_seen (l:=qd) (k:=22) (x:="_law_script") (Fs:=λK=>L2.L3.K18.seen K=L2.L3.K18.due) rfl rfl ⟨rfl,by decide,by decide⟩ (λw h Y=>Y) λw z u h K X e G m=>L2.L3.K18.all (L2.L3.K18.cx_of X G e (by kernel_rfl)) m
