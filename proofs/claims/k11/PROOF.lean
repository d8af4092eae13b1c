import PyProof.Rows.All
import Wide.All
import OpenK.AllK
import Wide.FinOn
import Lean
import PyProof.EqAt
import PyProof.EqKinds
import PyProof.TupleCall
import PySem.Challenge.RW_quoteweave_k11_chains_walked
noncomputable section
set_option Elab.async false
set_option linter.all false
set_option genInjectivity false
set_option genSizeOf false
set_option maxRecDepth 100000
set_option maxHeartbeats 4000000
open PySem.W renaming Frag->QA,nsIn->Q3,kia_one->qC,fnOf->wK,keepIn->wk,WData->Wk,codeIn->Wx,methodObj->W6,kitx_list->W7,cellsFrom_some->QAR,instObj->QAY,lookIn->QAo,kitOne->QAp,kitx_tuple->QA5,mg_of->QA9,mg_none_of->QBA,kitx_dict->QBF,plainGet->QBY
open PySem renaming wpAny_bind->QC,wpAny_pure->QI,sizeLine_eq->QZ,wpAny_newObj_type->Q1,wpAny_loadPart'->Q8,wpAny_call_entry->qD,mem_of_lookup->qH,wpAny_callSpecial?_slot->qK,wpAny_holding->qb,wpAny_typeNameOfWhole_itemiter->qm,wpAny_typeNameOfWhole_keyiter->qr,wpAny_truthy_bool->qy,wpAny_dictEntries->qz,Spec->wH,wpAny_mono->wI,wpAny_Call_Name_kw->wJ,wpAny_setField_rec->wM,wpAny_field->wO,wpAny_passesOwn->wR,tupleKind_room_in1->wn,wpAny_dictEpoch->wu,codeAny_builtin->wv,wpAny_pyIter_list->w8,wpAny_isOneOf_itemiter->WO,wpAny_notOrdered_dict->WW,wpAny_execs_nil->Wl,codeAny_mono->Wu,wpAny_setField->W4,wpAny_fieldsOf->W5,wpAny_Call_method0_late->QAG,wpAny_attempt->QAI,plainId_quiet->QAJ,wpAny_isOneOf_keyiter->QAe,call_meets->QAg,wpAny_rule->QAh,evalArgs_none->QAs,wpAny_setItem_pairs->QAt,wpAny_of_eq->QAv,wpAny_standAt->QA3,wpAny_handled->QA6,wpAny_pyIter_tuple->QA7,wpAny_assign_Name->QBD,slot_list_getitem->QBG,wpAny_pyIter_slot->QBJ,wpAny_pyIter_enum->QBN,wpAny_storeSet_of->QBP,concat_meets->QBS,wpAny_typeOf->QBT,seqIndex_neg->QBU,wpAny_execs_cons->QBX,noFill_tuple_add->QBZ,wpAny_isInstance->QBe,seqIndex_of->QBk,wpAny_throw->QBn,storedH_new->QBo,wpAny_Name->QBs,typeIs_str->QBt,typeIs_int->QBu
open Bool renaming false_ne_true->QD,and_eq_true->Qb,not_eq_true'->Q4,false_eq_true->qN,eq_iff_iff->qO,or_eq_true->wF,and_eq_true_iff->Wi,true_and->QAE,not_false->QAn,false_or->QAz,and_self->QBC
open List renaming mem_cons_of_mem->QE,mem_cons_self->QF,length_map->QG,mem_singleton->QJ,mem_cons->QK,length_cons->QL,length_append->QM,map_cons->QN,size_toArray->QO,getElem?_eq_some_iff->QT,mem_append_right->QV,getElem?_map->QY,map_append->Qc,mem_append->Qd,nodup_cons->Qe,mem_append_left->Qf,mem_map->Qh,getElem?_append_right->Qk,mem_filter->Qm,length_singleton->Qn,contains_iff_mem->Qo,map_map->Qp,getElem?_append_left->Qq,isEmpty_iff->Qr,replicate->Qs,length_nil->Qu,range->Qz,nodup_nil->Q0,not_mem_nil->Q2,filter_sublist->qB,all_eq_true->qE,mem_of_getElem?->qF,length_set->qI,getElem?_set_ne->qM,length_replicate->qU,getElem?_eq_none->qX,nil_append->qa,all_cons->qd,getElem?_set_self->qf,replicate_succ->qh,flatten_cons->qi,append_assoc->qj,nodup_append->qk,getElem?_eq_getElem->qp,length->qq,getElem?_set->wA,length_range->wB,append_nil->wC,find?_cons->wE,ext_getElem?->wW,map_nil->wZ,getElem?_replicate->wb,map_congr_left->wc,foldl_cons->wq,toArray->ww,any_cons->wy,drop_eq_getElem_cons->WA,length_take->WB,lookup_cons->WC,filter_cons->WD,set->WE,filterMap_cons->WF,getElem?_cons_succ->WJ,drop_eq_nil_of_le->WP,mem_iff_getElem?->WZ,map_fst_zip->Wc,map_snd_zip->Wd,any_eq_true->We,getElem?_modify->Wg,not_lt->Wn,getD_eq_getElem?_getD->Ws,zip_cons_cons->Wv,mem_range->Ww,length_erase_of_mem->QAB,flatMap_cons->QAC,foldl_append->QAD,length_eq_zero_iff->QAO,mem_flatMap->QAQ,length_pos_of_mem->QAW,of_mem_zip->QAZ,forIn_cons->QAa,getD->QAc,mem_erase_of_ne->QAm,forIn_nil->QAq,getElem_of_mem->QAu,getElem?_range->QAw,set_cons_zero->QAy,mem_filterMap->QA4,length_zipIdx->QBB,any_eq_false->QBE,mapM_toArray->QBL,all_map->QBV,map_set->QBW,length_drop->QBa,getElem_mem->QBd,getElem_map->QBg,take_length->QBh,drop_length->QBi,mem_flatten->QBj,foldl->QBv
open PySem.Heap renaming get?_push_of_some->QH,get?_push_size->QS,lt_size->QU,SameBut->qG,get?_update_self->wL,size_push->WS,ExtBut->QAH,get?_update_other->QAT,get?_push_cases->QAk,IsList->QBm
open Nat renaming le_refl->QR,le_trans->QX,ne_of_lt->Qg,lt_of_lt_of_le->Qj,zero_le->Q5,lt_irrefl->qu,ne_of_gt->wY,le_succ->wo,lt_succ_of_lt->wz,le_of_eq->WU,sub_self->Wa,lt_succ_self->QAP,zero_add->QAX,lt_or_ge->QAb,lt_of_le_of_lt->QA0,le_of_lt->QBQ,le_antisymm->QBr
open False renaming elim->QW
open Array renaming length_toList->Qa,perm_iff_toList_perm->wG,getElem?_toList->wr,toList_inj->Wb,getD_eq_getD_getElem?->Wm,getElem?_eq_getElem->W0,getElem?_eq_none->QAV,mem_toList_iff->QAi,toList_append->QAx,getD->QBK,toList->QBR
open Int renaming emod_lt_of_pos->Qi,emod_nonneg->Qt,toNat_natCast->wV,lt_irrefl->wj
open Option.some renaming injEq->Ql,inj->Q7
open PySem.PyData renaming eqv->Qw,canLayAll0->Q9,depthAll->qP,strOk->qY,canLay0->qw,depth->wt
open PySem.Str renaming ofString->Qx,join->QBy
open Ne renaming symm->Qy
open Option renaming map_some->Q6,map_none->wX,isSome_map->QAA,getD_none->QBb,getD_some->QBc
open PySem.Heap.SameBut renaming update->qA,refl->QBH
open PySem.Paired renaming length->qJ
open Prod renaming fst->qL,snd->we,ext->QBx
open PySem.Builtin.SmallTypes renaming nextOf->qQ
open PySem.Challenge renaming pw_quoteweave_k11_chains_walked->qR,rw_quoteweave_k11_chains_walked->qS
open PySem.F renaming slot_dict_itemiterator_next->qT,slot_dict_keyiterator_next->qZ,slot_tuple_iterator_next->qe,called_set->wx,args_tuple_iterator_next_1->WI,entry_tuple_iterator_next->WK,args_dict_itemiterator_next_1->WQ,entry_dict_itemiterator_next->WV,args_dict_keyiterator_next_1->WY,entry_dict_keyiterator_next->Wf,slot_dict_getitem->Wz,args_tuple_add_2->W9,entry_tuple_add->QAF,plainAttrs_dict->QAM,plainAttrs_list->QAN,slot_tuple_add->QAS,slot_dict_items_iter->QAU,slot_dict_iter->QBf,slot_int_rmul->QBl,plain_set_new->QBq
open LawfulBEq renaming eq_of_beq->qV
open PySem.Obj renaming mapSeq->qW,data_mapFields->WL,isFreed_of_fields->QAd,data_mapDictKeys->QAj,cls_mapFields->QBI,putSet->QBO
open PySem.SeqAt renaming EqAt->qg,eqv_refl->QAl
open Classical renaming byContradiction->ql
open Lean.Parser.Tactic renaming tacticSeq->qt
open PyProof.Rows renaming callWith_type1->wD,slot_tuple_getitem->wT,subscriptTail_builtinR->wm,callWith_builtin1->WT
open PySem.Builtin.Slice renaming slicePlaces->wN,sliceAdjust->w9,sliceApplied->Wr
open PySem.Builtin.Dict_items renaming addrOf->wP,ownsTuple->Wj
open PySem.Around renaming under_plainId->wQ
open PySem.Builtin.Tuple renaming tupleExact->wU
open PySem.Builtin.Str renaming occurrences->wa
open Iff renaming rfl->wf
open PySem.W.WData renaming weightAll->wg,weight->Wh
open PySem.SetTable renaming grown->wl,orStandIn->QA8
open PySem.Builtin.List renaming listTooLong->WG
open List.Pairwise renaming imp_of_mem->WH,map->WR
open PyProof.Rows.F renaming plain_set_update_loop->WM,entry_set_update_loop->QAK
open PySem.Calls renaming callWith_builtin->WN,Name_function_global->Wq,spliced_cons->Wt,spliced_nil->W8
open PySem.Builtin.Dict renaming showsAll->WX
open List.cons renaming injEq->Wo
open PySem.Builtin.Int renaming intBits->Wp
open PySem.Txt renaming join->QAL,slice->QBz
open Nat.succ renaming inj->QAf
open PySem.Value renaming isStrOf_shape->QAr
open PySem.SeqAt.EqAt renaming int_str->QA1,str_int->QA2
open PyProof.Rows.SortSt renaming mk'->QBM
open Array.Perm renaming refl->QBp
open PySem.Walks renaming list->QBw
theorem dF{p:Prop}[Decidable p](h:¬p):decide p=false:=_root_.decide_eq_false h
theorem dT{p:Prop}[Decidable p](h:p):decide p=true:=_root_.decide_eq_true h
abbrev LAO:=List (PySem.Addr×PySem.Obj)
abbrev VSP:=PySem.Value -> PySem.Shared -> Prop
abbrev AdP:=PySem.Addr -> Prop
abbrev LSS:=List (PySem.Str×PySem.Str)
set_option hygiene false in
local macro_rules | `(tactic| omega)=>do
 let f:=fun(s:String)=>(s.splitOn " ").toArray.map fun x=>Lean.mkIdent x.toName
 let a<-(f "L2.szA L2.szB L2.szC L2.unA Nat.le_trans Nat.lt_of_le_of_lt").mapM fun x=>`(qt| exact $x (by assumption) (by decide))
 let b<-(f "Nat.lt_of_lt_of_le Nat.lt_of_le_of_lt Nat.le_trans").mapM fun x=>`(qt| exact $x (by assumption) (by assumption))
 let c<-(f "Nat.le_of_lt Nat.ne_of_lt Nat.ne_of_gt Nat.lt_succ_of_lt Nat.le_of_lt_succ L2.prA").mapM fun x=>`(qt| exact $x (by assumption))
 let d<-(f "Nat.le_refl Nat.le_succ Nat.zero_le Nat.succ_pos").mapM fun x=>`(qt| exact $x _)
 `(tactic| first|decide|assumption|exact L2.szL (by decide) $[| $a]* $[| $b]* $[| $c]* $[| $d]*|omega (config:={}))
set_option hygiene false in
local macro_rules | `(tactic| simp? [$ls,*])=>do
 let a<-("cA S_set S_own S_expr S_ret S_ife S_for S_six S_six2 S_sdf S_tset S_frz S_whl E_var E_int E_str E_non E_bin T_cmp E_cmp T_and T_not T_call E_bi E_join E_pop E_append E_dnew E_dsp E_idx E_slc_hi E_lst E_tup E_comp X_nop X_m1 X_cmp A_nil A_cons A_cons_s A_cons_b R_var R_bl R_bin R_cmp R_bi R_idx R_tup R_comp G_s G_b G_o G_l G_m G_m0 H_s H_b H_o Q_d Q_n Q_l J_d J_n J_l M_d K_d K_l O_n C_d C_n nil_and if_t if_f N_0 N_1 N_2 N_3 N_4 N_5 N_6 N_7 N_8 N_9 N_10 N_11 N_12 P_nil P_d P_b P_sl L_nil L_d L_l B_nm bv_k V_add V_sub V_mul V_rep V_div V_mod V_ls mk_2 mk_4 c_eqi c_eqs c_nei c_nes c_lt c_gt c_Fn c_nink c_inl c_ninD t_b n_ld n_ll n_lof n_lod x_l x_ld x_td x_l3 x_l4 x_s s_ll m_jn m_tj w_l w_ll w_r1 w_en w_enl U_nil eZ_rt optP_s reduceIte".splitOn " ").toArray.mapM fun x=>`(Lean.Parser.Tactic.simpLemma| ↓ $(Lean.mkIdent x.toName):ident)
 let b<-("esc escB tsOf allD T.isD lockA lockS lock kill killS Tg.ix ownsIn vrs_var vrs_acons vrs_anil isMut isMutL frzAt frzS dctB ownV.eq_1 ownV.eq_2 ownO.eq_1 ownO.eq_2 ownO.eq_3 ownO.eq_4 mutT_1 mutT_2 mutTy.eq_1 List.modify_succ_cons List.modify_zero_cons Option.map_some List.length_cons List.length_nil List.getElem?_cons_zero List.getElem?_cons_succ List.cons_append List.nil_append List.set_cons_zero List.set_cons_succ Nat.reduceAdd Nat.reduceSub Nat.zero_add Bool.and_true Bool.true_and Bool.not_true Bool.not_false Bool.or_true Bool.true_or Bool.or_false Bool.false_or Bool.and_false Bool.false_and if_true if_false Bool.false_eq_true true_and and_true false_implies ne_eq reduceCtorEq not_false_eq_true not_true_eq_false implies_true forall_const Int.reduceLT Int.reduceLE Int.reducePow Int.reduceNeg Nat.reducePow and_self eq_self Option.some.injEq Sl.own.injEq Sl.nk.injEq and_assoc decide_true decide_false".splitOn " ").toArray.mapM fun x=>`(Lean.Parser.Tactic.simpLemma| $(Lean.mkIdent x.toName):ident)
 `(tactic| simp -implicitDefEqProofs only [$ls,*,$a,*,$b,*])
namespace L2
open PySem PySem.Spec PyProof.Rows
section
variable{n m:Nat}{H:Hp}{a b:Addr}{o:HO}
theorem szL(h:n<=16777216):n<=sizeLine:=by rw[QZ];exact h
theorem szS(h:n<16777216):n<sizeLine:=by rw[QZ];exact h
theorem szA(h:n<=m)(k:m<=16777216):n<=sizeLine:=szL (QX h k)
theorem szB(h:n<=m)(k:m<16777216):n<sizeLine:=szS (QA0 h k)
theorem szC(h:n<=m)(k:m<=16777216):0+n<=sizeLine:=by rw[QAX];exact szA h k
theorem unA{k c:Nat}(h:n+k<c)(l:m<=k):n+m<c:=QA0 (Nat.add_le_add_left l n) h
theorem prA(h:m<n):n - 1<n:=by cases n with|zero=>exact(nomatch h)|succ n=>exact QAP n
noncomputable abbrev Key:=Sum Int Str
def keyIs:Key->Value->Bool
 | .inl k,v=>Value.isInt k v
 | .inr x,v=>Value.isStrOf x v
def keyH(w:World):Key->Int
 | .inl k=>hashInt k
 | .inr x=>hashStr w x
theorem CA:∀{k:Key}{v:Value},keyIs k v=true->(∃i t,k=Sum.inl i/\v=Value.int i t)∨(∃x t,k=Sum.inr x/\v=Value.str x t)
 | .inl i,v,h=>by obtain⟨t,e⟩:=Value.isInt_shape (k:=i) (v:=v) h;exact .inl ⟨i,t,rfl,e⟩
 | .inr x,v,h=>by obtain⟨t,e⟩:=QAr (x:=x) (v:=v) h;exact .inr ⟨x,t,rfl,e⟩
theorem keyIs_int(i:Int)(t:Tok):keyIs (.inl i) (.int i t)=true:=by simp[keyIs,Value.isInt]
theorem keyIs_str(x:Str)(t:Tok):keyIs (.inr x) (.str x t)=true:=by simp[keyIs,Value.isStrOf]
theorem key_ll(a b:Int):decide ((Sum.inl a:Key)=Sum.inl b)=(a==b):=by by_cases e:a=b;subst e;simp;have h:¬ (Sum.inl a:Key)=Sum.inl b:=fun q=>e (Sum.inl.inj q);rw[dF h];exact(beq_eq_false_iff_ne.mpr e).symm
theorem key_rr(a b:Str):decide ((Sum.inr a:Key)=Sum.inr b)=decide (a=b):=by by_cases e:a=b;subst e;simp;have h:¬ (Sum.inr a:Key)=Sum.inr b:=fun q=>e (Sum.inr.inj q);rw[dF h,dF e]
theorem key_lr(a:Int)(b:Str):decide ((Sum.inl a:Key)=Sum.inr b)=false:=dF (fun q=>nomatch q)
theorem key_rl(a:Str)(b:Int):decide ((Sum.inr a:Key)=Sum.inl b)=false:=dF (fun q=>nomatch q)
def mixKind(prog:Program)(w:World):PySem.KeyKind prog w Key where
 is:=keyIs
 hash:=keyH w
 inj:=fun v a b ha hb=>by
  rcases CA ha with⟨i,t,rfl,rfl⟩| ⟨x,t,rfl,rfl⟩
  rcases CA hb with⟨j,u,rfl,e⟩| ⟨y,u,rfl,e⟩
  ·injection e with e1 _;rw[e1]
  exact nomatch e;rcases CA hb with⟨j,u,rfl,e⟩| ⟨y,u,rfl,e⟩
  ·exact nomatch e
  injection e with e1 _;rw[e1]
 byValue:=fun k v h=>by rcases CA h with⟨i,t,rfl,rfl⟩| ⟨x,t,rfl,rfl⟩<;>rfl
 pyHash:=fun hv h=>by
  rcases CA hv with⟨i,t,rfl,rfl⟩| ⟨x,t,rfl,rfl⟩
  exact wpAny_pyHash_int h;exact wpAny_pyHash_str h
 eqBool:=fun hu hv h=>by
  rcases CA hu with⟨i,t,rfl,rfl⟩| ⟨x,t,rfl,rfl⟩
  rcases CA hv with⟨j,u,rfl,rfl⟩| ⟨y,u,rfl,rfl⟩
  ·rw[key_ll]at h;exact wpAny_eqBool_int h
  rw[key_lr]at h;exact QA1 i t y u _ _ _ _ h;rcases CA hv with⟨j,u,rfl,rfl⟩| ⟨y,u,rfl,rfl⟩
  ·rw[key_rl]at h;exact QA2 x t j u _ _ _ _ h
  rw[key_rr]at h;exact wpAny_eqBool_str h
 «strs»:=fun k x t v h=>by
  rcases CA h with⟨i,u,rfl,e⟩| ⟨y,u,rfl,e⟩
  exact nomatch e;injection e with e1 _;subst e1;cases v<;>rfl
theorem mixKind_int(prog:Program)(w:World)(i:Int)(t:Tok):(mixKind prog w).is (.inl i) (.int i t)=true:=keyIs_int i t
theorem mixKind_str(prog:Program)(w:World)(x:Str)(t:Tok):(mixKind prog w).is (.inr x) (.str x t)=true:=keyIs_str x t
set_option genInjectivity true in
inductive V where
 |non|bl (b:Bool)|int (i:Int)|str (x:Str)|byt (b:Array UInt8)|flt (b:UInt64)|ref (a:Addr)|ty (n:String)
 deriving DecidableEq
def lA:V->Value->Prop
 | .non,u=>u=Value.none
 | .bl b,u=>u=Value.bool b
 | .int i,u=>∃t,u=Value.int i t
 | .str x,u=>∃t,u=Value.str x t
 | .byt b,u=>∃t,u=Value.bytes b t
 | .flt b,u=>∃t,u=Value.float b t
 | .ref a,u=>u=Value.ref a
 | .ty n,u=>u=Value.type n
noncomputable abbrev bA:List V->List Value->Prop:=Paired lA
theorem bA.length{xs:List V}{us:List Value}(r:bA xs us):xs.length=us.length:=qJ r
theorem bA.get:∀{xs:List V}{us:List Value}{i:Nat}{x:V},bA xs us->xs[i]?=some x->∃u,us[i]?=some u/\lA x u
 |_,_,_,_,.nil,e=>by simp at e
 |_,_,0,_,.cons r _,e=>by simp at e;subst e;exact⟨_,rfl,r⟩
 |_,_,i+1,x,.cons _ t,e=>by obtain⟨u,h1,h2⟩:=bA.get (i:=i) (x:=x) t (by simpa using e);exact⟨u,by simpa using h1,h2⟩
theorem bA.set{x:V}{u:Value}(r:lA x u):∀{xs:List V}{us:List Value}(i:Nat),bA xs us->bA (xs.set i x) (us.set i u)
 |_,_,_,.nil=>.nil
 |_,_,0,.cons _ t=>.cons r t
 |_,_,i+1,.cons q t=>.cons q (bA.set r i t)
theorem bA.append:∀{xs ys:List V}{us ws:List Value},bA xs us->bA ys ws->bA (xs++ys) (us++ws)
 |_,_,_,_,.nil,s=>s
 |_,_,_,_,.cons r t,s=>.cons r (bA.append t s)
theorem bA.take:∀{xs:List V}{us:List Value}(n:Nat),bA xs us->bA (xs.take n) (us.take n)
 |_,_,0,_=>.nil
 |_,_,_+1,.nil=>.nil
 |_,_,n+1,.cons r t=>.cons r (bA.take n t)
theorem bA.drop:∀{xs:List V}{us:List Value}(n:Nat),bA xs us->bA (xs.drop n) (us.drop n)
 |_,_,0,r=>r
 |_,_,_+1,.nil=>.nil
 |_,_,n+1,.cons _ t=>bA.drop n t
def RelO:Option V->Option Value->Prop
 |some v,some u=>lA v u
 |none,none=>True
 |_,_=>False
def KV{κ:Type}:List (κ×V)->List (κ×Value)->Prop:=Paired fun(p:κ×V) (q:κ×Value)=>p.1=q.1/\lA p.2 q.2
def kV:Key->V
 | .inl i=>.int i
 | .inr x=>.str x
inductive HO where
 |lst (xs:List V)
 |tup (xs:List V)
 |dK (kvs:List (Key×V))|dT (ep:Nat) (kvs:List (List Key×Addr×V))
 |set (S:Int->Bool) (n:Nat)
 |ins (C dx:Addr) (fs:List (Str×V))
 |own (x:Addr)
 |xd (fs:List (Str×V))
 |met (f x:Addr)
 |rng (lo hi:Int)
 |frz (o:Obj) (u:HO)
 |tbl (ps:Array Value)
 |ext (φ:Heap->Prop)
noncomputable abbrev Hp:=Addr->Option HO
def JA(H:Hp)(a:Addr)(o:HO):Hp:=fun b=>if b=a then some o else H b
theorem gA:JA H a o a=some o:=by unfold JA;rw[if_pos rfl]
theorem zA(h:b≠a):JA H a o b=H b:=by unfold JA;rw[if_neg h]
theorem upd_upd{u:HO}:JA (JA H a o) a u=JA H a u:=by funext b;unfold JA;split<;>rfl
theorem aA(h:H a=some o)(h':H b=none):a≠b:=by intro e;subst e;rw[h]at h';cases h'
end
section
variable(P:Program)(w:World)
def UA(H:Hp)(h:Heap)(a:Addr):HO->Prop
 | .lst xs=>xs.length<=sizeLine/\∃(its:List Value) (n:Nat),bA xs its/\h.get? a=some { cls:=.type "list",data:=.seq its.toArray n }
 | .tup xs=>xs.length<=sizeLine/\∃its:List Value,bA xs its/\IsTup h a its.toArray
 | .dK kvs=>kvs.length<=sizeLine/\(a==sysModules)=false/\∃vs,KV kvs vs/\h.DictOf (mixKind P w) a vs
 | .dT ep kvs=>kvs.length<=sizeLine/\(a==sysModules)=false/\∃xs:List (List Key×Addr×Value),
   Paired (fun(p:List Key×Addr×V) (q:List Key×Addr×Value)=>p.1=q.1/\p.2.1=q.2.1/\lA p.2.2 q.2.2) kvs xs /\
   ∃o es,h.get? a=some o/\o.ExactDict/\o.data=.dict es ep/\es.toList=xs.map (entryOfKey (tupleKind (mixKind P w)))/\(xs.map (·.1)).Nodup
 | .set S n=>h.SetOf (intKind P w) a S n
 | .ins C dx fs=>H dx=some (.own a)/\fs.length<=1000/\dx≠a/\h.get? a=some (QAY C dx) /\
   ∃mA,h.Ns1 dx mA/\(∀f,RelO (fs.lookup f) (mA f))/\PySem.Within mA (fs.map (·.1))
 | .own _=>∃o,h.get? a=some o
 | .xd fs=>∃mA,h.Ns1 a mA/\∀f,RelO (fs.lookup f) (mA f)
 | .rng lo hi=>∃t u v,h.get? a=some { cls:=.type "range",data:=.fields #[.int lo t,.int hi u,.int 1 v] }
 | .frz o u=>h.get? a=some o/\UA H h a u
 | .tbl ps=>h.get? a=some { cls:=.none,data:=.fields ps }
 | .met f x=>h.get? a=some (W6 (.ref f) (.ref x))
 | .ext φ=>φ h/\(∃o,h.get? a=some o)/\∀h1 h2:Heap,φ h1->(∀o,h1.get? a=some o->h2.get? a=some o)->φ h2
def HOk(H:Hp)(h:Heap):Prop:=∀a o,H a=some o->UA P w H h a o
end
section
variable{P:Program}{w:World}{H H':Hp}{h h':Heap}{a:Addr}{o:HO}
theorem UA.lt(x:UA P w H h a o):a<h.objs.size:=by
 cases o with
 |lst xs=>obtain⟨_,_,_,_,e⟩:=x;exact QU e
 |tup xs=>obtain⟨_,_,_,p⟩:=x;exact p.lt
 |dK kvs=>obtain⟨_,_,_,_,o,_,_,e,_⟩:=x;exact QU e
 |dT ep kvs=>obtain⟨_,_,_,_,o,_,e,_⟩:=x;exact QU e
 |set S n=>obtain⟨o,_,_,_,e,_⟩:=x;exact QU e
 |ins C dx fs=>obtain⟨_,_,_,e,_⟩:=x;exact QU e
 |own y=>obtain⟨_,e⟩:=x;exact QU e
 |xd fs=>obtain⟨_,⟨_,_,_,e,_⟩,_⟩:=x;exact QU e
 |rng lo hi=>obtain⟨_,_,_,e⟩:=x;exact QU e
 |frz ob u=>obtain⟨e,_⟩:=x;exact QU e
 |tbl ps=>exact QU (show h.get? a=some _ from x)
 |met f y=>exact QU (show h.get? a=some _ from x)
 |ext φ=>obtain⟨_,⟨_,e⟩,_⟩:=x;exact QU e
theorem UA.stay(x:UA P w H h a o)(k:∀b u,(b=a∨H b=some (.own a))->h.get? b=some u->h'.get? b=some u)
  (ho:∀b,H b=some (.own a)->H' b=some (.own a)) (ht:∀b xs,H b=some (.tup xs)->H' b=some (.tup xs)):UA P w H' h' a o:=by
 induction o with
 |lst xs=>obtain⟨z,its,n,r,e⟩:=x;exact⟨z,its,n,r,k _ _ (.inl rfl) e⟩
 |tup xs=>obtain⟨z,its,r,ob,e,c⟩:=x;exact⟨z,its,r,ob,k _ _ (.inl rfl) e,c⟩
 |dK kvs=>obtain⟨z,y,vs,r,ob,es,ep,e,c⟩:=x;exact⟨z,y,vs,r,ob,es,ep,k _ _ (.inl rfl) e,c⟩
 |dT ep kvs=>obtain⟨z,y,xs,r,ob,es,e,c⟩:=x;exact⟨z,y,xs,r,ob,es,k _ _ (.inl rfl) e,c⟩
 |set S n=>obtain⟨ob,es,ep,t,e,c⟩:=x;exact⟨ob,es,ep,t,k _ _ (.inl rfl) e,c⟩
 |ins C dx fs=>obtain⟨d,z,ne,e,mA,⟨od,es,ep,e2,c⟩,r⟩:=x;exact⟨ho _ d,z,ne,k _ _ (.inl rfl) e,mA,⟨od,es,ep,k _ _ (.inr d) e2,c⟩,r⟩
 |own y=>obtain⟨ob,e⟩:=x;exact⟨ob,k _ _ (.inl rfl) e⟩
 |xd fs=>obtain⟨mA,⟨od,es,ep,e,c⟩,r⟩:=x;exact⟨mA,⟨od,es,ep,k _ _ (.inl rfl) e,c⟩,r⟩
 |rng lo hi=>obtain⟨t,u,v,e⟩:=x;exact⟨t,u,v,k _ _ (.inl rfl) e⟩
 |frz ob u ih=>obtain⟨e,q⟩:=x;exact⟨k _ _ (.inl rfl) e,ih q⟩
 |tbl ps=>have e:h.get? a=some { cls:=.none,data:=.fields ps }:=x;show h'.get? a=some { cls:=.none,data:=.fields ps };exact k a _ (.inl rfl) e
 |met f y=>have e:h.get? a=some (W6 (.ref f) (.ref y)):=x;show h'.get? a=some (W6 (.ref f) (.ref y));exact k a _ (.inl rfl) e
 |ext φ=>obtain⟨p,⟨o,e⟩,st⟩:=x;exact⟨st _ _ p fun o q=>k _ _ (.inl rfl) q,⟨o,k _ _ (.inl rfl) e⟩,st⟩
theorem HOk.lt(x:HOk P w H h)(e:H a=some o):a<h.objs.size:=(x a o e).lt
theorem HOk.fresh(x:HOk P w H h)(e:h.objs.size<=a):H a=none:=by
 cases q:H a with
 |none=>rfl
 |some u=>exact absurd (Qj (x.lt q) e) (qu _)
theorem HOk.kept(x:HOk P w H h)(k:∀b u,h.get? b=some u->h'.get? b=some u):HOk P w H h':=fun a o e =>
 (x a o e).stay (fun b u _ q=>k b u q) (fun _ q=>q) fun _ _ q=>q
theorem HOk.laid(x:HOk P w H h)(k:∀b u,h.get? b=some u->h'.get? b=some u)(hp:h.objs.size<=a)(new:UA P w (JA H a o) h' a o):HOk P w (JA H a o) h':=fun b u e=>by have hn:=x.fresh hp;by_cases hb:b=a;subst hb;rw[gA]at e;cases e;exact new;rw[zA hb]at e;exact(x b u e).stay (fun c v _ q=>k c v q) (fun c q=>by rw[zA (aA q hn)];exact q) fun c xs q=>by rw[zA (aA q hn)];exact q
end
def Rd(H:Hp)(a:Addr)(u:HO):Prop:=H a=some u∨∃o,H a=some (.frz o u)
theorem Rd.ok{P:Program}{w:World}{H:Hp}{h:Heap}{a:Addr}{u:HO}(r:Rd H a u)(x:HOk P w H h):UA P w H h a u:=by
 rcases r with r|⟨o,r⟩
 exact x a u r;obtain⟨_,q⟩:=x a _ r;exact q
def Mut:Option HO->Prop
 |some (.lst _)=>True
 |some (.dK _)=>True
 |some (.dT _ _)=>True
 |some (.set _ _)=>True
 |some (.ins _ _ _)=>True
 |some (.ext _)=>True
 |_=>False
section
variable{P:Program}{w:World}{H:Hp}{h h':Heap}{x e:Addr}{o':HO}
theorem HOk.write(ok:HOk P w H h)(mu:Mut (H x))(he:e=x∨H e=some (.own x))(k:∀b u,b≠e->h.get? b=some u->h'.get? b=some u)(heo:∃u,h'.get? e=some u)
  (new:UA P w (JA H x o') h' x o'):HOk P w (JA H x o') h':=fun b u q=>by
 have nown:∀c y,H c=some (.own y)->c≠x:=fun c y r z=>by subst z;rw[r]at mu;exact mu
 have ntup:∀c xs,H c=some (.tup xs)->c≠x:=fun c xs r z=>by subst z;rw[r]at mu;exact mu
 by_cases hb:b=x;subst hb;rw[gA]at q;cases q;exact new;rw[zA hb]at q;by_cases hbe:b=e;have q':H b=some (.own x):=by rcases he with z|z;exact absurd (hbe.trans z) hb;rw[hbe];exact z
 rw[q]at q';cases q';obtain⟨v,hv⟩:=heo;exact⟨v,by rw[hbe];exact hv⟩;refine(ok b u q).stay (fun c v hc r=>k c v ?_ r) (fun c r=>by rw[zA (nown c b r)];exact r) fun c xs r=>by rw[zA (ntup c xs r)];exact r
 rcases hc with rfl|hc;exact hbe;rintro rfl;rcases he with z|z;exact nown c b hc z;rw[hc]at z;cases z;exact hb rfl
end
structure Un(fs ex:List Addr)(H H':Hp)(h h':Heap):Prop where
 keep:∀b o,h.get? b=some o->H b=none->b∉fs->b∉ex->h'.get? b=some o
 slot:∀b o,h.get? b=some o->H b=none->b∈fs->b∉ex->∃sl,h'.get? b=some { o with slots:=sl }
 free:∀b o,h.get? b=some o->H b=none->b∉ex->H' b=none
 there:∀b o,h.get? b=some o->b∉ex->∃o',h'.get? b=some o'
 tups:∀b xs,H b=some (.tup xs)->H' b=some (.tup xs)
 frzs:∀b o u,H b=some (.frz o u)->H' b=some (.frz o u)
 tbls:∀b ps,H b=some (.tbl ps)->∃more,H' b=some (.tbl (ps++more))
section
variable{fs fs' ex ex':List Addr}{H H1 H2:Hp}{h h1 h2 h':Heap}{a x e:Addr}{o:HO}
theorem Un.any(u:Un fs ex H H1 h h1){b:Addr}{ob:Obj}(q:h.get? b=some ob)(n:H b=none)(hx:b∉ex):∃sl,h1.get? b=some { ob with slots:=sl }:=by by_cases hb:b∈fs;exact u.slot b ob q n hb hx;exact⟨ob.slots,u.keep b ob q n hb hx⟩
theorem Un.kept(k:∀b u,h.get? b=some u->h'.get? b=some u):Un fs ex H H h h' :=
 ⟨fun b ob q _ _ _=>k b ob q,fun b ob q _ _ _=>⟨ob.slots,k b ob q⟩,fun _ _ _ n _=>n,fun b ob q _=>⟨ob,k b ob q⟩,fun _ _ q=>q,fun _ _ _ q=>q,fun _ ps q=>⟨#[],by rw[q];simp⟩⟩
theorem Un.refl:Un fs ex H H h h:=Un.kept fun _ _ q=>q
theorem Un.laid(k:∀b u,h.get? b=some u->h'.get? b=some u)(hp:h.objs.size<=a)(hn:H a=none):Un fs ex H (JA H a o) h h' where
 keep:=fun b u q _ _ _=>k b u q
 slot:=fun b u q _ _ _=>⟨u.slots,k b u q⟩
 free:=fun b u q n _=>by rw[zA (Qg (Qj (QU q) hp))];exact n
 there:=fun b u q _=>⟨u,k b u q⟩
 tups:=fun b xs q=>by rw[zA (aA q hn)];exact q
 frzs:=fun b u xs q=>by rw[zA (aA q hn)];exact q
 tbls:=fun b ps q=>⟨#[],by rw[zA (aA q hn),q];simp⟩
theorem Un.write(mu:Mut (H x))(he:e=x∨H e=some (.own x))(k:∀b u,b≠e->h.get? b=some u->h'.get? b=some u)(heo:∃u,h'.get? e=some u):Un fs ex H (JA H x o) h h':=by
 have hx:∀b,H b=none->b≠x:=fun b n z=>by subst z;rw[n]at mu;exact mu
 have hb:∀b,H b=none->b≠e:=fun b n z=>by subst z;rcases he with r|r;exact hx b n r;rw[n]at r;cases r
 have hm:∀b u,H b=some u->¬ Mut (some u)->b≠x:=fun b u q nm z=>by subst z;rw[q]at mu;exact nm mu
 refine⟨fun b u q n _ _=>k b u (hb b n) q,fun b u q n _ _=>⟨u.slots,k b u (hb b n) q⟩,fun b u q n _=>by rw[zA (hx b n)];exact n,fun b u q _=>?_,
  fun b xs q=>by rw[zA (hm b _ q fun z=>z)];exact q,fun b u xs q=>by rw[zA (hm b _ q fun z=>z)];exact q,fun b ps q=>⟨#[],by rw[zA (hm b _ q fun z=>z),q];simp⟩⟩
 by_cases hbe:b=e;subst hbe;exact heo;exact⟨u,k b u hbe q⟩
end
section
variable{h:Heap}{b:Addr}{o:Obj}
def trk(h:Heap)(H:Hp):List Addr:=(Qz h.objs.size).filter fun a=>(H a).isSome
def hidT(h:Heap)(H:Hp):Heap:=PySem.W.hideAll h (trk h H)
theorem hidT_size(h:Heap)(H:Hp):(hidT h H).objs.size=h.objs.size:=PySem.W.hideAll_size _ _
theorem hidT_get{H:Hp}(e:h.get? b=some o)(n:H b=none):(hidT h H).get? b=some o :=
 PySem.W.hideAll_get _ e fun hm=>by have q:(H b).isSome=true:=(Qm.mp hm).2;rw[n]at q;simp at q
theorem of_hidT{H:Hp}(e:(hidT h H).get? b=some o):h.get? b=some o/\H b=none:=by
 have e':h.get? b=some o:=PySem.W.of_hideAll (trk h H) e;refine⟨e',?_⟩;cases q:H b with
 |none=>rfl
 |some x=>have hm:b∈trk h H:=Qm.mpr ⟨Ww.mpr (QU e'),by simp[q]⟩;have z:(hidT h H).get? b=none:=PySem.W.hideAll_none (trk h H) hm;rw[z]at e;cases e
structure Mod(K:QA)(mg:Str->Option Value)(base:Heap):Prop where
 kin:K.In base
 glob:base.Ns mainGlobals mg
 blt:∃mb,base.Ns builtinsNs mb/\∀x:Str,x≠"__name__"->mb x=bootBuiltins x
 nolimit:base.NoLimit
structure Cx where
 prog:Program
 w:World
 K:QA
 mg:Str->Option Value
 base:Heap
 A:Around
 N:List Str
 s₀:Shared
 H₀:Hp
 env:Env
 outer:List Env
 stack:List Env
 ex:List Addr
 fn:Str->Bool
 calm:Bool
 pn:LAO
 xe:Value->Shared->Prop
def frs(l:List Env):List Addr:=l.filterMap (·.frame)
noncomputable abbrev Cx.fs(X:Cx):List Addr:=frs X.outer
def Vis(sc:Scope)(x:Str):Prop:=sc.names.lookup x=some .local∨sc.names.lookup x=some .cell∨sc.names.lookup x=some .free
def Loc(sc:Scope)(x:Str):Prop:=sc.names.lookup x=some .local∨sc.names.lookup x=some .cell
def Look(env:Env)(h:Heap)(m:Str->Option Value)(x:Str)(u:Value):Prop :=
 (env.kindOf x=some .local/\m x=some u)∨((env.kindOf x=some .cell∨env.kindOf x=some .free)/\∃c,env.cells.lookup x=some c/\h.IsCell c (some u))
structure Cx.Ok(X:Cx):Prop where
 mod:Mod X.K X.mg X.base
 kind:X.env.scope.kind=.function
 glob:X.env.globals=mainGlobals
 blt:X.env.builtins=builtinsNs
 above:X.s₀.heap.objs.size<=X.env.locals
 inj:∀x y c,X.env.cells.lookup x=some c->X.env.cells.lookup y=some c->x=y
 has:∀x,(X.env.kindOf x=some .cell∨X.env.kindOf x=some .free)->∃c,X.env.cells.lookup x=some c
 cab:∀x c,X.fn x=true->X.env.cells.lookup x=some c->X.s₀.heap.objs.size<=c
 hd:X.calm=true->X.A.handled=none
 frames:X.A.frames=some X.stack
 stk:X.stack=X.outer∨(X.stack=X.env::X.outer/\X.env.frame=some X.env.locals)
 exf:∀b∈X.ex,b≠X.env.locals/\∀x c,X.env.cells.lookup x=some c->c≠b
 bs:∀b o,X.base.get? b=some o->X.s₀.heap.get? b=some o/\X.H₀ b=none
 bsz:X.base.objs.size<=X.s₀.heap.objs.size
 noex:∀b o,X.base.get? b=some o->b∉X.ex
 exfs:∀b∈X.ex,b∉X.fs
 funs:X.s₀.heap.FunFrames X.base X.outer
 frf:∀b∈X.fs,X.H₀ b=none
structure Inv(X:Cx)(pins:LAO)(σ:List (Option V))(H:Hp)(s:Shared):Prop where
 ok:X.Ok
 os:s.os=X.s₀.os
 bare:AllBare s.gens
 base:Un X.fs X.ex X.H₀ H X.s₀.heap s.heap
 loc:∃m,s.heap.Ns X.env.locals m/\∀(i:Nat) (x:Str) (v:V),X.N[i]?=some x->σ[i]?=some (some v)->Vis X.env.scope x->∃u,lA v u/\Look X.env s.heap m x u
 cell:∀x c,X.env.cells.lookup x=some c->∃v,s.heap.IsCell c v
 free:H X.env.locals=none
 freeC:∀x c,X.env.cells.lookup x=some c->H c=none
 pin:∀p∈X.pn++pins,s.heap.get? p.1=some p.2/\H p.1=none/\p.1≠X.env.locals/\p.1∉X.fs/\∀v,p.2.data≠.cell v
 hok:HOk X.prog X.w H s.heap
 len:σ.length=X.N.length
end
section
variable{X:Cx}{pins:LAO}{σ:List (Option V)}{H H':Hp}{s:Shared}{h':Heap}
section
variable{a:Addr}{g':Array GenState}{ch:List Addr}{i:Nat}{x:Str}{M:Model}{A:Around}{E:VSP}{u:Value}{Q:Unit->Shared->Prop}
theorem Cx.Ok.nofr(ok:X.Ok){b:Addr}{o:Obj}(e:X.base.get? b=some o):b∉X.fs:=fun hb=>by have:=(ok.funs.mem hb).1;rw[e]at this;cases this
theorem Inv.bs(I:Inv X pins σ H s):∀b o,X.base.get? b=some o->s.heap.get? b=some o/\H b=none:=fun b o e =>
 ⟨I.base.keep b o (I.ok.bs b o e).1 (I.ok.bs b o e).2 (I.ok.nofr e) (I.ok.noex b o e),I.base.free b o (I.ok.bs b o e).1 (I.ok.bs b o e).2 (I.ok.noex b o e)⟩
theorem Inv.bk(I:Inv X pins σ H s):∀b o,X.base.get? b=some o->s.heap.get? b=some o:=fun b o e=>(I.bs b o e).1
theorem Inv.mod(I:Inv X pins σ H s):Mod X.K X.mg X.base:=I.ok.mod
theorem Inv.kIn(I:Inv X pins σ H s):X.K.In s.heap:=I.ok.mod.kin.keeps I.bk
theorem Inv.lt(I:Inv X pins σ H s):X.env.locals<s.heap.objs.size:=let⟨_,hn,_⟩:=I.loc;hn.lt
theorem Inv.sz(I:Inv X pins σ H s):X.s₀.heap.objs.size<=s.heap.objs.size:=QX I.ok.above (QBQ I.lt)
theorem Inv.nofs(I:Inv X pins σ H s)(h:s.heap.objs.size<=a):a∉X.fs:=fun hb=>by obtain⟨_,o,ho,_⟩:=I.ok.funs.mem hb;exact absurd (Qj (QU ho) (QX I.sz h)) (qu _)
theorem Inv.cne(I:Inv X pins σ H s):∀x c,X.env.cells.lookup x=some c->c≠X.env.locals:=fun x c e z=>by obtain⟨v,o,ho,hd⟩:=I.cell x c e;obtain⟨m,⟨o',es,ep,ho',hd',_⟩,_⟩:=I.loc;rw[z,ho']at ho;cases ho;rw[hd']at hd;cases hd
theorem Inv.funs(I:Inv X pins σ H s):s.heap.FunFrames X.base X.outer:=by
 have all:∀(l:List Env),(∀b∈frs l,b∈X.fs)->X.s₀.heap.FunFrames X.base l->s.heap.FunFrames X.base l:=by
  intro l;induction l with
  |nil=>intro _ _;trivial
  |cons env r ih=>intro hs hl;obtain⟨hk,⟨L,o,hf,hn,ho,hd⟩,hr⟩:=hl;have hL:L∈X.fs:=hs L (by unfold frs;rw[WF,hf];exact QF);obtain⟨sl,e⟩:=I.base.slot L o ho (I.ok.frf L hL) hL fun z=>I.ok.exfs L z hL;exact⟨hk,⟨L,_,hf,hn,e,hd⟩,ih (fun b hb=>hs b (by unfold frs;rw[WF,hf];exact QE _ hb)) hr⟩
 exact all X.outer (fun _ hb=>hb) I.ok.funs
theorem Inv.stack(I:Inv X pins σ H s):s.heap.FunFrames X.base X.stack:=by
 rcases I.ok.stk with e|⟨e,hf⟩
 rw[e];exact I.funs;rw[e];obtain⟨m,hn,_⟩:=I.loc;refine .cons (by rw[I.ok.kind];decide) hf hn ?_ I.funs;exact Heap.get?_none_of_le (QX I.ok.bsz I.ok.above)
theorem Inv.stkSub(I:Inv X pins σ H s):∀b∈frs X.stack,b∈X.env.locals::X.fs:=fun b hb=>by
 rcases I.ok.stk with e|⟨e,hf⟩
 rw[e]at hb;exact QE _ hb;rw[e]at hb;unfold frs at hb;rw[WF,hf]at hb;exact hb
theorem Inv.stkFree(I:Inv X pins σ H s):∀b∈frs X.stack,H b=none:=fun b hb=>by rcases QK.mp (I.stkSub b hb) with e|hb;rw[e];exact I.free;obtain⟨_,o,ho,_⟩:=I.ok.funs.mem hb;exact I.base.free b o ho (I.ok.frf b hb) fun z=>I.ok.exfs b z hb
theorem Inv.step{t':Nat}{d':Drawn}(I:Inv X pins σ H s)
  (hch:∀b∈ch,(b∈X.ex∨X.s₀.heap.objs.size<=b)/\b≠X.env.locals/\(∀x c,X.env.cells.lookup x=some c->c≠b)/\∀p∈X.pn++pins,p.1≠b)
  (keep:∀b o,b≠X.env.locals->b∉X.fs->b∉ch->s.heap.get? b=some o->H b=none->h'.get? b=some o)
  (slot:∀b o,b≠X.env.locals->b∈X.fs->b∉ch->s.heap.get? b=some o->H b=none->∃sl,h'.get? b=some { o with slots:=sl }) (free:∀b o,b∉ch->s.heap.get? b=some o->H b=none->H' b=none)
  (there:∀b o,b∉ch->s.heap.get? b=some o->∃o',h'.get? b=some o')
  (tups:∀b xs,H b=some (.tup xs)->H' b=some (.tup xs)) (frzs:∀b o u,H b=some (.frz o u)->H' b=some (.frz o u)) (tbls:∀b ps,H b=some (.tbl ps)->∃more,H' b=some (.tbl (ps++more)))
  (ns:∀m,s.heap.Ns X.env.locals m->h'.Ns X.env.locals m) (hok:HOk X.prog X.w H' h') (hg:AllBare g') :
  Inv X pins σ H' { s with heap:=h',gens:=g',drawn:=d',toks:=t' }:=by
 have neL:∀b o,X.s₀.heap.get? b=some o->b≠X.env.locals:=fun b o e=>Qg (Qj (QU e) I.ok.above);have neC:∀b o,X.s₀.heap.get? b=some o->b∉X.ex->b∉ch:=fun b o e hx hb=>by rcases(hch b hb).1 with z|z;exact hx z;exact absurd (Qj (QU e) z) (qu _)
 have cellK:∀x c,X.env.cells.lookup x=some c->∀v,s.heap.IsCell c v->h'.IsCell c v:=fun x c e v ⟨o,ho,hd⟩=>by have nch:c∉ch:=fun z=>(hch c z).2.2.1 x c e rfl;by_cases hc:c∈X.fs;obtain⟨sl,q⟩:=slot c o (I.cne x c e) hc nch ho (I.freeC x c e);exact⟨_,q,hd⟩;exact⟨o,keep c o (I.cne x c e) hc nch ho (I.freeC x c e),hd⟩
 refine⟨I.ok,I.os,hg,⟨fun b o e n hb hx=>?_,fun b o e n hb hx=>?_,fun b o e n hx=>?_,fun b o e hx=>?_,fun b xs e=>tups b xs (I.base.tups b xs e),fun b o xs e=>frzs b o xs (I.base.frzs b o xs e),fun b ps e=>?_⟩,?_,fun x c e=>?_,?_,fun x c e=>?_,fun p hp=>?_,hok,I.len⟩;exact keep b o (neL b o e) hb (neC b o e hx) (I.base.keep b o e n hb hx) (I.base.free b o e n hx);obtain⟨sl,e1⟩:=I.base.slot b o e n hb hx;obtain⟨sl',e2⟩:=slot b _ (neL b o e) hb (neC b o e hx) e1 (I.base.free b o e n hx);exact⟨sl',e2⟩;obtain⟨o',e1⟩:=I.base.there b o e hx;exact free b o' (neC b o e hx) e1 (I.base.free b o e n hx);obtain⟨o',e1⟩:=I.base.there b o e hx;exact there b o' (neC b o e hx) e1;obtain⟨m1,e1⟩:=I.base.tbls b ps e;obtain⟨m2,e2⟩:=tbls b _ e1;exact⟨m1++m2,by rw[e2,Array.append_assoc]⟩;obtain⟨m,hn,hl⟩:=I.loc;refine⟨m,ns m hn,fun i x v e1 e2 e3=>?_⟩;obtain⟨u,r,l⟩:=hl i x v e1 e2 e3;refine⟨u,r,?_⟩;rcases l with l|⟨k,c,e,z⟩
 exact .inl l;exact .inr ⟨k,c,e,cellK x c e _ z⟩;obtain⟨v,z⟩:=I.cell x c e;exact⟨v,cellK x c e v z⟩;obtain⟨m,⟨o,_,_,ho,_⟩,_⟩:=I.loc;exact free _ o (fun z=>(hch _ z).2.1 rfl) ho I.free;obtain⟨v,o,ho,hd⟩:=I.cell x c e;exact free c o (fun z=>(hch c z).2.2.1 x c e rfl) ho (I.freeC x c e);obtain⟨e,n,ne,nf,d⟩:=I.pin p hp;have nch:p.1∉ch:=fun z=>(hch p.1 z).2.2.2 p hp rfl;exact⟨keep p.1 p.2 ne nf nch e n,free p.1 p.2 nch e n,ne,nf,d⟩
theorem Inv.un{t':Nat}(I:Inv X pins σ H s)(u:Un X.fs [] H H' s.heap h')(hok:HOk X.prog X.w H' h'):Inv X pins σ H' { s with heap:=h',toks:=t' }:=by obtain⟨m,⟨o,es,ep,ho,r⟩,_⟩:=id I.loc;obtain⟨sl,hL⟩:=u.any ho I.free (by simp);exact I.step (g':=s.gens) (d':=s.drawn) (ch:=[]) (fun _ z=>nomatch z) (fun b o _ hb _ e n=>u.keep b o e n hb (by simp)) (fun b o _ hb _ e n=>u.slot b o e n hb (by simp)) (fun b o _ e n=>u.free b o e n (by simp)) (fun b o _ e=>u.there b o e (by simp)) u.tups u.frzs u.tbls (fun m' hm=>by obtain⟨o',es',ep',ho',r'⟩:=hm;rw[ho]at ho';cases ho';exact⟨_,es',ep',hL,r'⟩) hok I.bare
theorem Inv.call{t':Nat}{d':Drawn}(I:Inv X pins σ H s)(u:Un (frs X.stack) ch H H' s.heap h')(hok:HOk X.prog X.w H' h')(hg:AllBare g')
  (hch:∀b∈ch,(b∈X.ex∨X.s₀.heap.objs.size<=b)/\b≠X.env.locals/\(∀x c,X.env.cells.lookup x=some c->c≠b)/\∀p∈X.pn++pins,p.1≠b) :
  Inv X pins σ H' { s with heap:=h',gens:=g',drawn:=d',toks:=t' }:=by
 obtain⟨m,⟨o,es,ep,ho,r⟩,_⟩:=id I.loc;obtain⟨sl,hL⟩:=u.any ho I.free fun z=>(hch _ z).2.1 rfl;exact I.step (ch:=ch) hch (fun b o hL hb hc e n=>u.keep b o e n (fun z=>(QK.mp (I.stkSub b z)).elim hL hb) hc) (fun b o _ _ hc e n=>u.any e n hc) (fun b o hc e n=>u.free b o e n hc) (fun b o hc e=>u.there b o e hc) u.tups u.frzs u.tbls (fun m' hm=>by obtain⟨o',es',ep',ho',r'⟩:=hm;rw[ho]at ho';cases ho';exact⟨_,es',ep',hL,r'⟩) hok hg
theorem Inv.turned{t':Nat}{it:Addr}(I:Inv X pins σ H s)(k:∀b o,b≠it->s.heap.get? b=some o->h'.get? b=some o)(hn:H it=none)(hL:it≠X.env.locals)
  (h1:it∈X.ex∨X.s₀.heap.objs.size<=it) (h2:∀x c,X.env.cells.lookup x=some c->c≠it) (h3:∀p∈X.pn++pins,p.1≠it):Inv X pins σ H { s with heap:=h',toks:=t' }:=by
 have nit:∀b u,H b=some u->b≠it:=fun b u e z=>by rw[z,hn]at e;cases e
 refine I.step (g':=s.gens) (d':=s.drawn) (ch:=[it]) (fun b hb=>?_) (fun b o _ _ hc e _=>k b o (fun z=>hc (by simp[z])) e) (fun b o _ _ hc e _=>⟨o.slots,k b o (fun z=>hc (by simp[z])) e⟩) (fun _ _ _ _ n=>n)
  (fun b o hc e=>⟨o,k b o (fun z=>hc (by simp[z])) e⟩) (fun _ _ e=>e) (fun _ _ _ e=>e) (fun b ps e=>⟨#[],by rw[e];simp⟩) (fun m hm=>?_) (fun b u e=>?_) I.bare
 have e:b=it:=by simpa using hb
 subst e;exact⟨h1,hL,h2,h3⟩;obtain⟨o,es,ep,ho,r⟩:=hm;exact⟨o,es,ep,k _ o (Qy hL) ho,r⟩;refine(I.hok b u e).stay (fun c v hc q=>k c v ?_ q) (fun _ q=>q) fun _ _ q=>q;rcases hc with z|z;rw[z];exact nit b u e;exact nit c _ z
theorem Inv.tok(I:Inv X pins σ H s)(t:Nat):Inv X pins σ H { s with toks:=t }:=I.un (h':=s.heap) (t':=t) Un.refl I.hok
theorem Inv.kept{t':Nat}(I:Inv X pins σ H s)(k:∀b u,s.heap.get? b=some u->h'.get? b=some u):Inv X pins σ H { s with heap:=h',toks:=t' }:=I.un (Un.kept k) (I.hok.kept k)
theorem Inv.laid{o:HO}{t':Nat}(I:Inv X pins σ H s)(k:∀b u,s.heap.get? b=some u->h'.get? b=some u)(hp:s.heap.objs.size<=a)(new:UA X.prog X.w (JA H a o) h' a o) :
  Inv X pins σ (JA H a o) { s with heap:=h',toks:=t' }:=I.un (Un.laid k hp (I.hok.fresh hp)) (I.hok.laid k hp new)
theorem Inv.write{x e:Addr}{o:HO}{t':Nat}(I:Inv X pins σ H s)(mu:Mut (H x))(he:e=x∨H e=some (.own x))(k:∀b u,b≠e->s.heap.get? b=some u->h'.get? b=some u)(heo:∃u,h'.get? e=some u)
  (new:UA X.prog X.w (JA H x o) h' x o):Inv X pins σ (JA H x o) { s with heap:=h',toks:=t' }:=I.un (Un.write mu he k heo) (I.hok.write mu he k heo new)
theorem Inv.pins_of{pins':LAO}(I:Inv X pins σ H s)(h:∀p∈pins',s.heap.get? p.1=some p.2/\H p.1=none/\p.1≠X.env.locals/\p.1∉X.fs/\∀v,p.2.data≠.cell v):Inv X pins' σ H s :=
 ⟨I.ok,I.os,I.bare,I.base,I.loc,I.cell,I.free,I.freeC,fun p hp=>(Qd.mp hp).elim (fun z=>I.pin p (Qf _ z)) (h p),I.hok,I.len⟩
theorem nodup_ix{N:List Str}(hN:N.Nodup){j:Nat}(a:N[i]?=some x)(b:N[j]?=some x):i=j:=by obtain⟨h1,e1⟩:=QT.mp a;obtain⟨h2,e2⟩:=QT.mp b;exact(List.getElem_inj hN).mp (e1.trans e2.symm)
theorem store_ok2{v:V}(I:Inv X pins σ H s)(hN:X.N.Nodup)(hi:X.N[i]?=some x)(hx:Loc X.env.scope x)(r:lA v u)
  (h:∀s',Inv X pins (σ.set i (some v)) H s'->(∃a,qG a s.heap s'.heap/\(a=X.env.locals∨X.env.cells.lookup x=some a))->Q () s') (hf:X.fn x=true∨X.env.scope.names.lookup x=some .local):wpAny M A (storeName X.env x u) Q E s:=by
 obtain⟨m,hn,hl⟩:=id I.loc;have hcls:(X.env.scope.kind==.class||(X.env.scope.kind==.module&&X.env.locals != X.env.globals))=false:=by rw[I.ok.kind];rfl
 have hiσ:i<σ.length:=by rw[I.len];exact(QT.mp hi).1
 have cne:=I.cne;have tracked:∀{a:Addr}{h':Heap},(∃o,s.heap.get? a=some o/\H a=none)->qG a s.heap h'->HOk X.prog X.w H h':=fun {a h'} ha hs b ob e=>by obtain⟨_,_,hfree⟩:=ha;refine(I.hok b ob e).stay (fun c w' hc q=>(hs.2 c ?_).trans q) (fun _ q=>q) fun _ _ q=>q;rintro rfl;rcases hc with rfl|hc;rw[hfree]at e;cases e;rw[hfree]at hc;cases hc
 rcases hx with hk|hk;refine wpAny_storeName_local hk hn (fun h' hn' hs=>?_) hcls;obtain⟨oL,_,_,hoL,_⟩:=id hn;refine h _ ⟨I.ok,I.os,I.bare,⟨fun b o e n hb hx=>?_,fun b o e n hb hx=>?_,I.base.free,fun b o e hx=>?_,I.base.tups,I.base.frzs,I.base.tbls⟩,⟨_,hn',fun j y v' e1 e2 e3=>?_⟩,fun y c e=>?_,I.free,I.freeC,fun p hp=>?_,tracked ⟨oL,hoL,I.free⟩ hs,by simpa using I.len⟩ ⟨_,hs,.inl rfl⟩;exact(hs.2 b (Qg (Qj (QU e) I.ok.above))).trans (I.base.keep b o e n hb hx);obtain⟨sl,e1⟩:=I.base.slot b o e n hb hx;exact⟨sl,(hs.2 b (Qg (Qj (QU e) I.ok.above))).trans e1⟩;obtain⟨o',e1⟩:=I.base.there b o e hx;exact⟨o',(hs.2 b (Qg (Qj (QU e) I.ok.above))).trans e1⟩;by_cases hj:j=i
 ·subst hj
  rw[hi]at e1;cases e1;rw[qf hiσ]at e2;cases e2;exact⟨u,r,.inl ⟨hk,by simp⟩⟩
 rw[qM (Qy hj)]at e2;obtain⟨u',r',q⟩:=hl j y v' e1 e2 e3;refine⟨u',r',?_⟩;rcases q with⟨k,e⟩| ⟨k,c,e,z⟩
 refine .inl ⟨k,?_⟩;have:y≠x:=fun e=>hj (nodup_ix hN e1 (e▸hi));simp[this,e];exact .inr ⟨k,c,e,z.sameBut hs (cne y c e)⟩;obtain⟨w',z⟩:=I.cell y c e;exact⟨w',z.sameBut hs (cne y c e)⟩;obtain⟨e,n,ne,nf,d⟩:=I.pin p hp;exact⟨(hs.2 p.1 ne).trans e,n,ne,nf,d⟩;have hfn:X.fn x=true:=by rcases hf with z|z;exact z;rw[z]at hk;cases hk
 obtain⟨c,hc⟩:=I.ok.has x (.inl hk);obtain⟨w',z⟩:=I.cell x c hc;refine wpAny_storeName_cell I.ok.kind hk hc z (fun h' hc' hs=>?_);obtain⟨oc,hoc,hocd⟩:=id z;refine h { s with heap:=h' } ⟨I.ok,I.os,I.bare,⟨fun b o e n hb hx=>?_,fun b o e n hb hx=>?_,I.base.free,fun b o e hx=>?_,I.base.tups,I.base.frzs,I.base.tbls⟩,⟨m,hn.sameBut hs (Qy (cne x c hc)),fun j y v' e1 e2 e3=>?_⟩,fun y c' e=>?_,I.free,I.freeC,fun p hp=>?_,tracked ⟨oc,hoc,I.freeC x c hc⟩ hs,by simpa using I.len⟩ ⟨c,hs,.inr hc⟩;exact(hs.2 b (Qg (Qj (QU e) (I.ok.cab x c hfn hc)))).trans (I.base.keep b o e n hb hx);obtain⟨sl,e1⟩:=I.base.slot b o e n hb hx;exact⟨sl,(hs.2 b (Qg (Qj (QU e) (I.ok.cab x c hfn hc)))).trans e1⟩;obtain⟨o',e1⟩:=I.base.there b o e hx;exact⟨o',(hs.2 b (Qg (Qj (QU e) (I.ok.cab x c hfn hc)))).trans e1⟩;by_cases hj:j=i
 ·subst hj
  rw[hi]at e1;cases e1;rw[qf hiσ]at e2;cases e2;exact⟨u,r,.inr ⟨.inl hk,c,hc,hc'⟩⟩
 rw[qM (Qy hj)]at e2;obtain⟨u',r',q⟩:=hl j y v' e1 e2 e3;refine⟨u',r',?_⟩;rcases q with q|⟨k,c',e,z'⟩
 exact .inl q;refine .inr ⟨k,c',e,z'.sameBut hs ?_⟩;rintro rfl;exact hj (nodup_ix hN e1 (I.ok.inj _ _ _ e hc▸hi));by_cases hcc:c'=c
 ·subst hcc;exact⟨_,hc'⟩
 obtain⟨w2,z2⟩:=I.cell y c' e;exact⟨w2,z2.sameBut hs hcc⟩;obtain⟨e,n,ne,nf,d⟩:=I.pin p hp;refine⟨(hs.2 p.1 ?_).trans e,n,ne,nf,d⟩;intro q;rw[q,hoc]at e;have q':oc=p.2:=Q7 e;exact d w' (by rw[<- q'];exact hocd)
theorem store_ok{v:V}(I:Inv X pins σ H s)(hN:X.N.Nodup)(hi:X.N[i]?=some x)(hx:Loc X.env.scope x)(r:lA v u)
  (h:∀s',Inv X pins (σ.set i (some v)) H s'->Q () s') (hf:X.fn x=true∨X.env.scope.names.lookup x=some .local):wpAny M A (storeName X.env x u) Q E s :=
 store_ok2 I hN hi hx r (fun s' I' _=>h s' I') hf
theorem Inv.call'{s':Shared}(I:Inv X pins σ H s)(ho:s'.os=s.os)(u:Un (frs X.stack) ch H H' s.heap s'.heap)(hok:HOk X.prog X.w H' s'.heap)(hg:AllBare s'.gens)
  (hch:∀b∈ch,(b∈X.ex∨X.s₀.heap.objs.size<=b)/\b≠X.env.locals/\(∀x c,X.env.cells.lookup x=some c->c≠b)/\∀p∈X.pn++pins,p.1≠b):Inv X pins σ H' s':=by
 obtain⟨h',g',d',t',o'⟩:=s';have e:o'=s.os:=ho;subst e;exact I.call (g':=g') (t':=t') (d':=d') u hok hg hch
end
end
noncomputable abbrev XK:=Value->Option Addr->Hp->Prop
noncomputable abbrev St:=List (Option V)
noncomputable abbrev VK:=V->Hp->Prop
noncomputable abbrev TE:=St->Hp->VK->Prop
noncomputable abbrev TT:=St->Hp->(Bool->Hp->Prop)->Prop
noncomputable abbrev TA:=St->Hp->(List V->Hp->Prop)->Prop
structure Ends where
 nx:St->Hp->Prop
 rt:VK
 bk:St->Hp->Prop:=fun _ _=>False
 ct:St->Hp->Prop:=fun _ _=>False
noncomputable abbrev TS:=Ends->St->Hp->Prop
def EP(X:Cx)(pins:LAO)(σ:St)(Q:VK)(u:Value)(s':Shared):Prop:=∃v H',Inv X pins σ H' s'/\lA v u/\Q v H'
def TP(X:Cx)(pins:LAO)(σ:St)(Q:Bool->Hp->Prop)(b:Bool)(s':Shared):Prop:=∃H',Inv X pins σ H' s'/\Q b H'
def AP(X:Cx)(pins:LAO)(σ:St)(Q:List V->Hp->Prop)(us:List Value)(s':Shared):Prop:=∃vs H',Inv X pins σ H' s'/\bA vs us/\Q vs H'
def SP(X:Cx)(pins:LAO)(D:Ends)(f:Flow)(s':Shared):Prop :=
 match f with
 | .next=>∃σ' H',Inv X pins σ' H' s'/\D.nx σ' H'
 | .brk=>∃σ' H',Inv X pins σ' H' s'/\D.bk σ' H'
 | .cont=>∃σ' H',Inv X pins σ' H' s'/\D.ct σ' H'
 | .ret u=>∃v σ' H',Inv X pins σ' H' s'/\lA v u/\D.rt v H'
def PE(X:Cx)(e:Expr)(t:TE):Prop :=
 ∀(pins:LAO) (s:Shared) (σ:St) (H:Hp) (Q:VK),Inv X pins σ H s->t σ H Q->wpAny (model X.prog X.w) X.A (eval e X.env) (EP X pins σ Q) X.xe s
def PT(X:Cx)(e:Expr)(t:TT):Prop :=
 ∀(pins:LAO) (s:Shared) (σ:St) (H:Hp) (Q:Bool->Hp->Prop),Inv X pins σ H s->t σ H Q->wpAny (model X.prog X.w) X.A (isTrue e X.env (eval e X.env)) (TP X pins σ Q) X.xe s
def PW(X:Cx)(e:Expr)(t:TT):Prop :=
 ∀(whole:Sem Value) (pins:LAO) (s:Shared) (σ:St) (H:Hp) (Q:Bool->Hp->Prop),Inv X pins σ H s->t σ H Q->wpAny (model X.prog X.w) X.A (isTrue e X.env whole) (TP X pins σ Q) X.xe s
theorem PW.pt{X:Cx}{e:Expr}{t:TT}(h:PW X e t):PT X e t:=h _
def PA(X:Cx)(es:List Expr)(t:TA):Prop :=
 ∀(pos:Pos) (pins:LAO) (s:Shared) (σ:St) (H:Hp) (Q:List V->Hp->Prop),Inv X pins σ H s->t σ H Q->wpAny (model X.prog X.w) X.A (spliced (backTo pos (starEach es X.env))) (AP X pins σ Q) X.xe s
def PS(X:Cx)(st:Stmt)(t:TS):Prop :=
 ∀(pins:LAO) (s:Shared) (σ:St) (H:Hp) (D:Ends),Inv X pins σ H s->t D σ H->wpAny (model X.prog X.w) X.A (exec st X.env) (SP X pins D) X.xe s
def PSs(X:Cx)(st:List Stmt)(t:TS):Prop :=
 ∀(pins:LAO) (s:Shared) (σ:St) (H:Hp) (D:Ends),Inv X pins σ H s->t D σ H->wpAny (model X.prog X.w) X.A (execs st X.env) (SP X pins D) X.xe s
theorem thn{α:Type}{t:Sem α}{Q Q':α->Shared->Prop}{M:Model}{A:Around}{E:VSP}{s:Shared}(h:wpAny M A t Q E s)(hQ:∀a s,Q a s->Q' a s):wpAny M A t Q' E s:=wI h hQ fun _ _ x=>x
section
variable{X:Cx}
section
variable{pins:LAO}{s:Shared}{σ:St}{H:Hp}{x:Str}{pos:Pos}{E Q:VSP}{u:Value}
theorem bin{a b:Expr}{ta tb:TE}(ha:PE X a ta)(hb:PE X b tb){R:V->V->Hp->Prop}(I:Inv X pins σ H s)(h:ta σ H fun x H1=>tb σ H1 fun y H2=>R x y H2)
  {α:Type}{Q:α->Shared->Prop}{f:Value->Value->Sem α}
  (hf:∀v u s2 x y H2,Inv X pins σ H2 s2->lA x v->lA y u->R x y H2->wpAny (model X.prog X.w) X.A (f v u) Q X.xe s2) :
  wpAny (model X.prog X.w) X.A (eval a X.env) (fun v s₁=>wpAny (model X.prog X.w) X.A (eval b X.env) (fun u s₂=>wpAny (model X.prog X.w) X.A (f v u) Q X.xe s₂) X.xe s₁) X.xe s:=by
 refine thn (ha pins s σ H _ I h) fun v s1 ⟨x,H1,I1,r1,q1⟩=>?_;refine thn (hb pins s1 σ H1 _ I1 q1) fun u s2 ⟨y,H2,I2,r2,q2⟩=>?_;exact hf v u s2 x y H2 I2 r1 r2 q2
def tVar(i:Nat):TE:=fun σ H Q=>∃v,σ[i]?=some (some v)/\Q v H
def tC(v:V):TE:=fun _ H Q=>Q v H
theorem pe_var{i:Nat}(hN:X.N[i]?=some x)(hv:Vis X.env.scope x)(hd:(x==("__debug__":Str))=false:=by decide)(hcd:(x==("__classdict__":Str))=false:=by decide):PE X (.Name x pos) (tVar i):=by
 intro pins s σ H Q I h;obtain⟨v,e,h⟩:=h;obtain⟨m,hn,hl⟩:=I.loc;obtain⟨u,r,l⟩:=hl i x v hN e hv;have fin:EP X pins σ Q u s:=⟨v,H,I,r,h⟩
 rcases l with⟨hk,hm⟩| ⟨hk,c,hc,hcell⟩
 exact QBs (wpAny_loadName_local I.ok.kind hk hn hm fin) hd;rcases hk with hk|hk
 ·exact QBs (wpAny_loadName_cell I.ok.kind hk hc hcell fin) hd
 exact QBs (wpAny_loadName_free I.ok.kind hk hc hcell fin hcd) hd
theorem pe_int{i j pos}:PE X (.Constant (.int i) j pos) (tC (.int i)):=fun _ _ _ H _ I h=>wpAny_Constant_int ⟨.int i,H,I.tok _,⟨_,rfl⟩,h⟩
theorem pe_bl{b j pos}:PE X (.Constant (.bool b) j pos) (tC (.bl b)):=fun _ _ _ H _ I h=>Constant_bool ⟨.bl b,H,I,rfl,h⟩
theorem pe_non{j pos}:PE X (.Constant .none j pos) (tC .non):=fun _ _ _ H _ I h=>Constant_none ⟨.non,H,I,rfl,h⟩
theorem pe_str{x j pos}:PE X (.Constant (.str x) j pos) (tC (.str x)):=fun _ _ _ H _ I h=>Calls.Constant_str ⟨.str x,H,I.tok _,⟨_,rfl⟩,h⟩
def Gl(X:Cx)(x:Str):Prop:=X.env.kindOf x=some .globalImplicit
theorem ld_glob(I:Inv X pins σ H s)(hg:Gl X x)(hm:X.mg x=some u)(h:Q u s)
  (hd:(x==("__debug__":Str))=false:=by decide):wpAny (model X.prog X.w) X.A (eval (.Name x pos) X.env) Q E s :=
 Wq I.ok.kind hg (Calls.loadGlobal_global (by rw[I.ok.glob];exact I.mod.glob.keeps I.bk) hm h) hd
theorem ld_blt(I:Inv X pins σ H s)(hg:Gl X x)(hm:X.mg x=none)(hv:bootBuiltins x=some u)(h:Q u s)
  (hn:x≠"__name__":=by decide) (hd:(x==("__debug__":Str))=false:=by decide):wpAny (model X.prog X.w) X.A (eval (.Name x pos) X.env) Q E s:=by
 obtain⟨mb,h1,h2⟩:=I.mod.blt;exact Wq I.ok.kind hg (Calls.loadGlobal_builtin (by rw[I.ok.glob];exact I.mod.glob.keeps I.bk) hm (by rw[I.ok.blt];exact h1.keeps I.bk) ((h2 x hn).trans hv) h) hd
theorem pe_glob{v:V}(hg:Gl X x)(hm:X.mg x=some u)(r:lA v u)(hd:(x==("__debug__":Str))=false:=by decide):PE X (.Name x pos) (tC v) :=
 fun _ _ _ H _ I h=>ld_glob I hg hm ⟨v,H,I,r,h⟩ hd
theorem pe_bltn{v:V}(hg:Gl X x)(hm:X.mg x=none)(hv:bootBuiltins x=some u)(r:lA v u)(hn:x≠"__name__":=by decide)(hd:(x==("__debug__":Str))=false:=by decide):PE X (.Name x pos) (tC v) :=
 fun _ _ _ H _ I h=>ld_blt I hg hm hv ⟨v,H,I,r,h⟩ hn hd
end
variable{a b:Expr}{ta tb:TE}{pos:Pos}
variable{tA tB':TT}{rest:List Expr}
def tAnd(t u:TT):TT:=fun σ H Q=>t σ H fun c H1=>if c=true then u σ H1 Q else Q false H1
def tOr(t u:TT):TT:=fun σ H Q=>t σ H fun c H1=>if c=true then Q true H1 else u σ H1 Q
def tNot(t:TT):TT:=fun σ H Q=>t σ H fun c H1=>Q (!c) H1
theorem pw_and1(ha:PT X a tA):PW X (.BoolOp .And [a] pos) tA:=by
 intro wh pins s σ H Q I h;refine isTrue_and (thn (ha pins s σ H Q I h) fun c s1 e=>?_);cases c with
 |true=>exact isTrue_and_nil e
 |false=>exact e
theorem pw_or1(ha:PT X a tA):PW X (.BoolOp .Or [a] pos) tA:=by
 intro wh pins s σ H Q I h;refine isTrue_or (thn (ha pins s σ H Q I h) fun c s1 e=>?_);cases c with
 |false=>exact isTrue_or_nil e
 |true=>exact e
theorem pw_and(ha:PT X a tA)(hb:PW X (.BoolOp .And (b::rest) pos) tB'):PW X (.BoolOp .And (a::b::rest) pos) (tAnd tA tB'):=by
 intro wh pins s σ H Q I h;refine isTrue_and (thn (ha pins s σ H _ I h) fun c s1 ⟨H1,I1,q1⟩=>?_);cases c with
 |true=>exact hb wh pins s1 σ H1 Q I1 q1
 |false=>exact⟨H1,I1,q1⟩
theorem pw_or(ha:PT X a tA)(hb:PW X (.BoolOp .Or (b::rest) pos) tB'):PW X (.BoolOp .Or (a::b::rest) pos) (tOr tA tB'):=by
 intro wh pins s σ H Q I h;refine isTrue_or (thn (ha pins s σ H _ I h) fun c s1 ⟨H1,I1,q1⟩=>?_);cases c with
 |true=>exact⟨H1,I1,q1⟩
 |false=>exact hb wh pins s1 σ H1 Q I1 q1
theorem pt_not(ha:PT X a tA):PT X (.UnaryOp .Not a pos) (tNot tA):=by intro pins s σ H Q I h;exact isTrue_not (ha pins s σ H (fun c H1=>Q (!c) H1) I h)
def tAndV(ta tb:TE):TE:=fun σ H Q=>ta σ H fun x H1=>∃c,x=.bl c/\if c=true then tb σ H1 Q else Q (.bl false) H1
def tOrV(ta tb:TE):TE:=fun σ H Q=>ta σ H fun x H1=>∃c,x=.bl c/\if c=true then Q (.bl true) H1 else tb σ H1 Q
theorem pe_one{op}{t:TE}(h:PE X a t):PE X (.BoolOp op [a] pos) t:=fun pins s σ H Q I hw=>BoolOp_one (h pins s σ H Q I hw)
theorem pe_and(ha:PE X a ta)(hb:PE X (.BoolOp .And (b::rest) pos) tb):PE X (.BoolOp .And (a::b::rest) pos) (tAndV ta tb):=by
 intro pins s σ H Q I h;refine BoolOp_and (thn (ha pins s σ H _ I h) fun v s1 ⟨x,H1,I1,r1,q1⟩=>?_);obtain⟨c,rfl,q1⟩:=q1;cases r1;refine qy ?_;cases c with
 |true=>exact hb pins s1 σ H1 Q I1 q1
 |false=>exact⟨.bl false,H1,I1,rfl,q1⟩
theorem pe_or(ha:PE X a ta)(hb:PE X (.BoolOp .Or (b::rest) pos) tb):PE X (.BoolOp .Or (a::b::rest) pos) (tOrV ta tb):=by
 intro pins s σ H Q I h;refine BoolOp_or (thn (ha pins s σ H _ I h) fun v s1 ⟨x,H1,I1,r1,q1⟩=>?_);obtain⟨c,rfl,q1⟩:=q1;cases r1;refine qy ?_;cases c with
 |false=>exact hb pins s1 σ H1 Q I1 q1
 |true=>exact⟨.bl true,H1,I1,rfl,q1⟩
end
def SqL(K:QA)(H:Hp)(a:Addr)(xs:List V):Prop :=
 Rd H a (.lst xs) ∨
  ∃(o:Obj) (its:Array Value) (n:Nat),K.lookup a=some o/\o.cls=.type "list"/\o.dict=none/\o.data=.seq its n/\its.size<=sizeLine/\bA xs its.toList
def SqT(K:QA)(H:Hp)(a:Addr)(xs:List V):Prop :=
 Rd H a (.tup xs) ∨
  ∃(o:Obj) (its:Array Value) (n:Nat),K.lookup a=some o/\o.cls=.type "tuple"/\o.data=.seq its n/\its.size<=sizeLine/\bA xs its.toList
def absV:Value->Option V
 | .none=>some .non
 | .bool b=>some (.bl b)
 | .int i _=>some (.int i)
 | .str x _=>some (.str x)
 | .bytes b _=>some (.byt b)
 | .float b _=>some (.flt b)
 | .ref a=>some (.ref a)
 | .type n=>some (.ty n)
 |_=>none
theorem lA.abs{x:V}{u:Value}(r:lA x u):absV u=some x:=by
 cases x with
 |non=>cases r;rfl
 |bl _=>cases r;rfl
 |int _=>obtain⟨t,rfl⟩:=r;rfl
 |str _=>obtain⟨t,rfl⟩:=r;rfl
 |byt _=>obtain⟨t,rfl⟩:=r;rfl
 |flt _=>obtain⟨t,rfl⟩:=r;rfl
 |ref _=>cases r;rfl
 |ty _=>cases r;rfl
theorem lA.inj{x y:V}{u:Value}(r:lA x u)(q:lA y u):x=y:=Q7 (r.abs.symm.trans q.abs)
theorem bA.inj:∀{xs ys:List V}{us:List Value},bA xs us->bA ys us->xs=ys
 |_,_,_,.nil,.nil=>rfl
 |_,_,_,.cons r t,.cons r' t'=>by rw[r.inj r',bA.inj t t']
section
variable{X:Cx}{pins:LAO}{σ:St}{H:Hp}{s:Shared}{a:Addr}{xs ys:List V}
theorem SqL.of{K:QA}(h:H a=some (.lst xs)):SqL K H a xs:=.inl (.inl h)
theorem SqT.of{K:QA}(h:H a=some (.tup xs)):SqT K H a xs:=.inl (.inl h)
theorem Inv.list(I:Inv X pins σ H s)(h:SqL X.K H a xs):∃its:List Value,bA xs its/\PlainL s.heap a its.toArray/\xs.length<=sizeLine:=by
 rcases h with h|⟨o,its,n,hk,hc,hd,hs,hz,r⟩
 obtain⟨z,its,n,r,e⟩:=h.ok I.hok;exact⟨its,r,⟨_,n,e,rfl,rfl,rfl⟩,z⟩;refine⟨its.toList,r,⟨o,n,I.kIn a o hk,hc,hd,by simpa using hs⟩,?_⟩;have e:=r.length;simp only[Qa]at e;omega
theorem Inv.tuple(I:Inv X pins σ H s)(h:SqT X.K H a xs):∃its:List Value,bA xs its/\IsTup s.heap a its.toArray/\xs.length<=sizeLine:=by
 rcases h with h|⟨o,its,n,hk,hc,hs,hz,r⟩
 obtain⟨z,its,r,p⟩:=h.ok I.hok;exact⟨its,r,p,z⟩;refine⟨its.toList,r,⟨o,I.kIn a o hk,hc,n,by simpa using hs⟩,?_⟩;have e:=r.length;simp only[Qa]at e;omega
theorem Inv.list_inj(I:Inv X pins σ H s)(h:SqL X.K H a xs)(h':SqL X.K H a ys):xs=ys:=by
 obtain⟨its,r,⟨o,n,e,_,_,d⟩,_⟩:=I.list h;obtain⟨its',r',⟨o',n',e',_,_,d'⟩,_⟩:=I.list h';rw[e]at e';cases e';rw[d]at d';injection d' with d1 _;have:its=its':=by simpa using congrArg QBR d1
 subst this;exact r.inj r'
theorem Inv.tuple_inj(I:Inv X pins σ H s)(h:SqT X.K H a xs)(h':SqT X.K H a ys):xs=ys:=by
 obtain⟨its,r,⟨o,e,_,n,d⟩,_⟩:=I.tuple h;obtain⟨its',r',⟨o',e',_,n',d'⟩,_⟩:=I.tuple h';rw[e]at e';cases e';rw[d]at d';injection d' with d1 _;have:its=its':=by simpa using congrArg QBR d1
 subst this;exact r.inj r'
end
noncomputable abbrev Cx.wish(X:Cx)(E:VSP):Cx:={ X with xe:=E }
noncomputable abbrev Cx.nox(X:Cx):Cx:=X.wish fun _ _=>False
theorem Cx.Ok.wish{X:Cx}(ok:X.Ok)(E:VSP):(X.wish E).Ok :=
 ⟨ok.mod,ok.kind,ok.glob,ok.blt,ok.above,ok.inj,ok.has,ok.cab,ok.hd,ok.frames,ok.stk,ok.exf,ok.bs,ok.bsz,ok.noex,ok.exfs,ok.funs,ok.frf⟩
theorem Cx.Ok.unwish{X:Cx}{E:VSP}(ok:(X.wish E).Ok):X.Ok :=
 ⟨ok.mod,ok.kind,ok.glob,ok.blt,ok.above,ok.inj,ok.has,ok.cab,ok.hd,ok.frames,ok.stk,ok.exf,ok.bs,ok.bsz,ok.noex,ok.exfs,ok.funs,ok.frf⟩
section
variable{X:Cx}{pins:LAO}{σ:St}{H:Hp}{s:Shared}{E:VSP}
theorem Inv.wish(I:Inv X pins σ H s)(E:VSP):Inv (X.wish E) pins σ H s:=⟨I.ok.wish E,I.os,I.bare,I.base,I.loc,I.cell,I.free,I.freeC,I.pin,I.hok,I.len⟩
theorem Inv.unwish(I:Inv (X.wish E) pins σ H s):Inv X pins σ H s:=⟨I.ok.unwish,I.os,I.bare,I.base,I.loc,I.cell,I.free,I.freeC,I.pin,I.hok,I.len⟩
theorem SP.unwish{D:Ends}{f:Flow}{s':Shared}(h:SP (X.wish E) pins D f s'):SP X pins D f s':=by
 cases f with
 |next=>obtain⟨σ',H',I,q⟩:=h;exact⟨σ',H',I.unwish,q⟩
 |brk=>obtain⟨σ',H',I,q⟩:=h;exact⟨σ',H',I.unwish,q⟩
 |cont=>obtain⟨σ',H',I,q⟩:=h;exact⟨σ',H',I.unwish,q⟩
 |ret u=>obtain⟨v,σ',H',I,r,q⟩:=h;exact⟨v,σ',H',I.unwish,r,q⟩
theorem PSs.nox{st:List Stmt}{t:TS}(h:PSs X.nox st t):PSs X st t:=fun pins s σ H D I hw =>
 wI (h pins s σ H D (I.wish _) hw) (fun _ _ q=>q.unwish) fun _ _ z=>QW z
end
section
variable{X:Cx}{st:Stmt}{rest:List Stmt}{t u:TS}{e:Expr}{te:TE}{pos:Pos}
def tNext:TS:=fun D σ H=>D.nx σ H
def tSeq(t u:TS):TS:=fun D σ H=>t { D with nx:=u D } σ H
theorem pss_nil:PSs X [] tNext:=fun _ _ σ H _ I h=>Wl ⟨σ,H,I,h⟩
theorem pss_cons(h1:PS X st t)(h2:PSs X rest u):PSs X (st::rest) (tSeq t u):=by
 intro pins s σ H D I h;refine QBX (thn (h1 pins s σ H { D with nx:=u D } I h) fun f s1 q=>?_);cases f with
 |next=>obtain⟨σ',H',I',q⟩:=q;exact h2 pins s1 σ' H' D I' q
 |ret v=>exact q
 |brk=>exact q
 |cont=>exact q
theorem pss_one(h1:PS X st t):PSs X [st] t:=by
 intro pins s σ H D I h;refine QBX (thn (h1 pins s σ H D I h) fun f s1 q=>?_);cases f with
 |next=>exact Wl q
 |ret v=>exact q
 |brk=>exact q
 |cont=>exact q
theorem Inv.quiet{pins:LAO}{σ:St}{H:Hp}{s:Shared}(I:Inv X pins σ H s):interactive X.env=false:=by simp[interactive,I.ok.kind]
def tDrop(te:TE):TS:=fun D σ H=>te σ H fun _ H1=>D.nx σ H1
theorem ps_expr(he:PE X e te)(hs:swapsWith e none pos.line X.env=pure false:=by rfl):PS X (.Expr e pos) (tDrop te):=by intro pins s σ H D I h;exact wpAny_Expr_any (thn (he pins s σ H _ I h) fun v s1 ⟨x,H1,I1,r1,q1⟩=>⟨σ,H1,I1,q1⟩) I.quiet hs
def tRet(te:TE):TS:=fun D σ H=>te σ H D.rt
theorem ps_ret(he:PE X e te):PS X (.Return (some e) pos) (tRet te):=by intro pins s σ H D I h;exact wpAny_Return_some (thn (he pins s σ H _ I h) fun v s1 ⟨x,H1,I1,r1,q1⟩=>⟨x,σ,H1,I1,r1,q1⟩)
def tIfS(c:TT)(t u:TS):TS:=fun D σ H=>c σ H fun b H1=>if b=true then t D σ H1 else u D σ H1
theorem ps_if{c:Expr}{a b:List Stmt}{tc:TT}(hc:PT X c tc)(ha:PSs X a t)(hb:PSs X b u):PS X (.If c a b pos) (tIfS tc t u):=by
 intro pins s σ H D I h;refine wpAny_If (thn (hc pins s σ H _ I h) fun d s1 ⟨H1,I1,q1⟩=>?_);cases d with
 |true=>exact ha pins s1 σ H1 D I1 q1
 |false=>exact hb pins s1 σ H1 D I1 q1
end
noncomputable abbrev TG:=V->St->Hp->(St->Hp->Prop)->Prop
noncomputable abbrev TGs:=List V->St->Hp->(St->Hp->Prop)->Prop
def PG(X:Cx)(target:Expr)(t:TG):Prop :=
 ∀(pins:LAO) (s:Shared) (σ:St) (H:Hp) (v:V) (u:Value) (Q:St->Hp->Prop),Inv X pins σ H s->lA v u->t v σ H Q ->
  wpAny (model X.prog X.w) X.A (assign target X.env u) (fun _ s'=>∃σ' H',Inv X pins σ' H' s'/\Q σ' H') X.xe s
def PGs(X:Cx)(ts:List Expr)(t:TGs):Prop :=
 ∀(pins:LAO) (s:Shared) (σ:St) (H:Hp) (vs:List V) (us:List Value) (Q:St->Hp->Prop),Inv X pins σ H s->bA vs us->t vs σ H Q ->
  wpAny (model X.prog X.w) X.A (assignInOrder ((assignEach ts X.env).map (·.2)) us) (fun _ s'=>∃σ' H',Inv X pins σ' H' s'/\Q σ' H') X.xe s
noncomputable abbrev TSet:=V->V->V->Hp->(Hp->Prop)->Prop
def PSet(X:Cx)(t:TSet):Prop :=
 ∀(pins:LAO) (s:Shared) (σ:St) (H:Hp) (o i v:V) (ov iv u:Value) (Q:Hp->Prop),Inv X pins σ H s->lA o ov->lA i iv->lA v u->t o i v H Q ->
  wpAny (model X.prog X.w) X.A (setItem ov iv u) (fun _ s'=>∃H',Inv X pins σ H' s'/\Q H') X.xe s
section
variable{X:Cx}{pos:Pos}
section
variable{i:Nat}{x:Str}{e:Expr}{te:TE}
def gName(i:Nat):TG:=fun v σ H Q=>Q (σ.set i (some v)) H
theorem pg_name(hN:X.N.Nodup)(hi:X.N[i]?=some x)(hx:Loc X.env.scope x)(hf:X.fn x=true∨X.env.scope.names.lookup x=some .local):PG X (.Name x pos) (gName i):=by intro pins s σ H v u Q I r h;exact QBD (store_ok I hN hi hx r (fun s' I'=>⟨_,H,I',h⟩) hf)
def gTup(K:QA)(n:Nat)(t:TGs):TG:=fun v σ H Q=>∃a xs,v=.ref a/\SqT K H a xs/\xs.length=n/\t xs σ H Q
theorem pg_tup{es:List Expr}{k:Nat}{t:TGs}{n:Nat}(hc:X.calm=true)(h:PGs X es t)
  (hn:(assignEach es X.env).length=n:=by rfl) (hst:(assignEach es X.env).findIdx? (·.1)=none:=by rfl):PG X (.Tuple es k pos) (gTup X.K n t):=by
 intro pins s σ H v u Q I r hw;obtain⟨a,xs,e1,hq,hl,hw⟩:=hw;subst e1;cases r;obtain⟨its,rv,ht,hz⟩:=I.tuple hq;refine assign_Tuple_tuple (I.ok.hd hc) ht (by simp[hn,<- hl,rv.length]) hst fun h' hx=>?_;have I1:Inv X pins σ H { s with heap:=h' }:=I.kept (t':=s.toks) fun b o e=>hx b o (Qg (QU e)) e;exact h pins _ σ H xs _ Q I1 (by simpa using rv) hw
def gSub(to ti:TE)(t:TSet):TG:=fun v σ H Q=>to σ H fun o H1=>ti σ H1 fun i H2=>t o i v H2 fun H3=>Q σ H3
theorem pg_sub{o i:Expr}{to ti:TE}{t:TSet}(ho:PE X o to)(hi:PE X i ti)(hs:PSet X t)
  (ha:∀v,assign (.Subscript o i pos) X.env v=(do
   let ov <- holding [v] (eval o X.env)
   let iv <- holding [v,ov] (eval i X.env)
   standAt pos
   holding [v,ov,iv] (setItem ov iv v)
   release [v,ov,iv] []):=by intro _;rfl):PG X (.Subscript o i pos) (gSub to ti t):=by
 intro pins s σ H v u Q I r h;rw[ha];refine QC (qb (thn (ho pins s σ H _ I h) fun ov s1 ⟨x,H1,I1,r1,q1⟩=>?_));refine QC (qb (thn (hi pins s1 σ H1 _ I1 q1) fun iv s2 ⟨y,H2,I2,r2,q2⟩=>?_));refine QC (QA3 (QC (qb (thn (hs pins s2 σ H2 x y v ov iv u _ I2 r1 r2 r q2) fun _ s3 ⟨H3,I3,q3⟩=>?_))));exact wpAny_release ⟨σ,H3,I3,q3⟩
def tAsg(te:TE)(g:TG):TS:=fun D σ H=>te σ H fun x H1=>g x σ H1 D.nx
theorem ps_asg{tg:Expr}{g:TG}(he:PE X e te)(hg:PG X tg g)(hs:swapsWithSole [tg] e pos.line X.env=pure false:=by rfl)(hw:swappedStores [tg] e X.env=pure none:=by rfl)
  (h1:(assignEach [tg] X.env).map (·.2)=[assign tg X.env]:=by rfl):PS X (.Assign [tg] e pos) (tAsg te g):=by
 intro pins s σ H D I h;refine wpAny_Assign_stores (thn (he pins s σ H _ I h) fun v s1 ⟨x,H1,I1,r1,q1⟩=>?_) hs hw;rw[h1];exact thn (hg pins s1 σ H1 x v _ I1 r1 q1) fun _ s2 q=>q
theorem ps_set{pos':Pos}(hN:X.N.Nodup)(hi:X.N[i]?=some x)(hx:Loc X.env.scope x)(he:PE X e te)(hs:swapsWith e (some (.Name x pos')) pos.line X.env=pure false:=by rfl)(hf:X.fn x=true∨X.env.scope.names.lookup x=some .local) :
  PS X (.Assign [.Name x pos'] e pos) (tAsg te (gName i)):=by
 intro pins s σ H D I h;refine wpAny_Assign_Name (thn (he pins s σ H _ I h) fun v s1 ⟨y,H1,I1,r1,q1⟩=>?_) hs;exact store_ok I1 hN hi hx r1 (fun s2 I2=>⟨_,H1,I2,q1⟩) hf
end
end
section
variable{X:Cx}{pos:Pos}
def tWhile(c:TT)(tb:TS):TS:=fun D σ H=>∃W:Nat->St->Hp->Prop,(∃m,W m σ H)/\∀m σ H,W m σ H ->
 c σ H fun b H1=>if b=true then ∃N:St->Hp->Prop,(∀σ' H',N σ' H'->∃m',m' < m/\W m' σ' H')/\tb { D with nx:=N,ct:=N,bk:=D.nx } σ H1 else D.nx σ H1
theorem ps_while{c:Expr}{body:List Stmt}{tc:TT}{tb:TS}(hp:PassesOwn (model X.prog X.w) X.A X.env X.xe)(hc:PT X c tc)(hb:PSs X body tb):PS X (.While c body [] pos) (tWhile tc tb):=by
 intro pins s σ H D I h;obtain⟨W,⟨m0,w0⟩,turn⟩:=h;refine wpAny_While (codeAny_whileLoop (fun n s'=>∃σ' H',Inv X pins σ' H' s'/\W n σ' H') ?_ m0 ⟨σ,H,I,w0⟩);rintro n s1 ⟨σ1,H1,I1,w1⟩;refine wR hp (thn (hc pins s1 σ1 H1 _ I1 (turn n σ1 H1 w1)) fun b s2 ⟨H2,I2,q2⟩=>?_);cases b with
 |true =>
  obtain⟨N,hN,q2⟩:=q2;rw[if_pos rfl];refine wR hp (thn (hb pins s2 σ1 H2 _ I2 q2) fun f s3 q3=>?_);cases f with
  |next=>obtain⟨σ3,H3,I3,n3⟩:=q3;obtain⟨m',hm,w3⟩:=hN σ3 H3 n3;exact⟨m',hm,σ3,H3,I3,w3⟩
  |cont=>obtain⟨σ3,H3,I3,n3⟩:=q3;obtain⟨m',hm,w3⟩:=hN σ3 H3 n3;exact⟨m',hm,σ3,H3,I3,w3⟩
  |brk=>exact q3
  |ret v=>exact q3
 |false=>rw[if_neg QD];exact Wl ⟨σ1,H2,I2,q2⟩
end
section
variable{s:Shared}{tg:Expr}{P:Program}{w:World}{K:QA}
structure It where
 go:Nat->Hp->Prop
 yld:Nat->Hp->V->Hp->Prop
 stop:Nat->Hp->Prop
def FpOk(X:Cx)(pins:LAO)(H:Hp)(b:Addr):Prop :=
 H b=none/\b≠X.env.locals/\b∉X.fs/\(b∈X.ex∨X.s₀.heap.objs.size<=b)/\(∀x c,X.env.cells.lookup x=some c->c≠b)/\∀p∈X.pn++pins,p.1≠b
theorem Inv.fpOk{X:Cx}{pins:LAO}{σ:St}{H H':Hp}{b:Addr}(I:Inv X pins σ H s)(hb:s.heap.objs.size<=b)(hn:H' b=none):FpOk X pins H' b:=by refine⟨hn,wY (Qj I.lt hb),I.nofs hb,.inr (QX I.sz hb),fun x c e z=>?_,fun p hp z=>?_⟩;obtain⟨v,q⟩:=I.cell x c e;exact absurd (Qj q.lt (by rw[z];exact hb)) (qu _);exact absurd (Qj (QU (I.pin p hp).1) (by rw[z];exact hb)) (qu _)
structure Turn0(P:Program)(w:World)(K:QA)(tg:Expr)(J:It)(fp:List Addr)(it:Addr)(tn:Nat->Heap->Prop):Prop where
 mem:it∈fp
 obj:∀i h,tn i h->∀b∈fp,∃o,h.get? b=some o/\∀v,o.data≠.cell v
 keep:∀i h h',tn i h->(∀b∈fp,∀o,h.get? b=some o->h'.get? b=some o)->tn i h'
 item:∀(X:Cx),X.prog=P->X.w=w->X.K=K->X.calm=true->∀(i:Nat) (pins:LAO) (s:Shared) (σ:St) (H:Hp) (E:VSP),Inv X pins σ H s->(∀b∈fp,FpOk X pins H b)->tn i s.heap->J.go i H ->
  wpAny (model P w) X.A (pyNext (.ref it)) (fun r s1=>∃u,r=some u /\
   wpAny (model P w) X.A (letOwnedTupleGo tg (.ref it) u) (fun _ s2=>∃x H',Inv X pins σ H' s2/\lA x u/\J.yld i H x H'/\tn (i+1) s2.heap/\∀b∈fp,H' b=none) E s1) E s
 done:∀(X:Cx),X.prog=P->X.w=w->X.K=K->X.calm=true->∀(i:Nat) (pins:LAO) (s:Shared) (σ:St) (H:Hp) (E:VSP),Inv X pins σ H s->(∀b∈fp,FpOk X pins H b)->tn i s.heap->J.stop i H ->
  wpAny (model P w) X.A (pyNext (.ref it)) (fun r s1=>r=none/\Inv X pins σ H s1) E s
structure Turn(P:Program)(w:World)(K:QA)(tg:Expr)(J:It)(fp:List Addr)(it:Addr)(tn:Nat->Heap->Prop):Prop extends Turn0 P w K tg J fp it tn where
 self:∀(A:Around) (i:Nat) (s:Shared) (Q:VSP) (E:VSP),tn i s.heap->Q (.ref it) s->wpAny (model P w) A (pyIter (.ref it)) Q E s
noncomputable abbrev TI:=St->Hp->(It->Hp->Prop)->Prop
def PIE(X:Cx)(pins:LAO)(σ:St)(tg:Expr)(R:It->Hp->Prop)(itv:Value)(s2:Shared):Prop :=
 ∃(it:Addr) (fp:List Addr) (tn:Nat->Heap->Prop) (J:It) (H':Hp),itv=.ref it/\Inv X pins σ H' s2/\Turn X.prog X.w X.K tg J fp it tn/\tn 0 s2.heap/\(∀b∈fp,FpOk X pins H' b)/\R J H'
def PI(X:Cx)(tg iter:Expr)(wi:TI):Prop :=
 ∀(pins:LAO) (s:Shared) (σ:St) (H:Hp) (R:It->Hp->Prop),Inv X pins σ H s->wi σ H R ->
  wpAny (model X.prog X.w) X.A (eval iter X.env) (fun v s1=>wpAny (model X.prog X.w) X.A (pyIter v) (PIE X pins σ tg R) X.xe s1) X.xe s
def PIE0(X:Cx)(pins:LAO)(σ:St)(tg:Expr)(R:It->Hp->Prop)(itv:Value)(s2:Shared):Prop :=
 ∃(it:Addr) (fp:List Addr) (tn:Nat->Heap->Prop) (J:It) (H':Hp),itv=.ref it/\Inv X pins σ H' s2/\Turn0 X.prog X.w X.K tg J fp it tn/\tn 0 s2.heap/\(∀b∈fp,FpOk X pins H' b)/\R J H'
def PI0(X:Cx)(tg iter:Expr)(wi:TI):Prop :=
 ∀(pins:LAO) (s:Shared) (σ:St) (H:Hp) (R:It->Hp->Prop),Inv X pins σ H s->wi σ H R ->
  wpAny (model X.prog X.w) X.A (eval iter X.env) (fun v s1=>wpAny (model X.prog X.w) X.A (pyIter v) (PIE0 X pins σ tg R) X.xe s1) X.xe s
theorem PI.to0{X:Cx}{iter:Expr}{wi:TI}(h:PI X tg iter wi):PI0 X tg iter wi:=fun pins s σ H R I q =>
 wI (h pins s σ H R I q) (fun v s1 h1=>wI h1 (fun itv s2 ⟨it,fp,tn,J,H2,e,I2,T,r⟩=>⟨it,fp,tn,J,H2,e,I2,T.toTurn0,r⟩) fun _ _ x=>x) fun _ _ x=>x
theorem go_of{M:Model}{A:Around}{E:VSP}{it:Addr}{u:Value}{o:Obj}{n:String}{vs:Array Value}{Q:Unit->Shared->Prop}(ho:s.heap.get? it=some o)(hc:o.cls=.type n)(hd:o.data=.fields vs)
    (hn:["enumerate","zip","dict_itemiterator","dict_reverseitemiterator","odict_iterator","itertools.zip_longest","itertools.pairwise"].contains n=false) (hQ:Q () s):wpAny M A (letOwnedTupleGo tg (.ref it) u) Q E s:=by
  unfold letOwnedTupleGo;cases tg<;>first
    |exact QI hQ
    | (cases u<;>first
        |exact QI hQ
        | (refine QC (wpAny_load ho ?_)
           rw[hc,hd];show wpAny M A (if(["enumerate","zip","dict_itemiterator","dict_reverseitemiterator","odict_iterator","itertools.zip_longest","itertools.pairwise"].contains n&&vs[0]?==some (rawInt _))=true then _ else _) Q E s;rw[if_neg (by intro h;rw[hn,Bool.false_and]at h;cases h)];exact QI hQ))
def Itl(K:QA)(a:Addr):It :=
 ⟨fun i H=>∃xs x,SqL K H a xs/\xs[i]?=some x,fun i H x H'=>H'=H/\∀xs,SqL K H a xs->xs[i]?=some x,fun i H=>∃xs,SqL K H a xs/\xs.length<=i⟩
def Itt(K:QA)(a:Addr):It :=
 ⟨fun i H=>∃xs x,SqT K H a xs/\xs[i]?=some x,fun i H x H'=>H'=H/\∀xs,SqT K H a xs->xs[i]?=some x,fun i H=>∃xs,SqT K H a xs/\xs.length<=i⟩
def Itr(lo:Int)(n:Nat):It:=⟨fun i _=>i<n,fun i H x H'=>H'=H/\x=.int (lo+i),fun i _=>n<=i⟩
theorem turn_list(a it:Addr):Turn P w K tg (Itl K a) [it] it (fun i h=>h.IsListIter it a i) where
 mem:=by simp
 obj:=fun i h st b hb=>by
  have e:b=it:=by simpa using hb
  subst e;obtain⟨o,e,c,d⟩:=st;exact⟨o,e,fun v z=>by rw[d]at z;cases z⟩
 keep:=fun i h h' st k=>st.at fun o e=>k it (by simp) o e
 item:=by intro X hP hw hK hc i pins s σ H E I hf st hg;subst hP hw hK;obtain⟨xs,x,hq,hx⟩:=hg;obtain⟨its,rv,p,hz⟩:=I.list hq;obtain⟨u,hu,ru⟩:=rv.get hx;obtain⟨f0,f1,f2,f3,f4,f5⟩:=hf it (by simp);refine wpAny_pyNext_list_item st p.isList (x:=u) (by simpa using hu) fun h' st' sb=>?_;have I1:Inv X pins σ H { s with heap:=h' }:=I.turned (t':=s.toks) (fun b o hb e=>(sb.2 b hb).trans e) f0 f1 f3 f4 f5;obtain⟨o,e,c,d⟩:=id st';exact⟨u,rfl,go_of (s:={ s with heap:=h' }) e c d (by decide) ⟨x,H,I1,ru,⟨rfl,fun ys hy=>by rw[I.list_inj hy hq];exact hx⟩,st',fun b hb=>(hf b hb).1⟩⟩
 done:=by intro X hP hw hK hc i pins s σ H E I hf st hg;subst hP hw hK;obtain⟨xs,hq,hx⟩:=hg;obtain⟨its,rv,p,hz⟩:=I.list hq;obtain⟨f0,f1,f2,f3,f4,f5⟩:=hf it (by simp);have hl:=rv.length;exact wpAny_pyNext_list_end (I.ok.hd hc) st p.isList (by simp;omega) fun h' eb=>⟨rfl,I.turned (t':=s.toks) (fun b o hb e=>eb b o hb e) f0 f1 f3 f4 f5⟩
 self:=fun _ _ _ _ _ st h=>wpAny_pyIter_listiter st h
theorem turn_tuple(a it:Addr):Turn P w K tg (Itt K a) [it] it (fun i h=>h.IsTupleIter it a i) where
 mem:=by simp
 obj:=fun i h st b hb=>by
  have e:b=it:=by simpa using hb
  subst e;obtain⟨o,e,c,d⟩:=st;exact⟨o,e,fun v z=>by rw[d]at z;cases z⟩
 keep:=fun i h h' st k=>st.at fun o e=>k it (by simp) o e
 item:=by intro X hP hw hK hc i pins s σ H E I hf st hg;subst hP hw hK;obtain⟨xs,x,hq,hx⟩:=hg;obtain⟨its,rv,p,hz⟩:=I.tuple hq;obtain⟨u,hu,ru⟩:=rv.get hx;obtain⟨f0,f1,f2,f3,f4,f5⟩:=hf it (by simp);refine wpAny_pyNext_tuple_item st (show s.heap.IsTuple a its.toArray from p) (x:=u) (by simpa using hu) fun h' st' sb=>?_;have I1:Inv X pins σ H { s with heap:=h' }:=I.turned (t':=s.toks) (fun b o hb e=>(sb.2 b hb).trans e) f0 f1 f3 f4 f5;obtain⟨o,e,c,d⟩:=id st';exact⟨u,rfl,go_of (s:={ s with heap:=h' }) e c d (by decide) ⟨x,H,I1,ru,⟨rfl,fun ys hy=>by rw[I.tuple_inj hy hq];exact hx⟩,st',fun b hb=>(hf b hb).1⟩⟩
 done:=by intro X hP hw hK hc i pins s σ H E I hf st hg;subst hP hw hK;obtain⟨xs,hq,hx⟩:=hg;obtain⟨its,rv,p,hz⟩:=I.tuple hq;obtain⟨f0,f1,f2,f3,f4,f5⟩:=hf it (by simp);have hl:=rv.length;exact wpAny_pyNext_tuple_end (I.ok.hd hc) st (show s.heap.IsTuple a its.toArray from p) (by simp;omega) fun h' eb=>⟨rfl,I.turned (t':=s.toks) (fun b o hb e=>eb b o hb e) f0 f1 f3 f4 f5⟩
 self:=fun _ _ _ _ _ st h=>wpAny_pyIter_tupleiter st h
theorem turn_range(it:Addr)(lo:Int)(n:Nat):Turn P w K tg (Itr lo n) [it] it (fun i h=>IsRangeIter h it (lo+(i:Nat) * 1) ((n:Int) - (i:Nat)) 1) where
 mem:=by simp
 obj:=fun i h st b hb=>by
  have e:b=it:=by simpa using hb
  subst e;exact⟨_,st,fun v z=>by have z':Data.fields _=Data.cell v:=z;cases z'⟩
 keep:=fun i h h' st k=>k it (by simp) _ st
 item:=by intro X hP hw hK hc i pins s σ H E I hf st hg;subst hP hw hK;obtain⟨f0,f1,f2,f3,f4,f5⟩:=hf it (by simp);have W:=Walks.range (prog:=X.prog) (w:=X.w) (I.ok.hd hc) it lo 1 n;refine W.item i s _ _ hg st fun v h' tk hv st' kk=>?_;obtain⟨t,rfl⟩:=hv;have I1:Inv X pins σ H { s with heap:=h',toks:=tk }:=I.turned (fun b o hb e=>kk b o (by simpa using hb) e) f0 f1 f3 f4 f5;refine⟨_,rfl,go_of (s:={ s with heap:=h',toks:=tk }) (n:="range_iterator") st' rfl rfl (by decide) ⟨.int (lo+i),H,I1,⟨t,?_⟩,⟨rfl,rfl⟩,st',fun b hb=>(hf b hb).1⟩⟩;rw[Int.mul_one]
 done:=by intro X hP hw hK hc i pins s σ H E I hf st hg;subst hP hw hK;obtain⟨f0,f1,f2,f3,f4,f5⟩:=hf it (by simp);exact wpAny_pyNext_range_end (I.ok.hd hc) st (by have:n<=i:=hg;omega) fun h' eb=>⟨rfl,I.turned (t':=s.toks) (fun b o hb e=>eb b o hb e) f0 f1 f3 f4 f5⟩
 self:=fun _ _ _ _ _ st h=>wpAny_pyIter_rangeiter st h
end
section
variable{X:Cx}{tg:Expr}
section
variable{pins:LAO}{σ:St}{H:Hp}{s:Shared}{fp:List Addr}{h:Heap}
theorem range_it{R:It->Hp->Prop}{E:VSP}{lo hi:Int}{t u v:Tok}{tk:Nat}(I:Inv X pins σ H s)(h1:-(2 ^ 62)<=lo)(h2:lo<2 ^ 62)(h3:-(2 ^ 62)<=hi)(h4:hi<2 ^ 62)
  (q:R (Itr lo (hi - lo).toNat) H):wpAny (model X.prog X.w) X.A (pyIter (.ref s.heap.objs.size)) (PIE X pins σ tg R) E { s with heap:=s.heap.push { cls:=.type "range",data:=.fields #[.int lo t,.int hi u,.int 1 v] },toks:=tk }:=by
 refine wpAny_pyIter_range (IsRange.new ..) (small_one h1 h2 h3 h4) ?_;have I1:Inv X pins σ H { s with heap:=s.heap.push { cls:=.type "range",data:=.fields #[.int lo t,.int hi u,.int 1 v] },toks:=tk }:=I.kept fun b o e=>QH _ e;refine⟨(s.heap.push { cls:=.type "range",data:=.fields #[.int lo t,.int hi u,.int 1 v] }).objs.size,[(s.heap.push { cls:=.type "range",data:=.fields #[.int lo t,.int hi u,.int 1 v] }).objs.size],_,_,H,rfl,
  I1.kept (t':=tk) fun b o e=>QH _ e,turn_range _ lo (hi - lo).toNat,?_,fun b hb=>?_,q⟩
 have e1:lo+((0:Nat):Int) * 1=lo:=by simp
 have e2:(((hi - lo).toNat:Nat):Int) - ((0:Nat):Int)=Builtin.Range.rangeSize lo hi 1:=by rw[rangeSize_one];split<;>omega
 show IsRangeIter _ _ (lo+((0:Nat):Int) * 1) ((((hi - lo).toNat:Nat):Int) - ((0:Nat):Int)) 1;rw[e1,e2];exact QS _ rfl;have e:b=(s.heap.push { cls:=.type "range",data:=.fields #[.int lo t,.int hi u,.int 1 v] }).objs.size:=by simpa using hb
 subst e;exact I1.fpOk (QR _) (I1.hok.fresh (QR _))
def tFor(wi:TI)(g:TG)(tb:TS):TS:=fun D σ H=>wi σ H fun J H1=>∃W:Nat->Nat->St->Hp->Prop,(∃m,W 0 m σ H1)/\∀i m σ H,W i m σ H ->
 (J.stop i H/\D.nx σ H)∨(J.go i H/\∃N:St->Hp->Prop,(∀σ' H',N σ' H'->∃m',m' < m/\W (i+1) m' σ' H')/\∀x H',J.yld i H x H'->g x σ H' fun σ2 H2=>tb { D with nx:=N,ct:=N,bk:=D.nx } σ2 H2)
def pinsAt(fp:List Addr)(h:Heap):LAO:=fp.filterMap fun b=>(h.get? b).map fun o=>(b,o)
theorem mem_pinsAt{b:Addr}{o:Obj}(hb:b∈fp)(e:h.get? b=some o):(b,o)∈pinsAt fp h:=QA4.mpr ⟨b,hb,by rw[e];rfl⟩
theorem of_pinsAt{p:Addr×Obj}(hp:p∈pinsAt fp h):p.1∈fp/\h.get? p.1=some p.2:=by
 obtain⟨b,hb,e⟩:=QA4.mp hp;cases q:h.get? b with
 |none=>rw[q]at e;cases e
 |some o=>rw[q]at e;have e':(b,o)=p:=Q7 e;subst e';exact⟨hb,q⟩
theorem Inv.pinned(I:Inv X pins σ H s)(hf:∀b∈fp,FpOk X pins H b)(ho:∀b∈fp,∃o,s.heap.get? b=some o/\∀v,o.data≠.cell v):Inv X (pins++pinsAt fp s.heap) σ H s :=
 I.pins_of fun p hp=>(Qd.mp hp).elim (fun z=>I.pin p (QV _ z)) fun z=>by obtain⟨hb,e⟩:=of_pinsAt z;obtain⟨f0,f1,f2,_⟩:=hf p.1 hb;obtain⟨o,e',d⟩:=ho p.1 hb;rw[e]at e';cases e';exact⟨e,f0,f1,f2,d⟩
theorem Inv.unpinned{pl:LAO}(I:Inv X (pins++pl) σ H s):Inv X pins σ H s:=I.pins_of fun p hp=>I.pin p (QV _ (Qf _ hp))
theorem ps_for{iter:Expr}{body:List Stmt}{wi:TI}{g:TG}{tb:TS}{pos:Pos}(hp:PassesOwn (model X.prog X.w) X.A X.env X.xe)(hc:X.calm=true)(hi:PI0 X tg iter wi)(hg:PG X tg g)(hb:PSs X body tb)
  (hs:∀x,foldedSetIterable iter X.env x=pure x:=by intro _;rfl):PS X (.For tg iter body [] pos) (tFor wi g tb):=by
 intro pins s σ H D I h;refine wpAny_For (thn (hi pins s σ H _ I h) fun v s1 h1=>thn h1 fun itv s2 h2=>?_) hs;obtain⟨it,fp,tn,J,H2,e,I2,T,st2,f2,W,⟨m0,w0⟩,turn⟩:=h2;subst e;have stat:∀{H':Hp},(∀b∈fp,H' b=none)->∀b∈fp,FpOk X pins H' b:=fun hn b hb=>⟨hn b hb,(f2 b hb).2⟩
 refine codeAny_forLoop_any (fun n s'=>∃i σ' H',Inv X pins σ' H' s'/\tn i s'.heap/\(∀b∈fp,H' b=none)/\W i n σ' H') ?_ m0 ⟨0,σ,H2,I2,st2,fun b hb=>(f2 b hb).1,w0⟩;rintro n s3 ⟨i,σ3,H3,I3,st3,fr3,w3⟩;rcases turn i n σ3 H3 w3 with⟨stop,qn⟩| ⟨go,N,hN,step⟩
 refine wR hp (thn (T.done X rfl rfl rfl hc i pins s3 σ3 H3 X.xe I3 (stat fr3) st3 stop) fun r s4 ⟨hr,I4⟩=>?_);subst hr;exact Wl ⟨σ3,H3,I4,qn⟩;refine wR hp (thn (T.item X rfl rfl rfl hc i pins s3 σ3 H3 X.xe I3 (stat fr3) st3 go) fun r s4 ⟨u,hr,h4⟩=>?_);subst hr;refine wR hp (thn h4 fun _ s5 ⟨x,H5,I5,r5,y5,st5,fr5⟩=>?_);have I5':=I5.pinned (stat fr5) (T.obj _ _ st5);refine wR hp (thn (hg _ s5 σ3 H5 x u _ I5' r5 (step x H5 y5)) fun _ s6 ⟨σ6,H6,I6,q6⟩=>?_);refine wR hp (thn (hb _ s6 σ6 H6 _ I6 q6) fun f s7 q7=>?_);have again:∀{σ7:St}{H7:Hp},Inv X (pins++pinsAt fp s5.heap) σ7 H7 s7->N σ7 H7->∃m,m<n/\∃i σ' H',Inv X pins σ' H' s7/\tn i s7.heap/\(∀b∈fp,H' b=none)/\W i m σ' H':=fun {σ7 H7} I7 n7=>by obtain⟨m',hm,w7⟩:=hN σ7 H7 n7;refine⟨m',hm,i+1,σ7,H7,I7.unpinned,T.keep _ _ _ st5 fun b hb o e=>(I7.pin (b,o) (QV _ (QV _ (mem_pinsAt hb e)))).1,fun b hb=>?_,w7⟩;obtain⟨o,e,d⟩:=T.obj _ _ st5 b hb;exact(I7.pin (b,o) (QV _ (QV _ (mem_pinsAt hb e)))).2.1
 cases f with
 |next=>obtain⟨σ7,H7,I7,n7⟩:=q7;exact again I7 n7
 |cont=>obtain⟨σ7,H7,I7,n7⟩:=q7;exact again I7 n7
 |brk=>obtain⟨σ7,H7,I7,q7⟩:=q7;exact⟨σ7,H7,I7.unpinned,q7⟩
 |ret v=>obtain⟨x7,σ7,H7,I7,r7,q7⟩:=q7;exact⟨x7,σ7,H7,I7.unpinned,r7,q7⟩
end
end
noncomputable abbrev R2:=V->V->Hp->VK->Prop
def OpR(X:Cx)(f:Value->Value->Sem Value)(r:R2):Prop :=
 ∀(pins:LAO) (s:Shared) (σ:St) (H:Hp) (x y:V) (v u:Value) (Q:VK),Inv X pins σ H s->lA x v->lA y u->r x y H Q ->
  wpAny (model X.prog X.w) X.A (f v u) (EP X pins σ Q) X.xe s
def UnR(X:Cx)(f:Value->Sem Value)(r:V->Hp->VK->Prop):Prop :=
 ∀(pins:LAO) (s:Shared) (σ:St) (H:Hp) (x:V) (v:Value) (Q:VK),Inv X pins σ H s->lA x v->r x H Q ->
  wpAny (model X.prog X.w) X.A (f v) (EP X pins σ Q) X.xe s
def CallR(X:Cx)(f:Value)(r:List V->Hp->VK->Prop):Prop :=
 ∀(pins:LAO) (s:Shared) (σ:St) (H:Hp) (xs:List V) (us:List Value) (Q:VK),Inv X pins σ H s->bA xs us->r xs H Q ->
  wpAny (model X.prog X.w) X.A (call f us) (EP X pins σ Q) X.xe s
def TruR(X:Cx)(r:V->Hp->(Bool->Hp->Prop)->Prop):Prop :=
 ∀(pins:LAO) (s:Shared) (σ:St) (H:Hp) (x:V) (v:Value) (Q:Bool->Hp->Prop),Inv X pins σ H s->lA x v->r x H Q ->
  wpAny (model X.prog X.w) X.A (truthy v) (TP X pins σ Q) X.xe s
def tOp(r:R2)(ta tb:TE):TE:=fun σ H Q=>ta σ H fun x H1=>tb σ H1 fun y H2=>r x y H2 Q
def tUn(r:V->Hp->VK->Prop)(ta:TE):TE:=fun σ H Q=>ta σ H fun x H1=>r x H1 Q
def rI(C:Int->Int->Prop)(g:Int->Int->V):R2:=fun x y H Q=>∃i j,x=.int i/\y=.int j/\C i j/\Q (g i j) H
def rI0(g:Int->Int->V):R2:=fun x y H Q=>∃i j,x=.int i/\y=.int j/\Q (g i j) H
def rU(g:Int->V):V->Hp->VK->Prop:=fun x H Q=>∃i,x=.int i/\Q (g i) H
section
variable{X:Cx}{a b c:Expr}{ta tb tc:TE}{pos:Pos}
section
variable{f:Value->Value->Sem Value}{g:Int->Int->Int}
theorem binT(ha:PE X a ta)(hb:PE X b tb){pins:LAO}{s:Shared}{σ:St}{H:Hp}{R:V->V->Hp->Prop}(I:Inv X pins σ H s)
  (h:ta σ H fun x H1=>tb σ H1 fun y H2=>R x y H2) {Q:VSP}
  (hf:∀v u s2 x y H2,Inv X pins σ H2 s2->lA x v->lA y u->R x y H2->wpAny (model X.prog X.w) X.A (f v u) Q X.xe s2) :
  wpAny (model X.prog X.w) X.A (eval a X.env) (fun v s₁=>wpAny (model X.prog X.w) X.A (eval b X.env) (fun u s₂=>wpAny (model X.prog X.w) X.A (f v u) Q X.xe s₂) X.xe s₁) X.xe s:=by
 refine thn (ha pins s σ H _ I h) fun v s1 ⟨x,H1,I1,r1,q1⟩=>?_;refine thn (hb pins s1 σ H1 _ I1 q1) fun u s2 ⟨y,H2,I2,r2,q2⟩=>?_;exact hf v u s2 x y H2 I2 r1 r2 q2
theorem pe_op{op:Operator}{r:R2}(ho:OpR X (binaryOp op) r)(ha:PE X a ta)(hb:PE X b tb):PE X (.BinOp a op b pos) (tOp r ta tb):=by intro pins s σ H Q I h;exact wpAny_BinOp (binT ha hb I h fun v u s2 x y H2 I2 rx ry q=>ho pins s2 σ H2 x y v u Q I2 rx ry q)
theorem pe_un{op:UnaryOp}{r:V->Hp->VK->Prop}(ho:UnR X (unaryOp op) r)(ha:PE X a ta):PE X (.UnaryOp op a pos) (tUn r ta):=by intro pins s σ H Q I h;exact UnaryOp_ (thn (ha pins s σ H _ I h) fun v s1 ⟨x,H1,I1,r1,q1⟩=>ho pins s1 σ H1 x v Q I1 r1 q1)
theorem opI{C:Int->Int->Prop}
  (rule:∀(i j:Int) (t u:Tok) (s:Shared) (Q:VSP) (E:VSP),C i j->Q (.int (g i j) s.toks) { s with toks:=s.toks+1 }->wpAny (model X.prog X.w) X.A (f (.int i t) (.int j u)) Q E s) :
  OpR X f (rI C fun i j=>.int (g i j)):=by
 intro pins s σ H x y v u Q I rx ry h;obtain⟨i,j,rfl,rfl,hc,q⟩:=h;obtain⟨t,rfl⟩:=rx;obtain⟨t',rfl⟩:=ry;exact rule i j t t' s _ _ hc ⟨.int (g i j),H,I.tok _,⟨_,rfl⟩,q⟩
theorem opI0
  (rule:∀(i j:Int) (t u:Tok) (s:Shared) (Q:VSP) (E:VSP),Q (.int (g i j) s.toks) { s with toks:=s.toks+1 }->wpAny (model X.prog X.w) X.A (f (.int i t) (.int j u)) Q E s) :
  OpR X f (rI0 fun i j=>.int (g i j)):=by
 intro pins s σ H x y v u Q I rx ry h;obtain⟨i,j,rfl,rfl,q⟩:=h;obtain⟨t,rfl⟩:=rx;obtain⟨t',rfl⟩:=ry;exact rule i j t t' s _ _ ⟨.int (g i j),H,I.tok _,⟨_,rfl⟩,q⟩
theorem opB0{g:Int->Int->Bool}
  (rule:∀(i j:Int) (t u:Tok) (s:Shared) (Q:VSP) (E:VSP),Q (.bool (g i j)) s->wpAny (model X.prog X.w) X.A (f (.int i t) (.int j u)) Q E s) :
  OpR X f (rI0 fun i j=>.bl (g i j)):=by
 intro pins s σ H x y v u Q I rx ry h;obtain⟨i,j,rfl,rfl,q⟩:=h;obtain⟨t,rfl⟩:=rx;obtain⟨t',rfl⟩:=ry;exact rule i j t t' s _ _ ⟨.bl (g i j),H,I,rfl,q⟩
def CMul(i j:Int):Prop:=(-(2 ^ 64)<i/\i<2 ^ 64)∨(-(2 ^ 64)<j/\j<2 ^ 64)
theorem CMul.ok{i j:Int}(h:CMul i j):IntMulOk i j:=by
 rcases h with⟨h1,h2⟩| ⟨h1,h2⟩
 exact .of_left (intBits_le_64 h1 h2);exact .of_right (intBits_le_64 h1 h2)
theorem op_add:OpR X (binaryOp .Add) (rI0 fun i j=>.int (i+j)):=opI0 fun _ _ _ _ _ _ _ q=>add_int q
theorem op_sub:OpR X (binaryOp .Sub) (rI0 fun i j=>.int (i - j)):=opI0 fun _ _ _ _ _ _ _ q=>sub_int q
theorem op_mod:OpR X (binaryOp .Mod) (rI (fun _ j=>0<j) fun i j=>.int (i % j)):=opI fun i j _ _ _ _ _ hc q=>by have h1:(0:Int)<j:=hc;exact mod_int' (by omega) (by rw[Int.fmod_eq_emod_of_nonneg i (by omega)];exact q)
theorem unI{f:Value->Sem Value}{g:Int->Int}
  (rule:∀(i:Int) (t:Tok) (s:Shared) (Q:VSP) (E:VSP),Q (.int (g i) s.toks) { s with toks:=s.toks+1 }->wpAny (model X.prog X.w) X.A (f (.int i t)) Q E s) :
  UnR X f (rU fun i=>.int (g i)):=by
 intro pins s σ H x v Q I rx h;obtain⟨i,rfl,q⟩:=h;obtain⟨t,rfl⟩:=rx;exact rule i t s _ _ ⟨.int (g i),H,I.tok _,⟨_,rfl⟩,q⟩
theorem un_neg:UnR X (unaryOp .USub) (rU fun i=>.int (-i)):=unI fun _ _ _ _ _ q=>neg_int q
end
end
def scal:V->V->Bool
 | .non,.non=>true | .non,.int _=>true | .int _,.non=>true | .non,.bl _=>true | .bl _,.non=>true | .non,.str _=>true | .str _,.non=>true
 | .int _,.int _=>true | .bl _,.bl _=>true | .str _,.str _=>true | .byt _,.byt _=>true
 | .int _,.str _=>true | .str _,.int _=>true | .bl _,.str _=>true | .str _,.bl _=>true
 |_,_=>false
def rEq:R2:=fun x y H Q=>scal x y=true/\Q (.bl (decide (x=y))) H
def rNe:R2:=fun x y H Q=>scal x y=true/\Q (.bl (!decide (x=y))) H
theorem dec_int{i j:Int}:decide (V.int i=V.int j)=(i==j):=by rw[qO];simp
theorem dec_bl{i j:Bool}:decide (V.bl i=V.bl j)=(i==j):=by rw[qO];simp
theorem dec_str{i j:Str}:decide (V.str i=V.str j)=(i==j):=by rw[qO];simp
theorem dec_byt{i j:Array UInt8}:decide (V.byt i=V.byt j)=(i.toList==j.toList):=by rw[qO];cases i;cases j;simp
section
variable{X:Cx}{a b c:Expr}{ta tb tc:TE}{pos:Pos}
section
variable{op:CmpOp}{us:List Value}
theorem oA{pins:LAO}{σ:St}{H:Hp}{s:Shared}{Q:VK}{k k':Bool}(I:Inv X pins σ H s)(q:Q (.bl k) H)(e:k=k'):EP X pins σ Q (.bool k') s:=by subst e;exact⟨.bl k,H,I,rfl,q⟩
theorem op_eq:OpR X (compareOp .Eq) rEq:=by
 intro pins s σ H x y v u Q I rx ry h;obtain⟨hs,q⟩:=h;cases x with
 |non =>
  cases rx;cases y with
  |non=>cases ry;exact PySem.EqNone.eq_none_none (oA I q (by simp))
  |bl j=>cases ry;exact PySem.EqNone.eq_none_bool (oA I q (by simp))
  |int j=>obtain⟨t',rfl⟩:=ry;exact PySem.EqNone.eq_none_int (oA I q (by simp))
  |str j=>obtain⟨t',rfl⟩:=ry;exact PySem.EqNone.eq_none_str (oA I q (by simp))
  |_=>exact absurd (show false=true from hs) QD
 |bl i =>
  cases rx;cases y with
  |non=>cases ry;exact PySem.EqNone.eq_bool_none (oA I q (by simp))
  |bl j=>cases ry;exact eq_bool (oA I q dec_bl)
  |str j=>obtain⟨t',rfl⟩:=ry;exact PySem.EqMixed.eq_bool_str (oA I q (by simp))
  |_=>exact absurd (show false=true from hs) QD
 |int i =>
  obtain⟨t,rfl⟩:=rx;cases y with
  |non=>cases ry;exact PySem.EqNone.eq_int_none (oA I q (by simp))
  |int j=>obtain⟨t',rfl⟩:=ry;exact eq_int (oA I q dec_int)
  |str j=>obtain⟨t',rfl⟩:=ry;exact PySem.EqMixed.eq_int_str (oA I q (by simp))
  |_=>exact absurd (show false=true from hs) QD
 |str i =>
  obtain⟨t,rfl⟩:=rx;cases y with
  |non=>cases ry;exact PySem.EqNone.eq_str_none (oA I q (by simp))
  |bl j=>cases ry;exact PySem.EqMixed.eq_str_bool (oA I q (by simp))
  |int j=>obtain⟨t',rfl⟩:=ry;exact PySem.EqMixed.eq_str_int (oA I q (by simp))
  |str j=>obtain⟨t',rfl⟩:=ry;exact eq_str (oA I q dec_str)
  |_=>exact absurd (show false=true from hs) QD
 |byt i =>
  obtain⟨t,rfl⟩:=rx;cases y with
  |byt j=>obtain⟨t',rfl⟩:=ry;exact PySem.W.eq_bytes (oA I q dec_byt)
  |_=>exact absurd (show false=true from hs) QD
 |_=>cases y<;>exact absurd (show false=true from hs) QD
theorem op_ne:OpR X (compareOp .NotEq) rNe:=by
 intro pins s σ H x y v u Q I rx ry h;obtain⟨hs,q⟩:=h;cases x with
 |non =>
  cases rx;cases y with
  |non=>cases ry;exact PySem.EqNone.ne_none_none (oA I q (by simp))
  |bl j=>cases ry;exact PySem.EqNone.ne_none_bool (oA I q (by simp))
  |int j=>obtain⟨t',rfl⟩:=ry;exact PySem.EqNone.ne_none_int (oA I q (by simp))
  |str j=>obtain⟨t',rfl⟩:=ry;exact PySem.EqNone.ne_none_str (oA I q (by simp))
  |_=>exact absurd (show false=true from hs) QD
 |bl i =>
  cases rx;cases y with
  |non=>cases ry;exact PySem.EqNone.ne_bool_none (oA I q (by simp))
  |bl j=>cases ry;exact ne_bool (oA I q (congrArg not dec_bl))
  |str j=>obtain⟨t',rfl⟩:=ry;exact PySem.EqMixed.ne_bool_str (oA I q (by simp))
  |_=>exact absurd (show false=true from hs) QD
 |int i =>
  obtain⟨t,rfl⟩:=rx;cases y with
  |non=>cases ry;exact PySem.EqNone.ne_int_none (oA I q (by simp))
  |int j=>obtain⟨t',rfl⟩:=ry;exact ne_int (oA I q (congrArg not dec_int))
  |str j=>obtain⟨t',rfl⟩:=ry;exact PySem.EqMixed.ne_int_str (oA I q (by simp))
  |_=>exact absurd (show false=true from hs) QD
 |str i =>
  obtain⟨t,rfl⟩:=rx;cases y with
  |non=>cases ry;exact PySem.EqNone.ne_str_none (oA I q (by simp))
  |bl j=>cases ry;exact PySem.EqMixed.ne_str_bool (oA I q (by simp))
  |int j=>obtain⟨t',rfl⟩:=ry;exact PySem.EqMixed.ne_str_int (oA I q (by simp))
  |str j=>obtain⟨t',rfl⟩:=ry;exact ne_str (oA I q (congrArg not dec_str))
  |_=>exact absurd (show false=true from hs) QD
 |byt i =>
  obtain⟨t,rfl⟩:=rx;cases y with
  |byt j=>obtain⟨t',rfl⟩:=ry;exact PySem.W.ne_bytes (oA I q (congrArg not dec_byt))
  |_=>exact absurd (show false=true from hs) QD
 |_=>cases y<;>exact absurd (show false=true from hs) QD
theorem op_lt:OpR X (compareOp .Lt) (rI0 fun i j=>.bl (decide (i<j))):=opB0 fun _ _ _ _ _ _ _ q=>lt_int q
theorem op_le:OpR X (compareOp .LtE) (rI0 fun i j=>.bl (decide (i<=j))):=opB0 fun _ _ _ _ _ _ _ q=>le_int q
theorem op_gt:OpR X (compareOp .Gt) (rI0 fun i j=>.bl (decide (j<i))):=opB0 fun _ _ _ _ _ _ _ q=>gt_int q
theorem op_ge:OpR X (compareOp .GtE) (rI0 fun i j=>.bl (decide (j<=i))):=opB0 fun _ _ _ _ _ _ _ q=>ge_int q
theorem op_in_str:OpR X (compareOp .In) (fun x y H Q=>∃i j,x=.str i/\y=.str j/\Q (.bl (!(wa j i 0 j.length 1).isEmpty)) H):=by intro pins s σ H x y v u Q I rx ry h;obtain⟨i,j,rfl,rfl,q⟩:=h;obtain⟨t,rfl⟩:=rx;obtain⟨t',rfl⟩:=ry;exact in_str (oA I q rfl)
theorem op_notin_str:OpR X (compareOp .NotIn) (fun x y H Q=>∃i j,x=.str i/\y=.str j/\Q (.bl (!(!(wa j i 0 j.length 1).isEmpty))) H):=by intro pins s σ H x y v u Q I rx ry h;obtain⟨i,j,rfl,rfl,q⟩:=h;obtain⟨t,rfl⟩:=rx;obtain⟨t',rfl⟩:=ry;exact notIn_str (oA I q rfl)
theorem pe_cmpR{r:R2}(ho:OpR X (compareOp op) r)(ha:PE X a ta)(hb:PE X b tb)(hm:behindInMarks op b=false):PE X (.Compare a [op] [b] pos) (tOp r ta tb):=by intro pins s σ H Q I h;exact wpAny_Compare1 (binT ha hb I h fun v u s2 x y H2 I2 rx ry q=>ho pins s2 σ H2 x y v u Q I2 rx ry q) hm
def tTest(t:TE):TT:=fun σ H Q=>t σ H fun x H'=>∃k,x=.bl k/\Q k H'
theorem pt_cmpR{r:R2}(ho:OpR X (compareOp op) r)(ha:PE X a ta)(hb:PE X b tb)(hm:behindInMarks op b=false):PT X (.Compare a [op] [b] pos) (tTest (tOp r ta tb)):=by
 intro pins s σ H Q I h;refine wpAny_isTrue_Compare1 (thn (ha pins s σ H _ I h) fun v s1 ⟨x,H1,I1,r1,q1⟩=>thn (hb pins s1 σ H1 _ I1 q1) fun u s2 ⟨y,H2,I2,r2,q2⟩ =>
  thn (ho pins s2 σ H2 x y v u _ I2 r1 r2 q2) fun c s3 ⟨z,H3,I3,r3,k,e,q3⟩=>?_) hm
 subst e;cases r3;exact qy ⟨H3,I3,q3⟩
def TruV(K:QA)(x:V)(H:Hp)(k:Bool):Prop :=
 match x with
 | .non=>k=false
 | .bl b=>k=b
 | .int i=>k=(i != 0)
 | .str y=>y.length<=sizeLine/\k=((y.length:Int) != 0)
 | .byt y=>y.size<=sizeLine/\k=((y.size:Int) != 0)
 | .ref p=>(∃xs,SqL K H p xs/\k=!xs.isEmpty)∨(∃xs,SqT K H p xs/\k=!xs.isEmpty)∨∃kvs,H p=some (.dK kvs)/\k=!kvs.isEmpty
 |_=>False
theorem isEmpty_kv{κ:Type}{kvs:List (κ×V)}{vs:List (κ×Value)}(r:KV kvs vs):(!vs.isEmpty)=!kvs.isEmpty:=by cases r<;>rfl
theorem isEmpty_of{xs:List V}{its:List Value}(r:bA xs its):(!its.toArray.isEmpty)=!xs.isEmpty:=by cases r<;>simp
theorem line63:(sizeLine:Nat)<2 ^ 63:=by rw[QZ];decide
theorem tru_ok:TruR X (fun x H Q=>∃k,TruV X.K x H k/\Q k H):=by
 intro pins s σ H x v Q I rx h;obtain⟨k,e,q⟩:=h;have hl:=line63;have hs:sizeLine=16777216:=QZ;cases x with
 |non=>cases rx;have e':k=false:=e;subst e';exact truthy_none ⟨H,I,q⟩
 |bl b=>cases rx;have e':k=b:=e;subst e';exact qy ⟨H,I,q⟩
 |int i=>obtain⟨t,rfl⟩:=rx;have e':k=(i != 0):=e;subst e';exact PySem.P.truthy_int ⟨H,I,q⟩
 |str y=>obtain⟨t,rfl⟩:=rx;obtain⟨hy,e'⟩:y.length<=sizeLine/\k=((y.length:Int) != 0):=e;subst e';exact PySem.P.truthy_str (by omega) ⟨H,I.tok _,q⟩
 |byt y=>obtain⟨t,rfl⟩:=rx;obtain⟨hy,e'⟩:y.size<=sizeLine/\k=((y.size:Int) != 0):=e;subst e';exact PySem.W.truthy_bytes (by omega) ⟨H,I.tok _,q⟩
 |ref p =>
  cases rx;have e':(∃xs,SqL X.K H p xs/\k=!xs.isEmpty)∨(∃xs,SqT X.K H p xs/\k=!xs.isEmpty)∨∃kvs,H p=some (.dK kvs)/\k=!kvs.isEmpty:=e;rcases e' with⟨xs,hx,e'⟩| ⟨xs,hx,e'⟩| ⟨kvs,hx,e'⟩
  subst e';obtain⟨its,r,pl,hz⟩:=I.list hx;have hlen:=r.length;exact wpAny_truthy_list pl.isList (by simp only[QO];omega) ⟨H,I.tok _,by rw[isEmpty_of r];exact q⟩;subst e';obtain⟨its,r,pl,hz⟩:=I.tuple hx;have hlen:=r.length;exact truthy_tuple pl (by simp only[QO];omega) ⟨H,I.tok _,by rw[isEmpty_of r];exact q⟩;subst e';obtain⟨hz,hS,vs,r,m⟩:kvs.length<=sizeLine/\(p==sysModules)=false/\∃vs,KV kvs vs/\s.heap.DictOf (mixKind X.prog X.w) p vs:=I.hok p _ hx;have hlen:kvs.length=vs.length:=qJ r;exact wpAny_truthy_dict hS m (by omega) ⟨H,I.tok _,by rw[isEmpty_kv r];exact q⟩
 |_=>exact(show False from e).elim
theorem op_add_str:OpR X (binaryOp .Add) (fun x y H Q=>∃i j,x=.str i/\y=.str j/\i.length+j.length<=sizeLine/\Q (.str (i++j)) H):=by intro pins s σ H x y v u Q I rx ry h;obtain⟨i,j,rfl,rfl,hz,q⟩:=h;obtain⟨t,rfl⟩:=rx;obtain⟨t',rfl⟩:=ry;exact add_str (fun t' tk=>⟨.str (i++j),H,I.tok _,⟨_,rfl⟩,q⟩) hz
theorem vals1{x:V}(r:bA [x] us):∃u,us=[u]/\lA x u:=by
 cases r with
 |cons r1 r2=>cases r2;exact⟨_,rfl,r1⟩
theorem vals2{x y:V}(r:bA [x,y] us):∃u w',us=[u,w']/\lA x u/\lA y w':=by
 cases r with
 |cons r1 r2 =>
  cases r2 with
  |cons r3 r4=>cases r4;exact⟨_,_,rfl,r1,r3⟩
end
end
section
variable{h:Heap}{dx:Addr}{mA:Str->Option Value}
structure ObjM(h:Heap)(x dx C:Addr)(mA:Str->Option Value):Prop where
 obj:h.get? x=some (QAY C dx)
 ns:h.Ns1 dx mA
 ne:dx≠x
theorem lookIn_ns(n:h.Ns1 dx mA):∃od,h.get? dx=some od/\∀name,QAo name od=some (mA name):=by
 obtain⟨o,es,ep,ho,hd,hk,_,hm⟩:=n;refine⟨o,ho,fun name=>?_⟩;have e:=hm name;unfold nsFind findBy at e;rw[<- Array.find?_toList]at e;unfold QAo;rw[hd];dsimp only;split;rename_i y q;rw[q]at e;exact congrArg some e;rename_i q;rw[q]at e;have a:es.toList.any (·.refKey)=false:=by rw[QBE];intro y hy;obtain⟨z,t,hkey⟩:=hk y (QAi.mp hy);simp[DictEntry.refKey,hkey]
 have a':¬ es.toList.any (·.refKey)=true:=by rw[a];exact QD
 rw[if_neg a'];exact congrArg some e
theorem ObjM.look{x C:Addr}(I:ObjM h x dx C mA):∃od,PySem.W.InstAt h x (QAY C dx) C (some od)/\∀name,QAo name od=some (mA name) :=
 let⟨od,ho,hl⟩:=lookIn_ns I.ns
 ⟨od,⟨I.obj,rfl,rfl,ho⟩,hl⟩
end
section
variable{prog:Program}{w:World}{A:Around}{E:VSP}{s:Shared}{K:QA}{x dx C f:Addr}{mA:Str->Option Value}{name:Str}{v:Value}
end
section
variable{P:Program}{w:World}{H H':Hp}{h h':Heap}{a C dx:Addr}{fs fs':List (Str×V)}
theorem ins_get(hok:HOk P w H h)(e:H a=some (.ins C dx fs)):∃mA,ObjM h a dx C mA/\(∀f,RelO (fs.lookup f) (mA f))/\PySem.Within mA (fs.map (·.1))/\fs.length<=1000/\H dx=some (.own a):=by
 obtain⟨d,z,ne,ob,mA,n,r,q⟩:=(show UA P w H h a (.ins C dx fs) from hok a _ e)
 exact⟨mA,⟨ob,n,ne⟩,r,q,z,d⟩
end
structure Cls(K:QA)(C:Addr):Prop where
 pg:QBY K C Str.empty=true
 hd:PySem.W.hasDictIn K C=true
 po:PySem.W.plainOver K C=true
 sa:PySem.W.findIn K (.ref C) "__setattr__"=some (some (.builtin "object.__setattr__"))
theorem Cls.get{K:QA}{C:Addr}(c:Cls K C)(f:Str):QBY K C f=true:=c.pg
section
variable{X:Cx}{pins:LAO}{σ:St}{H:Hp}{s:Shared}{a C dx:Addr}{fs:List (Str×V)}{f:Str}{v:V}{A:Around}{E:VSP}
end
section
variable{X:Cx}{o e value:Expr}{f:Str}{pos pos' tpos:Pos}{ta tv:TE}
end
section
variable{X:Cx}{pins:LAO}{σ:St}{H:Hp}{s:Shared}{A:Around}{E:VSP}{Q:VSP}{c:Value}{b:Bool}
inductive TyOf(K:QA)(H:Hp):V->Value->Prop where
 |non:TyOf K H .non (.type "NoneType")
 |bl (x:Bool):TyOf K H (.bl x) (.type "bool")
 |int (i:Int):TyOf K H (.int i) (.type "int")
 |str (x:Str):TyOf K H (.str x) (.type "str")
 |flt (x:UInt64):TyOf K H (.flt x) (.type "float")
 |lst {a:Addr}{xs:List V}(e:H a=some (.lst xs)):TyOf K H (.ref a) (.type "list")
 |frz {a:Addr}{o:Obj}{xs:List V}(e:H a=some (.frz o (.lst xs))):TyOf K H (.ref a) (.type "list")
 |tup {a:Addr}{xs:List V}(e:H a=some (.tup xs)):TyOf K H (.ref a) (.type "tuple")
 |dK {a:Addr}{kvs:List (Key×V)}(e:H a=some (.dK kvs)):TyOf K H (.ref a) (.type "dict")
 |dT {a:Addr}{ep:Nat}{kvs:List (List Key×Addr×V)}(e:H a=some (.dT ep kvs)):TyOf K H (.ref a) (.type "dict")
 |ins {a C dx:Addr}{fs:List (Str×V)}(e:H a=some (.ins C dx fs)) (cl:Cls K C) (ha:PySem.W.findIn K (.ref C) "__class__"=some (some (.builtin "object.__class__")))
   (hn:PySem.W.specialIn K (.builtin "object.__class__") "__get__"=some (some (.builtin "getset_descriptor.__get__"))) (htk:PySem.W.takesIn K (.builtin "object.__class__")=some true)
   (hm:PySem.W.mroIn K C (.type "object")=some true):TyOf K H (.ref a) (.ref C)
theorem isinst_ok{x:V}{u t:Value}(I:Inv X pins σ H s)(rx:lA x u)(ty:TyOf X.K H x t)(e:QAp X.K t c=some b)(h:∀tk,Q (.bool b) { s with toks:=tk }) :
  wpAny (model X.prog X.w) A (call (.builtin "isinstance") [u,c]) Q E s:=by
 cases ty with
 |non=>cases(show u=Value.none from rx);exact qC PySem.W.kitx_none I.kIn True.intro e (fun z=>nomatch z) h
 |bl y=>cases(show u=Value.bool y from rx);exact qC PySem.W.kitx_bool I.kIn True.intro e (fun z=>nomatch z) h
 |int i=>obtain⟨t,q⟩:=(show ∃t,u=Value.int i t from rx);cases q;exact qC PySem.W.kitx_int I.kIn True.intro e (fun z=>nomatch z) h
 |str y=>obtain⟨t,q⟩:=(show ∃t,u=Value.str y t from rx);cases q;exact qC PySem.W.kitx_str I.kIn True.intro e (fun z=>nomatch z) h
 |flt y=>obtain⟨t,q⟩:=(show ∃t,u=Value.float y t from rx);cases q;exact qC PySem.W.kitx_float I.kIn True.intro e (fun z=>nomatch z) h
 |@lst a xs ea =>
  cases(show u=Value.ref a from rx);obtain⟨_,_,n,_,h1⟩:=(show UA X.prog X.w H s.heap a (.lst xs) from I.hok a _ ea)
  exact qC W7 I.kIn ⟨_,h1,rfl⟩ e (fun z=>nomatch z) h
 |@frz a ob xs ea =>
  cases(show u=Value.ref a from rx);obtain⟨_,_,_,n,_,h1⟩:=(show UA X.prog X.w H s.heap a (.frz ob (.lst xs)) from I.hok a _ ea)
  exact qC W7 I.kIn ⟨_,h1,rfl⟩ e (fun z=>nomatch z) h
 |@tup a xs ea =>
  cases(show u=Value.ref a from rx);obtain⟨_,_,_,p⟩:=(show UA X.prog X.w H s.heap a (.tup xs) from I.hok a _ ea)
  obtain⟨o,h1,h2,_⟩:=p;exact qC QA5 I.kIn ⟨o,h1,h2⟩ e (fun z=>nomatch z) h
 |@dK a kvs ea =>
  cases(show u=Value.ref a from rx);obtain⟨_,_,vs,_,p⟩:=(show UA X.prog X.w H s.heap a (.dK kvs) from I.hok a _ ea)
  obtain⟨o,es,ep,h1,h2,_⟩:=p;exact qC QBF I.kIn ⟨o,h1,h2.1⟩ e (fun z=>nomatch z) h
 |@dT a ep kvs ea =>
  cases(show u=Value.ref a from rx);obtain⟨_,_,xs,_,o,es,h1,h2,_⟩:=(show UA X.prog X.w H s.heap a (.dT ep kvs) from I.hok a _ ea)
  exact qC QBF I.kIn ⟨o,h1,h2.1⟩ e (fun z=>nomatch z) h
 |@ins a C dx fs ea cl ha hn htk hm=>cases(show u=Value.ref a from rx);obtain⟨mA,O,_⟩:=ins_get I.hok ea;obtain⟨od,J,_⟩:=O.look;exact qC (PySem.W.kitx_own (cl.get _) cl.hd ha hn htk hm) I.kIn J e (fun z=>nomatch z) h
end
section
variable{k:Nat}{A:Around}
structure Room(k:Nat)(A:Around):Prop where
 hd:A.handled=none
 dp:A.depth+3 * k+5<recursionLimit
 un:A.units+16 * k+200<cLine
theorem Room.mono{j:Nat}(r:Room k A)(h:j<=k):Room j A:=⟨r.hd,by have:=r.dp;omega,by have:=r.un;omega⟩
theorem Room.deeper(r:Room (k+1) A)(env:Env):Room k (A.deeper env) :=
 ⟨r.hd,by have:=r.dp;show A.depth+1+3 * k+5<_;omega,by have:=r.un;show A.units+3+16 * k+200<_;omega⟩
theorem Room.depth(r:Room k A):A.depth<recursionLimit:=by have:=r.dp;omega
def tNil:TA:=fun _ H Q=>Q [] H
def tCons(ta:TE)(tr:TA):TA:=fun σ H Q=>ta σ H fun x H1=>tr σ H1 fun xs H2=>Q (x::xs) H2
end
section
variable{X:Cx}{e:Expr}{es:List Expr}{te:TE}{t:TA}{pos:Pos}
theorem pa_nil:PA X [] tNil:=fun _ _ _ _ H Q I h=>W8 ⟨[],H,I,.nil,h⟩
theorem pa_cons(ha:PE X e te)(hr:PA X es t)(hs:starEach (e::es) X.env=(false,eval e X.env)::starEach es X.env:=by rfl):PA X (e::es) (tCons te t):=by intro pos pins s σ H Q I h;rw[hs];show wpAny _ _ (spliced ((false,eval e X.env)::backTo pos (starEach es X.env))) _ _ s;refine Wt (thn (ha pins s σ H _ I h) fun u s1 ⟨x,H1,I1,r1,q1⟩=>?_);exact thn (hr pos pins s1 σ H1 _ I1 q1) fun us s2 ⟨xs,H2,I2,r2,q2⟩=>⟨x::xs,H2,I2,.cons r1 r2,q2⟩
def tTup(t:TA):TE:=fun σ H Q=>t σ H fun xs H1=>xs.length<=sizeLine/\∀p,H1 p=none->Q (.ref p) (JA H1 p (.tup xs))
def tLst(t:TA):TE:=fun σ H Q=>t σ H fun xs H1=>xs.length<=sizeLine/\∀p,H1 p=none->Q (.ref p) (JA H1 p (.lst xs))
theorem pe_tup{x1}(h:PA X es t):PE X (.Tuple es x1 pos) (tTup t):=by intro pins s σ H Q I hq;refine wpAny_Tuple_spliced (thn (h pos pins s σ H _ I hq) fun us s1 ⟨xs,H1,I1,r,z,q⟩=>⟨by rw[<- r.length];exact z,?_⟩);have hf:H1 s1.heap.objs.size=none:=I1.hok.fresh (QR _);refine⟨.ref s1.heap.objs.size,JA H1 s1.heap.objs.size (.tup xs),I1.laid (t':=s1.toks) (fun b u e=>QH _ e) (QR _) ?_,rfl,q _ hf⟩;exact⟨z,us,r,⟨_,QS _ rfl,rfl,_,rfl⟩⟩
theorem pe_lst(h:PA X es t):PE X (.List es pos) (tLst t):=by intro pins s σ H Q I hq;refine wpAny_List_spliced (thn (h pos pins s σ H _ I hq) fun us s1 ⟨xs,H1,I1,r,z,q⟩=>⟨by rw[<- r.length];exact z,?_⟩);have hf:H1 s1.heap.objs.size=none:=I1.hok.fresh (QR _);refine⟨.ref s1.heap.objs.size,JA H1 s1.heap.objs.size (.lst xs),I1.laid (t':=s1.toks) (fun b u e=>QH _ e) (QR _) ?_,rfl,q _ hf⟩;exact⟨z,us,0,r,QS _ rfl⟩
end
noncomputable abbrev Sp:=List V->Hp->VK->XK->Prop
noncomputable abbrev CXT:=List Env->Hp->Shared->XK->Value->Shared->Prop
structure Env0(P:Program)(w:World)(K:QA)(mg:Str->Option Value)(base:Heap)(A:Around)(outer:List Env)(s:Shared)(H:Hp):Prop where
 frames:A.frames=some outer
 mod:Mod K mg base
 bs:∀b o,base.get? b=some o->s.heap.get? b=some o/\H b=none
 bsz:base.objs.size<=s.heap.objs.size
 funs:s.heap.FunFrames base outer
 frf:∀b∈frs outer,H b=none
 hok:HOk P w H s.heap
 bare:AllBare s.gens
def CE(outer:List Env)(P:Program)(w:World)(H:Hp)(s:Shared)(Q:VK)(u:Value)(s':Shared):Prop :=
 ∃v H',s'.os=s.os/\AllBare s'.gens/\Un (frs outer) [] H H' s.heap s'.heap/\HOk P w H' s'.heap/\lA v u/\Q v H'
def CR(CX:CXT)(outer:List Env)(P:Program)(w:World)(H:Hp)(s:Shared)(Q:VK)(E:XK)(r:Result)(s':Shared):Prop :=
 match r with
 | .ok (.ret u)=>CE outer P w H s Q u s'
 | .ok _=>False
 | .error e=>CX outer H s E e s'
structure FnOk(P:Program)(w:World)(K:QA)(mg:Str->Option Value)(base:Heap)(CX:CXT)(k:Nat)(f:Addr)(fd:FuncData)(ps:List Str)(sp:Sp):Prop where
 len:∀vs H Q E,sp vs H Q E->vs.length=ps.length
 run:∀(A:Around) (outer:List Env) (s:Shared) (H:Hp) (args:Args) (us:List Value) (vs:List V) (Q:VK) (E:XK),Room k A->Env0 P w K mg base A outer s H->BindsTo s fd args (ps.zip us)->bA vs us->sp vs H Q E ->
  codeAny (model P w) A (.call (.ref f) args) (CR CX outer P w H s Q E) s
theorem FnOk.mono{P:Program}{w:World}{K:QA}{mg:Str->Option Value}{base:Heap}{CX:CXT}{j k:Nat}{f:Addr}{fd:FuncData}{ps:List Str}{sp:Sp}(F:FnOk P w K mg base CX j f fd ps sp)(h:j<=k) :
  FnOk P w K mg base CX k f fd ps sp:=⟨F.len,fun A outer s H args us vs Q E hr=>F.run A outer s H args us vs Q E (hr.mono h)⟩
section
variable{X:Cx}{pins:LAO}{σ:St}{H:Hp}{s s':Shared}
theorem Inv.env0(I:Inv X pins σ H s):Env0 X.prog X.w X.K X.mg X.base X.A X.stack s H :=
 ⟨I.ok.frames,I.ok.mod,I.bs,QX I.ok.bsz I.sz,I.stack,I.stkFree,I.hok,I.bare⟩
theorem Inv.after{Q:VK}{u:Value}(I:Inv X pins σ H s)(h:CE X.stack X.prog X.w H s Q u s'):EP X pins σ Q u s':=by obtain⟨v,H',os,bare,un,hok,r,q⟩:=h;obtain⟨hh,g,d,t,os'⟩:=s';obtain rfl:os'=s.os:=os;exact⟨v,H',I.call (h':=hh) (g':=g) (d':=d) (t':=t) (ch:=[]) un hok bare (fun b z=>absurd z (by simp)),r,q⟩
end
def tCall(sp:Sp)(dvs:List V)(E:XK)(t:TA):TE:=fun σ H Q=>t σ H fun vs H1=>sp (vs++dvs) H1 Q E
def Binds(K:QA)(fd:FuncData)(ps:List Str)(ds:List Value):Prop :=
 ∀(s:Shared) (us:List Value),K.In s.heap->(us++ds).length=ps.length->BindsTo s fd ⟨us,[]⟩ (ps.zip (us++ds))
theorem Binds.all{K:QA}{fd:FuncData}{ps:List Str}(h:∀us:List Value,us.length=ps.length->bindArgs fd ⟨us,[]⟩=pure (ps.zip us)):Binds K fd ps []:=fun s us _ hl=>by rw[wC]at hl ⊢;exact .of_eq (h us hl)
def Passes(CX:CXT)(X:Cx)(E:XK):Prop:=∀(pins:LAO) (σ:St) (H:Hp) (s:Shared) (e:Value) (s':Shared),Inv X pins σ H s->CX X.stack H s E e s'->X.xe e s'
section
variable{X:Cx}{CX:CXT}{k:Nat}{f C:Addr}{fd:FuncData}{ps:List Str}{sp:Sp}{dvs:List V}{ds:List Value}{E:XK}{x m:Str}{p pos apos:Pos}{e o:Expr}{es:List Expr}{ta:TE}{t:TA}
theorem run_fn{pins:LAO}{σ:St}{H:Hp}{s:Shared}{Q:VK}{us:List Value}{vs:List V}(F:FnOk X.prog X.w X.K X.mg X.base CX k f fd ps sp)(hr:Room k X.A)(hb:Binds X.K fd ps ds)(hd:bA dvs ds)(hx:Passes CX X E)
  (I:Inv X pins σ H s) (r:bA vs us) (h:sp (vs++dvs) H Q E):wpAny (model X.prog X.w) X.A (call (.ref f) us) (EP X pins σ Q) X.xe s:=by
 have r2:bA (vs++dvs) (us++ds):=r.append hd;have hl:(us++ds).length=ps.length:=by rw[<- r2.length];exact F.len _ _ _ _ h
 refine wpAny_call (Wu (F.run X.A X.stack s H ⟨us,[]⟩ (us++ds) (vs++dvs) Q E hr I.env0 (hb s us I.kIn hl) r2 h) fun r s' hq=>?_);cases r with
 |error e=>exact hx pins σ H s e s' I hq
 |ok fl =>
  cases fl with
  |ret u=>exact I.after hq
  |next=>exact QW hq
  |brk=>exact QW hq
  |cont=>exact QW hq
theorem pe_call(F:FnOk X.prog X.w X.K X.mg X.base CX k f fd ps sp)(hr:Room k X.A)(hg:Gl X x)(hm:X.mg x=some (.ref f))(hk:wk X.K (.ref f)=true)(hb:Binds X.K fd ps ds)(hd:bA dvs ds)(hx:Passes CX X E)
  (ha:PA X (e::es) t) (hdb:(x==("__debug__":Str))=false:=by decide) (he:starEach (e::es) X.env=(false,eval e X.env)::starEach es X.env:=by rfl) (hpl:(backTo pos (starEach es X.env)).any (·.1)=false:=by rfl) :
  PE X (.Call (.Name x p) (e::es) [] pos) (tCall sp dvs E t):=by
 intro pins s σ H Q I h;refine wJ (ld_glob I hg hm ?_ hdb);refine PySem.W.callWith_K (h₀:=X.base) I.ok.mod.kin hk (thn (ha pos pins s σ H _ I h) fun us s1 ⟨vs,H1,I1,r,q⟩=>⟨I1.kIn,?_⟩) he hpl;exact run_fn F hr hb hd hx I1 r q
theorem pe_call0(F:FnOk X.prog X.w X.K X.mg X.base CX k f fd ps sp)(hr:Room k X.A)(hg:Gl X x)(hm:X.mg x=some (.ref f))(hk:wk X.K (.ref f)=true)(hb:Binds X.K fd ps ds)(hd:bA dvs ds)(hx:Passes CX X E)
  (hdb:(x==("__debug__":Str))=false:=by decide):PE X (.Call (.Name x p) [] [] pos) (tCall sp dvs E tNil):=by
 intro pins s σ H Q I h;refine wJ (ld_glob I hg hm ?_ hdb);exact PySem.W.callWith_K0 I.kIn hk (run_fn (us:=[]) F hr hb hd hx I .nil h)
end
section
variable{X:Cx}{CX:CXT}{k:Nat}{f C:Addr}{fd:FuncData}{ps ks:List Str}{sp:Sp}{E:XK}{x m:Str}{p pos apos kpos:Pos}{e o:Expr}{es:List Expr}{kws:List Keyword}{te ta:TE}{t tk:TA}{nm:Option Str}
variable{g:List Value->List Value->List Value}{gV:List V->List V->List V}
end
section
variable{CX:CXT}{P:Program}{w:World}{mg:Str->Option Value}{base:Heap}{N ps:List Str}{qual:Str}{scope:Scope}{f:Addr}
structure FnScope(N P:List Str)(sc:Scope):Prop where
 kind:sc.kind=.function
 co:sc.isCoroutine=false
 gen:sc.isGenerator=false
 nd:N.Nodup
 pre:N.take P.length=P
 par:∀x∈P,sc.names.lookup x=some .local∨sc.names.lookup x=some .cell
 nofree:∀y∈sc.names,y.2≠.free
theorem bindL_out{kindOf:Str->Option NameKind}{x:Str}:∀{binds:List (Str×Value)}{m:Str->Option Value},(∀v,(x,v)∉binds)->bindL kindOf binds m x=m x
 |[],_,_=>rfl
 | (n,v)::r,m,h=>by
  unfold bindL;rw[bindL_out fun w hw=>h w (QE _ hw)];split;have:x≠n:=by rintro rfl;exact h v QF
  simp[this];rfl
theorem bindC_out{kindOf:Str->Option NameKind}{x:Str}:∀{binds:List (Str×Value)}{m:Str->Option Value},(∀v,(x,v)∉binds)->bindC kindOf binds m x=m x
 |[],_,_=>rfl
 | (n,v)::r,m,h=>by
  unfold bindC;rw[bindC_out fun w hw=>h w (QE _ hw)];split;rfl;have:x≠n:=by rintro rfl;exact h v QF
  simp[this]
theorem bindL_get{kindOf:Str->Option NameKind}{x:Str}{v:Value}:∀{P:List Str}{vs:List Value}{i:Nat}{m:Str->Option Value},P.Nodup->P[i]?=some x->vs[i]?=some v->kindOf x=some .local ->
  bindL kindOf (P.zip vs) m x=some v
 |[],_,_,_,_,h,_,_=>by simp at h
 |_::_,[],_,_,_,_,h,_=>by simp at h
 |p::P,w::vs,0,m,nd,h1,h2,hk=>by simp at h1 h2;subst h1;subst h2;show bindL kindOf ((p,w)::P.zip vs) m p=_;unfold bindL;rw[bindL_out fun v hv=>(Qe.mp nd).1 (QAZ hv).1,if_pos hk];simp
 |p::P,w::vs,i+1,m,nd,h1,h2,hk=>by show bindL kindOf ((p,w)::P.zip vs) m x=_;unfold bindL;exact bindL_get (i:=i) (Qe.mp nd).2 (by simpa using h1) (by simpa using h2) hk
theorem bindC_get{kindOf:Str->Option NameKind}{x:Str}{v:Value}:∀{P:List Str}{vs:List Value}{i:Nat}{m:Str->Option Value},P.Nodup->P[i]?=some x->vs[i]?=some v->kindOf x≠some .local ->
  bindC kindOf (P.zip vs) m x=some v
 |[],_,_,_,_,h,_,_=>by simp at h
 |_::_,[],_,_,_,_,h,_=>by simp at h
 |p::P,w::vs,0,m,nd,h1,h2,hk=>by simp at h1 h2;subst h1;subst h2;show bindC kindOf ((p,w)::P.zip vs) m p=_;unfold bindC;rw[bindC_out fun v hv=>(Qe.mp nd).1 (QAZ hv).1,if_neg hk];simp
 |p::P,w::vs,i+1,m,nd,h1,h2,hk=>by show bindC kindOf ((p,w)::P.zip vs) m x=_;unfold bindC;exact bindC_get (i:=i) (Qe.mp nd).2 (by simpa using h1) (by simpa using h2) hk
def start(N:List Str)(vs:List V):St:=vs.map some++Qs (N.length - vs.length) none
def cxOf(CX:CXT)(P:Program)(w:World)(K:QA)(mg:Str->Option Value)(base:Heap)(N:List Str)(qual:Str)(scope:Scope)(f:Addr)(cd:Value)(A:Around)(outer:List Env)(s:Shared)(H:Hp)(E:XK):Cx where
 prog:=P
 w:=w
 K:=K
 mg:=mg
 base:=base
 A:=A.deeper (envOfC qual scope s.heap.objs.size f cd)
 N:=N
 s₀:=s
 H₀:=H
 env:=envOfC qual scope s.heap.objs.size f cd
 outer:=outer
 stack:=envOfC qual scope s.heap.objs.size f cd::outer
 ex:=[]
 calm:=true
 fn:=fun _=>true
 pn:=[]
 xe:=fun e s'=>wpAny (model P w) (A.deeper (envOfC qual scope s.heap.objs.size f cd)) (leaving (envOfC qual scope s.heap.objs.size f cd) e) (fun _ s''=>CX outer H s E e s'') (fun e' s''=>CX outer H s E e' s'') s'
theorem cell_has{sc:Scope}{n:Nat}{x:Str}(h:sc.names.lookup x=some .cell):∃c,(cellsFrom n sc.names []).lookup x=some c:=by have q:=QAR sc.names n [] (.inl h);exact Option.isSome_iff_exists.mp q
theorem inv_start{K:QA}{cd:Value}{A:Around}{outer:List Env}{s s1:Shared}{H:Hp}{E:XK}{us:List Value}{vs:List V}
  (S:FnScope N ps scope) (hd:A.handled=none) (e0:Env0 P w K mg base A outer s H) (hl:vs.length=ps.length) (r:bA vs us)
  (x:InCallC s s.heap.objs.size (bindL (envOfC qual scope s.heap.objs.size f cd).kindOf (ps.zip us) fun _=>none) (cellsFrom (s.heap.objs.size+1) scope.names []) (bindC (envOfC qual scope s.heap.objs.size f cd).kindOf (ps.zip us) fun _=>none) s1) :
  Inv (cxOf CX P w K mg base N qual scope f cd A outer s H E) [] (start N vs) H s1:=by
 have hpl:ps.length<=N.length:=by have:=congrArg qq S.pre;rw[WB]at this;omega
 obtain⟨h1,tk,rfl,hk⟩:=x.done;have noA:∀b:Addr,b∉(cxOf CX P w K mg base N qual scope f cd A outer s H E).ex:=fun b z=>absurd (show b∈([]:List Addr) from z) (by simp);refine⟨⟨e0.mod,S.kind,rfl,rfl,QR _,fun y z c h1 h2=>?_,fun y hy=>?_,fun y c _ h=>?_,fun _=>hd,Around.frames_deeper e0.frames,.inr ⟨rfl,rfl⟩,fun b z=>absurd z (noA b),e0.bs,e0.bsz,fun b _ _=>noA b,fun b z=>absurd z (noA b),e0.funs,e0.frf⟩,
  rfl,e0.bare,Un.kept hk,⟨_,x.toInCall.ns,fun i y v h1 h2 h3=>?_⟩,fun y c h=>⟨_,x.cell y c h⟩,e0.hok.fresh (QR _),fun y c h=>?_,fun p hp=>absurd (show p∈([]:LAO) from hp) (by simp),e0.hok.kept hk,?_⟩
 exact name_of_addr x.apart (qH h1) (qH h2);have hy:scope.names.lookup y=some .cell∨scope.names.lookup y=some .free:=hy;rcases hy with hy|hy;exact cell_has hy;exact absurd rfl (S.nofree _ (qH hy));exact QBQ (x.above y c (qH h));have hi:i<vs.length:=by unfold start at h2;by_cases hi:i<vs.length;exact hi;rw[Qk (by simpa using hi)]at h2;rw[wb]at h2;split at h2<;>cases h2
 have ha:vs[i]?=some v:=by
  unfold start at h2;rw[Qq (by simpa using hi),QY]at h2;cases e:vs[i]? with
  |none=>rw[e]at h2;cases h2
  |some a=>rw[e]at h2;cases h2;rfl
 obtain⟨u,hu,rv⟩:=r.get ha;have hp:ps[i]?=some y:=by rw[<- S.pre,List.getElem?_take_of_lt (by omega)];exact h1
 have ndP:ps.Nodup:=by rw[<- S.pre];exact S.nd.sublist (List.take_sublist _ _)
 refine⟨u,rv,?_⟩;rcases S.par y (qF hp) with k|k;exact .inl ⟨k,bindL_get ndP hp hu k⟩;obtain⟨c,e⟩:=cell_has (n:=s.heap.objs.size+1) k;refine .inr ⟨.inl k,c,e,?_⟩;have q:=x.cell y c e;rw[bindC_get ndP hp hu (by show scope.names.lookup y≠_;rw[k];decide)]at q;exact q;exact e0.hok.fresh (QBQ (x.above y c (qH h)));unfold start;show _=N.length;rw[QM,QG,qU];omega
theorem fn_of{K:QA}{k:Nat}{name:Str}{params:Arguments}{body:List Stmt}{dV kV doc pm cdv ct oc:Value}{an od:Option Addr}
  {osl:Array (Option Value)}{sp:Sp}(lk:K.lookup f=some ⟨oc,od,.func (wK name qual params body scope dV kV doc pm an cdv ct),osl⟩) (hcd:Wx K cdv qual=true) (S:FnScope N ps scope)
  (len:∀vs H Q E,sp vs H Q E->vs.length=ps.length)
  (hbody:∀(A:Around) (outer:List Env) (s:Shared) (H:Hp) (vs:List V) (Q:VK) (E:XK),Room k (A.deeper (envOfC qual scope s.heap.objs.size f cdv))->sp vs H Q E ->
   ∃t,PSs (cxOf CX P w K mg base N qual scope f cdv A outer s H E) body t/\t { nx:=fun _ H'=>Q .non H',rt:=Q } (start N vs) H) :
  FnOk P w K mg base CX (k+1) f (wK name qual params body scope dV kV doc pm an cdv ct) ps sp:=by
 refine⟨len,fun A outer s H args us vs Q E hr e0 hb r hsp=>?_⟩;have hl:=len _ _ _ _ hsp;have KX:K.In s.heap:=e0.mod.kin.keeps fun b o e=>(e0.bs b o e).1;have lim:s.heap.NoLimit:=e0.mod.nolimit.keeps fun b o e=>(e0.bs b o e).1;have hkind:∀y∈ps.zip us,scope.names.lookup y.1=some .local∨(scope.names.lookup y.1=some .cell/\((cellsFrom (s.heap.objs.size+1) scope.names []).lookup y.1).isSome=true):=fun⟨n,v⟩ hy=>by rcases S.par n (QAZ hy).1 with q|q;exact .inl q;exact .inr ⟨q,QAR _ _ _ (.inl q)⟩
 refine codeAny_call_function hr.depth (KX _ _ lk) rfl S.co S.gen rfl (PySem.W.codeRec_of KX hcd) (hb _ _ _ _ ?_);refine wpAny_newFunctionEnv_cells S.kind hkind fun env he s1 x=>?_;subst he;refine⟨lim.keeps x.toInCall.keep,codeAny_func ?_⟩;obtain⟨t,ht,hq⟩:=hbody A outer s H vs Q E (hr.deeper _) hsp;have I:Inv (cxOf CX P w K mg base N qual scope f cdv A outer s H E) [] (start N vs) H s1:=inv_start S hr.hd e0 hl r x;refine wI (ht [] s1 (start N vs) H _ I hq) (fun fl s' hs=>?_) fun e s' hs=>hs;have fin:∀{σ':St}{H':Hp}{v:V}{u:Value},Inv (cxOf CX P w K mg base N qual scope f cdv A outer s H E) [] σ' H' s'->lA v u->Q v H'->CE outer P w H s Q u s' :=
  fun {σ' H' v u} J rv q=>⟨v,H',J.os,J.bare,J.base,J.hok,rv,q⟩
 cases fl with
 |ret u=>obtain⟨v,σ',H',J,rv,q⟩:=hs;exact fin J rv q
 |next=>obtain⟨σ',H',J,q⟩:=hs;exact fin (v:=V.non) (u:=Value.none) J rfl q
 |brk=>obtain⟨_,_,_,q⟩:=hs;exact QW q
 |cont=>obtain⟨_,_,_,q⟩:=hs;exact QW q
end
section
variable{X:Cx}{x:Str}{p pos:Pos}{e:Expr}{es:List Expr}{t:TA}{id T:String}{r:List V->Hp->VK->Prop}
def tCB(r:List V->Hp->VK->Prop)(t:TA):TE:=fun σ H Q=>t σ H fun vs H1=>r vs H1 Q
theorem pe_callB(hc:CallR X (.builtin id) r)(hg:Gl X x)(hm:X.mg x=none)(hv:bootBuiltins x=some (.builtin id))(ha:PA X (e::es) t)(hn:x≠"__name__":=by decide)(hdb:(x==("__debug__":Str))=false:=by decide)
  (he:starEach (e::es) X.env=(false,eval e X.env)::starEach es X.env:=by rfl) (hpl:(backTo pos (starEach es X.env)).any (·.1)=false:=by rfl):PE X (.Call (.Name x p) (e::es) [] pos) (tCB r t):=by
 intro pins s σ H Q I h;refine wJ (ld_blt I hg hm hv ?_ hn hdb);exact WT (thn (ha pos pins s σ H _ I h) fun us s1 ⟨vs,H1,I1,r1,q1⟩=>hc pins s1 σ H1 vs us Q I1 r1 q1) he hpl
theorem pe_callTy(hc:CallR X (.type T) r)(hg:Gl X x)(hm:X.mg x=none)(hv:bootBuiltins x=some (.type T))(ha:PA X (e::es) t)(hn:x≠"__name__":=by decide)(hdb:(x==("__debug__":Str))=false:=by decide)
  (he:starEach (e::es) X.env=(false,eval e X.env)::starEach es X.env:=by rfl) (hpl:(backTo pos (starEach es X.env)).any (·.1)=false:=by rfl):PE X (.Call (.Name x p) (e::es) [] pos) (tCB r t):=by
 intro pins s σ H Q I h;refine wJ (ld_blt I hg hm hv ?_ hn hdb);exact wD (thn (ha pos pins s σ H _ I h) fun us s1 ⟨vs,H1,I1,r1,q1⟩=>hc pins s1 σ H1 vs us Q I1 r1 q1) he hpl
end
end L2
namespace HT
open PySem PyProof.Rows
section
open PySem.SeqAt
open PySem.AutoSeq1 (wpAny_loadPart')
open PySem.MeetsSeq PySem.MeetsSeq2 PySem.MeetsSeq3
end
section
variable{prog:Program}{w:World}{A:Around}{E:VSP}{s:Shared}
section
variable{t sl:Addr}{Q:VSP}{vl vu:Value}{lo hi:Option Int}
theorem cat_tup{b:Addr}{vs ws:List Value}(ht:IsTup s.heap t vs.toArray)(hb:IsTup s.heap b ws.toArray)(hv:vs≠[])
  (h1:ws=[]->Q (.ref t) s) (h2:ws≠[]->Q (.ref s.heap.objs.size) { s with heap:=s.heap.push { cls:=.type "tuple",data:=.seq (vs++ws).toArray } })
  (hsz:vs.length+ws.length<=sizeLine):wpAny (model prog w) A (binaryOp .Add (.ref t) (.ref b)) Q E s:=by
 obtain⟨⟨cls,dd,data,sl⟩,ho,hc,n,hd⟩:=id ht;obtain⟨⟨cls2,dd2,data2,sl2⟩,ho2,hc2,n2,hd2⟩:=id hb;simp only at hc hd hc2 hd2;subst hc hd hc2 hd2;have e:vs.toArray++ws.toArray=(vs++ws).toArray:=by simp
 by_cases hw:ws=[];exact QBS ⟨_,ho,rfl⟩ ⟨_,ho2,rfl⟩ QBZ seq_tuple_add QAS QAF (W9 _ _)
  (tuple_addW1 t b vs.toArray ws.toArray n n2 dd dd2 sl sl2 (by simpa using hv) (by simp[hw])) ⟨ho,ho2,h1 hw⟩
 refine QBS ⟨_,ho,rfl⟩ ⟨_,ho2,rfl⟩ QBZ seq_tuple_add QAS QAF (W9 _ _)
  (tuple_addW2 t b vs.toArray ws.toArray n n2 dd dd2 sl sl2 (by simpa using hv) (by simpa using hw) (by rw[QO,QO];exact hsz)) ⟨ho,ho2,?_⟩
 rw[e];exact h2 hw
def sIx(n d:Nat):Option Int->Nat
 |none=>d
 |some v=>if v<0 then(v+(n:Int)).toNat else min v.toNat n
theorem sIx_le(n d:Nat)(hd:d<=n)(o:Option Int):sIx n d o<=n:=by
 cases o with
 |none=>exact hd
 |some v=>show(if v<0 then(v+(n:Int)).toNat else min v.toNat n)<=n;by_cases hv:v<0;rw[if_pos hv];omega;rw[if_neg hv];exact Nat.min_le_right _ _
theorem clip_eq(v:Int)(n d:Nat):(if v<0 then max (v+(n:Int)) 0 else min v (n:Int))=((sIx n d (some v):Nat):Int):=by show(if v<0 then max (v+(n:Int)) 0 else min v (n:Int))=(((if v<0 then(v+(n:Int)).toNat else min v.toNat n):Nat):Int);by_cases hv:v<0;simp only[if_pos hv];omega;simp only[if_neg hv];omega
theorem adjust_gen(lo hi:Option Int)(n:Nat):w9 lo hi 1 (n:Int)=(((sIx n 0 lo:Nat):Int),((sIx n n hi:Nat):Int)):=by
 have h1:¬ ((1:Int)<0):=by omega
 unfold w9;simp only[h1,if_false];refine QBx ?_ ?_;cases lo with
 |none=>rfl
 |some v=>exact clip_eq v n 0
 cases hi with
 |none=>rfl
 |some v=>exact clip_eq v n n
theorem places_gen(i j:Nat):wN (i:Int) (j:Int) 1=j - i:=by
 unfold wN;have h1:(1:Int) > 0:=by omega
 simp only[h1,if_true,Int.ediv_one];split<;>omega
theorem slicePart_{v:Value}{o:Option Int}{Q:Option Int->Shared->Prop}(p:IsPart v o)(h:Q o s):wpAny (model prog w) A (Builtin.Slice.slicePartIndex v) Q E s:=by
 cases p with
 |none=>exact slicePart_none h
 |int i t=>exact slicePart_int h
theorem sliceApplied_gen{n:Nat}{Q:Int×Int×Nat->Shared->Prop}(hs:s.heap.IsSliceOf sl vl vu .none)(pl:IsPart vl lo)(pu:IsPart vu hi)
  (h:Q (((sIx n 0 lo:Nat):Int),1,sIx n n hi - sIx n 0 lo) s):wpAny (model prog w) A (Wr (.ref sl) (pure (n:Int))) Q E s:=by
 obtain⟨os,hos,hcs,hds⟩:=id hs;unfold Wr Builtin.Slice.sliceFields;refine QC (QC (wO hos hds (x:=vl) rfl (QC (wO hos hds (x:=vu) rfl (QC (wO hos hds (x:=.none) rfl (QI ?_)))))));refine QC (slicePart_none ?_);show wpAny _ _ (if((1:Int)==0)=true then _ else _) _ _ s;rw[if_neg (by decide)];refine QC (slicePart_ pl (QC (slicePart_ pu (QC (QI ?_)))));show wpAny _ _ (match w9 lo hi 1 (n:Int) with | (lo,hi)=>pure (lo,(1:Int),wN lo hi 1)) _ _ s;rw[adjust_gen lo hi n];show wpAny _ _ (pure (((sIx n 0 lo:Nat):Int),(1:Int),wN ((sIx n 0 lo:Nat):Int) ((sIx n n hi:Nat):Int) 1)) _ _ s;rw[places_gen];exact QI h
theorem pick_gen(xs:Array Value)(i k:Nat):((Qz k).filterMap fun(m:Nat)=>xs[((i:Int)+(m:Int) * 1).toNat]?).toArray=((xs.toList.drop i).take k).toArray:=by
 have e:(fun(m:Nat)=>xs[((i:Int)+(m:Int) * 1).toNat]?)=fun m=>xs[i+m]?:=by
  funext m;have:((i:Int)+(m:Int) * 1).toNat=i+m:=by omega
  rw[this]
 rw[e];have:=pick_run xs i k;rw[List.filterMap_map]at this;have e2:((fun x=>xs[x]?)∘fun x=>i+x)=fun m=>xs[i+m]?:=rfl;rw[e2]at this;rw[this]
theorem getItem_tuple_cut{items:Array Value}(ht:IsTup s.heap t items)(hs:s.heap.IsSliceOf sl vl vu .none)(pl:IsPart vl lo)(pu:IsPart vu hi)
  (hw:¬ (sIx items.size 0 lo=0/\sIx items.size items.size hi=items.size))
  (h:Q (.ref s.heap.objs.size) { s with heap:=s.heap.push { cls:=.type "tuple",data:=.seq ((items.toList.drop (sIx items.size 0 lo)).take (sIx items.size items.size hi - sIx items.size 0 lo)).toArray } })
  (hsz:items.size<=sizeLine):wpAny (model prog w) A (getItem (.ref t) (.ref sl)) Q E s:=by
 have htake:sizeOk (.seq ((items.toList.drop (sIx items.size 0 lo)).take (sIx items.size items.size hi - sIx items.size 0 lo)).toArray):=by show((items.toList.drop (sIx items.size 0 lo)).take (sIx items.size items.size hi - sIx items.size 0 lo)).toArray.size<=sizeLine;rw[QO,WB,QBa,Qa];omega
 have hj:sIx items.size items.size hi<=items.size:=sIx_le _ _ (QR _) hi;obtain⟨os,hos,hcs,hds⟩:=id hs;have hTs:s.TypeIs (.ref sl) "slice":=⟨os,hos,hcs⟩
 unfold getItem
 try with_reducible refine qb ?_
 first|refine QC (QI ?_)|skip
 refine QC (wpAny_sequenceKey ht.typeIs (by decide) ?_);refine QC (qK (name:=Qx "__getitem__") ht.typeIs wT
  (qD wT ht.typeIs entry_tuple_getitem ?_ (args_tuple_getitem _ _)))
 show wpAny _ _ (Builtin.Tuple.tupleItemsOf (.ref t) >>= _) _ _ s;refine QC (tupleItemsOf_ ht ?_);refine QC (QBT hTs ?_);rw[if_pos (by decide)];refine QC (sliceApplied_gen hs pl pu ?_);have hno:¬ ((((sIx items.size 0 lo:Nat):Int)==0&&(1:Int)==1&&(sIx items.size items.size hi - sIx items.size 0 lo)==items.size)=true):=by intro q;rw[Qb,Qb]at q;have q1:((sIx items.size 0 lo:Nat):Int)=0:=qV q.1.1;have q2:sIx items.size items.size hi - sIx items.size 0 lo=items.size:=qV q.2;exact hw ⟨by omega,by omega⟩
 show wpAny _ _ (if(((sIx items.size 0 lo:Nat):Int)==0&&(1:Int)==1&&(sIx items.size items.size hi - sIx items.size 0 lo)==items.size)=true then _ else _) _ _ s;rw[if_neg hno,pick_gen];first
  |exact QC (m:=wU _) (Q1 (QI ⟨_,rfl,QI h⟩) htake)
  |exact QC (m:=wU _) (Q1 (QC (QI (QI ⟨_,rfl,QI h⟩))) htake)
  |exact QC (QC (m:=wU _) (Q1 (QI (QI ⟨_,rfl,QI h⟩)) htake))
  |exact QC (QC (m:=wU _) (Q1 (QI ⟨_,rfl,QI h⟩) htake))
end
end
end HT
namespace L2
open PySem PySem.Spec PyProof.Rows
noncomputable abbrev TO:=St->Hp->(Option Int->Hp->Prop)->Prop
def PO(X:Cx)(e:Option Expr)(t:TO):Prop :=
 ∀(pins:LAO) (s:Shared) (σ:St) (H:Hp) (Q:Option Int->Hp->Prop),Inv X pins σ H s->t σ H Q ->
  wpAny (model X.prog X.w) X.A (evalPart e X.env) (fun u s'=>∃o H',Inv X pins σ H' s'/\IsPart u o/\Q o H') X.xe s
def tNoPart:TO:=fun _ H Q=>Q none H
def tPart(t:TE):TO:=fun σ H Q=>t σ H fun x H1=>∃i,x=.int i/\Q (some i) H1
section
variable{X:Cx}{e:Expr}{te:TE}{lo hi:Option Expr}{tl th:TO}{pos p2:Pos}
theorem po_none:PO X none tNoPart:=by intro pins s σ H Q I h;rw[evalPart_none];exact QI ⟨none,H,I,.none,h⟩
theorem po_some(h:PE X e te):PO X (some e) (tPart te):=by intro pins s σ H Q I hw;rw[evalPart_some];refine thn (h pins s σ H _ I hw) fun u s1 ⟨x,H1,I1,r1,q1⟩=>?_;obtain⟨i,rfl,q⟩:=q1;obtain⟨t,rfl⟩:=r1;exact⟨some i,H1,I1,.int i t,q⟩
def SlR(X:Cx)(r:V->Option Int->Option Int->Hp->VK->Prop):Prop :=
 ∀(pins:LAO) (s:Shared) (σ:St) (H:Hp) (x:V) (v vl vu:Value) (lo hi:Option Int) (sl:Addr) (Q:VK),Inv X pins σ H s->lA x v->s.heap.IsSliceOf sl vl vu .none->IsPart vl lo->IsPart vu hi->r x lo hi H Q ->
  ∃T id,typeLookup (.type T) "__getitem__"=pure (some (.builtin id))/\s.TypeIs v T/\wpAny (model X.prog X.w) X.A (getItem v (.ref sl)) (EP X pins σ Q) X.xe s
def tSl(r:V->Option Int->Option Int->Hp->VK->Prop)(te:TE)(tl th:TO):TE:=fun σ H Q=>te σ H fun x H1=>tl σ H1 fun l H2=>th σ H2 fun u H3=>r x l u H3 Q
theorem pe_slice{r:V->Option Int->Option Int->Hp->VK->Prop}(hr:SlR X r)(he:PE X e te)(hl:PO X lo tl)(hu:PO X hi th):PE X (.Subscript e (.Slice lo hi none p2) pos) (tSl r te tl th):=by intro pins s σ H Q I h;refine Subscript_ (thn (he pins s σ H _ I h) fun v s1 ⟨x,H1,I1,r1,q1⟩=>?_);refine wpAny_Slice (thn (hl pins s1 σ H1 _ I1 q1) fun vl s2 ⟨l,H2,I2,pl,q2⟩=>thn (hu pins s2 σ H2 _ I2 q2) fun vu s3 ⟨u,H3,I3,pu,q3⟩=>?_);rw[evalPart_none];refine QI ?_;have I4:Inv X pins σ H3 { s3 with heap:=s3.heap.push { cls:=.type "slice",data:=.fields #[vl,vu,.none] } }:=I3.kept (t':=s3.toks) fun b ob q=>QH _ q;obtain⟨T,id,hT,ht,hg⟩:=hr pins { s3 with heap:=s3.heap.push { cls:=.type "slice",data:=.fields #[vl,vu,.none] } } σ H3 x v vl vu l u s3.heap.objs.size Q I4 r1 (Heap.IsSliceOf.new ..) pl pu q3;show wpAny (model X.prog X.w) X.A (subscriptTail e (.Slice lo hi none p2) v (.ref s3.heap.objs.size)) (EP X pins σ Q) X.xe { s3 with heap:=s3.heap.push { cls:=.type "slice",data:=.fields #[vl,vu,.none] } };exact tail_any (ops:=[.ref s3.heap.objs.size,v]) ht hT hg (by with_unfolding_all rfl)
def cutV(xs:List V)(lo hi:Option Int):List V:=(xs.drop (HT.sIx xs.length 0 lo)).take (HT.sIx xs.length xs.length hi - HT.sIx xs.length 0 lo)
theorem cutV_length(xs:List V)(lo hi:Option Int):(cutV xs lo hi).length<=xs.length:=by unfold cutV;rw[WB,QBa];omega
def rSlT(K:QA):V->Option Int->Option Int->Hp->VK->Prop:=fun x lo hi H Q=>∃a xs,x=.ref a/\SqT K H a xs /\
 ¬ (HT.sIx xs.length 0 lo=0/\HT.sIx xs.length xs.length hi=xs.length)/\∀p,H p=none->Q (.ref p) (JA H p (.tup (cutV xs lo hi)))
theorem sl_tup:SlR X (rSlT X.K):=by
 intro pins s σ H x v vl vu lo hi sl Q I rx hs pl pu h;obtain⟨a,xs,rfl,hx,hw,q⟩:=h;cases rx;obtain⟨its,r,ht,hz⟩:=I.tuple hx;have hlen:its.toArray.size=xs.length:=by rw[QO];exact r.length.symm
 refine⟨"tuple",_,wT.lookup,ht.typeIs,?_⟩;refine HT.getItem_tuple_cut ht hs pl pu (by rw[hlen];exact hw) ?_ (by rw[hlen];exact hz);rw[hlen];refine⟨.ref s.heap.objs.size,_,I.laid (t':=s.toks) (o:=.tup (cutV xs lo hi)) (fun b ob q=>QH _ q) (QR _) ?_,rfl,q _ (I.hok.fresh (QR _))⟩;exact⟨QX (cutV_length xs lo hi) hz,_,(r.drop (HT.sIx xs.length 0 lo)).take (HT.sIx xs.length xs.length hi - HT.sIx xs.length 0 lo),IsTup.new _ _⟩
def rCatT(K:QA):R2:=fun x y H Q=>∃a b xs ys,x=.ref a/\y=.ref b/\SqT K H a xs/\SqT K H b ys/\xs≠[]/\xs.length+ys.length<=sizeLine /\
 (ys=[]->Q (.ref a) H)/\(ys≠[]->∀p,H p=none->Q (.ref p) (JA H p (.tup (xs++ys))))
theorem bA.nil_iff{xs:List V}{us:List Value}(r:bA xs us):us=[]↔xs=[]:=by
 cases r with
 |nil=>simp
 |cons _ _=>simp
theorem op_catT:OpR X (binaryOp .Add) (rCatT X.K):=by intro pins s σ H x y v u Q I rx ry h;obtain⟨a,b,xs,ys,rfl,rfl,ha,hb,hx,hz,q1,q2⟩:=h;cases rx;cases ry;obtain⟨its,r1,p1,_⟩:=I.tuple ha;obtain⟨its2,r2,p2,_⟩:=I.tuple hb;refine HT.cat_tup p1 p2 (fun z=>hx (r1.nil_iff.mp z)) (fun z=>⟨.ref a,H,I,rfl,q1 (r2.nil_iff.mp z)⟩) (fun z=>?_) (by rw[<- r1.length,<- r2.length];exact hz);refine⟨.ref s.heap.objs.size,_,I.laid (t':=s.toks) (o:=.tup (xs++ys)) (fun b ob q=>QH _ q) (QR _) ?_,rfl,q2 (fun w=>z (r2.nil_iff.mpr w)) _ (I.hok.fresh (QR _))⟩;exact⟨by rw[QM];exact hz,_,r1.append r2,IsTup.new _ _⟩
end
def ixN(n:Nat)(i:Int):Option Nat:=if 0<=i then(if i<n then some i.toNat else none) else if -(n:Int)<=i then some (i+n).toNat else none
def atI{α:Type}(xs:List α)(i:Int):Option α:=(ixN xs.length i).bind fun j=>xs[j]?
theorem ixN_seq{n:Nat}{i:Int}{j:Nat}(h:ixN n i=some j):seqIndex? i n=some j/\j<n/\-(n:Int)<=i/\i<n:=by unfold ixN at h;by_cases h0:0<=i;rw[if_pos h0]at h;by_cases h1:i<n;rw[if_pos h1]at h;have e:i.toNat=j:=Q7 h;exact⟨by rw[QBk h0 h1,e],by omega,by omega,h1⟩;rw[if_neg h1]at h;cases h;rw[if_neg h0]at h;by_cases h1:-(n:Int)<=i;rw[if_pos h1]at h;have e:(i+n).toNat=j:=Q7 h;exact⟨by rw[QBU (by omega) h1,e],by omega,h1,by omega⟩;rw[if_neg h1]at h;cases h
theorem atI_get{α:Type}{xs:List α}{i:Int}{v:α}(h:atI xs i=some v):∃j,seqIndex? i xs.length=some j/\xs[j]?=some v/\j<xs.length/\-(xs.length:Int)<=i/\i<xs.length:=by
 unfold atI at h;cases e:ixN xs.length i with
 |none=>rw[e]at h;cases h
 |some j=>rw[e]at h;obtain⟨h1,h2,h3,h4⟩:=ixN_seq e;exact⟨j,h1,h,h2,h3,h4⟩
theorem atI_nat{α:Type}{xs:List α}{j:Nat}{v:α}(h:xs[j]?=some v):atI xs (j:Int)=some v:=by
 have hj:j<xs.length:=(QT.mp h).1;have e:ixN xs.length (j:Int)=some j:=by unfold ixN;rw[if_pos (by omega),if_pos (by omega)];simp
 unfold atI;rw[e];exact h
def PlainIx(b:Expr):Prop:=∀o i,subscripted b false o i=operate [o,i] (getItem o i)
def IxR(X:Cx)(r:R2):Prop :=
 ∀(value slice:Expr) (pins:LAO) (s:Shared) (σ:St) (H:Hp) (x y:V) (v u:Value) (Q:VK),Inv X pins σ H s->lA x v->lA y u->r x y H Q ->
  subscripted slice false v u=operate [v,u] (getItem v u)->wpAny (model X.prog X.w) X.A (subscriptTail value slice v u) (EP X pins σ Q) X.xe s
def MtR(X:Cx)(id:String)(r:V->List V->Hp->VK->Prop):Prop :=
 ∀(pins:LAO) (s:Shared) (σ:St) (H:Hp) (x:V) (xs:List V) (v:Value) (us:List Value) (Q:VK),Inv X pins σ H s->lA x v->bA xs us->r x xs H Q ->
  wpAny (model X.prog X.w) X.A (call (.builtin id) (v::us)) (EP X pins σ Q) X.xe s
section
variable{X:Cx}{a b:Expr}{ta tb:TE}{pos:Pos}
section
variable{pins:LAO}{s:Shared}{x:V}{u v:Value}
theorem IxR.or{r r':R2}(h:IxR X r)(h':IxR X r'):IxR X (fun x y H Q=>r x y H Q∨r' x y H Q):=by intro value slice pins s σ H x y v u Q I rx ry q hs;rcases q with q|q;exact h value slice pins s σ H x y v u Q I rx ry q hs;exact h' value slice pins s σ H x y v u Q I rx ry q hs
theorem pe_ix{r:R2}(hr:IxR X r)(ha:PE X a ta)(hb:PE X b tb)(hs:PlainIx b):PE X (.Subscript a b pos) (tOp r ta tb):=by intro pins s σ H Q I h;exact Subscript_ (binT ha hb I h fun v u s2 x y H2 I2 rx ry q=>hr a b pins s2 σ H2 x y v u Q I2 rx ry q (hs _ _))
def rIxL(K:QA):R2:=fun x y H Q=>∃p xs i v,x=.ref p/\y=.int i/\SqL K H p xs/\atI xs i=some v/\Q v H
def rIxT(K:QA):R2:=fun x y H Q=>∃p xs i v,x=.ref p/\y=.int i/\SqT K H p xs/\atI xs i=some v/\Q v H
def rIxS:R2:=fun x y H Q=>∃z i c,x=.str z/\y=.int i/\z.length<=sizeLine/\atI z.cps.toList i=some c/\Q (.str ⟨#[c]⟩) H
theorem ix_list:IxR X (rIxL X.K):=by
 intro value slice pins s σ H x y v u Q I rx ry h hs;obtain⟨p,xs,i,z,rfl,rfl,hq,he,q⟩:=h;cases rx;obtain⟨t,rfl⟩:=ry;obtain⟨its,r,pl,hz⟩:=I.list hq;obtain⟨j,h1,h2,h3,h4,h5⟩:=atI_get he;obtain⟨w,ew,rw'⟩:=r.get h2;have hl:=r.length;have hn:=line63;have fin:EP X pins σ Q w s:=⟨z,H,I,rw',q⟩
 by_cases h0:0<=i;have hj:i.toNat=j:=by rw[QBk h0 h5]at h1;exact Q7 h1
 exact item_listR pl.isList h0 (by omega) (by rw[hj];simpa using ew) fin hs;have hj:(i+(its.toArray.size:Int)).toNat=j:=by rw[QBU (by omega) h4]at h1;rw[QO,<- hl];exact Q7 h1
 exact wm (x:=w) pl.isList.typeIs QBG.lookup
  (wpAny_getItem_list_neg (Q:=fun r s'=>r=w/\EP X pins σ Q r s') pl.isList (by omega) (by rw[QO]<;>omega) (by omega) (by rw[hj];simpa using ew) ⟨rfl,fin⟩) hs
theorem ix_tup:IxR X (rIxT X.K):=by
 intro value slice pins s σ H x y v u Q I rx ry h hs;obtain⟨p,xs,i,z,rfl,rfl,hq,he,q⟩:=h;cases rx;obtain⟨t,rfl⟩:=ry;obtain⟨its,r,pl,hz⟩:=I.tuple hq;obtain⟨j,h1,h2,h3,h4,h5⟩:=atI_get he;obtain⟨w,ew,rw'⟩:=r.get h2;have hl:=r.length;have hn:=line63;have fin:EP X pins σ Q w s:=⟨z,H,I,rw',q⟩
 exact wm (x:=w) pl.typeIs slot_tuple_getitem.lookup
  (getItem_tuple (j:=j) (Q:=fun r s'=>r=w/\EP X pins σ Q r s') pl (by omega) (by omega) (by rw[QO,<- hl];exact h1) (by simpa using ew) ⟨rfl,fin⟩) hs
theorem ix_str:IxR X rIxS:=by
 intro value slice pins s σ H x y v u Q I rx ry h hs;obtain⟨z,i,c,rfl,rfl,hz,he,q⟩:=h;obtain⟨t,rfl⟩:=rx;obtain⟨t',rfl⟩:=ry;obtain⟨j,h1,h2,h3,h4,h5⟩:=atI_get he;have hl:z.cps.toList.length=z.length:=by simp[Str.length]
 rw[hl]at h1 h4 h5;have hn:=line63;exact tail_any (QBt s z t) slot_str_getitem.lookup (getItem_str (c:=c) (by have e1:decide (i < -(2 ^ 63:Int))=false:=dF (by omega);have e2:decide (i ≥ 2 ^ 63)=false:=dF (by omega);rw[e1,e2,Bool.or_false]) (by rw[h1];simpa using h2) ⟨.str ⟨#[c]⟩,H,I.tok _,⟨_,rfl⟩,q⟩) hs
def rIx(K:QA):R2:=fun x y H Q=>rIxL K x y H Q∨rIxT K x y H Q∨rIxS x y H Q
theorem ix_seq:IxR X (rIx X.K):=ix_list.or (ix_tup.or ix_str)
theorem mapSeq_set(its:List Value)(n j:Nat)(u:Value):qW (·.setIfInBounds j u) { cls:=.type "list",data:=.seq its.toArray n }={ cls:=.type "list",data:=.seq (its.set j u).toArray n }:=by simp[qW]
theorem Inv.lst{pins:LAO}{σ:St}{H:Hp}{s:Shared}{p:Addr}{xs:List V}(I:Inv X pins σ H s)(h:H p=some (.lst xs)) :
  ∃(its:List Value) (n:Nat),bA xs its/\s.heap.get? p=some { cls:=.type "list",data:=.seq its.toArray n }/\xs.length<=sizeLine:=by
 obtain⟨z,its,n,r,e⟩:=I.hok p _ h;exact⟨its,n,r,e,z⟩
theorem Inv.lstUpd{σ:St}{H:Hp}{p:Addr}{xs ys:List V}{its its':List Value}{n n':Nat}{f:Obj->Obj}(I:Inv X pins σ H s)(h:H p=some (.lst xs))
  (ho:s.heap.get? p=some { cls:=.type "list",data:=.seq its.toArray n }) (hf:f { cls:=.type "list",data:=.seq its.toArray n }={ cls:=.type "list",data:=.seq its'.toArray n' }) (r:bA ys its') (hz:ys.length<=sizeLine) (t:Nat) :
  Inv X pins σ (JA H p (.lst ys)) { s with heap:=s.heap.update p f,toks:=t }:=by
 have e:(s.heap.update p f).get? p=some { cls:=.type "list",data:=.seq its'.toArray n' }:=by rw[wL f ho (by rw[hf]<;>rfl),hf]
 refine I.write (x:=p) (e:=p) (by rw[h];trivial) (.inl rfl) (fun b u hb q=>(QAT _ _ (Qy hb)).trans q) ⟨_,e⟩ ?_;exact⟨hz,its',n',r,e⟩
def rSetL:V->V->V->Hp->(Hp->Prop)->Prop:=fun o i v H Q=>∃p xs k j,o=.ref p/\i=.int k/\H p=some (.lst xs)/\ixN xs.length k=some j/\Q (JA H p (.lst (xs.set j v)))
theorem set_list:PSet X rSetL:=by
 intro pins s σ H o i v ov iv u Q I ro ri rv h;obtain⟨p,xs,k,j,rfl,rfl,hp,hj,q⟩:=h;cases ro;obtain⟨t,rfl⟩:=ri;obtain⟨its,n,r,ho,hz⟩:=I.lst hp;obtain⟨h1,h2,h3,h4⟩:=ixN_seq hj;have hl:=r.length;have hn:=line63;have I':Inv X pins σ (JA H p (.lst (xs.set j v))) { s with heap:=s.heap.update p (qW (·.setIfInBounds j u)) } :=
  I.lstUpd hp ho (mapSeq_set its n j u) (r.set rv j) (by rw[qI];exact hz) s.toks
 by_cases h0:0<=k;have hk:k.toNat=j:=by rw[QBk h0 h4]at h1;exact Q7 h1
 exact PySem.W.ki_setAt ho h0 (by omega) (by rw[QO,<- hl];exact h4) (by rw[hk];exact⟨_,I',q⟩);have hk:(k+(its.toArray.size:Int)).toNat=j:=by rw[QBU (by omega) h3]at h1;rw[QO,<- hl];exact Q7 h1
 exact PySem.W.ki_setBack ho (by omega) (by rw[QO,<- hl];exact h3) (by omega) (by rw[hk];exact⟨_,I',q⟩)
theorem slice_bounds(lo hi:Option Int)(n:Nat):(sliceBounds lo hi none n).1=((HT.sIx n 0 lo:Nat):Int)/\(sliceBounds lo hi none n).2.1=((HT.sIx n n hi:Nat):Int)/\(sliceBounds lo hi none n).2.2=1:=by
 refine⟨?_,?_,rfl⟩;cases lo with
 |none=>simp[sliceBounds,HT.sIx]
 |some i=>simp only[sliceBounds,HT.sIx,QBb,show(1:Int) > 0 by decide,if_true];by_cases h:i<0;simp only[h,if_true]<;>omega;simp only[h,if_false]<;>omega
 cases hi with
 |none=>simp[sliceBounds,HT.sIx]
 |some i=>simp only[sliceBounds,HT.sIx,QBb,show(1:Int) > 0 by decide,if_true];by_cases h:i<0;simp only[h,if_true]<;>omega;simp only[h,if_false]<;>omega
theorem slicePick_cut(its:List Value)(lo hi:Option Int):slicePick its.toArray lo hi none=((its.drop (HT.sIx its.length 0 lo)).take (HT.sIx its.length its.length hi - HT.sIx its.length 0 lo)).toArray:=by obtain⟨h1,h2,h3⟩:=slice_bounds lo hi its.toArray.size;unfold slicePick;rw[h1,h2,h3];simp only[sliceRange_one,pick_run,QO]<;>rfl
def rSlL(K:QA):V->Option Int->Option Int->Hp->VK->Prop:=fun x lo hi H Q=>∃a xs,x=.ref a/\SqL K H a xs/\∀p,H p=none->Q (.ref p) (JA H p (.lst (cutV xs lo hi)))
theorem sl_list:SlR X (rSlL X.K):=by intro pins s σ H x v vl vu lo hi sl Q I rx hs pl pu h;obtain⟨a,xs,rfl,hx,q⟩:=h;cases rx;obtain⟨its,r,ht,hz⟩:=I.list hx;have hlen:=r.length;refine⟨"list",_,QBG.lookup,ht.isList.typeIs,?_⟩;refine wpAny_getItem_list_slice ht.isList hs pl pu .none (by simp) ?_ (by rw[QO]<;>omega);rw[slicePick_cut,<- hlen];refine⟨.ref s.heap.objs.size,_,I.laid (t':=s.toks) (o:=.lst (cutV xs lo hi)) (fun b ob q=>QH _ q) (QR _) ?_,rfl,q _ (I.hok.fresh (QR _))⟩;exact⟨QX (cutV_length xs lo hi) hz,_,0,(r.drop (HT.sIx xs.length 0 lo)).take (HT.sIx xs.length xs.length hi - HT.sIx xs.length 0 lo),QS _ rfl⟩
def flatV:V->Bool
 | .non=>true
 | .bl _=>true
 | .int _=>true
 | .str _=>true
 |_=>false
def eqV:V->V->Bool
 | .non,.non=>true
 | .bl a,.bl b=>a==b
 | .bl a,.int b=>(if a then 1 else 0)==b
 | .int a,.bl b=>a==(if b then 1 else 0)
 | .int a,.int b=>a==b
 | .str a,.str b=>a==b
 |_,_=>false
theorem eqAt_V{A:Around}{y:V}(ry:lA y u)(rx:lA x v)(fy:flatV y=true)(fx:flatV x=true):qg A s u v (eqV y x):=by
 cases y with
 |non =>
  cases ry;cases x with
  |non=>cases rx;exact qg.same _
  |bl b=>cases rx;exact qg.none_bool b
  |int b=>obtain⟨t,rfl⟩:=rx;exact qg.none_int b t
  |str b=>obtain⟨t,rfl⟩:=rx;exact qg.none_str b t
  |_=>exact absurd (show false=true from fx) QD
 |bl a =>
  cases ry;cases x with
  |non=>cases rx;exact qg.bool_none a
  |bl b=>cases rx;exact qg.bool_bool a b
  |int b=>obtain⟨t,rfl⟩:=rx;exact qg.bool_int a b t
  |str b=>obtain⟨t,rfl⟩:=rx;exact qg.bool_str a b t
  |_=>exact absurd (show false=true from fx) QD
 |int a =>
  obtain⟨t',rfl⟩:=ry;cases x with
  |non=>cases rx;exact qg.int_none a t'
  |bl b=>cases rx;exact qg.int_bool a t' b
  |int b=>obtain⟨t,rfl⟩:=rx;exact qg.int_int a t' b t
  |str b=>obtain⟨t,rfl⟩:=rx;exact QA1 a t' b t
  |_=>exact absurd (show false=true from fx) QD
 |str a =>
  obtain⟨t',rfl⟩:=ry;cases x with
  |non=>cases rx;exact qg.str_none a t'
  |bl b=>cases rx;exact qg.str_bool a t' b
  |int b=>obtain⟨t,rfl⟩:=rx;exact QA2 a t' b t
  |str b=>obtain⟨t,rfl⟩:=rx;exact qg.str_str a t' b t
  |_=>exact absurd (show false=true from fx) QD
 |_=>exact absurd (show false=true from fy) QD
def eqU(x:V)(u:Value):Bool:=match u with
 | .none=>eqV .non x
 | .bool b=>eqV (.bl b) x
 | .int i _=>eqV (.int i) x
 | .str z _=>eqV (.str z) x
 |_=>false
theorem eqU_of{y:V}(r:lA y u)(f:flatV y=true):eqU x u=eqV y x:=by
 cases y with
 |non=>cases r;rfl
 |bl b=>cases r;rfl
 |int i=>obtain⟨t,rfl⟩:=r;rfl
 |str z=>obtain⟨t,rfl⟩:=r;rfl
 |_=>exact absurd (show false=true from f) QD
theorem any_eqU{x:V}:∀{xs:List V}{us:List Value},bA xs us->xs.all flatV=true->us.any (eqU x)=xs.any fun y=>eqV y x
 |_,_,.nil,_=>rfl
 |y::xs,u::us,.cons r t,f=>by rw[qd,Qb]at f;rw[wy,wy,eqU_of r f.1,any_eqU t f.2]
theorem mem_eqAt{A:Around}{s:Shared}{x:V}{v:Value}(rx:lA x v)(fx:flatV x=true):∀{xs:List V}{us:List Value},bA xs us->xs.all flatV=true->∀u∈us,qg A s u v (eqU x u)
 |_,_,.nil,_=>fun u hu=>by cases hu
 |y::xs,u::us,.cons r t,f=>fun u' hu=>by rw[qd,Qb]at f;rcases QK.mp hu with rfl|hu;rw[eqU_of r f.1];exact eqAt_V r rx f.1 fx;exact mem_eqAt rx fx t f.2 u' hu
def inV(x:V)(xs:List V):Bool:=xs.any fun y=>eqV y x
def rIn(K:QA)(neg:Bool):R2:=fun x y H Q=>∃p xs,y=.ref p/\(SqL K H p xs∨SqT K H p xs)/\flatV x=true/\xs.all flatV=true/\Q (.bl (if neg then !inV x xs else inV x xs)) H
theorem op_in_seq:OpR X (compareOp .In) (rIn X.K false):=by intro pins s σ H x y v u Q I rx ry h;obtain⟨p,xs,rfl,hq,fx,fs,q⟩:=h;cases ry;rcases hq with hq|hq;obtain⟨its,r,pl,hz⟩:=I.list hq;refine SeqAt.in_listAt (eqU x) pl.isList (fun w hw=>mem_eqAt rx fx r fs w (by simpa using hw)) ⟨.bl _,H,I,rfl,?_⟩;rw[show its.toArray.any (eqU x)=its.any (eqU x) by simp,any_eqU r fs];exact q;obtain⟨its,r,pl,hz⟩:=I.tuple hq;refine SeqAt.in_tupleAt (eqU x) pl (fun w hw=>mem_eqAt rx fx r fs w (by simpa using hw)) ⟨.bl _,H,I,rfl,?_⟩;rw[show its.toArray.any (eqU x)=its.any (eqU x) by simp,any_eqU r fs];exact q
theorem op_notIn_seq:OpR X (compareOp .NotIn) (rIn X.K true):=by intro pins s σ H x y v u Q I rx ry h;obtain⟨p,xs,rfl,hq,fx,fs,q⟩:=h;cases ry;rcases hq with hq|hq;obtain⟨its,r,pl,hz⟩:=I.list hq;refine SeqAt.notIn_listAt (eqU x) pl.isList (fun w hw=>mem_eqAt rx fx r fs w (by simpa using hw)) ⟨.bl _,H,I,rfl,?_⟩;rw[show its.toArray.any (eqU x)=its.any (eqU x) by simp,any_eqU r fs];exact q;obtain⟨its,r,pl,hz⟩:=I.tuple hq;refine SeqAt.notIn_tupleAt (eqU x) pl (fun w hw=>mem_eqAt rx fx r fs w (by simpa using hw)) ⟨.bl _,H,I,rfl,?_⟩;rw[show its.toArray.any (eqU x)=its.any (eqU x) by simp,any_eqU r fs];exact q
theorem call_len_seq:CallR X (.builtin "len") (fun xs H Q=>∃p ys,xs=[.ref p]/\(SqL X.K H p ys∨SqT X.K H p ys)/\Q (.int ys.length) H):=by intro pins s σ H xs us Q I r h;obtain⟨p,ys,rfl,hq,q⟩:=h;obtain⟨u,rfl,rx⟩:=vals1 r;cases rx;have hn:=line63;rcases hq with hq|hq;obtain⟨its,r',pl,hz⟩:=I.list hq;have hlen:=r'.length;exact Calls.call_len_list pl.isList (by simp only[QO]<;>omega) ⟨.int ys.length,H,I.tok _,⟨s.toks+1,by rw[QO,hlen]⟩,q⟩;obtain⟨its,r',pl,hz⟩:=I.tuple hq;have hlen:=r'.length;exact len_tuple pl (by simp only[QO]<;>omega) ⟨.int ys.length,H,I.tok _,⟨s.toks+1,by rw[QO,hlen]⟩,q⟩
theorem call_len_str:CallR X (.builtin "len") (fun xs H Q=>∃z,xs=[.str z]/\z.length<=sizeLine/\Q (.int z.length) H):=by intro pins s σ H xs us Q I r h;obtain⟨z,rfl,hz,q⟩:=h;obtain⟨u,rfl,t,rfl⟩:=vals1 r;have hn:=line63;exact len_str (by omega) ⟨.int z.length,H,I.tok _,⟨_,rfl⟩,q⟩
theorem call_list_of:CallR X (.type "list") (fun xs H Q=>∃p ys,xs=[.ref p]/\(SqL X.K H p ys∨SqT X.K H p ys)/\∀l,H l=none->Q (.ref l) (JA H l (.lst ys))):=by
 intro pins s σ H xs us Q I r h;obtain⟨p,ys,rfl,hq,q⟩:=h;obtain⟨u,rfl,rx⟩:=vals1 r;cases rx;have fin:∀(its:List Value),bA ys its->ys.length<=sizeLine->∀(h':Heap) (c':Nat),(∀b o',s.heap.get? b=some o'->h'.get? b=some o') ->
   h'.get? s.heap.objs.size=some { cls:=.type "list",dict:=none,data:=.seq its.toArray c',slots:=#[] }->EP X pins σ Q (.ref s.heap.objs.size) { s with heap:=h' }:=fun its r' hz h' c' kp e =>
  ⟨.ref s.heap.objs.size,_,I.laid (t':=s.toks) kp (QR _) (show UA X.prog X.w _ h' _ (.lst ys) from⟨hz,its,c',r',e⟩),rfl,q _ (I.hok.fresh (QR _))⟩
 rcases hq with hq|hq;obtain⟨its,r',pl,hz⟩:=I.list hq;have hlen:=r'.length;obtain⟨o,ho,hc,n,hd⟩:=pl.isList;exact call_list_seq p (.inl rfl) ho hc hd (fun h' c' kp e=>fin its r' hz h' c' kp e) (by simp only[QO]<;>omega);obtain⟨its,r',pl,hz⟩:=I.tuple hq;have hlen:=r'.length;obtain⟨o,ho,hc,n,hd⟩:=pl;exact call_list_seq p (.inr rfl) ho hc hd (fun h' c' kp e=>fin its r' hz h' c' kp e) (by simp only[QO]<;>omega)
def tyV(K:QA)(T:String)(x:V)(H:Hp):Prop:=match x with
 | .str _=>T="str"
 | .int _=>T="int"
 | .ref p=>(T="list"/\∃xs,SqL K H p xs)∨(T="tuple"/\∃o,K.lookup p=some o/\o.cls=.type "tuple"/\o.dict=none) ∨
   (T="dict"/\((∃kvs,H p=some (.dK kvs))∨∃ep kvs,H p=some (.dT ep kvs)))∨(T="set"/\∃S n,H p=some (.set S n))
 |_=>False
theorem tyV_is{σ:St}{H:Hp}{T:String}(I:Inv X pins σ H s)(r:lA x v)(ty:tyV X.K T x H) :
  s.TypeIs v T/\∀a,v=.ref a->∃ob,s.heap.get? a=some ob/\ob.dict=none:=by
 cases x with
 |str z=>obtain⟨t,rfl⟩:=r;cases(show T="str" from ty);exact⟨QBt s z t,fun _ e=>nomatch e⟩
 |int i=>obtain⟨t,rfl⟩:=r;cases(show T="int" from ty);exact⟨QBu s i t,fun _ e=>nomatch e⟩
 |ref p =>
  cases r;rcases ty with⟨rfl,xs,hq⟩| ⟨rfl,o,hk,hc,hd⟩| ⟨rfl,hk⟩| ⟨rfl,S,n,hk⟩
  obtain⟨its,_,pl,_⟩:=I.list hq;refine⟨pl.isList.typeIs,fun a e=>?_⟩;cases e;obtain⟨o,n,e,c,hd,_⟩:=pl;exact⟨o,e,hd⟩;refine⟨⟨o,I.kIn p o hk,hc⟩,fun a e=>?_⟩;cases e;exact⟨o,I.kIn _ o hk,hd⟩;have z:∃o,s.heap.get? p=some o/\o.ExactDict:=by
   rcases hk with⟨kvs,hk⟩| ⟨ep,kvs,hk⟩
   obtain⟨_,_,_,_,o,_,_,e,ex,_⟩:=I.hok p _ hk;exact⟨o,e,ex⟩;obtain⟨_,_,_,_,o,_,e,ex,_⟩:=I.hok p _ hk;exact⟨o,e,ex⟩
  obtain⟨o,e,ex⟩:=z;refine⟨⟨o,e,ex.1⟩,fun a e2=>?_⟩;cases e2;exact⟨o,e,ex.2.1⟩;obtain⟨o,_,_,_,e,ex,_⟩:=I.hok p _ hk;refine⟨⟨o,e,ex.1⟩,fun a e2=>?_⟩;cases e2;exact⟨o,e,ex.2.1⟩
 |_=>exact QW ty
def tBM0(K:QA)(T:String)(r:V->List V->Hp->VK->Prop)(to:TE):TE:=fun σ H Q=>to σ H fun x H1=>tyV K T x H1/\r x [] H1 Q
def tBM(K:QA)(T:String)(r:V->List V->Hp->VK->Prop)(to:TE)(t:TA):TE:=fun σ H Q=>to σ H fun x H1=>tyV K T x H1/\t σ H1 fun xs H2=>r x xs H2 Q
end
variable{o e:Expr}{es:List Expr}{to:TE}{t:TA}{name:Str}{apos cpos:Pos}{T id:String}{r:V->List V->Hp->VK->Prop}
theorem pe_bm0(pa:PlainAttrs T)(slot:Slot T name id)(hty:typeOf (.builtin id)=pure (.type "method_descriptor"))(hm:MtR X id r)(ho:PE X o to)
  (hbase:attributeBase o name X.env (eval o X.env)=eval o X.env:=by rfl) (hline:(apos.endLine==cpos.line)=true:=by rfl):PE X (.Call (.Attribute o name apos) [] [] cpos) (tBM0 X.K T r to):=by
 intro pins s σ H Q I h;refine QAG hbase hline (thn (ho pins s σ H _ I h) fun v s1 ⟨x,H1,I1,r1,ty,q1⟩=>?_);obtain⟨h1,h2⟩:=tyV_is I1 r1 ty;exact⟨T,id,pa,slot,hty,h1,h2,WN rfl (QAs (hm pins s1 σ H1 x [] v [] Q I1 r1 .nil q1))⟩
theorem pe_bm(pa:PlainAttrs T)(slot:Slot T name id)(hty:typeOf (.builtin id)=pure (.type "method_descriptor"))(hm:MtR X id r)(ho:PE X o to)(ha:PA X (e::es) t)
  (hbase:attributeBase o name X.env (eval o X.env)=eval o X.env:=by rfl)
  (hfew:((backTo cpos (starEach (e::es) X.env)).all (fun x=>!x.1)&&(backToKw cpos (keywordEach [] X.env)).all (fun x=>x.1.isSome)
   && decide ((e::es).length+([]:List Keyword).length+(if([]:List Keyword).isEmpty then 0 else 1)<30))=true:=by rfl)
  (hline:(apos.endLine==cpos.line)=true:=by rfl) (hs:starEach (e::es) X.env=(false,eval e X.env)::starEach es X.env:=by rfl) (hplain:(backTo cpos (starEach es X.env)).any (·.1)=false:=by rfl) :
  PE X (.Call (.Attribute o name apos) (e::es) [] cpos) (tBM X.K T r to t):=by
 intro pins s σ H Q I h;refine wpAny_Call_method_late hbase hfew hline rfl (thn (ho pins s σ H _ I h) fun v s1 ⟨x,H1,I1,r1,ty,q1⟩=>?_);obtain⟨h1,h2⟩:=tyV_is I1 r1 ty;refine⟨T,id,pa,slot,hty,h1,h2,?_⟩;have hA:=ha cpos pins s1 σ H1 _ I1 q1;rw[hs]at hA ⊢;refine WN (by show(false||(backTo cpos (starEach es X.env)).any (·.1))=false;rw[hplain]<;>rfl) (Calls.evalArgs_plain ?_);exact thn hA fun us s2 ⟨vs,H2,I2,r2,q2⟩=>hm pins s2 σ H2 x vs v us Q I2 r1 r2 q2
end
def MtM(X:Cx)(id:String)(r:V->List V->Hp->VK->Prop):Prop :=
 ∀(pins:LAO) (s:Shared) (σ:St) (H:Hp) (x:V) (xs:List V) (v:Value) (us:List Value) (Q:VK),Inv X pins σ H s->lA x v->bA xs us->r x xs H Q ->
  wpAny (model X.prog X.w) X.A (call (.builtin id) (v::us)) (EP X pins σ Q) X.xe s
theorem bA.one:∀{x:V}{us:List Value},bA [x] us->∃u,us=[u]/\lA x u
 |_,_,.cons r .nil=>⟨_,rfl,r⟩
theorem bA.eraseIdx:∀{xs:List V}{us:List Value}(i:Nat),bA xs us->bA (xs.eraseIdx i) (us.eraseIdx i)
 |_,_,_,.nil=>.nil
 |_,_,0,.cons _ t=>t
 |_,_,i+1,.cons r t=>.cons r (bA.eraseIdx i t)
theorem bA.rep{xs:List V}{us:List Value}(h:bA xs us):∀k:Nat,bA (Qs k xs).flatten (Qs k us).flatten
 |0=>.nil
 |k+1=>by rw[qh,qh,qi,qi];exact bA.append h (bA.rep h k)
theorem len_erase{α:Type}:∀(l:List α) (i:Nat),(l.eraseIdx i).length<=l.length
 |[],_=>QR _
 |_::_,0=>wo _
 |_::r,i+1=>Nat.succ_le_succ (len_erase r i)
theorem foldl_rep(its:List Value):∀(k:Nat) (acc:List Value),
  QBv (fun x1 x2=>x1++x2) acc.toArray (Qs k its.toArray)=(acc++(Qs k its).flatten).toArray
 |0,acc=>by simp
 |k+1,acc=>by
  have e:acc.toArray++its.toArray=(acc++its).toArray:=by simp
  have e2:(acc++its)++(Qs k its).flatten=acc++(Qs (k+1) its).flatten:=by rw[qh,qi,qj]
  rw[<- e2,<- foldl_rep its k (acc++its),<- e,qh,wq]
section
variable{X:Cx}{pins:LAO}{σ:St}{H:Hp}{s:Shared}{l b:Addr}{xs ys zs:List V}
theorem Inv.lset{its its':List Value}{n:Nat}{f:Array Value->Array Value}{t':Nat}(I:Inv X pins σ H s)(hH:H l=some (.lst xs))
  (e:s.heap.get? l=some { cls:=.type "list",data:=.seq its.toArray n }) (hf:f its.toArray=its'.toArray) (hv:bA ys its') (hz:ys.length<=sizeLine) :
  Inv X pins σ (JA H l (.lst ys)) { s with heap:=s.heap.update l (qW f),toks:=t' }:=by
 have q:=PySem.IsL.update e f;rw[hf]at q;refine I.write (x:=l) (e:=l) (by rw[hH];exact trivial) (.inl rfl) (fun b' u hb hu=>(QAT s.heap (qW f) (Qy hb)).trans hu) ⟨_,q⟩ ?_;exact⟨hz,its',_,hv,q⟩
theorem Inv.lnew{its:List Value}{t':Nat}(I:Inv X pins σ H s)(hv:bA ys its)(hz:ys.length<=sizeLine) :
  Inv X pins σ (JA H s.heap.objs.size (.lst ys)) { s with heap:=s.heap.push { cls:=.type "list",data:=.seq its.toArray },toks:=t' } :=
 I.laid (fun _ _ q=>QH _ q) (QR _) ⟨hz,its,0,hv,QS _ rfl⟩
theorem Inv.fresh(I:Inv X pins σ H s):H s.heap.objs.size=none:=I.hok.fresh (QR _)
theorem Inv.lstM(I:Inv X pins σ H s)(hH:H l=some (.lst xs)):xs.length<=sizeLine/\∃(its:List Value) (n:Nat),bA xs its/\xs.length=its.length/\s.heap.get? l=some { cls:=.type "list",data:=.seq its.toArray n }:=by obtain⟨z,its,n,r,e⟩:=I.hok l _ hH;exact⟨z,its,n,r,r.length,e⟩
theorem notLongL{n:Nat}(h:n<=sizeLine):WG n=false:=by unfold WG;exact dF (by omega)
end
section
variable{X:Cx}
def rAppend:V->List V->Hp->VK->Prop:=fun x vs H Q=>∃l xs y,x=.ref l/\vs=[y]/\H l=some (.lst xs)/\xs.length<sizeLine/\Q .non (JA H l (.lst (xs++[y])))
theorem mt_append:MtM X "list.append" rAppend:=by intro pins s σ H x vs v us Q I rx rv h;obtain⟨l,xs,y,rfl,rfl,hH,hz,q⟩:=h;cases rx;obtain⟨u,rfl,ru⟩:=rv.one;obtain⟨z,its,n,r,hl,e⟩:=I.lstM hH;refine QAg F.slot_list_append ⟨_,e,rfl⟩ F.entry_list_append (F.args_list_append_2 _ _) (PySem.list_append l its.toArray n u (by rw[QO];omega)) ⟨e,?_⟩;refine⟨.non,_,I.lset (its':=its++[u]) hH e (by simp) (r.append (.cons ru .nil)) ?_,rfl,q⟩;rw[QM,Qn];omega
def rPopAt:V->List V->Hp->VK->Prop:=fun x vs H Q=>∃l xs i k y,x=.ref l/\vs=[.int i]/\H l=some (.lst xs)/\-(2 ^ 63)<=i/\i<2 ^ 63/\seqIndex? i xs.length=some k/\xs[k]?=some y/\Q y (JA H l (.lst (xs.eraseIdx k)))
theorem mt_popAt:MtM X "list.pop" rPopAt:=by
 intro pins s σ H x vs v us Q I rx rv h;obtain⟨l,xs,i,k,y,rfl,rfl,hH,h1,h2,hk,hy,q⟩:=h;cases rx;obtain⟨u,rfl,ru⟩:=rv.one;obtain⟨t,rfl⟩:=ru;obtain⟨z,its,n,r,hl,e⟩:=I.lstM hH;obtain⟨w,hw,rw'⟩:=r.get hy;refine QAg F.slot_list_pop ⟨_,e,rfl⟩ F.entry_list_pop (F.args_list_pop_2 _ _)
  (MeetsSeq.list_pop_at l its.toArray n i t k w (fitsIndex_both h1 h2) (by rw[QO,<- hl];exact hk) (by rw[<- wr];exact hw) (by rw[QO];omega)) ⟨e,?_⟩
 refine⟨y,_,I.lset (its':=its.eraseIdx k) hH e ?_ (r.eraseIdx k) ?_,rw',q⟩;show its.toArray.eraseIdxIfInBounds k=(its.eraseIdx k).toArray;rw[List.eraseIdxIfInBounds_toArray];have:=len_erase xs k;omega
def rRep:R2:=fun x y H Q=>∃l k xs,x=.ref l/\y=.int k/\H l=some (.lst xs)/\-(2 ^ 63)<=k/\k<2 ^ 63/\xs.length * k.toNat<=sizeLine /\
 ∀p,H p=none->Q (.ref p) (JA H p (.lst (Qs k.toNat xs).flatten))
theorem len_rep{α:Type}(xs:List α)(k:Nat):(Qs k xs).flatten.length=k * xs.length:=by
 induction k with
 |zero=>simp
 |succ k ih=>rw[qh,qi,QM,ih,Nat.succ_mul,Nat.add_comm]
theorem op_rep:OpR X (binaryOp .Mult) rRep:=by
 intro pins s σ H x y v u Q I rx ry h;obtain⟨l,k,xs,rfl,rfl,hH,h1,h2,hz,q⟩:=h;cases rx;obtain⟨t,rfl⟩:=ry;obtain⟨z,its,n,r,hl,e⟩:=I.lstM hH;have hlen:its.toArray.size * k.toNat<=sizeLine:=by rw[QO,<- hl];exact hz
 have hcap:¬ its.toArray.size * k.toNat > (2 ^ 63 - 1) / 8:=by
  have:(sizeLine:Nat)<=(2 ^ 63 - 1) / 8:=by decide
  omega
 have hfit:¬ (!Builtin.List.listFitsIndex k)=true:=by rw[fitsIndex_both h1 h2];exact QD
 have hlong:¬ WG (its.toArray.size * k.toNat)=true:=by rw[notLongL hlen];exact QD
 have hnew:QBv (fun x1 x2=>x1++x2) #[] (Qs (if its.toArray.isEmpty=true then 0 else k.toNat) its.toArray)=(Qs k.toNat its).flatten.toArray:=by
  have f0:∀m:Nat,QBv (fun x1 x2=>x1++x2) #[] (Qs m its.toArray)=(Qs m its).flatten.toArray:=fun m=>by have:=foldl_rep its m [];rw[qa]at this;exact this
  rw[f0];cases its with
  |nil=>simp
  |cons a r'=>rw[if_neg (by simp)]
 refine wpAny_binaryOp_repeat_ref (T:="list") (U:="int") (by decide) ⟨_,e,rfl⟩ (fun s'=>QBu s' k t) noFill_list_mul F.fills_int_mul QBl repeat_list F.slot_int_index.lookup
  (QAg QBl (QBu s k t) F.entry_int_rmul (F.args_int_rmul_2 _ _) (int___rmul___int_list k t l its.toArray n)
   ⟨e,rfl,⟨_,e,rfl⟩,QAg F.slot_list_mul ⟨_,e,rfl⟩ F.entry_list_mul (F.args_list_mul_2 _ _) (AutoListH.list___mul___list_int_3 l its.toArray n k t hfit hcap hlong) ⟨e,?_⟩⟩)
 rw[hnew];exact⟨.ref _,_,I.lnew (t':=s.toks) (r.rep k.toNat) (by rw[len_rep,Nat.mul_comm];exact hz),rfl,q _ I.fresh⟩
end
section
variable{prog:Program}{w:World}{A:Around}{E:VSP}{s:Shared}
end
section
variable{X:Cx}
end
end L2
namespace Att
open PySem PySem.W PySem.Calls PyProof.Rows
theorem ints_of_wellAll{P:Params}{h:Heap}:∀(ns:List Int) (vs:List Value),WellAll P h vs (ns.map WData.int)->IntsAre vs ns:=by
 intro ns;induction ns with
 |nil=>intro vs w;rw[wZ]at w;cases w;exact .nil
 |cons n ns ih =>
  intro vs w;rw[QN]at w;cases w with
  |cons a b=>cases a;exact .cons _ _ (ih _ b)
theorem script_of{l:OpenLaw}{n:Nat}(hn:l.most=some n){P:Params}{h:Heap}{args:List WData}{vals:List Value}
  (hpre:l.row.toRowW.claim.pre args=true) (hwl:WellAll P h vals args) :
  ∃a vs ns,vals=[Value.ref a]/\args=[WData.list (ns.map WData.int)]/\h.get? a=some { cls:=.type "list",data:=.seq vs.toArray }/\IntsAre vs ns/\ns.length<=n:=by
 have hsh:WShape.hasAll [] args [.list .int]=true:=(pre_splitW hpre).1;have hc:l.pre.holds [] { args:=args }=true:=(pre_splitW hpre).2;obtain⟨d,r,rfl,h1,h2⟩:=hasAllW_cons hsh;obtain rfl:=hasAllW_nil h2;obtain⟨xs,rfl,h3⟩:=hasW_list h1;obtain⟨ns,rfl⟩:=items_int h3;have hlen:ns.length<=n:=by
  unfold OpenLaw.pre at hc;have h4:(WTm.not (.lt (.lit (.int (n:Int))) (.len (.arg 0)))).holds [] { args:=[.list (ns.map .int)] }=true:=by have h4:=(holds_andW hc).1;rw[hn]at h4;exact h4
  have h5:=condW_of h4 (w_not (w_lt w_lit (w_len_list (w_arg rfl))));rw[QG]at h5;refine Nat.le_of_not_lt fun q=>?_;have q':(n:Int)<((ns.length:Nat):Int):=by omega
  first
   | (rw[dT q']at h5;exact absurd h5 (by decide))
   | (simp at h5;omega)
 cases hwl with
 |cons w1 w2 =>
  cases w2;cases w1 with
  |list ho hall=>exact⟨_,_,ns,rfl,rfl,ho,ints_of_wellAll ns _ hall,hlen⟩
theorem post_true(l:OpenLaw)(args:List WData):l.row.toRowW.claim.post args (.bool true) args=true :=
 postW_of (r:=l.row.toRowW) (X:=(true==true))
  (show WShape.has [] (.bool true) .bool=true by first|rfl|decide|simp[WShape.has,WShape.arms,WShape.armsAll])
  (show(WTm.eq .res (.lit (.bool true))).value [] { args:=args,res:=some (.bool true),after:=args }=some (.bool (true==true)) from w_eq_bool (w_res rfl) w_lit) rfl
section
variable{prog:Program}{w:World}{A:Around}{E:VSP}{s:Shared}{K:Frag}
end
end Att
namespace L2
open PySem PySem.Spec PyProof.Rows
theorem vals_ints:∀{vs:List Value}{ns:List Int},IntsAre vs ns->bA (ns.map V.int) vs
 |_,_,.nil=>.nil
 |_,_,.cons n t h=>.cons ⟨t,rfl⟩ (vals_ints h)
def Only(H:Hp):Prop:=∀b,H b=none∨∃o xs,H b=some (.frz o (.lst xs))
theorem law_call{P:Program}{w:World}{K:QA}{mg mb:Str->Option Value}{CX:CXT}{k:Nat}{fa a:Addr}{fd:FuncData}{x:Str}{sp:Sp}{s₁:Shared}{vs:List Value}{ns:List Int}
  (KX:K.In s₁.heap) (hns:s₁.heap.Ns mainGlobals mg) (hb:s₁.heap.Ns builtinsNs mb) (hbb:∀x:Str,x≠"__name__"->mb x=bootBuiltins x) (hlim:s₁.heap.NoLimit) (hg:s₁.gens=#[])
  (ha:s₁.heap.get? a=some { cls:=.type "list",data:=.seq vs.toArray }) (hi:IntsAre vs ns) (hl:ns.length<=sizeLine) (hr:Room k callerA)
  (F:∀base:Heap,K.In base->base.Ns mainGlobals mg->FnOk P w K mg base CX k fa fd [x] sp) (hbind:∀(s:Shared) (u:Value),BindsTo s fd ⟨[u],[]⟩ [(x,u)])
  (hsp:∀H:Hp,Only H->SqL K H a (ns.map V.int)->sp [.ref a] H (fun v _=>v=.bl true) fun _ _ _=>False)
  (hCX:∀H e s',CX [] H s₁ (fun _ _ _=>False) e s'->False) :
  codeAny (model P w) callerA (.call (.ref fa) ⟨[.ref a],[]⟩) (fun r s'=>r=.ok (.ret (.bool true))/\OldK s₁.heap s'.heap/\s'.os=s₁.os/\AllBare s'.gens) s₁:=by
 have rv:=vals_ints hi;have lenV:=hi.length;have core:∀H:Hp,Only H->SqL K H a (ns.map V.int)->HOk P w H s₁.heap->(∀b,H b≠none->b=a)->(H a≠none->K.lookup a=none) ->
   codeAny (model P w) callerA (.call (.ref fa) ⟨[.ref a],[]⟩) (fun r s'=>r=.ok (.ret (.bool true))/\OldK s₁.heap s'.heap/\s'.os=s₁.os/\AllBare s'.gens) s₁:=by
  intro H hO hS hok hA hK;have base_of:∀{b:Addr}{o:Obj},s₁.heap.get? b=some o->H b=none->(hidT s₁.heap H).get? b=some o:=fun e n=>hidT_get e n;have noA:∀{b:Addr}{o:Obj}{es:Array DictEntry}{ep:Nat},s₁.heap.get? b=some o->o.data=.dict es ep->H b=none:=fun {b o es ep} e d=>by
   cases q:H b with
   |none=>rfl
   |some u=>have e':b=a:=hA b (by rw[q];simp);subst e';rw[ha]at e;cases e;have d':Data.seq vs.toArray _=Data.dict es ep:=d;cases d'
  have nsK:∀{b:Addr}{m:Str->Option Value},s₁.heap.Ns b m->(hidT s₁.heap H).Ns b m:=fun {b m} ⟨o,es,ep,e,d,r⟩=>⟨o,es,ep,base_of e (noA e d),d,r⟩
  have hKb:K.In (hidT s₁.heap H):=fun b o e=>base_of (KX b o e) (by
   cases q:H b with
   |none=>rfl
   |some u=>have e':b=a:=hA b (by rw[q];simp);subst e';rw[hK (by rw[q];simp)]at e;cases e)
  have hM:Mod K mg (hidT s₁.heap H):=⟨hKb,nsK hns,⟨mb,nsK hb,hbb⟩,let⟨mc,h1,h2⟩:=hlim;⟨mc,nsK h1,h2⟩⟩
  have e0:Env0 P w K mg (hidT s₁.heap H) callerA [] s₁ H:=⟨rfl,hM,fun b o e=>of_hidT e,WU (hidT_size _ _),trivial,fun b hb=>absurd (show b∈([]:List Addr) from hb) (by simp),hok,.of_eq hg⟩
  refine Wu ((F _ hKb (nsK hns)).run callerA [] s₁ H ⟨[.ref a],[]⟩ [.ref a] [.ref a] _ _ hr e0 (hbind s₁ (.ref a)) (.cons rfl .nil) (hsp H hO hS)) fun r s' h=>?_;cases r with
  |error e=>exact(hCX H e s' h).elim
  |ok fl =>
   cases fl with
   |next=>exact QW h
   |brk=>exact QW h
   |cont=>exact QW h
   |ret u =>
    obtain⟨v,H',os,bare,un,hok',r',q⟩:=h;have q':v=.bl true:=q;subst q';obtain rfl:u=Value.bool true:=r';refine⟨rfl,OldK.of_keep fun b o e=>?_,os,bare⟩;cases q:H b with
    |none=>exact un.keep b o e q (by intro z;exact absurd (show b∈([]:List Addr) from z) (by simp)) (by simp)
    |some u =>
     rcases hO b with z|⟨ob,xs,z⟩
     rw[q]at z;cases z;have z2:=un.frzs b ob _ z;obtain⟨e1,_⟩:=hok b _ z;obtain⟨e2,_⟩:=hok' b _ z2;rw[e]at e1;cases e1;exact e2
 cases hk:K.lookup a with
 |some o=>have e:=KX a o hk;rw[ha]at e;cases e;refine core (fun _=>none) (fun _=>.inl rfl) (.inr ⟨_,vs.toArray,_,hk,rfl,rfl,rfl,by rw[QO,lenV];exact hl,by simpa using rv⟩) (fun b u z=>by have z':(none:Option HO)=some u:=z;cases z') (fun b z=>absurd rfl z) fun z=>absurd rfl z
 |none =>
  refine core (fun b=>if b=a then some (.frz { cls:=.type "list",data:=.seq vs.toArray } (.lst (ns.map V.int))) else none) (fun b=>?_) (.inl (.inr ⟨{ cls:=.type "list",data:=.seq vs.toArray },if_pos rfl⟩)) (fun b u z=>?_) (fun b z=>?_) fun _=>hk;by_cases hb:b=a
  ·exact .inr ⟨_,_,if_pos hb⟩
  exact .inl (if_neg hb);by_cases hb:b=a
  ·have z':=(if_pos hb).symm.trans z
   cases z';subst hb;exact⟨ha,by rw[QG];exact hl,vs,_,rv,ha⟩
  have z':=(if_neg hb).symm.trans z;cases z';by_cases hb:b=a
  ·exact hb
  exact absurd (if_neg hb) z
def defArgs(s:Stmt):Arguments:=match s with
 | .FunctionDef _ a _ _ _ _ _ _ _ _=>a
 |_=>{ posonlyargs:=[],args:=[],vararg:=none,kwonlyargs:=[],kw_defaults:=[],kwarg:=none,defaults:=[] }
def defBody(s:Stmt):List Stmt:=match s with
 | .FunctionDef _ _ b _ _ _ _ _ _ _=>b
 |_=>[]
def LA(s:Stmt):Scope:=match s with
 | .FunctionDef _ _ _ _ _ _ sc _ _ _=>sc
 |_=>{ kind:=.function,names:=[],isGenerator:=false,isCoroutine:=false }
noncomputable abbrev CX0:CXT:=fun _ _ _ _ _ _=>False
noncomputable abbrev E0:XK:=fun _ _ _=>False
theorem pass0{X:Cx}:Passes CX0 X E0:=fun _ _ _ _ _ _ _ h=>h.elim
structure Fun(K:QA)(x qual:Str)(st:Stmt)(f:Addr)(fd:FuncData):Prop where
 ex:∃(oc:Value) (od:Option Addr) (kV doc pm:Value) (an:Option Addr) (cdv ct:Value) (osl:Array (Option Value)),
  fd=wK x qual (defArgs st) (defBody st) (LA st) .none kV doc pm an cdv ct/\K.lookup f=some ⟨oc,od,.func fd,osl⟩/\Wx K cdv qual=true
 kp:wk K (.ref f)=true
section
variable{P:Program}{w:World}{K:QA}{mg:Str->Option Value}{base:Heap}
section
variable{x qual:Str}{st:Stmt}{f:Addr}{fd:FuncData}{ps:List Str}
theorem Fun.ok{N:List Str}{k:Nat}{sp:Sp}(F:Fun K x qual st f fd)(S:FnScope N ps (LA st))(len:∀vs H Q E,sp vs H Q E->vs.length=ps.length)
  (hbody:∀(cdv:Value) (A:Around) (outer:List Env) (s:Shared) (H:Hp) (vs:List V) (Q:VK) (E:XK),Room k (A.deeper (envOfC qual (LA st) s.heap.objs.size f cdv))->sp vs H Q E ->
   ∃t,PSs (cxOf CX0 P w K mg base N qual (LA st) f cdv A outer s H E).nox (defBody st) t/\t { nx:=fun _ H'=>Q .non H',rt:=Q } (start N vs) H):FnOk P w K mg base CX0 (k+1) f fd ps sp:=by
 obtain⟨oc,od,kV,doc,pm,an,cdv,ct,osl,rfl,lk,hcd⟩:=F.ex;refine fn_of lk hcd S len fun A outer s H vs Q E hr hsp=>?_;obtain⟨t,h,q⟩:=hbody cdv A outer s H vs Q E hr hsp;exact⟨t,h.nox,q⟩
theorem Fun.binds(F:Fun K x qual st f fd)
  (h:∀(kV doc pm:Value) (an:Option Addr) (cdv ct:Value) (us:List Value),us.length=ps.length->bindArgs (wK x qual (defArgs st) (defBody st) (LA st) .none kV doc pm an cdv ct) ⟨us,[]⟩=pure (ps.zip us)):Binds K fd ps []:=by
 obtain⟨oc,od,kV,doc,pm,an,cdv,ct,osl,rfl,lk,hcd⟩:=F.ex;exact .all (h kV doc pm an cdv ct)
theorem fun_mk{oc:Value}{od an:Option Addr}{osl:Array (Option Value)}{kV doc pm cdv ct:Value}(l:K.lookup f=some ⟨oc,od,.func (wK x qual (defArgs st) (defBody st) (LA st) .none kV doc pm an cdv ct),osl⟩)
  (c:Wx K cdv qual=true) (k:wk K (.ref f)=true):Fun K x qual st f (wK x qual (defArgs st) (defBody st) (LA st) .none kV doc pm an cdv ct):=⟨⟨oc,od,kV,doc,pm,an,cdv,ct,osl,rfl,l,c⟩,k⟩
end
end
section
variable{X:Cx}
end
def Same(H H':Hp):Prop:=∀b o,H b=some o->H' b=some o
theorem Same.refl(H:Hp):Same H H:=fun _ _ h=>h
theorem Same.trans{H H1 H2:Hp}(a:Same H H1)(b:Same H1 H2):Same H H2:=fun c o h=>b c o (a c o h)
theorem Same.free{H H':Hp}(e:Same H H'){l:Addr}(h:H' l=Option.none):H l=Option.none:=by
 cases q:H l with
 |none=>rfl
 |some o=>rw[e l o q]at h;cases h
theorem Same.seq{K:QA}{H H':Hp}{a:Addr}{xs:List V}(e:Same H H')(h:SqL K H a xs):SqL K H' a xs:=by rcases h with(h|⟨o,h⟩)|h;exact .inl (.inl (e _ _ h));exact .inl (.inr ⟨o,e _ _ h⟩);exact .inr h
def clOf(env:Env):List (Str×NameKind)->List (Str×Addr)->List (Str×Addr)
 |[],cs=>cs
 | (n,k)::r,cs=>clOf env r (if k==.free then(n,(env.cells.lookup n).getD 0)::cs else cs)
theorem closure_eq{scope:Scope}{env:Env}(h:∀y∈scope.names,y.2=.free->∃c,env.cells.lookup y.1=some c):closureFor scope env=pure (clOf env scope.names []):=by
 have key:∀(l:List (Str×NameKind)) (cs:List (Str×Addr)),(∀y∈l,y.2=.free->∃c,env.cells.lookup y.1=some c) ->
   (forIn l cs fun(x:Str×NameKind) (r:List (Str×Addr))=>(if(x.2==NameKind.free)=true then(do let c <- cellOf env x.1;pure (ForInStep.yield ((x.1,c)::r))) else pure (ForInStep.yield r):Sem (ForInStep (List (Str×Addr)))))=pure (clOf env l cs):=by
  intro l;induction l with
  |nil=>intro cs _;rfl
  |cons y l ih =>
   intro cs hl;obtain⟨n,k⟩:=y;rw[QAa];by_cases hk:k=.free;subst hk;obtain⟨c,hc⟩:=hl (n,.free) QF rfl;have hc:env.cells.lookup n=some c:=hc;simp only[beq_self_eq_true,if_true,cellOf,hc,pure_bind,clOf,QBc];exact ih _ fun z hz=>hl z (QE _ hz);have hb:(k==NameKind.free)=false:=by simpa using hk
   simp only[hb,qN,if_false,pure_bind,clOf];exact ih _ fun z hz=>hl z (QE _ hz)
 have e:=key scope.names [] h;unfold closureFor;exact(congrArg (· >>= pure) e).trans (pure_bind _ _)
theorem clOf_look{env:Env}{x:Str}{c:Addr}:∀(l:List (Str×NameKind)) (cs:List (Str×Addr)),(∀y∈l,y.2=.free->∃c,env.cells.lookup y.1=some c)->(∀c,cs.lookup x=some c->env.cells.lookup x=some c) ->
  (clOf env l cs).lookup x=some c->env.cells.lookup x=some c
 |[],cs,_,hc,h=>hc c h
 | (n,k)::r,cs,hl,hc,h=>by
  refine clOf_look r _ (fun z hz=>hl z (QE _ hz)) (fun d hd=>?_) h;by_cases hk:k=.free;subst hk;obtain⟨e,he⟩:=hl (n,.free) QF rfl;have he:env.cells.lookup n=some e:=he;simp only[beq_self_eq_true,if_true,he,QBc,WC]at hd;cases hx:x==n with
  |true=>rw[hx]at hd;cases hd;rw[qV hx];exact he
  |false=>rw[hx]at hd;exact hc d hd
  have hb:(k==NameKind.free)=false:=by simpa using hk
  simp only[hb,qN,if_false]at hd;exact hc d hd
theorem clOf_has{env:Env}{x:Str}:∀(l:List (Str×NameKind)) (cs:List (Str×Addr)),((∃c,cs.lookup x=some c)∨(x,NameKind.free)∈l)->∃c,(clOf env l cs).lookup x=some c
 |[],cs,h=>by rcases h with h|h;exact h;cases h
 | (n,k)::r,cs,h=>by
  refine clOf_has r _ ?_;rcases h with⟨c,h⟩| h;refine .inl ?_;split;rw[WC];split;exact⟨_,rfl⟩;exact⟨c,h⟩;exact⟨c,h⟩;rcases QK.mp h with h|h
  ·cases h
   refine .inl ?_;simp
  exact .inr h
def hideN:List Bool->Nat->List Str->List Str
 |b::m,j,x::N=>(if b then⟨#[46,j]⟩ else x)::hideN m (j+1) N
 |_,_,N=>N
def maskS:List Bool->St->St
 |b::m,v::σ=>(if b then none else v)::maskS m σ
 |_,σ=>σ
theorem maskS_len:∀(m:List Bool) (σ:St),(maskS m σ).length=σ.length
 |[],σ=>by unfold maskS;rfl
 |_::_,[]=>by unfold maskS;rfl
 |b::m,v::σ=>by unfold maskS;rw[QL,QL,maskS_len m σ]
theorem hideN_len:∀(m:List Bool) (j:Nat) (N:List Str),(hideN m j N).length=N.length
 |[],_,N=>by unfold hideN;rfl
 |_::_,_,[]=>by unfold hideN;rfl
 |b::m,j,x::N=>by unfold hideN;rw[QL,QL,hideN_len m (j+1) N]
theorem mask_get:∀(m:List Bool) (j:Nat) (N:List Str) (σ:St) (i:Nat) (v:V),(maskS m σ)[i]?=some (some v)->σ[i]?=some (some v)/\(hideN m j N)[i]?=N[i]?
 |[],_,N,σ,i,v,h=>by unfold maskS at h;unfold hideN;exact⟨h,rfl⟩
 |_::_,_,N,[],i,v,h=>by unfold maskS at h;simp at h
 |b::m,j,[],w::σ,i,v,h=>by
  unfold maskS at h;cases i with
  |zero =>
   cases b with
   |true=>simp at h
   |false=>simp at h;subst h;exact⟨by simp,by unfold hideN;rfl⟩
  |succ i=>have q:=(mask_get m (j+1) [] σ i v (by simpa using h)).1;exact⟨by simpa using q,by unfold hideN;rfl⟩
 |b::m,j,x::N,w::σ,0,v,h=>by
  unfold maskS at h;cases b with
  |true=>simp at h
  |false=>simp at h;subst h;exact⟨by simp,by unfold hideN;simp⟩
 |b::m,j,x::N,w::σ,i+1,v,h=>by unfold maskS at h;have q:=mask_get m (j+1) N σ i v (by simpa using h);unfold hideN;exact⟨by simpa using q.1,by simpa using q.2⟩
def relabelS(scope sc:Scope):Scope :=
  { scope with names:=scope.names.map fun(n,k)=>if(k==.free&&sc.kind==.function&&sc.names.lookup n==some .cell) then(n,.cell) else(n,k) }
theorem relabelS_look(sc:Scope)(x:Str):∀(l:List (Str×NameKind)),
  (l.map fun(n,k)=>if(k==NameKind.free&&sc.kind==.function&&sc.names.lookup n==some .cell) then(n,NameKind.cell) else(n,k)).lookup x =
   (l.lookup x).map fun k=>if(k==NameKind.free&&sc.kind==.function&&sc.names.lookup x==some .cell) then NameKind.cell else k
 |[]=>rfl
 | (n,k)::r=>by
  rw[QN];have e:(if(k==NameKind.free&&sc.kind==.function&&sc.names.lookup n==some .cell)=true then(n,NameKind.cell) else(n,k)) =
    (n,if(k==NameKind.free&&sc.kind==.function&&sc.names.lookup n==some .cell)=true then NameKind.cell else k):=by split<;>rfl
  show List.lookup x ((if(k==NameKind.free&&sc.kind==.function&&sc.names.lookup n==some .cell)=true then(n,NameKind.cell) else(n,k))::_)=_;rw[e,WC,WC];cases hx:x==n with
  |true=>rw[qV hx];simp
  |false=>exact relabelS_look sc x r
structure CompSt(N:List Str)(sc scope:Scope)(tgs:List Str)(mask:List Bool):Prop where
 kind:scope.kind=.function
 nocell:∀y∈scope.names,y.2≠.cell
 names:∀y∈scope.names,y.2=.local->scope.names.lookup y.1=some .local
 free:∀y∈scope.names,y.2=.free->sc.names.lookup y.1=some .cell∨sc.names.lookup y.1=some .free
 loc:∀y∈scope.names,y.2=.local->y.1∈tgs∨y.1=(".0":Str)
 nd:(tgs++hideN mask 0 N).Nodup
 no0:(".0":Str)∉tgs++hideN mask 0 N
def BA(X:Cx)(scope:Scope)(tgs:List Str)(mask:List Bool)(s:Shared)(H:Hp)(ex:List Addr):Cx :=
  { X with N:=tgs++hideN mask 0 X.N,s₀:=s,H₀:=H,env:=compEnvC scope (clOf X.env scope.names []) s.heap.objs.size X.env,outer:=X.stack,stack:=X.stack,ex:=ex,fn:=fun _=>false,pn:=[],xe:=fun _ _=>False }
def entS(k:Nat)(mask:List Bool)(σ:St):St:=Qs k none++maskS mask σ
section
variable{X:Cx}{pins:LAO}{σ:St}{H:Hp}{s:Shared}{scope:Scope}{tgs:List Str}{mask:List Bool}{ex:List Addr}
theorem CompSt.cells(C:CompSt X.N X.env.scope scope tgs mask)(ok:X.Ok):∀y∈scope.names,y.2=.free->∃c,X.env.cells.lookup y.1=some c:=fun y hy hf =>
 ok.has y.1 (C.free y hy hf)
theorem CompSt.kindCF(C:CompSt X.N X.env.scope scope tgs mask){x:Str}(h:(relabel scope X.env).names.lookup x=some .cell∨(relabel scope X.env).names.lookup x=some .free):(x,NameKind.free)∈scope.names:=by
 have e:=relabelS_look X.env.scope x scope.names;have e':(relabel scope X.env).names.lookup x=(scope.names.lookup x).map fun k=>if(k==NameKind.free&&X.env.scope.kind==.function&&X.env.scope.names.lookup x==some .cell) then NameKind.cell else k:=e
 rw[e']at h;cases q:scope.names.lookup x with
 |none=>rw[q]at h;simp at h
 |some k =>
  have hm:=qH q;have nc:=C.nocell _ hm;cases k with
  |free=>exact hm
  |cell=>exact absurd rfl nc
  | «local»=>rw[q]at h;simp at h
  |_=>rw[q]at h;simp at h
theorem comp_start(I:Inv X pins σ H s)(C:CompSt X.N X.env.scope scope tgs mask)(hex:∀b∈ex,FpOk X pins H b/\b<s.heap.objs.size){h':Heap}{t':Nat}
  (hn:h'.Ns s.heap.objs.size (fun _=>none)) (hs:qG s.heap.objs.size (s.heap.push { cls:=.type "dict",data:=.dict #[] }) h') :
  Inv (BA X scope tgs mask s H ex) [] (entS tgs.length mask σ) H { s with heap:=h',toks:=t' }:=by
 have kept:∀b u,s.heap.get? b=some u->h'.get? b=some u:=fun b u e=>hs.extBut b u (Qg (QU e)) (QH _ e);have look:∀x c,(clOf X.env scope.names []).lookup x=some c->X.env.cells.lookup x=some c:=fun x c e=>clOf_look scope.names [] (C.cells I.ok) (fun c z=>by simp at z) e;have nofs:∀b∈ex,b∉frs X.stack:=fun b hb z=>by obtain⟨⟨_,f1,f2,_⟩,_⟩:=hex b hb;rcases QK.mp (I.stkSub b z) with e|e;exact f1 e;exact f2 e
 refine⟨⟨I.ok.mod,C.kind,I.ok.glob,I.ok.blt,QR _,fun x y c h1 h2=>I.ok.inj x y c (look x c h1) (look y c h2),fun x hx=>?_,fun x c hf _=>absurd (show false=true from hf) QD,I.ok.hd,I.ok.frames,.inl rfl,fun b hb=>?_,I.bs,QX I.ok.bsz I.sz,fun b o e hb=>?_,nofs,I.stack,I.stkFree⟩,
  rfl,I.bare,Un.kept kept,⟨_,hn,fun i x v h1 h2 h3=>?_⟩,fun x c h=>?_,I.hok.fresh (QR _),fun x c h=>I.freeC x c (look x c h),fun p hp=>absurd (show p∈([]:LAO) from hp) (by simp),I.hok.kept kept,?_⟩
 exact clOf_has scope.names [] (.inr (C.kindCF hx));obtain⟨⟨_,_,_,_,f4,_⟩,lt⟩:=hex b hb;exact⟨Qg lt,fun x c e=>f4 x c (look x c e)⟩;obtain⟨⟨_,_,_,f3,_⟩,_⟩:=hex b hb;rcases f3 with z|z;exact I.ok.noex b o e z;exact absurd (Qj (QU (I.ok.bs b o e).1) z) (qu _)
 ·
  have hi:tgs.length<=i:=by rcases QAb i tgs.length with z|z;unfold entS at h2;rw[Qq (by simpa using z),wb]at h2;split at h2<;>cases h2;exact z
  have h1':(hideN mask 0 X.N)[i - tgs.length]?=some x:=by have:(tgs++hideN mask 0 X.N)[i]?=some x:=h1;rw[Qk hi]at this;exact this
  have h2':(maskS mask σ)[i - tgs.length]?=some (some v):=by unfold entS at h2;rw[Qk (by simpa using hi)]at h2;simpa using h2
  obtain⟨g1,g2⟩:=mask_get mask 0 X.N σ _ v h2';rw[g2]at h1';have hxm:x∈tgs++hideN mask 0 X.N:=qF (show(tgs++hideN mask 0 X.N)[i]?=some x from h1);have hxt:x∉tgs:=fun z=>by have nd:=C.nd;rw[qk]at nd;exact nd.2.2 x z x (qF (by rw[g2];exact h1')) rfl
  have hfree:(x,NameKind.free)∈scope.names:=by
   rcases h3 with z|z|z;exfalso;have e:(relabel scope X.env).names.lookup x=some .local:=z;have e2:=relabelS_look X.env.scope x scope.names;have e3:(relabel scope X.env).names.lookup x=(scope.names.lookup x).map fun k=>if(k==NameKind.free&&X.env.scope.kind==.function&&X.env.scope.names.lookup x==some .cell) then NameKind.cell else k:=e2
   rw[e3]at e;cases q:scope.names.lookup x with
   |none=>rw[q]at e;cases e
   |some k =>
    rw[q]at e;have hm:=qH q;have kl:k=.local:=by
     cases k with
     | «local»=>rfl
     |free=>simp at e;split at e<;>cases e
     |_=>simp at e
    subst kl;rcases C.loc _ hm rfl with z|z;exact hxt z;exact C.no0 (z▸hxm)
   exact C.kindCF (.inl z);exact C.kindCF (.inr z)
  obtain⟨m,hnm,hl⟩:=I.loc;have vis:Vis X.env.scope x:=.inr (C.free _ hfree rfl);obtain⟨u,r,l⟩:=hl _ x v h1' g1 vis;refine⟨u,r,?_⟩;rcases l with⟨k,_⟩| ⟨_,c,hc,hcell⟩
  exfalso;have k':X.env.scope.names.lookup x=some .local:=k;rcases C.free _ hfree rfl with z|z;have z':X.env.scope.names.lookup x=some .cell:=z;rw[k']at z';cases z';have z':X.env.scope.names.lookup x=some .free:=z;rw[k']at z';cases z';obtain⟨c',hc'⟩:=clOf_has (env:=X.env) scope.names [] (.inr hfree);have:c'=c:=by have:=look x c' hc';rw[hc]at this;exact(Q7 this).symm
  subst this;refine .inr ⟨?_,c',hc',?_⟩;rcases h3 with z|z|z
  ·exfalso
   have e:(relabel scope X.env).names.lookup x=some .local:=z;have e2:=relabelS_look X.env.scope x scope.names;have e3:(relabel scope X.env).names.lookup x=(scope.names.lookup x).map fun k=>if(k==NameKind.free&&X.env.scope.kind==.function&&X.env.scope.names.lookup x==some .cell) then NameKind.cell else k:=e2
   rw[e3]at e;cases q:scope.names.lookup x with
   |none=>rw[q]at e;cases e
   |some k =>
    rw[q]at e;have hm:=qH q;have kl:k=.local:=by
     cases k with
     | «local»=>rfl
     |free=>simp at e;split at e<;>cases e
     |_=>simp at e
    subst kl;rcases C.loc _ hm rfl with z|z;exact hxt z;exact C.no0 (z▸hxm)
  exact .inl z;exact .inr z;obtain⟨o,ho,hd⟩:=hcell;exact⟨o,kept _ _ ho,hd⟩
 obtain⟨v,o,ho,hd⟩:=I.cell x c (look x c h);exact⟨v,o,kept _ _ ho,hd⟩;show(entS tgs.length mask σ).length=(tgs++hideN mask 0 X.N).length;unfold entS;rw[QM,QM,qU,maskS_len,hideN_len,I.len]
end
section
variable{X:Cx}{pins:LAO}{σ σ':St}{H H':Hp}{s s':Shared}{scope:Scope}{tgs:List Str}{mask:List Bool}{ex:List Addr}{D:Addr}{acc:List V}{its:List Value}
theorem comp_leave(I:Inv X pins σ H s)(hex:∀b∈ex,FpOk X pins H b/\b<s.heap.objs.size)(hD:D∈ex)(J:Inv (BA X scope tgs mask s H ex) [] σ' H' s')(hD':H' D=none)(hv:bA acc its)(hz:acc.length<=sizeLine)
  (hl:s'.heap.PlainList D its.toArray) {h'':Heap}(hs:qG s.heap.objs.size s'.heap h''):Inv X pins σ (JA H' D (.lst acc)) { s' with heap:=h'' }:=by
 have un:Un (frs X.stack) ex H H' s.heap s'.heap:=J.base;have neC:∀b o,s.heap.get? b=some o->b≠s.heap.objs.size:=fun b o e=>Qg (QU e);have fD:=hex D hD;have lC:H' s.heap.objs.size=none:=J.free;have DC:D≠s.heap.objs.size:=Qg fD.2;have go:∀b u,b≠s.heap.objs.size->s'.heap.get? b=some u->h''.get? b=some u:=fun b u nb e=>hs.extBut b u nb e;refine I.call' (s':={ s' with heap:=h'' }) (ch:=ex) J.os ⟨fun b o e n hb hx=>?_,fun b o e n hb hx=>?_,fun b o e n hx=>?_,fun b o e hx=>?_,fun b xs e=>?_,fun b o u e=>?_,fun b ps e=>?_⟩ ?_ J.bare fun b hb=>?_;exact go b o (neC b o e) (un.keep b o e n hb hx);obtain⟨sl,q⟩:=un.slot b o e n hb hx;exact⟨sl,go b _ (neC b o e) q⟩;have q:=un.free b o e n hx;rw[zA (fun(z:b=D)=>hx (by rw[z];exact hD))];exact q;obtain⟨o',q⟩:=un.there b o e hx;exact⟨o',go b o' (neC b o e) q⟩;rw[zA (aA (un.tups b xs e) hD')];exact un.tups b xs e;rw[zA (aA (un.frzs b o u e) hD')];exact un.frzs b o u e;obtain⟨more,q⟩:=un.tbls b ps e;exact⟨more,by rw[zA (aA q hD')];exact q⟩;intro b u e;by_cases hb:b=D;subst hb;rw[gA]at e;cases e;obtain⟨n,q⟩:=hl;exact⟨hz,its,n,hv,go _ _ DC q⟩;rw[zA hb]at e;refine(J.hok b u e).stay (fun c v hc q=>go c v ?_ q) (fun c q=>?_) fun c xs q=>?_;rintro rfl;rcases hc with z|z;subst z;rw[lC]at e;cases e;rw[lC]at z;cases z;rw[zA (aA q hD')];exact q;rw[zA (aA q hD')];exact q;obtain⟨⟨f0,f1,f2,f3,f4,f5⟩,_⟩:=hex b hb;exact⟨f3,f1,f4,f5⟩
end
section
variable{X:Cx}{s:Shared}{elt iter tg:Expr}{ifs:List Expr}{scope:Scope}{pos:Pos}{wi:TI}{g:TG}{tc:TT}{te:TE}{tgs:List Str}{mask:List Bool}{pins:LAO}
def PIf(X:Cx)(ifs:List Expr)(t:TT):Prop:=∀(pins:LAO) (s:Shared) (σ:St) (H:Hp) (Q:Bool->Hp->Prop),Inv X pins σ H s->t σ H Q ->
 wpAny (model X.prog X.w) X.A (forIn ifs true fun c r=>if r=true then do let ok <- isTrue c X.env (eval c X.env);pure (ForInStep.yield ok) else pure (ForInStep.yield r)) (TP X pins σ Q) X.xe s
theorem pif_nil:PIf X [] (fun _ H Q=>Q true H):=fun pins s σ H Q I h=>by rw[QAq];exact QI ⟨H,I,h⟩
theorem pif_one{c:Expr}{t:TT}(hc:PT X c t):PIf X [c] t:=fun pins s σ H Q I h=>by rw[QAa];simp only[if_true];refine QC (QC (thn (hc pins s σ H Q I h) fun b s1 q=>QI ?_));dsimp only;rw[QAq];exact QI q
theorem codeAny_compLoop_go{prog:Program}{w:World}{A:Around}{R:Result->Shared->Prop}{target:Expr}{it acc:Value}{env:Env}(I:Nat->Shared->Prop)
  (turn:∀n s,I n s->wpAny (model prog w) A (pyNext it) (fun r s₁=>match r with
   |none=>R (.ok .next) s₁
   |some v=>wpAny (model prog w) A (letOwnedTupleGo target it v) (fun _ s₁'=>wpAny (model prog w) A (assign target env v) (fun _ s₂ =>
     wpAny (model prog w) A (forIn ifs true fun c r=>if r=true then do let ok <- isTrue c env (eval c env);pure (ForInStep.yield ok) else pure (ForInStep.yield r)) (fun ok s₃ =>
      if ok=true then wpAny (model prog w) A (eval elt env) (fun x s₄ =>
       wpAny (model prog w) A (call (.builtin "list.append") [acc,x]) (fun _ s₅=>∃m,m<n/\I m s₅) (fun _ _=>False) s₄) (fun _ _=>False) s₃
      else ∃m,m<n/\I m s₃) (fun _ _=>False) s₂) (fun _ _=>False) s₁') (fun _ _=>False) s₁) (fun _ _=>False) s)
  (n:Nat) (h:I n s) :
  codeAny (model prog w) A (.compLoop (.ListComp elt [⟨target,iter,ifs,0⟩] scope pos) 0 it acc env) R s:=by
 refine codeAny_loop rfl I (fun n s hI=>?_) n h;show wpAny _ A ((compTurn (.ListComp elt [⟨target,iter,ifs,0⟩] scope pos) 0 it acc env).onRaise (fun x=>do noteFrame x env;theTreesLotGoes x)) _ _ s;refine wpAny_noted ?_;rw[compTurn_list];refine QC (QA3 (QC (wI (turn n s hI) (fun r s₁ h₁=>?_) fun _ _ h'=>h'.elim)));cases r with
 |none=>exact QI h₁
 |some v =>
  refine QC (wI h₁ (fun _ s₁' h₁'=>?_) fun _ _ h'=>h'.elim);refine QC (wI h₁' (fun _ s₂ h₂=>QC (wI h₂ (fun ok s₃ h₃=>?_) fun _ _ h'=>h'.elim)) fun _ _ h'=>h'.elim);cases ok with
  |false=>exact QI ⟨rfl,h₃⟩
  |true=>exact QC (QC (wI h₃ (fun x s₄ h₄=>QC (wI h₄ (fun _ s₅ h₅=>QI (QI ⟨rfl,h₅⟩)) fun _ _ h'=>h'.elim)) fun _ _ h'=>h'.elim))
def tComp(wi:TI)(g:TG)(tc:TT)(te:TE)(k:Nat)(mask:List Bool):TE:=fun σ H Q=>wi σ H fun J H1=>∃W:Nat->Nat->List V->St->Hp->Prop,(∃m,W 0 m [] (entS k mask σ) H1) /\
 ∀i m acc σ' H',W i m acc σ' H'->(J.stop i H'/\acc.length<=sizeLine/\∀p,H' p=none->Q (.ref p) (JA H' p (.lst acc))) ∨
  (J.go i H'/\∀x H2,J.yld i H' x H2->g x σ' H2 fun σ3 H3=>tc σ3 H3 fun b H4=>if b=true then te σ3 H4 fun y H5=>acc.length<sizeLine/\∃m',m' < m/\W (i+1) m' (acc++[y]) σ3 H5 else ∃m',m' < m/\W (i+1) m' acc σ3 H4)
def FrOk(X:Cx)(pins:LAO)(H:Hp)(s:Shared)(C:Addr):Prop :=
 H C=none/\C≠X.env.locals/\X.s₀.heap.objs.size<=C/\(∀x c,X.env.cells.lookup x=some c->c≠C)/\(∀p∈X.pn++pins,p.1≠C)/\∃m,s.heap.Ns C m
theorem comp_gen{pos':Pos}{use:Option (Value->Sem Unit)}(hc:X.calm=true)(hi:PI X tg iter wi)(C:CompSt X.N X.env.scope scope tgs mask)
  (inner:∀s H ex,PG (BA X scope tgs mask s H ex) tg g/\PIf (BA X scope tgs mask s H ex) ifs tc/\PE (BA X scope tgs mask s H ex) elt te)
  (hs:∀x,foldedSetIterable iter X.env x=pure x) {σ:St}{H:Hp}{Q:VK}{QQ:VSP}(I:Inv X pins σ H s) (h:tComp wi g tc te tgs.length mask σ H Q)
  (fin:∀(D:Addr) (H':Hp) (s6:Shared) (F:Addr),Inv X pins σ H' s6->FrOk X pins H' s6 F->Q (.ref D) H'->compPost (model X.prog X.w) X.A X.xe use QQ (.ref D) F (.ok .next) s6) :
  wpAny (model X.prog X.w) X.A (comprehension (.ListComp elt [⟨tg,iter,ifs,0⟩] scope pos) scope X.env pos' (newList []) false (eval iter X.env) use) QQ X.xe s:=by
 refine wpAny_comprehension_free (use:=use) rfl hs (closure_eq (C.cells I.ok)) C.kind C.names (thn (hi pins s σ H _ I h) fun v s1 h1=>thn h1 fun itv s2 h2=>?_);obtain⟨it,fp,tn,J,H2,e,I2,T,st2,f2,W,⟨m0,w0⟩,turn⟩:=h2;subst e;refine Q1 ?_;have I3:Inv X pins σ H2 { s2 with heap:=s2.heap.push { cls:=.type "list",data:=.seq ([]:List Value).toArray } }:=I2.kept (t':=s2.toks) fun b o e=>QH _ e;generalize hS:({ s2 with heap:=s2.heap.push { cls:=.type "list",data:=.seq ([]:List Value).toArray } }:Shared)=s3 at I3;have sz3:s3.heap.objs.size=s2.heap.objs.size+1:=by rw[<- hS];exact WS ..
 have lst3:s3.heap.PlainList s2.heap.objs.size ([]:List Value).toArray:=⟨0,by rw[<- hS];exact QS _ rfl⟩
 have old3:∀b o,s2.heap.get? b=some o->s3.heap.get? b=some o:=fun b o e=>by rw[<- hS];exact QH _ e
 generalize hDd:s2.heap.objs.size=D at sz3 lst3;have fD:FpOk X pins H2 D:=by rw[<- hDd];exact I2.fpOk (QR _) (I2.hok.fresh (QR _))
 have fpl:∀b∈fp,b<D:=fun b hb=>by obtain⟨o,e,_⟩:=T.obj _ _ st2 b hb;rw[<- hDd];exact QU e
 have hex:∀b∈D::fp,FpOk X pins H2 b/\b<s3.heap.objs.size:=fun b hb=>by rcases QK.mp hb with z|z;subst z;exact⟨fD,by rw[sz3];exact QAP _⟩;exact⟨f2 b z,by rw[sz3];exact wz (fpl b z)⟩
 refine wpAny_newFunctionEnv C.nocell (by intro y hy;simp at hy) (fun h' hn hsb=>?_) C.kind;have J0:Inv (BA X scope tgs mask s3 H2 (D::fp)) [] (entS tgs.length mask σ) H2 { s3 with heap:=h',toks:=s3.toks+([]:List (Str×Value)).length }:=comp_start I3 C hex hn hsb;have kept:∀b u,s3.heap.get? b=some u->h'.get? b=some u:=fun b u e=>hsb.extBut b u (Qg (QU e)) (QH _ e);obtain⟨pg,pf,pl⟩:=inner s3 H2 (D::fp);have loop:∀s4:Shared,s4={ s3 with heap:=h',toks:=s3.toks+([]:List (Str×Value)).length } ->
   codeAny (model X.prog X.w) X.A (.compLoop (.ListComp elt [⟨tg,iter,ifs,0⟩] scope pos) 0 (.ref it) (.ref D) (compEnvC scope (clOf X.env scope.names []) s3.heap.objs.size X.env))
    (compPost (model X.prog X.w) X.A X.xe use QQ (.ref D) s3.heap.objs.size) s4:=by
  rintro s4 rfl;have exok:∀{H':Hp},(∀b∈D::fp,H' b=none)->∀(pp:LAO),(∀p∈pp,p.1∉fp)->∀b∈fp,FpOk (BA X scope tgs mask s3 H2 (D::fp)) pp H' b:=fun {H'} hn pp hpp b hb=>by have g:=J0.ok.exf b (QE _ hb);exact⟨hn b (QE _ hb),g.1,J0.ok.exfs b (QE _ hb),.inl (QE _ hb),g.2,fun p hp z=>hpp p (by simpa[BA]using hp) (z▸hb)⟩
  have DX:=J0.ok.exf D QF;have Dfp:D∉fp:=fun z=>qu _ (fpl D z);refine codeAny_compLoop_go (fun n s'=>∃i σ' H' acc its,Inv (BA X scope tgs mask s3 H2 (D::fp)) [] σ' H' s'/\tn i s'.heap/\(∀b∈D::fp,H' b=none)/\bA acc its/\s'.heap.PlainList D its.toArray/\W i n acc σ' H') ?_ m0
   ⟨0,_,H2,[],[],J0,T.keep _ _ _ (T.keep _ _ _ st2 fun b hb o e=>old3 b o e) fun b hb o e=>kept b o e,fun b hb=>((hex b hb).1).1,.nil,lst3.at fun o e=>kept _ _ e,w0⟩
  rintro n s5 ⟨i,σ5,H5,acc,its,I5,st5,fr5,va5,ls5,w5⟩;obtain⟨nL,lo⟩:=id ls5;have pinD:∀{σ':St}{H':Hp}{s':Shared},Inv (BA X scope tgs mask s3 H2 (D::fp)) [] σ' H' s'->(∀b∈D::fp,H' b=none)->s'.heap.get? D=some { cls:=.type "list",dict:=none,data:=.seq its.toArray nL } ->
    Inv (BA X scope tgs mask s3 H2 (D::fp)) [(D,{ cls:=.type "list",dict:=none,data:=.seq its.toArray nL })] σ' H' s':=fun {σ' H' s'} I' fr' e' =>
   I'.pins_of fun p hp=>by
    have e:p=(D,{ cls:=.type "list",dict:=none,data:=.seq its.toArray nL }):=by simpa using hp
    subst e;exact⟨e',fr' D QF,DX.1,J0.ok.exfs D QF,fun v z=>by cases z⟩
  have hppD:∀p∈[(D,({ cls:=.type "list",dict:=none,data:=.seq its.toArray nL }:Obj))],p.1∉fp:=fun p hp=>by
   have e:p=(D,{ cls:=.type "list",dict:=none,data:=.seq its.toArray nL }):=by simpa using hp
   subst e;exact Dfp
  have I5':=pinD I5 fr5 lo;rcases turn i n acc σ5 H5 w5 with⟨stop,hz,qn⟩| ⟨go,step⟩
  refine thn (T.done (BA X scope tgs mask s3 H2 (D::fp)) rfl rfl rfl hc i _ s5 σ5 H5 (fun _ _=>False) I5' (exok fr5 _ hppD) st5 stop) fun r s6 ⟨hr,I6⟩=>?_;subst hr;obtain⟨m6,hn6,_⟩:=I6.loc;have l6:s6.heap.PlainList D its.toArray:=⟨nL,(I6.pin _ (QV _ (QJ.mpr rfl))).1⟩
  have I6':Inv (BA X scope tgs mask s3 H2 (D::fp)) [] σ5 H5 s6:=I6.pins_of fun p hp=>by simp at hp
  have Iout:Inv X pins σ (JA H5 D (.lst acc)) s6:=comp_leave I3 hex QF I6' (fr5 D QF) va5 hz l6 (QBH _ _);have lC:H5 s3.heap.objs.size=none:=I6'.free;refine fin D _ s6 s3.heap.objs.size Iout ⟨?_,wY I3.lt,I3.sz,fun x c e z=>?_,fun p hp z=>?_,m6,hn6⟩ (qn D (fr5 D QF));rw[zA (fun(z:s3.heap.objs.size=D)=>absurd (hex D QF).2 (by rw[z];exact qu _))];exact lC;obtain⟨v,q⟩:=I3.cell x c e;exact absurd q.lt (by rw[z];exact qu _);exact absurd (QU (I3.pin p hp).1) (by rw[z];exact qu _);refine thn (T.item (BA X scope tgs mask s3 H2 (D::fp)) rfl rfl rfl hc i _ s5 σ5 H5 (fun _ _=>False) I5' (exok fr5 _ hppD) st5 go) fun r s6 ⟨u,hr,h6⟩=>?_;subst hr;refine thn h6 fun _ s7 ⟨x,H7,I7,r7,y7,st7,fr7⟩=>?_;have hD7:=(I7.pin _ (QV _ (QJ.mpr rfl)))
  have fr7':∀b∈D::fp,H7 b=none:=fun b hb=>by rcases QK.mp hb with z|z;subst z;exact hD7.2.1;exact fr7 b z
  have I7':=I7.pinned (exok fr7' _ hppD) (T.obj _ _ st7);have bk:∀{σ':St}{H':Hp}{s':Shared},Inv (BA X scope tgs mask s3 H2 (D::fp)) ([(D,{ cls:=.type "list",dict:=none,data:=.seq its.toArray nL })]++pinsAt fp s7.heap) σ' H' s' ->
    s'.heap.get? D=some { cls:=.type "list",dict:=none,data:=.seq its.toArray nL }/\tn (i+1) s'.heap/\(∀b∈D::fp,H' b=none):=fun {σ' H' s'} I'=>by
   have hD:=I'.pin (D,{ cls:=.type "list",dict:=none,data:=.seq its.toArray nL }) (QV _ (Qf _ (QJ.mpr rfl)));refine⟨hD.1,T.keep _ _ _ st7 fun b hb o e=>(I'.pin (b,o) (QV _ (QV _ (mem_pinsAt hb e)))).1,fun b hb=>?_⟩;rcases QK.mp hb with z|z;subst z;exact hD.2.1;obtain⟨o,e,_⟩:=T.obj _ _ st7 b z;exact(I'.pin (b,o) (QV _ (QV _ (mem_pinsAt z e)))).2.1
  refine thn (pg _ s7 σ5 H7 x u _ I7' r7 (step x H7 y7)) fun _ s8 ⟨σ8,H8,I8,q8⟩=>?_;refine thn (pf _ s8 σ8 H8 _ I8 q8) fun ok s9 ⟨H9,I9,q9⟩=>?_;cases ok with
  |false=>obtain⟨m',hm,w'⟩:=q9;obtain⟨b1,b2,b3⟩:=bk I9;exact⟨m',hm,i+1,σ8,H9,acc,its,I9.pins_of fun p hp=>by simp at hp,b2,b3,va5,⟨nL,b1⟩,w'⟩
  |true =>
   refine thn (pl _ s9 σ8 H9 _ I9 q9) fun y s10 ⟨yv,H10,I10,r10,hz,m',hm,w'⟩=>?_;obtain⟨b1,b2,b3⟩:=bk I10;have hlen:=va5.length;refine wpAny_list_append_plain (hsz:=by rw[QO];omega) (show s10.heap.PlainList D its.toArray from⟨nL,b1⟩) fun h11 hl11 hs11=>?_;refine⟨m',hm,i+1,σ8,H10,acc++[yv],its++[y],?_,T.keep _ _ _ b2 fun b hb o e=>(hs11.2 b (fun z=>Dfp (z▸hb))).trans e,b3,va5.append (.cons r10 .nil),by simpa using hl11,w'⟩;have I10':Inv (BA X scope tgs mask s3 H2 (D::fp)) [] σ8 H10 s10:=I10.pins_of fun p hp=>by simp at hp
   exact I10'.turned (t':=s10.toks) (fun b o hb e=>(hs11.2 b hb).trans e) (b3 D QF) DX.1 (.inl QF) DX.2 fun p hp=>by simp[BA]at hp
 refine codeAny_compStart_list (loop _ rfl) (T.self X.A 0 _ _ _ (T.keep _ _ _ (T.keep _ _ _ st2 fun b hb o e=>old3 b o e) fun b hb o e=>kept b o e) (loop _ rfl))
theorem frame_gone{σ:St}{H:Hp}{F:Addr}(I:Inv X pins σ H s)(f:FrOk X pins H s F){h':Heap}(hs:qG F s.heap h'):Inv X pins σ H { s with heap:=h' }:=by obtain⟨f0,f1,f2,f3,f4,_⟩:=f;exact I.turned (t':=s.toks) (fun b o hb e=>(hs.2 b hb).trans e) f0 f1 (.inr f2) f3 f4
theorem pe_comp(hc:X.calm=true)(hi:PI X tg iter wi)(C:CompSt X.N X.env.scope scope tgs mask)
  (inner:∀s H ex,PG (BA X scope tgs mask s H ex) tg g/\PIf (BA X scope tgs mask s H ex) ifs tc/\PE (BA X scope tgs mask s H ex) elt te)
  (hs:∀x,foldedSetIterable iter X.env x=pure x:=by intro _;rfl):PE X (.ListComp elt [⟨tg,iter,ifs,0⟩] scope pos) (tComp wi g tc te tgs.length mask):=by
 intro pins s σ H Q I h;rw[eval_ListComp];refine comp_gen hc hi C inner hs I h fun D H' s6 F I6 f q=>?_;obtain⟨m,hn⟩:=f.2.2.2.2.2;exact⟨m,hn,fun h' hs'=>⟨.ref D,H',frame_gone I6 f hs',rfl,q⟩⟩
theorem ps_setC{cpos px:Pos}{i:Nat}{x:Str}(hc:X.calm=true)(hN:X.N.Nodup)(hi0:X.N[i]?=some x)(hx:X.env.scope.names.lookup x=some .local)
  (hi:PI X tg iter wi) (C:CompSt X.N X.env.scope scope tgs mask)
  (inner:∀s H ex,PG (BA X scope tgs mask s H ex) tg g/\PIf (BA X scope tgs mask s H ex) ifs tc/\PE (BA X scope tgs mask s H ex) elt te)
  (hs:∀x,foldedSetIterable iter X.env x=pure x) (hsw:swapsWith (.ListComp elt [⟨tg,iter,ifs,0⟩] scope cpos) (some (.Name x px)) pos.line X.env=pure true) :
  PS X (.Assign [.Name x px] (.ListComp elt [⟨tg,iter,ifs,0⟩] scope cpos) pos) (tAsg (tComp wi g tc te tgs.length mask) (gName i)):=by
 intro pins s σ H D0 I h;rw[exec_Assign_Name_used _ _ _ _ hsw];refine QC (QA3 (QC ?_));show wpAny _ X.A (do let _ <- comprehension (.ListComp elt [⟨tg,iter,ifs,0⟩] scope cpos) scope X.env _ (newList []) false (eval iter X.env) (some (assign (.Name x px) X.env))) _ _ s;refine QC (wI (comp_gen (use:=some (assign (.Name x px) X.env)) (QQ:=fun _ s'=>SP X pins D0 .next s') hc hi C inner hs I h fun D H' s6 F I6 f q=>?_) (fun _ s' hq=>QI (QI hq)) fun _ _ e=>e);show wpAny _ X.A (assign (.Name x px) X.env (.ref D)) _ _ s6;refine QBD (store_ok2 I6 hN hi0 (.inl hx) (v:=.ref D) rfl (fun s7 I7 ⟨a,sb,ha⟩=>?_) (.inr hx));obtain⟨f0,f1,f2,f3,f4,m,hn⟩:=f;have ne:F≠a:=by rcases ha with z|z;rw[z];exact f1;exact fun e=>f3 x a z e.symm
 have hn7:s7.heap.Ns F m:=hn.sameBut sb ne;exact⟨m,hn7,fun h' hs'=>⟨_,H',frame_gone I7 ⟨f0,f1,f2,f3,f4,m,hn7⟩ hs',q⟩⟩
end
end L2
namespace L2.L3
open PySem PySem.Spec PyProof.Rows
def rAdd(K:QA):R2:=fun x y H Q=>match x,y with
 | .int i,.int j=>Q (.int (i+j)) H
 | .str a,.str b=>a.length+b.length<=sizeLine/\Q (.str (a++b)) H
 | .ref a,.ref b=>(∃xs ys,SqL K H a xs/\SqL K H b ys/\xs.length+ys.length<=sizeLine/\∀p,H p=none->Q (.ref p) (JA H p (.lst (xs++ys))))∨rCatT K (.ref a) (.ref b) H Q
 |_,_=>False
def rSub:R2:=fun x y H Q=>match x,y with
 | .int i,.int j=>Q (.int (i - j)) H
 |_,_=>False
def repS(x:Str)(n:Int):Str:=Txt.mul x n
def rMul(K:QA):R2:=fun x y H Q=>match x,y with
 | .int i,.int j=>IntMulOk i j/\Q (.int (i * j)) H
 | .str a,.int k=>(-(2 ^ 31)<=k/\k<2 ^ 31/\a.length * k.toNat<=sizeLine)/\Q (.str (repS a k)) H
 | .ref a,.int k=>rRep (.ref a) (.int k) H Q
 |_,_=>False
def rFdiv:R2:=fun x y H Q=>match x,y with
 | .int i,.int j=>(0<j/\j<2 ^ 200)/\Q (.int (i / j)) H
 |_,_=>False
def rMod:R2:=fun x y H Q=>match x,y with
 | .int i,.int j=>0<j/\Q (.int (i % j)) H
 |_,_=>False
section
variable{X:Cx}
theorem op_add:OpR X (binaryOp .Add) (rAdd X.K):=by
 intro pins s σ H x y v u Q I rx ry h;cases x with
 |int i =>
  cases y with
  |int j=>exact _root_.L2.op_add pins s σ H _ _ v u Q I rx ry ⟨i,j,rfl,rfl,h⟩
  |_=>exact QW h
 |str a =>
  cases y with
  |str b=>exact op_add_str pins s σ H _ _ v u Q I rx ry ⟨a,b,rfl,rfl,h.1,h.2⟩
  |_=>exact QW h
 |ref a =>
  cases y with
  |ref b =>
   rcases h with⟨xs,ys,hx,hy,hz,q⟩| h;cases rx;cases ry;obtain⟨its,r,⟨⟨cls,dd,data,sl⟩,n1,e1,c1,d1,s1⟩,z1⟩:=I.list hx;obtain⟨its2,r2,⟨⟨cls2,dd2,data2,sl2⟩,n2,e2,c2,d2,s2⟩,z2⟩:=I.list hy;simp only at c1 s1 c2 s2;subst c1 s1 c2 s2;have hl:=r.length;have hl2:=r2.length;refine QBS ⟨_,e1,rfl⟩ ⟨_,e2,rfl⟩ noFill_list_add seq_list_add PySem.F.slot_list_add PySem.F.entry_list_add (PySem.F.args_list_add_2 _ _) (list_addW a b its.toArray its2.toArray n1 n2 dd dd2 sl sl2 (by simp;omega)) ⟨e1,e2,?_⟩;have ea:its.toArray++its2.toArray=(its++its2).toArray:=by simp
   rw[ea];exact⟨.ref _,_,I.lnew (t':=s.toks) (r.append r2) (by rw[QM];omega),rfl,q _ I.fresh⟩;exact op_catT pins s σ H _ _ v u Q I rx ry h
  |_=>exact QW h
 |_=>exact QW h
theorem op_sub:OpR X (binaryOp .Sub) rSub:=by
 intro pins s σ H x y v u Q I rx ry h;cases x with
 |int i =>
  cases y with
  |int j=>exact _root_.L2.op_sub pins s σ H _ _ v u Q I rx ry ⟨i,j,rfl,rfl,h⟩
  |_=>exact QW h
 |_=>exact QW h
theorem op_fdiv:OpR X (binaryOp .FloorDiv) rFdiv:=by
 intro pins s σ H x y v u Q I rx ry h;cases x with
 |int i =>
  cases y with
  |int j =>
   obtain⟨t,rfl⟩:=rx;obtain⟨t',rfl⟩:=ry;obtain⟨⟨h1,h2⟩,q⟩:=h;refine floordiv_int (by omega) ?_ (.inl (PyProof.noPylong_of_log2 ?_));rw[Int.fdiv_eq_ediv_of_nonneg i (by omega)];exact⟨.int _,H,I.tok _,⟨_,rfl⟩,q⟩;have:j.natAbs<2 ^ 200:=by omega
   have:=(Nat.log2_lt (show j.natAbs≠0 by omega)).mpr this;omega
  |_=>exact QW h
 |_=>exact QW h
theorem op_mod:OpR X (binaryOp .Mod) rMod:=by
 intro pins s σ H x y v u Q I rx ry h;cases x with
 |int i =>
  cases y with
  |int j=>exact _root_.L2.op_mod pins s σ H _ _ v u Q I rx ry ⟨i,j,rfl,rfl,h.1,h.2⟩
  |_=>exact QW h
 |_=>exact QW h
theorem op_mul:OpR X (binaryOp .Mult) (rMul X.K):=by
 intro pins s σ H x y v u Q I rx ry h;cases x with
 |int i =>
  cases y with
  |int j=>obtain⟨t,rfl⟩:=rx;obtain⟨t',rfl⟩:=ry;exact mul_int ⟨.int _,H,I.tok _,⟨_,rfl⟩,h.2⟩ h.1
  |_=>exact QW h
 |str a =>
  cases y with
  |int k =>
   obtain⟨t,rfl⟩:=rx;obtain⟨t',rfl⟩:=ry;obtain⟨⟨h1,h2,h3⟩,q⟩:=h;refine SB.mul ⟨?_,fun _ _=>?_,fun _ _=>?_⟩ fun t' kk=>⟨.str (repS a k),H,I.tok _,⟨_,rfl⟩,q⟩
   have e1:decide (k < -(2 ^ 63:Int))=false:=dF (by omega);have e2:decide (k ≥ 2 ^ 63)=false:=dF (by omega);rw[e1,e2];rfl;have e:(a.length:Int) * k=((a.length * k.toNat:Nat):Int):=by rw[Int.natCast_mul,Int.toNat_of_nonneg (by omega)]
   have hz:sizeLine=16777216:=QZ;have:=Int.le_ediv_of_mul_le (a:=(a.length:Int)) (b:=2 ^ 63 - 1) (c:=k) (by omega) (by rw[e];omega);omega;unfold Builtin.Str.tooLong;exact dF (by omega)
  |_=>exact QW h
 |ref a =>
  cases y with
  |int k=>exact op_rep pins s σ H _ _ v u Q I rx ry h
  |_=>exact QW h
 |_=>exact QW h
end
end L2.L3
namespace L2
open PySem PySem.Spec PyProof.Rows
section
variable{κ:Type}[DecidableEq κ]
section
variable{p:κ×V}{r kvs:List (κ×V)}{vs:List (κ×Value)}{u:Value}
def valV(kvs:List (κ×V))(k:κ):Option V:=(kvs.find? fun kv=>decide (kv.1=k)).map (·.2)
def putK(kvs:List (κ×V))(k:κ)(v:V):List (κ×V) :=
 if(kvs.any fun kv=>decide (kv.1=k))=true then kvs.map (fun kv=>if kv.1=k then(kv.1,v) else kv) else kvs++[(k,v)]
theorem valV_pos{k:κ}(e:p.1=k):valV (p::r) k=some p.2:=by simp[valV,wE,e]
theorem valV_neg{k:κ}(e:¬ p.1=k):valV (p::r) k=valV r k:=by simp[valV,wE,e]
theorem valV_any(k:κ):∀kvs:List (κ×V),(kvs.any fun kv=>decide (kv.1=k))=(valV kvs k).isSome
 |[]=>rfl
 |p::r=>by rw[wy];by_cases e:p.1=k;simp only[valV_pos e,dT e,Bool.true_or,Option.isSome_some];rw[valV_neg e,dF e,QAz];exact valV_any k r
theorem length_putK(kvs:List (κ×V))(k:κ)(v:V):(putK kvs k v).length<=kvs.length+1:=by unfold putK;split;rw[QG];omega;rw[QM,QL,Qu];omega
theorem RelO.isSome_eq{o:Option V}{u:Option Value}(r:RelO o u):o.isSome=u.isSome:=by
 cases o with
 |none=>cases u with
  |none=>rfl
  |some _=>exact(show False from r).elim
 |some _=>cases u with
  |none=>exact(show False from r).elim
  |some _=>rfl
theorem KV.val(r:KV kvs vs)(k:κ):RelO (valV kvs k) (valueAt vs k):=by
 unfold KV at r;induction r with
 |nil=>exact True.intro
 |@cons p q ps qs h t ih =>
  obtain⟨h1,h2⟩:=h;by_cases e:p.1=k;have e':q.1=k:=h1.symm.trans e;have b:valueAt (q::qs) k=some q.2:=by simp[valueAt,wE,e']
  rw[valV_pos e,b];exact h2;have e':¬ q.1=k:=fun z=>e (h1.trans z);have b:valueAt (q::qs) k=valueAt qs k:=by simp[valueAt,wE,e']
  rw[valV_neg e,b];exact ih
theorem KV.any(r:KV kvs vs)(k:κ):(kvs.any fun kv=>decide (kv.1=k))=vs.any fun kv=>decide (kv.1=k):=by
 unfold KV at r;induction r with
 |nil=>rfl
 |cons h t ih=>rw[wy,wy,ih,h.1]
theorem KV.repl(r:KV kvs vs)(k:κ){y:V}(ry:lA y u) :
  KV (kvs.map fun kv=>if kv.1=k then(kv.1,y) else kv) (vs.map fun kv=>if kv.1=k then(kv.1,u) else kv):=by
 unfold KV at r ⊢;induction r with
 |nil=>exact .nil
 |@cons p q ps qs h t ih=>rw[QN,QN];refine .cons ?_ ih;obtain⟨h1,h2⟩:=h;by_cases e:p.1=k;rw[if_pos e,if_pos (h1.symm.trans e)];exact⟨h1,ry⟩;rw[if_neg e,if_neg (fun z=>e (h1.trans z))];exact⟨h1,h2⟩
theorem KV.put(r:KV kvs vs)(k:κ){y:V}(ry:lA y u):KV (putK kvs k y) (stored vs k u):=by unfold putK stored;rw[r.any k];by_cases e:(vs.any fun kv=>decide (kv.1=k))=true;rw[if_pos e,if_pos e];exact r.repl k ry;rw[if_neg e,if_neg e];exact Paired.snoc r ⟨rfl,ry⟩
theorem KV.length(r:KV kvs vs):kvs.length=vs.length:=qJ r
end
end
theorem kV_is{P:Program}{w:World}{k:Key}{u:Value}(r:lA (kV k) u):(mixKind P w).is k u=true:=by
 cases k with
 |inl i=>obtain⟨t,e⟩:=(show ∃t,u=Value.int i t from r);subst e;exact mixKind_int P w i t
 |inr x=>obtain⟨t,e⟩:=(show ∃t,u=Value.str x t from r);subst e;exact mixKind_str P w x t
theorem items_are{P:Program}{w:World}:∀{ks:List Key}{us:List Value},bA (ks.map kV) us->ItemsAre (mixKind P w) ks us
 |[],_,r=>by rw[wZ]at r;cases r;exact .nil
 |k::ks,_,r=>by
  rw[QN]at r;cases r with
  |cons h t=>exact .cons (kV_is h) (items_are t)
end L2
namespace L2.L3
open PySem PySem.Spec PyProof.Rows
section
variable{r kvs:List KE}{k:List Key}{xs:List (List Key×Addr×Value)}
noncomputable abbrev KE:=List Key×Addr×V
def valT(kvs:List KE)(k:List Key):Option V:=(kvs.find? fun p=>decide (p.1=k)).map (·.2.2)
def putT(kvs:List KE)(k:List Key)(b:Addr)(v:V):List KE :=
 if(valT kvs k).isSome=true then kvs.map (fun p=>if p.1=k then(p.1,p.2.1,v) else p) else kvs++[(k,b,v)]
noncomputable abbrev KD:List KE->List (List Key×Addr×Value)->Prop:=Paired fun(p:List Key×Addr×V) (q:List Key×Addr×Value)=>p.1=q.1/\p.2.1=q.2.1/\lA p.2.2 q.2.2
theorem valT_pos{p:KE}(e:p.1=k):valT (p::r) k=some p.2.2:=by simp[valT,wE,e]
theorem valT_neg{p:KE}(e:¬ p.1=k):valT (p::r) k=valT r k:=by simp[valT,wE,e]
theorem KD.val(r:KD kvs xs)(k:List Key):RelO (valT kvs k) ((atKey xs k).map (·.2)):=by
 induction r with
 |nil=>exact True.intro
 |@cons p q ps qs h t ih =>
  obtain⟨h1,_,h2⟩:=h;by_cases e:p.1=k;have e':q.1=k:=h1.symm.trans e;have b:atKey (q::qs) k=some q.2:=by simp[atKey,wE,e']
  rw[valT_pos e,b];exact h2;have e':¬ q.1=k:=fun z=>e (h1.trans z);have b:atKey (q::qs) k=atKey qs k:=by simp[atKey,wE,e']
  rw[valT_neg e,b];exact ih
theorem KD.put(r:KD kvs xs)(k:List Key)(b:Addr){y:V}{u:Value}(ry:lA y u):KD (putT kvs k b y) (storedH xs k b u):=by
 have e:(valT kvs k).isSome=(atKey xs k).isSome:=by rw[(r.val k).isSome_eq,QAA]
 unfold putT storedH;rw[e];by_cases q:(atKey xs k).isSome=true;rw[if_pos q,if_pos q];clear e q;induction r with
 |nil=>exact .nil
 |@cons p q ps qs h t ih=>rw[QN,QN];refine .cons ?_ ih;obtain⟨h1,h2,h3⟩:=h;unfold putAt;by_cases e:p.1=k;rw[if_pos e,if_pos (h1.symm.trans e)];exact⟨h1,h2,ry⟩;rw[if_neg e,if_neg (fun z=>e (h1.trans z))];exact⟨h1,h2,h3⟩
 rw[if_neg q,if_neg q];exact Paired.snoc r ⟨rfl,rfl,ry⟩
theorem len_putT(kvs:List KE)(k:List Key)(b:Addr)(v:V):(putT kvs k b v).length<=kvs.length+1:=by unfold putT;split;rw[QG];omega;rw[QM,QL,Qu];omega
def KeysAt(K:QA)(H:Hp)(kvs:List KE):Prop:=∀p∈kvs,SqT K H p.2.1 (p.1.map kV)
theorem Inv.big{X:Cx}{pins:LAO}{σ:St}{H:Hp}{s:Shared}(I:Inv X pins σ H s):sysModules<s.heap.objs.size:=by have h:mainGlobals<s.heap.objs.size:=(I.mod.glob.keeps I.bk).lt;exact Nat.lt_trans (by decide) h
end
section
variable{X:Cx}{pins:LAO}{σ:St}{H:Hp}{s:Shared}{a b:Addr}
theorem keyQ{k:List Key}(I:Inv X pins σ H s)(h:SqT X.K H b (k.map kV)):(tupleKind (mixKind X.prog X.w)).is s.heap k b:=by obtain⟨its,r,⟨o,h1,h2,n,h3⟩,_⟩:=I.tuple h;exact⟨o,its.toArray,n,h1,h2,h3,by simpa using items_are r⟩
theorem dT_at{ep:Nat}{kvs:List KE}(I:Inv X pins σ H s)(e:H a=some (.dT ep kvs))(hk:KeysAt X.K H kvs):kvs.length<=sizeLine/\(a==sysModules)=false/\∃xs,KD kvs xs/\s.heap.DictOfH (tupleKind (mixKind X.prog X.w)) a xs:=by
 obtain⟨z,y,xs,r,o,es,h1,h2,h3,h4,h5⟩:=(show UA X.prog X.w H s.heap a (.dT ep kvs) from I.hok a _ e)
 refine⟨z,y,xs,r,o,es,ep,h1,h2,h3,h4,?_,h5⟩;clear h4 h5 z e;induction r with
 |nil=>intro x hx;exact nomatch hx
 |@cons p q ps qs hq t ih=>intro x hx;rcases QK.mp hx with e|hx;subst e;rw[<- hq.1,<- hq.2.1];exact keyQ I (hk p QF);exact ih (fun p hp=>hk p (QE _ hp)) x hx
theorem dK_at{kvs:List (Key×V)}(I:Inv X pins σ H s)(e:H a=some (.dK kvs)):kvs.length<=sizeLine/\(a==sysModules)=false/\∃vs,KV kvs vs/\s.heap.DictOf (mixKind X.prog X.w) a vs :=
 show UA X.prog X.w H s.heap a (.dK kvs) from I.hok a _ e
end
theorem dE_at{X:Cx}{pins:LAO}{σ:St}{H:Hp}{s:Shared}{a:Addr}{ep:Nat}(I:Inv X pins σ H s)(e:H a=some (.dT ep [])):(a==sysModules)=false/\s.heap.DictOf (mixKind X.prog X.w) a []:=by
 obtain⟨z,y,xs,r,o,es,h1,h2,h3,h4,h5⟩:=(show UA X.prog X.w H s.heap a (.dT ep []) from I.hok a _ e)
 cases r;have he:es=#[]:=by apply Wb.mp;simpa using h4
 subst he;exact⟨y,o,#[],ep,h1,h2,h3,fun e he=>by simp at he,.nil,Q0⟩
def kD:Key->PyData
 | .inl i=>.int i
 | .inr x=>.str x
def tD(k:List Key):PyData:=.tuple (k.map kD)
theorem kD_inj{a b:Key}(e:kD a=kD b):a=b:=by
 cases a with
 |inl i=>cases b with
  |inl j=>injection e with e;rw[e]
  |inr y=>exact nomatch (show PyData.int i=PyData.str y from e)
 |inr x=>cases b with
  |inl j=>exact nomatch (show PyData.str x=PyData.int j from e)
  |inr y=>injection e with e;rw[e]
theorem kDs_inj:∀{a b:List Key},a.map kD=b.map kD->a=b
 |[],[],_=>rfl
 |[],_::_,e=>by simp at e
 |_::_,[],e=>by simp at e
 |x::xs,y::ys,e=>by rw[QN,QN]at e;injection e with e1 e2;rw[kD_inj e1,kDs_inj e2]
theorem tD_inj{a b:List Key}(e:tD a=tD b):a=b:=by injection e with e;exact kDs_inj e
def DKo(K:QA)(H:Hp)(b:Bool)(o:HO)(ks:List PyData)(vs:List V):Prop:=match b with
 |true=>∃ep,∃kvs:List KE,o=.dT ep kvs/\ks=kvs.map (fun p=>tD p.1)/\vs=kvs.map (·.2.2)/\KeysAt K H kvs/\(kvs.map (·.1)).Nodup
 |false=>(∃kvs:List (Key×V),kvs≠[]/\o=.dK kvs/\ks=kvs.map (fun p=>kD p.1)/\vs=kvs.map (·.2)/\(kvs.map (·.1)).Nodup)∨∃ep,o=.dT ep []/\ks=[]/\vs=[]
theorem DKo.len{K:QA}{H:Hp}{b:Bool}{o:HO}{ks:List PyData}{vs:List V}(h:DKo K H b o ks vs):ks.length=vs.length:=by
 cases b with
 |true=>obtain⟨ep,kvs,_,rfl,rfl,_⟩:=h;simp
 |false=>rcases h with⟨kvs,_,_,rfl,rfl,_⟩| ⟨_,_,rfl,rfl⟩<;>simp
def DGet(K:QA)(H:Hp)(a:Addr)(y:V)(r:Option V):Prop:=match y with
 | .str z=>(∃kvs,H a=some (.dK kvs)/\r=valV kvs (.inr z))∨∃ep,H a=some (.dT ep [])/\r=none
 | .ref b=>∃ep kvs k,H a=some (.dT ep kvs)/\KeysAt K H kvs/\SqT K H b (k.map kV)/\r=valT kvs k
 |_=>False
def DPut(K:QA)(H:Hp)(a:Addr)(y v:V)(Q:Hp->Prop):Prop:=match y with
 | .str z=>(∃kvs,H a=some (.dK kvs)/\kvs.length<sizeLine/\Q (JA H a (.dK (putK kvs (.inr z) v))))∨∃ep,H a=some (.dT ep [])/\Q (JA H a (.dK [(.inr z,v)]))
 | .ref b=>∃ep kvs k,H a=some (.dT ep kvs)/\KeysAt K H kvs/\SqT K H b (k.map kV)/\kvs.length<sizeLine/\∀ep',Q (JA H a (.dT ep' (putT kvs k b v)))
 |_=>False
theorem relO_some{v:V}{o:Option Value}(r:RelO (some v) o):∃w,o=some w/\lA v w:=by
 cases o with
 |none=>exact(show False from r).elim
 |some w=>exact⟨w,rfl,r⟩
section
variable{X:Cx}
section
variable{pins:LAO}{s:Shared}{σ:St}{H:Hp}{a:Addr}{u:Value}{o:Option V}{h':Heap}{pos:Pos}
theorem ix_dict(hu:X.A.units+66<cLine):IxR X (fun x y H Q=>∃a v,x=.ref a/\DGet X.K H a y (some v)/\Q v H):=by
 intro value slice pins s σ H x y v u Q I rx ry h hs;obtain⟨a,r,rfl,g,q⟩:=h;cases rx;cases y with
 |str z =>
  rcases g with⟨kvs,e,l⟩| ⟨ep,e,l⟩
  rotate_left
  cases l;obtain⟨_,hd,vs,rel,dd⟩:=dK_at I e;obtain⟨w',hw,rw'⟩:=relO_some (v:=r) (o:=valueAt vs (.inr z)) (by rw[l];exact rel.val _);exact wm (x:=w') dd.typeIs Wz.lookup
   (wpAny_getItem_of (Q:=fun r s'=>r=w'/\EP X pins σ Q r s') (kV_is (k:=.inr z) ry) dd.mapOf hw ⟨rfl,r,H,I.tok _,rw',q⟩) hs
 |ref b =>
  obtain⟨ep,kvs,k,e,hk,eb,l⟩:=g;cases ry;obtain⟨_,hd,xs,rel,dd⟩:=dT_at I e hk;obtain⟨w',hw,rw'⟩:=relO_some (v:=r) (o:=(atKey xs k).map (·.2)) (by rw[l];exact rel.val _);obtain⟨p,hp,hp2⟩:=Option.map_eq_some_iff.mp hw;refine wm (x:=w') dd.typeIs Wz.lookup
   (wpAny_getItem_heap (Q:=fun r s'=>r=w'/\EP X pins σ Q r s') (wn (by omega)) (keyQ I eb) dd hp ?_) hs
  exact⟨hp2,r,H,I.tok _,by rw[hp2];exact rw',q⟩
 |_=>exact QW g
theorem in_dict(hu:X.A.units+66<cLine){y:V}{Q:VK}(I:Inv X pins σ H s)(ry:lA y u)(g:DGet X.K H a y o)(q:Q (.bl o.isSome) H) :
  wpAny (model X.prog X.w) X.A (compareOp .In u (.ref a)) (EP X pins σ Q) X.xe s:=by
 cases y with
 |str z =>
  rcases g with⟨kvs,e,l⟩| ⟨ep,e,l⟩
  rotate_left
  subst l;obtain⟨hd,dd⟩:=dE_at I e;exact wpAny_in_of (kV_is (k:=.inr z) ry) hd dd.mapOf ⟨.bl false,H,I.tok _,rfl,q⟩;obtain⟨_,hd,vs,rel,dd⟩:=dK_at I e;refine wpAny_in_of (kV_is (k:=.inr z) ry) hd dd.mapOf ⟨.bl o.isSome,H,I.tok _,?_,q⟩;rw[<- (rel.val (.inr z)).isSome_eq,<- l];rfl
 |ref b=>obtain⟨ep,kvs,k,e,hk,eb,l⟩:=g;cases ry;obtain⟨_,hd,xs,rel,dd⟩:=dT_at I e hk;refine wpAny_in_heap (wn (by omega)) (keyQ I eb) hd dd ⟨.bl o.isSome,H,I.tok _,?_,q⟩;have q:=(rel.val k).isSome_eq;rw[QAA]at q;rw[<- q,<- l];rfl
 |_=>exact QW g
theorem notin_dict(hu:X.A.units+66<cLine){y:V}{Q:VK}(I:Inv X pins σ H s)(ry:lA y u)(g:DGet X.K H a y o)(q:Q (.bl (!o.isSome)) H) :
  wpAny (model X.prog X.w) X.A (compareOp .NotIn u (.ref a)) (EP X pins σ Q) X.xe s:=by
 cases y with
 |str z =>
  rcases g with⟨kvs,e,l⟩| ⟨ep,e,l⟩
  rotate_left
  subst l;obtain⟨hd,dd⟩:=dE_at I e;exact wpAny_notIn_of (kV_is (k:=.inr z) ry) hd dd.mapOf ⟨.bl true,H,I.tok _,rfl,q⟩;obtain⟨_,hd,vs,rel,dd⟩:=dK_at I e;refine wpAny_notIn_of (kV_is (k:=.inr z) ry) hd dd.mapOf ⟨.bl (!o.isSome),H,I.tok _,?_,q⟩;rw[<- (rel.val (.inr z)).isSome_eq,<- l];rfl
 |ref b=>obtain⟨ep,kvs,k,e,hk,eb,l⟩:=g;cases ry;obtain⟨_,hd,xs,rel,dd⟩:=dT_at I e hk;refine wpAny_notIn_heap (wn (by omega)) (keyQ I eb) hd dd ⟨.bl (!o.isSome),H,I.tok _,?_,q⟩;have q:=(rel.val k).isSome_eq;rw[QAA]at q;rw[<- q,<- l];rfl
 |_=>exact QW g
theorem d_write{t':Nat}{ob:HO}(I:Inv X pins σ H s)(mu:Mut (H a))(hs:qG a s.heap h')(he:∃q,h'.get? a=some q)(new:UA X.prog X.w (JA H a ob) h' a ob) :
  Inv X pins σ (JA H a ob) { s with heap:=h',toks:=t' } :=
 I.write (x:=a) (e:=a) mu (.inl rfl) (fun b q hb z=>(hs.2 b hb).trans z) he new
theorem dT_write{t':Nat}{kvs:List KE}{xs:List (List Key×Addr×Value)}(I:Inv X pins σ H s)(mu:Mut (H a))(hd:(a==sysModules)=false)(hz:kvs.length<=sizeLine)(rel:KD kvs xs)
  (dd:h'.DictOfH (tupleKind (mixKind X.prog X.w)) a xs) (hs:qG a s.heap h'):∃ep,Inv X pins σ (JA H a (.dT ep kvs)) { s with heap:=h',toks:=t' }:=by
 obtain⟨q,es,ep,hq,h2,h3,h4,_,h5⟩:=dd;exact⟨ep,d_write I mu hs ⟨q,hq⟩ ⟨hz,hd,xs,rel,q,es,hq,h2,h3,h4,h5⟩⟩
def setD(K:QA)(o y v:V)(H:Hp)(Q:Hp->Prop):Prop:=match o with
 | .ref a=>DPut K H a y v Q
 |_=>False
theorem set_dict(hu:X.A.units+66<cLine):PSet X (setD X.K):=by
 intro pins s σ H o y v ov iv u Q I ro ri rv h;cases o with
 |ref a =>
  cases ro;cases y with
  |str z =>
   rcases h with⟨kvs,e,l,q⟩| ⟨ep,e,q⟩
   rotate_left
   obtain⟨hd,dd⟩:=dE_at I e;refine QAt (hsz:=Q5 _) (kV_is (k:=.inr z) ri) dd fun h' dd' hs=>⟨_,?_,q⟩
   have he:∃q,h'.get? a=some q:=let⟨q,_,_,hq,_⟩:=dd';⟨q,hq⟩
   exact d_write I (by rw[e];exact True.intro) hs he ⟨by simp;decide,hd,_,.cons ⟨rfl,rv⟩ .nil,dd'⟩;obtain⟨hz,hd,vs,rel,dd⟩:=dK_at I e;have hl:(putK kvs (.inr z) v).length<=sizeLine:=by have:=length_putK kvs (.inr z) v;omega
   refine QAt (hsz:=by rw[<- rel.length];exact hz) (kV_is (k:=.inr z) ri) dd fun h' dd' hs=>⟨_,?_,q⟩
   have he:∃q,h'.get? a=some q:=let⟨q,_,_,hq,_⟩:=dd';⟨q,hq⟩
   exact d_write I (by rw[e];exact True.intro) hs he ⟨hl,hd,_,rel.put _ rv,dd'⟩
  |ref b =>
   obtain⟨ep,kvs,k,e,hk,eb,l,q⟩:=h;cases ri;obtain⟨hz,hd,xs,rel,dd⟩:=dT_at I e hk;have hl:(putT kvs k b v).length<=sizeLine:=by have:=len_putT kvs k b v;omega
   refine wpAny_setItem_heap (hsz:=by rw[<- qJ rel];exact hz) (wn (by omega)) (keyQ I eb) dd fun h' dd' hs=>?_;obtain⟨ep',I'⟩:=dT_write (t':=_) I (by rw[e];exact True.intro) hd hl (rel.put k b rv) dd' hs;exact⟨_,I',q ep'⟩
  |_=>exact QW h
 |_=>exact QW h
theorem dE_ok{P:Program}{w:World}(h:Heap)(hb:sysModules<h.objs.size):UA P w H (h.push { cls:=.type "dict",data:=.dict #[] }) h.objs.size (.dT 0 []) :=
 ⟨Q5 _,beq_eq_false_iff_ne.mpr (Qy (Qg hb)),[],.nil,_,#[],QS _ rfl,⟨rfl,rfl,rfl⟩,rfl,rfl,Q0⟩
theorem pe_dnew:PE X (.Dict [] [] pos) (fun _ H Q=>∀p,H p=none->Q (.ref p) (JA H p (.dT 0 []))):=fun pins s σ H Q I h =>
 wpAny_Dict_empty ⟨.ref s.heap.objs.size,_,I.laid (a:=s.heap.objs.size) (o:=.dT 0 []) (t':=s.toks) (fun _ _ q=>QH _ q) (QR _) (dE_ok s.heap (Inv.big I)),rfl,h _ (I.hok.fresh (QR _))⟩
theorem pe_done(hu:X.A.units+66<cLine){k v:Expr}{tk tv:TE}(hk:PE X k tk)(hv:PE X v tv) :
  PE X (.Dict [some k] [v] pos) (fun σ H Q=>∀p,H p=none->tk σ (JA H p (.dT 0 [])) fun y H1=>tv σ H1 fun v H2=>H2 p=some (.dT 0 [])/\∃b ks,y=.ref b/\SqT X.K H2 b (ks.map kV)/\∀ep,Q (.ref p) (JA H2 p (.dT ep [(ks,b,v)]))):=by
 intro pins s σ H Q I q;have hn:=I.hok.fresh (QR s.heap.objs.size);have I1:=I.laid (a:=s.heap.objs.size) (o:=.dT 0 []) (h':=s.heap.push { cls:=.type "dict",data:=.dict #[] }) (t':=s.toks) (fun _ _ q=>QH _ q) (QR _) (dE_ok s.heap (Inv.big I));refine wpAny_Dict_any rfl rfl (by simp) (by simp) (pairTrees_cons_walk (thn (hk pins _ σ _ _ I1 (q _ hn)) fun u s2 ⟨y,H1,I2,r1,q1⟩=>thn (hv pins s2 σ H1 _ I2 q1) fun w2 s3 ⟨z,H2,I3,r2,e,b,ks,ey,eb,q2⟩=>pairTrees_nil_walk ?_));subst ey;cases r1;obtain⟨hz,hd,xs,rel,dd⟩:=dT_at I3 e (fun p hp=>nomatch hp);cases rel;show wpAny _ _ (forIn [(Value.ref b,w2)] PUnit.unit _) _ _ _;rw[QAa];refine QC (QC (wpAny_dictSet_heap (hsz:=Q5 _) (show X.A.units<cLine by omega) (keyQ I3 eb) dd fun h' dd' hs=>QI ?_));show wpAny _ _ (forIn ([]:List (Value×Value)) _ _) _ _ _;rw[QAq];obtain⟨ep',I'⟩:=dT_write (t':=_) (kvs:=[(ks,b,z)]) I3 (by rw[e];exact True.intro) hd (by simp;decide) (.cons ⟨rfl,rfl,r2⟩ .nil) dd' hs;exact QI ⟨.ref _,_,I',rfl,q2 ep'⟩
end
end
mutual
inductive Rep(K:QA)(H:Hp):V->PyData->Prop where
 |non:Rep K H .non .none
 |bl (b:Bool):Rep K H (.bl b) (.bool b)
 |int (i:Int):Rep K H (.int i) (.int i)
 |str (x:Str):Rep K H (.str x) (.str x)
 |lst {a:Addr}{xs:List V}{ds:List PyData}:SqL K H a xs->Reps K H xs ds->Rep K H (.ref a) (.list ds)
 |tup {a:Addr}{xs:List V}{ds:List PyData}:SqT K H a xs->Reps K H xs ds->Rep K H (.ref a) (.tuple ds)
 |dct {b:Bool}{a:Addr}{o:HO}{ks:List PyData}{xs:List V}{ds:List PyData}:H a=some o->DKo K H b o ks xs->Reps K H xs ds->Rep K H (.ref a) (.dict (ks.zip ds))
inductive Reps(K:QA)(H:Hp):List V->List PyData->Prop where
 |nil:Reps K H [] []
 |cons {x:V}{d:PyData}{xs:List V}{ds:List PyData}:Rep K H x d->Reps K H xs ds->Reps K H (x::xs) (d::ds)
end
section
variable{K:QA}{H:Hp}{R:List V->List PyData->Prop}{xs:List V}{ds:List PyData}
theorem Rep.both{P:V->PyData->Prop}(non:P .non .none)(bl:∀b,P (.bl b) (.bool b))(int:∀i,P (.int i) (.int i))(str:∀x,P (.str x) (.str x))
    (lst:∀{a:Addr}{xs:List V}{ds:List PyData},SqL K H a xs->Reps K H xs ds->R xs ds->P (.ref a) (.list ds))
    (tup:∀{a:Addr}{xs:List V}{ds:List PyData},SqT K H a xs->Reps K H xs ds->R xs ds->P (.ref a) (.tuple ds))
    (dct:∀{b:Bool}{a:Addr}{o:HO}{ks:List PyData}{xs:List V}{ds:List PyData},H a=some o->DKo K H b o ks xs->Reps K H xs ds->R xs ds->P (.ref a) (.dict (ks.zip ds)))
    (nil:R [] []) (cons:∀{x:V}{d:PyData}{xs:List V}{ds:List PyData},Rep K H x d->Reps K H xs ds->P x d->R xs ds->R (x::xs) (d::ds)) :
    (∀{x:V}{d:PyData},Rep K H x d->P x d)/\∀{xs:List V}{ds:List PyData},Reps K H xs ds->R xs ds :=
  ⟨fun h=>Rep.rec (motive_1:=fun x d _=>P x d) (motive_2:=fun x d _=>R x d) non bl int str @lst @tup @dct nil @cons h,
   fun h=>Reps.rec (motive_1:=fun x d _=>P x d) (motive_2:=fun x d _=>R x d) non bl int str @lst @tup @dct nil @cons h⟩
theorem Reps.ind(nil:R [] [])(cons:∀{x:V}{d:PyData}{xs:List V}{ds:List PyData},Rep K H x d->R xs ds->R (x::xs) (d::ds))(h:Reps K H xs ds):R xs ds :=
 (Rep.both (P:=fun _ _=>True) trivial (fun _=>trivial) (fun _=>trivial) (fun _=>trivial) (fun _ _ _=>trivial) (fun _ _ _=>trivial) (fun _ _ _ _=>trivial) nil fun h _ _ r=>cons h r).2 h
theorem Reps.length(h:Reps K H xs ds):xs.length=ds.length:=Reps.ind (R:=fun xs ds=>xs.length=ds.length) rfl (fun _ e=>congrArg Nat.succ e) h
end
section
variable{X:Cx}{pins:LAO}{σ:St}{H:Hp}{s:Shared}
section
variable{kvs:List (Key×V)}{xs:List (List Key×Addr×Value)}{vs:List (Key×Value)}
theorem reads_keys{k:List Key}:∀{us:List Value},bA (k.map kV) us->∃as,ReadsAll s.heap us (k.map kD) as:=by
 induction k with
 |nil=>intro us h;cases h;exact⟨_,.nil⟩
 |cons x k ih =>
  intro us h;cases h with
  |cons e r =>
   obtain⟨as,q⟩:=ih r;cases x with
   |inl i=>obtain⟨t,rfl⟩:=e;exact⟨_,.cons (.int i t) q⟩
   |inr x=>obtain⟨t,rfl⟩:=e;exact⟨_,.cons (.str x t) q⟩
theorem reads_KD(I:Inv X pins σ H s){kvs:List KE}(r:KD kvs xs)(hk:KeysAt X.K H kvs):∃as,ReadsAll s.heap (xs.map fun x=>.ref x.2.1) (kvs.map fun p=>tD p.1) as:=by
 induction r with
 |nil=>exact⟨_,.nil⟩
 |@cons p x _ _ h t ih=>obtain⟨as,q⟩:=ih fun p hp=>hk p (QE _ hp);obtain⟨its,rv,⟨o,e,c,n,d⟩,_⟩:=I.tuple (hk p QF);obtain⟨bs,rb⟩:=reads_keys (s:=s) rv;rw[h.2.1]at e;exact⟨_,.cons (.tuple e c d (by simpa using rb)) q⟩
theorem reads_pairs{P:Program}{w:World}{es:List DictEntry}(hk:KV kvs vs)(hp:Pairs (mixKind P w) es vs):(∃as,ReadsAll s.heap (es.map (·.key)) (kvs.map fun p=>kD p.1) as)/\es.map (·.val)=vs.map (·.2):=by
 unfold KV at hk;induction hk generalizing es with
 |nil=>cases hp;exact⟨⟨_,.nil⟩,rfl⟩
 |cons h t ih =>
  cases hp with
  |cons a b c =>
   obtain⟨⟨as,q⟩,q2⟩:=ih c;refine⟨?_,by rw[QN,QN,q2,b]⟩;rw[QN,QN];rw[<- h.1]at a;rcases CA a with⟨i,t,e1,e2⟩| ⟨x,t,e1,e2⟩
   rw[e1,e2];exact⟨_,.cons (.int i t) q⟩;rw[e1,e2];exact⟨_,.cons (.str x t) q⟩
theorem vals_KD{kvs:List KE}(r:KD kvs xs):bA (kvs.map (·.2.2)) (xs.map (·.2.2)):=by
 induction r with
 |nil=>exact .nil
 |cons h _ ih=>exact .cons h.2.2 ih
theorem vals_KV(r:KV kvs vs):bA (kvs.map (·.2)) (vs.map (·.2)):=by
 induction r with
 |nil=>exact .nil
 |cons h _ ih=>exact .cons h.2 ih
theorem dict_lies(I:Inv X pins σ H s){b:Bool}{a:Addr}{o:HO}{ks:List PyData}{xs:List V}(h:H a=some o)(q:DKo X.K H b o ks xs):∃ob es ep us,s.heap.get? a=some ob/\ob.cls=.type "dict"/\ob.dict=none/\ob.data=.dict es ep/\(a==sysModules)=false /\
  (∃as,ReadsAll s.heap (es.toList.map (·.key)) ks as)/\bA xs us/\es.toList.map (·.val)=us:=by
 cases b with
 |true=>obtain⟨ep0,kvs,rfl,rfl,rfl,hk,_⟩:=q;obtain⟨_,hd,ys,rel,ob,es,ep,h1,h2,h3,h4,_⟩:=dT_at I h hk;refine⟨ob,es,ep,_,h1,h2.1,h2.2.1,h3,hd,?_,vals_KD rel,?_⟩;rw[h4,Qp];exact reads_KD I rel hk;rw[h4,Qp];rfl
 |false =>
  rcases q with⟨kvs,_,rfl,rfl,rfl,_⟩| ⟨ep0,rfl,rfl,rfl⟩
  rotate_left
  obtain⟨_,hd,ys,rel,ob,es,ep,h1,h2,h3,h4,_⟩:=dT_at I h fun _ z=>nomatch z;cases rel;exact⟨ob,es,ep,[],h1,h2.1,h2.2.1,h3,hd,⟨_,by rw[h4];exact .nil⟩,.nil,by rw[h4];rfl⟩;obtain⟨_,hd,vs,rel,ob,es,ep,h1,h2,h3,_,h4,_⟩:=dK_at I h;obtain⟨q1,q2⟩:=reads_pairs (s:=s) rel h4;exact⟨ob,es,ep,_,h1,h2.1,h2.2.1,h3,hd,q1,vals_KV rel,q2⟩
theorem Rep.reads2(I:Inv X pins σ H s):(∀{x:V}{d:PyData},Rep X.K H x d->∀u,lA x u->∃as,Reads s.heap u d as)/\∀{xs:List V}{ds:List PyData},Reps X.K H xs ds->∀us,bA xs us->∃as,ReadsAll s.heap us ds as:=by
 refine Rep.both (P:=fun x d=>∀u,lA x u->∃as,Reads s.heap u d as) (R:=fun xs ds=>∀us,bA xs us->∃as,ReadsAll s.heap us ds as) (fun u r=>?_) (fun b u r=>?_) (fun i u r=>?_) (fun x u r=>?_) (fun h q ih u r=>?_) (fun h q ih u r=>?_) (fun {b a o ks xs ds} h q r ih u rr=>?_) (fun us r=>?_) fun _ _ i1 i2 us r=>?_;cases r;exact⟨_,.none⟩;cases r;exact⟨_,.bool b⟩;obtain⟨t,rfl⟩:=r;exact⟨_,.int i t⟩;obtain⟨t,rfl⟩:=r;exact⟨_,.str x t⟩;cases r;obtain⟨its,rv,⟨o,n,e,c,_,d⟩,_⟩:=I.list h;obtain⟨as,ra⟩:=ih _ rv;exact⟨_,.list e c d (by simpa using ra)⟩;cases r;obtain⟨its,rv,⟨o,e,c,n,d⟩,_⟩:=I.tuple h;obtain⟨as,ra⟩:=ih _ rv;exact⟨_,.tuple e c d (by simpa using ra)⟩;cases rr;obtain⟨ob,es,ep,us,h1,h2,h3,h4,h5,⟨as,h6⟩,h7,h8⟩:=dict_lies I h q;obtain⟨bs,rb⟩:=ih _ h7;have hl:ks.length=ds.length:=by rw[q.len,Reps.length r]
 have e1:(ks.zip ds).map (fun x=>x.1)=ks:=Wc (WU hl);have e2:(ks.zip ds).map (fun x=>x.2)=ds:=Wd (WU hl.symm);exact⟨_,.dict h1 h2 h4 (by rw[e1];exact h6) (by rw[e2,h8];exact rb)⟩;cases r;exact⟨_,.nil⟩;cases r with
 |cons r rs=>obtain⟨as,ra⟩:=i1 _ r;obtain⟨bs,rb⟩:=i2 _ rs;exact⟨_,.cons ra rb⟩
theorem Rep.reads(I:Inv X pins σ H s){x:V}{d:PyData}{u:Value}(h:Rep X.K H x d)(r:lA x u):∃as,Reads s.heap u d as:=(Rep.reads2 I).1 h u r
def okD(d:PyData):Prop:=d.canLay0=true/\d.depth<=64
def rEq(K:QA)(neg:Bool):R2:=fun x y H Q=>match x,y with
 | .int i,.int j=>Q (.bl (if neg then !decide (i=j) else decide (i=j))) H
 | .str a,.str b=>Q (.bl (if neg then !decide (a=b) else decide (a=b))) H
 | .bl a,.bl b=>Q (.bl (if neg then !decide (a=b) else decide (a=b))) H
 |x,y=>∃dx dy,Rep K H x dx/\Rep K H y dy/\okD dx/\okD dy/\Q (.bl (if neg then !PyData.eqv dx dy else Qw dx dy)) H
theorem op_eq(hu:X.A.units+64<cLine):OpR X (compareOp .Eq) (rEq X.K false):=by
 intro pins s σ H x y v u Q I rx ry h;have gen:(∃dx dy,Rep X.K H x dx/\Rep X.K H y dy/\okD dx/\okD dy/\Q (.bl (if false=true then !PyData.eqv dx dy else Qw dx dy)) H)->wpAny (model X.prog X.w) X.A (compareOp .Eq v u) (EP X pins σ Q) X.xe s:=by rintro⟨dx,dy,h1,h2,⟨o1,o2⟩,⟨o3,o4⟩,q⟩;obtain⟨as,ra⟩:=h1.reads I rx;obtain⟨bs,rb⟩:=h2.reads I ry;exact SeqAt.compareEq_reads ra rb o1 o3 (by omega) ⟨.bl _,H,I,rfl,q⟩
 have sc:scal x y=true->Q (.bl (decide (x=y))) H->wpAny (model X.prog X.w) X.A (compareOp .Eq v u) (EP X pins σ Q) X.xe s:=fun h1 h2=>_root_.L2.op_eq pins s σ H x y v u Q I rx ry ⟨h1,h2⟩;cases x with
 |int i =>
  cases y with
  |int j=>exact sc rfl (by simpa[rEq]using h)
  |_=>exact gen h
 |str a =>
  cases y with
  |str b=>exact sc rfl (by simpa[rEq]using h)
  |_=>exact gen h
 |bl a =>
  cases y with
  |bl b=>exact sc rfl (by simpa[rEq]using h)
  |_=>exact gen h
 |_=>exact gen h
theorem op_ne(hu:X.A.units+64<cLine):OpR X (compareOp .NotEq) (rEq X.K true):=by
 intro pins s σ H x y v u Q I rx ry h;have gen:(∃dx dy,Rep X.K H x dx/\Rep X.K H y dy/\okD dx/\okD dy/\Q (.bl (if true=true then !PyData.eqv dx dy else Qw dx dy)) H)->wpAny (model X.prog X.w) X.A (compareOp .NotEq v u) (EP X pins σ Q) X.xe s:=by rintro⟨dx,dy,h1,h2,⟨o1,o2⟩,⟨o3,o4⟩,q⟩;obtain⟨as,ra⟩:=h1.reads I rx;obtain⟨bs,rb⟩:=h2.reads I ry;exact SeqAt.compareNe_reads ra rb o1 o3 (by omega) ⟨.bl _,H,I,rfl,q⟩
 have sc:scal x y=true->Q (.bl (!decide (x=y))) H->wpAny (model X.prog X.w) X.A (compareOp .NotEq v u) (EP X pins σ Q) X.xe s:=fun h1 h2=>_root_.L2.op_ne pins s σ H x y v u Q I rx ry ⟨h1,h2⟩;cases x with
 |int i =>
  cases y with
  |int j=>exact sc rfl (by simpa[rEq]using h)
  |_=>exact gen h
 |str a =>
  cases y with
  |str b=>exact sc rfl (by simpa[rEq]using h)
  |_=>exact gen h
 |bl a =>
  cases y with
  |bl b=>exact sc rfl (by simpa[rEq]using h)
  |_=>exact gen h
 |_=>exact gen h
def rOrd(f:Int->Int->Bool):R2:=fun x y H Q=>match x,y with
 | .int i,.int j=>Q (.bl (f i j)) H
 |_,_=>False
theorem op_ord{op:CmpOp}{f:Int->Int->Bool}(h0:OpR X (compareOp op) (rI0 fun i j=>.bl (f i j))):OpR X (compareOp op) (rOrd f):=by
 intro pins s σ H x y v u Q I rx ry h;cases x with
 |int i =>
  cases y with
  |int j=>exact h0 pins s σ H _ _ v u Q I rx ry ⟨i,j,rfl,rfl,h⟩
  |_=>exact QW h
 |_=>exact QW h
def inStr(b a:Str):Bool:=match a.cps.toList with
 |[c]=>decide (c∈b.cps.toList)
 |_=>!(wa b a 0 b.length 1).isEmpty
theorem inStr_eq(b a:Str):inStr b a=!(wa b a 0 b.length 1).isEmpty:=by
 unfold inStr;split;rename_i c e;have ea:a=⟨#[c]⟩:=by
  obtain⟨cps⟩:=a;have:cps=#[c]:=by apply Wb.mp;simpa using e
  rw[this]
 rw[ea];exact(StrLaws.found_one b c).symm;rfl
def rInU(K:QA)(neg:Bool):R2:=fun x y H Q=>match y with
 | .str b=>match x with
  | .str a=>Q (.bl (if neg then !inStr b a else inStr b a)) H
  |_=>False
 | .ref p=>rIn K neg x (.ref p) H Q∨(∃d ds,Rep K H x d/\(Rep K H (.ref p) (.list ds)∨Rep K H (.ref p) (.tuple ds))/\okD d/\okD (.list ds)/\Q (.bl (if neg then !(ds.any fun y=>Qw y d) else ds.any fun y=>Qw y d)) H)∨(∃o,DGet K H p x o/\Q (.bl (if neg then !o.isSome else o.isSome)) H)
 |_=>False
theorem okD_items{ds:List PyData}(h:okD (.list ds)):Q9 ds=true/\qP ds<=63:=by obtain⟨h1,h2⟩:=h;simp only[qw]at h1;simp only[wt]at h2;exact⟨h1,by omega⟩
theorem op_in(hu:X.A.units+66<cLine):OpR X (compareOp .In) (rInU X.K false):=by
 intro pins s σ H x y v u Q I rx ry h;cases y with
 |str b =>
  cases x with
  |str a=>refine op_in_str pins s σ H _ _ v u Q I rx ry ⟨a,b,rfl,rfl,?_⟩;rw[<- inStr_eq];simpa[rInU]using h
  |_=>exact QW h
 |ref p =>
  rcases h with h|⟨d,ds,hx,hp,o1,o2,q⟩| ⟨o,g,q⟩
  rotate_left 2
  cases ry;exact in_dict hu I rx g q;exact op_in_seq pins s σ H _ _ v u Q I rx ry h;obtain⟨as,ra⟩:=hx.reads I rx;obtain⟨c1,c2⟩:=okD_items o2;rcases hp with hp|hp;obtain⟨bs,rb⟩:=hp.reads I ry;exact SeqAt.in_list_reads rb ra c1 o1.1 (by omega) ⟨.bl _,H,I,rfl,q⟩;obtain⟨bs,rb⟩:=hp.reads I ry;exact SeqAt.in_tuple_reads rb ra c1 o1.1 (by omega) ⟨.bl _,H,I,rfl,q⟩
 |_=>exact QW h
theorem op_notin(hu:X.A.units+66<cLine):OpR X (compareOp .NotIn) (rInU X.K true):=by
 intro pins s σ H x y v u Q I rx ry h;cases y with
 |str b =>
  cases x with
  |str a=>refine op_notin_str pins s σ H _ _ v u Q I rx ry ⟨a,b,rfl,rfl,?_⟩;rw[<- inStr_eq];simpa[rInU]using h
  |_=>exact QW h
 |ref p =>
  rcases h with h|⟨d,ds,hx,hp,o1,o2,q⟩| ⟨o,g,q⟩
  rotate_left 2
  cases ry;exact notin_dict hu I rx g q;exact op_notIn_seq pins s σ H _ _ v u Q I rx ry h;obtain⟨as,ra⟩:=hx.reads I rx;obtain⟨c1,c2⟩:=okD_items o2;rcases hp with hp|hp;obtain⟨bs,rb⟩:=hp.reads I ry;exact SeqAt.notIn_list_reads rb ra c1 o1.1 (by omega) ⟨.bl _,H,I,rfl,q⟩;obtain⟨bs,rb⟩:=hp.reads I ry;exact SeqAt.notIn_tuple_reads rb ra c1 o1.1 (by omega) ⟨.bl _,H,I,rfl,q⟩
 |_=>exact QW h
end
end
def Its(z:Str):It:=⟨fun i _=>i<z.cps.size,fun i H x H'=>H'=H/\∃c,z.cps[i]?=some c/\x=.str ⟨#[c]⟩,fun i _=>z.cps.size<=i⟩
theorem turn_str{P:Program}{w:World}{K:QA}{tg:Expr}(it:Addr)(z:Str)(t:Tok):Turn P w K tg (Its z) [it] it (fun i h=>h.IsStrIter it (strIterType z) z t i) where
 mem:=by simp
 obj:=fun i h st b hb=>by
  have e:b=it:=by simpa using hb
  subst e;obtain⟨o,e,c,d⟩:=st;exact⟨o,e,fun v z=>by rw[d]at z;cases z⟩
 keep:=fun i h h' st k=>by obtain⟨o,e,r⟩:=st;exact⟨o,k it (by simp) o e,r⟩
 item:=by
  intro X hP hw hK hc i pins s σ H E I hf st hg;subst hP hw hK;obtain⟨f0,f1,f2,f3,f4,f5⟩:=hf it (by simp);have hg':i<z.cps.size:=hg;obtain⟨ch,hx⟩:∃ch,z.cps[i]?=some ch:=⟨_,W0 hg'⟩
  have key:∀h',h'.IsStrIter it (strIterType z) z t (i+1)->qG it s.heap h'->∃u,some (Value.str ⟨#[ch]⟩ s.toks)=some u /\
    wpAny (model X.prog X.w) X.A (letOwnedTupleGo tg (.ref it) u) (fun _ s2=>∃x H',Inv X pins σ H' s2/\lA x u/\(Its z).yld i H x H'/\s2.heap.IsStrIter it (strIterType z) z t (i+1)/\∀b∈[it],H' b=none) E { s with heap:=h',toks:=s.toks+1 }:=fun h' st' sb=>by
   have I1:Inv X pins σ H { s with heap:=h',toks:=s.toks+1 }:=I.turned (fun b o hb e=>(sb.2 b hb).trans e) f0 f1 f3 f4 f5;obtain⟨o,e,c,d⟩:=id st';refine⟨_,rfl,go_of (s:={ s with heap:=h',toks:=s.toks+1 }) (n:=strIterType z) e c d ?_ ⟨.str ⟨#[ch]⟩,H,I1,⟨_,rfl⟩,⟨rfl,_,hx,rfl⟩,st',fun b hb=>(hf b hb).1⟩⟩;unfold strIterType;split<;>decide
  cases ha:z.cps.all (· < 128) with
  |false =>
   have e1:strIterType z="str_iterator":=by simp[strIterType,ha]
   exact wpAny_pyNext_wide_item (by rw[<- e1];exact st) hx fun h' st' sb=>key h' (by rw[e1];exact st') sb
  |true =>
   have e1:strIterType z="str_ascii_iterator":=by simp[strIterType,ha]
   exact wpAny_pyNext_ascii_item (by rw[<- e1];exact st) hx fun h' st' sb=>key h' (by rw[e1];exact st') sb
 done:=by
  intro X hP hw hK hc i pins s σ H E I hf st hg;subst hP hw hK;obtain⟨f0,f1,f2,f3,f4,f5⟩:=hf it (by simp);have hx:z.cps[i]?=none:=by rw[Array.getElem?_eq_none_iff];exact hg
  cases ha:z.cps.all (· < 128) with
  |false =>
   have e1:strIterType z="str_iterator":=by simp[strIterType,ha]
   rw[e1]at st;exact wpAny_pyNext_wide_end (I.ok.hd hc) st hx fun h' eb=>⟨rfl,I.turned (t':=s.toks) (fun b o hb e=>eb b o hb e) f0 f1 f3 f4 f5⟩
  |true =>
   have e1:strIterType z="str_ascii_iterator":=by simp[strIterType,ha]
   rw[e1]at st;exact wpAny_pyNext_ascii_end (I.ok.hd hc) st hx fun h' eb=>⟨rfl,I.turned (t':=s.toks) (fun b o hb e=>eb b o hb e) f0 f1 f3 f4 f5⟩
 self:=by
  intro A i s Q E st h;cases ha:z.cps.all (· < 128) with
  |false =>
   have e1:strIterType z="str_iterator":=by simp[strIterType,ha]
   rw[e1]at st;exact wpAny_pyIter_striter_wide st h
  |true =>
   have e1:strIterType z="str_ascii_iterator":=by simp[strIterType,ha]
   rw[e1]at st;exact wpAny_pyIter_striter_ascii st h
section
variable{X:Cx}
theorem bools_of:∀{bs:List Bool}{us:List Value},bA (bs.map V.bl) us->∀(i:Nat) (v:Value),us[i]?=some v->∃b,bs[i]?=some b/\v=Value.bool b
 |[],_,.nil,i,v,h=>by simp at h
 |b::bs,_,.cons r t,0,v,h=>by simp at h;subst h;exact⟨b,by simp,r⟩
 |b::bs,_,.cons r t,i+1,v,h=>by obtain⟨c,h1,h2⟩:=bools_of (bs:=bs) t i v (by simpa using h);exact⟨c,by simpa using h1,h2⟩
theorem range_all(bs:List Bool):(Qz bs.length).all (fun i=>bs.getD i true)=bs.all id:=by
 rw[qO,qE,qE];constructor;intro h b hb;obtain⟨i,hi,e⟩:=QAu hb;have:=h i (by simpa using hi);simp[QAc,hi,e]at this;simpa using this;intro h i hi;have hi':i<bs.length:=by simpa using hi
 have:=h bs[i] (QBd hi');simpa[QAc,hi']using this
theorem range_any(bs:List Bool):(Qz bs.length).any (fun i=>bs.getD i false)=bs.any id:=by
 rw[qO,We,We];constructor;rintro⟨i,hi,e⟩;have hi':i<bs.length:=by simpa using hi
 exact⟨bs[i],QBd hi',by simpa[QAc,hi']using e⟩;rintro⟨b,hb,e⟩;obtain⟨i,hi,e'⟩:=QAu hb;exact⟨i,by simpa using hi,by simp[QAc,hi,e'];simpa using e⟩
def rAll(K:QA):List V->Hp->VK->Prop:=fun vs H Q=>match vs with
 |[.ref a]=>∃bs:List Bool,SqL K H a (bs.map V.bl)/\Q (.bl (bs.all id)) H
 |_=>False
def rAny(K:QA):List V->Hp->VK->Prop:=fun vs H Q=>match vs with
 |[.ref a]=>∃bs:List Bool,SqL K H a (bs.map V.bl)/\Q (.bl (bs.any id)) H
 |_=>False
theorem call_all(hh:X.calm=true):CallR X (.builtin "all") (rAll X.K):=by
 intro pins s σ H xs us Q I r h
 match xs,h with
 |[.ref a],⟨bs,hq,q⟩ =>
  obtain⟨u,rfl,ru⟩:=vals1 r;cases ru;obtain⟨its,rv,p,hz⟩:=I.list hq;have hl:=rv.length;rw[QG]at hl;refine call_all_walk (w8 p.isList ?_);have hlt:a<s.heap.objs.size:=by obtain⟨o,n,e,_⟩:=p;exact QU e
  refine⟨s.heap.objs.size,_,_,_,_,_,fun i=>bs.getD i true,rfl,QBw (A:=X.A.in1) (I.ok.hd hh) s.heap.objs.size a (Qg hlt) its.toArray,⟨⟨_,QS _ rfl,rfl,rfl⟩,?_⟩,?_,?_⟩;obtain⟨o,n,e,c,d,sq⟩:=p;exact⟨o,QH _ e,c,n,sq⟩;intro i v s' Q' E' hP hQ';obtain⟨b,hb,rfl⟩:=bools_of rv i v (by simpa using hP);refine qy ?_;have:bs.getD i true=b:=by simp[QAc,hb]
  rw[<- this];exact hQ';intro h' tk hk;have e1:(Qz its.toArray.size).all (fun i=>bs.getD i true)=bs.all id:=by rw[QO,<- hl,range_all]
  rw[e1];exact⟨.bl _,H,I.kept (t':=tk) (fun b o e=>hk b o (by simp;exact Qg (QU e)) (QH _ e)),rfl,q⟩
theorem call_any(hh:X.calm=true):CallR X (.builtin "any") (rAny X.K):=by
 intro pins s σ H xs us Q I r h
 match xs,h with
 |[.ref a],⟨bs,hq,q⟩ =>
  obtain⟨u,rfl,ru⟩:=vals1 r;cases ru;obtain⟨its,rv,p,hz⟩:=I.list hq;have hl:=rv.length;rw[QG]at hl;refine call_any_walk (w8 p.isList ?_);have hlt:a<s.heap.objs.size:=by obtain⟨o,n,e,_⟩:=p;exact QU e
  refine⟨s.heap.objs.size,_,_,_,_,_,fun i=>bs.getD i false,rfl,QBw (A:=X.A.in1) (I.ok.hd hh) s.heap.objs.size a (Qg hlt) its.toArray,⟨⟨_,QS _ rfl,rfl,rfl⟩,?_⟩,?_,?_⟩;obtain⟨o,n,e,c,d,sq⟩:=p;exact⟨o,QH _ e,c,n,sq⟩;intro i v s' Q' E' hP hQ';obtain⟨b,hb,rfl⟩:=bools_of rv i v (by simpa using hP);refine qy ?_;have:bs.getD i false=b:=by simp[QAc,hb]
  rw[<- this];exact hQ';intro h' tk hk;have e1:(Qz its.toArray.size).any (fun i=>bs.getD i false)=bs.any id:=by rw[QO,<- hl,range_any]
  rw[e1];exact⟨.bl _,H,I.kept (t':=tk) (fun b o e=>hk b o (by simp;exact Qg (QU e)) (QH _ e)),rfl,q⟩
def rLen(K:QA):List V->Hp->VK->Prop:=fun vs H Q=>(∃z,vs=[.str z]/\z.length<=sizeLine/\Q (.int z.length) H)∨∃a xs,vs=[.ref a]/\(SqL K H a xs∨SqT K H a xs)/\Q (.int xs.length) H
theorem call_len:CallR X (.builtin "len") (rLen X.K):=fun pins s σ H xs us Q I r h=>h.elim (call_len_str pins s σ H xs us Q I r) (call_len_seq pins s σ H xs us Q I r)
def cV:V->Option Value
 | .ty n=>some (.type n)
 | .ref C=>some (.ref C)
 |_=>none
def TyQ(K:QA)(H:Hp)(x:V)(t:Value):Prop:=(∃a xs,x=.ref a/\SqL K H a xs/\t=.type "list")∨∃a xs,x=.ref a/\SqT K H a xs/\t=.type "tuple"
def rIsI(K:QA):List V->Hp->VK->Prop:=fun vs H Q=>match vs with
 |[x,c]=>∃t cv b,(TyOf K H x t∨TyQ K H x t)/\cV c=some cv/\QAp K t cv=some b/\Q (.bl b) H
 |_=>False
theorem call_isi:CallR X (.builtin "isinstance") (rIsI X.K):=by
 intro pins s σ H xs us Q I r h
 match xs,h with
 |[x,c],⟨t,cv,b,ty,hc,hk,q⟩ =>
  obtain⟨u,w',rfl,ru,rw'⟩:=vals2 r;have e:w'=cv:=by
   cases c with
   |ty n=>have h1:w'=Value.type n:=rw';have h2:some (Value.type n)=some cv:=hc;rw[h1];exact Q7 h2
   |ref C=>have h1:w'=Value.ref C:=rw';have h2:some (Value.ref C)=some cv:=hc;rw[h1];exact Q7 h2
   |_=>cases hc
  subst e;rcases ty with ty|⟨a,xs,rfl,hq,rfl⟩| ⟨a,xs,rfl,hq,rfl⟩
  exact isinst_ok I ru ty hk fun tk=>⟨.bl b,H,I.tok tk,rfl,q⟩
  cases ru;obtain⟨its,rv,⟨o,n,e,c,_,d⟩,_⟩:=I.list hq;exact qC W7 I.kIn ⟨o,e,c⟩ hk (fun z=>nomatch z) fun tk=>⟨.bl b,H,I.tok tk,rfl,q⟩
  cases ru;obtain⟨its,rv,⟨o,e,c,n,d⟩,_⟩:=I.tuple hq;exact qC QA5 I.kIn ⟨o,e,c⟩ hk (fun z=>nomatch z) fun tk=>⟨.bl b,H,I.tok tk,rfl,q⟩
def rSl(K:QA):V->Option Int->Option Int->Hp->VK->Prop:=fun x lo hi H Q=>match x with
 | .str z=>z.length<=sizeLine/\Q (.str (QBz z lo hi)) H
 | .ref a=>rSlL K (.ref a) lo hi H Q∨rSlT K (.ref a) lo hi H Q
 |_=>False
theorem sl_any:SlR X (rSl X.K):=by
 intro pins s σ H x v vl vu lo hi sl Q I rx hs pl pu h;cases x with
 |str z =>
  obtain⟨t,rfl⟩:=rx;obtain⟨hz,q⟩:=h;refine⟨"str",_,F.slot_str_getitem.lookup,QBt _ _ _,?_⟩;have fin:∀l u:Option (Int×Tok),l.map (·.1)=lo->u.map (·.1)=hi->s.heap.IsSlice sl l u none->wpAny (model X.prog X.w) X.A (getItem (.str z t) (.ref sl)) (EP X pins σ Q) X.xe s:=fun l u e1 e2 hsl=>by refine wpAny_getItem_str_slice hsl rfl ?_;subst e1 e2;exact post_val_or_str ⟨QX (Txt.slice_le z _ _) hz,fun t' k=>⟨.str (QBz z _ _),H,I.tok k,⟨_,rfl⟩,q⟩⟩
  obtain⟨o,ho,hc,hd⟩:=hs;cases pl with
  |none =>
   cases pu with
   |none=>exact fin none none rfl rfl ⟨o,ho,hc,hd⟩
   |int j tj=>exact fin none (some (j,tj)) rfl rfl ⟨o,ho,hc,hd⟩
  |int i ti =>
   cases pu with
   |none=>exact fin (some (i,ti)) none rfl rfl ⟨o,ho,hc,hd⟩
   |int j tj=>exact fin (some (i,ti)) (some (j,tj)) rfl rfl ⟨o,ho,hc,hd⟩
 |ref a=>rcases h with h|h;exact sl_list pins s σ H _ v vl vu lo hi sl Q I rx hs pl pu h;exact sl_tup pins s σ H _ v vl vu lo hi sl Q I rx hs pl pu h
 |_=>exact QW h
end
section
variable{h h':Heap}{j:Addr}{z:Src}{k:Nat}{xs:Array Value}
inductive Src where
 |l (a:Addr)|t (a:Addr)
def Src.adr:Src->Addr
 | .l a=>a
 | .t a=>a
def SrcIt(h:Heap)(j:Addr):Src->Nat->Prop
 | .l a,k=>h.IsListIter j a k
 | .t a,k=>h.IsTupleIter j a k
def SrcHas(h:Heap):Src->Array Value->Prop
 | .l a,xs=>h.IsList a xs
 | .t a,xs=>h.IsTuple a xs
theorem SrcIt.keep(x:SrcIt h j z k)(e:∀o,h.get? j=some o->h'.get? j=some o):SrcIt h' j z k:=by
 cases z with
 |l a=>obtain⟨o,g1,g2⟩:=x;exact⟨o,e o g1,g2⟩
 |t a=>obtain⟨o,g1,g2⟩:=x;exact⟨o,e o g1,g2⟩
theorem SrcIt.obj(x:SrcIt h j z k):∃o,h.get? j=some o/\∀v,o.data≠.cell v:=by
 cases z with
 |l a=>obtain⟨o,g1,g2,g3⟩:=x;exact⟨o,g1,fun v q=>by rw[g3]at q;cases q⟩
 |t a=>obtain⟨o,g1,g2,g3⟩:=x;exact⟨o,g1,fun v q=>by rw[g3]at q;cases q⟩
theorem SrcHas.ext{b:Addr}(x:SrcHas h z xs)(e:QAH b h h')(n:z.adr≠b):SrcHas h' z xs:=by
 cases z with
 |l a=>exact QBm.extBut x e n
 |t a=>exact Heap.IsTuple.extBut x e n
theorem SrcHas.lt(x:SrcHas h z xs):z.adr<h.objs.size:=by
 cases z with
 |l a=>obtain⟨o,g1,_⟩:=x;exact QU g1
 |t a=>obtain⟨o,g1,_⟩:=x;exact QU g1
theorem SrcIt.lt(x:SrcIt h j z k):j<h.objs.size:=by obtain⟨o,g1,_⟩:=x.obj;exact QU g1
end
section
variable{prog:Program}{w:World}{A:Around}{E:VSP}{s:Shared}
section
variable{j t:Addr}{k:Nat}{xs:Array Value}{x:Value}{Q:VSP}{z:Src}
theorem nx_tup(p:s.heap.IsTupleIter j t k)(pt:s.heap.IsTuple t xs)(px:xs[k]?=some x)
  (q:∀h',h'.IsTupleIter j t (k+1)->qG j s.heap h'->Q x { s with heap:=h' }):wpAny (model prog w) A (qQ (.ref j)) Q E s:=by
 obtain⟨ob,g1,g2,g3⟩:=id p;obtain⟨ot,t1,_,nt,t3⟩:=pt;unfold qQ;refine QC (qK (name:=Qx "__next__") p.typeIs qe (qD qe p.typeIs WK ?_ (WI _)));show wpAny _ _ (field (.ref j) 0 >>= _) _ _ _;refine QC (wO g1 g3 (x:=.ref t) rfl ?_);show wpAny _ _ (if(Value.ref t==Value.none)=true then _ else _) _ _ _;rw[if_neg (show ¬ (Value.ref t==Value.none)=true from QD)];show wpAny _ _ (field (.ref j) 1 >>= _) _ _ _;refine QC (wO g1 g3 (x:=.int k 0) rfl ?_);show wpAny _ _ (seqItems? (.ref t) >>= _) _ _ _;refine QC (wpAny_seqItems t1 t3 ?_);simp only[wV,px];refine QC (W4 g1 g3 (by simp) (QI ⟨x,rfl,QI (q _ ?_ (qA ..))⟩));refine⟨_,wL _ g1 (QAd (WL g3 _)),(QBI ..).trans g2,?_⟩;rw[WL g3];simp[rawInt]
theorem nx_tup_end(ah:A.handled=none)(p:s.heap.IsTupleIter j t k)(pt:s.heap.IsTuple t xs)(px:xs[k]?=none)
  (q:∀h' e,QAH j s.heap h'->(∃o,h'.get? e=some o/\o.cls=.type "StopIteration")->E (.ref e) { s with heap:=h' }):wpAny (model prog w) A (qQ (.ref j)) Q E s:=by
 obtain⟨ob,g1,g2,g3⟩:=id p;obtain⟨ot,t1,_,nt,t3⟩:=pt;unfold qQ;refine QC (qK (name:=Qx "__next__") p.typeIs qe (qD qe p.typeIs WK ?_ (WI _)));show wpAny _ _ (field (.ref j) 0 >>= _) _ _ _;refine QC (wO g1 g3 (x:=.ref t) rfl ?_);show wpAny _ _ (if(Value.ref t==Value.none)=true then _ else _) _ _ _;rw[if_neg (show ¬ (Value.ref t==Value.none)=true from QD)];show wpAny _ _ (field (.ref j) 1 >>= _) _ _ _;refine QC (wO g1 g3 (x:=.int k 0) rfl ?_);show wpAny _ _ (seqItems? (.ref t) >>= _) _ _ _;refine QC (wpAny_seqItems t1 t3 ?_);simp only[wV,px];refine QC (QAh (QC (W4 g1 g3 (by simp) ?_)));refine QC (m:=newExc (.type "StopIteration") []) ?_;simp only[newExc,newTuple];refine QC (Q1 ?made (by size_fits));refine QC (m:=firstArgMember _ _) (QAv (a:=Value.none) (by first|rfl | (rw[firstArgMember];rfl)) ?arg);refine Q1 ?made2 (by size_fits);simp only[raiseNew];refine QC (QA6 ?_);first|rw[show A.in1.handled=none from ah]|rw[ah]
 refine QC (QI (QBn (q _ _ (((qA ..).extBut.push _).push _) ⟨_,QS _ rfl,rfl⟩)))
theorem nx_item(p:SrcIt s.heap j z k)(pt:SrcHas s.heap z xs)(px:xs[k]?=some x)
  (q:∀h',SrcIt h' j z (k+1)->qG j s.heap h'->Q x { s with heap:=h' }):wpAny (model prog w) A (qQ (.ref j)) Q E s:=by
 cases z with
 |l a=>exact wpAny_nextOf_list_item p pt px q
 |t a=>exact nx_tup p pt px q
theorem nx_end(ah:A.handled=none)(p:SrcIt s.heap j z k)(pt:SrcHas s.heap z xs)(px:xs[k]?=none)
  (q:∀h' e,QAH j s.heap h'->(∃o,h'.get? e=some o/\o.cls=.type "StopIteration")->E (.ref e) { s with heap:=h' }):wpAny (model prog w) A (qQ (.ref j)) Q E s:=by
 cases z with
 |l a=>exact wpAny_nextOf_list_end ah p pt px q
 |t a=>exact nx_tup_end ah p pt px q
def Src.it:Src->Obj
 | .l a=>{ cls:=.type "list_iterator",data:=.fields #[.ref a,.int 0 0] }
 | .t a=>{ cls:=.type "tuple_iterator",data:=.fields #[.ref a,.int 0 0] }
theorem src_iter(pt:SrcHas s.heap z xs)(q:Q (.ref s.heap.objs.size) { s with heap:=s.heap.push z.it }):wpAny (model prog w) A (pyIter (.ref z.adr)) Q E s:=by
 cases z with
 |l a=>exact w8 pt q
 |t a=>exact QA7 pt q
theorem src_it0(h:Heap)(z:Src):SrcIt (h.push z.it) h.objs.size z 0:=by
 cases z with
 |l a=>exact⟨_,QS _ rfl,rfl,rfl⟩
 |t a=>exact⟨_,QS _ rfl,rfl,rfl⟩
end
end
section
variable{prog:Program}{w:World}{A:Around}{E:VSP}{s:Shared}
theorem sb_has{h h':Heap}{b:Addr}{z:Src}{xs:Array Value}(x:SrcHas h z xs)(e:qG b h h')(n:z.adr≠b):SrcHas h' z xs:=x.ext e.extBut n
end
section
variable{X:Cx}{pins:LAO}{σ:St}{H:Hp}{s:Shared}{h':Heap}
theorem _root_.L2.Inv.turnedL{t':Nat}{ch:List Addr}(I:Inv X pins σ H s)(k:∀b o,b∉ch->s.heap.get? b=some o->h'.get? b=some o)(f:∀b∈ch,FpOk X pins H b):Inv X pins σ H { s with heap:=h',toks:=t' }:=by
 have away:∀b u,H b=some u->b∉ch:=fun b u e z=>by rw[(f b z).1]at e;cases e
 have hL:X.env.locals∉ch:=fun z=>(f _ z).2.1 rfl;refine I.step (g':=s.gens) (d':=s.drawn) (ch:=ch) (fun b hb=>?_) (fun b o _ _ hc e _=>k b o hc e) (fun b o _ _ hc e _=>⟨o.slots,k b o hc e⟩) (fun _ _ _ _ n=>n)
  (fun b o hc e=>⟨o,k b o hc e⟩) (fun _ _ e=>e) (fun _ _ _ e=>e) (fun b ps e=>⟨#[],by rw[e];simp⟩) (fun m hm=>?_) (fun b u e=>?_) I.bare
 obtain⟨_,f1,_,f3,f4,f5⟩:=f b hb;exact⟨f3,f1,f4,f5⟩;obtain⟨o,es,ep,ho,r⟩:=hm;exact⟨o,es,ep,k _ o hL ho,r⟩;refine(I.hok b u e).stay (fun c v hc q=>k c v ?_ q) (fun _ q=>q) fun _ _ q=>q;rcases hc with z|z;rw[z];exact away b u e;exact away c _ z
def SqS(K:QA)(H:Hp):Src->List V->Prop
 | .l a,xs=>SqL K H a xs
 | .t a,xs=>SqT K H a xs
theorem _root_.L2.Inv.src(I:Inv X pins σ H s){z:Src}{xs:List V}(h:SqS X.K H z xs):∃its:List Value,bA xs its/\SrcHas s.heap z its.toArray/\xs.length<=sizeLine:=by
 cases z with
 |l a=>obtain⟨its,rv,p,hz⟩:=I.list h;exact⟨its,rv,p.isList,hz⟩
 |t a=>obtain⟨its,rv,p,hz⟩:=I.tuple h;exact⟨its,rv,p,hz⟩
theorem _root_.L2.Inv.src_inj(I:Inv X pins σ H s){z:Src}{xs ys:List V}(h:SqS X.K H z xs)(h':SqS X.K H z ys):xs=ys:=by
 cases z with
 |l a=>exact I.list_inj h h'
 |t a=>exact I.tuple_inj h h'
theorem _root_.L2.Inv.pair{p:Addr}{a b:Value}{x y:V}{t':Nat}(I:Inv X pins σ H s)(k:∀b u,s.heap.get? b=some u->h'.get? b=some u)(hp:s.heap.objs.size<=p)(ho:h'.get? p=some { cls:=.type "tuple",data:=.seq #[a,b] })(ra:lA x a)(rb:lA y b) :
  Inv X pins σ (JA H p (.tup [x,y])) { s with heap:=h',toks:=t' } :=
 I.laid k hp ⟨by rw[QZ];show 2<=_;decide,[a,b],.cons ra (.cons rb .nil),_,ho,rfl,_,rfl⟩
end
section
variable{prog:Program}{w:World}{A:Around}{E:VSP}{s:Shared}
section
variable{it d:Addr}{od:Obj}{es:Array DictEntry}{i ep:Nat}{ok ov:Value}{Q:Option Value->Shared->Prop}
theorem owns_items:Wj "dict_itemiterator"=true:=by decide +kernel
theorem one_items(l:List String)(h:(l.contains "dict_itemiterator" || l.contains "object")=false):(l.any fun t=>[Value.type "dict_itemiterator",Value.type "object"].contains (.type t))=false:=by
 rw[QBE];intro t ht;rw[Bool.or_eq_false_iff]at h;have h1:t≠"dict_itemiterator":=fun e=>by subst e;rw[Qo.mpr ht]at h;cases h.1
 have h2:t≠"object":=fun e=>by subst e;rw[Qo.mpr ht]at h;cases h.2
 simp[h1,h2]
theorem nx_items{e:DictEntry}
  (hit:IsItemIter s.heap it d i es.size ep ok ov) (hod:s.heap.get? d=some od) (hdd:od.data=.dict es ep) (hx:es[i]?=some e)
  (q:∀h',IsItemIterOut h' it d (i+1) es.size ep e.key e.val s.heap.objs.size->h'.get? s.heap.objs.size=some { cls:=.type "tuple",data:=.seq #[e.key,e.val] } ->
   h'.objs.size=s.heap.objs.size+1->(∀b o,b≠it->s.heap.get? b=some o->h'.get? b=some o)->Q (some (.ref s.heap.objs.size)) { s with heap:=h' }) :
  wpAny (model prog w) A (pyNext (.ref it)) Q E s:=by
 have hT:s.TypeIs (.ref it) "dict_itemiterator":=⟨_,hit,rfl⟩
 show wpAny _ _ (bind _ _) _ _ _;refine QC (QAI (qK hT qT (qD qT hT WV ?_ (WQ _))));show wpAny _ _ (bind _ _) _ _ _;refine QC (QI (QC (QC (QC (qm hT (QI (QC (W5 hit rfl ?_))))))));rw[owns_items];show wpAny _ _ (if(Value.ref d==Value.none)=true then _ else _) _ _ _;rw[if_neg (show ¬ (Value.ref d==Value.none)=true from QD)];show wpAny _ _ (wP (.ref d) >>= _) _ _ _;refine QC (QI (QC (qz hod hdd ?_)));rw[if_neg (show ¬ (((es.size:Nat):Int) != ((es.size:Nat):Int))=true by simp)];refine QC (QI (QC (wu hod hdd ?_)));rw[if_neg (show ¬ (((ep:Nat):Int) != ((ep:Nat):Int))=true by simp)];refine QI ?_;have h0:(if((i:Nat):Int)<0 then none else es[((i:Nat):Int).toNat]?)=some e:=by rw[if_neg (by omega),wV];exact hx
 simp only[h0];refine QC ?_;show wpAny _ _ (typeNameOfWhole (.ref it) >>= _) _ _ _;refine QC (qm hT (QI (QC (WO hT ?_))));rw[owns_items,if_pos rfl];rw[show(List.any _ fun t=>[Value.type "dict_itemiterator",Value.type "object"].contains (.type t))=false from one_items _ (by decide +kernel),if_neg QD];refine QC (wM hit (by simp) fun h1 hit1 hs1=>?_);have hit1:IsItemIter h1 it d (i+1) es.size ep ok ov:=hit1;refine QC (qb ?_);have hT1:({ s with heap:=h1 }:Shared).TypeIs (.ref it) "dict_itemiterator":=⟨_,hit1,rfl⟩
 show wpAny _ _ (Builtin.Dict_items.isOneOf (.ref it) _ >>= _) _ _ _;refine QC (WO hT1 ?_);rw[one_items _ (by decide +kernel),if_neg QD];refine QC (WO hT1 ?_);rw[one_items _ (by decide +kernel),if_neg QD];show wpAny _ _ (newTuple [e.key,e.val] >>= _) _ _ _;refine QC (wpAny_newTuple ?_);have sz1:h1.objs.size=s.heap.objs.size:=hs1.1;have hit2:IsItemIter (h1.push { cls:=.type "tuple",data:=.seq #[e.key,e.val] }) it d (i+1) es.size ep ok ov:=QH _ hit1;show wpAny _ _ (Builtin.Dict_items.ownedTupleIsFree (.ref it) >>= _) _ _ _;refine QC ?_;show wpAny _ _ (field (.ref it) 0 >>= _) _ _ _;refine QC (wO hit2 rfl (x:=.none) rfl (QI ?_));rw[if_pos rfl];show wpAny _ _ (field (.ref it) 6 >>= _) _ _ _;refine QC (wO hit2 rfl (x:=ok) rfl ?_);refine QC (wO hit2 rfl (x:=ov) rfl ?_);refine QC (wM hit2 (by simp) fun h3 hit3 hs3=>?_);refine QC (wM hit3 (by simp) fun h4 hit4 hs4=>?_);refine QC (wM hit4 (by simp) fun h5 hit5 hs5=>?_);refine QC (wM hit5 (by simp) fun h6 hit6 hs6=>?_);refine QC (wpAny_letGo (QI ?_));refine QI ⟨_,rfl,QI ?_⟩;have ilt:it<h1.objs.size:=QU hit1;have pt:h6.get? h1.objs.size=some { cls:=.type "tuple",data:=.seq #[e.key,e.val] } :=
  hs6.extBut _ _ (wY ilt) (hs5.extBut _ _ (wY ilt) (hs4.extBut _ _ (wY ilt) (hs3.extBut _ _ (wY ilt) (QS _ rfl))))
 have sz6:h6.objs.size=h1.objs.size+1:=by rw[hs6.1,hs5.1,hs4.1,hs3.1,WS]
 have hit6':IsItemIterOut h6 it d (i+1) es.size ep e.key e.val h1.objs.size:=hit6;rw[sz1]at pt sz6 hit6';have:=q h6 hit6' pt sz6 fun b o hb x=>hs6.extBut _ _ hb (hs5.extBut _ _ hb (hs4.extBut _ _ hb (hs3.extBut _ _ hb (QH _ (hs1.extBut _ _ hb x)))));show Q (some (.ref h1.objs.size)) _;rw[sz1];exact this
theorem nx_items_end(ah:A.handled=none)
  (hit:IsItemIter s.heap it d i es.size ep ok ov) (hod:s.heap.get? d=some od) (hdd:od.data=.dict es ep) (hx:es[i]?=none)
  (q:∀h',QAH it s.heap h'->Q none { s with heap:=h' }) :
  wpAny (model prog w) A (pyNext (.ref it)) Q E s:=by
 have hT:s.TypeIs (.ref it) "dict_itemiterator":=⟨_,hit,rfl⟩
 show wpAny _ _ (bind _ _) _ _ _;refine QC (QAI (qK hT qT (qD qT hT WV ?_ (WQ _))));show wpAny _ _ (bind _ _) _ _ _;refine QC (QI (QC (QC (QC (qm hT (QI (QC (W5 hit rfl ?_))))))));rw[owns_items];show wpAny _ _ (if(Value.ref d==Value.none)=true then _ else _) _ _ _;rw[if_neg (show ¬ (Value.ref d==Value.none)=true from QD)];show wpAny _ _ (wP (.ref d) >>= _) _ _ _;refine QC (QI (QC (qz hod hdd ?_)));rw[if_neg (show ¬ (((es.size:Nat):Int) != ((es.size:Nat):Int))=true by simp)];refine QC (QI (QC (wu hod hdd ?_)));rw[if_neg (show ¬ (((ep:Nat):Int) != ((ep:Nat):Int))=true by simp)];refine QI ?_;have h0:(if((i:Nat):Int)<0 then none else es[((i:Nat):Int).toNat]?)=none:=by rw[if_neg (by omega),wV];exact hx
 simp only[h0];refine QC ?_;show wpAny _ _ (typeNameOfWhole (.ref it) >>= _) _ _ _;refine QC (qm hT (QI ?_));rw[owns_items,if_pos rfl];refine QC (wM hit (by simp) fun h1 hit1 hs1=>?_);refine QC (m:=newExc (.type "StopIteration") []) ?_;simp only[newExc,newTuple];refine QC (Q1 ?made (by size_fits));refine QC (m:=firstArgMember _ _) (QAv (a:=Value.none) (by first|rfl | (rw[firstArgMember];rfl)) ?arg);refine Q1 ?made2 (by size_fits);simp only[raiseNew];refine QC (QA6 ?_);first|rw[show A.in1.handled=none from ah]|rw[ah]
 refine QC (QI (QBn ?_));refine QC (QBe (T:="StopIteration") (b:=true) ⟨_,QS _ rfl,rfl⟩ (by kernel_rfl) ?_);rw[if_pos rfl];exact QI (q _ ((hs1.extBut.push _).push _))
theorem it_items{v:Addr}{Q:VSP}(hv:s.heap.IsItemsView v d)(hod:s.heap.get? d=some od)(hdd:od.data=.dict es ep)
  (q:Q (.ref s.heap.objs.size) { s with heap:=s.heap.push { cls:=.type "dict_itemiterator",data:=.fields #[.none,.bool false,.ref d,.int 0 0,.int es.size 0,.int ep 0,.none,.none] } }) :
  wpAny (model prog w) A (pyIter (.ref v)) Q E s:=by
 have hT:=Heap.IsItemsView.typeIs hv;obtain⟨ov,hov,hcv,hdv⟩:=id hv;refine QBJ hT QAU (qD QAU hT F.entry_dict_items_iter ?_ (F.args_dict_items_iter_1 _));show wpAny _ _ (bind _ _) _ _ _;refine QC (QI (QC ?_));show wpAny _ _ (bind _ _) _ _ _;refine QC (wO hov hdv rfl (QI (QC ?_)));show wpAny _ _ (bind _ _) _ _ _;refine QC (qz hod hdd (QC (wu hod hdd ?_)));simp only[owns_items,if_true];refine Q1 (QI ⟨_,rfl,"dict_itemiterator",_,⟨_,QS _ rfl,rfl⟩,qT.lookup,q⟩) (show _<=sizeLine+2 by simp[Builtin.Dict_items.ownedTupleFields,QZ])
theorem call_items{Q:VSP}(hod:s.heap.get? d=some od)(hdd:od.cls=.type "dict")(hd:(d==sysModules)=false)
  (q:Q (.ref s.heap.objs.size) { s with heap:=s.heap.push { cls:=.type "dict_items",data:=.fields #[.ref d] } }):wpAny (model prog w) A (call (.builtin "dict.items") [.ref d]) Q E s:=by
 have hT:s.TypeIs (.ref d) "dict":=⟨_,hod,hdd⟩
 refine qD F.slot_dict_items hT F.entry_dict_items ?_ (F.args_dict_items_1 _);show wpAny _ _ (bind _ _) _ _ _;refine QC ?_;show wpAny _ _ (bind _ _) _ _ _;refine QC (WW hT ?_);refine QI ?_;show wpAny _ _ ((if(d==sysModules)=true then _ else _) >>= _) _ _ _;rw[hd,if_neg QD];exact QC (QI (QC (Q1 (QI ⟨_,rfl,q⟩) (show _<=sizeLine+2 by simp[QZ]))))
theorem wp_setdef{κ:Type}[DecidableEq κ]{knd:HeapKind prog w κ}{d a:Addr}{xs:List (κ×Addr×Value)}{k:κ}{v:Value}{Q:VSP}(hu:knd.room A)(hkey:knd.is s.heap k a)(hm:s.heap.DictOfH knd d xs)(hsz:xs.length<=sizeLine)
  (h1:∀p,atKey xs k=some p->Q p.2 { s with toks:=s.toks+knd.draws k })
  (h2:atKey xs k=none->∀h',h'.DictOfH knd d (storedH xs k a v)->qG d s.heap h'->Q v { s with heap:=h',toks:=s.toks+knd.draws k }) :
  wpAny (model prog w) A (dictSetDefault d (.ref a) v) Q E s:=by
 obtain⟨o,es,ep,ho,hc,hd,he,his,hn⟩:=id hm;have esz:es.size=xs.length:=by have:=congrArg qq he;simpa using this
 unfold dictSetDefault;refine qb (QC (knd.pyHash hu hkey (QC (wpAny_dictFind_heap hu hkey ho hd he his hn (fun hno=>?_) fun j p hj=>?_))));have hat:=atKey_none_of_get hno;have hnot:=not_mem_keys_of_get hno;refine QC (QAh (QC (wpAny_updateDictKeys ho hd (QI (h2 hat _ ?_ (qA ..))) (by omega) (by simp))));refine⟨_,_,ep+1,wL _ ho (Obj.isFreed_of_dict (QAj hd _)),Obj.ExactDict.mapDictKeys hc _,QAj hd _,?_,?_,?_⟩;rw[QBo hat];simp[he,entryOfKey];rw[QBo hat];intro x hx;rcases Qd.mp hx with hx|hx;exact knd.keeps (his x hx) ho hd (qA ..);rw[QJ.mp hx];exact knd.keeps hkey ho hd (qA ..);rw[QBo hat,Qc];exact qk.mpr ⟨hn,by simp,fun x hx y hy e=>by rw[QN,wZ,QJ]at hy;rw[e,hy]at hx;exact hnot hx⟩;have hat:=atKey_of_get hn hj;have ej:es[j]?=some (entryOfKey knd (k,p)):=by
  have:es.toList[j]?=some (entryOfKey knd (k,p)):=by rw[he,QY,hj];rfl
  simpa using this
 refine QC (qz ho hd ?_);rw[ej];exact QC (QAh (QI (h1 p hat)))
theorem call_setdef{κ:Type}[DecidableEq κ]{knd:HeapKind prog w κ}{d a:Addr}{xs:List (κ×Addr×Value)}{k:κ}{v:Value}{Q:VSP}(hu:knd.room A.in1)(hkey:knd.is s.heap k a)(hm:s.heap.DictOfH knd d xs)(hsz:xs.length<=sizeLine)(hd:(d==sysModules)=false)
  (h1:∀p,atKey xs k=some p->Q p.2 { s with toks:=s.toks+knd.draws k })
  (h2:atKey xs k=none->∀h',h'.DictOfH knd d (storedH xs k a v)->qG d s.heap h'->Q v { s with heap:=h',toks:=s.toks+knd.draws k }) :
  wpAny (model prog w) A (call (.builtin "dict.setdefault") [.ref d,.ref a,v]) Q E s:=by
 have hT:s.TypeIs (.ref d) "dict":=Heap.DictOfH.typeIs hm;refine qD F.slot_dict_setdefault hT F.entry_dict_setdefault ?_ (F.args_dict_setdefault_3 _ _ _);show wpAny _ _ (bind _ _) _ _ _;refine QC ?_;show wpAny _ _ (bind _ _) _ _ _;refine QC (WW hT ?_);refine QI ?_;show wpAny _ _ (if(d==sysModules)=true then _ else _) _ _ _;rw[hd,if_neg QD];exact QC (wp_setdef hu hkey hm hsz (fun p hp=>QI ⟨_,rfl,h1 p hp⟩) fun hn h' g1 g2=>QI ⟨_,rfl,h2 hn h' g1 g2⟩)
end
end
def rSetDef(K:QA):V->List V->Hp->VK->Prop:=fun x vs H Q=>∃a b v ep kvs k,x=.ref a/\vs=[.ref b,v]/\H a=some (.dT ep kvs)/\KeysAt K H kvs/\SqT K H b (k.map kV)/\kvs.length<sizeLine /\
   (∀u,valT kvs k=some u->Q u H)/\(valT kvs k=none->∀ep',Q v (JA H a (.dT ep' (putT kvs k b v))))
theorem mt_setdef{X:Cx}(hu:X.A.units+66<cLine):MtR X "dict.setdefault" (rSetDef X.K):=by
 intro pins s σ H x xs v us Q I rx rs h;obtain⟨a,b,y,ep,kvs,k,rfl,rfl,e,hk,eb,l,q1,q2⟩:=h;cases rx;obtain⟨u,w',rfl,ru,rw'⟩:=vals2 rs;cases ru;obtain⟨hz,hd,ys,rel,dd⟩:=dT_at I e hk;have hl:(putT kvs k b y).length<=sizeLine:=by have:=len_putT kvs k b y;omega
 refine call_setdef (wn (by omega)) (keyQ I eb) dd (by rw[<- qJ rel];exact hz) hd (fun p hp=>?_) fun hn h' dd' hs=>?_;have rv:=rel.val k;rw[hp]at rv;cases ev:valT kvs k with
 |none=>rw[ev]at rv;exact(show False from rv).elim
 |some u=>rw[ev]at rv;exact⟨u,H,I.tok _,rv,q1 u ev⟩
 have rv:=rel.val k;rw[hn]at rv;cases ev:valT kvs k with
 |some u=>rw[ev]at rv;exact(show False from rv).elim
 |none=>obtain⟨ep',I'⟩:=dT_write (t':=_) I (by rw[e];exact True.intro) hd hl (rel.put k b rw') dd' hs;exact⟨y,_,I',rw',q2 ev ep'⟩
def Itm(ep n:Nat)(a:Addr):It :=
  ⟨fun i H=>∃kvs p,H a=some (.dT ep kvs)/\kvs.length=n/\kvs[i]?=some p,
   fun i H v H'=>∃q p,H q=none/\v=.ref q/\H'=JA H q (.tup [.ref p.2.1,p.2.2])/\∀kvs,H a=some (.dT ep kvs)->kvs[i]?=some p,
   fun i H=>∃kvs,H a=some (.dT ep kvs)/\kvs.length=n/\n<=i⟩
theorem paired_get{α β:Type}{R:α->β->Prop}:∀{l:List α}{m:List β}{i:Nat}{x:α},Paired R l m->l[i]?=some x->∃y,m[i]?=some y/\R x y
 |_,_,i,_,.nil,e=>by simp at e
 |_,_,0,_,.cons r _,e=>by simp at e;subst e;exact⟨_,rfl,r⟩
 |_,_,i+1,x,.cons _ t,e=>by obtain⟨y,h1,h2⟩:=paired_get (i:=i) (x:=x) t (by simpa using e);exact⟨y,by simpa using h1,h2⟩
theorem turn_items{P:Program}{w:World}{K:QA}{es:List Expr}{kk:Nat}{pp:Pos}{a it:Addr}{n ep:Nat}:Turn0 P w K (.Tuple es kk pp) (Itm ep n a) [it] it (fun i h=>∃ok ov,IsItemIter h it a i n ep ok ov) where
 mem:=by simp
 obj:=fun i h st b hb=>by obtain⟨ok,ov,st⟩:=st;rw[QJ]at hb;subst hb;exact⟨_,st,fun v q=>by cases(show Data.fields _=Data.cell v from q)⟩
 keep:=fun i h h' st k=>by obtain⟨ok,ov,st⟩:=st;exact⟨ok,ov,k it (by simp) _ st⟩
 item:=by
  intro X hP hw hK hc i pins s σ H E I hf st hg;subst hP hw hK;obtain⟨kvs,p,e,hn,ep⟩:=hg;obtain⟨ok,ov,st⟩:=st;obtain⟨z,y,xs,r,o,es',h1,h2,h3,h4,h5⟩:=(show UA X.prog X.w H s.heap a (.dT _ kvs) from I.hok a _ e)
  have hsz:es'.size=n:=by have:=congrArg qq h4;rw[QG,Qa]at this;rw[this,<- qJ r,hn]
  obtain⟨q,hq,rq⟩:=paired_get r ep;have he:es'[i]?=some (entryOfKey (tupleKind (mixKind X.prog X.w)) q):=by
   have:es'.toList[i]?=some (entryOfKey (tupleKind (mixKind X.prog X.w)) q):=by rw[h4,QY,hq];rfl
   simpa using this
  subst hsz;refine nx_items st h1 h3 he fun h' b1 b3 b4 b5=>⟨_,rfl,wpAny_letOwnedTupleGo_items b1 fun h'' c1 sb=>?_⟩
  have hp:=I.hok.fresh (QR s.heap.objs.size);have elt:it<s.heap.objs.size:=QU st;have old':∀b∈[it],b<s.heap.objs.size:=fun b hb=>by rw[QJ]at hb;subst hb;exact elt
  have kept:∀b o,b∉[it]->s.heap.get? b=some o->h''.get? b=some o:=fun b o hb q=>by rw[QJ]at hb;exact(sb.2 b hb).trans (b5 b o hb q)
  have pairAt:h''.get? s.heap.objs.size=some { cls:=.type "tuple",data:=.seq #[.ref q.2.1,q.2.2] }:=(sb.2 _ (wY elt)).trans b3;have I1:=I.pair (x:=.ref p.2.1) (y:=p.2.2) (h':=s.heap.push { cls:=.type "tuple",data:=.seq #[.ref q.2.1,q.2.2] }) (t':=s.toks) (fun b o e=>QH _ e) (QR _) (QS _ rfl) (show Value.ref q.2.1=Value.ref p.2.1 by rw[rq.2.1]) rq.2.2;have I2:=I1.turnedL (h':=h'') (t':=s.toks) (ch:=[it]) (fun b o hb e=>by
   rcases QAk e with⟨q1,q2⟩| q;subst q1 q2;exact pairAt;exact kept b o hb q) fun b hb=>by
   obtain⟨f0,f1,f2,f3,f4,f5⟩:=hf b hb;exact⟨by rw[zA (Qg (old' b hb))];exact f0,f1,f2,f3,f4,f5⟩
  refine⟨.ref s.heap.objs.size,_,I2,rfl,⟨s.heap.objs.size,p,hp,rfl,rfl,fun kvs' g1=>?_⟩,⟨_,_,c1⟩,fun b hb=>?_⟩;rw[e]at g1;cases g1;exact ep;rw[zA (Qg (old' b hb))];exact(hf b hb).1
 done:=by
  intro X hP hw hK hc i pins s σ H E I hf st hg;subst hP hw hK;obtain⟨kvs,e,hn,ep⟩:=hg;obtain⟨ok,ov,st⟩:=st;obtain⟨z,y,xs,r,o,es',h1,h2,h3,h4,h5⟩:=(show UA X.prog X.w H s.heap a (.dT _ kvs) from I.hok a _ e)
  have hsz:es'.size=n:=by have:=congrArg qq h4;rw[QG,Qa]at this;rw[this,<- qJ r,hn]
  subst hsz;obtain⟨f0,f1,f2,f3,f4,f5⟩:=hf it (by simp);exact nx_items_end (I.ok.hd hc) st h1 h3 (QAV ep) fun h' eb=>⟨rfl,I.turned (t':=s.toks) (fun b o hb e=>eb b o hb e) f0 f1 f3 f4 f5⟩
section
variable{prog:Program}{w:World}{A:Around}{E:VSP}{s:Shared}
section
variable{d it:Addr}{od:Obj}{es:Array DictEntry}{ep i:Nat}{Q:Option Value->Shared->Prop}
theorem owns_keys:Wj "dict_keyiterator"=false:=by decide +kernel
theorem it_keys{Q:VSP}(hz:(d==sysModules)=false)(hod:s.heap.get? d=some od)(hc:od.cls=.type "dict")(hdd:od.data=.dict es ep)
  (q:Q (.ref s.heap.objs.size) { s with heap:=s.heap.push { cls:=.type "dict_keyiterator",data:=.fields #[.ref d,.int 0 0,.int es.size 0,.int ep 0] } }) :
  wpAny (model prog w) A (pyIter (.ref d)) Q E s:=by
 have hT:s.TypeIs (.ref d) "dict":=⟨_,hod,hc⟩
 refine QBJ hT QBf (qD QBf hT F.entry_dict_iter ?body (F.args_dict_iter_1 _))
 case body =>
  show wpAny _ _ (bind _ _) _ _ _;refine QC ?sl
  case sl =>
   show wpAny _ _ (bind _ _) _ _ _;refine QC (WW hT (QI ?go))
   case go =>
    have e:WX d=pure PUnit.unit:=by unfold WX;rw[hz];rfl
    show wpAny _ _ (WX d >>= _) _ _ _;rw[e];refine QC (QI (QC (qz hod hdd (QC (wu hod hdd (QC (Q1 (QI ⟨_,rfl,"dict_keyiterator",_,⟨_,QS _ rfl,rfl⟩,qZ.lookup,?_⟩))))))));simpa[rawInt]using q
theorem nx_keys{e:DictEntry}
  (hit:s.heap.IsKeyIter it d i es.size ep) (hod:s.heap.get? d=some od) (hdd:od.data=.dict es ep) (hx:es[i]?=some e)
  (q:∀h',h'.IsKeyIter it d (i+1) es.size ep->qG it s.heap h'->Q (some e.key) { s with heap:=h' }) :
  wpAny (model prog w) A (pyNext (.ref it)) Q E s:=by
 have hT:=hit.typeIs;obtain⟨oi,hi,hci,hdi⟩:=id hit;show wpAny _ _ (bind _ _) _ _ _;refine QC (QAI (qK hT qZ (qD qZ hT Wf ?_ (WY _))));show wpAny _ _ (bind _ _) _ _ _;refine QC (QI (QC (QC (QC (qr hT (QI (QC (W5 hi hdi ?_))))))));rw[owns_keys];show wpAny _ _ (if(Value.ref d==Value.none)=true then _ else _) _ _ _;rw[if_neg (show ¬ (Value.ref d==Value.none)=true from QD)];show wpAny _ _ (wP (.ref d) >>= _) _ _ _;refine QC (QI (QC (qz hod hdd ?_)));rw[if_neg (show ¬ (((es.size:Nat):Int) != ((es.size:Nat):Int))=true by simp)];refine QC (QI (QC (wu hod hdd ?_)));rw[if_neg (show ¬ (((ep:Nat):Int) != ((ep:Nat):Int))=true by simp)];refine QI ?_;have h0:(if((i:Nat):Int)<0 then none else es[((i:Nat):Int).toNat]?)=some e:=by rw[if_neg (by omega),wV];exact hx
 simp only[h0];refine QC ?_;show wpAny _ _ (typeNameOfWhole (.ref it) >>= _) _ _ _;refine QC (qr hT (QI (QC (QAe hT ?_))));rw[owns_keys];show wpAny _ _ (setField (.ref it) 1 _ >>= _) _ _ _;refine QC (W4 hi hdi (by simp) ?_);have hit':(s.heap.update it (Obj.mapFields (·.setIfInBounds 1 (rawInt ((i:Int)+1))))).IsKeyIter it d (i+1) es.size ep :=
  ⟨_,wL _ hi (QAd (WL hdi _)),(QBI ..).trans hci,by rw[WL hdi];simp[rawInt]⟩
 refine QC (qb (QC (QAe (s:={ s with heap:=s.heap.update it (Obj.mapFields (·.setIfInBounds 1 (rawInt ((i:Int)+1)))) }) hit'.typeIs ?_)));show wpAny _ _ (pure e.key) _ _ _;exact QI (QI ⟨_,rfl,QI (q _ hit' (qA ..))⟩)
theorem nx_keys_end(ah:A.handled=none)
  (hit:s.heap.IsKeyIter it d i es.size ep) (hod:s.heap.get? d=some od) (hdd:od.data=.dict es ep) (hx:es[i]?=none)
  (q:∀h',QAH it s.heap h'->Q none { s with heap:=h' }) :
  wpAny (model prog w) A (pyNext (.ref it)) Q E s:=by
 have hT:=hit.typeIs;obtain⟨oi,hi,hci,hdi⟩:=id hit;show wpAny _ _ (bind _ _) _ _ _;refine QC (QAI (qK hT qZ (qD qZ hT Wf ?_ (WY _))));show wpAny _ _ (bind _ _) _ _ _;refine QC (QI (QC (QC (QC (qr hT (QI (QC (W5 hi hdi ?_))))))));rw[owns_keys];show wpAny _ _ (if(Value.ref d==Value.none)=true then _ else _) _ _ _;rw[if_neg (show ¬ (Value.ref d==Value.none)=true from QD)];show wpAny _ _ (wP (.ref d) >>= _) _ _ _;refine QC (QI (QC (qz hod hdd ?_)));rw[if_neg (show ¬ (((es.size:Nat):Int) != ((es.size:Nat):Int))=true by simp)];refine QC (QI (QC (wu hod hdd ?_)));rw[if_neg (show ¬ (((ep:Nat):Int) != ((ep:Nat):Int))=true by simp)];refine QI ?_;have h0:(if((i:Nat):Int)<0 then none else es[((i:Nat):Int).toNat]?)=none:=by rw[if_neg (by omega),wV];exact hx
 simp only[h0];refine QC ?_;show wpAny _ _ (typeNameOfWhole (.ref it) >>= _) _ _ _;refine QC (qr hT (QI ?_));rw[owns_keys];show wpAny _ _ (setField (.ref it) 0 .none >>= _) _ _ _;refine QC (W4 hi hdi (by simp) ?_);refine QC (m:=newExc (.type "StopIteration") []) ?_;simp only[newExc,newTuple];refine QC (Q1 ?made (by size_fits));refine QC (m:=firstArgMember _ _) (QAv (a:=Value.none) (by first|rfl | (rw[firstArgMember];rfl)) ?arg);refine Q1 ?made2 (by size_fits);simp only[raiseNew];refine QC (QA6 ?_);first|rw[show A.in1.handled=none from ah]|rw[ah]
 refine QC (QI (QBn ?_));refine QC (QBe (T:="StopIteration") (b:=true) ⟨_,QS _ rfl,rfl⟩ (by kernel_rfl) ?_);rw[if_pos rfl];exact QI (q _ (((qA ..).extBut.push _).push _))
end
end
def Itk(ep n:Nat)(a:Addr):It :=
  ⟨fun i H=>∃kvs p,H a=some (.dT ep kvs)/\kvs.length=n/\kvs[i]?=some p,
   fun i H v H'=>H'=H/\∀kvs,H a=some (.dT ep kvs)->∃p,kvs[i]?=some p/\v=.ref p.2.1,
   fun i H=>∃kvs,H a=some (.dT ep kvs)/\kvs.length=n/\n<=i⟩
theorem turn_keys{P:Program}{w:World}{K:QA}{tg:Expr}{a it:Addr}{n ep:Nat}:Turn P w K tg (Itk ep n a) [it] it (fun i h=>h.IsKeyIter it a i n ep) where
 mem:=by simp
 obj:=fun i h st b hb=>by obtain⟨o,e,c,d⟩:=st;rw[QJ]at hb;subst hb;exact⟨o,e,fun v z=>by rw[d]at z;cases z⟩
 keep:=fun i h h' st k=>st.at fun o e=>k it (by simp) o e
 item:=by
  intro X hP hw hK hc i pins s σ H E I hf st hg;subst hP hw hK;obtain⟨kvs,p,e,hn,ep⟩:=hg;obtain⟨z,y,xs,r,o,es',h1,h2,h3,h4,h5⟩:=(show UA X.prog X.w H s.heap a (.dT _ kvs) from I.hok a _ e)
  have hsz:es'.size=n:=by have:=congrArg qq h4;rw[QG,Qa]at this;rw[this,<- qJ r,hn]
  obtain⟨q,hq,rq⟩:=paired_get r ep;have he:es'[i]?=some (entryOfKey (tupleKind (mixKind X.prog X.w)) q):=by
   have:es'.toList[i]?=some (entryOfKey (tupleKind (mixKind X.prog X.w)) q):=by rw[h4,QY,hq];rfl
   simpa using this
  subst hsz;obtain⟨f0,f1,f2,f3,f4,f5⟩:=hf it (by simp);refine nx_keys st h1 h3 he fun h' st' sb=>?_;have I1:Inv X pins σ H { s with heap:=h' }:=I.turned (t':=s.toks) (fun b o hb e=>(sb.2 b hb).trans e) f0 f1 f3 f4 f5;obtain⟨oi,ei,ci,di⟩:=id st';exact⟨_,rfl,go_of (s:={ s with heap:=h' }) ei ci di (by decide) ⟨.ref p.2.1,H,I1,show Value.ref q.2.1=Value.ref p.2.1 by rw[rq.2.1],⟨rfl,fun ks hk=>by rw[e]at hk;cases hk;exact⟨p,ep,rfl⟩⟩,st',fun b hb=>(hf b hb).1⟩⟩
 done:=by
  intro X hP hw hK hc i pins s σ H E I hf st hg;subst hP hw hK;obtain⟨kvs,e,hn,ep⟩:=hg;obtain⟨z,y,xs,r,o,es',h1,h2,h3,h4,h5⟩:=(show UA X.prog X.w H s.heap a (.dT _ kvs) from I.hok a _ e)
  have hsz:es'.size=n:=by have:=congrArg qq h4;rw[QG,Qa]at this;rw[this,<- qJ r,hn]
  subst hsz;obtain⟨f0,f1,f2,f3,f4,f5⟩:=hf it (by simp);exact nx_keys_end (I.ok.hd hc) st h1 h3 (QAV ep) fun h' eb=>⟨rfl,I.turned (t':=s.toks) (fun b o hb e=>eb b o hb e) f0 f1 f3 f4 f5⟩
 self:=fun _ _ _ _ _ st h=>wpAny_pyIter_keyiter st h
open PySem.SeqAt
open AutoSeq1 (wpAny_loadPart')
open MeetsSeq MeetsSeq2 MeetsSeq3
def ltL:List Str->List Str->Bool
 |[],[]=>false
 |[],_::_=>true
 |_::_,[]=>false
 |x::a,y::b=>if(x==y)=true then ltL a b else decide (x.cps.toList<y.cps.toList)
theorem strs_at{vs:List Value}{ss:List Str}(h:StrsAre vs ss):vs.length=ss.length/\∀(i:Nat) (x:Str),ss[i]?=some x->∃t:Tok,vs[i]?=some (Value.str x t):=by
 induction h with
 |nil=>exact⟨rfl,fun i x e=>by simp at e⟩
 |cons y t _ ih =>
  refine⟨by rw[QL,QL,ih.1],fun i x e=>?_⟩;cases i with
  |zero=>simp at e;subst e;exact⟨t,rfl⟩
  |succ i=>simp at e;simpa using ih.2 i x e
theorem lt_loopAt(l b:Addr)(items items2:Array Value)(n n2:Nat)(dd dd2:Option Addr)(sl sl2:Array (Option Value))(ss ts:List Str)(h1:StrsAre items.toList ss)(h2:StrsAre items2.toList ts)(k:Nat) :
  ∀i:Nat,items.size - i=k->i<=items.size->i<=items2.size->Meets (Builtin.«list.__eq__.loop» ⟨[.ref l,.ref b,rawInt i,rawInt 0],[]⟩)
   (fun A R s=>s.heap.get? l=some { cls:=.type "list",dict:=dd,data:=.seq items n,slots:=sl }/\s.heap.get? b=some { cls:=.type "list",dict:=dd2,data:=.seq items2 n2,slots:=sl2 } /\
    R (.ok (.ret (.bool (ltL (ss.drop i) (ts.drop i))))) s):=by
 obtain⟨a1,a2⟩:=strs_at h1;obtain⟨b1,b2⟩:=strs_at h2;rw[Qa]at a1 b1;induction k with
 |zero =>
  intro i hk hi hi2 prog w A R s h;obtain⟨hp,g,d,tk,os⟩:=s;obtain⟨hl,hb,h⟩:=h;wp_walk using Q8 hl,Q8 hb;have e1:items[((i:Nat):Int).toNat]?=none:=by simp;omega
  rw[e1];wp_walk using Q8 hl,Q8 hb;have d1:ss.drop i=[]:=by simp;omega
  rw[d1]at h;have e2:ltL [] (ts.drop i)=decide (items.size<items2.size):=by
   cases z:ts.drop i with
   |nil =>
    have:ts.length<=i:=by simpa using z
    exact(dF (by omega)).symm
   |cons y r =>
    have:i<ts.length:=by by_cases c:i<ts.length;exact c;rw[WP (by omega)]at z;cases z
    exact(dT (by omega)).symm
  rw[e2]at h;exact h
 |succ k ih =>
  intro i hk hi hi2 prog w A R s h;obtain⟨hp,g,d,tk,os⟩:=s;obtain⟨hl,hb,h⟩:=h;wp_walk using Q8 hl,Q8 hb;have hlt:i<ss.length:=by omega
  obtain⟨t,ev⟩:=a2 i ss[i] (qp hlt);have e1:items[((i:Nat):Int).toNat]?=some (.str ss[i] t):=by simpa using ev
  rw[e1];have d1:ss.drop i=ss[i]::ss.drop (i+1):=WA hlt;rw[d1]at h;by_cases c:i<ts.length;obtain⟨u,eu⟩:=b2 i ts[i] (qp c);have e2:items2[((i:Nat):Int).toNat]?=some (.str ts[i] u):=by simpa using eu
  have d2:ts.drop i=ts[i]::ts.drop (i+1):=WA c;rw[d2]at h;have h:R (.ok (.ret (.bool (if(ss[i]==ts[i])=true then ltL (ss.drop (i+1)) (ts.drop (i+1)) else decide (ss[i].cps.toList<ts[i].cps.toList))))) _:=h;rw[e2];refine QC (EqAt.str_str ss[i] t ts[i] u prog w _ _ ?_);have hc:((i:Int)+1)=((i+1:Nat):Int):=by push_cast;rfl
  cases q:(ss[i]==ts[i]) with
  |true=>rw[q,if_pos rfl]at h;wp_walk;rw[hc];exact⟨QAJ plain_eq_loop _,wv entry_eq_loop (by rw[wQ plain_eq_loop _];exact ih (i+1) (by omega) (by omega) (by omega) prog w A R _ ⟨hl,hb,h⟩)⟩
  |false=>rw[q,if_neg QD]at h;wp_walk using Q8 hl,Q8 hb;rw[e1,e2];show wpAny _ _ (compareOp .Lt (.str ss[i] t) (.str ts[i] u) >>= _) _ _ _;refine QC (PySem.P.lt_str ?_);exact QI h
  have e2:items2[((i:Nat):Int).toNat]?=none:=by simp;omega
  rw[e2];wp_walk using Q8 hl,Q8 hb;rw[WP (show ts.length<=i by omega)]at h;have:decide (items.size<items2.size)=false:=dF (by omega);have h:R (.ok (.ret (.bool false))) _:=h;rw[<- this]at h;exact h
theorem list_ltAt(l b:Addr)(items items2:Array Value)(n n2:Nat)(dd dd2:Option Addr)(sl sl2:Array (Option Value))(ss ts:List Str)(h1:StrsAre items.toList ss)(h2:StrsAre items2.toList ts) :
  Meets (Builtin.«list.__lt__» ⟨[.ref l,.ref b],[]⟩)
   (fun A R s=>s.heap.get? l=some { cls:=.type "list",dict:=dd,data:=.seq items n,slots:=sl }/\s.heap.get? b=some { cls:=.type "list",dict:=dd2,data:=.seq items2 n2,slots:=sl2 } /\
    R (.ok (.ret (.bool (ltL ss ts)))) s):=by
 intro prog w A R s h;obtain⟨hp,g,d,tk,os⟩:=s;obtain⟨hl,hb,h⟩:=h;have f3:=AutoSeq1.sub_list_list;wp_walk using Q8 hl,Q8 hb;exact⟨QAJ plain_eq_loop _,wv entry_eq_loop (by rw[wQ plain_eq_loop _];exact lt_loopAt l b items items2 n n2 dd dd2 sl sl2 ss ts h1 h2 _ 0 rfl (Q5 _) (Q5 _) prog w A R _ ⟨hl,hb,h⟩)⟩
section
variable{prog:Program}{w:World}{A:Around}{E:VSP}{s:Shared}
theorem oneLt_list{l b:Addr}{items items2:Array Value}{n n2:Nat}{dd dd2:Option Addr}{sl sl2:Array (Option Value)}{ss ts:List Str}{Q:Bool->Shared->Prop}(hu:A.units<cLine)(hl:s.heap.get? l=some { cls:=.type "list",dict:=dd,data:=.seq items n,slots:=sl })(hb:s.heap.get? b=some { cls:=.type "list",dict:=dd2,data:=.seq items2 n2,slots:=sl2 })
  (h1:StrsAre items.toList ss) (h2:StrsAre items2.toList ts) (h:Q (ltL ss ts) s):wpAny (model prog w) A (keyLt' oneType' (.ref l) (.ref b)) Q E s:=by
 rw[keyLt'_oneType,oneLt'_eq];simp only[if_true];refine QC (wpAny_cRoomFor hu (QC (wpAny_callSpecialIfBound?_slot (T:="list") ⟨_,hl,rfl⟩ F.slot_list_lt ?_)));refine QAg F.slot_list_lt ⟨_,hl,rfl⟩ F.entry_list_lt (F.args_list_lt_2 _ _) (list_ltAt l b items items2 n n2 dd dd2 sl sl2 ss ts h1 h2) ⟨hl,hb,?_⟩;exact qy h
end
end L2.L3
namespace L2.L3
open PySem PySem.Spec PyProof.Rows PySem.W
def Pm(n:Nat)(p:Array Nat):Prop:=p.Perm (ww (Qz n))
section
variable{n:Nat}
theorem Pm.lt{p:Array Nat}(h:Pm n p)(h0:0<n)(i:Nat):p.getD i 0<n:=by
 by_cases c:i<p.size;have e:p.getD i 0=p[i]:=by simp[QBK,c]
 rw[e];have m:p[i]∈p.toList:=by simp
 have:=(wG.mp h).mem_iff.mp m;simpa using this;have e:p.getD i 0=0:=by simp[QBK,c]
 rw[e];exact h0
theorem Pm.rev{p:Array Nat}(h:Pm n p)(i j:Nat):Pm n (kas_rev p i j):=(mirror_perm _ _ _ _).trans h
end
theorem range_get{α:Type}(vs:List α)(d:α):(Qz vs.length).map (fun i=>vs.getD i d)=vs:=by apply wW;intro i;rw[QY];by_cases c:i<vs.length;rw[QAw c];simp[c];rw[qX (by simp;omega),qX (by omega)];rfl
section
variable{prog:Program}{w:World}{A:Around}{E:VSP}{s:Shared}
section
variable{vs:List Value}{R:Array Nat->Prop}
theorem kindL{M:Model}{Q:SortKind->Shared->Prop}(h2:2<=vs.length)(hT:∀v∈vs,s.TypeIs v "list")(h:Q oneType' s):wpAny M A (keyKind' vs.toArray) Q E s:=by
 cases vs with
 |nil=>simp at h2
 |cons v r =>
  rw[keyKind'_eq,QBL,map_eq_pure_bind];refine QC (QC (kas_mapM (r:=none) _ (fun u hu Q' q=>?_) (QI ?_)));rw[kas_first_eq];exact QC (QBT (hT u hu) (QI q));rw[if_neg (by simp),if_neg (by simp),oneTypeOnly'_eq,QBL,map_eq_pure_bind];refine QC (QC (QC (kas_mapM (r:=.type "list") _ (fun u hu Q' q=>QBT (hT u hu) q) (QI ?_))));have e0:((v::r).map fun _=>Value.type "list").toArray[0]?=some (.type "list"):=by simp
  have e1:(((v::r).map fun _=>Value.type "list").toArray.all fun x=>x==Value.type "list")=true:=by simp only[List.all_toArray,QBV,qE];intro _ _;rfl
  rw[e0];simp only[e1,if_true];exact QI (QI h)
theorem lsortG{κ:SortKind}{a:Addr}{n:Nat}{P:PySem.Fin->Shared->Prop}(ho:s.heap.get? a=some (seqObj "list" vs.toArray n))(h64:vs.length<64)
  (kind:2<=vs.length->∀h3:Heap,(∀b o,b≠a->s.heap.get? b=some o->h3.get? b=some o)->∀Q:SortKind->Shared->Prop,Q κ { s with heap:=h3 }->wpAny (model prog w) A (keyKind' vs.toArray) Q E { s with heap:=h3 })
  (tree:2<=vs.length->∀h3:Heap,(∀b o,b≠a->s.heap.get? b=some o->h3.get? b=some o)->(kas_sort vs.length).kasWp (kas_ask prog w A κ vs) (fun p s'=>s'={ s with heap:=h3 }/\Pm vs.length p/\R p) { s with heap:=h3 })
  (few:vs.length<2->R (ww (Qz vs.length)))
  (k:∀p:Array Nat,Pm vs.length p->R p->P (.done (.ret .none)) { s with heap:=sortedHeap s.heap a vs (p.toList.map fun i=>vs.getD i Value.none).toArray }):wpAny (model prog w) A (Builtin.«list.sort» ⟨[.ref a],[]⟩) P E s:=by
 have hz:sizeLine=16777216:=QZ;have ha:a<s.heap.objs.size:=QU ho;have s1:=qA s.heap a (qW fun _=>(#[]:Array Value));obtain⟨e1,ho1⟩:∃e1,(s.heap.update a (qW fun _=>(#[]:Array Value))).get? a=some (seqObj "list" #[] e1):=⟨_,get?_update_seq ho fun _=>#[]⟩
 have ho6:(((s.heap.update a (qW fun _=>(#[]:Array Value))).push (seqObj "tuple" vs.toArray 0)).push (seqObj "list" #[] 0)).get? a=some (seqObj "list" #[] e1):=QH _ (QH _ ho1);have kept:∀b o,b≠a->s.heap.get? b=some o->(((s.heap.update a (qW fun _=>(#[]:Array Value))).push (seqObj "tuple" vs.toArray 0)).push (seqObj "list" #[] 0)).get? b=some o:=fun b o hb e=>QH _ (QH _ ((s1.2 b hb).trans e));rw[list_sort_plain];refine QC (listItems_at ho rfl (QC (listUpdate_at ho rfl ?_ (by rw[QO];omega) (Q5 _))));refine QC (seqEpoch_at ho1 rfl (QC (wpAny_newTuple ?_ (by show vs.length<=_;omega))));refine QC (wpAny_newList (qb ?_) (Q5 _));show wpAny (model prog w) A _ P E { s with heap:=((s.heap.update a (qW fun _=>(#[]:Array Value))).push (seqObj "tuple" vs.toArray 0)).push (seqObj "list" #[] 0) };dsimp only;have fin:∀p:Array Nat,Pm vs.length p->R p->wpAny (model prog w) A (do
   let touched:=(<- seqEpoch a) != e1
   Builtin.List.listUpdate (.ref a) fun _=>(p.toList.map fun i=>vs.getD i Value.none).toArray
   if touched then rule "list.sort.modified";raiseError "ValueError" "list modified during sort"
   ret .none) P E { s with heap:=((s.heap.update a (qW fun _=>(#[]:Array Value))).push (seqObj "tuple" vs.toArray 0)).push (seqObj "list" #[] 0) }:=fun p hp hR=>by
  have hl:p.toList.length=vs.length:=by have:=hp.size_eq;simpa using this
  refine QC (seqEpoch_at ho6 rfl (QC (listUpdate_at ho6 rfl ?_ (Q5 _) (by rw[QO,QG];omega))));simp only[bne_self_eq_false,qN,if_false];exact QI (k p hp hR)
 by_cases h2:vs.length<2;have h2':vs.toArray.size<2:=by rw[QO];exact h2
 rw[if_pos h2',if_pos h2'];refine QC (QI ?_);rw[StateT.run_pure];refine QC (QI ?_);have e:(arrOf (QBM general' (vs.toArray.zip vs.toArray) #[] 7 none)).map (·.2)=vs.toArray:=by show(vs.toArray.zip vs.toArray).map (·.2)=_;apply Wb.mp;simp[Wd]
 dsimp only;rw[e];have r:=fin (ww (Qz vs.length)) (QBp _) (few h2);rw[show((ww (Qz vs.length)).toList.map fun i=>vs.getD i Value.none)=vs from range_get vs Value.none]at r;exact r;have h2':¬ vs.toArray.size<2:=by rw[QO];exact h2
 rw[if_neg h2',if_neg h2'];refine QC (kind (by omega) _ kept _ ?_);have est:QBM κ (vs.toArray.zip vs.toArray) #[] 7 none=kas_st κ (pairsOf vs) (ww (Qz vs.length)):=by have e:=kas_range (pairsOf vs);rw[pairsOf_size]at e;show QBM κ (pairsOf vs) #[] 7 none=QBM κ ((ww (Qz vs.length)).map (kas_item (pairsOf vs))) #[] 7 none;rw[e]
 have tree:=tree (by omega) _ kept;rw[kas_ask_eq]at tree;have run:=kas_runs (prog:=prog) (w:=w) (A:=A) (E:=E) (Q:=fun _ st' s'=>∃p:Array Nat,p.size=vs.length/\arrOf st'=p.map (kas_item (pairsOf vs))/\failedOf st'=none/\s'={ s with heap:=((s.heap.update a (qW fun _=>(#[]:Array Value))).push (seqObj "tuple" vs.toArray 0)).push (seqObj "list" #[] 0) }/\Pm vs.length p/\R p)
  (by omega) h64 (fun p' st' s' a1 a2 a3 a4=>⟨p',a1,a2,a3,a4⟩) tree
 rw[<- est]at run;refine QC (wI run ?_ fun _ _ e=>e);rintro⟨⟨⟩,st'⟩ s' ⟨p,hp,har,hf,rfl,pm,hR⟩;dsimp only;have hout:(arrOf st').map (·.2)=ww (p.toList.map fun i=>vs.getD i Value.none):=by apply Wb.mp;rw[har,Array.map_map,Array.toList_map];exact wc fun i _=>by show(kas_item (pairsOf vs) i).2=_;rw[kas_item_eq]
 rw[hout,hf];exact fin p pm hR
theorem sortedG{κ:SortKind}{l:Addr}{Q:VSP}(hl:s.heap.IsList l vs.toArray)(h64:vs.length<64)
  (kind:2<=vs.length->∀h3:Heap,(∀b o,s.heap.get? b=some o->h3.get? b=some o)->∀Q:SortKind->Shared->Prop,Q κ { s with heap:=h3 }->wpAny (model prog w) A.in1.in1 (keyKind' vs.toArray) Q E { s with heap:=h3 })
  (tree:2<=vs.length->∀h3:Heap,(∀b o,s.heap.get? b=some o->h3.get? b=some o)->(kas_sort vs.length).kasWp (kas_ask prog w A.in1.in1 κ vs) (fun p s'=>s'={ s with heap:=h3 }/\Pm vs.length p/\R p) { s with heap:=h3 })
  (few:vs.length<2->R (ww (Qz vs.length)))
  (k:∀p:Array Nat,Pm vs.length p->R p->Q (.ref (s.heap.objs.size+1)) { s with heap:=sortedAll s.heap vs (p.toList.map fun i=>vs.getD i Value.none).toArray }):wpAny (model prog w) A (call (.builtin "sorted") [.ref l]) Q E s:=by
 have hz:sizeLine=16777216:=QZ;refine Calls.call_function_entry kind_sorted plain_sorted entry_sorted (args_sorted1 _) ?_;unfold Builtin.«sorted»;refine QC (m:=checkCount "sorted" 1 1 _) (QI (QC (collect_list hl ?_ (by omega))));refine QC (wpAny_newList ?_ (by show vs.length<=_;omega));have hsz:((s.heap.push (seqObj "list" #[] 0)).update s.heap.objs.size (qW (·++vs.toArray))).objs.size=s.heap.objs.size+1:=by rw[Heap.size_update,size_push']
 have hoL:(((s.heap.push (seqObj "list" #[] 0)).update s.heap.objs.size (qW (·++vs.toArray))).push (seqObj "list" vs.toArray 0)).get? (s.heap.objs.size+1)=some (seqObj "list" vs.toArray 0):=by rw[<- hsz];exact QS _ rfl
 have old:∀b o,s.heap.get? b=some o->(((s.heap.push (seqObj "list" #[] 0)).update s.heap.objs.size (qW (·++vs.toArray))).push (seqObj "list" vs.toArray 0)).get? b=some o:=fun b o q=>by have hlt:b<s.heap.objs.size:=QU q;refine QH _ ?_;rw[Heap.get?_update_ne _ _ _ _ (Qg hlt)];exact QH _ q
 show wpAny _ _ _ _ _ { s with heap:=((s.heap.push (seqObj "list" #[] 0)).update s.heap.objs.size (qW (·++vs.toArray))).push (seqObj "list" vs.toArray 0) };rw[hsz];refine QC (qb (qD slot_list_sort ⟨_,hoL,rfl⟩ entry_list_sort ?body (args_list_sort _)))
 case body=>have up:∀h3:Heap,(∀b o,b≠s.heap.objs.size+1->(((s.heap.push (seqObj "list" #[] 0)).update s.heap.objs.size (qW (·++vs.toArray))).push (seqObj "list" vs.toArray 0)).get? b=some o->h3.get? b=some o)->∀b o,s.heap.get? b=some o->h3.get? b=some o:=fun h3 kp b o q=>kp b o (Qg (wz (QU q))) (old b o q);exact lsortG (s:={ s with heap:=((s.heap.push (seqObj "list" #[] 0)).update s.heap.objs.size (qW (·++vs.toArray))).push (seqObj "list" vs.toArray 0) }) hoL h64 (fun h2 h3 kp=>kind h2 h3 (up h3 kp)) (fun h2 h3 kp=>tree h2 h3 (up h3 kp)) few fun p hp hR=>⟨_,rfl,QI ⟨_,rfl,k p hp hR⟩⟩
end
end
section
variable{prog:Program}{w:World}{A:Around}
theorem drawsS(ah:A.handled=none)(j:Addr)(z:Src)(ne:z.adr≠j)(items:Array Value)(c:Nat) :
  Draws prog w A j [j,z.adr] (c+items.size) (fun i v=>∃k,i=c+k/\items[k]?=some v) (fun i h=>∃k,i=c+k/\SrcIt h j z k/\SrcHas h z items) where
 live:=fun _ _ ⟨_,_,p,_⟩=>let⟨o,e,_⟩:=p.obj;⟨o,e⟩
 frame:=fun _ h h' ⟨k,e,p,q⟩ kp=>⟨k,e,p.keep fun o x=>kp j (by simp) o x,by
  cases z with
  |l a=>exact QBm.at q fun o x=>kp a (by simp[Src.adr]) o x
  |t a=>obtain⟨o,g1,g2⟩:=q;exact⟨o,kp a (by simp[Src.adr]) o g1,g2⟩⟩
 item:=fun i s Q E hi ⟨k,e,p,q⟩ hQ=>by
  have hk:k<items.size:=by omega
  exact nx_item p q (x:=items[k]) (by simp[hk]) fun h' p' sb=>hQ _ h' s.toks ⟨k,e,by simp[hk]⟩ ⟨k+1,by omega,p',sb_has q sb ne⟩ sb
 done:=fun s Q E ⟨k,e,p,q⟩ hE=>by
  have hk:k=items.size:=by omega
  exact nx_end ah p q (by simp[hk]) hE
theorem drawsE(ah:A.handled=none)(j:Addr)(z:Src)(items:Array Value)(n k:Nat)(hx:items[k]?=none) :
  Draws prog w A j [j,z.adr] n (fun _ _=>False) (fun i h=>i=n/\SrcIt h j z k/\SrcHas h z items) where
 live:=fun _ _ ⟨_,p,_⟩=>let⟨o,e,_⟩:=p.obj;⟨o,e⟩
 frame:=fun _ h h' ⟨e,p,q⟩ kp=>⟨e,p.keep fun o x=>kp j (by simp) o x,by
  cases z with
  |l a=>exact QBm.at q fun o x=>kp a (by simp[Src.adr]) o x
  |t a=>obtain⟨o,g1,g2⟩:=q;exact⟨o,kp a (by simp[Src.adr]) o g1,g2⟩⟩
 item:=fun i s Q E hi ⟨e,_,_⟩ hQ=>absurd hi (by omega)
 done:=fun s Q E ⟨_,p,q⟩ hE=>nx_end ah p q hx hE
def Ite(K:QA)(z:Src)(c:Nat):It :=
  ⟨fun i H=>∃xs x,SqS K H z xs/\xs[i]?=some x,
   fun i H v H'=>∃p x,H p=none/\v=.ref p/\H'=JA H p (.tup [.int ((c+i:Nat):Int),x])/\∀xs,SqS K H z xs->xs[i]?=some x,
   fun i H=>∃xs,SqS K H z xs/\xs.length<=i⟩
def EnumSt(e j:Addr)(z:Src)(c i:Nat)(h:Heap):Prop:=(∃old,IsEnum h e j ((c+i:Nat):Int) old)/\SrcIt h j z i
theorem turn_enum{P:Program}{K:QA}{es:List Expr}{kk:Nat}{pp:Pos}{e j:Addr}{z:Src}{c:Nat}(n1:e≠j)(n2:z.adr≠e)(n3:z.adr≠j) :
  Turn P w K (.Tuple es kk pp) (Ite K z c) [e,j] e (EnumSt e j z c) where
 mem:=by simp
 obj:=fun i h st b hb=>by obtain⟨⟨old,a1⟩,a2⟩:=st;simp only[QK,Q2,or_false]at hb;rcases hb with rfl|rfl;exact⟨_,a1,fun v q=>by cases(show Data.fields _=Data.cell v from q)⟩;exact a2.obj
 keep:=fun i h h' st k=>by obtain⟨⟨old,a1⟩,a2⟩:=st;exact⟨⟨old,k e (by simp) _ a1⟩,a2.keep fun o x=>k j (by simp) o x⟩
 item:=by
  intro X hP hw hK hc i pins s σ H E I hf st hg;subst hP hw hK;obtain⟨xs,x,h1,ex⟩:=hg;obtain⟨its,rv,sh,_⟩:=I.src h1;obtain⟨u,hu,ru⟩:=rv.get ex;obtain⟨⟨old,a1⟩,a2⟩:=st;have hi:i<its.toArray.size:=by have:=(QT.mp hu).1;simpa using this
  refine wpAny_pyNext_enum_itemD (drawsS (show X.A.in1.handled=none from I.ok.hd hc) j z n3 its.toArray c) a1 ⟨i,rfl,a2,sh⟩ (by omega) n1 (by simp[n1,Qy n2]) fun y h' tk ⟨k,ek,hy⟩ b1 b2 b3 b4 b5=>?_;have ek:k=i:=by omega
  subst ek;have ey:y=u:=by
   have:its.toArray[k]?=some u:=by simpa using hu
   rw[this]at hy;exact(Q7 hy).symm
  subst ey;refine⟨_,rfl,wpAny_letOwnedTupleGo_enum b1 fun h'' c1 sb=>?_⟩;obtain⟨k2,ek2,b2,b2'⟩:=b2;have ek2:k2=k+1:=by omega
  subst ek2;have hp:=I.hok.fresh (QR s.heap.objs.size);have elt:e<s.heap.objs.size:=QU a1;have old':∀b∈[e,j],b<s.heap.objs.size:=fun b hb=>by simp only[QK,Q2,or_false]at hb;rcases hb with rfl|rfl;exact elt;exact a2.lt
  have kept:∀b o,b∉[e,j]->s.heap.get? b=some o->h''.get? b=some o:=fun b o hb q=>by simp only[QK,Q2,or_false,not_or]at hb;exact(sb.2 b hb.1).trans (b5 b o hb.1 hb.2 q)
  have pairAt:h''.get? s.heap.objs.size=some { cls:=.type "tuple",data:=.seq #[.int ((c+k:Nat):Int) tk,y] }:=(sb.2 _ (wY elt)).trans b3;have I1:=I.pair (x:=.int ((c+k:Nat):Int)) (h':=s.heap.push { cls:=.type "tuple",data:=.seq #[.int ((c+k:Nat):Int) tk,y] }) (t':=tk+1) (fun b o e=>QH _ e) (QR _) (QS _ rfl) ⟨_,rfl⟩ ru;have I2:=I1.turnedL (h':=h'') (t':=tk+1) (ch:=[e,j]) (fun b o hb e=>by
   rcases QAk e with⟨q1,q2⟩| q;subst q1 q2;exact pairAt;exact kept b o hb q) fun b hb=>by
   obtain⟨f0,f1,f2,f3,f4,f5⟩:=hf b hb;exact⟨by rw[zA (Qg (old' b hb))];exact f0,f1,f2,f3,f4,f5⟩
  refine⟨.ref s.heap.objs.size,_,I2,rfl,⟨s.heap.objs.size,x,hp,rfl,rfl,fun xs' g1=>?_⟩,⟨⟨y,?_⟩,b2.keep fun o q=>(sb.2 _ (Qy n1)).trans q⟩,fun b hb=>?_⟩;rw[I.src_inj g1 h1];exact ex;have:(((c+(k+1):Nat)):Int)=((c+k:Nat):Int)+1:=by omega
  rw[this];exact c1;rw[zA (Qg (old' b hb))];exact(hf b hb).1
 done:=by intro X hP hw hK hc i pins s σ H E I hf st hg;subst hP hw hK;obtain⟨xs,h1,en⟩:=hg;obtain⟨its,rv,sh,_⟩:=I.src h1;obtain⟨⟨old,a1⟩,a2⟩:=st;have l1:=rv.length;obtain⟨f0,f1,f2,f3,f4,f5⟩:=hf j (by simp);exact wpAny_pyNext_enum_endD (drawsE (show X.A.in1.handled=none from I.ok.hd hc) j z its.toArray 0 i (by simp;omega)) a1 ⟨rfl,a2,sh⟩ fun h' eb=>⟨rfl,I.turned (t':=s.toks) (fun b o hb e=>eb b o hb e) f0 f1 f3 f4 f5⟩
 self:=fun _ _ _ _ _ st h=>by obtain⟨⟨old,a1⟩,_⟩:=st;exact QBN a1 h
end
section
variable{prog:Program}{w:World}{A:Around}{E:VSP}{s:Shared}
end
theorem enumS_new(z:Src)(xs:Array Value):Meets (Builtin.«enumerate.__new__» ⟨[.type "enumerate",.ref z.adr],[]⟩) (fun _ R s=>SrcHas s.heap z xs /\
   R (.ok (.ret (.ref (s.heap.push z.it).objs.size))) { s with heap:=(s.heap.push z.it).push { cls:=.type "enumerate",data:=.fields #[.none,.bool false,.ref s.heap.objs.size,rawInt 0,.none,.none] } }) :=
 .of_wp fun prog w A R s h=>by
  obtain⟨hp,g,d,tk,os⟩:=s;obtain⟨q1,h⟩:=h;have hsub:=sub_enumerate;have hL1:SrcHas (Shared.heap ⟨hp,g,d,tk,os⟩) z xs:=q1;wp_walk;refine wpAny_stack_any fun st=>QI ?_;split;rename_i cl _ _ _ _ _;cases(cl==Value.type "enumerate")<;>(wp_walk using src_iter hL1;exact⟨_,rfl,h⟩)
  wp_walk using src_iter hL1;exact⟨_,rfl,h⟩
section
variable{prog:Program}{w:World}{A:Around}{E:VSP}{s:Shared}
end
section
variable{prog:Program}{w:World}{A:Around}{E:VSP}{s:Shared}
theorem enum_at{h:Heap}{z:Src}{n:Int}:IsEnum ((h.push z.it).push { cls:=.type "enumerate",data:=.fields #[.none,.bool false,.ref h.objs.size,rawInt n,.none,.none] }) (h.objs.size+1) h.objs.size n .none:=by have:=QS (h.push z.it) (o:={ cls:=.type "enumerate",data:=.fields #[.none,.bool false,.ref h.objs.size,rawInt n,.none,.none] }) rfl;rw[WS]at this;exact this
theorem call_enumS{z:Src}{xs:Array Value}{Q:VSP}(q1:SrcHas s.heap z xs)
  (h:∀h',EnumSt (s.heap.objs.size+1) s.heap.objs.size z 0 0 h'->(∀c o,s.heap.get? c=some o->h'.get? c=some o)->Q (.ref (s.heap.objs.size+1)) { s with heap:=h' }):wpAny (model prog w) A (call (.type "enumerate") [.ref z.adr]) Q E s:=by
 refine callType_new PySem.F.called_enumerate (by decide) (PySem.F.typeCall_enumerate_1 _) (PySem.F.newCall_enumerate_1 _) (fun obj=>PySem.F.args_object_init_2 obj _) PySem.F.entry_enumerate_new (enumS_new z xs) ⟨q1,?_⟩;show _/\_;rw[WS];exact⟨⟨_,enum_at,rfl⟩,h _ ⟨⟨.none,enum_at⟩,(src_it0 s.heap z).keep fun o e=>QH _ e⟩ fun c o x=>QH _ (QH _ x)⟩
end
theorem nne{a b:Nat}(h:a≠b):((a:Addr)≠(b:Addr)):=h
def KOk{α:Type}(n:Nat)(lt:Nat->Nat->Bool)(P:α->Prop):KasT α->Prop
 | .ret a=>P a
 | .ask i j k=>(i<n/\j<n/\i≠j)/\KOk n lt P (k (lt i j))
theorem KOk.bnd{α β:Type}{n:Nat}{lt:Nat->Nat->Bool}{P:α->Prop}{R:β->Prop}{f:α->KasT β}(hf:∀a,P a->KOk n lt R (f a)):∀{t:KasT α},KOk n lt P t->KOk n lt R (t.bind f)
 | .ret a,h=>hf a h
 | .ask _ _ _,⟨h1,h⟩=>⟨h1,KOk.bnd hf h⟩
theorem KOk.imp{α:Type}{n:Nat}{lt:Nat->Nat->Bool}{P R:α->Prop}(hf:∀a,P a->R a):∀{t:KasT α},KOk n lt P t->KOk n lt R t
 | .ret a,h=>hf a h
 | .ask _ _ _,⟨h1,h⟩=>⟨h1,KOk.imp hf h⟩
theorem KOk.wp{α:Type}{n:Nat}{lt:Nat->Nat->Bool}{P:α->Prop}{cmp:Nat->Nat->(Bool->Shared->Prop)->Shared->Prop}{Q:α->Shared->Prop}{s:Shared}(ask:∀i j,i<n->j<n->i≠j->∀C:Bool->Shared->Prop,C (lt i j) s->cmp i j C s)(hQ:∀a,P a->Q a s):∀{t:KasT α},KOk n lt P t->t.kasWp cmp Q s
 | .ret a,h=>hQ a h
 | .ask i j _,⟨⟨h1,h2,h3⟩,h⟩=>ask i j h1 h2 h3 _ (KOk.wp ask hQ h)
def leB(lt:Nat->Nat->Bool)(a b:Nat):Prop:=lt b a=false
structure Ord(lt:Nat->Nat->Bool):Prop where
 asy:∀a b,lt a b=true->lt b a=false
 tr:∀a b c,leB lt a b->leB lt b c->leB lt a c
def gD(p:Array Nat)(i:Nat):Nat:=p.getD i 0
theorem gD_eq{p q:Array Nat}{i j:Nat}(h:p[i]?=q[j]?):gD p i=gD q j:=by unfold gD;rw[Wm,Wm,h]
def Up(lt:Nat->Nat->Bool)(p:Array Nat)(k:Nat):Prop:=∀i j,i<=j->j<k->leB lt (gD p i) (gD p j)
def Dn(lt:Nat->Nat->Bool)(p:Array Nat)(k:Nat):Prop:=∀i j,i<=j->j<k->leB lt (gD p j) (gD p i)
theorem Pm.two{n:Nat}{p:Array Nat}(h:Pm n p){a b:Nat}(ha:a<n)(hb:b<n)(ne:a≠b):p.getD a 0<n/\p.getD b 0<n/\p.getD a 0≠p.getD b 0:=by
 have hs:p.size=n:=by have:=h.size_eq;simpa using this
 have h0:0<n:=by omega
 refine⟨h.lt h0 a,h.lt h0 b,fun e=>?_⟩;have nd:p.toList.Nodup:=(wG.mp h).nodup_iff.mpr (by simpa using List.nodup_range);have e1:∀i,i<n->p.toList[i]?=some (p.getD i 0):=fun i hi=>by rw[wr,W0 (by omega)];simp[QBK,hs,hi]
 exact ne ((List.getElem?_inj (by rw[Qa];omega) nd).mp ((e1 a ha).trans ((congrArg some e).trans (e1 b hb).symm)))
section
variable{lt:Nat->Nat->Bool}{p:Array Nat}
theorem rev_gD{i j:Nat}(hj:j<=p.size)(k:Nat):gD (kas_rev p i j) k=if i<=k/\k<j then gD p (i+j - 1 - k) else gD p k:=by have:=getElem?_mirror_all (xs:=p) (i:=i) hj k;split;rename_i c;rw[if_pos c]at this;exact gD_eq this;rename_i c;rw[if_neg c]at this;exact gD_eq this
theorem dn_rev{a b k:Nat}(hb:b<=p.size)(hk:Dn lt p k)(al:∀x y,a<=x->x<b->a<=y->y<b->leB lt (gD p x) (gD p y))(hbk:b<=k):Dn lt (kas_rev p a b) k:=fun i j hi hj=>by rw[rev_gD hb,rev_gD hb];by_cases c1:a<=i/\i<b;rw[if_pos c1];by_cases c2:a<=j/\j<b;rw[if_pos c2];exact al _ _ (by omega) (by omega) (by omega) (by omega);rw[if_neg c2];exact hk _ _ (by omega) hj;rw[if_neg c1];by_cases c2:a<=j/\j<b;rw[if_pos c2];exact hk _ _ (by omega) (by omega);rw[if_neg c2];exact hk _ _ hi hj
theorem up_rev{k:Nat}(hk:k<=p.size)(h:Dn lt p k):Up lt (kas_rev p 0 k) k:=fun i j hi hj=>by rw[rev_gD hk,rev_gD hk,if_pos (by omega),if_pos (by omega)];exact h _ _ (by omega) (by omega)
theorem bub_gD{k d:Nat}(hs:k<p.size)(hd:d<=k)(i:Nat):gD (bubble p k d) i=if i=k - d then gD p k else if k - d<i/\i<=k then gD p (i - 1) else gD p i:=by have:=getElem?_bubble hs d hd i;split;rename_i c;rw[if_pos c]at this;exact gD_eq this;rename_i c;rw[if_neg c]at this;split;rename_i c2;rw[if_pos c2]at this;exact gD_eq this;rename_i c2;rw[if_neg c2]at this;exact gD_eq this
end
section
variable{n:Nat}{lt:Nat->Nat->Bool}(o:Ord lt){p:Array Nat}
include o
theorem Ord.re(a:Nat):leB lt a a:=by
 unfold leB;cases h:lt a a with
 |false=>rfl
 |true=>exact(o.asy a a h).symm.trans h |>.symm▸rfl
theorem Ord.le{a b:Nat}(h:lt a b=true):leB lt a b:=o.asy a b h
theorem up_one:Up lt p 1:=fun i j h1 h2=>by
 obtain rfl:i=j:=by omega
 exact o.re _
theorem up_succ{k:Nat}(h1:1<=k)(h:Up lt p k)(l:leB lt (gD p (k - 1)) (gD p k)):Up lt p (k+1):=fun i j hi hj=>by
 by_cases e:j<k;exact h i j hi e;obtain rfl:j=k:=by omega
 by_cases e:i=j;subst e;exact o.re _;exact o.tr _ _ _ (h i (j - 1) (by omega) (by omega)) l
theorem dn_succ{k:Nat}(h1:1<=k)(h:Dn lt p k)(l:leB lt (gD p k) (gD p (k - 1))):Dn lt p (k+1):=fun i j hi hj=>by
 by_cases e:j<k;exact h i j hi e;obtain rfl:j=k:=by omega
 by_cases e:i=j;subst e;exact o.re _;exact o.tr _ _ _ l (h i (j - 1) (by omega) (by omega))
theorem ok_asc(h:Pm n p)(h0:0<n):∀(f m:Nat),1<=m->m+f<=n->Up lt p m->KOk n lt (fun r=>m<=r/\r<=m+f/\Up lt p r/\(r<m+f->lt (gD p r) (gD p (r - 1))=true)) (kas_asc p f m)
 |0,m,h1,h2,u=>⟨QR _,QR _,u,fun z=>absurd z (by omega)⟩
 |f+1,m,h1,h2,u=>by
  refine⟨h.two (by omega) (by omega) (by omega),?_⟩;cases c:lt (p.getD m 0) (p.getD (m - 1) 0) with
  |true=>exact⟨QR _,by omega,u,fun _=>c⟩
  |false=>have ih:=ok_asc h h0 f (m+1) (by omega) (by omega) (up_succ o h1 u c);show KOk n lt _ (kas_asc p f (m+1));rw[show m+1+f=m+(f+1) by omega]at ih;exact KOk.imp (fun r hr=>⟨by omega,hr.2.1,hr.2.2.1,hr.2.2.2⟩) ih
theorem ok_desc(h0:0<n):∀(f:Nat) {p:Array Nat}(m q:Nat),Pm n p->q+1<=m->m+f<=n->Dn lt p m->(∀x y,m - (q+1)<=x->x<m->m - (q+1)<=y->y<m->leB lt (gD p x) (gD p y)) ->
  KOk n lt (fun r=>Pm n r.1/\r.2.2+1<=r.2.1/\r.2.1<=n/\Dn lt r.1 r.2.1/\∀x y,r.2.1 - (r.2.2+1)<=x->x<r.2.1->r.2.1 - (r.2.2+1)<=y->y<r.2.1->leB lt (gD r.1 x) (gD r.1 y)) (kas_desc f p m q)
 |0,p,m,q,h,hq,hm,d,al=>⟨h,hq,by omega,d,al⟩
 |f+1,p,m,q,h,hq,hm,d,al=>by
  have hs:p.size=n:=by have:=h.size_eq;simpa using this
  refine⟨h.two (by omega) (by omega) (by omega),?_⟩;cases c:lt (p.getD m 0) (p.getD (m - 1) 0) with
  |true =>
   have l:leB lt (gD p m) (gD p (m - 1)):=o.le c;show KOk n lt _ (if q > 0 then kas_desc f (kas_rev p (m - (q+1)) m) (m+1) 0 else kas_desc f p (m+1) 0);have one:∀{p:Array Nat}(x y:Nat),m+1 - (0+1)<=x->x<m+1->m+1 - (0+1)<=y->y<m+1->leB lt (gD p x) (gD p y):=fun x y a1 a2 a3 a4=>by
    obtain rfl:x=y:=by omega
    exact o.re _
   split;refine ok_desc h0 f (m+1) 0 (h.rev _ _) (by omega) (by omega) ?_ one;exact dn_rev (by omega) (dn_succ o (by omega) d l) (fun x y a1 a2 a3 a4=>al x y a1 a2 a3 a4) (by omega);exact ok_desc h0 f (m+1) 0 h (by omega) (by omega) (dn_succ o (by omega) d l) one
  |false =>
   refine⟨h.two (by omega) (by omega) (by omega),?_⟩;cases e:lt (p.getD (m - 1) 0) (p.getD m 0) with
   |true=>exact⟨h,hq,show m<=n by omega,d,al⟩
   |false =>
    have l1:leB lt (gD p (m - 1)) (gD p m):=c;have l2:leB lt (gD p m) (gD p (m - 1)):=e;refine ok_desc h0 f (m+1) (q+1) h (by omega) (by omega) (dn_succ o (by omega) d l2) fun x y a1 a2 a3 a4=>?_;have up:∀x,m - (q+1)<=x->x<m+1->leB lt (gD p x) (gD p m)/\leB lt (gD p m) (gD p x):=fun x b1 b2=>by by_cases z:x=m;subst z;exact⟨o.re _,o.re _⟩;exact⟨o.tr _ _ _ (al x (m - 1) b1 (by omega) (by omega) (by omega)) l1,o.tr _ _ _ l2 (al (m - 1) x (by omega) (by omega) b1 (by omega))⟩
    exact o.tr _ _ _ (up x (by omega) a2).1 (up y (by omega) a4).2
theorem ok_tail3(h:Pm n p)(h0:0<n){a:Nat}(h1:1<=a)(ha:a<=n)(d:Dn lt p a):KOk n lt (fun r=>Pm n r.2/\r.1<=n/\Up lt r.2 r.1) (kas_tail3 a n p):=by
 have hs:p.size=n:=by have:=h.size_eq;simpa using this
 refine KOk.bnd (f:=fun m=>.ret (m,kas_rev p 0 a)) (fun m hm=>?_) (ok_asc o (h.rev 0 a) h0 (n - a) a h1 (by omega) (up_rev (by omega) d));exact⟨h.rev _ _,by omega,hm.2.2.1⟩
theorem ok_descPart(h:Pm n p)(h0:0<n){a:Nat}(h1:1<=a)(ha:a+1<=n)(d:Dn lt p (a+1)):KOk n lt (fun r=>Pm n r.2/\r.1<=n/\Up lt r.2 r.1) (kas_descPart a n p):=by
 refine KOk.bnd (fun r hr=>?_) (ok_desc o h0 (n - (a+1)) (a+1) 0 h (by omega) (by omega) d fun x y a1 a2 a3 a4=>?_);obtain⟨b1,b2,b3,b4,b5⟩:=hr;have hs:r.1.size=n:=by have:=b1.size_eq;simpa using this
 split;exact ok_tail3 o (b1.rev _ _) h0 (by omega) b3 (dn_rev (by omega) b4 b5 (QR _));exact ok_tail3 o b1 h0 (by omega) b3 b4;obtain rfl:x=y:=by omega
 exact o.re _
theorem ok_count(h:Pm n p)(h0:0<n):KOk n lt (fun r=>Pm n r.2/\r.1<=n/\Up lt r.2 r.1) (kas_count n p):=by
 have hs:p.size=n:=by have:=h.size_eq;simpa using this
 refine KOk.bnd (fun m hm=>?_) (ok_asc o h h0 (n - 1) 1 (QR _) (by omega) (up_one o));obtain⟨m1,m2,u,st⟩:=hm;split;exact⟨h,by omega,u⟩;rename_i ne;have ne:m≠n:=fun e=>ne (by rw[e];exact beq_self_eq_true _);have st:=st (by omega);have l:leB lt (gD p m) (gD p (m - 1)):=o.le st;split;rename_i g1;refine⟨h.two (by omega) (by omega) (by omega),?_⟩;cases c:lt (p.getD 0 0) (p.getD (m - 1) 0) with
 |true=>exact⟨h,by omega,u⟩
 |false=>have c:leB lt (gD p (m - 1)) (gD p 0):=c;have al:∀x y,x<m->y<m->leB lt (gD p x) (gD p y):=fun x y hx hy=>o.tr _ _ _ (u x (m - 1) (by omega) (by omega)) (o.tr _ _ _ c (u 0 y (by omega) hy));refine ok_descPart o (h.rev _ _) h0 m1 (by omega) (dn_rev (by omega) (dn_succ o m1 (fun i j _ hj=>al j i hj (by omega)) l) (fun x y _ a2 _ a4=>al x y a2 a4) (by omega))
 obtain rfl:m=1:=by omega
 refine ok_descPart o h h0 (QR _) (by omega) (dn_succ o (QR _) (fun i j hi hj=>?_) l);obtain rfl:i=j:=by omega
 exact o.re _
theorem ok_place(h:Pm n p){k:Nat}(hk:k<n)(u:Up lt p k):∀(f l r:Nat),l<=r->r<=k->r - l<=f->(∀i,i<l->leB lt (gD p i) (gD p k))->(∀i,r<=i->i<k->leB lt (gD p k) (gD p i))->KOk n lt (fun l=>l<=k/\(∀i,i<l->leB lt (gD p i) (gD p k))/\∀i,l<=i->i<k->leB lt (gD p k) (gD p i)) (kas_place p k f l r)
 |0,l,r,h1,h2,h3,h4,h5=>⟨by omega,h4,fun i hi hk=>h5 i (by omega) hk⟩
 |f+1,l,r,h1,h2,h3,h4,h5=>by
  show KOk n lt _ (if l ≥ r then _ else _);split;exact⟨by omega,h4,fun i hi hk=>h5 i (by omega) hk⟩;refine⟨h.two hk (by omega) (by omega),?_⟩;cases c:lt (p.getD k 0) (p.getD ((l+r) / 2) 0) with
  |true=>exact ok_place h hk u f _ _ (by omega) (by omega) (by omega) h4 fun i hi hk=>o.tr _ _ _ (o.le c) (u _ _ hi hk)
  |false=>exact ok_place h hk u f _ _ (by omega) (by omega) (by omega) (fun i hi=>o.tr _ _ _ (u i ((l+r) / 2) (by omega) (by omega)) c) h5
theorem ok_bin(h0:0<n):∀(f:Nat) {p:Array Nat}(k:Nat),Pm n p->k+f=n->Up lt p k->KOk n lt (fun r=>Pm n r/\Up lt r n) (kas_bin f p k)
 |0,p,k,h,hk,u=>⟨h,by rw[<- hk];exact u⟩
 |f+1,p,k,h,hk,u=>by
  have hs:p.size=n:=by have:=h.size_eq;simpa using this
  refine KOk.bnd (fun l hl=>?_) (ok_place o h (by omega) u k 0 k (Q5 _) (QR _) (by omega) (fun i hi=>absurd hi (by omega)) fun i hi hk=>absurd hk (by omega));obtain⟨l1,l2,l3⟩:=hl;refine ok_bin h0 f (k+1) ((bubble_perm _ _ _).trans h) (by omega) fun i j hi hj=>?_;rw[bub_gD (by omega) (by omega),bub_gD (by omega) (by omega),show k - (k - l)=l by omega];by_cases c1:i=l;rw[if_pos c1];by_cases c2:j=l;rw[if_pos c2];exact o.re _;rw[if_neg c2,if_pos (by omega)];exact l3 _ (by omega) (by omega);rw[if_neg c1];by_cases c2:j=l;rw[if_pos c2,if_neg (by omega)];exact l2 _ (by omega);rw[if_neg c2];by_cases c3:l<i/\i<=k;rw[if_pos c3,if_pos (by omega)];exact u _ _ (by omega) (by omega);rw[if_neg c3];by_cases c4:l<j/\j<=k;rw[if_pos c4];exact u _ _ (by omega) (by omega);rw[if_neg c4];exact u _ _ hi (by omega)
theorem ok_sort(h0:0<n):KOk n lt (fun r=>Pm n r/\Up lt r n) (kas_sort n):=by
 refine KOk.bnd (fun r hr=>?_) (ok_count o (QBp _) h0);obtain⟨r1,r2,r3⟩:=hr;split;by_cases c:1<=r.1
 ·rw[Nat.max_eq_left c]
  exact ok_bin o h0 _ _ r1 (by omega) r3
 rw[Nat.max_eq_right (by omega)];exact ok_bin o h0 _ _ r1 (by omega) (up_one o);rw[show r.1=n by omega]at r3;exact⟨r1,r3⟩
end
def leL(a b:List Str):Prop:=ltL b a=false
theorem str_eq{a b:Str}(h:a.cps.toList=b.cps.toList):a=b:=by obtain⟨⟨a⟩⟩:=a;obtain⟨⟨b⟩⟩:=b;cases h;rfl
theorem ltL_cons{x y:Str}{a b:List Str}:ltL (x::a) (y::b)=if x=y then ltL a b else decide (x.cps.toList<y.cps.toList):=by show(if(x==y)=true then _ else _)=_;by_cases e:x=y;rw[if_pos (beq_iff_eq.mpr e),if_pos e];rw[if_neg fun z=>e (beq_iff_eq.mp z),if_neg e]
theorem str_anti{x y:Str}(h1:¬ x.cps.toList<y.cps.toList)(h2:¬ y.cps.toList<x.cps.toList):x=y:=str_eq (List.le_antisymm (Wn.mp h2) (Wn.mp h1))
theorem leL_tr:∀(a b c:List Str),leL a b->leL b c->leL a c
 |[],_,[],_,_=>rfl
 |[],_,_::_,_,_=>rfl
 |_::_,[],_,h,_=>by cases h
 |_::_,_::_,[],_,h=>by cases h
 |x::a,y::b,z::c,h1,h2=>by
  unfold leL at h1 h2 ⊢;rw[ltL_cons]at h1 h2 ⊢;by_cases e1:y=x;subst e1;rw[if_pos rfl]at h1;by_cases e2:z=y;subst e2;rw[if_pos rfl]at h2 ⊢;exact leL_tr a b c h1 h2;rw[if_neg e2]at h2 ⊢;exact h2;rw[if_neg e1]at h1;by_cases e2:z=y;subst e2;rw[if_neg e1];exact h1;rw[if_neg e2]at h2;have g1:=of_decide_eq_false h1;have g2:=of_decide_eq_false h2;have e3:¬ z=x:=fun e=>by subst e;exact e1 (str_anti g1 g2)
  rw[if_neg e3];exact dF (Wn.mpr (List.le_trans (Wn.mp g1) (Wn.mp g2)))
theorem leL_as:∀(a b:List Str),ltL a b=true->leL a b
 |[],[],h=>by cases h
 |[],_::_,_=>rfl
 |_::_,[],h=>by cases h
 |x::a,y::b,h=>by unfold leL;rw[ltL_cons]at h ⊢;by_cases e:x=y;subst e;rw[if_pos rfl]at h ⊢;exact leL_as a b h;rw[if_neg e]at h;rw[if_neg (Qy e)];exact dF (Wn.mpr (List.le_of_lt (of_decide_eq_true h)))
theorem leL_eq:∀(a b:List Str),leL a b->leL b a->a=b
 |[],[],_,_=>rfl
 |[],_::_,_,h=>by cases h
 |_::_,[],h,_=>by cases h
 |x::a,y::b,h1,h2=>by unfold leL at h1 h2;rw[ltL_cons]at h1 h2;by_cases e:x=y;subst e;rw[if_pos rfl]at h1 h2;rw[leL_eq a b h1 h2];rw[if_neg (Qy e)]at h1;rw[if_neg e]at h2;exact absurd (str_anti (of_decide_eq_false h2) (of_decide_eq_false h1)) e
theorem srtL_one{a b:List (List Str)}(p:a.Perm b)(ha:a.Pairwise leL)(hb:b.Pairwise leL):a=b:=p.eq_of_pairwise (fun x y _ _ h1 h2=>leL_eq x y h1 h2) ha hb
def ltLs(ns:List (List Str))(i j:Nat):Bool:=ltL (ns.getD i []) (ns.getD j [])
theorem ltLs_ord(ns:List (List Str)):Ord (ltLs ns):=⟨fun _ _ h=>leL_as _ _ h,fun _ _ _ h1 h2=>leL_tr _ _ _ h1 h2⟩
def LisAt(h:Heap)(v:Value)(ts:List Str):Prop:=∃b dd sl n items,v=.ref b/\h.get? b=some { cls:=.type "list",dict:=dd,data:=.seq items n,slots:=sl }/\StrsAre items.toList ts
theorem LisAt.keep{h h':Heap}{v:Value}{x:List Str}(kp:∀b o,h.get? b=some o->h'.get? b=some o)(t:LisAt h v x):LisAt h' v x:=by obtain⟨a,dd,sl,n,its,e,h1,c⟩:=t;exact⟨a,dd,sl,n,its,e,kp _ _ h1,c⟩
theorem paired_at{α β:Type}{R:α->β->Prop}{d:α}{e:β}:∀{l:List α}{m:List β},Paired R l m->∀i,i<l.length->R (l.getD i d) (m.getD i e)
 |_,_,.nil,i,h=>absurd h (Nat.not_lt_zero _)
 |_,_,.cons r _,0,_=>r
 |_,_,.cons _ t,i+1,h=>paired_at t i (Nat.lt_of_succ_lt_succ h)
theorem paired_mem{α β:Type}{R:α->β->Prop}:∀{l:List α}{m:List β},Paired R l m->∀x∈l,∃y,R x y
 |_,_,.nil,_,h=>nomatch h
 |_,_,.cons r t,x,h=>(QK.mp h).elim (fun e=>⟨_,e▸r⟩) (paired_mem t x)
section
variable{prog:Program}{w:World}{A:Around}{E:VSP}{s:Shared}
theorem sortedLs{l:Addr}{vs:List Value}{ns:List (List Str)}{Q:VSP}(hu:A.units+1+1<cLine)(hl:s.heap.IsList l vs.toArray)(h64:vs.length<64)(hp:Paired (LisAt s.heap) vs ns)
  (k:∀p:Array Nat,Pm vs.length p->Up (ltLs ns) p vs.length->Q (.ref (s.heap.objs.size+1)) { s with heap:=sortedAll s.heap vs (p.toList.map fun i=>vs.getD i Value.none).toArray }):wpAny (model prog w) A (call (.builtin "sorted") [.ref l]) Q E s:=by
 refine sortedG (κ:=oneType') (R:=fun p=>Up (ltLs ns) p vs.length) hl h64 (fun h2 h3 kp Q q=>kindL h2 (fun v hv=>?_) q) (fun h2 h3 kp=>?_) (fun h2 i j hi hj=>?_) k;obtain⟨y,b,dd,sl,n,its,rfl,e,_⟩:=paired_mem hp v hv;exact⟨_,kp b _ e,rfl⟩;refine KOk.wp (lt:=ltLs ns) (fun i j hi hj ne C hC=>?_) (fun p hp=>⟨rfl,hp⟩) (ok_sort (ltLs_ord ns) (by omega));obtain⟨b,dd,sl,n,its,e1,g1,st1⟩:=(paired_at (d:=Value.none) (e:=[]) hp i hi).keep kp;obtain⟨b2,dd2,sl2,n2,its2,e2,g2,st2⟩:=(paired_at (d:=Value.none) (e:=[]) hp j hj).keep kp;show wpAny (model prog w) _ (keyLt' oneType' (vs.getD i Value.none) (vs.getD j Value.none)) _ _ _;rw[e1,e2];exact oneLt_list (s:={ s with heap:=h3 }) hu g1 g2 st1 st2 hC;obtain rfl:i=j:=by omega
 exact(ltLs_ord ns).re _
end
theorem up_pw{p:Array Nat}{ns:List (List Str)}{n:Nat}(hs:p.size=n)(hu:Up (ltLs ns) p n):(p.toList.map fun i=>ns.getD i []).Pairwise leL:=by
 rw[List.pairwise_iff_getElem];intro i j hi hj hij;rw[QG,Qa]at hi hj;rw[QBg,QBg];have:=hu i j (by omega) (by omega);have e:∀k,(h:k<p.size)->gD p k=p.toList[k]'(by rw[Qa];exact h):=fun k h=>by unfold gD;simp[QBK,h]
 rw[e i hi,e j hj]at this;exact this
def sOf:Value->Str
 | .str z _=>z
 |_=>⟨#[]⟩
def SetS(pg:Program)(wd:World)(h:Heap)(a:Addr)(b:Bool)(zs:List Str):Prop :=
 ∃es ep t,h.get? a=some { cls:=.type "set",dict:=none,data:=.set es ep t,slots:=#[] }/\ElemsOf (strKind pg wd) es.toList/\es.toList.map (fun e=>sOf e.2)=zs/\zs.Nodup/\t.fits es.size=true/\t.led=b/\(es.size=0∨t.plain=false)
theorem SetS.at{pg:Program}{wd:World}{h h':Heap}{a:Addr}{b:Bool}{zs:List Str}(x:SetS pg wd h a b zs)(k:∀o,h.get? a=some o->h'.get? a=some o):SetS pg wd h' a b zs:=by obtain⟨es,ep,t,e,r⟩:=x;exact⟨es,ep,t,k _ e,r⟩
theorem lay_led(t:SetTable)(es:Array (Int×Value))(h:Int)(x:Value):(layNew t es h x).2.1.led=t.led:=by
 unfold layNew;cases t.freeSlot h with
 |none=>rfl
 |some p=>show(QA8 _ _).led=_;unfold QA8;split<;>rfl
theorem laid_led{m f v:Nat}{l p:Bool}{hs:Array Int}{t:SetTable}{o:Array Nat}(e:SetTable.laid m f v l p hs=some (t,o)):t.led=l/\t.plain=p:=by
 unfold SetTable.laid at e;cases c:SetTable.layClean m hs with
 |none=>rw[c]at e;cases e
 |some w=>rw[c]at e;cases e;exact⟨rfl,rfl⟩
theorem relay_led(t:SetTable)(es:Array (Int×Value))(n:Nat)(hp:t.plain=false):(relayAll t es n).2.1.led=t.led/\(relayAll t es n).2.1.plain=false:=by unfold relayAll;split;rename_i t' o e;have:=laid_led e;show(if _ then _ else _:Array (Int×Value)×SetTable×Bool).2.1.led=_/\(if _ then _ else _:Array (Int×Value)×SetTable×Bool).2.1.plain=_;split;exact⟨this.1,this.2.trans hp⟩;exact⟨rfl,rfl⟩;exact⟨rfl,rfl⟩
section
variable{pg:Program}{wd:World}{Ar:Around}{Er:VSP}{sh:Shared}
section
variable{es:Array (Int×Value)}{e:Int×Value}{zs:List Str}{z:Str}{b:Bool}{a:Addr}
theorem el_str{es:List (Int×Value)}(el:ElemsOf (strKind pg wd) es)(he:e∈es):∃t,e.2=.str (sOf e.2) t:=by obtain⟨⟨k,hk,_⟩,_⟩:=el e he;obtain⟨t,ht⟩:=QAr hk;exact⟨t,by rw[ht];rfl⟩
theorem el_is{es:List (Int×Value)}(el:ElemsOf (strKind pg wd) es)(he:e∈es)(z:Str):(strKind pg wd).is z e.2=true↔sOf e.2=z:=by obtain⟨t,ht⟩:=el_str el he;rw[ht];generalize sOf e.2=y;show(y==z)=true↔y=z;exact beq_iff_eq
theorem el_find(el:ElemsOf (strKind pg wd) es.toList)(ez:es.toList.map (fun e=>sOf e.2)=zs):(es.toList.findIdx? (fun e=>(strKind pg wd).is z e.2)=none)↔z∉zs:=by
 rw[List.findIdx?_eq_none_iff,<- ez,Qh];constructor;rintro h ⟨e,he,rfl⟩;have:=h e he;rw[(el_is el he _).mpr rfl]at this;cases this;intro h e he;cases c:(strKind pg wd).is z e.2 with
 |false=>rfl
 |true=>exact(h ⟨e,he,(el_is el he z).mp c⟩).elim
theorem gave_ok{Q:Unit->Shared->Prop}(h:Q () sh):wpAny (model pg wd) Ar (match b with|true=>rule "set.scan.the-table-gave-way"|false=>pure ()) Q Er sh:=by
 cases b with
 |false=>exact QI h
 |true=>exact QAh h
theorem got_set{h:Heap}{es':Array (Int×Value)}{ep:Nat}{t t':SetTable}(e:h.get? a=some { cls:=.type "set",dict:=none,data:=.set es ep t,slots:=#[] }):(h.update a (QBO es' t')).get? a=some { cls:=.type "set",dict:=none,data:=.set es' (ep+1) t',slots:=#[] }:=wL (QBO es' t') e rfl
theorem set_put{tk:Tok}{Q:Bool->Shared->Prop}(S:SetS pg wd sh.heap a b zs)(hr:zs.length+1<4096)
  (k:∀r h' zs',qG a sh.heap h'->SetS pg wd h' a b zs'->(∀s,s∈zs'↔s∈zs∨s=z)->zs'.length<=zs.length+1->Q r { sh with heap:=h',toks:=sh.toks+1 }):wpAny (model pg wd) Ar (setAdd a (.str z tk)) Q Er sh:=by
 have hk:(strKind pg wd).is z (.str z tk)=true:=strKind_is _ _ _ _;unfold setAdd;refine qb (QC ((strKind pg wd).pyHash (k:=z) hk ?_));obtain⟨es,ep,t,e0,el,ez,nd,hf,hb,hp⟩:=id S;have sz:es.size=zs.length:=by rw[<- ez,QG,Qa]
 have bd:es.size<scanBound:=by show es.size<4096;omega
 unfold setAddHashed setAddHashedIn;refine qb (QC (wpAny_setState_of (s:={ sh with toks:=sh.toks+1 }) e0 rfl hf ?_));dsimp only;rw[byScan_of (knd:=strKind pg wd) (x:=.str z tk) rfl bd el,if_pos rfl];unfold setAddByScan;refine QC (QC (QAh (QC (wpAny_setScan_of hk (s:={ sh with toks:=sh.toks+1 }) e0 rfl hf el ?_))));cases fi:es.toList.findIdx? (fun e=>(strKind pg wd).is z e.2) with
 |some j =>
  have mz:z∈zs:=ql fun n=>by rw[(el_find el ez).mpr n]at fi;cases fi
  dsimp only;exact QI (QI (k _ sh.heap zs (QBH _ _) S (fun s=>⟨.inl,fun o=>o.elim id fun e=>e▸mz⟩) (wo _)))
 |none =>
  have nz:=(el_find el ez).mp fi;dsimp only;have pm:=layNew_perm t es ((strKind pg wd).hash z) (.str z tk);have ft:=layNew_fits t es ((strKind pg wd).hash z) (.str z tk);have ld:=lay_led t es ((strKind pg wd).hash z) (.str z tk);generalize layNew t es ((strKind pg wd).hash z) (.str z tk)=L at pm ft ld ⊢;obtain⟨e1,t1,wd1,gv⟩:=L;dsimp only at pm ft ld ⊢;rw[Array.toList_push]at pm;have el1:ElemsOf (strKind pg wd) e1.toList:=(el.push hk rfl).perm pm;have pz:(e1.toList.map fun e=>sOf e.2).Perm (zs++[z]):=by have:=pm.map fun e:Int×Value=>sOf e.2;rw[Qc,ez]at this;exact this
  have n1:e1.size=zs.length+1:=by rw[<- Qa,<- QG (f:=fun e:Int×Value=>sOf e.2),pz.length_eq,QM];rfl
  have nd1:(zs++[z]).Nodup:=qk.mpr ⟨nd,Qe.mpr ⟨Q2,Q0⟩,fun x hx y hy=>by rw[QJ.mp hy];exact fun e=>nz (e▸hx)⟩;have b1:e1.size<=sizeLine:=by rw[QZ];omega
  have fin:∀(e2:Array (Int×Value)) (t2:SetTable) (h':Heap) (ep':Nat),e2.toList.Perm e1.toList->t2.fits e2.size=true->t2.led=b->t2.plain=false->qG a sh.heap h'->h'.get? a=some { cls:=.type "set",dict:=none,data:=.set e2 ep' t2,slots:=#[] }->Q true { sh with heap:=h',toks:=sh.toks+1 }:=fun e2 t2 h' ep' p2 f2 l2 q2 sb g2=>by have pz2:=(p2.map fun e:Int×Value=>sOf e.2).trans pz;refine k true h' _ sb ⟨e2,ep',t2,g2,el1.perm p2,rfl,pz2.nodup_iff.mpr nd1,f2,l2,.inr q2⟩ (fun s=>?_) ?_;rw[pz2.mem_iff,Qd,QJ];rw[pz2.length_eq,QM];exact QR _
  have tail:∀t2:SetTable,t2.fits e1.size=true->t2.led=b->t2.plain=false->wpAny (model pg wd) Ar (do
    storeSet a e1 t2
    if(!wd1&&t2.tooFull)=true then do
      (match (relayAll t2 e1 (wl e1.size)).2.2 with|true=>rule "set.scan.the-table-gave-way"|false=>pure ())
      storeSet a (relayAll t2 e1 (wl e1.size)).1 (relayAll t2 e1 (wl e1.size)).2.1
      pure (some true)
     else pure (some true)) (fun x s'=>wpAny (model pg wd) Ar (match x with|some r=>pure r|none=>setAddHashedIn a (.str z tk) ((strKind pg wd).hash z) 99999) Q Er s') Er { sh with toks:=sh.toks+1 }:=fun t2 f2 l2 q2=>by
   refine QC (QBP (s:={ sh with toks:=sh.toks+1 }) e0 rfl ?_ b1);have g1:=got_set (es':=e1) (t':=t2) e0;have sb1:=qA sh.heap a (QBO e1 t2);split;have pr:=relayAll_perm t2 e1 (wl e1.size);have fr:=relayAll_fits t2 e1 (wl e1.size);have lr:=relay_led t2 e1 (wl e1.size) q2;generalize relayAll t2 e1 (wl e1.size)=R at pr fr lr ⊢;obtain⟨e2,t3,g3⟩:=R;dsimp only at pr fr lr ⊢;refine QC (gave_ok (QC (QBP (s:={ sh with heap:=sh.heap.update a (QBO e1 t2),toks:=sh.toks+1 }) g1 rfl (QI (QI ?_)) ?_)));exact fin e2 t3 _ _ pr fr (lr.1.trans l2) lr.2 (sb1.trans (qA _ a _)) (got_set g1);rw[<- Qa,pr.length_eq,Qa];exact b1;exact QI (QI (fin e1 t2 _ _ (List.Perm.refl _) f2 l2 q2 sb1 g1))
  refine QC (gave_ok ?_);cases hpl:t1.plain with
  |true=>rw[if_pos rfl];refine QC ?_;rw[hashByValue_scannable 8 (x:=.str z tk) rfl];exact QI (tail { t1 with plain:=false } (SetTable.fits_plain_off ft) (ld.trans hb) rfl)
  |false=>rw[if_neg QD];exact QC (QI (tail t1 ft (ld.trans hb) hpl))
end
end
theorem strs_ix{vs:List Value}{ss:List Str}(h:StrsAre vs ss):vs.length=ss.length/\∀(i:Nat) (v:Value),vs[i]?=some v->∃z t,v=.str z t/\ss[i]?=some z:=by
 induction h with
 |nil=>exact⟨rfl,fun i v e=>by cases e⟩
 |cons y t _ ih =>
  refine⟨congrArg Nat.succ ih.1,fun i v e=>?_⟩;cases i with
  |zero=>cases e;exact⟨y,t,rfl,rfl⟩
  |succ i=>exact ih.2 i v e
section
variable{pg:Program}{wd:World}{Ar:Around}{Er:VSP}{sh:Shared}
section
variable{l:Addr}{b:Bool}{xs:Array Value}{ss:List Str}{Q:VSP}
theorem set_loop{S it:Addr}{R:Result->Shared->Prop}(hd:Ar.handled=none)(ne:l≠it)(nS:S∉[it,l])(hs:StrsAre xs.toList ss)(bd:xs.size+1<4096) :
  ∀(n i:Nat) (sh:Shared) (zs:List Str),xs.size - i=n->i<=xs.size->(sh.heap.IsListIter it l i/\sh.heap.IsList l xs)->SetS pg wd sh.heap S b zs->(∀s,s∈zs↔s∈ss.take i)->zs.length<=i ->
   (∀s' zs',Moved [S,it] (fun a b=>b=a) sh s'->SetS pg wd s'.heap S b zs'->(∀s,s∈zs'↔s∈ss)->zs'.length<=xs.size->R (.ok (.ret .none)) s') ->
   codeAny (model pg wd) Ar (.builtin "set.update.loop" ⟨[.ref S,.ref it],[]⟩) R sh:=by
 have W:=(QBw (prog:=pg) (w:=wd) (A:=Ar.in1) hd it l ne xs).toS;obtain⟨hl,hx⟩:=strs_ix hs;rw[Qa]at hl;have sub:∀c∈[it],c∈[S,it]:=fun c hc=>QE _ hc;have nw:S∉[it]:=fun z=>nS (QK.mpr (.inl (QJ.mp z)));intro n;induction n with
 |zero =>
  intro i sh zs en li st0 st1 mem len k;obtain rfl:i=xs.size:=by omega
  refine wv QAK ?_;rw[wQ WM _];refine QC (m:=pyNext (.ref it)) (W.done sh _ _ st0 fun s' mv=>QI (k s' zs (mv.mono sub) (st1.at fun o e=>mv.heap S o nw e) ?_ len));intro s;rw[mem,hl,QBh]
 |succ n ih =>
  intro i sh zs en li st0 st1 mem len k;have lt:i<xs.size:=by omega
  refine wv QAK ?_;rw[wQ WM _];refine QC (m:=pyNext (.ref it)) (W.item i sh _ _ lt st0 fun v s' pq st' mv=>?_);obtain⟨z,tk,rfl,ez⟩:=hx i v (by rw[wr];exact pq);have st2:SetS pg wd s'.heap S b zs:=st1.at fun o e=>mv.heap S o nw e;refine QC (m:=holding [Value.str z tk] (setAdd S (.str z tk))) (qb (set_put st2 (by omega) fun r h' zs' sb st3 m3 l3=>QI ⟨QAJ WM _,?_⟩));refine ih (i+1) _ zs' (by omega) lt (W.frame _ s' _ _ st' (wo _) fun c hc o e=>?_) st3 (fun s=>?_) (by omega) fun s'' zs'' mv2 st4 m4 l4=>k s'' zs'' (Moved.trans W.gtrans ((mv.mono sub).then_heap (wo _) fun c o hc e=>?_) mv2) st4 m4 l4;rw[sb.2 c fun q=>nS (q▸hc)];exact e;rw[m3,mem,List.take_succ,ez,Qd];simp;rw[sb.2 c fun q=>hc (q▸QF)];exact e
noncomputable abbrev newS(b:Bool):Obj:={ cls:=.type "set",dict:=none,data:=.set #[] 0 (.fresh 0 0 b) }
theorem new_set{v:Value}(q:Q (.ref sh.heap.objs.size) { sh with heap:=sh.heap.push (newS (!wd.params.followText "set-order")) }):codeAny (model pg wd) Ar (.call (.builtin "set.__new__") ⟨[.type "set",v],[]⟩) (wants Q Er) sh:=by refine codeAny_of_tree ?_;show wpAny _ Ar.in1 (checkBuiltinCall "set.__new__" ⟨[.type "set",v],[]⟩ >>= fun _=>again (.builtin "set.__new__" ⟨[.type "set",v],[]⟩)) _ _ sh;refine QC (QAv (F.newCall_set_1 v) (QI ⟨QAJ QBq _,wv F.entry_set_new ?_⟩));rw[wQ QBq _];unfold Builtin.«set.__new__» Builtin.Frozenset.newClass;have sub:=sub_set_self;obtain⟨hp,gs,dr,tk,oo⟩:=sh;dsimp only;wp_walk;refine wpAny_askSetting (QI ?_);dsimp only;simp only[newObj];exact QC (wpAny_alloc (QI (QI q)))
theorem new_SetS{h:Heap}{a:Addr}(e:h.get? a=some (newS b)):SetS pg wd h a b []:=⟨#[],0,_,e,fun _ z=>(nomatch z),rfl,Q0,by cases b<;>decide,rfl,.inl rfl⟩
theorem call_set_strs(hd:Ar.handled=none)(hl:sh.heap.IsList l xs)(hs:StrsAre xs.toList ss)(bd:xs.size+1<4096)
  (k:∀(h':Heap) (tk:Nat) (zs:List Str),SetS pg wd h' sh.heap.objs.size (!wd.params.followText "set-order") zs->(∀s,s∈zs↔s∈ss)->zs.length<=xs.size->(∀b o,sh.heap.get? b=some o->h'.get? b=some o)->Q (.ref sh.heap.objs.size) { sh with heap:=h',toks:=tk }) :
  wpAny (model pg wd) Ar (call (.type "set") [.ref l]) Q Er sh:=by
 generalize hb:(!wd.params.followText "set-order")=b at k;generalize hn:sh.heap.objs.size=n at k;obtain⟨c,tl,mr⟩:=wx.mro;have md:=wx.made;have sb:=wx.sub;have c1:=wx.notType;have c2:=wx.canCreate;have c3:=F.typeCall_set_1 (.ref l);refine wpAny_call (codeAny_of_tree ?_);show wpAny _ _ (callAny (.type "set") _) _ _ _;refine QI ⟨Code.quiet_builtin _ (by decide +kernel),wv F.entry_type_call ?_⟩;rw[Around.under_plain (weight_type_call_type "set" [.ref l] []) rfl]
 repeat (any_goals (first|assumption|wp_step))
 refine Wu (new_set (v:=.ref l) (Er:=Er) (Q:=fun p q=>p=.ref n/\q={ sh with heap:=sh.heap.push (newS b) }) ⟨by rw[hn],by rw[hb]⟩) fun r q hr=>?_;cases r with
 |error e=>exact hr
 |ok fl =>
  cases fl with
  |ret obj =>
   obtain⟨rfl,rfl⟩:=hr;have e0:(sh.heap.push (newS b)).get? n=some (newS b):=hn▸QS _ rfl;have ty:Shared.TypeIs { sh with heap:=sh.heap.push (newS b) } (.ref n) "set":=⟨_,e0,rfl⟩
   have li:=wx.init.lookup;have bi:=wx.init.bind (.ref n)
   repeat (any_goals (first|assumption|wp_step))
   refine Wu (codeAny_call_builtin (R:=wants (fun r q=>r=.none/\∃h' tk zs,q={ sh with heap:=h',toks:=tk }/\SetS pg wd h' n b zs/\(∀s,s∈zs↔s∈ss)/\zs.length<=xs.size/\∀c o,sh.heap.get? c=some o->h'.get? c=some o) Er) wx.init.plain F.entry_set_init (check_set_init_1 ty ?body)) ?after
   case after =>
    intro r q hr;cases r with
    |error e=>exact hr
    |ok fl =>
     cases fl with
     |ret r =>
      obtain⟨rfl,h',tk,zs,rfl,a1,a2,a3,a4⟩:=hr
      repeat (any_goals (first|assumption|wp_step))
      exact k h' tk zs a1 a2 a3 a4
     |_=>exact hr.elim
   case body =>
    obtain⟨ol,el,cl,nl,dl⟩:=hl;obtain⟨ocls,odict,odata,oslots⟩:=ol;cases cl;cases dl;have el1:(sh.heap.push (newS b)).get? l=some { cls:=.type "list",dict:=odict,data:=.seq xs nl,slots:=oslots }:=QH _ el;have t1:=F.sub_list_set;have t2:=F.sub_list_frozenset;have t3:(Value.type "list" == Value.type "dict")=false:=by decide
    have l1:(sh.heap.push (newS b)).IsList l xs:=⟨_,el1,rfl,nl,rfl⟩
    unfold Builtin.«set.__init__» noKeywords Builtin.Frozenset.updateFrom;generalize hi:pyIter=it;wp_walk;subst hi;refine w8 l1 (QC (wpAny_runValue ?_));have lt:l<sh.heap.objs.size:=QU el;have sz:(sh.heap.push (newS b)).objs.size=n+1:=by rw[WS,hn]
    rw[hn]at lt;refine set_loop (b:=b) (ss:=ss) (by simp[hd]) (show l≠_ by rw[sz];exact Qg (wz lt)) (fun z=>?_) hs bd xs.size 0 _ [] (Nat.sub_zero _) (Q5 _) ⟨⟨_,QS _ rfl,rfl,rfl⟩,l1.push _⟩ (new_SetS (QH _ e0)) (fun s=>?_) (QR _) fun s' zs' mv st m ln=>?_;rw[sz]at z;rcases QK.mp z with z|z;exact Qg (QAP _) z;exact wY lt (QJ.mp z);rw[List.take_zero];obtain⟨h',gs,dr,tk,oo⟩:=s';cases mv.gens;cases mv.drawn;cases mv.os;refine QI ?_;refine QI ⟨rfl,h',tk,zs',rfl,st,m,ln,fun c o e=>?_⟩;have lc:c<n:=hn▸QU e;refine mv.heap c o (fun z=>?_) (QH _ (QH _ e));rw[sz]at z;rcases QK.mp z with z|z;exact Qg lc z;exact Qg (wz lc) (QJ.mp z)
  |_=>exact hr.elim
end
end
section
variable{pg:Program}{wd:World}{M:Model}{Ar:Around}{Er:VSP}{sh:Shared}
end
namespace F
end F
noncomputable abbrev setO(es:Array (Int×Value))(ep:Nat)(t:SetTable):Obj:={ cls:=.type "set",dict:=none,data:=.set es ep t,slots:=#[] }
section
variable{pg:Program}{wd:World}{Ar:Around}{Er:VSP}{sh:Shared}{j a:Addr}{es:Array (Int×Value)}{ep:Nat}{t:SetTable}
end
namespace F
end F
section
variable{pg:Program}{wd:World}{Ar:Around}{Er:VSP}{sh:Shared}{j a:Addr}{es:Array (Int×Value)}{ep:Nat}{t:SetTable}
end
section
variable{pg:Program}{wd:World}{Ar:Around}{Er:VSP}{sh:Shared}{a:Addr}
end
section
variable{pg:Program}{wd:World}{Ar:Around}{Er:VSP}{sh:Shared}{a:Addr}
end
def rLset(K:QA)(x:V)(H:Hp)(Q:VK):Prop:=∃p,∃ss:List Str,x=.ref p/\SqL K H p (ss.map V.str)/\ss.length<4000/\∀zs:List Str,zs.Nodup->(∀s,s∈zs↔s∈ss)->Q (.int zs.length) H
theorem strsV:∀{ys:List Str}{its:List Value},bA (ys.map V.str) its->StrsAre its ys
 |[],[],_=>.nil
 |y::ys,u::its,h=>by
  rw[QN]at h;cases h with
  |cons h t=>obtain⟨k,rfl⟩:=h;exact .cons _ _ (strsV t)
 |_::_,[],h=>by cases h
 |[],_::_,h=>by cases h
section
variable{X:Cx}{a:Expr}{ta:TE}{p2 pos2:Pos}
theorem set_of{pins:LAO}{s:Shared}{σ:St}{H:Hp}{Qv:List Value->Shared->Prop}{R:V->Hp->Prop}(hc:X.calm=true)(g2:Gl X "set")(m2:X.mg "set"=none)(ha:PE X a ta)(st:starEach [a] X.env=(false,eval a X.env)::starEach [] X.env)(I:Inv X pins σ H s)(h:ta σ H R)
  (k:∀x H1 s1,R x H1->Inv X pins σ H1 s1->∃p,∃ss:List Str,x=.ref p/\SqL X.K H1 p (ss.map V.str)/\ss.length<4000/\∀s2 zs,Inv X pins σ H1 s2->SetS X.prog X.w s2.heap s1.heap.objs.size (!X.w.params.followText "set-order") zs->(∀z,z∈zs↔z∈ss)->zs.length<=ss.length->Qv [.ref s1.heap.objs.size] s2) (pos:Pos) :
  wpAny (model X.prog X.w) X.A (spliced (backTo pos (starEach [.Call (.Name "set" p2) [a] [] pos2] X.env))) Qv X.xe s:=by
 show wpAny _ _ (spliced ((false,eval (.Call (.Name "set" p2) [a] [] pos2) X.env)::[])) _ _ s;refine Wt (wJ (ld_blt I g2 m2 PyProof.Rows.boot_set (wD ?_ st rfl)));rw[st];show wpAny _ _ (spliced ((false,eval a X.env)::[])) _ _ s;refine Wt (thn (ha pins s σ H _ I h) fun u s1 ⟨x,H1,I1,rx,r⟩=>W8 ?_);obtain⟨p,ss,rfl,hq,lt,q⟩:=k x H1 s1 r I1;cases rx;obtain⟨its,r',pl,hz⟩:=I1.list hq;have hl:ss.length=its.length:=by rw[<- r'.length,QG]
 refine call_set_strs (I1.ok.hd hc) pl.isList (by simpa using strsV r') (by rw[QO];omega) fun h' tk zs S m l kp=>W8 (q _ zs (I1.kept (t':=tk) kp) S m (by rw[QO]at l;omega))
theorem pe_lset{p1 pos:Pos}(hc:X.calm=true)(g1:Gl X "len")(g2:Gl X "set")(m1:X.mg "len"=none)(m2:X.mg "set"=none)(ha:PE X a ta)(st:starEach [a] X.env=(false,eval a X.env)::starEach [] X.env) :
  PE X (.Call (.Name "len" p1) [.Call (.Name "set" p2) [a] [] pos2] [] pos) fun σ H Q=>ta σ H fun x H1=>rLset X.K x H1 Q:=by
 intro pins s σ H Q I h;refine wJ (ld_blt I g1 m1 PySem.boot_len (WT (set_of hc g2 m2 ha st I h (fun x H1 s1 ⟨p,ss,e,hq,lt,q⟩ I1=>⟨p,ss,e,hq,lt,fun s2 zs I2 S m l=>?_⟩) pos) rfl rfl));obtain⟨es,ep,t,e0,el,ez,nd,hf,hb,hp⟩:=S;have sz:es.size=zs.length:=by rw[<- ez,QG,Qa]
 refine call_len_set e0 ⟨rfl,rfl,rfl⟩ rfl hf (by omega) ⟨.int zs.length,H1,I2.tok _,⟨_,by rw[sz]⟩,q zs nd m⟩
end
inductive Bi where
 |len|any|all|list|sorted
 deriving DecidableEq
inductive Mt where
 |append|pop|join|setd
 deriving DecidableEq
inductive ItK where
 |val|rng1|enum|itm
 deriving DecidableEq
inductive Tg where
 |nm (i:Nat)|tp (is:List Nat)
 deriving DecidableEq
set_option genSizeOf false in
set_option genInjectivity false in
inductive PX where
 |var (i:Nat)|int (i:Int)|str (x:Str)|bl (b:Bool)|non
 |glo (x:Str)|bty (x:Str) (n:String)
 |bin (op:Operator) (a b:PX)
 |cmp (op:CmpOp) (a b:PX)|neg (a:PX)
 |and (a b:PX)|or (a b:PX)|not (a:PX)
 |call (f:Str) (as:PX)
 |bi (f:Bi) (as:PX)|isi (a c:PX)
 |mt (m:Mt) (o as:PX)
 |idx (a b:PX)|slc (a lo hi:PX)|nop
 |lst (as:PX)|tup (as:PX)|dnew (b:Bool)|dsp (a b:PX)|lset (a:PX)|hx (a:PX)
 |comp (mask:List Bool) (tgs:List Str) (tg:Tg) (ik:ItK) (its cond elt:PX)
 |nj|nh (a as:PX)
structure Ev where
 sp:Str->Sp
 va:Str->V
structure W3 where
 e:TE
 t:TT
 a:TA
def never:W3:=⟨fun _ _ _=>False,fun _ _ _=>False,fun _ _ _=>False⟩
def truQ(K:QA)(x:V)(H:Hp)(Q:Bool->Hp->Prop):Prop:=match x with
 | .bl b=>Q b H
 | .int i=>Q (i != 0) H
 | .non=>Q false H
 | .str z=>z.length<=sizeLine/\Q ((z.length:Int) != 0) H
 |x=>∃k,TruV K x H k/\Q k H
def asB(x:V)(H:Hp)(Q:Bool->Hp->Prop):Prop:=match x with
 | .bl b=>Q b H
 |_=>False
def binR(K:QA):Operator->R2
 | .Add=>rAdd K
 | .Sub=>rSub
 | .Mult=>rMul K
 | .FloorDiv=>rFdiv
 | .Mod=>rMod
 |_=>fun _ _ _ _=>False
def isBoolR:R2:=fun x y H Q=>∃b c,x=.bl b/\y=.bl c/\Q (.bl (decide (b=c))) H
def cmpR(K:QA):CmpOp->R2
 | .Eq=>rEq K false
 | .NotEq=>rEq K true
 | .Lt=>rOrd fun i j=>decide (i<j)
 | .LtE=>rOrd fun i j=>decide (i<=j)
 | .Gt=>rOrd fun i j=>decide (j<i)
 | .GtE=>rOrd fun i j=>decide (j<=i)
 | .In=>rInU K false
 | .NotIn=>rInU K true
 | .Is=>isBoolR
 |_=>fun _ _ _ _=>False
def rIxU(K:QA):R2:=fun x y H Q=>match x,y with
 | .str z,.int i=>z.length<=sizeLine/\∃c,atI z.cps.toList i=some c/\Q (.str ⟨#[c]⟩) H
 | .ref a,.int i=>∃xs v,(SqL K H a xs∨SqT K H a xs)/\atI xs i=some v/\Q v H
 | .ref a,.str z=>∃v,DGet K H a (.str z) (some v)/\Q v H
 | .ref a,.ref b=>∃v,DGet K H a (.ref b) (some v)/\Q v H
 |_,_=>False
def rListOf(K:QA):List V->Hp->VK->Prop:=fun vs H Q=>∃p ys,vs=[.ref p]/\(SqL K H p ys∨SqT K H p ys)/\∀l,H l=none->Q (.ref l) (JA H l (.lst ys))
def rSorted(K:QA):List V->Hp->VK->Prop:=fun vs H Q=>∃p,vs=[.ref p]/\((∃ss:List Str,SqL K H p (ss.map V.str)/\ss.length<64/\∀l ss',H l=none->ss'.Perm ss->sortedS ss'=true->Q (.ref l) (JA H l (.lst (ss'.map V.str)))) ∨
   (∃zs:List (List Str×V),SqL K H p (zs.map we)/\zs.length<64/\(∀z∈zs,∃a,z.2=.ref a/\SqL K H a (z.1.map V.str))/\∀l (zs':List (List Str×V)),H l=none->zs'.Perm zs->(zs'.map qL).Pairwise leL->Q (.ref l) (JA H l (.lst (zs'.map we)))))
def biR(K:QA):Bi->List V->Hp->VK->Prop
 | .len=>rLen K
 | .any=>rAny K
 | .all=>rAll K
 | .list=>rListOf K
 | .sorted=>rSorted K
def rPopU:V->List V->Hp->VK->Prop:=fun x vs H Q=>∃l i xs k v,x=.ref l/\vs=[.int i]/\H l=some (.lst xs)/\ixN xs.length i=some k/\xs[k]?=some v/\Q v (JA H l (.lst (xs.eraseIdx k)))
def rJoin(K:QA):V->List V->Hp->VK->Prop:=fun x vs H Q=>∃z b,∃ys:List Str,x=.str z/\vs=[.ref b]/\SqL K H b (ys.map V.str)/\(ys.map (·.length)).sum+ys.length * z.length<=16777216/\Q (.str (QAL z ys)) H
def mtR(K:QA):Mt->V->List V->Hp->VK->Prop
 | .append=>rAppend
 | .pop=>rPopU
 | .join=>rJoin K
 | .setd=>rSetDef K
def Mt.ty:Mt->String
 | .append=>"list"
 | .pop=>"list"
 | .join=>"str"
 | .setd=>"dict"
def partQ(x:V)(H:Hp)(Q:Option Int->Hp->Prop):Prop:=match x with
 | .int i=>Q (some i) H
 |_=>False
inductive Item where
 |one (v:V)|tup (vs:List V)
def itemsR(K:QA):ItK->List V->Hp->(List Item->(Hp->Prop)->Hp->Prop)->Prop
 | .val,[.str z],H,R=>R (z.cps.toList.map fun c=>.one (.str ⟨#[c]⟩)) (fun _=>True) H
 | .val,[.ref a],H,R=>(∃xs,SqL K H a xs/\R (xs.map .one) (fun H=>SqL K H a xs) H)∨(∃xs,SqT K H a xs/\R (xs.map .one) (fun H=>SqT K H a xs) H)∨(∃ep,∃kvs:List KE,H a=some (.dT ep kvs)/\R (kvs.map fun p=>.one (.ref p.2.1)) (fun H=>H a=some (.dT ep kvs)) H)
 | .rng1,[.int j],H,R=>(-(2 ^ 62)<=j/\j<2 ^ 62)/\R ((Qz j.toNat).map fun(i:Nat)=>.one (.int (i:Int))) (fun _=>True) H
 | .enum,[.ref a],H,R=>∃z xs,Src.adr z=a/\SqS K H z xs/\R (xs.zipIdx.map fun p=>.tup [.int (p.2:Int),p.1]) (fun H=>SqS K H z xs) H
 | .itm,[.ref a],H,R=>∃ep,∃kvs:List KE,H a=some (.dT ep kvs)/\R (kvs.map fun p=>.tup [.ref p.2.1,p.2.2]) (fun H=>H a=some (.dT ep kvs)) H
 |_,_,_,_=>False
def setAll:List Nat->List V->St->Option St
 |[],[],σ=>some σ
 |i::is,v::vs,σ=>setAll is vs (σ.set i (some v))
 |_,_,_=>none
def bindT(K:QA):Tg->TG
 | .nm i=>fun v σ H Q=>Q (σ.set i (some v)) H
 | .tp is=>fun v σ H Q=>match v with
  | .ref p=>∃xs σ',SqT K H p xs/\setAll is xs σ=some σ'/\Q σ' H
  |_=>False
def bindI(K:QA)(tg:Tg):Item->St->Hp->(St->Hp->Prop)->Prop
 | .one v=>bindT K tg v
 | .tup vs=>fun σ H Q=>match tg with
  | .tp is=>∀H',Same H H'->∃σ',setAll is vs σ=some σ'/\Q σ' H'
  | .nm i=>∀p,H p=none->Q (σ.set i (some (.ref p))) (JA H p (.tup vs))
def compR(K:QA)(xs:List Item)(st:Hp->Prop)(bind:Item->St->Hp->(St->Hp->Prop)->Prop)(tc:TT)(te:TE)(σ:St)(H:Hp)(Q:VK):Prop :=
 ∃W:Nat->List V->Hp->Prop,W 0 [] H/\(∀i acc H,i<=xs.length->W i acc H->st H) /\
  (∀i x acc H,xs[i]?=some x->W i acc H->bind x σ H fun σ2 H2=>tc σ2 H2 fun b H3=>if b=true then te σ2 H3 fun y H4=>acc.length<sizeLine/\W (i+1) (acc++[y]) H4 else W (i+1) acc H3) /\
  ∀acc H2,W xs.length acc H2->acc.length<=sizeLine/\∀p,H2 p=none->Q (.ref p) (JA H2 p (.lst acc))
structure Yields(J:It)(xs:List Item)(st:Hp->Prop):Prop where
 go:∀i H,st H->i<xs.length->J.go i H
 yld:∀i H x H',st H->i<xs.length->J.yld i H x H'->∃it,xs[i]?=some it/\match it with
  | .one v=>x=v/\H'=H
  | .tup vs=>∃p,H p=none/\x=.ref p/\H'=JA H p (.tup vs)
 stop:∀i H,st H->xs.length<=i->J.stop i H
def compJ(J:It)(g:TG)(tc:TT)(te:TE)(σ0:St)(H1:Hp)(Q:VK):Prop:=∃W:Nat->Nat->List V->St->Hp->Prop,(∃m,W 0 m [] σ0 H1) /\
 ∀i m acc σ' H',W i m acc σ' H'->(J.stop i H'/\acc.length<=sizeLine/\∀p,H' p=none->Q (.ref p) (JA H' p (.lst acc))) ∨
  (J.go i H'/\∀x H2,J.yld i H' x H2->g x σ' H2 fun σ3 H3=>tc σ3 H3 fun b H4=>if b=true then te σ3 H4 fun y H5=>acc.length<sizeLine/\∃m',m' < m/\W (i+1) m' (acc++[y]) σ3 H5 else ∃m',m' < m/\W (i+1) m' acc σ3 H4)
def CompB(K:QA)(xs:List Item)(st:Hp->Prop)(tg:Tg)(tc:TT)(te:TE)(σ0:St)(H:Hp)(Q:VK):Prop:=∀J,Yields J xs st->compJ J (bindT K tg) tc te σ0 H Q
def isNop:PX->Bool
 | .nop=>true
 |_=>false
def wp(K:QA)(Γ:Ev):PX->XK->W3
 | .var i,E=>let e:TE:=fun σ H Q=>match σ[i]? with
   |some (some v)=>Q v H
   |_=>False
  ⟨e,fun σ H Q=>e σ H fun x H1=>truQ K x H1 Q,never.a⟩
 | .int i,E=>⟨fun _ H Q=>Q (.int i) H,fun _ H Q=>Q (i != 0) H,never.a⟩
 | .str x,E=>⟨fun _ H Q=>Q (.str x) H,never.t,never.a⟩
 | .bl b,E=>⟨fun _ H Q=>Q (.bl b) H,fun _ H Q=>Q b H,never.a⟩
 | .non,E=>⟨fun _ H Q=>Q .non H,fun _ H Q=>Q false H,never.a⟩
 | .glo x,E=>⟨fun _ H Q=>Q (Γ.va x) H,fun _ H Q=>truQ K (Γ.va x) H Q,never.a⟩
 | .bty _ n,E=>⟨fun _ H Q=>Q (.ty n) H,never.t,never.a⟩
 | .bin op a b,E=>let e:TE:=fun σ H Q=>(wp K Γ a E).e σ H fun x H1=>(wp K Γ b E).e σ H1 fun y H2=>binR K op x y H2 Q
  ⟨e,fun σ H Q=>e σ H fun x H1=>truQ K x H1 Q,never.a⟩
 | .cmp op a b,E=>let e:TE:=fun σ H Q=>(wp K Γ a E).e σ H fun x H1=>(wp K Γ b E).e σ H1 fun y H2=>cmpR K op x y H2 Q
  ⟨e,fun σ H Q=>e σ H fun x H1=>asB x H1 Q,never.a⟩
 | .neg a,E=>⟨fun σ H Q=>(wp K Γ a E).e σ H fun x H1=>match x with
   | .int i=>Q (.int (-i)) H1
   |_=>False,never.t,never.a⟩
 | .and a b,E=>⟨fun σ H Q=>(wp K Γ a E).e σ H fun x H1=>asB x H1 fun c H2=>if c=true then(wp K Γ b E).e σ H2 Q else Q (.bl false) H2,
   fun σ H Q=>(wp K Γ a E).t σ H fun c H1=>if c=true then(wp K Γ b E).t σ H1 Q else Q false H1,never.a⟩
 | .or a b,E=>⟨fun σ H Q=>(wp K Γ a E).e σ H fun x H1=>asB x H1 fun c H2=>if c=true then Q (.bl true) H2 else(wp K Γ b E).e σ H2 Q,
   fun σ H Q=>(wp K Γ a E).t σ H fun c H1=>if c=true then Q true H1 else(wp K Γ b E).t σ H1 Q,never.a⟩
 | .not a,E=>⟨fun σ H Q=>(wp K Γ a E).e σ H fun x H1=>truQ K x H1 fun c H2=>Q (.bl (!c)) H2,fun σ H Q=>(wp K Γ a E).t σ H fun c H1=>Q (!c) H1,never.a⟩
 | .call f as,E=>let e:TE:=fun σ H Q=>(wp K Γ as E).a σ H fun vs H1=>Γ.sp f vs H1 Q E
  ⟨e,fun σ H Q=>e σ H fun x H1=>truQ K x H1 Q,never.a⟩
 | .bi f as,E=>let e:TE:=fun σ H Q=>(wp K Γ as E).a σ H fun vs H1=>biR K f vs H1 Q
  ⟨e,fun σ H Q=>e σ H fun x H1=>truQ K x H1 Q,never.a⟩
 | .isi a c,E=>let e:TE:=fun σ H Q=>(wp K Γ a E).e σ H fun x H1=>(wp K Γ c E).e σ H1 fun y H2=>rIsI K [x,y] H2 Q
  ⟨e,fun σ H Q=>e σ H fun x H1=>truQ K x H1 Q,never.a⟩
 | .mt m o as,E=>let e:TE:=fun σ H Q=>(wp K Γ o E).e σ H fun x H1=>tyV K m.ty x H1/\(wp K Γ as E).a σ H1 fun vs H2=>mtR K m x vs H2 Q
  ⟨e,fun σ H Q=>e σ H fun x H1=>truQ K x H1 Q,never.a⟩
 | .idx a b,E=>let e:TE:=fun σ H Q=>(wp K Γ a E).e σ H fun x H1=>(wp K Γ b E).e σ H1 fun y H2=>rIxU K x y H2 Q
  ⟨e,fun σ H Q=>e σ H fun x H1=>truQ K x H1 Q,never.a⟩
 | .slc a lo hi,E=>⟨fun σ H Q=>(wp K Γ a E).e σ H fun x H1 =>
   (if isNop lo=true then fun(R:Option Int->Hp->Prop)=>R none H1 else fun R=>(wp K Γ lo E).e σ H1 fun l H2=>partQ l H2 R) fun l H2 =>
   (if isNop hi=true then fun(R:Option Int->Hp->Prop)=>R none H2 else fun R=>(wp K Γ hi E).e σ H2 fun u H3=>partQ u H3 R) fun u H3=>rSl K x l u H3 Q,never.t,never.a⟩
 | .nop,E=>never
 | .lst as,E=>⟨fun σ H Q=>(wp K Γ as E).a σ H fun xs H1=>xs.length<=sizeLine/\∀p,H1 p=none->Q (.ref p) (JA H1 p (.lst xs)),never.t,never.a⟩
 | .tup as,E=>⟨fun σ H Q=>(wp K Γ as E).a σ H fun xs H1=>xs.length<=sizeLine/\∀p,H1 p=none->Q (.ref p) (JA H1 p (.tup xs)),never.t,never.a⟩
 | .comp mask tgs tg ik its cond elt,E=>⟨fun σ H Q=>(wp K Γ its E).a σ H fun vs H1=>itemsR K ik vs H1 fun xs st H2 =>
   CompB K xs st tg (if isNop cond=true then fun _ H Q=>Q true H else(wp K Γ cond (fun _ _ _=>False)).t) (wp K Γ elt (fun _ _ _=>False)).e (entS tgs.length mask σ) H2 Q,never.t,never.a⟩
 | .dnew b,E=>⟨fun _ H Q=>∀p,H p=none->Q (.ref p) (JA H p (.dT 0 [])),never.t,never.a⟩
 | .dsp a b,E=>⟨fun σ H Q=>∀p,H p=none->(wp K Γ a E).e σ (JA H p (.dT 0 [])) fun y H1=>(wp K Γ b E).e σ H1 fun v H2=>H2 p=some (.dT 0 [])/\∃b ks,y=.ref b/\SqT K H2 b (ks.map kV)/\∀ep,Q (.ref p) (JA H2 p (.dT ep [(ks,b,v)])),never.t,never.a⟩
 | .lset a,E=>⟨fun σ H Q=>(wp K Γ a E).e σ H fun x H1=>rLset K x H1 Q,never.t,never.a⟩
 | .hx a,E=>⟨(wp K Γ a E).e,(wp K Γ a E).t,never.a⟩
 | .nj,E=>⟨never.e,never.t,fun _ H Q=>Q [] H⟩
 | .nh a as,E=>⟨never.e,never.t,fun σ H Q=>(wp K Γ a E).e σ H fun x H1=>(wp K Γ as E).a σ H1 fun xs H2=>Q (x::xs) H2⟩
structure Glob where
 ev:Ev
 fn:Str->Prop
 val:Str->Prop
 no:Str->Prop
def Bi.nm:Bi->Str
 | .len=>"len"
 | .any=>"any"
 | .all=>"all"
 | .list=>"list"
 | .sorted=>"sorted"
def Mt.nm:Mt->Str
 | .append=>"append"
 | .pop=>"pop"
 | .join=>"join"
 | .setd=>"setdefault"
def ikN(G:Glob):ItK->Prop
 | .val=>True
 | .rng1=>G.no "range"
 | .enum=>G.no "enumerate"
 | .itm=>True
def XA(G:Glob):PX->Prop
 | .glo x=>G.val x
 | .bty x n=>G.no x/\bootBuiltins x=some (.type n)
 | .bin _ a b | .cmp _ a b | .and a b | .or a b | .idx a b | .nh a b | .dsp a b=>XA G a/\XA G b
 | .not a | .neg a | .lst a | .tup a=>XA G a
 | .slc a b c=>XA G a/\XA G b/\XA G c
 | .lset a=>G.no "len"/\G.no "set"/\XA G a
 | .hx a=>XA G a
 | .call f as=>G.fn f/\XA G as
 | .bi f as=>G.no f.nm/\XA G as
 | .isi a c=>G.no "isinstance"/\XA G a/\XA G c
 | .mt _ o as=>XA G o/\XA G as
 | .comp _ _ _ ik its cond elt=>ikN G ik/\XA G its/\XA G cond/\XA G elt
 |_=>True
structure SC where
 N:List Str
 sc:Scope
def notStar:Expr->Bool
 | .Starred _ _=>false
 |_=>true
def visB(S:SC)(i:Nat)(x:Str):Bool :=
 S.N[i]?==some x&&(S.sc.names.lookup x==some .local||S.sc.names.lookup x==some .cell||S.sc.names.lookup x==some .free)&&x != "__debug__" && x != "__classdict__"
def locB(S:SC)(i:Nat)(x:Str):Bool:=S.N[i]?==some x&&S.sc.names.lookup x==some .local
def gloB(S:SC)(x:Str):Bool:=S.sc.names.lookup x==some .globalImplicit&&x != "__debug__" && x != "__name__"
def compS(S:SC)(scope:Scope)(tgs:List Str)(mask:List Bool):SC:=⟨tgs++hideN mask 0 S.N,relabelS scope S.sc⟩
def nodupB:List Str->Bool
 |[]=>true
 |x::r=>!r.contains x&&nodupB r
def compB(S:SC)(scope:Scope)(tgs:List Str)(mask:List Bool):Bool :=
 scope.kind==.function&&scope.names.all (fun y=>y.2 != .cell&&(y.2 != .local||(scope.names.lookup y.1==some .local&&(tgs.contains y.1||y.1==(".0":Str)))) &&
  (y.2 != .free||S.sc.names.lookup y.1==some .cell||S.sc.names.lookup y.1==some .free))&&nodupB (tgs++hideN mask 0 S.N)&&!(tgs++hideN mask 0 S.N).contains (".0":Str)
def lcB(c:Bool)(S:SC)(i:Nat)(x:Str):Bool:=S.N[i]?==some x&&(S.sc.names.lookup x==some .local||(c&&S.sc.names.lookup x==some .cell))
def tgB(c:Bool)(S:SC):Tg->Expr->Bool
 | .nm i,.Name x _=>lcB c S i x
 | .tp is,.Tuple es _ _=>is.length==es.length&&(is.zip es).all fun p=>match p.2 with
  | .Name x _=>lcB c S p.1 x
  |_=>false
 |_,_=>false
def noSuper:Expr->Bool
 | .Call (.Name _ _) [] [] _=>false
 |_=>true
def noSet:Expr->Bool
 | .Set _ _ _=>false
 |_=>true
def noSlice:Expr->Bool
 | .Slice _ _ _ _=>false
 |_=>true
def isArgs:PX->Bool
 | .nj=>true
 | .nh _ r=>isArgs r
 |_=>false
def isTupE:Expr->Bool
 | .Tuple _ _ _=>true
 |_=>false
section
variable{α:Type}
section
variable{e:Expr}{l:List α}
def onName(e:Expr)(f:Str->Pos->Bool):Bool:=match e with | .Name x p=>f x p|_=>false
def onConst(e:Expr)(f:Const->Bool):Bool:=match e with | .Constant c _ _=>f c|_=>false
def onBin(e:Expr)(f:Expr->Operator->Expr->Pos->Bool):Bool:=match e with | .BinOp l o r p=>f l o r p|_=>false
def onUn(e:Expr)(f:UnaryOp->Expr->Bool):Bool:=match e with | .UnaryOp o x _=>f o x|_=>false
def onCmp(e:Expr)(f:Expr->List CmpOp->List Expr->Bool):Bool:=match e with | .Compare l os rs _=>f l os rs|_=>false
def onBool(e:Expr)(f:BoolOp->List Expr->Pos->Bool):Bool:=match e with | .BoolOp o es p=>f o es p|_=>false
def onCall(e:Expr)(f:Expr->List Expr->List Keyword->Pos->Bool):Bool:=match e with | .Call g es ks p=>f g es ks p|_=>false
def onAttr(e:Expr)(f:Expr->Str->Pos->Bool):Bool:=match e with | .Attribute v n p=>f v n p|_=>false
def onSub(e:Expr)(f:Expr->Expr->Pos->Bool):Bool:=match e with | .Subscript v i p=>f v i p|_=>false
def onSlice(e:Expr)(f:Option Expr->Option Expr->Option Expr->Bool):Bool:=match e with | .Slice l h s _=>f l h s|_=>false
def onList(e:Expr)(f:List Expr->Pos->Bool):Bool:=match e with | .List es p=>f es p|_=>false
def onTup(e:Expr)(f:List Expr->Nat->Pos->Bool):Bool:=match e with | .Tuple es k p=>f es k p|_=>false
def onLC(e:Expr)(f:Expr->List Comprehension->Scope->Pos->Bool):Bool:=match e with | .ListComp x gs sc p=>f x gs sc p|_=>false
def onDict(e:Expr)(f:List (Option Expr)->List Expr->Bool):Bool:=match e with | .Dict ks vs _=>f ks vs|_=>false
def on1(l:List α)(f:α->Bool):Bool:=match l with | [x]=>f x|_=>false
def on2(l:List α)(f:α->α->Bool):Bool:=match l with | [x,y]=>f x y|_=>false
def onC(l:List α)(f:α->List α->Bool):Bool:=match l with|x::r=>f x r|_=>false
def onO(o:Option α)(n:Bool)(f:α->Bool):Bool:=match o with|none=>n|some x=>f x
theorem onName_i{f:Str->Pos->Bool}(h:onName e f=true):∃x p,e=.Name x p/\f x p=true:=by
 cases e with
 |Name x p=>exact⟨x,p,rfl,h⟩
 |_=>exact(QD h).elim
theorem onConst_i{f:Const->Bool}(h:onConst e f=true):∃c k p,e=.Constant c k p/\f c=true:=by
 cases e with
 |Constant c k p=>exact⟨c,k,p,rfl,h⟩
 |_=>exact(QD h).elim
theorem onBin_i{f:Expr->Operator->Expr->Pos->Bool}(h:onBin e f=true):∃l o r p,e=.BinOp l o r p/\f l o r p=true:=by
 cases e with
 |BinOp l o r p=>exact⟨l,o,r,p,rfl,h⟩
 |_=>exact(QD h).elim
theorem onUn_i{f:UnaryOp->Expr->Bool}(h:onUn e f=true):∃o x p,e=.UnaryOp o x p/\f o x=true:=by
 cases e with
 |UnaryOp o x p=>exact⟨o,x,p,rfl,h⟩
 |_=>exact(QD h).elim
theorem onCmp_i{f:Expr->List CmpOp->List Expr->Bool}(h:onCmp e f=true):∃l os rs p,e=.Compare l os rs p/\f l os rs=true:=by
 cases e with
 |Compare l os rs p=>exact⟨l,os,rs,p,rfl,h⟩
 |_=>exact(QD h).elim
theorem onBool_i{f:BoolOp->List Expr->Pos->Bool}(h:onBool e f=true):∃o es p,e=.BoolOp o es p/\f o es p=true:=by
 cases e with
 |BoolOp o es p=>exact⟨o,es,p,rfl,h⟩
 |_=>exact(QD h).elim
theorem onCall_i{f:Expr->List Expr->List Keyword->Pos->Bool}(h:onCall e f=true):∃g es ks p,e=.Call g es ks p/\f g es ks p=true:=by
 cases e with
 |Call g es ks p=>exact⟨g,es,ks,p,rfl,h⟩
 |_=>exact(QD h).elim
theorem onAttr_i{f:Expr->Str->Pos->Bool}(h:onAttr e f=true):∃v n p,e=.Attribute v n p/\f v n p=true:=by
 cases e with
 |Attribute v n p=>exact⟨v,n,p,rfl,h⟩
 |_=>exact(QD h).elim
theorem onSub_i{f:Expr->Expr->Pos->Bool}(h:onSub e f=true):∃v i p,e=.Subscript v i p/\f v i p=true:=by
 cases e with
 |Subscript v i p=>exact⟨v,i,p,rfl,h⟩
 |_=>exact(QD h).elim
theorem onSlice_i{f:Option Expr->Option Expr->Option Expr->Bool}(h:onSlice e f=true):∃l u s p,e=.Slice l u s p/\f l u s=true:=by
 cases e with
 |Slice l u s p=>exact⟨l,u,s,p,rfl,h⟩
 |_=>exact(QD h).elim
theorem onList_i{f:List Expr->Pos->Bool}(h:onList e f=true):∃es p,e=.List es p/\f es p=true:=by
 cases e with
 |List es p=>exact⟨es,p,rfl,h⟩
 |_=>exact(QD h).elim
theorem onTup_i{f:List Expr->Nat->Pos->Bool}(h:onTup e f=true):∃es k p,e=.Tuple es k p/\f es k p=true:=by
 cases e with
 |Tuple es k p=>exact⟨es,k,p,rfl,h⟩
 |_=>exact(QD h).elim
theorem onLC_i{f:Expr->List Comprehension->Scope->Pos->Bool}(h:onLC e f=true):∃x gs sc p,e=.ListComp x gs sc p/\f x gs sc p=true:=by
 cases e with
 |ListComp x gs sc p=>exact⟨x,gs,sc,p,rfl,h⟩
 |_=>exact(QD h).elim
theorem onDict_i{f:List (Option Expr)->List Expr->Bool}(h:onDict e f=true):∃ks vs p,e=.Dict ks vs p/\f ks vs=true:=by
 cases e with
 |Dict ks vs p=>exact⟨ks,vs,p,rfl,h⟩
 |_=>exact(QD h).elim
theorem onC_i{f:α->List α->Bool}(h:onC l f=true):∃x r,l=x::r/\f x r=true:=by
 cases l with
 |nil=>exact(QD h).elim
 |cons x r=>exact⟨x,r,rfl,h⟩
theorem on1_i{f:α->Bool}(h:on1 l f=true):∃x,l=[x]/\f x=true:=by
 cases l with
 |nil=>exact(QD h).elim
 |cons x r =>
  cases r with
  |nil=>exact⟨x,rfl,h⟩
  |cons _ _=>exact(QD h).elim
theorem on2_i{f:α->α->Bool}(h:on2 l f=true):∃x y,l=[x,y]/\f x y=true:=by
 cases l with
 |nil=>exact(QD h).elim
 |cons x r =>
  obtain⟨y,e,h⟩:=on1_i (l:=r) (f:=f x) (by
   cases r with
   |nil=>exact h
   |cons y r=>cases r<;>exact h)
  exact⟨x,y,by rw[e],h⟩
end
end
section
variable{c:Const}{n:Str}{e:Expr}
def cInt(c:Const)(f:Int->Bool):Bool:=match c with | .int i=>f i|_=>false
def cStr(c:Const)(f:Str->Bool):Bool:=match c with | .str i=>f i|_=>false
def cBool(c:Const)(f:Bool->Bool):Bool:=match c with | .bool i=>f i|_=>false
def cNone(c:Const):Bool:=match c with | .none=>true|_=>false
theorem cInt_i{f:Int->Bool}(h:cInt c f=true):∃i,c=.int i/\f i=true:=by
 cases c with
 |int i=>exact⟨i,rfl,h⟩
 |_=>exact(QD h).elim
theorem cStr_i{f:Str->Bool}(h:cStr c f=true):∃i,c=.str i/\f i=true:=by
 cases c with
 |str i=>exact⟨i,rfl,h⟩
 |_=>exact(QD h).elim
theorem cBool_i{f:Bool->Bool}(h:cBool c f=true):∃i,c=.bool i/\f i=true:=by
 cases c with
 |bool i=>exact⟨i,rfl,h⟩
 |_=>exact(QD h).elim
theorem cNone_i(h:cNone c=true):c=.none:=by
 cases c with
 |none=>rfl
 |_=>exact(QD h).elim
theorem yA{a b:Bool}(h:(a&&b)=true):a=true/\b=true:=by cases a<;>cases b<;>first|exact⟨rfl,rfl⟩| exact(QD h).elim
def callC(S:SC)(n:Str)(e:Expr)(f:List Expr->List Keyword->Pos->Bool):Bool:=onCall e fun g es ks p=>onName g fun x _=>n==x&&(gloB S x&&f es ks p)
theorem callC_i{S:SC}{f:List Expr->List Keyword->Pos->Bool}(h:callC S n e f=true):∃px es ks p,e=.Call (.Name n px) es ks p/\gloB S n=true/\f es ks p=true:=by obtain⟨g,es,ks,p,rfl,q1⟩:=onCall_i h;obtain⟨x,px,rfl,q2⟩:=onName_i q1;have q3:=yA q2;have q4:=yA q3.2;have e:=qV q3.1;exact⟨px,es,ks,p,by rw[e],by rw[e];exact q4.1,q4.2⟩
def methC(n:Str)(e:Expr)(f:Expr->List Expr->Pos->Pos->Bool):Bool:=onCall e fun g es ks p=>onAttr g fun v x ap=>n==x&&(ks.isEmpty&&(ap.endLine==p.line&&f v es ap p))
theorem methC_i{f:Expr->List Expr->Pos->Pos->Bool}(h:methC n e f=true):∃v ap es p,e=.Call (.Attribute v n ap) es [] p/\(ap.endLine==p.line)=true/\f v es ap p=true:=by obtain⟨g,es,ks,p,rfl,q1⟩:=onCall_i h;obtain⟨v,x,ap,rfl,q2⟩:=onAttr_i q1;have q3:=yA q2;have q4:=yA q3.2;have q5:=yA q4.2;have e:=qV q3.1;have e2:=Qr.mp q4.1;exact⟨v,ap,es,p,by rw[e,e2],q5.1,q5.2⟩
def moreE(op:BoolOp)(r:Expr)(rest:List Expr)(pos:Pos):Expr:=match rest with
 |[]=>r
 |q::t=>.BoolOp op (r::q::t) pos
def itC(ia:Bool)(S:SC)(ik:ItK)(c:List Expr->Pos->Bool)(t it:Expr)(pos:Pos):Bool:=match ik with
 | .val=>ia&&c [it] pos
 | .rng1=>callC S "range" it fun es ks p=>ks.isEmpty&&on1 es fun a=>c [a] p
 | .enum=>isTupE t&&callC S "enumerate" it fun es ks p=>ks.isEmpty&&on1 es fun a=>c [a] p
 | .itm=>isTupE t&&(ia&&methC "items" it fun v es _ p=>noSuper v&&(es.isEmpty&&c [v] p))
def ifsC(ifs:List Expr)(n:Bool)(f:Expr->Bool):Bool:=match ifs with
 |[]=>n
 |c::r=>r.isEmpty&&(!n&&f c)
def nestC(S:SC)(f g:Str)(e:Expr)(c:Expr->Bool):Bool:=callC S f e fun es ks _=>ks.isEmpty&&on1 es fun x=>callC S g x fun es ks _=>ks.isEmpty&&on1 es fun y=>notStar y&&c y
theorem nestC_i{S:SC}{f g:Str}{c:Expr->Bool}(h:nestC S f g e c=true):∃p1 p2 pos pos2 y,e=.Call (.Name f p1) [.Call (.Name g p2) [y] [] pos2] [] pos/\gloB S f=true/\gloB S g=true/\notStar y=true/\c y=true:=by obtain⟨p1,es,ks,pos,rfl,hg,h⟩:=callC_i h;have h1:=yA h;cases Qr.mp h1.1;obtain⟨x,rfl,h3⟩:=on1_i h1.2;obtain⟨p2,es,ks,pos2,rfl,hg',h4⟩:=callC_i h3;have h2:=yA h4;cases Qr.mp h2.1;obtain⟨y,rfl,h5⟩:=on1_i h2.2;have h6:=yA h5;exact⟨p1,p2,pos,pos2,y,rfl,hg,hg',h6.1,h6.2⟩
def isItm:ItK->Bool
 | .itm=>true
 |_=>false
def chk:PX->SC->Expr->Bool
 | .var i,S,e=>onName e fun x _=>visB S i x
 | .int i,_,e=>onConst e fun c=>cInt c fun j=>i==j
 | .str x,_,e=>onConst e fun c=>cStr c fun y=>x==y
 | .bl b,_,e=>onConst e fun c=>cBool c fun k=>b==k
 | .non,_,e=>onConst e cNone
 | .glo x,S,e=>onName e fun y _=>x==y&&gloB S x
 | .bty x _,S,e=>onName e fun y _=>x==y&&gloB S x
 | .bin op a b,S,e=>onBin e fun l o r _=>op==o&&(chk a S l&&chk b S r)
 | .cmp op a b,S,e=>onCmp e fun l os rs=>on1 os fun o=>on1 rs fun r=>op==o&&(noSet r&&(chk a S l&&chk b S r))
 | .neg a,S,e=>onUn e fun o x=>o==.USub&&chk a S x
 | .and a b,S,e=>onBool e fun o es p=>o==.And&&onC es fun l t=>onC t fun r t=>chk a S l&&chk b S (moreE .And r t p)
 | .or a b,S,e=>onBool e fun o es p=>o==.Or&&onC es fun l t=>onC t fun r t=>chk a S l&&chk b S (moreE .Or r t p)
 | .not a,S,e=>onUn e fun o x=>o==.Not&&chk a S x
 | .call f as,S,e=>callC S f e fun es ks p=>ks.isEmpty&&chk as S (.List es p)
 | .bi f as,S,e=>callC S f.nm e fun es ks p=>ks.isEmpty&&onC es fun x t=>chk as S (.List (x::t) p)
 | .isi a c,S,e=>callC S "isinstance" e fun es ks _=>ks.isEmpty&&on2 es fun l r=>notStar l&&(notStar r&&(chk a S l&&chk c S r))
 | .mt m o as,S,e=>methC m.nm e fun v es _ p=>isArgs as&&(noSuper v&&(decide (es.length<20)&&(chk o S v&&chk as S (.List es p))))
 | .idx a b,S,e=>onSub e fun v i _=>noSlice i&&(chk a S v&&chk b S i)
 | .slc a lo hi,S,e=>onSub e fun v sl _=>onSlice sl fun l h s=>s.isNone&&(chk a S v&&(onO l (isNop lo) (fun e=>!isNop lo&&chk lo S e)&&onO h (isNop hi) fun e=>!isNop hi&&chk hi S e))
 | .nop,_,_=>false
 | .lst as,S,e=>onList e fun es p=>chk as S (.List es p)
 | .tup as,S,e=>onTup e fun es _ p=>chk as S (.List es p)
 | .comp mask tgs tg ik its cond elt,S,e=>onLC e fun el gs scope p=>on1 gs fun g=>g.is_async==0&&(!isItm ik&&(compB S scope tgs mask&&(tgB false (compS S scope tgs mask) tg g.target&&(noSet g.iter &&
   (itC (isArgs its) S ik (fun es p=>chk its S (.List es p)) g.target g.iter p&&(ifsC g.ifs (isNop cond) (fun c=>chk cond (compS S scope tgs mask) c)&&chk elt (compS S scope tgs mask) el))))))
 | .dnew _,_,e=>onDict e fun ks vs=>ks.isEmpty&&vs.isEmpty
 | .dsp a b,S,e=>onDict e fun ks vs=>on1 ks fun k=>on1 vs fun v=>onO k false (chk a S)&&chk b S v
 | .lset a,S,e=>nestC S "len" "set" e (chk a S)
 | .hx a,S,e=>chk a S e
 | .nj,_,e=>onList e fun es _=>es.isEmpty
 | .nh a as,S,e=>onList e fun es p=>onC es fun x t=>notStar x&&(chk a S x&&chk as S (.List t p))
end
variable{Γ:Ev}
theorem asB_eq(x:V)(H:Hp)(Q:Bool->Hp->Prop):asB x H Q=∃k,x=.bl k/\Q k H:=by
 apply propext;cases x with
 |bl b=>exact⟨fun h=>⟨b,rfl,h⟩,fun⟨k,e,h⟩=>by cases e;exact h⟩
 |_=>exact⟨fun h=>QW h,fun⟨k,e,h⟩=>by cases e⟩
theorem partQ_eq(x:V)(H:Hp)(Q:Option Int->Hp->Prop):partQ x H Q=∃i,x=.int i/\Q (some i) H:=by
 apply propext;cases x with
 |int b=>exact⟨fun h=>⟨b,rfl,h⟩,fun⟨k,e,h⟩=>by cases e;exact h⟩
 |_=>exact⟨fun h=>QW h,fun⟨k,e,h⟩=>by cases e⟩
theorem truQ_eq(K:QA)(x:V)(H:Hp)(Q:Bool->Hp->Prop):truQ K x H Q=∃k,TruV K x H k/\Q k H:=by
 apply propext;cases x with
 |bl b=>exact⟨fun h=>⟨b,rfl,h⟩,fun⟨k,(e:k=b),h⟩=>by subst e;exact h⟩
 |int i=>exact⟨fun h=>⟨i != 0,rfl,h⟩,fun⟨k,(e:k=(i != 0)),h⟩=>by subst e;exact h⟩
 |non=>exact⟨fun h=>⟨false,rfl,h⟩,fun⟨k,(e:k=false),h⟩=>by subst e;exact h⟩
 |str z=>exact⟨fun h=>⟨_,⟨h.1,rfl⟩,h.2⟩,fun⟨k,⟨e1,e2⟩,h⟩=>by subst e2;exact⟨e1,h⟩⟩
 |_=>exact wf
section
variable{X:Cx}
section
variable{e b:Expr}{es:List Expr}{env:Env}{its:List Value}
theorem pe_never:PE X e never.e:=fun _ _ _ _ _ _ h=>QW h
theorem pt_never:PT X e never.t:=fun _ _ _ _ _ _ h=>QW h
theorem pa_never:PA X es never.a:=fun _ _ _ _ _ _ _ h=>QW h
theorem pt_tru{a:Expr}{ta:TE}(ha:PE X a ta)(he:∀whole,isTrue a X.env whole=(do let v <- whole;standAt a.pos;holding [v] (truthy v))) :
  PT X a (fun σ H Q=>ta σ H fun x H'=>truQ X.K x H' Q):=by
 intro pins s σ H Q I h;refine isTrue_plain (thn (ha pins s σ H _ I h) fun v s1 ⟨x,H1,I1,r1,q1⟩=>?_) (he _);have q1:truQ X.K x H1 Q:=q1;rw[truQ_eq]at q1;exact tru_ok pins s1 σ H1 x v Q I1 r1 q1
theorem op_never{f:Value->Value->Sem Value}:OpR X f (fun _ _ _ _=>False):=fun _ _ _ _ _ _ _ _ _ _ _ _ h=>h.elim
theorem op_bin(op:Operator):OpR X (binaryOp op) (binR X.K op):=by
 cases op with
 |Add=>exact op_add
 |Sub=>exact op_sub
 |Mult=>exact op_mul
 |FloorDiv=>exact op_fdiv
 |Mod=>exact op_mod
 |_=>exact op_never
theorem is_bools{pins:LAO}{s:Shared}{σ:St}{H:Hp}{b c:Bool}{Q:VK}(I:Inv X pins σ H s)(q:Q (.bl (decide (b=c))) H):wpAny (model X.prog X.w) X.A (compareOp .Is (.bool b) (.bool c)) (EP X pins σ Q) X.xe s:=by
 have e:compareOp .Is (.bool b) (.bool c)=pure (.bool (decide (b=c))):=by cases b<;>cases c<;>rfl
 rw[e];exact QI ⟨.bl _,H,I,rfl,q⟩
theorem op_cmp(hu:X.A.units+66<cLine)(op:CmpOp):OpR X (compareOp op) (cmpR X.K op):=by
 cases op with
 |Eq=>exact op_eq (by omega)
 |NotEq=>exact op_ne (by omega)
 |Lt=>exact op_ord _root_.L2.op_lt
 |LtE=>exact op_ord _root_.L2.op_le
 |Gt=>exact op_ord _root_.L2.op_gt
 |GtE=>exact op_ord _root_.L2.op_ge
 |In=>exact op_in hu
 |NotIn=>exact op_notin hu
 |Is=>intro pins s σ H x y v u Q I rx ry h;obtain⟨b,c,rfl,rfl,q⟩:=h;cases rx;cases ry;exact is_bools I q
 |IsNot=>exact fun _ _ _ _ _ _ _ _ _ _ _ _ h=>h.elim
theorem ix_any(hu:X.A.units+66<cLine):IxR X (rIxU X.K):=by
 intro value slice pins s σ H x y v u Q I rx ry h hs;have sq:=fun h=>ix_seq (X:=X) value slice pins s σ H x y v u Q I rx ry h hs;have dc:=fun h=>ix_dict hu value slice pins s σ H x y v u Q I rx ry h hs;cases x with
 |str z =>
  cases y with
  |int i=>obtain⟨h1,c,h2,q⟩:=h;exact sq (.inr (.inr ⟨z,i,c,rfl,rfl,h1,h2,q⟩))
  |_=>exact QW h
 |ref a =>
  cases y with
  |int i=>obtain⟨xs,w',hq,h2,q⟩:=h;rcases hq with hq|hq;exact sq (.inl ⟨a,xs,i,w',rfl,rfl,hq,h2,q⟩);exact sq (.inr (.inl ⟨a,xs,i,w',rfl,rfl,hq,h2,q⟩))
  |str z=>obtain⟨w',g,q⟩:=h;exact dc ⟨a,w',rfl,g,q⟩
  |ref b=>obtain⟨w',g,q⟩:=h;exact dc ⟨a,w',rfl,g,q⟩
  |_=>exact QW h
 |_=>exact QW h
theorem noMark{op:CmpOp}(h:noSet b=true):behindInMarks op b=false:=by cases b<;>first|rfl|cases h
theorem plainIx(h:noSlice b=true):PlainIx b:=by intro o i;cases b<;>first|rfl|cases h
theorem FA(env:Env)(h:notStar e=true):starEach (e::es) env=(false,eval e env)::starEach es env:=by cases e<;>first|rfl|cases h
theorem noFold(h:noSet e=true)(x:Value):foldedSetIterable e env x=pure x:=by cases e<;>first|rfl|cases h
theorem noSup{o:Expr}{n:Str}(h:noSuper o=true):attributeBase o n env (eval o env)=eval o env:=by unfold attributeBase;split;cases h;rfl
theorem mt_popU:MtR X "list.pop" rPopU:=by intro pins s σ H x xs v us Q I rx rs h;obtain⟨l,i,xs,k,y,rfl,rfl,hH,hk,hy,q⟩:=h;obtain⟨e1,e2,e3,e4⟩:=ixN_seq hk;have hl:xs.length<=sizeLine:=(show UA X.prog X.w H s.heap l (.lst xs) from I.hok l _ hH).1;rw[QZ]at hl;exact mt_popAt pins s σ H _ _ v us Q I rx rs ⟨l,xs,i,k,y,rfl,rfl,hH,by omega,by omega,e1,hy,q⟩
theorem strs_are{ys:List Str}(h:bA (ys.map V.str) its):StrsAre its ys:=by
 induction ys generalizing its with
 |nil=>cases h;exact .nil
 |cons y ys ih =>
  cases h with
  |cons h t=>obtain⟨k,rfl⟩:=h;exact .cons _ _ (ih t)
theorem mt_join:MtR X "str.join" (rJoin X.K):=by intro pins s σ H x xs v us Q I rx rs h;obtain⟨z,b,ys,rfl,rfl,hq,hz,q⟩:=h;obtain⟨t,rfl⟩:=rx;obtain⟨u,rfl,ru⟩:=vals1 rs;cases ru;obtain⟨its,rv,p,_⟩:=I.list hq;exact join_list p.isList (by simpa using strs_are rv) hz fun t' k=>⟨.str _,H,I.tok _,⟨_,rfl⟩,q⟩
theorem vals_back{ss:List Str}(h:StrsAre its ss):bA (ss.map V.str) its:=by
 induction h with
 |nil=>exact .nil
 |cons y t _ ih=>exact .cons ⟨t,rfl⟩ ih
theorem lis_of{h:Heap}:∀{zs:List (List Str×V)}{its:List Value},bA (zs.map we) its->(∀z∈zs,∀u,lA z.2 u->LisAt h u z.1)->Paired (LisAt h) its (zs.map qL)
 |[],_,.nil,_=>.nil
 |z::_,_,.cons r t,k=>.cons (k z QF _ r) (lis_of t fun y hy=>k y (QE _ hy))
theorem paired_map{ι α β:Type}{R:α->β->Prop}{f:ι->α}{g:ι->β}:∀{l:List ι},(∀i∈l,R (f i) (g i))->Paired R (l.map f) (l.map g)
 |[],_=>.nil
 |i::_,h=>.cons (h i QF) (paired_map fun j hj=>h j (QE _ hj))
theorem getD_map'{α β:Type}(f:α->β)(l:List α)(i:Nat)(d:α):(l.map f).getD i (f d)=f (l.getD i d):=by rw[Ws,Ws,QY];cases l[i]?<;>rfl
theorem call_sorted(hu:X.A.units+66<cLine):CallR X (.builtin "sorted") (rSorted X.K):=by
 intro pins s σ H xs us Q I r h;obtain⟨p,rfl,h⟩:=h;rcases h with⟨ss,hq,h64,q⟩| ⟨zs,hq,h64,hx,q⟩
 skip;obtain⟨u,rfl,rx⟩:=vals1 r;cases rx;obtain⟨its,rv,pl,hz⟩:=I.list hq;have hl:=rv.length;rw[QG]at hl;refine sorted_strs pl.isList (by simpa using strs_are rv) (by omega) fun out ss' a1 a2 a3=>?_;obtain⟨e,he⟩:=sortedAll_at s.heap its out;have hlen:=(strs_at a1).1;have hp:=a2.length_eq;refine⟨.ref (s.heap.objs.size+1),_,I.laid (t':=s.toks) (fun b o z=>sortedAll_old z) (wo _) (show UA X.prog X.w _ _ _ (.lst (ss'.map V.str)) from⟨by rw[QG,QZ];omega,out.toList,e,vals_back a1,by simpa using he⟩),rfl,q _ ss' (I.hok.fresh (wo _)) a2 a3⟩;obtain⟨u,rfl,rx⟩:=vals1 r;cases rx;obtain⟨its,rv,pl,hz⟩:=I.list hq;have hl:=rv.length;rw[QG]at hl;refine sortedLs (show X.A.units+1+1<cLine by omega) pl.isList (by omega) (lis_of rv fun z hz u ru=>?_) fun p hp hu=>?_;obtain⟨a,e,sq⟩:=hx z hz;rw[e]at ru;cases ru;obtain⟨its2,rv2,⟨o,n,e,c,d,z⟩,_⟩:=I.list sq;obtain⟨oc,od,odt,osl⟩:=o;cases c;exact⟨a,od,osl,n,its2.toArray,rfl,by rw[e,show odt=Data.seq its2.toArray n from z],by simpa using strs_are rv2⟩;have hs:p.size=its.length:=by have:=hp.size_eq;simpa using this
 have mem:∀i∈p.toList,i<its.length:=fun i hi=>by simpa using(wG.mp hp).mem_iff.mp hi
 obtain⟨e,he⟩:=sortedAll_at s.heap its (p.toList.map fun i=>its.getD i Value.none).toArray;have pz:(p.toList.map fun i=>zs.getD i (([]:List Str),V.non)).Perm zs:=by refine((wG.mp hp).map _).trans ?_;show((Qz its.length).map _).Perm zs;rw[<- hl,range_get]
 have vz:bA ((p.toList.map fun i=>zs.getD i (([]:List Str),V.non)).map we) (p.toList.map fun i=>its.getD i Value.none):=by rw[Qp];refine paired_map fun i hi=>?_;have:=paired_at (d:=V.non) (e:=Value.none) rv i (by rw[QG];have:=mem i hi;omega);rw[show V.non=((([]:List Str),V.non):List Str×V).2 from rfl,getD_map' we]at this;exact this
 have sz:=up_pw hs hu;have se:((p.toList.map fun i=>zs.getD i (([]:List Str),V.non)).map qL)=p.toList.map fun i=>(zs.map qL).getD i []:=by rw[Qp];exact wc fun i _=>(getD_map' qL zs i (([]:List Str),V.non)).symm
 rw[<- se]at sz;exact⟨.ref (s.heap.objs.size+1),_,I.laid (t':=s.toks) (fun b o z=>sortedAll_old z) (wo _) (show UA X.prog X.w _ _ _ (.lst ((p.toList.map fun i=>zs.getD i (([]:List Str),V.non)).map we)) from⟨by rw[QZ,QG,QG,Qa];omega,_,e,vz,he⟩),rfl,q _ _ (I.hok.fresh (wo _)) pz sz⟩
theorem bi_ok(hu:X.A.units+66<cLine)(hc:X.calm=true)(f:Bi):(∃id,bootBuiltins f.nm=some (.builtin id)/\CallR X (.builtin id) (biR X.K f))∨∃T,bootBuiltins f.nm=some (.type T)/\CallR X (.type T) (biR X.K f):=by
 cases f with
 |len=>exact .inl ⟨_,PySem.boot_len,call_len⟩
 |any=>exact .inl ⟨_,PyProof.Rows.boot_any,call_any hc⟩
 |all=>exact .inl ⟨_,PyProof.Rows.boot_all,call_all hc⟩
 |list=>exact .inr ⟨_,PyProof.Rows.boot_list,call_list_of⟩
 |sorted=>exact .inl ⟨_,PyProof.Rows.boot_sorted,call_sorted hu⟩
end
end
end L2.L3
namespace L2.L3
open PySem PySem.Spec PyProof.Rows
section
variable{S:SC}{i:Nat}{x:Str}
structure OkX(X:Cx)(S:SC)(G:Glob)(E:XK):Prop where
 N:X.N=S.N
 sc:X.env.scope=S.sc
 calm:X.calm=true
 un:X.A.units+66<cLine
 fn:∀f,G.fn f->∃(CX:CXT) (k:Nat) (a:Addr) (fd:FuncData) (ps:List Str),FnOk X.prog X.w X.K X.mg X.base CX k a fd ps (G.ev.sp f)/\Room k X.A/\X.mg f=some (.ref a)/\wk X.K (.ref a)=true/\Binds X.K fd ps [] /\
  Passes CX X E/\∀l H s e s',CX l H s (fun _ _ _=>False) e s'->False
 val:∀x,G.val x->∃u,X.mg x=some u/\lA (G.ev.va x) u
 no:∀x,G.no x->X.mg x=none
def ArgsPE(X:Cx)(Γ:Ev)(E:XK):PX->List Expr->Prop
 | .nh a as,e::es=>PE X e (wp X.K Γ a E).e/\ArgsPE X Γ E as es
 |_,_=>True
structure Snd(X:Cx)(Γ:Ev)(E:XK)(p:PX)(e:Expr):Prop where
 pe:PE X e (wp X.K Γ p E).e
 pt:PT X e (wp X.K Γ p E).t
 pw:∀op es pos,e=.BoolOp op es pos->PW X e (wp X.K Γ p E).t
 pa:∀es pos,e=.List es pos->PA X es (wp X.K Γ p E).a
 pas:∀es pos,e=.List es pos->ArgsPE X Γ E p es
theorem visB_ok(h:visB S i x=true):S.N[i]?=some x/\Vis S.sc x/\(x==("__debug__":Str))=false/\(x==("__classdict__":Str))=false:=by simp only[visB,Qb,wF,beq_iff_eq,bne_iff_ne,ne_eq]at h;obtain⟨⟨⟨h1,h2⟩,h3⟩,h4⟩:=h;refine⟨h1,?_,by simpa using h3,by simpa using h4⟩;rcases h2 with(h2|h2)|h2;exact .inl h2;exact .inr (.inl h2);exact .inr (.inr h2)
theorem locB_ok(h:locB S i x=true):S.N[i]?=some x/\S.sc.names.lookup x=some .local:=by simp only[locB,Qb,beq_iff_eq]at h;exact h
theorem gloB_ok(h:gloB S x=true):S.sc.names.lookup x=some .globalImplicit/\(x==("__debug__":Str))=false/\x≠"__name__":=by simp only[gloB,Qb,beq_iff_eq,bne_iff_ne,ne_eq]at h;exact⟨h.1.1,by simpa using h.1.2,h.2⟩
theorem nodupB_ok:∀{l:List Str},nodupB l=true->l.Nodup
 |[],_=>Q0
 |x::r,h=>by simp only[nodupB,Qb,Q4]at h;exact Qe.mpr ⟨by simpa using h.1,nodupB_ok h.2⟩
theorem compB_ok{scope:Scope}{tgs:List Str}{mask:List Bool}(h:compB S scope tgs mask=true):CompSt S.N S.sc scope tgs mask:=by simp only[compB,Qb,qE,beq_iff_eq,Q4]at h;obtain⟨⟨⟨h1,h2⟩,h3⟩,h4⟩:=h;refine⟨h1,fun y hy e=>?_,fun y hy e=>?_,fun y hy e=>?_,fun y hy e=>?_,nodupB_ok h3,by simpa using h4⟩;have:=(h2 y hy).1.1;rw[e]at this;exact absurd this (by decide);have:=(h2 y hy).1.2;rw[e]at this;simp at this;exact this.1;have:=(h2 y hy).2;rw[e]at this;simp at this;exact this;have:=(h2 y hy).1.2;rw[e]at this;simp at this;exact this.2
theorem OkX.comp{X:Cx}{G:Glob}{E:XK}(ok:OkX X S G E)(scope:Scope)(tgs:List Str)(mask:List Bool)(s:Shared)(H:Hp)(ex:List Addr):OkX (BA X scope tgs mask s H ex) (compS S scope tgs mask) G (fun _ _ _=>False) where
 N:=by show tgs++hideN mask 0 X.N=tgs++hideN mask 0 S.N;rw[ok.N]
 sc:=by show relabelS scope X.env.scope=relabelS scope S.sc;rw[ok.sc]
 calm:=ok.calm
 un:=ok.un
 fn:=fun f h=>by obtain⟨CX,k,a,fd,ps,h1,h2,h3,h4,h5,h6,h7⟩:=ok.fn f h;exact⟨CX,k,a,fd,ps,h1,h2,h3,h4,h5,fun _ _ _ _ _ _ _ z=>(h7 _ _ _ _ _ z).elim,h7⟩
 val:=ok.val
 no:=ok.no
end
section
variable{X:Cx}
theorem lcB_ok{c:Bool}{S:SC}{i:Nat}{x:Str}(hN:X.N=S.N)(hsc:X.env.scope=S.sc)(cel:c=true->∀x,X.fn x=true)(h:lcB c S i x=true):X.N[i]?=some x/\Loc X.env.scope x/\(X.fn x=true∨X.env.scope.names.lookup x=some .local):=by
 simp only[lcB,Qb,wF,beq_iff_eq]at h;rw[hN,hsc];rcases h.2 with z|⟨z1,z2⟩
 exact⟨h.1,.inl z,.inr z⟩;exact⟨h.1,.inr z2,.inl (cel z1 x)⟩
theorem setAll_ok{c:Bool}{S:SC}(cel:c=true->∀x,X.fn x=true)(hN:X.N=S.N)(hsc:X.env.scope=S.sc)(nd:X.N.Nodup):∀(is:List Nat) (es:List Expr),is.length=es.length->((is.zip es).all fun p=>match p.2 with | .Name x _=>lcB c S p.1 x|_=>false)=true ->
  PGs X es (fun vs σ H Q=>∃σ',setAll is vs σ=some σ'/\Q σ' H)
 |[],[],_,_=>by
  intro pins s σ H vs us Q I r h;obtain⟨σ',e,q⟩:=h;cases vs with
  |nil=>cases r;simp only[setAll]at e;cases e;exact assignInOrder_nil ⟨σ,H,I,q⟩
  |cons _ _=>simp[setAll]at e
 |[],_::_,h,_=>by cases h
 |_::_,[],h,_=>by cases h
 |i::is,e::es,hl,hz=>by
  simp only[Wv,qd,Qb]at hz;obtain⟨h1,h2⟩:=hz;cases e with
  |Name x pos =>
   obtain⟨g1',g2',g3'⟩:=lcB_ok hN hsc cel h1;have ih:=setAll_ok cel hN hsc nd is es (by simpa using hl) h2;intro pins s σ H vs us Q I r h;obtain⟨σ',e,q⟩:=h;cases vs with
   |nil=>simp[setAll]at e
   |cons v vs =>
    simp only[setAll]at e;cases r with
    |cons r rr=>show wpAny _ _ (assignInOrder (assign (.Name x pos) X.env::(assignEach es X.env).map (·.2)) _) _ _ _;refine assignInOrder_cons (thn (pg_name (pos:=pos) nd g1' g2' g3' pins s σ H v _ _ I r (show gName i v σ H (fun σ1 H1=>σ1=σ.set i (some v)/\H1=H) from⟨rfl,rfl⟩)) fun _ s1 ⟨σ1,H1,I1,e1,e2⟩=>?_);subst e1 e2;exact ih pins s1 _ _ vs _ Q I1 rr ⟨σ',e,q⟩
  |_=>simp at h1
theorem len_each{c:Bool}:∀(is:List Nat) (es:List Expr) (S:SC),is.length=es.length->((is.zip es).all fun p=>match p.2 with | .Name x _=>lcB c S p.1 x|_=>false)=true->(assignEach es X.env).length=es.length/\(assignEach es X.env).findIdx? (·.1)=none
 |[],[],_,_,_=>⟨rfl,rfl⟩
 |[],_::_,_,h,_=>by cases h
 |_::_,[],_,h,_=>by cases h
 |i::is,e::es,S,hl,hz=>by
  simp only[Wv,qd,Qb]at hz;obtain⟨h1,h2⟩:=hz;cases e with
  |Name x pos=>have ih:=len_each is es S (by simpa using hl) h2;have e1:assignEach (.Name x pos::es) X.env=(false,assign (.Name x pos) X.env)::assignEach es X.env:=rfl;rw[e1];refine⟨by rw[QL,QL,ih.1],?_⟩;rw[List.findIdx?_cons];simp[ih.2]
  |_=>simp at h1
theorem setAll_len:∀{is:List Nat}{vs:List V}{σ σ':St},setAll is vs σ=some σ'->vs.length=is.length
 |[],[],_,_,_=>rfl
 |[],_::_,_,_,h=>by simp[setAll]at h
 |_::_,[],_,_,h=>by simp[setAll]at h
 |_::is,_::vs,σ,σ',h=>by simp only[setAll]at h;rw[QL,QL,setAll_len h]
theorem pg_tg{c:Bool}{S:SC}{G:Glob}{E:XK}(ok:OkX X S G E)(cel:c=true->∀x,X.fn x=true)(nd:X.N.Nodup){tg:Tg}{e:Expr}(h:tgB c S tg e=true):PG X e (bindT X.K tg):=by
 cases tg with
 |nm i =>
  cases e with
  |Name x pos=>obtain⟨g1',g2',g3'⟩:=lcB_ok ok.N ok.sc cel h;exact pg_name nd g1' g2' g3'
  |_=>cases h
 |tp is =>
  cases e with
  |Tuple es k pos =>
   obtain⟨h0,h2⟩:=yA h;have h1:=qV h0;obtain⟨l1,l2⟩:=len_each (X:=X) is es S h1 h2;have base:=pg_tup (pos:=pos) (k:=k) (n:=es.length) ok.calm (setAll_ok cel ok.N ok.sc nd is es h1 h2) l1 l2;intro pins s σ H v u Q I r hw;refine base pins s σ H v u Q I r ?_;cases v with
   |ref p=>obtain⟨xs,σ',hq,e,q⟩:=hw;exact⟨p,xs,rfl,hq,by rw[setAll_len e,h1],σ',e,q⟩
   |_=>exact QW hw
  |_=>cases h
end
variable{Γ:Ev}
theorem yl_list(K:QA)(a:Addr)(xs:List V):Yields (Itl K a) (xs.map .one) (fun H=>SqL K H a xs) :=
  { go:=fun i H h hi=>by
      have hi':i<xs.length:=by simpa using hi
      exact⟨xs,xs[i],h,by simp[hi']⟩
    yld:=fun i H x H' h _ ⟨e,y⟩=>⟨.one x,by rw[QY,y xs h];rfl,rfl,e⟩
    stop:=fun i H h hi=>⟨xs,h,by simpa using hi⟩ }
theorem yl_tup(K:QA)(a:Addr)(xs:List V):Yields (Itt K a) (xs.map .one) (fun H=>SqT K H a xs) :=
  { go:=fun i H h hi=>by
      have hi':i<xs.length:=by simpa using hi
      exact⟨xs,xs[i],h,by simp[hi']⟩
    yld:=fun i H x H' h _ ⟨e,y⟩=>⟨.one x,by rw[QY,y xs h];rfl,rfl,e⟩
    stop:=fun i H h hi=>⟨xs,h,by simpa using hi⟩ }
theorem yl_str(z:Str):Yields (Its z) (z.cps.toList.map fun c=>.one (.str ⟨#[c]⟩)) (fun _=>True) :=
  { go:=fun i H h hi=>by
      have hi':i<z.cps.size:=by simpa using hi
      exact hi'
    yld:=fun i H x H' h _ ⟨e,c,hc,ex⟩=>⟨.one x,by rw[QY,wr,hc,ex];rfl,rfl,e⟩
    stop:=fun i H h hi=>by
      have hi':z.cps.size<=i:=by simpa using hi
      exact hi' }
theorem yl_rng(lo:Int)(n:Nat):Yields (Itr lo n) ((Qz n).map fun(k:Nat)=>.one (.int (lo+(k:Int)))) (fun _=>True) :=
  { go:=fun i H h hi=>by
      have hi':i<n:=by simpa using hi
      exact hi'
    yld:=fun i H x H' h hi ⟨e,ex⟩=>by
      have hi':i<n:=by simpa using hi
      exact⟨.one x,by rw[QY,QAw hi',ex];rfl,rfl,e⟩
    stop:=fun i H h hi=>by
      have hi':n<=i:=by simpa using hi
      exact hi' }
theorem yl_enum(K:QA)(z:Src)(c:Nat)(xs:List V):Yields (Ite K z c) (xs.zipIdx.map fun p=>.tup [.int ((c+p.2:Nat):Int),p.1]) (fun H=>SqS K H z xs) :=
  { go:=fun i H h hi=>by
      have hi':i<xs.length:=by simpa using hi
      exact⟨xs,xs[i],h,by simp[hi']⟩
    yld:=fun i H x H' h hi ⟨p,a,hp,e,eH,k⟩=>by
      have hi':i<xs.length:=by simpa using hi
      have e1:=k xs h;refine⟨.tup [.int ((c+i:Nat):Int),a],?_,p,hp,e,eH⟩;have e2:xs.zipIdx[i]?=some (a,i):=by rw[List.getElem?_zipIdx,e1];simp
      rw[QY,e2];rfl
    stop:=fun i H h hi=>⟨xs,h,by simpa using hi⟩ }
theorem yl_items(ep:Nat)(a:Addr)(kvs:List KE):Yields (Itm ep kvs.length a) (kvs.map fun p=>.tup [.ref p.2.1,p.2.2]) (fun H=>H a=some (.dT ep kvs)) :=
  { go:=fun i H h hi=>by
      have hi':i<kvs.length:=by simpa using hi
      exact⟨kvs,kvs[i],h,rfl,by simp[hi']⟩
    yld:=fun i H x H' h hi ⟨q,p,hq,e,eH,k⟩=>⟨.tup [.ref p.2.1,p.2.2],by rw[QY,k kvs h];rfl,q,hq,e,eH⟩
    stop:=fun i H h hi=>⟨kvs,h,rfl,by simpa using hi⟩ }
theorem yl_keys(ep:Nat)(a:Addr)(kvs:List KE):Yields (Itk ep kvs.length a) (kvs.map fun p=>.one (.ref p.2.1)) (fun H=>H a=some (.dT ep kvs)) :=
  { go:=fun i H h hi=>by
      have hi':i<kvs.length:=by simpa using hi
      exact⟨kvs,kvs[i],h,rfl,by simp[hi']⟩
    yld:=fun i H x H' h hi ⟨eH,k⟩=>by obtain⟨p,e1,e2⟩:=k kvs h;exact⟨.one (.ref p.2.1),by rw[QY,e1];rfl,e2,eH⟩
    stop:=fun i H h hi=>⟨kvs,h,rfl,by simpa using hi⟩ }
def wiOf(wi0:St->Hp->(List Item->(Hp->Prop)->Hp->Prop)->Prop):TI:=fun σ H R=>wi0 σ H fun xs st H'=>∀J,Yields J xs st->R J H'
section
variable{X:Cx}{tg:Expr}
section
variable{a:Expr}{ta:TA}{p pos pt:Pos}{x:Str}{es:List Expr}{kt:Nat}
theorem pi_val'{l:Expr}{t:TE}(hl:PE X l t):PI X tg l (wiOf fun σ H R=>t σ H fun v H1=>itemsR X.K .val [v] H1 R):=by
 intro pins s σ H R I h;refine thn (hl pins s σ H _ I h) fun v s1 ⟨x,H1,I1,r1,q1⟩=>?_;have fp1:∀b∈[s1.heap.objs.size],FpOk X pins H1 b:=fun b hb=>by
  have e:b=s1.heap.objs.size:=by simpa using hb
  subst e;exact I1.fpOk (QR _) (I1.hok.fresh (QR _))
 cases x with
 |str z=>obtain⟨t,rfl⟩:=r1;refine wpAny_pyIter_strU ?_;exact⟨s1.heap.objs.size,[s1.heap.objs.size],_,_,H1,rfl,I1.kept (t':=s1.toks) fun b o e=>QH _ e,turn_str _ z t,⟨_,QS _ rfl,rfl,rfl⟩,fp1,q1 _ (yl_str z)⟩
 |ref a =>
  cases r1;rcases q1 with⟨xs,hq,q⟩| ⟨xs,hq,q⟩| ⟨ep,kvs,e,q⟩
  obtain⟨its,rv,p,hz⟩:=I1.list hq;refine w8 p.isList ?_;exact⟨s1.heap.objs.size,[s1.heap.objs.size],_,_,H1,rfl,I1.kept (t':=s1.toks) fun b o e=>QH _ e,turn_list a _,⟨_,QS _ rfl,rfl,rfl⟩,fp1,q _ (yl_list _ a xs)⟩;obtain⟨its,rv,p,hz⟩:=I1.tuple hq;refine QA7 (show s1.heap.IsTuple a its.toArray from p) ?_;exact⟨s1.heap.objs.size,[s1.heap.objs.size],_,_,H1,rfl,I1.kept (t':=s1.toks) fun b o e=>QH _ e,turn_tuple a _,⟨_,QS _ rfl,rfl,rfl⟩,fp1,q _ (yl_tup _ a xs)⟩;obtain⟨z,hd,xs,r,ob,es',g1,g2,g3,g4,g5⟩:=(show UA X.prog X.w H1 s1.heap a (.dT ep kvs) from I1.hok a _ e)
  have hsz:es'.size=kvs.length:=by have:=congrArg qq g4;rw[QG,Qa]at this;rw[this,<- qJ r]
  refine it_keys hd g1 g2.1 g3 ?_;exact⟨s1.heap.objs.size,[s1.heap.objs.size],_,_,H1,rfl,I1.kept (t':=s1.toks) fun b o e=>QH _ e,turn_keys (a:=a) (n:=kvs.length) (ep:=ep),⟨_,QS _ rfl,rfl,by rw[<- hsz];rfl⟩,fp1,q _ (yl_keys ep a kvs)⟩
 |_=>exact QW q1
theorem pi_rng1(hx:x="range")(hg:Gl X x)(hm:X.mg x=none)(ha:PA X [a] ta)(hs:notStar a=true) :
  PI X tg (.Call (.Name x p) [a] [] pos) (wiOf fun σ H R=>ta σ H fun vs H1=>itemsR X.K .rng1 vs H1 R):=by
 subst hx;intro pins s σ H R I h;refine Call_ (ld_blt I hg hm boot_range (wD (thn (ha pos pins s σ H _ I h) fun us s1 ⟨vs,H1,I1,r1,q1⟩=>?_) (FA _ hs) rfl))
 match vs,q1 with
 |[.int j],⟨⟨q1,q2⟩,q⟩ =>
  cases r1 with
  |cons r rr =>
   cases rr;obtain⟨t,rfl⟩:=r;refine call_range_1 (range_it I1 (by omega) (by omega) q1 q2 ?_);have e:(j - 0).toNat=j.toNat:=by simp
   rw[e];have y:=yl_rng 0 j.toNat;refine q _ ?_;simpa using y
theorem boot_enum:bootBuiltins ("enumerate":Str)=some (.type "enumerate"):=by kernel_rfl
theorem enum_pie{pins:LAO}{σ:St}{H1:Hp}{s1:Shared}{R:It->Hp->Prop}{c:Nat}{z:Src}{xs:List V}{its:Array Value}{h':Heap}(I1:Inv X pins σ H1 s1)(sh:SrcHas s1.heap z its)(st:EnumSt (s1.heap.objs.size+1) s1.heap.objs.size z c 0 h')(kp:∀c o,s1.heap.get? c=some o->h'.get? c=some o)
  (q:∀J,Yields J (xs.zipIdx.map fun p=>.tup [.int ((c+p.2:Nat):Int),p.1]) (fun H=>SqS X.K H z xs)->R J H1):wpAny (model X.prog X.w) X.A (pyIter (.ref (s1.heap.objs.size+1))) (PIE X pins σ (.Tuple es kt pt) R) X.xe { s1 with heap:=h' }:=by
 obtain⟨⟨old,a1⟩,_⟩:=id st;refine QBN a1 ?_;have I2:=I1.kept (h':=h') (t':=s1.toks) kp;have lt:=sh.lt;refine⟨_,[s1.heap.objs.size+1,s1.heap.objs.size],_,_,H1,rfl,I2,turn_enum (nne (Nat.succ_ne_self _)) (Qg (wz lt)) (Qg lt),st,fun b hb=>?_,q _ (yl_enum _ z c xs)⟩;have hb':s1.heap.objs.size<=b:=by simp only[QK,Q2,or_false]at hb;rcases hb with rfl|rfl;exact Nat.le_add_right _ _;exact QR _
 exact I1.fpOk hb' (I1.hok.fresh hb')
theorem pi_enum(hx:x="enumerate")(hg:Gl X x)(hm:X.mg x=none)(ha:PA X [a] ta)(hs:notStar a=true) :
  PI X (.Tuple es kt pt) (.Call (.Name x p) [a] [] pos) (wiOf fun σ H R=>ta σ H fun vs H1=>itemsR X.K .enum vs H1 R):=by
 subst hx;intro pins s σ H R I h;refine Call_ (ld_blt I hg hm boot_enum (wD (thn (ha pos pins s σ H _ I h) fun us s1 ⟨vs,H1,I1,r1,q1⟩=>?_) (FA _ hs) rfl))
 match vs,q1 with
 |[.ref l1],⟨z,xs,e1,h1,q⟩ =>
  subst e1;cases r1 with
  |cons r rr=>cases rr;cases r;obtain⟨its,_,sh1,_⟩:=I1.src h1;refine call_enumS sh1 fun h' st kp=>enum_pie (xs:=xs) I1 sh1 st kp ?_;simpa using q
theorem itm_inv{K:QA}{u:V}{H:Hp}{R:List Item->(Hp->Prop)->Hp->Prop}(h:itemsR K .itm [u] H R):∃a ep kvs,u=.ref a/\H a=some (.dT ep kvs)/\R (kvs.map fun p=>.tup [.ref p.2.1,p.2.2]) (fun H=>H a=some (.dT ep kvs)) H:=by
 cases u with
 |ref a=>obtain⟨ep,kvs,e,q⟩:=h;exact⟨a,ep,kvs,rfl,e,q⟩
 |_=>exact QW h
theorem pi_itm{o:Expr}{to:TE}{apos cpos:Pos}(ho:PE X o to)(hbase:attributeBase o "items" X.env (eval o X.env)=eval o X.env)(hline:(apos.endLine==cpos.line)=true) :
  PI0 X (.Tuple es kt pt) (.Call (.Attribute o "items" apos) [] [] cpos) (wiOf fun σ H R=>to σ H fun v H1=>itemsR X.K .itm [v] H1 R):=by
 intro pins s σ H R I h;refine QAG hbase hline (thn (ho pins s σ H _ I h) fun v s1 ⟨x,H1,I1,r1,q1⟩=>?_);obtain⟨a,ep,kvs,rfl,e,q⟩:=itm_inv q1;cases r1;obtain⟨z,hd,xs,r,ob,es',h1,h2,h3,h4,h5⟩:=(show UA X.prog X.w H1 s1.heap a (.dT ep kvs) from I1.hok a _ e)
 refine⟨"dict",_,QAM,PySem.F.slot_dict_items,PySem.F.type_dict_items,⟨ob,h1,h2.1⟩,fun b eb=>?_,WN rfl (QAs (call_items h1 h2.1 hd ?_))⟩;cases eb;exact⟨ob,h1,h2.2.1⟩;have I2:Inv X pins σ H1 { s1 with heap:=s1.heap.push { cls:=.type "dict_items",data:=.fields #[.ref a] } }:=I1.kept (t':=s1.toks) fun b o e=>QH _ e;refine it_items ⟨_,QS _ rfl,rfl,rfl⟩ (QH _ h1) h3 ?_;have hsz:es'.size=kvs.length:=by have:=congrArg qq h4;rw[QG,Qa]at this;rw[this,<- qJ r]
 refine⟨_,[_],_,_,H1,rfl,I2.kept (t':=s1.toks) fun b o e=>QH _ e,turn_items (a:=a) (n:=kvs.length) (ep:=ep),⟨.none,.none,?_⟩,fun b hb=>?_,q _ (yl_items ep a kvs)⟩;rw[<- hsz];exact QS _ rfl;have e:=QJ.mp hb;subst e;exact I2.fpOk (QR _) (I2.hok.fresh (QR _))
end
end
section
variable{σ' σ:St}{K:QA}{tg:Tg}{H:Hp}{Q:St->Hp->Prop}
def Tg.at:Tg->List Nat
 | .nm i=>[i]
 | .tp is=>is
def Agree(tg:Tg)(σ' σ:St):Prop:=σ'.length=σ.length/\∀(j:Nat),j∉tg.at->σ'[j]?=σ[j]?
theorem set_agree{i:Nat}{v:Option V}(h:σ'.length=σ.length)(hj:∀j,j≠i->σ'[j]?=σ[j]?):σ'.set i v=σ.set i v:=by apply wW;intro j;by_cases e:j=i;subst e;by_cases hl:j<σ.length;rw[qf (by omega),qf hl];rw[qX (by rw[qI];omega),qX (by rw[qI];omega)];rw[qM (Qy e),qM (Qy e)];exact hj j e
theorem setAll_agree:∀(is:List Nat) (vs:List V) (σ' σ:St),σ'.length=σ.length->(∀j,j∉is->σ'[j]?=σ[j]?)->setAll is vs σ'=setAll is vs σ
 |[],[],σ',σ,hl,h=>by have:σ'=σ:=wW fun j=>h j (by simp);rw[this]
 |[],_::_,_,_,_,_=>rfl
 |_::_,[],_,_,_,_=>rfl
 |i::is,v::vs,σ',σ,hl,h=>by simp only[setAll];refine setAll_agree is vs _ _ (by simp[hl]) fun j hj=>?_;by_cases e:j=i;subst e;by_cases hl':j<σ.length;rw[qf (by omega),qf hl'];rw[qX (by rw[qI];omega),qX (by rw[qI];omega)];rw[qM (Qy e),qM (Qy e)];exact h j (by simp[e,hj])
theorem setAll_keeps:∀(is:List Nat) (vs:List V) (σ σ':St),setAll is vs σ=some σ'->σ'.length=σ.length/\∀j,j∉is->σ'[j]?=σ[j]?
 |[],[],σ,σ',e=>by simp only[setAll]at e;cases e;exact⟨rfl,fun _ _=>rfl⟩
 |[],_::_,_,_,e=>by simp[setAll]at e
 |_::_,[],_,_,e=>by simp[setAll]at e
 |i::is,v::vs,σ,σ',e=>by simp only[setAll]at e;obtain⟨h1,h2⟩:=setAll_keeps is vs _ _ e;refine⟨by rw[h1,qI],fun j hj=>?_⟩;rw[h2 j (fun z=>hj (QE _ z)),qM (fun z=>hj (by simp[z]))]
theorem bindT_agree{v:V}(a:Agree tg σ' σ)(h:bindT K tg v σ H Q):bindT K tg v σ' H fun σ3 H3=>Agree tg σ3 σ/\Q σ3 H3:=by
 obtain⟨al,aj⟩:=a;cases tg with
 |nm i=>have e:σ'.set i (some v)=σ.set i (some v):=set_agree al fun j hj=>aj j (by simpa[Tg.at]using hj);show Agree (.nm i) (σ'.set i (some v)) σ/\Q (σ'.set i (some v)) H;rw[e];exact⟨⟨by simp,fun j hj=>qM (fun z=>hj (by simp[Tg.at,z]))⟩,h⟩
 |tp is =>
  cases v with
  |ref p=>obtain⟨xs,σ3,hq,e,q⟩:=h;exact⟨xs,σ3,hq,by rw[setAll_agree is xs σ' σ al fun j hj=>aj j hj];exact e,⟨(setAll_keeps is xs σ σ3 e).1,fun j hj=>(setAll_keeps is xs σ σ3 e).2 j hj⟩,q⟩
  |_=>exact QW h
theorem bindT_mono{v:V}{Q':St->Hp->Prop}(m:∀σ H,Q σ H->Q' σ H)(h:bindT K tg v σ H Q):bindT K tg v σ H Q':=by
 cases tg with
 |nm i=>exact m _ _ h
 |tp is =>
  cases v with
  |ref p=>obtain⟨xs,σ3,hq,e,q⟩:=h;exact⟨xs,σ3,hq,e,m _ _ q⟩
  |_=>exact QW h
theorem bindI_step{it:Item}{x:V}{H':Hp}(hi:match it with | .one v=>x=v/\H'=H | .tup vs=>∃p,H p=none/\x=.ref p/\H'=JA H p (.tup vs))(h:bindI K tg it σ H Q):bindT K tg x σ H' Q:=by
 cases it with
 |one v=>obtain⟨rfl,rfl⟩:=hi;exact h
 |tup vs =>
  obtain⟨p,hp,rfl,rfl⟩:=hi;cases tg with
  |nm i=>exact h p hp
  |tp is =>
   obtain⟨σ',e,q⟩:=h (JA H p (.tup vs)) fun b o e=>by rw[zA (aA e hp)];exact e
   exact⟨vs,σ',SqT.of gA,e,q⟩
theorem compB_of{xs:List Item}{st:Hp->Prop}{tc:TT}{te:TE}{σ0:St}{Q:VK}(h:compR K xs st (bindI K tg) tc te σ0 H Q):CompB K xs st tg tc te σ0 H Q:=by
 obtain⟨W,w0,hst,turn,done⟩:=h;intro J Y;refine⟨fun i m acc σ' H'=>m=xs.length - i/\i<=xs.length/\Agree tg σ' σ0/\W i acc H',⟨xs.length,by simp,Q5 _,⟨rfl,fun _ _=>rfl⟩,w0⟩,?_⟩;rintro i m acc σ' H' ⟨rfl,hi,ag,w⟩;have s':=hst i acc H' hi w;by_cases hlt:i<xs.length;refine .inr ⟨Y.go i H' s' hlt,fun x H2 y=>?_⟩;obtain⟨it,hit,hy⟩:=Y.yld i H' x H2 s' hlt y;have b:=bindT_agree ag (bindI_step hy (turn i it acc H' hit w));refine bindT_mono (fun σ3 H3 q=>?_) b;obtain⟨ag3,q⟩:=q;have e1:∀(acc':List V) (H5:Hp),(∃m',m' < xs.length - i/\m'=xs.length - (i+1)/\i+1<=xs.length/\Agree tg σ3 σ0/\W (i+1) acc' H5)=W (i+1) acc' H5:=fun acc' H5 =>
  propext ⟨fun⟨_,_,_,_,_,w⟩=>w,fun w=>⟨_,by omega,rfl,hlt,ag3,w⟩⟩
 simp only[e1];exact q
 ·have e:i=xs.length:=by omega
  subst e;obtain⟨hz,q⟩:=done acc H' w;exact .inl ⟨Y.stop _ H' s' (QR _),hz,q⟩
end
end L2.L3
namespace L2.L3
open PySem PySem.Spec PyProof.Rows
variable{Γ:Ev}
section
variable{X:Cx}{E:XK}{p its:PX}{es:List Expr}{e t it:Expr}{pos:Pos}{S:SC}{Q:List V->Hp->Prop}{G:Glob}{ik:ItK}
def notArgs:PX->Bool
 | .nh _ _=>false
 |_=>true
theorem argsPE_triv(h:notArgs p=true):ArgsPE X Γ E p es:=by cases p<;>first|trivial|cases h
theorem asB_eq'(Q:Bool->Hp->Prop):(fun(x:V) (H1:Hp)=>asB x H1 Q)=fun(x:V) (H1:Hp)=>∃k,x=.bl k/\Q k H1:=by funext x H1;exact asB_eq x H1 Q
theorem Snd.of(pe:PE X e (wp X.K Γ p E).e)(pt:PT X e (wp X.K Γ p E).t)(hb:∀op es pos,e≠.BoolOp op es pos)(ha:(wp X.K Γ p E).a=never.a)(hn:notArgs p=true:=by rfl):Snd X Γ E p e :=
 ⟨pe,pt,fun op es pos z=>absurd z (hb op es pos),fun es pos z=>by rw[ha];exact pa_never,fun _ _ _=>argsPE_triv hn⟩
theorem Snd.lit(pe:PE X e (wp X.K Γ p E).e)(ht:(wp X.K Γ p E).t=never.t)(hb:∀op es pos,e≠.BoolOp op es pos)(ha:(wp X.K Γ p E).a=never.a)(hn:notArgs p=true:=by rfl):Snd X Γ E p e :=
 Snd.of pe (by rw[ht];exact pt_never) hb ha hn
theorem Snd.args(ha:PA X es (wp X.K Γ p E).a)(hp:ArgsPE X Γ E p es)(he:(wp X.K Γ p E).e=never.e)(ht:(wp X.K Γ p E).t=never.t):Snd X Γ E p (.List es pos) :=
 ⟨by rw[he];exact pe_never,by rw[ht];exact pt_never,fun _ _ _ z=>(by cases z),fun es' pos' z=>by cases z;exact ha,fun es' pos' z=>by cases z;exact hp⟩
theorem pe_glo{x:Str}{v:V}{u:Value}(hsc:X.env.scope=S.sc)(h:gloB S x=true)(hm:X.mg x=some u)(r:lA v u):PE X (.Name x pos) (fun _ H Q=>Q v H):=by obtain⟨h1,h2,h3⟩:=gloB_ok h;exact pe_glob (show X.env.scope.names.lookup x=some .globalImplicit by rw[hsc];exact h1) hm r h2
theorem args_star:∀(p:PX) {es:List Expr},chk p S (.List es pos)=true->es.all notStar=true:=by
 intro p;induction p with
 |nj=>intro es h;have h:es.isEmpty=true:=h;rw[Qr.mp h];rfl
 |hx a ih=>exact fun h=>ih h
 |nh a as _ ih=>intro es h;have h:onC es _=true:=h;obtain⟨x,t,rfl,h⟩:=onC_i h;have h1:=yA h;rw[qd,h1.1,ih (yA h1.2).2];rfl
 |lst as ih=>exact fun h=>ih h
 |_=>exact fun h=>(QD h).elim
theorem args_nil{K:QA}{σ:St}{H:Hp}:∀(p:PX),isArgs p=true->chk p S (.List [] pos)=true->((wp K Γ p E).a σ H Q↔Q [] H):=by
 intro p;cases p with
 |nj=>exact fun _ _=>wf
 |nh _ _=>exact fun _ h=>(QD h).elim
 |_=>exact fun h=>(QD h).elim
theorem args_nil0{K:QA}{σ:St}{H:Hp}(p:PX)(h:chk p S (.List [] pos)=true)(q:(wp K Γ p E).a σ H Q):Q [] H:=by
 cases hi:isArgs p with
 |true=>exact(args_nil p hi h).mp q
 |false =>
  cases p with
  |nj=>exact q
  |nh _ _=>exact(QD h).elim
  |_=>exact q.elim
theorem args_one{a:Expr}(p:PX)(h0:isArgs p=true)(h:chk p S (.List [a] pos)=true):∃a1,p=.nh a1 .nj:=by
 cases p with
 |nh a1 r =>
  have h2:chk r S (.List [] pos)=true:=(yA (yA h).2).2;cases r with
  |nj=>exact⟨a1,rfl⟩
  |nh _ _=>exact(QD h2).elim
  |_=>exact(QD h0).elim
 |nj=>exact(QD h).elim
 |_=>exact(QD h0).elim
theorem mt_ok(hu:X.A.units+66<cLine)(m:Mt):∃id,PlainAttrs m.ty/\Slot m.ty m.nm id/\typeOf (.builtin id)=pure (.type "method_descriptor")/\MtR X id (mtR X.K m):=by
 cases m with
 |append=>exact⟨_,QAN,PySem.F.slot_list_append,PySem.F.type_list_append,mt_append⟩
 |pop=>exact⟨_,QAN,PySem.F.slot_list_pop,PySem.F.type_list_pop,mt_popU⟩
 |join=>exact⟨_,PySem.F.plainAttrs_str,PySem.F.slot_str_join,PySem.F.type_str_join,mt_join⟩
 |setd=>exact⟨_,QAM,PySem.F.slot_dict_setdefault,PySem.F.type_dict_setdefault,mt_setdef hu⟩
theorem any_star{env:Env}{pos:Pos}:∀{es:List Expr},es.all notStar=true->(backTo pos (starEach es env)).any (·.1)=false
 |[],_=>rfl
 |e::es,h=>by rw[qd]at h;obtain⟨h1,h2⟩:=yA h;rw[FA env h1];show(false||(backTo pos (starEach es env)).any (·.1))=false;rw[any_star h2];rfl
theorem all_star{env:Env}{pos:Pos}:∀{es:List Expr},es.all notStar=true->(backTo pos (starEach es env)).all (fun x=>!x.1)=true
 |[],_=>rfl
 |e::es,h=>by rw[qd]at h;obtain⟨h1,h2⟩:=yA h;rw[FA env h1];show(true&&(backTo pos (starEach es env)).all (fun x=>!x.1))=true;rw[all_star h2];rfl
theorem pi_ofS(ok:OkX X S G E)(hik:itC (isArgs its) S ik (fun es p=>chk its S (.List es p)) t it pos=true)(n1:ikN G ik)(ni:isItm ik=false)
  (sn:∀es p,chk its S (.List es p)=true->Snd X G.ev E its (.List es p)):PI X t it (wiOf fun σ H R=>(wp X.K G.ev its E).a σ H fun vs H1=>itemsR X.K ik vs H1 R):=by
 have glo:∀{x:Str},gloB S x=true->Gl X x:=fun {x} h=>by show X.env.scope.names.lookup x=some .globalImplicit;rw[ok.sc];exact(gloB_ok h).1
 have tupT:isTupE t=true->∃es k p,t=.Tuple es k p:=fun h=>by
  cases t with
  |Tuple es k p=>exact⟨es,k,p,rfl⟩
  |_=>exact(QD h).elim
 cases ik with
 |val=>have i:=yA hik;have pas:=(sn _ pos i.2).pas _ pos rfl;obtain⟨a,rfl⟩:=args_one its i.1 i.2;exact pi_val' pas.1
 |rng1=>obtain⟨px,es,ks,p,rfl,hg,h⟩:=callC_i hik;have h1:=yA h;cases Qr.mp h1.1;obtain⟨a,rfl,h3⟩:=on1_i h1.2;exact pi_rng1 rfl (glo hg) (ok.no _ n1) ((sn _ p h3).pa _ p rfl) (by simpa using args_star its h3)
 |enum=>have i:=yA hik;obtain⟨es,k,pt,rfl⟩:=tupT i.1;obtain⟨px,es,ks,p,rfl,hg,h⟩:=callC_i i.2;have h1:=yA h;cases Qr.mp h1.1;obtain⟨a,rfl,h3⟩:=on1_i h1.2;exact pi_enum rfl (glo hg) (ok.no _ n1) ((sn _ p h3).pa _ p rfl) (by simpa using args_star its h3)
 |itm=>cases ni
theorem pi_ofS0(ok:OkX X S G E)(hik:itC (isArgs its) S ik (fun es p=>chk its S (.List es p)) t it pos=true)(n1:ikN G ik)
  (sn:∀es p,chk its S (.List es p)=true->Snd X G.ev E its (.List es p)):PI0 X t it (wiOf fun σ H R=>(wp X.K G.ev its E).a σ H fun vs H1=>itemsR X.K ik vs H1 R):=by
 cases hi:isItm ik with
 |false=>exact(pi_ofS ok hik n1 hi sn).to0
 |true =>
  cases ik with
  |itm =>
   have i:=yA hik;have i2:=yA i.2;cases t with
   |Tuple es k pt=>obtain⟨v,ap,es,p,rfl,hl,h⟩:=methC_i i2.2;have h1:=yA h;have h2:=yA h1.2;cases Qr.mp h2.1;have pas:=(sn _ p h2.2).pas _ p rfl;obtain⟨a,rfl⟩:=args_one its i2.1 h2.2;exact pi_itm pas.1 (noSup h1.1) hl
   |_=>exact(QD i.1).elim
  |_=>cases hi
theorem pe_cont{te te':TE}(h:PE X e te)(q:∀σ H Q,te' σ H Q->te σ H Q):PE X e te':=fun pins s σ H Q I z=>h pins s σ H Q I (q σ H Q z)
theorem snd:∀(p:PX) {X:Cx}{S:SC}{E:XK}(ok:OkX X S G E) {e:Expr},chk p S e=true->XA G p->Snd X G.ev E p e:=by
 intro p;induction p with
 |var i =>
  intro X S E ok e h _;obtain⟨x,pos,rfl,h⟩:=onName_i h;obtain⟨h1,h2,h3,h4⟩:=visB_ok h;have base:=pe_var (pos:=pos) (show X.N[i]?=some x by rw[ok.N];exact h1) (show Vis X.env.scope x by rw[ok.sc];exact h2) h3 h4;have pe:PE X (.Name x pos) (wp X.K G.ev (.var i) E).e:=pe_cont base fun σ H Q q=>by
   have q:(match σ[i]? with|some (some v)=>Q v H|_=>False):=q;cases hs:σ[i]? with
   |none=>rw[hs]at q;exact q.elim
   |some o =>
    rw[hs]at q;cases o with
    |none=>exact q.elim
    |some v=>exact⟨v,hs,q⟩
  exact Snd.of pe (pt_tru pe fun _=>rfl) (fun _ _ _ z=>by cases z) rfl
 |int i=>intro X S E ok e h _;obtain⟨c,k,pos,rfl,h⟩:=onConst_i h;obtain⟨j,rfl,h⟩:=cInt_i h;cases qV h;exact Snd.of pe_int (pt_tru (ta:=fun _ H Q=>Q (.int i) H) pe_int fun _=>rfl) (fun _ _ _ z=>by cases z) rfl
 |str x=>intro X S E ok e h _;obtain⟨c,k,pos,rfl,h⟩:=onConst_i h;obtain⟨j,rfl,h⟩:=cStr_i h;cases qV h;exact Snd.lit pe_str rfl (fun _ _ _ z=>by cases z) rfl
 |bl b=>intro X S E ok e h _;obtain⟨c,k,pos,rfl,h⟩:=onConst_i h;obtain⟨j,rfl,h⟩:=cBool_i h;cases qV h;exact Snd.of pe_bl (pt_tru (ta:=fun _ H Q=>Q (.bl b) H) pe_bl fun _=>rfl) (fun _ _ _ z=>by cases z) rfl
 |non=>intro X S E ok e h _;obtain⟨c,k,pos,rfl,h⟩:=onConst_i h;cases cNone_i h;exact Snd.of pe_non (pt_tru (ta:=fun _ H Q=>Q .non H) pe_non fun _=>rfl) (fun _ _ _ z=>by cases z) rfl
 |glo x=>intro X S E ok e h nd;obtain⟨y,pos,rfl,h⟩:=onName_i h;have h:=yA h;cases qV h.1;obtain⟨u,hm,r⟩:=ok.val x nd;have pe:=pe_glo (pos:=pos) ok.sc h.2 hm r;exact Snd.of pe (pt_tru pe fun _=>rfl) (fun _ _ _ z=>by cases z) rfl
 |bty x n=>intro X S E ok e h nd;obtain⟨y,pos,rfl,h⟩:=onName_i h;have h:=yA h;cases qV h.1;obtain⟨g1,g2,g3⟩:=gloB_ok h.2;exact Snd.lit (pe_bltn (show X.env.scope.names.lookup x=some .globalImplicit by rw[ok.sc];exact g1) (ok.no x nd.1) nd.2 rfl g3 g2) rfl (fun _ _ _ z=>by cases z) rfl
 |bin op a b iha ihb=>intro X S E ok e h nd;obtain⟨l,o,r,pos,rfl,h⟩:=onBin_i h;have h1:=yA h;have h2:=yA h1.2;cases qV h1.1;have pe:=pe_op (pos:=pos) (op_bin op) (iha ok h2.1 nd.1).pe (ihb ok h2.2 nd.2).pe;exact Snd.of pe (pt_tru pe fun _=>rfl) (fun _ _ _ z=>by cases z) rfl
 |cmp op a b iha ihb=>intro X S E ok e h nd;obtain⟨l,os,rs,pos,rfl,h⟩:=onCmp_i h;obtain⟨o,rfl,h⟩:=on1_i h;obtain⟨r,rfl,h⟩:=on1_i h;have h1:=yA h;have h2:=yA h1.2;have h3:=yA h2.2;cases qV h1.1;have pa:=(iha ok h3.1 nd.1).pe;have pb:=(ihb ok h3.2 nd.2).pe;refine Snd.of (pe_cmpR (pos:=pos) (op_cmp ok.un op) pa pb (noMark h2.1)) (fun pins s σ H Q I q=>pt_cmpR (pos:=pos) (op_cmp ok.un op) pa pb (noMark h2.1) pins s σ H Q I ?_) (fun _ _ _ z=>by cases z) rfl;show tOp _ _ _ σ H (fun(x:V) (H1:Hp)=>∃k,x=.bl k/\Q k H1);rw[<- asB_eq' Q];exact q
 |neg a iha =>
  intro X S E ok e h nd;obtain⟨o,e,pos,rfl,h⟩:=onUn_i h;have h:=yA h;cases qV h.1;have base:=pe_un (pos:=pos) (un_neg (X:=X)) (iha ok h.2 nd).pe;refine Snd.lit (fun pins s σ H Q I q=>base pins s σ H Q I ?_) rfl (fun _ _ _ z=>by cases z) rfl;have e:(fun(x:V) (H1:Hp)=>rU (fun i=>V.int (-i)) x H1 Q)=fun(x:V) (H1:Hp)=>(match x with | .int i=>Q (.int (-i)) H1|_=>False):=by
   funext x H1;apply propext;cases x with
   |int i=>exact⟨fun⟨j,e,q⟩=>by cases e;exact q,fun q=>⟨i,rfl,q⟩⟩
   |_=>exact⟨fun⟨j,e,q⟩=>(by cases e),fun q=>QW q⟩
  show(wp X.K G.ev a E).e σ H (fun(x:V) (H1:Hp)=>rU (fun i=>V.int (-i)) x H1 Q);rw[e];exact q
 |and a b iha ihb =>
  intro X S E ok e h nd;obtain⟨o,es,pos,rfl,h⟩:=onBool_i h;have h1:=yA h;cases qV h1.1;obtain⟨l,t,rfl,h2⟩:=onC_i h1.2;obtain⟨r,t,rfl,h3⟩:=onC_i h2;have h4:=yA h3;have sa:=iha ok h4.1 nd.1;have sb:=ihb ok h4.2 nd.2;have eqA:∀(σ:St) (Q:VK),(fun(x:V) (H1:Hp)=>∃c,x=.bl c/\if c=true then(wp X.K G.ev b E).e σ H1 Q else Q (.bl false) H1)=fun(x:V) (H1:Hp)=>asB x H1 fun c H2=>if c=true then(wp X.K G.ev b E).e σ H2 Q else Q (.bl false) H2:=fun σ Q=>(asB_eq' _).symm
  have key:PW X (.BoolOp .And (l::r::t) pos) (wp X.K G.ev (.and a b) E).t/\PE X (.BoolOp .And (l::r::t) pos) (fun σ H Q=>(wp X.K G.ev a E).e σ H fun x H1=>∃c,x=.bl c/\if c=true then(wp X.K G.ev b E).e σ H1 Q else Q (.bl false) H1):=by
   cases t with
   |nil=>exact⟨pw_and sa.pt (pw_and1 sb.pt),pe_and (pos:=pos) sa.pe (pe_one sb.pe)⟩
   |cons q t=>exact⟨pw_and sa.pt (sb.pw _ _ _ rfl),pe_and (pos:=pos) sa.pe sb.pe⟩
  refine⟨pe_cont key.2 fun σ H Q q=>?_,key.1.pt,fun _ _ _ _=>key.1,fun _ _ z=>(by cases z),fun _ _ z=>trivial⟩;rw[eqA];exact q
 |or a b iha ihb =>
  intro X S E ok e h nd;obtain⟨o,es,pos,rfl,h⟩:=onBool_i h;have h1:=yA h;cases qV h1.1;obtain⟨l,t,rfl,h2⟩:=onC_i h1.2;obtain⟨r,t,rfl,h3⟩:=onC_i h2;have h4:=yA h3;have sa:=iha ok h4.1 nd.1;have sb:=ihb ok h4.2 nd.2;have eqA:∀(σ:St) (Q:VK),(fun(x:V) (H1:Hp)=>∃c,x=.bl c/\if c=true then Q (.bl true) H1 else(wp X.K G.ev b E).e σ H1 Q)=fun(x:V) (H1:Hp)=>asB x H1 fun c H2=>if c=true then Q (.bl true) H2 else(wp X.K G.ev b E).e σ H2 Q:=fun σ Q=>(asB_eq' _).symm
  have key:PW X (.BoolOp .Or (l::r::t) pos) (wp X.K G.ev (.or a b) E).t/\PE X (.BoolOp .Or (l::r::t) pos) (fun σ H Q=>(wp X.K G.ev a E).e σ H fun x H1=>∃c,x=.bl c/\if c=true then Q (.bl true) H1 else(wp X.K G.ev b E).e σ H1 Q):=by
   cases t with
   |nil=>exact⟨pw_or sa.pt (pw_or1 sb.pt),pe_or (pos:=pos) sa.pe (pe_one sb.pe)⟩
   |cons q t=>exact⟨pw_or sa.pt (sb.pw _ _ _ rfl),pe_or (pos:=pos) sa.pe sb.pe⟩
  refine⟨pe_cont key.2 fun σ H Q q=>?_,key.1.pt,fun _ _ _ _=>key.1,fun _ _ z=>(by cases z),fun _ _ z=>trivial⟩;rw[eqA];exact q
 |not a iha=>intro X S E ok e h nd;obtain⟨o,x,pos,rfl,h⟩:=onUn_i h;have h1:=yA h;cases qV h1.1;have sa:=iha ok h1.2 nd;refine Snd.of (fun pins s σ H Q I q=>?_) (pt_not sa.pt) (fun _ _ _ z=>by cases z) rfl;refine UnaryOp_ (thn (sa.pe pins s σ H _ I q) fun v s1 ⟨x,H1,I1,r1,q1⟩=>?_);have q1:truQ X.K x H1 (fun c H2=>Q (.bl (!c)) H2):=q1;rw[truQ_eq]at q1;refine not_of (thn (tru_ok pins s1 σ H1 x v _ I1 r1 q1) fun c s2 ⟨H2,I2,q2⟩=>?_);exact⟨.bl (!c),H2,I2,rfl,q2⟩
 |call f as ih =>
  intro X S E ok e h nd;obtain⟨p,es,ks,pos,rfl,hg,h⟩:=callC_i h;have h1:=yA h;cases Qr.mp h1.1;obtain⟨g1,g2,g3⟩:=gloB_ok hg;have hg:Gl X f:=show X.env.scope.names.lookup f=some .globalImplicit by rw[ok.sc];exact g1
  obtain⟨CX,k,a,fd,ps,F,hr,hm,hk,hb,hx,_⟩:=ok.fn f nd.1;have pa:=(ih ok h1.2 nd.2).pa es pos rfl;have st:=args_star as h1.2;have pe:PE X (.Call (.Name f p) es [] pos) (wp X.K G.ev (.call f as) E).e:=by
   cases es with
   |nil=>exact pe_cont (pe_call0 (pos:=pos) (p:=p) F hr hg hm hk hb .nil hx g2) fun σ H Q q=>args_nil0 as h1.2 q
   |cons e1 es1=>have st:=yA st;refine pe_cont (pe_call (pos:=pos) (p:=p) F hr hg hm hk hb .nil hx pa g2 (FA _ st.1) (any_star st.2)) fun σ H Q q=>?_;show(wp X.K G.ev as E).a σ H fun vs H1=>G.ev.sp f (vs++[]) H1 Q E;simp only[wC];exact q
  exact Snd.of pe (pt_tru pe fun _=>rfl) (fun _ _ _ z=>by cases z) rfl
 |idx a b iha ihb=>intro X S E ok e h nd;obtain⟨v,i,pos,rfl,h⟩:=onSub_i h;have h1:=yA h;have h2:=yA h1.2;have pe:=pe_ix (pos:=pos) (ix_any ok.un) (iha ok h2.1 nd.1).pe (ihb ok h2.2 nd.2).pe (plainIx h1.1);exact Snd.of pe (pt_tru pe fun _=>rfl) (fun _ _ _ z=>by cases z) rfl
 |nop=>intro X S E ok e h nd;exact(QD h).elim
 |lst as ih=>intro X S E ok e h nd;obtain⟨es,pos,rfl,h⟩:=onList_i h;have pa:=(ih ok h nd).pa es pos rfl;exact⟨pe_lst pa,pt_never,fun _ _ _ z=>(by cases z),fun _ _ z=>pa_never,fun _ _ z=>trivial⟩
 |tup as ih=>intro X S E ok e h nd;obtain⟨es,k,pos,rfl,h⟩:=onTup_i h;exact Snd.lit (pe_tup ((ih ok h nd).pa es pos rfl)) rfl (fun _ _ _ z=>by cases z) rfl
 |dnew b=>intro X S E ok e h nd;obtain⟨ks,vs,pos,rfl,h⟩:=onDict_i h;have h1:=yA h;cases Qr.mp h1.1;cases Qr.mp h1.2;exact Snd.lit pe_dnew rfl (fun _ _ _ z=>by cases z) rfl
 |dsp a b iha ihb =>
  intro X S E ok e h nd;obtain⟨ks,vs,pos,rfl,h⟩:=onDict_i h;obtain⟨k,rfl,h⟩:=on1_i h;obtain⟨v,rfl,h⟩:=on1_i h;have h1:=yA h;cases k with
  |none=>exact(QD h1.1).elim
  |some k=>exact Snd.lit (pe_done ok.un (iha ok h1.1 nd.1).pe (ihb ok h1.2 nd.2).pe) rfl (fun _ _ _ z=>by cases z) rfl
 |hx a iha=>intro X S E ok e h nd;have s:=iha ok h nd;exact⟨s.pe,s.pt,s.pw,fun _ _ _=>pa_never,fun _ _ _=>argsPE_triv rfl⟩
 |lset a iha=>intro X S E ok e h nd;obtain⟨p1,p2,pos,pos2,y,rfl,hg,hg',hy,h⟩:=nestC_i h;refine Snd.lit (pe_lset ok.calm (show X.env.scope.names.lookup _=some .globalImplicit by rw[ok.sc];exact(gloB_ok hg).1) (show X.env.scope.names.lookup _=some .globalImplicit by rw[ok.sc];exact(gloB_ok hg').1) (ok.no _ nd.1) (ok.no _ nd.2.1) (iha ok h nd.2.2).pe (FA _ hy)) rfl (fun _ _ _ z=>by cases z) rfl
 |nj=>intro X S E ok e h nd;obtain⟨es,pos,rfl,h⟩:=onList_i h;cases Qr.mp h;exact Snd.args pa_nil trivial rfl rfl
 |nh a as iha ih=>intro X S E ok e h nd;obtain⟨es,pos,rfl,h⟩:=onList_i h;obtain⟨e1,es1,rfl,h⟩:=onC_i h;have h1:=yA h;have h2:=yA h1.2;have sa:=(iha ok h2.1 nd.1).pe;have ss:=ih ok h2.2 nd.2;exact Snd.args (pa_cons sa (ss.pa es1 pos rfl) (FA _ h1.1)) ⟨sa,ss.pas es1 pos rfl⟩ rfl rfl
 |bi f as ih =>
  intro X S E ok e h nd;obtain⟨p,es,ks,pos,rfl,hg,h⟩:=callC_i h;have h1:=yA h;cases Qr.mp h1.1;obtain⟨e1,es1,rfl,h3⟩:=onC_i h1.2;obtain⟨g1,g2,g3⟩:=gloB_ok hg;have hg:Gl X f.nm:=show X.env.scope.names.lookup f.nm=some .globalImplicit by rw[ok.sc];exact g1
  have pa:=(ih ok h3 nd.2).pa _ pos rfl;have st:=yA (args_star as h3);have pe:PE X (.Call (.Name f.nm p) (e1::es1) [] pos) (wp X.K G.ev (.bi f as) E).e:=by
   rcases bi_ok ok.un ok.calm f with⟨id,hb,hc⟩| ⟨T,hb,hc⟩
   exact pe_callB (pos:=pos) (p:=p) hc hg (ok.no _ nd.1) hb pa g3 g2 (FA _ st.1) (any_star st.2);exact pe_callTy (pos:=pos) (p:=p) hc hg (ok.no _ nd.1) hb pa g3 g2 (FA _ st.1) (any_star st.2)
  exact Snd.of pe (pt_tru pe fun _=>rfl) (fun _ _ _ z=>by cases z) rfl
 |isi a c iha ihc =>
  intro X S E ok e h nd;obtain⟨p,es,ks,pos,rfl,hg,h⟩:=callC_i h;have h1:=yA h;cases Qr.mp h1.1;obtain⟨l,r,rfl,h2⟩:=on2_i h1.2;have h3:=yA h2;have h4:=yA h3.2;have h5:=yA h4.2;obtain⟨g1,g2,g3⟩:=gloB_ok hg;have hg:Gl X "isinstance":=show X.env.scope.names.lookup ("isinstance":Str)=some .globalImplicit by rw[ok.sc];exact g1
  have pe:PE X (.Call (.Name "isinstance" p) [l,r] [] pos) (wp X.K G.ev (.isi a c) E).e :=
   pe_callB (pos:=pos) (p:=p) call_isi hg (ok.no _ nd.1) (by kernel_rfl) (pa_cons (iha ok h5.1 nd.2.1).pe (pa_cons (ihc ok h5.2 nd.2.2).pe pa_nil (FA _ h4.1)) (FA _ h3.1)) g3 g2 (FA _ h3.1) (any_star (by rw[qd,h4.1];rfl))
  exact Snd.of pe (pt_tru pe fun _=>rfl) (fun _ _ _ z=>by cases z) rfl
 |mt m o as iho ih =>
  intro X S E ok e h nd;obtain⟨v,ap,es,pos,rfl,h2,h⟩:=methC_i h;have h0:=yA h;have h1:=yA h0.2;have h3:=yA h1.2;have h4:=yA h3.2;have po:=(iho ok h4.1 nd.1).pe;have pa:=(ih ok h4.2 nd.2).pa _ pos rfl;have st:=args_star as h4.2;obtain⟨id,pat,sl,ty,mr⟩:=mt_ok (X:=X) ok.un m;have pe:PE X (.Call (.Attribute v m.nm ap) es [] pos) (wp X.K G.ev (.mt m o as) E).e:=by
   cases es with
   |nil =>
    refine pe_cont (pe_bm0 (apos:=ap) (cpos:=pos) pat sl ty mr po (noSup h1.1) h2) fun σ H Q q=>?_;have e:(fun(x:V) (H1:Hp)=>tyV X.K m.ty x H1/\mtR X.K m x [] H1 Q)=fun(x:V) (H1:Hp)=>tyV X.K m.ty x H1/\(wp X.K G.ev as E).a σ H1 fun vs H2=>mtR X.K m x vs H2 Q:=by funext x H1;rw[propext (args_nil as h0.1 h4.2)]
    show(wp X.K G.ev o E).e σ H (fun(x:V) (H1:Hp)=>tyV X.K m.ty x H1/\mtR X.K m x [] H1 Q);rw[e];exact q
   |cons e1 es1=>have s2:=yA st;refine pe_bm (apos:=ap) (cpos:=pos) pat sl ty mr po pa (noSup h1.1) ?_ h2 (FA _ s2.1) (any_star s2.2);rw[all_star st];have hl':(e1::es1).length<20:=of_decide_eq_true h3.1;show(true&&true&&decide ((e1::es1).length+0+0<30))=true;rw[dT (Qj hl' (by decide:20<=30):(e1::es1).length+0+0<30)];rfl
  exact Snd.of pe (pt_tru pe fun _=>rfl) (fun _ _ _ z=>by cases z) rfl
 |slc a lo hi iha ihl ihh =>
  intro X S E ok e h nd;obtain⟨v,sl,pos,rfl,h⟩:=onSub_i h;obtain⟨l,u,st,p2,rfl,h⟩:=onSlice_i h;have h1:=yA h;have h2:=yA h1.2;have h3:=yA h2.2;have part:∀(q:PX) (w:Option Expr),(∀{e:Expr},chk q S e=true->PE X e (wp X.K G.ev q E).e)->onO w (isNop q) (fun e=>!isNop q&&chk q S e)=true ->
    PO X w (fun σ H R=>(if isNop q=true then fun(R:Option Int->Hp->Prop)=>R none H else fun R=>(wp X.K G.ev q E).e σ H fun l H2=>partQ l H2 R) R):=by
   intro q w ihq hq;cases w with
   |none=>have e:isNop q=true:=hq;simp only[e,if_true];exact po_none
   |some e' =>
    have q1:=yA hq;have e:isNop q=false:=(Q4 _).mp q1.1;simp only[e,qN,if_false];intro pins s σ H Q I w;refine po_some (ihq q1.2) pins s σ H Q I ?_;show(wp X.K G.ev q E).e σ H (fun(x:V) (H1:Hp)=>∃i,x=.int i/\Q (some i) H1);have e2:(fun(x:V) (H1:Hp)=>∃i,x=.int i/\Q (some i) H1)=fun(x:V) (H1:Hp)=>partQ x H1 Q:=by funext x H1;exact(partQ_eq x H1 Q).symm
    rw[e2];exact w
  cases Option.isNone_iff_eq_none.mp h1.1;exact Snd.lit (pe_slice (pos:=pos) (p2:=p2) sl_any (iha ok h2.1 nd.1).pe (part lo l (fun hc=>(ihl ok hc nd.2.1).pe) h3.1) (part hi u (fun hc=>(ihh ok hc nd.2.2).pe) h3.2)) rfl (fun _ _ _ z=>by cases z) rfl
 |comp mask tgs tg ik its cond elt ihi ihc ihe =>
  intro X S E ok e h nd;obtain⟨e,gens,scope,pos,rfl,h⟩:=onLC_i h;obtain⟨⟨t,it,ifs,asy⟩,rfl,h⟩:=on1_i h;have h0:=yA h;have hi:=yA h0.2;have h1:=yA hi.2;have h2:=yA h1.2;have h3:=yA h2.2;have h4:=yA h3.2;have h5:=yA h4.2;have ea:asy=0:=qV h0.1;cases ea;have C:CompSt X.N X.env.scope scope tgs mask:=by rw[ok.N,ok.sc];exact compB_ok h1.1
  obtain⟨n1,n2,n3,n4⟩:=nd;have pi:PI X t it (wiOf fun σ H R=>(wp X.K G.ev its E).a σ H fun vs H1=>itemsR X.K ik vs H1 R):=pi_ofS ok h4.1 n1 ((Q4 _).mp hi.1) fun es p q=>ihi ok q n2;refine Snd.lit (pe_comp (pos:=pos) (g:=bindT X.K tg) (tc:=if isNop cond=true then fun _ H Q=>Q true H else(wp X.K G.ev cond (fun _ _ _=>False)).t) (te:=(wp X.K G.ev elt (fun _ _ _=>False)).e) ok.calm pi C (fun s H ex=>?_) (fun x=>noFold h3.1 x)) rfl (fun _ _ _ z=>by cases z) rfl;have okc:=ok.comp scope tgs mask s H ex;refine⟨pg_tg okc (fun z=>(QD z).elim) C.nd h2.1,?_,(ihe okc h5.2 n4).pe⟩;have hif:=h5.1;cases ifs with
  |nil=>have e:isNop cond=true:=hif;simp only[e,if_true];exact pif_nil
  |cons c r=>have q1:=yA hif;have q2:=yA q1.2;cases Qr.mp q1.1;have e:isNop cond=false:=(Q4 _).mp q2.1;simp only[e,qN,if_false];exact pif_one (ihc okc q2.2 n3).pt
end
end L2.L3
namespace L2.L3
open PySem PySem.Spec PyProof.Rows
section
variable{s:Stmt}{f:Expr->List Stmt->List Stmt->Bool}
set_option genSizeOf false in
set_option genInjectivity false in
inductive PT where
 |nil|seq (s r:PT)
 |set (i:Nat) (e:PX)
 |expr (e:PX)|ret (e:PX)
 |ife (c:PX) (a b:PT)
 |for_ (tg:Tg) (ik:ItK) (its:PX) (body:PT)
 |own (i:Nat) (e:PX)|tset (is:List Nat) (e:PX)|six (o i e:PX)|sdf (i:Nat) (k:PX)|whl (c:PX) (body:PT)|frz (is:List Nat) (s:PT)|hs (s:PT)
def setR(K:QA):V->V->V->Hp->(Hp->Prop)->Prop:=fun o i v H Q=>match o,i with
 | .ref p,.int k=>∃xs j,H p=some (.lst xs)/\ixN xs.length k=some j/\Q (JA H p (.lst (xs.set j v)))
 | .ref p,.str z=>DPut K H p (.str z) v Q
 | .ref p,.ref b=>DPut K H p (.ref b) v Q
 |_,_=>False
def sdX(i:Nat)(k:PX):PX:=.mt .setd (.var i) (.nh k (.nh (.dnew true) .nj))
def forJ(J:It)(g:TG)(tb:TS)(D:Ends)(σ:St)(H1:Hp):Prop:=∃W:Nat->Nat->St->Hp->Prop,(∃m,W 0 m σ H1)/\∀i m σ H,W i m σ H ->
 (J.stop i H/\D.nx σ H)∨(J.go i H/\∃N:St->Hp->Prop,(∀σ' H',N σ' H'->∃m',m' < m/\W (i+1) m' σ' H')/\∀x H',J.yld i H x H'->g x σ H' fun σ2 H2=>tb { D with nx:=N,ct:=N,bk:=D.nx } σ2 H2)
def ForB(K:QA)(xs:List Item)(st:Hp->Prop)(tg:Tg)(tb:TS)(D:Ends)(σ:St)(H:Hp):Prop:=∀J,Yields J xs st->forJ J (bindT K tg) tb D σ H
def wps(K:QA)(Γ:Ev)(E:XK):PT->TS
 | .nil=>fun D σ H=>D.nx σ H
 | .seq s r=>fun D σ H=>wps K Γ E s { D with nx:=fun σ H=>wps K Γ E r D σ H } σ H
 | .set i e=>fun D σ H=>(wp K Γ e E).e σ H fun x H1=>D.nx (σ.set i (some x)) H1
 | .own i e=>fun D σ H=>(wp K Γ e E).e σ H fun x H1=>D.nx (σ.set i (some x)) H1
 | .expr e=>fun D σ H=>(wp K Γ e E).e σ H fun _ H1=>D.nx σ H1
 | .ret e=>fun D σ H=>(wp K Γ e E).e σ H D.rt
 | .ife c a b=>fun D σ H=>(wp K Γ c E).t σ H fun k H1=>if k=true then wps K Γ E a D σ H1 else wps K Γ E b D σ H1
 | .for_ tg ik its body=>fun D σ H=>(wp K Γ its E).a σ H fun vs H1=>itemsR K ik vs H1 fun xs st H2=>ForB K xs st tg (wps K Γ E body) D σ H2
 | .tset is e=>fun D σ H=>(wp K Γ e E).e σ H fun x H1=>bindT K (.tp is) x σ H1 D.nx
 | .six o i e=>fun D σ H=>(wp K Γ e E).e σ H fun v H1=>(wp K Γ o E).e σ H1 fun ov H2=>(wp K Γ i E).e σ H2 fun iv H3=>setR K ov iv v H3 fun H4=>D.nx σ H4
 | .sdf i k=>fun D σ H=>(wp K Γ (sdX i k) E).e σ H fun _ H1=>D.nx σ H1
 | .whl c body=>tWhile (wp K Γ c E).t (wps K Γ E body)
 | .frz _ s=>wps K Γ E s
 | .hs s=>wps K Γ E s
def needsS(G:Glob):PT->Prop
 | .nil=>True
 | .seq s r=>needsS G s/\needsS G r
 | .set _ e=>XA G e
 | .own _ e=>XA G e
 | .tset _ e=>XA G e
 | .six o i e=>XA G o/\XA G i/\XA G e
 | .sdf i k=>XA G (sdX i k)
 | .whl c body=>XA G c/\needsS G body
 | .frz _ s=>needsS G s
 | .hs s=>needsS G s
 | .expr e=>XA G e
 | .ret e=>XA G e
 | .ife c a b=>XA G c/\needsS G a/\needsS G b
 | .for_ _ ik its body=>ikN G ik/\XA G its/\needsS G body
def noComp:Expr->Bool
 | .ListComp _ _ _ _ | .SetComp _ _ _ _ | .DictComp _ _ _ _ _=>false
 |_=>true
def storeB(S:SC)(i:Nat)(x:Str):Bool:=S.N[i]?==some x&&(S.sc.names.lookup x==some .local||S.sc.names.lookup x==some .cell)
def isOne:PT->Bool
 | .nil=>false
 | .seq _ _=>false
 | .frz _ s=>isOne s
 | .hs s=>isOne s
 |_=>true
def onAsg(s:Stmt)(f:List Expr->Expr->Bool):Bool:=match s with | .Assign ts v _=>f ts v|_=>false
def onEx(s:Stmt)(f:Expr->Bool):Bool:=match s with | .Expr v _=>f v|_=>false
def onRet(s:Stmt)(f:Option Expr->Bool):Bool:=match s with | .Return v _=>f v|_=>false
def onIfS(s:Stmt)(f:Expr->List Stmt->List Stmt->Bool):Bool:=match s with | .If t x y _=>f t x y|_=>false
def onFor(s:Stmt)(f:Expr->Expr->List Stmt->List Stmt->Pos->Bool):Bool:=match s with | .For t it x y p=>f t it x y p|_=>false
def onWh(s:Stmt)(f:Expr->List Stmt->List Stmt->Bool):Bool:=match s with | .While t x y _=>f t x y|_=>false
def noTup:Expr->Bool
 | .Tuple _ _ _=>false
 | .List _ _=>false
 |_=>true
theorem onAsg_i{f:List Expr->Expr->Bool}(h:onAsg s f=true):∃ts v p,s=.Assign ts v p/\f ts v=true:=by
 cases s with
 |Assign ts v p=>exact⟨ts,v,p,rfl,h⟩
 |_=>exact(QD h).elim
theorem onEx_i{f:Expr->Bool}(h:onEx s f=true):∃v p,s=.Expr v p/\f v=true:=by
 cases s with
 |Expr v p=>exact⟨v,p,rfl,h⟩
 |_=>exact(QD h).elim
theorem onRet_i{f:Option Expr->Bool}(h:onRet s f=true):∃v p,s=.Return v p/\f v=true:=by
 cases s with
 |Return v p=>exact⟨v,p,rfl,h⟩
 |_=>exact(QD h).elim
theorem onIfS_i(h:onIfS s f=true):∃t x y p,s=.If t x y p/\f t x y=true:=by
 cases s with
 |If t x y p=>exact⟨t,x,y,p,rfl,h⟩
 |_=>exact(QD h).elim
theorem onFor_i{f:Expr->Expr->List Stmt->List Stmt->Pos->Bool}(h:onFor s f=true):∃t it x y p,s=.For t it x y p/\f t it x y p=true:=by
 cases s with
 |For t it x y p=>exact⟨t,it,x,y,p,rfl,h⟩
 |_=>exact(QD h).elim
theorem onWh_i(h:onWh s f=true):∃t x y p,s=.While t x y p/\f t x y=true:=by
 cases s with
 |While t x y p=>exact⟨t,x,y,p,rfl,h⟩
 |_=>exact(QD h).elim
def setB(S:SC)(i:Nat)(c:Expr->Bool)(l:List Stmt):Bool:=on1 l fun st=>onAsg st fun ts v=>on1 ts fun t=>onName t fun x _=>storeB S i x&&((noComp v||S.sc.names.lookup x==some .cell)&&c v)
def isCmp:PX->Bool
 | .comp _ _ _ _ _ _ _=>true
 |_=>false
def setCB(S:SC)(i:Nat)(e:PX)(l:List Stmt):Bool:=on1 l fun st=>onAsg st fun ts v=>on1 ts fun t=>onName t fun x px=>onLC v fun el gs sc cp=>locB S i x&&(S.sc.kind==.function&&(px.line==cp.line&&(!(sc.names.any fun(n,k)=>n==x&&(k==.local||k==.cell))&&(isCmp e&&chk e S (.ListComp el gs sc cp)))))
def chkS:PT->SC->List Stmt->Bool
 | .nil,_,l=>l.isEmpty
 | .seq s r,S,l=>onC l fun st l=>isOne s&&(chkS s S [st]&&chkS r S l)
 | .set i e,S,l=>setB S i (chk e S) l||setCB S i e l
 | .own i e,S,l=>setB S i (chk e S) l||setCB S i e l
 | .frz _ s,S,l=>chkS s S l
 | .hs s,S,l=>chkS s S l
 | .expr e,S,l=>on1 l fun st=>onEx st fun v=>noComp v&&chk e S v
 | .ret e,S,l=>on1 l fun st=>onRet st fun v=>onO v false (chk e S)
 | .ife c a b,S,l=>on1 l fun st=>onIfS st fun t x y=>chk c S t&&(chkS a S x&&chkS b S y)
 | .for_ tg ik its body,S,l=>on1 l fun st=>onFor st fun t it x y pos=>y.isEmpty&&(tgB true S tg t&&(noSet it&&(itC (isArgs its) S ik (fun es p=>chk its S (.List es p)) t it pos&&chkS body S x)))
 | .tset is e,S,l=>on1 l fun st=>onAsg st fun ts v=>on1 ts fun t=>noTup v&&(noComp v&&(isTupE t&&(tgB true S (.tp is) t&&chk e S v)))
 | .six o i e,S,l=>on1 l fun st=>onAsg st fun ts v=>on1 ts fun t=>onSub t fun ov iv _=>noSlice iv&&(noComp v&&(chk e S v&&(chk o S ov&&chk i S iv)))
 | .sdf i k,S,l=>on1 l fun st=>onEx st fun v=>noComp v&&chk (sdX i k) S v
 | .whl c body,S,l=>on1 l fun st=>onWh st fun t x y=>y.isEmpty&&(chk c S t&&chkS body S x)
structure OkS(X:Cx)(S:SC)(G:Glob)(E:XK):Prop extends OkX X S G E where
 po:PassesOwn (model X.prog X.w) X.A X.env X.xe
 nd:X.N.Nodup
 cel:∀x,X.fn x=true
end
section
variable{X:Cx}{S:SC}{G:Glob}{E:XK}
section
variable{i:Nat}{x:Str}{e:PX}
theorem noSwap{e:Expr}{t:Option Expr}{n:Nat}{env:Env}(h:noComp e=true):swapsWith e t n env=pure false:=by cases e<;>first|rfl|cases h
theorem set_setR(hu:X.A.units+66<cLine):PSet X (setR X.K):=by
 intro pins s σ H o i v ov iv u Q I ro ri rv h;cases o with
 |ref p =>
  cases i with
  |int k=>obtain⟨xs,j,h1,h2,q⟩:=h;exact set_list pins s σ H _ _ v ov iv u Q I ro ri rv ⟨p,xs,k,j,rfl,rfl,h1,h2,q⟩
  |str z=>exact set_dict hu pins s σ H _ _ v ov iv u Q I ro ri rv h
  |ref b=>exact set_dict hu pins s σ H _ _ v ov iv u Q I ro ri rv h
  |_=>exact QW h
 |_=>exact QW h
theorem storeB_ok(ok:OkX X S G E)(h:storeB S i x=true):X.N[i]?=some x/\Loc X.env.scope x:=by simp only[storeB,Qb,wF,beq_iff_eq]at h;rw[ok.N,ok.sc];exact⟨h.1,h.2⟩
theorem ps_setAny(ok:OkS X S G E){v:Expr}{px pos:Pos}(h1:storeB S i x=true)(h2:(noComp v||S.sc.names.lookup x==some .cell)=true)(pe:PE X v (wp X.K G.ev e E).e) :
  PS X (.Assign [.Name x px] v pos) (wps X.K G.ev E (.set i e)):=by
 obtain⟨g1,g2⟩:=storeB_ok ok.toOkX h1;refine ps_set (pos':=px) ok.nd g1 g2 pe ?_ (.inl (ok.cel x));cases hn:noComp v with
 |true=>exact noSwap hn
 |false =>
  rw[hn,QAz,beq_iff_eq,<- ok.sc]at h2;have hk:X.env.kindOf x=some .cell:=h2;have key:∀(b c:Bool) (p1 p2:Nat),(pure (b&&X.env.kindOf x==some .local&&p1==p2&&!c):Sem Bool)=pure false:=fun b c p1 p2=>by
   rw[hk];have:(b&&(some NameKind.cell==some NameKind.local)&&p1==p2&&!c)=false:=by cases b<;>rfl
   rw[this]
  cases v with
  |ListComp el gs sc cp=>exact key _ _ _ _
  |SetComp el gs sc cp=>exact key _ _ _ _
  |DictComp k v gs sc cp=>exact key _ _ _ _
  |_=>cases hn
theorem isCmp_i(h:isCmp e=true):∃a b c d f g k,e=.comp a b c d f g k:=by
 cases e with
 |comp a b c d f g k=>exact⟨a,b,c,d,f,g,k,rfl⟩
 |_=>exact(QD h).elim
theorem ps_cmp(ok:OkS X S G E){l:List Stmt}(h:setCB S i e l=true)(nd:XA G e):∃st,l=[st]/\PS X st (wps X.K G.ev E (.set i e)):=by
 obtain⟨st,e1,q1⟩:=on1_i h;obtain⟨ts,v,p,e2,q2⟩:=onAsg_i q1;obtain⟨t,e3,q3⟩:=on1_i q2;obtain⟨x,px,e4,q4⟩:=onName_i q3;obtain⟨el,gs,sc,cp,e5,q5⟩:=onLC_i q4;subst e1 e2 e3 e4 e5;have h1:=yA q5;have h2:=yA h1.2;have h3:=yA h2.2;have h4:=yA h3.2;have h5:=yA h4.2;obtain⟨mask,tgs,tg,ik,its,cond,elt,rfl⟩:=isCmp_i h5.1;refine⟨_,rfl,?_⟩;have h6:=h5.2;obtain⟨el',gens,scope,pos,ee,g⟩:=onLC_i h6;cases ee;obtain⟨⟨t,it,ifs,asy⟩,rfl,g⟩:=on1_i g;have g0:=yA g;have gi:=yA g0.2;have g1:=yA gi.2;have g2:=yA g1.2;have g3:=yA g2.2;have g4:=yA g3.2;have g5:=yA g4.2;have ea:asy=0:=qV g0.1;cases ea;have C:CompSt X.N X.env.scope sc tgs mask:=by rw[ok.N,ok.sc];exact compB_ok g1.1
 obtain⟨n1,n2,n3,n4⟩:=nd;obtain⟨l1,l2⟩:=locB_ok h1.1;have l2':X.env.scope.names.lookup x=some .local:=by rw[ok.sc];exact l2
 refine ps_setC (g:=bindT X.K tg) (tc:=if isNop cond=true then fun _ H Q=>Q true H else(wp X.K G.ev cond (fun _ _ _=>False)).t) (te:=(wp X.K G.ev elt (fun _ _ _=>False)).e) ok.calm ok.nd (by rw[ok.N];exact l1) l2' (pi_ofS ok.toOkX (pos:=cp) g4.1 n1 ((Q4 _).mp gi.1) fun es p q=>snd its ok.toOkX q n2) C (fun s H ex=>?_) (fun x=>noFold g3.1 x) ?_;have okc:=ok.toOkX.comp sc tgs mask s H ex;refine⟨pg_tg okc (fun z=>(QD z).elim) C.nd g2.1,?_,(snd elt okc g5.2 n4).pe⟩;have hif:=g5.1;cases ifs with
 |nil=>have e:isNop cond=true:=hif;simp only[e,if_true];exact pif_nil
 |cons c r=>have p1:=yA hif;have p2:=yA p1.2;cases Qr.mp p1.1;have e:isNop cond=false:=(Q4 _).mp p2.1;simp only[e,qN,if_false];exact pif_one (snd cond okc p2.2 n3).pt
 have k1:X.env.scope.kind=.function:=by rw[ok.sc];exact qV h2.1
 have k2:(X.env.blockKind==.function)=true:=by simp[Env.blockKind,k1,ScopeKind.isAnnotationScope]
 have k3:(X.env.kindOf x==some .local)=true:=by show(X.env.scope.names.lookup x==some .local)=true;rw[l2'];rfl
 show(pure (X.env.blockKind==.function&&X.env.kindOf x==some .local&&px.line==cp.line&&!(sc.names.any fun(n,k)=>n==x&&(k==.local||k==.cell))):Sem Bool)=pure true;rw[k2,k3,h3.1,h4.1];rfl
theorem snds:∀(p:PT) {l:List Stmt},OkS X S G E->chkS p S l=true->needsS G p->PSs X l (wps X.K G.ev E p)/\(isOne p=true->∀st,l=[st]->PS X st (wps X.K G.ev E p)):=by
 intro p;have one:∀{p:PT}{st:Stmt},PS X st (wps X.K G.ev E p)->PSs X [st] (wps X.K G.ev E p)/\(isOne p=true->∀st',[st]=[st']->PS X st' (wps X.K G.ev E p)):=fun h=>⟨pss_one h,fun _ st' e=>by cases e;exact h⟩
 have stor:∀{i:Nat}{e:PX}{l:List Stmt},OkS X S G E->(setB S i (chk e S) l||setCB S i e l)=true->XA G e->∃st,l=[st]/\PS X st (wps X.K G.ev E (.set i e)):=fun {i e l} ok h nd=>by
  rcases(wF _ _).mp h with h|h
  rotate_left
  exact ps_cmp ok h nd;obtain⟨st,e1,q1⟩:=on1_i h;obtain⟨ts,v,p,e2,q2⟩:=onAsg_i q1;obtain⟨t,e3,q3⟩:=on1_i q2;obtain⟨x,px,e4,q4⟩:=onName_i q3;subst e1 e2 e3 e4;have h1:=yA q4;have h2:=yA h1.2;exact⟨_,rfl,ps_setAny ok h1.1 h2.1 (snd e ok.toOkX h2.2 nd).pe⟩
 induction p with
 |nil=>intro l ok h nd;cases Qr.mp h;exact⟨pss_nil,fun h=>(QD h).elim⟩
 |seq s r ihs ihr=>intro l ok h nd;obtain⟨st,l,rfl,h⟩:=onC_i h;have h1:=yA h;have h2:=yA h1.2;exact⟨pss_cons ((ihs ok h2.1 nd.1).2 h1.1 st rfl) (ihr ok h2.2 nd.2).1,fun h=>(QD h).elim⟩
 |set i e=>intro l ok h nd;obtain⟨st,rfl,q⟩:=stor ok h nd;exact one q
 |own i e=>intro l ok h nd;obtain⟨st,rfl,q⟩:=stor ok h nd;exact one q
 |expr e=>intro l ok h nd;obtain⟨st,rfl,h⟩:=on1_i h;obtain⟨v,p,rfl,h⟩:=onEx_i h;have h1:=yA h;exact one (ps_expr (snd e ok.toOkX h1.2 nd).pe (noSwap h1.1))
 |ret e =>
  intro l ok h nd;obtain⟨st,rfl,h⟩:=on1_i h;obtain⟨v,p,rfl,h⟩:=onRet_i h;cases v with
  |none=>exact(QD h).elim
  |some v=>exact one (ps_ret (snd e ok.toOkX h nd).pe)
 |ife c a b iha ihb=>intro l ok h nd;obtain⟨st,rfl,h⟩:=on1_i h;obtain⟨t,x,y,p,rfl,h⟩:=onIfS_i h;have h1:=yA h;have h2:=yA h1.2;exact one (ps_if (snd c ok.toOkX h1.1 nd.1).pt (iha ok h2.1 nd.2.1).1 (ihb ok h2.2 nd.2.2).1)
 |for_ tg ik its body ih=>intro l ok h nd;obtain⟨st,rfl,h⟩:=on1_i h;obtain⟨t,it,x,y,p,rfl,h⟩:=onFor_i h;have h0:=yA h;have h1:=yA h0.2;have h2:=yA h1.2;have h3:=yA h2.2;cases Qr.mp h0.1;exact one (ps_for ok.po ok.calm (pi_ofS0 ok.toOkX h3.1 nd.1 fun es p q=>snd its ok.toOkX q nd.2.1) (pg_tg ok.toOkX (fun _=>ok.cel) ok.nd h1.1) (ih ok h3.2 nd.2.2).1 fun x=>noFold h2.1 x)
 |tset is e =>
  intro l ok h nd;obtain⟨st,e1,q1⟩:=on1_i h;obtain⟨ts,v,p,e2,q2⟩:=onAsg_i q1;obtain⟨t,e3,h⟩:=on1_i q2;subst e1 e2 e3;have h1:=yA h;have h2:=yA h1.2;have h3:=yA h2.2;have h4:=yA h3.2;cases t with
  |Tuple es k pt =>
   refine one (ps_asg (snd e ok.toOkX h4.2 nd).pe (pg_tg ok.toOkX (fun _=>ok.cel) ok.nd h4.1) ?_ ?_ ?_);show swapsWith v (some (.Tuple es k pt)) p.line X.env=pure false;exact noSwap h2.1;cases v<;>first|rfl|exact(QD h1.1).elim
   rfl
  |_=>exact(QD h3.1).elim
 |six o i e =>
  intro l ok h nd;obtain⟨st,e1,q1⟩:=on1_i h;obtain⟨ts,v,p,e2,q2⟩:=onAsg_i q1;obtain⟨t,e3,h⟩:=on1_i q2;subst e1 e2 e3;obtain⟨ov,iv,pp,e4,q4⟩:=onSub_i h;subst e4;have h1:=yA q4;have h2:=yA h1.2;have h3:=yA h2.2;have h4:=yA h3.2;refine one (ps_asg (snd e ok.toOkX h3.1 nd.2.2).pe (pg_sub (pos:=pp) (snd o ok.toOkX h4.1 nd.1).pe (snd i ok.toOkX h4.2 nd.2.1).pe (set_setR ok.un) ?_) ?_ ?_ ?_);intro w;cases iv<;>first|rfl|exact(QD h1.1).elim
  show swapsWith v (some (.Subscript ov iv pp)) p.line X.env=pure false;exact noSwap h2.1;cases v<;>rfl;rfl
 |sdf i k=>intro l ok h nd;obtain⟨st,rfl,h⟩:=on1_i h;obtain⟨v,p,rfl,h⟩:=onEx_i h;have h1:=yA h;exact one (ps_expr (snd (sdX i k) ok.toOkX h1.2 nd).pe (noSwap h1.1))
 |whl c body ih=>intro l ok h nd;obtain⟨st,rfl,h⟩:=on1_i h;obtain⟨t,x,y,p,rfl,h⟩:=onWh_i h;have h1:=yA h;have h2:=yA h1.2;cases Qr.mp h1.1;exact one (ps_while ok.po (snd c ok.toOkX h2.1 nd.1).pt (ih ok h2.2 nd.2).1)
 |frz is s ih=>intro l ok h nd;exact ih ok h nd
 |hs s ih=>intro l ok h nd;exact ih ok h nd
end
end
noncomputable abbrev D:=PyData
set_option genInjectivity true in
inductive T where
 |d (x:D)|lst (ts:List T)|tup (ts:List T)|dct (b:Bool) (ks:List D) (ts:List T)
mutual
def T.er:T->D
 | .d x=>x
 | .lst ts=>.list (ersT ts)
 | .tup ts=>.tuple (ersT ts)
 | .dct _ ks ts=>.dict (ks.zip (ersT ts))
def ersT:List T->List D
 |[]=>[]
 |t::r=>t.er::ersT r
end
theorem ersT_map(ds:List D):ersT (ds.map T.d)=ds:=by
 induction ds with
 |nil=>rfl
 |cons d r ih=>simp only[QN,ersT,ih,T.er]
theorem ersT_len:∀(ts:List T),(ersT ts).length=ts.length
 |[]=>rfl
 |t::r=>by simp only[ersT,QL,ersT_len r]
theorem ersT_eq:∀(ts:List T),ersT ts=ts.map T.er
 |[]=>rfl
 |t::r=>by simp only[ersT,QN,ersT_eq r]
def T.isD:T->Bool
 | .d _=>true
 |_=>false
set_option genInjectivity true in
inductive Sl where
 |own (t:T)|nk (t:T)
noncomputable abbrev kA:=List (Option Sl)
def esc(t:T)(n:Bool):Bool:=n||t.isD
def fA(t:T):Bool->T
 |true=>.d t.er
 |false=>t
theorem rA(x:D)(n:Bool):fA (.d x) n=.d x:=by cases n<;>rfl
theorem frzN_er(t:T)(n:Bool):(fA t n).er=t.er:=by cases n<;>rfl
def unD:List T->Option (List D)
 |[]=>some []
 | .d x::r=>(unD r).map (x::·)
 |_::_=>none
theorem iA(ds:List D):unD (ds.map T.d)=some ds:=by
 induction ds with
 |nil=>rfl
 |cons d r ih=>simp only[QN,unD,ih,Q6]
theorem unD_some:∀{ts:List T}{ds:List D},unD ts=some ds->ts=ds.map T.d
 |[],ds,h=>by simp only[unD,Ql]at h;subst h;rfl
 | .d x::r,ds,h=>by
  simp only[unD]at h;cases e:unD r with
  |none=>rw[e]at h;cases h
  |some es=>rw[e]at h;cases h;rw[QN,unD_some e]
 | .lst _::_,_,h=>by simp[unD]at h
 | .tup _::_,_,h=>by simp[unD]at h
 | .dct _ _ _::_,_,h=>by simp[unD]at h
def kindD:List (D×D)->Option Bool
 | (.tuple _,_)::_=>some true
 | (.str _,_)::_=>some false
 |_=>none
def keyK:Bool->D->Prop
 |true,k=>∃q,k=tD q
 |false,k=>∃z,k=.str z
open Classical in
def dA:List D->D->Option Nat
 |[],_=>none
 |x::r,k=>if x=k then some 0 else(dA r k).map (·+1)
def putD(b:Bool)(ks:List D)(ts:List T)(k:D)(t:T):T:=match dA ks k with
 |some n=>.dct b ks (ts.set n t)
 |none=>.dct b (ks++[k]) (ts++[t])
theorem findK_lt:∀{ks:List D}{k:D}{n:Nat},dA ks k=some n->ks[n]?=some k
 |[],_,_,h=>by cases h
 |x::r,k,n,h=>by
  unfold dA at h;by_cases e:x=k;rw[if_pos e]at h;cases h;rw[e];rfl;rw[if_neg e]at h;cases q:dA r k with
  |none=>rw[q]at h;cases h
  |some m=>rw[q]at h;cases h;simpa using findK_lt q
theorem findK_none:∀{ks:List D}{k:D},dA ks k=none↔k∉ks
 |[],_=>by simp[dA]
 |x::r,k=>by unfold dA;by_cases e:x=k;simp[e];rw[if_neg e,Option.map_eq_none_iff,findK_none];simp[Qy e]
theorem findK_some{ks:List D}{k:D}:(dA ks k).isSome=true↔k∈ks:=by
 cases h:dA ks k with
 |none=>simp[findK_none.mp h]
 |some n=>simp[qF (findK_lt h)]
set_option genInjectivity true in
inductive Vw where
 |sc (x:D)|ls (ts:List T)|tp (ts:List T)|dc (b:Bool) (ks:List D) (ts:List T)
def vwDict(kvs:List (D×D)):Vw:=match kindD kvs with
 |some b=>.dc b (kvs.map (·.1)) (kvs.map fun p=>T.d p.2)
 |none=>.sc (.dict kvs)
def T.vw:T->Vw
 | .lst ts=>.ls ts
 | .tup ts=>.tp ts
 | .dct b ks ts=>.dc b ks ts
 | .d x=>match x with
  | .list ds=>.ls (ds.map T.d)
  | .tuple ds=>.tp (ds.map T.d)
  | .dict kvs=>vwDict kvs
  | .none=>.sc .none
  | .bool b=>.sc (.bool b)
  | .int i=>.sc (.int i)
  | .str s=>.sc (.str s)
def mkTup(ts:List T):T:=match unD ts with
 |some ds=>.d (.tuple ds)
 |none=>.tup ts
noncomputable abbrev XD:=Value×List (Str×D)
noncomputable abbrev XE:=XD->Prop
noncomputable abbrev TK:=T->Bool->kA->Prop
inductive Md where
 |nq|nr|nk|chg
 deriving DecidableEq
structure PSp where
 md:List Md
 run:List T->(T->List T->Prop)->XE->Prop
 mono:∀{ts:List T}{Q Q':T->List T->Prop}{E E':XE},(∀t os,Q t os->Q' t os)->(∀x,E x->E' x)->run ts Q E->run ts Q' E'
structure PEv where
 sp:Str->PSp
 va:Str->Option D
def binT(op:Operator)(x y:Vw)(Q:T->Bool->Prop):Prop:=match op with
 | .Add=>(∃i j,x=.sc (.int i)/\y=.sc (.int j)/\Q (.d (.int (i+j))) false)∨(∃a b,x=.sc (.str a)/\y=.sc (.str b)/\a.length+b.length<=sizeLine/\Q (.d (.str (a++b))) false) ∨
  (∃xs ys ds es,x=.ls xs/\y=.ls ys/\unD xs=some ds/\unD ys=some es/\ds.length+es.length<=sizeLine/\Q (.lst ((ds++es).map T.d)) true) ∨
  (∃xs ys ds es,x=.tp xs/\y=.tp ys/\unD xs=some ds/\unD ys=some es/\ds≠[]/\es≠[]/\ds.length+es.length<=sizeLine/\Q (.d (.tuple (ds++es))) false)
 | .Sub=>∃i j,x=.sc (.int i)/\y=.sc (.int j)/\Q (.d (.int (i - j))) false
 | .Mult=>(∃i j,x=.sc (.int i)/\y=.sc (.int j)/\IntMulOk i j/\Q (.d (.int (i * j))) false)∨(∃a k,x=.sc (.str a)/\y=.sc (.int k)/\(-(2 ^ 31)<=k/\k<2 ^ 31/\a.length * k.toNat<=sizeLine)/\Q (.d (.str (repS a k))) false)
 | .FloorDiv=>∃i j,x=.sc (.int i)/\y=.sc (.int j)/\(0<j/\j<2 ^ 200)/\Q (.d (.int (i / j))) false
 | .Mod=>∃i j,x=.sc (.int i)/\y=.sc (.int j)/\0<j/\Q (.d (.int (i % j))) false
 |_=>False
section
variable{Q:T->Bool->Prop}
theorem binT_1(i j:Int):binT .Add (.sc (.int i)) (.sc (.int j)) Q=Q (.d (.int (i+j))) false:=by simp[binT]
theorem binT_3(xs ys:List T):binT .Add (.ls xs) (.ls ys) Q=∃ds es,unD xs=some ds/\unD ys=some es/\ds.length+es.length<=sizeLine/\Q (.lst ((ds++es).map T.d)) true:=by simp[binT]
theorem binT_5(i j:Int):binT .Sub (.sc (.int i)) (.sc (.int j)) Q=Q (.d (.int (i - j))) false:=by simp[binT]
theorem binT_6(i j:Int):binT .Mult (.sc (.int i)) (.sc (.int j)) Q=(IntMulOk i j/\Q (.d (.int (i * j))) false):=by simp[binT]
theorem binT_7(a:Str)(k:Int):binT .Mult (.sc (.str a)) (.sc (.int k)) Q=((-(2 ^ 31)<=k/\k<2 ^ 31/\a.length * k.toNat<=sizeLine)/\Q (.d (.str (repS a k))) false):=by simp[binT]
theorem binT_8(i j:Int):binT .FloorDiv (.sc (.int i)) (.sc (.int j)) Q=((0<j/\j<2 ^ 200)/\Q (.d (.int (i / j))) false):=by simp[binT]
theorem binT_9(i j:Int):binT .Mod (.sc (.int i)) (.sc (.int j)) Q=(0<j/\Q (.d (.int (i % j))) false):=by simp[binT]
end
section
variable{Q:T->Prop}
def eqD:D->D->(Bool->Prop)->Prop
 | .int i,.int j,Q=>Q (decide (i=j))
 | .str x,.str y,Q=>Q (decide (x=y))
 | .bool x,.bool y,Q=>Q (decide (x=y))
 |a,b,Q=>okD a/\okD b/\Q (Qw a b)
def flatD:D->Bool
 | .none | .bool _ | .int _ | .str _=>true
 |_=>false
def inD:D->D->(Bool->Prop)->Prop
 | .str x,.str y,Q=>Q (inStr y x)
 |a,.list ds,Q|a,.tuple ds,Q=>((flatD a=true/\ds.all flatD=true)∨(okD a/\okD (.list ds)))/\Q (ds.any fun y=>Qw y a)
 |a,.dict kvs,Q=>∃b,kindD kvs=some b/\keyK b a/\Q (dA (kvs.map (·.1)) a).isSome
 |_,_,_=>False
def ordD(f:Int->Int->Bool):D->D->(Bool->Prop)->Prop
 | .int i,.int j,Q=>Q (f i j)
 |_,_,_=>False
def isBD(a b:D)(Q:Bool->Prop):Prop:=∃x y,a=.bool x/\b=.bool y/\Q (decide (x=y))
def cmpD:CmpOp->D->D->(Bool->Prop)->Prop
 | .Eq,a,b,Q=>eqD a b Q
 | .NotEq,a,b,Q=>eqD a b fun k=>Q (!k)
 | .Lt,a,b,Q=>ordD (fun i j=>decide (i<j)) a b Q
 | .LtE,a,b,Q=>ordD (fun i j=>decide (i<=j)) a b Q
 | .Gt,a,b,Q=>ordD (fun i j=>decide (j<i)) a b Q
 | .GtE,a,b,Q=>ordD (fun i j=>decide (j<=i)) a b Q
 | .In,a,b,Q=>inD a b Q
 | .NotIn,a,b,Q=>inD a b fun k=>Q (!k)
 | .Is,a,b,Q=>isBD a b Q
 |_,_,_,_=>False
def cmpT(op:CmpOp)(x:D)(y:T)(Q:Bool->Prop):Prop:=match y with
 | .dct b ks _=>keyK b x/\((op=.In/\Q (dA ks x).isSome)∨(op=.NotIn/\Q (!(dA ks x).isSome)))
 | .d y=>cmpD op x y Q
 | .lst ts=>cmpD op x (.list (ersT ts)) Q
 | .tup ts=>cmpD op x (.tuple (ersT ts)) Q
def truD:D->(Bool->Prop)->Prop
 | .bool b,Q=>Q b
 | .int i,Q=>Q (i != 0)
 | .none,Q=>Q false
 | .str z,Q=>z.length<=sizeLine/\Q ((z.length:Int) != 0)
 | .list ds,Q=>Q (!ds.isEmpty)
 | .tuple ds,Q=>Q (!ds.isEmpty)
 |_,_=>False
def asD:D->(Bool->Prop)->Prop
 | .bool b,Q=>Q b
 |_,_=>False
def dixT(x:Vw)(k:D)(Q:T->Prop):Prop:=∃b ks ts n t,x=.dc b ks ts/\keyK b k/\dA ks k=some n/\ts[n]?=some t/\Q t
def idxT(x y:Vw)(Q:T->Prop):Prop:=(∃z i c,x=.sc (.str z)/\y=.sc (.int i)/\z.length<=sizeLine/\atI z.cps.toList i=some c/\Q (.d (.str ⟨#[c]⟩))) ∨
 (∃ts i t,x=.ls ts/\y=.sc (.int i)/\atI ts i=some t/\Q t)∨(∃ts i t,x=.tp ts/\y=.sc (.int i)/\atI ts i=some t/\Q t)
theorem idxT_1(z:Str)(i:Int):idxT (.sc (.str z)) (.sc (.int i)) Q=(z.length<=sizeLine/\∃c,atI z.cps.toList i=some c/\Q (.d (.str ⟨#[c]⟩))):=by simp[idxT]
theorem idxT_2(ts:List T)(i:Int):idxT (.ls ts) (.sc (.int i)) Q=∃t,atI ts i=some t/\Q t:=by simp[idxT]
theorem idxT_3(ts:List T)(i:Int):idxT (.tp ts) (.sc (.int i)) Q=∃t,atI ts i=some t/\Q t:=by simp[idxT]
def cutD{α:Type}(xs:List α)(lo hi:Option Int):List α:=(xs.drop (HT.sIx xs.length 0 lo)).take (HT.sIx xs.length xs.length hi - HT.sIx xs.length 0 lo)
def slcT(x:Vw)(lo hi:Option Int)(Q:T->Bool->Prop):Prop:=(∃z,x=.sc (.str z)/\z.length<=sizeLine/\Q (.d (.str (QBz z lo hi))) false)∨(∃ts ds,x=.ls ts/\unD ts=some ds/\Q (.lst ((cutD ds lo hi).map T.d)) true) ∨
 (∃ts ds,x=.tp ts/\unD ts=some ds/\¬ (HT.sIx ds.length 0 lo=0/\HT.sIx ds.length ds.length hi=ds.length)/\Q (.d (.tuple (cutD ds lo hi))) false)
end
section
variable{Q:T->Bool->Prop}{lo hi:Option Int}
theorem slcT_2(ts:List T):slcT (.ls ts) lo hi Q=∃ds,unD ts=some ds/\Q (.lst ((cutD ds lo hi).map T.d)) true:=by simp[slcT]
end
def partD:D->(Option Int->Prop)->Prop
 | .int i,Q=>Q (some i)
 |_,_=>False
def isD(n:String):D->Option Bool
 | .none=>some false
 | .bool _=>some (n == "bool" || n == "int")
 | .int _=>some (n == "int")
 | .str _=>some (n == "str")
 | .list _=>some (n == "list")
 | .tuple _=>some (n == "tuple")
 | .dict _=>none
def isTyN(n:String):Bool:=n == "bool" || n == "int" || n == "str" || n == "list" || n == "tuple" || n == "ValueError"
def strsD(l:List Str):D:=.list (l.map PyData.str)
def biT(f:Bi)(vs:List Vw)(Q:T->Bool->Prop):Prop:=match f with
 | .len=>(∃z,vs=[.sc (.str z)]/\z.length<=sizeLine/\Q (.d (.int z.length)) false)∨(∃ts,vs=[.ls ts]/\Q (.d (.int ts.length)) false)∨(∃ts,vs=[.tp ts]/\Q (.d (.int ts.length)) false)
 | .all=>∃ts,∃bs:List Bool,vs=[.ls ts]/\unD ts=some (bs.map PyData.bool)/\Q (.d (.bool (bs.all id))) false
 | .any=>∃ts,∃bs:List Bool,vs=[.ls ts]/\unD ts=some (bs.map PyData.bool)/\Q (.d (.bool (bs.any id))) false
 | .list=>∃ts ds,vs=[.ls ts]/\unD ts=some ds/\Q (.lst (ds.map T.d)) true
 | .sorted=>∃ts,∃ss:List Str,vs=[.ls ts]/\unD ts=some (ss.map PyData.str)/\ss.length<64/\∀ss':List Str,ss'.Perm ss->sortedS ss'=true->Q (.lst ((ss'.map PyData.str).map T.d)) true
section
variable{Q:T->Bool->Prop}
theorem biT_2(ts:List T):biT .len [.ls ts] Q=Q (.d (.int ts.length)) false:=by simp[biT]
theorem biT_3(ts:List T):biT .len [.tp ts] Q=Q (.d (.int ts.length)) false:=by simp[biT]
theorem biT_5(ts:List T):biT .list [.ls ts] Q=∃ds,unD ts=some ds/\Q (.lst (ds.map T.d)) true:=by simp[biT]
end
def lsetT(x:Vw)(Q:T->Bool->Prop):Prop:=∃ts,∃ss:List Str,x=.ls ts/\unD ts=some (ss.map PyData.str)/\ss.length<4000/\∀zs:List Str,zs.Nodup->(∀s,s∈zs↔s∈ss)->Q (.d (.int zs.length)) false
def mtT(m:Mt)(x:Vw)(vs:List Vw)(Q:T->Bool->Prop):Prop:=match m with
 | .join=>∃z ts,∃ys:List Str,x=.sc (.str z)/\vs=[.ls ts]/\unD ts=some (ys.map PyData.str)/\(ys.map (·.length)).sum+ys.length * z.length<=16777216/\Q (.d (.str (QAL z ys))) false
 |_=>False
theorem mtT_1{Q:T->Bool->Prop}(z:Str)(ts:List T):mtT .join (.sc (.str z)) [.ls ts] Q=∃ys:List Str,unD ts=some (ys.map PyData.str)/\(ys.map (·.length)).sum+ys.length * z.length<=16777216/\Q (.d (.str (QAL z ys))) false:=by simp[mtT]
def Vw.isS:Vw->Bool
 | .sc (.str _)=>true
 |_=>false
def isMut:Mt->Bool
 | .append=>true
 | .pop=>true
 | .setd=>true
 | .join=>false
def mtTy(m:Mt)(x:Vw):Bool:=x.isS&&!isMut m
def mutT(m:Mt)(s:T)(us:List T)(N:T->T->Prop):Prop:=match m with
 | .append=>∃ts t,s=.lst ts/\us=[t]/\ts.length<sizeLine/\N (.d .none) (.lst (ts++[t]))
 | .pop=>∃ts i k t,s=.lst ts/\us=[.d (.int i)]/\ixN ts.length i=some k/\ts[k]?=some t/\N t (.lst (ts.eraseIdx k))
 |_=>False
theorem mutT_1{N:T->T->Prop}(ts:List T)(t:T):mutT .append (.lst ts) [t] N=(ts.length<sizeLine/\N (.d .none) (.lst (ts++[t]))):=by simp[mutT]
theorem mutT_2{N:T->T->Prop}(ts:List T)(i:Int):mutT .pop (.lst ts) [.d (.int i)] N=∃k t,ixN ts.length i=some k/\ts[k]?=some t/\N t (.lst (ts.eraseIdx k)):=by simp[mutT]
def isMutL:Mt->Bool
 | .append=>true
 | .pop=>true
 | .setd=>false
 | .join=>false
def mutTy(m:Mt):T->Bool
 | .lst _=>isMutL m
 |_=>false
def Vw.seq:Vw->Option (List T)
 | .ls ts=>some ts
 | .tp ts=>some ts
 |_=>none
def itemsT(ik:ItK)(vs:List Vw)(R:List T->Prop):Prop:=match ik with
 | .val=>(∃z,vs=[.sc (.str z)]/\R (z.cps.toList.map fun c=>.d (.str ⟨#[c]⟩)))∨(∃ts,vs=[.ls ts]/\R ts)∨(∃ts,vs=[.tp ts]/\R ts)∨(∃ks ts,vs=[.dc true ks ts]/\R (ks.map T.d))
 | .rng1=>∃j,vs=[.sc (.int j)]/\(-(2 ^ 62)<=j/\j<2 ^ 62)/\R ((Qz j.toNat).map fun(i:Nat)=>.d (.int (i:Int)))
 | .enum=>∃x ts ds,vs=[x]/\x.seq=some ts/\unD ts=some ds/\R (ds.zipIdx.map fun p=>.d (.tuple [.int (p.2:Int),p.1]))
 | .itm=>(∃ks ts ds,vs=[.dc true ks ts]/\unD ts=some ds/\R ((ks.zip ds).map fun p=>.d (.tuple [p.1,p.2])))∨(vs=[.sc (.dict [])]/\R [])
section
variable{R:List T->Prop}
theorem itemsT_2(ts:List T):itemsT .val [.ls ts] R=R ts:=by simp[itemsT]
theorem itemsT_4(j:Int):itemsT .rng1 [.sc (.int j)] R=((-(2 ^ 62)<=j/\j<2 ^ 62)/\R ((Qz j.toNat).map fun(i:Nat)=>.d (.int (i:Int)))):=by simp[itemsT]
theorem itemsT_5(x:Vw):itemsT .enum [x] R=∃ts ds,x.seq=some ts/\unD ts=some ds/\R (ds.zipIdx.map fun p=>.d (.tuple [.int (p.2:Int),p.1])):=by apply propext;constructor;rintro⟨_,ts,ds,⟨⟩,h⟩;exact⟨ts,ds,h⟩;rintro⟨ts,ds,h⟩;exact⟨_,ts,ds,rfl,h⟩
theorem itemsT_6(ks:List D)(ts:List T):itemsT .itm [.dc true ks ts] R=∃ds,unD ts=some ds/\R ((ks.zip ds).map fun p=>.d (.tuple [p.1,p.2])):=by apply propext;constructor;rintro(⟨_,_,ds,⟨⟩,h⟩| ⟨⟨⟩,_⟩);exact⟨ds,h⟩;rintro⟨ds,h⟩;exact .inl ⟨_,_,ds,rfl,h⟩
theorem itemsT_8(ks:List D)(ts:List T):itemsT .val [.dc true ks ts] R=R (ks.map T.d):=by simp[itemsT]
theorem itemsT_7:itemsT .itm [.sc (.dict [])] R=R []:=by apply propext;constructor;rintro(⟨_,_,ds,⟨⟩,h⟩| ⟨_,h⟩);exact h;exact fun h=>.inr ⟨rfl,h⟩
end
section
variable{K:QA}{H H':Hp}{vs:List V}{ds:List D}
def setAllT:List Nat->List T->kA->Option kA
 |[],[],ρ=>some ρ
 |i::is,t::ts,ρ=>setAllT is ts (ρ.set i (some (.nk t)))
 |_,_,_=>none
def bindV:Tg->T->kA->(kA->Prop)->Prop
 | .nm i,t,ρ,Q=>Q (ρ.set i (some (.nk t)))
 | .tp is,t,ρ,Q=>match t.vw with
  | .tp ts=>∃ρ',setAllT is ts ρ=some ρ'/\Q ρ'
  |_=>False
def Tg.ix:Tg->List Nat
 | .nm i=>[i]
 | .tp is=>is
def rootOf:PX->Option Nat
 | .var i=>some i
 |_=>none
def lockS:Option Sl->Option Sl
 |some (.own t)=>some (.nk t)
 |s=>s
def lockA(ρ:kA):kA:=ρ.map lockS
def lock:List Nat->kA->kA
 |[],ρ=>ρ
 |i::is,ρ=>lock is (ρ.modify i lockS)
def frzS:Option Sl->Option Sl
 |some (.own t)=>some (.nk (.d t.er))
 |s=>s
def frzAt:List Nat->kA->kA
 |[],ρ=>ρ
 |i::is,ρ=>frzAt is (ρ.modify i frzS)
def killS:Option Sl->Option Sl
 |some (.nk t)=>if t.isD=true then some (.nk t) else none
 |s=>s
def kill:List Nat->kA->kA
 |[],ρ=>ρ
 |i::is,ρ=>kill is (ρ.modify i killS)
def clear:List Nat->kA->kA
 |[],ρ=>ρ
 |i::is,ρ=>clear is (ρ.set i none)
def HA:List Nat->kA->Option (List T)
 |[],_=>some []
 |i::is,ρ=>match ρ[i]? with
  |some (some (.own t))=>(HA is ρ).map (t::·)
  |_=>none
def putOwns:List Nat->List T->kA->Option kA
 |[],[],ρ=>some ρ
 |i::is,t::ts,ρ=>putOwns is ts (ρ.set i (some (.own t)))
 |_,_,_=>none
def maskP:List Bool->kA->kA
 |b::m,v::ρ=>(if b then none else v)::maskP m ρ
 |_,ρ=>ρ
def entP(k:Nat)(mask:List Bool)(ρ:kA):kA:=Qs k none++maskP mask ρ
def sq{α:Type}(x:T)(ρ:kA)(b:kA->(α->kA->Prop)->Prop)(K:α->kA->Prop):Prop :=
 if x.isD=true then b ρ K else b (lockA ρ) fun y _=>K y ρ
def cu(f:kA->TK->Prop):kA->(T×Bool->kA->Prop)->Prop:=fun ρ K=>f ρ fun x n ρ'=>K (x,n) ρ'
def tsOf:List (T×Bool)->List T
 |[]=>[]
 |p::r=>p.1::tsOf r
def fzOf:List (T×Bool)->List T
 |[]=>[]
 |p::r=>fA p.1 p.2::fzOf r
def vwOf:List (T×Bool)->List Vw
 |[]=>[]
 |p::r=>(fA p.1 p.2).vw::vwOf r
def escB:List (T×Bool)->Bool
 |[]=>true
 |p::r=>esc p.1 p.2&&escB r
def allD:List (T×Bool)->Bool
 |[]=>true
 |p::r=>esc p.1 p.2&&allD r
def shalT(t:T):Option T:=match t.vw with
 | .ls ts=>(unD ts).map fun ds=>.lst (ds.map T.d)
 |_=>if t.isD=true then some t else none
def YA:List Md->List (T×Bool)->List T->Option (List T)
 |_,[],[]=>some []
 |_,[],_::_=>none
 |md,(x,n)::xs,os=>match md.headD .nq with
  | .nq=>match fA x n with
   | .d d=>(YA md.tail xs os).map (.d d::·)
   |_=>none
  | .nr=>match shalT (fA x n) with
   |some t=>(YA md.tail xs os).map (t::·)
   |none=>none
  | .nk=>(YA md.tail xs os).map (fA x n::·)
  | .chg=>match os with
   |o::os=>(YA md.tail xs os).map (o::·)
   |[]=>none
def mutTs:List Md->List T->List T
 |_,[]=>[]
 |md,t::ts=>match md.headD .nq with
  | .chg=>t::mutTs md.tail ts
  |_=>mutTs md.tail ts
def xA:List Md->PX->List Nat
 | .chg::md,.nh (.var j) as=>j::xA md as
 |_::md,.nh _ as=>xA md as
 |_,_=>[]
def Md.isMut:Md->Bool
 | .chg=>true
 |_=>false
structure D3 where
 e:kA->TK->Prop
 t:kA->(Bool->kA->Prop)->Prop
 a:List Md->kA->(List (T×Bool)->kA->Prop)->Prop
def nev:D3:=⟨fun _ _=>False,fun _ _=>False,fun _ _ _=>False⟩
def compV(body:T->(Option T->Prop)->Prop):List T->List T->(List T->Prop)->Prop
 |[],acc,Q=>acc.length<=sizeLine/\Q acc
 |x::xs,acc,Q=>body x fun
  |some y=>acc.length<sizeLine/\compV body xs (acc++[y]) Q
  |none=>compV body xs acc Q
def compBody(tg:Tg)(ρ0:kA)(c:kA->(Bool->kA->Prop)->Prop)(e:kA->TK->Prop)(x:T)(R:Option T->Prop):Prop :=
 bindV tg x ρ0 fun ρ1=>c ρ1 fun b ρ2=>if b=true then e ρ2 fun y n _=>esc y n=true/\R (some y) else R none
def isiD:PX->D->(Bool->Prop)->Prop
 | .bty _ n,d,Q=>∃b,isD n d=some b/\isTyN n=true/\Q b
 |_,_,_=>False
def negT(x:T)(Q:T->Prop):Prop:=∃i,x=.d (.int i)/\Q (.d (.int (-i)))
def rdV:Option (Option Sl)->(T->Prop)->Prop
 |some (some (.own t)),Q=>Q t
 |some (some (.nk t)),Q=>Q t
 |some none,_=>False
 |none,_=>False
def ownV:Option (Option Sl)->(T->Prop)->Prop
 |some (some (.own t)),Q=>Q t
 |some (some (.nk _)),_=>False
 |some none,_=>False
 |none,_=>False
def rootV:Option Nat->(Nat->Prop)->Prop
 |none,_=>False
 |some j,Q=>Q j
def isVar:PX->Bool
 | .var _=>true
 |_=>false
def lsT(c:List Str):T:=.lst ((c.map PyData.str).map T.d)
def hxE(p:PX)(ρ:kA)(Q:TK):Prop:=∃i,∃ls:List (List Str),p=.bi .sorted (.nh (.var i) .nj)/\ρ[i]?=some (some (.own (.lst (ls.map lsT))))/\ls.length<64/\∀ls':List (List Str),ls'.Perm ls->ls'.Pairwise leL->Q (.lst (ls'.map lsT)) true (ρ.set i none)
def hxT(p:PX)(ρ:kA)(Q:Bool->kA->Prop):Prop:=∃j us,∃ls:List (List Str),p=.cmp .NotEq (.idx (.var j) (.int 0)) (.bi .sorted (.nh (.idx (.var j) (.int 0)) .nj))/\ρ[j]?=some (some (.own (.tup us)))/\us[0]?=some (.lst (ls.map lsT))/\ls.length<64/\ls.Pairwise leL/\okD (.list (ls.map strsD))/\Q false ρ
def pe(Ψ:PEv):PX->XE->D3
 | .var i,_=>let e:kA->TK->Prop:=fun ρ Q=>rdV ρ[i]? fun t=>Q t false ρ
  ⟨e,fun ρ Q=>e ρ fun t _ ρ1=>truD t.er fun b=>Q b ρ1,nev.a⟩
 | .int i,_=>⟨fun ρ Q=>Q (.d (.int i)) false ρ,fun ρ Q=>Q (i != 0) ρ,nev.a⟩
 | .str x,_=>⟨fun ρ Q=>Q (.d (.str x)) false ρ,nev.t,nev.a⟩
 | .bl b,_=>⟨fun ρ Q=>Q (.d (.bool b)) false ρ,fun ρ Q=>Q b ρ,nev.a⟩
 | .non,_=>⟨fun ρ Q=>Q (.d .none) false ρ,fun ρ Q=>Q false ρ,nev.a⟩
 | .glo x,_=>let e:kA->TK->Prop:=fun ρ Q=>match Ψ.va x with
   |some d=>Q (.d d) false ρ
   |none=>False
  ⟨e,fun ρ Q=>e ρ fun t _ ρ1=>truD t.er fun b=>Q b ρ1,nev.a⟩
 | .bty _ _,_=>nev
 | .bin op a b,E=>let e:kA->TK->Prop:=fun ρ Q=>(pe Ψ a E).e ρ fun x n ρ1=>sq (fA x n) ρ1 (cu (pe Ψ b E).e) fun y ρ2=>binT op (fA x n).vw (fA y.1 y.2).vw fun z k=>Q z k ρ2
  ⟨e,fun ρ Q=>e ρ fun t _ ρ1=>truD t.er fun b=>Q b ρ1,nev.a⟩
 | .cmp op a b,E=>let t:kA->(Bool->kA->Prop)->Prop:=fun ρ Q=>(pe Ψ a E).e ρ fun x n ρ1=>sq (fA x n) ρ1 (cu (pe Ψ b E).e) fun y ρ2=>cmpT op x.er (fA y.1 y.2) fun k=>Q k ρ2
  ⟨fun ρ Q=>t ρ fun k ρ1=>Q (.d (.bool k)) false ρ1,t,nev.a⟩
 | .neg a,E=>⟨fun ρ Q=>(pe Ψ a E).e ρ fun x _ ρ1=>negT x fun t=>Q t false ρ1,nev.t,nev.a⟩
 | .and a b,E=>⟨fun ρ Q=>(pe Ψ a E).e ρ fun x _ ρ1=>asD x.er fun c=>if c=true then(pe Ψ b E).e ρ1 Q else Q (.d (.bool false)) false ρ1,
   fun ρ Q=>(pe Ψ a E).t ρ fun c ρ1=>if c=true then(pe Ψ b E).t ρ1 Q else Q false ρ1,nev.a⟩
 | .or a b,E=>⟨fun ρ Q=>(pe Ψ a E).e ρ fun x _ ρ1=>asD x.er fun c=>if c=true then Q (.d (.bool true)) false ρ1 else(pe Ψ b E).e ρ1 Q,
   fun ρ Q=>(pe Ψ a E).t ρ fun c ρ1=>if c=true then Q true ρ1 else(pe Ψ b E).t ρ1 Q,nev.a⟩
 | .not a,E=>⟨fun ρ Q=>(pe Ψ a E).e ρ fun x _ ρ1=>truD x.er fun c=>Q (.d (.bool (!c))) false ρ1,fun ρ Q=>(pe Ψ a E).t ρ fun c ρ1=>Q (!c) ρ1,nev.a⟩
 | .call f as,E=>let e:kA->TK->Prop:=fun ρ Q=>∃os,HA (xA (Ψ.sp f).md as) ρ=some os/\(xA (Ψ.sp f).md as).Nodup/\(pe Ψ as E).a (Ψ.sp f).md (clear (xA (Ψ.sp f).md as) ρ) fun xs ρ1=>∃ts,YA (Ψ.sp f).md xs os=some ts/\(Ψ.sp f).run ts (fun r os'=>∃ρ2,putOwns (xA (Ψ.sp f).md as) os' ρ1=some ρ2/\Q r true ρ2) E
  ⟨e,fun ρ Q=>e ρ fun t _ ρ1=>truD t.er fun b=>Q b ρ1,nev.a⟩
 | .isi a c,E=>let t:kA->(Bool->kA->Prop)->Prop:=fun ρ Q=>(pe Ψ a E).e ρ fun x _ ρ1=>isiD c x.er fun b=>Q b ρ1
  ⟨fun ρ Q=>t ρ fun k ρ1=>Q (.d (.bool k)) false ρ1,t,nev.a⟩
 | .bi f as,E=>let e:kA->TK->Prop:=fun ρ Q=>(pe Ψ as E).a [] ρ fun xs ρ1=>biT f (vwOf xs) fun z k=>Q z k ρ1
  ⟨e,fun ρ Q=>e ρ fun t _ ρ1=>truD t.er fun b=>Q b ρ1,nev.a⟩
 | .mt m o as,E=>let e:kA->TK->Prop:=fun ρ Q=>if isMut m=true then rootV (rootOf o) fun j=>ownV ρ[j]? fun t=>mutTy m t=true/\(pe Ψ as E).a [] (ρ.set j (some (.nk t))) fun xs ρ2=>escB xs=true/\ρ2[j]?=some (some (.nk t))/\mutT m t (tsOf xs) fun r s'=>Q r true (ρ2.set j (some (.own s'))) else(pe Ψ o E).e ρ fun x n ρ1=>mtTy m (fA x n).vw=true/\sq (fA x n) ρ1 ((pe Ψ as E).a []) fun xs ρ2=>mtT m (fA x n).vw (vwOf xs) fun z k=>Q z k ρ2
  ⟨e,fun ρ Q=>e ρ fun t _ ρ1=>truD t.er fun b=>Q b ρ1,nev.a⟩
 | .idx a b,E=>let e:kA->TK->Prop:=fun ρ Q=>(pe Ψ a E).e ρ fun x n ρ1=>sq (fA x n) ρ1 (cu (pe Ψ b E).e) fun y ρ2=>(idxT (fA x n).vw (fA y.1 y.2).vw fun z=>Q z false ρ2)∨(dixT (fA x n).vw y.1.er fun z=>Q z false ρ2)
  ⟨e,fun ρ Q=>e ρ fun t _ ρ1=>truD t.er fun b=>Q b ρ1,nev.a⟩
 | .slc a lo hi,E=>⟨fun ρ Q=>(pe Ψ a E).e ρ fun x n ρ1 =>
   sq (α:=Option Int) (fA x n) ρ1 (if isNop lo=true then fun ρ (R:Option Int->kA->Prop)=>R none ρ else fun ρ R=>(pe Ψ lo E).e ρ fun l _ ρ2=>partD l.er fun o=>R o ρ2) fun l ρ2 =>
   sq (α:=Option Int) (fA x n) ρ2 (if isNop hi=true then fun ρ (R:Option Int->kA->Prop)=>R none ρ else fun ρ R=>(pe Ψ hi E).e ρ fun u _ ρ3=>partD u.er fun o=>R o ρ3) fun u ρ3=>slcT (fA x n).vw l u fun z k=>Q z k ρ3,nev.t,nev.a⟩
 | .nop,_=>nev
 | .lst as,E=>⟨fun ρ Q=>(pe Ψ as E).a [] ρ fun xs ρ1=>escB xs=true/\xs.length<=sizeLine/\Q (.lst (tsOf xs)) true ρ1,nev.t,nev.a⟩
 | .tup as,E=>⟨fun ρ Q=>(pe Ψ as E).a [] ρ fun xs ρ1=>escB xs=true/\xs.length<=sizeLine/\Q (mkTup (tsOf xs)) true ρ1,nev.t,nev.a⟩
 | .comp mask tgs tg ik its cond elt,E=>⟨fun ρ Q=>(pe Ψ its E).a [] ρ fun xs ρ1=>itemsT ik (vwOf xs) fun items =>
   compV (compBody tg (entP tgs.length mask (lockA ρ1)) (if isNop cond=true then fun ρ R=>R true ρ else(pe Ψ cond (fun _=>False)).t) (pe Ψ elt (fun _=>False)).e) items [] fun ys=>Q (.lst ys) true ρ1,nev.t,nev.a⟩
 | .dnew b,_=>⟨fun ρ Q=>Q (.dct b [] []) true ρ,nev.t,nev.a⟩
 | .dsp a b,E=>⟨fun ρ Q=>(pe Ψ a E).e ρ fun y m ρ1=>esc y m=true/\(pe Ψ b E).e ρ1 fun x n ρ2=>esc x n=true/\keyK true y.er/\Q (.dct true [y.er] [x]) true ρ2,nev.t,nev.a⟩
 | .lset a,E=>⟨fun ρ Q=>(pe Ψ a E).e ρ fun x n ρ1=>lsetT (fA x n).vw fun z k=>Q z k ρ1,nev.t,nev.a⟩
 | .hx p,_=>⟨hxE p,hxT p,nev.a⟩
 | .nj,_=>⟨nev.e,nev.t,fun _ ρ Q=>Q [] ρ⟩
 | .nh a as,E=>⟨nev.e,nev.t,fun md ρ Q=>if(md.headD .nq).isMut=true then isVar a=true/\(pe Ψ as E).a md.tail ρ fun xs ρ1=>Q ((.d .none,true)::xs) ρ1
   else(pe Ψ a E).e ρ fun x n ρ1=>sq (α:=List (T×Bool)) (if n=true then .d .none else x) ρ1 ((pe Ψ as E).a md.tail) fun xs ρ2=>Q ((x,n)::xs) ρ2⟩
structure PEnds where
 nx:kA->Prop
 rt:T->kA->Prop
 bk:kA->Prop:=fun _=>False
 ct:kA->Prop:=fun _=>False
def vrs:PX->List Nat
 | .var i=>[i]
 | .idx a _=>vrs a
 | .and a b | .or a b=>vrs a++vrs b
 | .nh a as=>vrs a++vrs as
 |_=>[]
def ownO:Option (Option Sl)->Bool
 |some (some (.own _))=>true
 |some (some (.nk _))=>false
 |some none=>false
 |none=>false
def ownsIn(ρ:kA):List Nat->List Nat
 |[]=>[]
 |i::is=>if ownO ρ[i]?=true then i::ownsIn ρ is else ownsIn ρ is
def unlockF:List Nat->kA->kA->kA
 |[],_,ρ=>ρ
 |i::L,ρ0,ρ=>unlockF L ρ0 (ρ.set i (ρ0[i]?.getD none))
def unlock(J L:List Nat)(ρ0:kA)(N:kA->Prop)(ρ:kA):Prop:=(∀i∈L,i∉J/\ρ[i]?=ρ0[i]?.map lockS)/\N (unlockF L ρ0 ρ)
def forV(body:PEnds->kA->Prop)(tg:Tg)(Z:PEnds):List T->kA->Prop
 |[],ρ=>Z.nx ρ
 |x::xs,ρ=>bindV tg x ρ fun ρ1=>body { Z with nx:=fun ρ2=>forV body tg Z xs ρ2,ct:=fun ρ2=>forV body tg Z xs ρ2,bk:=Z.nx } ρ1
def rdR(ρ:kA)(i:Nat)(R:T->kA->Prop):Option (Option Sl)->Prop
 |some (some (.own t))=>R t (ρ.set i none)
 |some (some (.nk t))=>t.isD=true/\R t ρ
 |some none=>False
 |none=>False
def retP(Ψ:PEv)(E:XE)(Rt:T->kA->Prop):PX->kA->Prop
 | .var i,ρ=>rdR ρ i Rt ρ[i]?
 |e,ρ=>(pe Ψ e E).e ρ fun x n ρ1=>esc x n=true/\Rt x ρ1
def stT:T->D->D->(T->Prop)->Prop
 | .lst ts,.int i,x,Q=>∃n,ixN ts.length i=some n/\Q (.lst (ts.set n (.d x)))
 | .dct b ks ts,k,x,Q=>keyK b k/\ks.length<sizeLine/\Q (putD b ks ts k (.d x))
 |_,_,_,_=>False
def sixR:PX->Option (Nat×Option PX)
 | .var j=>some (j,none)
 | .idx (.var j) k=>some (j,some k)
 |_=>none
def sdfT(k:D)(t:T)(Q:T->Prop):Prop:=∃ks ts,t=.dct true ks ts/\keyK true k/\ks.length<sizeLine/\((∃n,dA ks k=some n/\Q t)∨(dA ks k=none/\Q (.dct true (ks++[k]) (ts++[.dct true [] []]))))
def dctB:T->Bool
 | .dct true _ _=>true
 |_=>false
def subT(z:D)(t:T)(Q:T->(T->T)->Prop):Prop:=∃b ks ts n s,t=.dct b ks ts/\keyK b z/\dA ks z=some n/\ts[n]?=some s/\Q s fun s'=>.dct b ks (ts.set n s')
def hsP(s:PT)(N:kA->Prop)(ρ:kA):Prop :=
 (∃j i x us,∃ls:List (List Str),s=.for_ (.nm i) .val (.nh (.idx (.var j) (.int 0)) .nj) (.seq (.expr (.mt .append (.var i) (.nh (.str x) .nj))) .nil)/\i≠j/\i<ρ.length/\ρ[j]?=some (some (.own (.tup us)))/\us[0]?=some (.lst (ls.map lsT))/\(∀c∈ls,c.length<sizeLine) /\
  N ((ρ.set j (some (.own (.tup (us.set 0 (.lst (ls.map fun c=>lsT (c++[x])))))))).set i none)) ∨
 ∃(j:Nat) (k:Nat) (e:PX) (x:Str) (t:T) (us ts:List T),s=.expr (.mt .append (.idx (.var j) (.int (k:Int))) (.nh e .nj))/\((e=.str x/\t=.d (.str x))∨(e=.lst (.nh (.str x) .nj)/\t=lsT [x]))/\ρ[j]?=some (some (.own (.tup us)))/\us[k]?=some (.lst ts)/\ts.length<sizeLine /\
  N (ρ.set j (some (.own (.tup (us.set k (.lst (ts++[t])))))))
def uA(Ψ:PEv)(E:XE):PT->PEnds->kA->Prop
 | .nil,Z,ρ=>Z.nx ρ
 | .seq s r,Z,ρ=>uA Ψ E s { Z with nx:=fun ρ'=>uA Ψ E r Z ρ' } ρ
 | .set i e,Z,ρ=>(pe Ψ e E).e ρ fun x n ρ1=>esc x n=true/\Z.nx (ρ1.set i (some (.nk (.d x.er))))
 | .expr e,Z,ρ=>(pe Ψ e E).e ρ fun _ _ ρ1=>Z.nx ρ1
 | .ret e,Z,ρ=>retP Ψ E Z.rt e ρ
 | .ife c a b,Z,ρ=>(pe Ψ c E).t ρ fun k ρ1=>if k=true then uA Ψ E a Z ρ1 else uA Ψ E b Z ρ1
 | .for_ tg ik its body,Z,ρ=>(pe Ψ its E).a [] ρ fun xs ρ1=>itemsT ik (vwOf xs) fun items =>
   if allD xs=true then forV (uA Ψ E body) tg { Z with nx:=fun ρ2=>Z.nx (kill tg.ix ρ2) } items ρ1
   else forV (uA Ψ E body) tg { Z with nx:=fun ρ2=>unlock tg.ix (ownsIn ρ1 (vrs its)) ρ1 Z.nx (kill tg.ix ρ2) } items (lock (ownsIn ρ1 (vrs its)) ρ1)
 | .own i e,Z,ρ=>(pe Ψ e E).e ρ fun x n ρ1=>esc x n=true/\Z.nx (ρ1.set i (some (.own x)))
 | .tset is e,Z,ρ=>(pe Ψ e E).e ρ fun x n ρ1=>esc x n=true/\bindV (.tp is) (.d x.er) ρ1 Z.nx
 | .six o i e,Z,ρ=>match sixR o with
  |none=>False
  |some (j,none)=>ownV ρ[j]? fun t=>(pe Ψ e E).e (ρ.set j (some (.nk t))) fun x n ρ1=>esc x n=true/\(pe Ψ i E).e ρ1 fun y m ρ2=>esc y m=true/\ρ2[j]?=some (some (.nk t))/\stT t y.er x.er fun t'=>Z.nx (ρ2.set j (some (.own t')))
  |some (j,some k)=>ownV ρ[j]? fun t=>(pe Ψ e E).e (ρ.set j (some (.nk t))) fun x n ρ1=>esc x n=true/\(pe Ψ k E).e ρ1 fun z l ρ2=>esc z l=true/\subT z.er t fun s put=>(pe Ψ i E).e ρ2 fun y m ρ3=>esc y m=true/\ρ3[j]?=some (some (.nk t))/\stT s y.er x.er fun s'=>Z.nx (ρ3.set j (some (.own (put s'))))
 | .sdf j k,Z,ρ=>ownV ρ[j]? fun t=>dctB t=true/\(pe Ψ k E).e (ρ.set j (some (.nk t))) fun y m ρ1=>esc y m=true/\ρ1[j]?=some (some (.nk t))/\sdfT y.er t fun t'=>Z.nx (ρ1.set j (some (.own t')))
 | .whl c body,Z,ρ=>∃W:Nat->kA->Prop,(∃m,W m ρ)/\∀m ρ,W m ρ->(pe Ψ c E).t ρ fun b ρ1=>if b=true then
   uA Ψ E body { Z with nx:=fun ρ'=>∃m',m' < m/\W m' ρ',ct:=fun ρ'=>∃m',m' < m/\W m' ρ',bk:=Z.nx } ρ1 else Z.nx ρ1
 | .frz is s,Z,ρ=>uA Ψ E s Z (frzAt is ρ)
 | .hs s,Z,ρ=>hsP s Z.nx ρ
theorem _root_.L2.Same.rd{H H':Hp}(e:Same H H'){a:Addr}{u:HO}(h:Rd H a u):Rd H' a u:=by
 rcases h with h|⟨o,h⟩
 exact .inl (e _ _ h);exact .inr ⟨o,e _ _ h⟩
theorem _root_.L2.Same.tupl{a:Addr}{xs:List V}(e:Same H H')(h:SqT K H a xs):SqT K H' a xs:=by rcases h with h|h;exact .inl (e.rd h);exact .inr h
theorem DKo.mono(e:Same H H'){b:Bool}{o:HO}{ks:List D}(h:DKo K H b o ks vs):DKo K H' b o ks vs:=by
 cases b with
 |true=>obtain⟨ep,kvs,h1,h2,h3,h4,h5⟩:=h;exact⟨ep,kvs,h1,h2,h3,fun p hp=>e.tupl (h4 p hp),h5⟩
 |false=>exact h
theorem Rep.mono2(e:Same H H'):(∀{v:V}{d:D},Rep K H v d->Rep K H' v d)/\∀{vs:List V}{ds:List D},Reps K H vs ds->Reps K H' vs ds :=
 Rep.both (P:=Rep K H') (R:=Reps K H') .non .bl .int .str (fun h _ r=>.lst (e.seq h) r) (fun h _ r=>.tup (e.tupl h) r) (fun h q _ r=>.dct (e _ _ h) (q.mono e) r) .nil fun _ _ h r=>.cons h r
theorem Rep.mono(e:Same H H'){v:V}{d:D}(h:Rep K H v d):Rep K H' v d:=(Rep.mono2 e).1 h
theorem Reps.mono(e:Same H H')(h:Reps K H vs ds):Reps K H' vs ds:=(Rep.mono2 e).2 h
theorem Reps.append{ws:List V}{es:List D}(h:Reps K H vs ds)(r:Reps K H ws es):Reps K H (vs++ws) (ds++es):=Reps.ind (R:=fun vs ds=>Reps K H (vs++ws) (ds++es)) r (fun h t=>.cons h t) h
theorem Reps.drop{K:QA}{H:Hp}:∀{vs:List V}{ds:List D}(n:Nat),Reps K H vs ds->Reps K H (vs.drop n) (ds.drop n)
 |_,_,0,r=>r
 |_,_,_+1,.nil=>.nil
 |_,_,n+1,.cons _ t=>Reps.drop n t
theorem Reps.take{K:QA}{H:Hp}:∀{vs:List V}{ds:List D}(n:Nat),Reps K H vs ds->Reps K H (vs.take n) (ds.take n)
 |_,_,0,_=>.nil
 |_,_,_+1,.nil=>.nil
 |_,_,n+1,.cons h t=>.cons h (Reps.take n t)
theorem Reps.bools{K:QA}{H:Hp}:∀{vs:List V}{bs:List Bool},Reps K H vs (bs.map PyData.bool)->vs=bs.map V.bl
 |_,[],.nil=>rfl
 |_,b::bs,.cons h t=>by cases h;rw[QN,Reps.bools t]
theorem upd_same'{p:Addr}{o:HO}(h:H p=none):Same H (JA H p o):=fun b u q=>by rw[zA (aA q h)];exact q
end
mutual
inductive Tr(K:QA)(F H:Hp):Bool->V->T->(Addr->Prop)->Prop where
 |d {st:Bool}{v:V}{x:D}{S:AdP}:Rep K F v x->(∀b,¬ S b)->Tr K F H st v (.d x) S
 |lst {st:Bool}{a:Addr}{vs:List V}{ts:List T}{S S':AdP}:H a=some (.lst vs)->F a=none->Trs K F H st vs ts S'->¬ S' a->(∀b,S b↔b=a∨S' b)->Tr K F H st (.ref a) (.lst ts) S
 |tup {st:Bool}{a:Addr}{vs:List V}{ts:List T}{S S':AdP}:H a=some (.tup vs)->F a=none->Trs K F H st vs ts S'->¬ S' a->(∀b,S b↔b=a∨S' b)->Tr K F H st (.ref a) (.tup ts) S
 |lstF {a:Addr}{vs:List V}{ds:List D}{S:AdP}:SqL K F a vs->Reps K F vs ds->(∀b,¬ S b)->Tr K F H false (.ref a) (.lst (ds.map T.d)) S
 |dct {st b:Bool}{a:Addr}{o:HO}{ks:List D}{vs:List V}{ts:List T}{S S':AdP}:H a=some o->DKo K F b o ks vs->F a=none->Trs K F H st vs ts S'->¬ S' a->(∀b,S b↔b=a∨S' b)->Tr K F H st (.ref a) (.dct b ks ts) S
inductive Trs(K:QA)(F H:Hp):Bool->List V->List T->(Addr->Prop)->Prop where
 |nil {st:Bool}{S:AdP}:(∀b,¬ S b)->Trs K F H st [] [] S
 |cons {st:Bool}{v:V}{t:T}{vs:List V}{ts:List T}{S S1 S2:AdP}:Tr K F H st v t S1->Trs K F H st vs ts S2->(∀b,S1 b->¬ S2 b)->(∀b,S b↔S1 b∨S2 b)->Trs K F H st (v::vs) (t::ts) S
end
section
variable{K:QA}{F H F' H':Hp}
section
variable{R:Bool->List V->List T->(Addr->Prop)->Prop}{st b:Bool}{v:V}{t:T}{S:AdP}{vs:List V}{ts:List T}{ds ks:List D}{i:Int}{kvs:List (D×D)}
theorem Tr.both{P:Bool->V->T->(Addr->Prop)->Prop}
    (d:∀{st:Bool}{v:V}{x:D}{S:AdP},Rep K F v x->(∀b,¬ S b)->P st v (.d x) S)
    (lst:∀{st:Bool}{a:Addr}{vs:List V}{ts:List T}{S S':AdP},H a=some (.lst vs)->F a=none->Trs K F H st vs ts S'->¬ S' a->(∀b,S b↔b=a∨S' b)->R st vs ts S'->P st (.ref a) (.lst ts) S)
    (tup:∀{st:Bool}{a:Addr}{vs:List V}{ts:List T}{S S':AdP},H a=some (.tup vs)->F a=none->Trs K F H st vs ts S'->¬ S' a->(∀b,S b↔b=a∨S' b)->R st vs ts S'->P st (.ref a) (.tup ts) S)
    (lstF:∀{a:Addr}{vs:List V}{ds:List D}{S:AdP},SqL K F a vs->Reps K F vs ds->(∀b,¬ S b)->P false (.ref a) (.lst (ds.map T.d)) S)
    (dct:∀{st b:Bool}{a:Addr}{o:HO}{ks:List D}{vs:List V}{ts:List T}{S S':AdP},H a=some o->DKo K F b o ks vs->F a=none->Trs K F H st vs ts S'->¬ S' a->(∀b,S b↔b=a∨S' b)->R st vs ts S'->P st (.ref a) (.dct b ks ts) S)
    (nil:∀{st:Bool}{S:AdP},(∀b,¬ S b)->R st [] [] S)
    (cons:∀{st:Bool}{v:V}{t:T}{vs:List V}{ts:List T}{S S1 S2:AdP},Tr K F H st v t S1->Trs K F H st vs ts S2->(∀b,S1 b->¬ S2 b)->(∀b,S b↔S1 b∨S2 b)->P st v t S1->R st vs ts S2->R st (v::vs) (t::ts) S) :
    (∀{st:Bool}{v:V}{t:T}{S:AdP},Tr K F H st v t S->P st v t S)/\∀{st:Bool}{vs:List V}{ts:List T}{S:AdP},Trs K F H st vs ts S->R st vs ts S :=
  ⟨fun h=>Tr.rec (motive_1:=fun st v t S _=>P st v t S) (motive_2:=fun st vs ts S _=>R st vs ts S) @d @lst @tup @lstF @dct @nil @cons h,
   fun h=>Trs.rec (motive_1:=fun st v t S _=>P st v t S) (motive_2:=fun st vs ts S _=>R st vs ts S) @d @lst @tup @lstF @dct @nil @cons h⟩
theorem Tr.mono2(e:Same F F'):(∀{st:Bool}{v:V}{t:T}{S:AdP},Tr K F H st v t S->(∀b,S b->H' b=H b/\F' b=none)->Tr K F' H' st v t S)/\∀{st:Bool}{vs:List V}{ts:List T}{S:AdP},Trs K F H st vs ts S->(∀b,S b->H' b=H b/\F' b=none)->Trs K F' H' st vs ts S :=
 Tr.both (P:=fun st v t S=>(∀b,S b->H' b=H b/\F' b=none)->Tr K F' H' st v t S) (R:=fun st v t S=>(∀b,S b->H' b=H b/\F' b=none)->Trs K F' H' st v t S)
  (fun r n _=>.d (r.mono e) n)
  (fun {_ a _ _ _ _} h _ _ n q ih k=>.lst ((k a ((q a).mpr (.inl rfl))).1.trans h) (k a ((q a).mpr (.inl rfl))).2 (ih fun b hb=>k b ((q b).mpr (.inr hb))) n q)
  (fun {_ a _ _ _ _} h _ _ n q ih k=>.tup ((k a ((q a).mpr (.inl rfl))).1.trans h) (k a ((q a).mpr (.inl rfl))).2 (ih fun b hb=>k b ((q b).mpr (.inr hb))) n q)
  (fun h r n _=>.lstF (e.seq h) (r.mono e) n)
  (fun {_ _ a _ _ _ _ _ _} h dk _ _ n q ih k=>.dct ((k a ((q a).mpr (.inl rfl))).1.trans h) (dk.mono e) (k a ((q a).mpr (.inl rfl))).2 (ih fun b hb=>k b ((q b).mpr (.inr hb))) n q)
  (fun n _=>.nil n)
  (fun _ _ n q i1 i2 k=>.cons (i1 fun b hb=>k b ((q b).mpr (.inl hb))) (i2 fun b hb=>k b ((q b).mpr (.inr hb))) n q)
theorem Tr.mono(e:Same F F')(h:Tr K F H st v t S)(k:∀b,S b->H' b=H b/\F' b=none):Tr K F' H' st v t S:=(Tr.mono2 e).1 h k
theorem Trs.mono(e:Same F F')(h:Trs K F H st vs ts S)(k:∀b,S b->H' b=H b/\F' b=none):Trs K F' H' st vs ts S:=(Tr.mono2 e).2 h k
theorem Tr.weak2:(∀{st:Bool}{v:V}{t:T}{S:AdP},Tr K F H st v t S->Tr K F H false v t S)/\∀{st:Bool}{vs:List V}{ts:List T}{S:AdP},Trs K F H st vs ts S->Trs K F H false vs ts S :=
 Tr.both (P:=fun _ v t S=>Tr K F H false v t S) (R:=fun _ v t S=>Trs K F H false v t S) .d (fun h f _ n q ih=>.lst h f ih n q) (fun h f _ n q ih=>.tup h f ih n q) .lstF (fun h dk f _ n q ih=>.dct h dk f ih n q) .nil fun _ _ n q i1 i2=>.cons i1 i2 n q
theorem Tr.weak(h:Tr K F H st v t S):Tr K F H false v t S:=Tr.weak2.1 h
theorem Trs.weak(h:Trs K F H st vs ts S):Trs K F H false vs ts S:=Tr.weak2.2 h
theorem at_or{C:AdP}{a:Addr}{S':AdP}(q:∀b,S b↔b=a∨S' b)(h:C a)(k:∀b,S' b->C b)(b:Addr)(hb:S b):C b:=((q b).mp hb).elim (fun e=>e▸h) (k b)
theorem Tr.dom2:(∀{st:Bool}{v:V}{t:T}{S:AdP},Tr K F H st v t S->∀b,S b->H b≠none/\F b=none)/\∀{st:Bool}{vs:List V}{ts:List T}{S:AdP},Trs K F H st vs ts S->∀b,S b->H b≠none/\F b=none :=
 have nn:∀{a:Addr}{o:HO},H a=some o->H a≠none:=fun h z=>by rw[h]at z;cases z
 Tr.both (P:=fun _ _ _ S=>∀b,S b->H b≠none/\F b=none) (R:=fun _ _ _ S=>∀b,S b->H b≠none/\F b=none)
  (fun _ n b hb=>absurd hb (n b)) (fun h f _ _ q ih=>at_or q ⟨nn h,f⟩ ih) (fun h f _ _ q ih=>at_or q ⟨nn h,f⟩ ih) (fun _ _ n b hb=>absurd hb (n b)) (fun h _ f _ _ q ih=>at_or q ⟨nn h,f⟩ ih)
  (fun n b hb=>absurd hb (n b)) fun _ _ _ q i1 i2 b hb=>((q b).mp hb).elim (i1 b) (i2 b)
theorem Tr.dom(h:Tr K F H st v t S):∀b,S b->H b≠none/\F b=none:=Tr.dom2.1 h
theorem Trs.dom(h:Trs K F H st vs ts S):∀b,S b->H b≠none/\F b=none:=Tr.dom2.2 h
theorem Tr.kept2(e:Same F F'):(∀{st:Bool}{v:V}{t:T}{S:AdP},Tr K F H st v t S->(∀b u,S b->H b=some u->F' b=some u)->Rep K F' v t.er)/\∀{st:Bool}{vs:List V}{ts:List T}{S:AdP},Trs K F H st vs ts S->(∀b u,S b->H b=some u->F' b=some u)->Reps K F' vs (ersT ts) :=
 Tr.both (P:=fun _ v t S=>(∀b u,S b->H b=some u->F' b=some u)->Rep K F' v t.er) (R:=fun _ v t S=>(∀b u,S b->H b=some u->F' b=some u)->Reps K F' v (ersT t))
  (fun r _ _=>r.mono e)
  (fun {_ a _ _ _ _} h _ _ _ q ih k=>by unfold T.er;exact .lst (SqL.of (k a _ ((q a).mpr (.inl rfl)) h)) (ih fun b u hb=>k b u ((q b).mpr (.inr hb))))
  (fun {_ a _ _ _ _} h _ _ _ q ih k=>by unfold T.er;exact .tup (SqT.of (k a _ ((q a).mpr (.inl rfl)) h)) (ih fun b u hb=>k b u ((q b).mpr (.inr hb))))
  (fun h r _ _=>by unfold T.er;rw[ersT_map];exact .lst (e.seq h) (r.mono e))
  (fun {_ _ a _ _ _ _ _ _} h dk _ _ _ q ih k=>by unfold T.er;exact .dct (k a _ ((q a).mpr (.inl rfl)) h) (dk.mono e) (ih fun b u hb=>k b u ((q b).mpr (.inr hb))))
  (fun _ _=>.nil)
  (fun _ _ _ q i1 i2 k=>.cons (i1 fun b u hb=>k b u ((q b).mpr (.inl hb))) (i2 fun b u hb=>k b u ((q b).mpr (.inr hb))))
theorem Tr.kept(e:Same F F')(h:Tr K F H st v t S)(k:∀b u,S b->H b=some u->F' b=some u):Rep K F' v t.er:=(Tr.kept2 e).1 h k
theorem Tr.rep(f:Same F H)(h:Tr K F H st v t S):Rep K H v t.er:=h.kept f fun _ _ _ e=>e
theorem Trs.ind(nil:∀{st:Bool}{S:AdP},(∀b,¬ S b)->R st [] [] S)
  (cons:∀{st:Bool}{v:V}{t:T}{vs:List V}{ts:List T}{S S1 S2:AdP},Tr K F H st v t S1->Trs K F H st vs ts S2->(∀b,S1 b->¬ S2 b)->(∀b,S b↔S1 b∨S2 b)->R st vs ts S2->R st (v::vs) (t::ts) S) (h:Trs K F H st vs ts S):R st vs ts S :=
 (Tr.both (P:=fun _ _ _ _=>True) (fun _ _=>trivial) (fun _ _ _ _ _ _=>trivial) (fun _ _ _ _ _ _=>trivial) (fun _ _ _=>trivial) (fun _ _ _ _ _ _ _=>trivial) nil fun h t n q _ r=>cons h t n q r).2 h
theorem Trs.length(h:Trs K F H st vs ts S):vs.length=ts.length:=Trs.ind (R:=fun _ vs ts _=>vs.length=ts.length) (fun _=>rfl) (fun _ _ _ _ e=>congrArg Nat.succ e) h
theorem Trs.of_reps(h:Reps K F vs ds):Trs K F H st vs (ds.map T.d) (fun _=>False) :=
 Reps.ind (R:=fun vs ds=>Trs K F H st vs (ds.map T.d) fun _=>False) (.nil fun _ z=>z) (fun h t=>.cons (.d h fun _ z=>z) t (fun _ z=>z.elim) fun b=>by simp) h
theorem Trs.un(h:Trs K F H st vs ts S)(e:unD ts=some ds):Reps K F vs ds/\∀b,¬ S b:=by
 have ed:=unD_some e;clear e;revert ds;refine Trs.ind (R:=fun _ vs ts S=>∀{ds:List D},ts=ds.map T.d->Reps K F vs ds/\∀b,¬ S b) (fun n ds e=>?_) (fun h _ _ q ih ds e=>?_) h;cases ds with
 |nil=>exact⟨.nil,n⟩
 |cons d r=>cases e
 cases ds with
 |nil=>cases e
 |cons d r =>
  injection e with e1 e2;obtain⟨h1,h2⟩:=ih e2;subst e1;cases h with
  |d rep m=>exact⟨.cons rep h1,fun b hb=>((q b).mp hb).elim (m b) (h2 b)⟩
theorem Trs.get{i:Nat}(h:Trs K F H st vs ts S)(e:ts[i]?=some t):∃v S1,vs[i]?=some v/\Tr K F H st v t S1/\∀b,S1 b->S b:=by
 revert i;refine Trs.ind (R:=fun st vs ts S=>∀{i:Nat},ts[i]?=some t->∃v S1,vs[i]?=some v/\Tr K F H st v t S1/\∀b,S1 b->S b) (fun n i e=>by cases e) (fun h _ n q ih i e=>?_) h;cases i with
 |zero=>cases e;exact⟨_,_,rfl,h,fun b hb=>(q b).mpr (.inl hb)⟩
 |succ i=>obtain⟨v,S1,h1,h2,h3⟩:=ih (i:=i) e;exact⟨v,S1,h1,h2,fun b hb=>(q b).mpr (.inr (h3 b hb))⟩
theorem Trs.at(r:Trs K F H st vs ts S)(h:atI ts i=some t):∃v S1,atI vs i=some v/\Tr K F H st v t S1/\∀b,S1 b->S b:=by
 unfold atI at h ⊢;rw[r.length];cases e:ixN ts.length i with
 |none=>rw[e]at h;cases h
 |some j=>rw[e]at h;exact r.get h
theorem Trs.append{ws:List V}{us:List T}{S1 S2:AdP}(h:Trs K F H st vs ts S1)(r:Trs K F H st ws us S2)(k:∀b,S1 b->¬ S2 b):Trs K F H st (vs++ws) (ts++us) (fun b=>S1 b∨S2 b) :=
 Trs.ind (R:=fun st vs ts S1=>Trs K F H st ws us S2->(∀b,S1 b->¬ S2 b)->Trs K F H st (vs++ws) (ts++us) fun b=>S1 b∨S2 b)
  (fun {_ S} n r _=>by have e:(fun b=>S b∨S2 b)=S2:=funext fun b=>propext ⟨fun z=>z.resolve_left (n b),.inr⟩;rw[e];exact r)
  (fun h _ n q ih r k=>.cons h (ih r fun b hb=>k b ((q b).mpr (.inr hb))) (fun b hb z=>z.elim (n b hb) (k b ((q b).mpr (.inl hb)))) fun b=>by rw[q b,or_assoc]) h r k
theorem Trs.one(h:Tr K F H st v t S):Trs K F H st [v] [t] S:=.cons h (.nil (S:=fun _=>False) fun _ z=>z) (fun _ _ z=>z) fun b=>by simp
theorem vw_dict_ls(e:(T.d (.dict kvs)).vw=.ls ts):False:=by
 have e:vwDict kvs=.ls ts:=e;unfold vwDict at e;cases ek:kindD kvs with
 |none=>rw[ek]at e;cases e
 |some b=>rw[ek]at e;cases e
theorem vw_dict_tp(e:(T.d (.dict kvs)).vw=.tp ts):False:=by
 have e:vwDict kvs=.tp ts:=e;unfold vwDict at e;cases ek:kindD kvs with
 |none=>rw[ek]at e;cases e
 |some b=>rw[ek]at e;cases e
theorem Tr.ls(f:Same F H)(h:Tr K F H st v t S)(e:t.vw=.ls ts):∃a vs S',v=.ref a/\SqL K H a vs/\Trs K F H false vs ts S'/\∀b,S' b->S b:=by
 cases h with
 |d r n =>
  cases r with
  |lst q r=>injection e with e;subst e;exact⟨_,_,_,rfl,f.seq q,Trs.of_reps r,fun b hb=>hb.elim⟩
  |dct _ _ _=>exact(vw_dict_ls e).elim
  |_=>cases e
 |lst h _ r n q=>injection e with e;subst e;exact⟨_,_,_,rfl,SqL.of h,r.weak,fun b hb=>(q b).mpr (.inr hb)⟩
 |tup=>cases e
 |dct=>cases e
 |lstF h r n=>injection e with e;subst e;exact⟨_,_,_,rfl,f.seq h,Trs.of_reps r,fun b hb=>hb.elim⟩
theorem Tr.tp(f:Same F H)(h:Tr K F H st v t S)(e:t.vw=.tp ts):∃a vs S',v=.ref a/\SqT K H a vs/\Trs K F H false vs ts S'/\∀b,S' b->S b:=by
 cases h with
 |d r n =>
  cases r with
  |tup q r=>injection e with e;subst e;exact⟨_,_,_,rfl,f.tupl q,Trs.of_reps r,fun b hb=>hb.elim⟩
  |dct _ _ _=>exact(vw_dict_tp e).elim
  |_=>cases e
 |tup h _ r n q=>injection e with e;subst e;exact⟨_,_,_,rfl,SqT.of h,r.weak,fun b hb=>(q b).mpr (.inr hb)⟩
 |lst=>cases e
 |lstF=>cases e
 |dct=>cases e
theorem kind_ok{b':Bool}{o:HO}(h:DKo K H b' o ks vs)(e:kindD (ks.zip ds)=some b):b'=b:=by
 cases ks with
 |nil=>cases e
 |cons k ks =>
  cases ds with
  |nil=>cases e
  |cons d ds =>
   cases b' with
   |true =>
    obtain⟨ep,kvs,_,h2,_⟩:=h;cases kvs with
    |nil=>cases h2
    |cons p r=>rw[QN]at h2;injection h2 with h2 _;subst h2;injection e
   |false =>
    rcases h with⟨kvs,_,_,h2,_⟩| ⟨_,_,h2,_⟩
    rotate_left
    cases h2;cases kvs with
    |nil=>cases h2
    |cons p r =>
     rw[QN]at h2;injection h2 with h2 _;subst h2;obtain⟨k,v⟩:=p;cases k with
     |inl i=>cases e
     |inr z=>injection e
theorem Tr.dc(f:Same F H)(h:Tr K F H st v t S)(e:t.vw=.dc b ks ts):∃a o vs S',v=.ref a/\H a=some o/\DKo K F b o ks vs/\Trs K F H false vs ts S'/\(∀b,S' b->S b)/\∀F' H',Same F F'->Same F' H'->(∀b,S b->H' b=H b)->H' a=some o:=by
 cases h with
 |d r n =>
  cases r with
  |@dct b' a o ks' vs' ds h q r =>
   have hl:ks'.length=ds.length:=by rw[q.len,Reps.length r]
   have e1:(ks'.zip ds).map (fun x=>x.1)=ks':=Wc (WU hl);have e2:(ks'.zip ds).map (fun x=>x.2)=ds:=Wd (WU hl.symm);have e:vwDict (ks'.zip ds)=.dc b ks ts:=e;unfold vwDict at e;cases ek:kindD (ks'.zip ds) with
   |none=>rw[ek]at e;cases e
   |some b2 =>
    rw[ek]at e;injection e with z1 z2 z3;subst z1;rw[e1]at z2;subst z2;have e3:ts=ds.map T.d:=by have e4:=congrArg (List.map T.d) e2;rw[Qp]at e4;rw[<- z3,<- e4];rfl
    subst e3;cases kind_ok q ek;exact⟨_,_,_,_,rfl,f _ _ h,q,Trs.of_reps r,fun b hb=>hb.elim,fun F' H' e1 e2 _=>e2 _ _ (e1 _ _ h)⟩
  |_=>cases e
 |dct h q _ r n s=>injection e with z1 z2 z3;subst z1 z2 z3;exact⟨_,_,_,_,rfl,h,q,r.weak,fun b hb=>(s b).mpr (.inr hb),fun F' H' _ _ k=>(k _ ((s _).mpr (.inl rfl))).trans h⟩
 |lst=>cases e
 |tup=>cases e
 |lstF=>cases e
theorem Tr.sc{x:D}(h:Tr K F H st v t S)(e:t.vw=.sc x):t=.d x/\Rep K F v x:=by
 cases h with
 |@d _ _ y _ r n =>
  cases y with
  |list ds=>cases e
  |tuple ds=>cases e
  |dict ds =>
   have e:vwDict ds=.sc x:=e;unfold vwDict at e;cases ek:kindD ds with
   |none=>rw[ek]at e;injection e with e;subst e;exact⟨rfl,r⟩
   |some b=>rw[ek]at e;cases e
  |_=>injection e with e;subst e;exact⟨rfl,r⟩
 |tup=>cases e
 |lst=>cases e
 |lstF=>cases e
 |dct=>cases e
theorem Tr.int(h:Tr K F H st v t S)(e:t.vw=.sc (.int i)):v=.int i:=by obtain⟨_,r⟩:=h.sc e;cases r;rfl
theorem Tr.str{i:Str}(h:Tr K F H st v t S)(e:t.vw=.sc (.str i)):v=.str i:=by obtain⟨_,r⟩:=h.sc e;cases r;rfl
end
end
def Sl.t:Sl->T
 | .own t=>t
 | .nk t=>t
def Sl.st:Sl->Bool
 | .own _=>true
 | .nk _=>false
noncomputable abbrev Ft:=Nat->Addr->Prop
structure Rl(K:QA)(F H:Hp)(S:Ft)(ρ:kA)(σ:St):Prop where
 fh:Same F H
 len:ρ.length=σ.length
 sl:∀(i:Nat) s,ρ[i]?=some (some s)->∃v,σ[i]?=some (some v)/\Tr K F H s.st v s.t (S i)
 dj:∀(i j:Nat) t s,i≠j->ρ[i]?=some (some (.own t))->ρ[j]?=some (some s)->∀b,S i b->¬ S j b
def U(ρ:kA)(S:Ft)(b:Addr):Prop:=∃(i:Nat) (t:T),ρ[i]?=some (some (.own t))/\S i b
structure Stp(F H:Hp)(S:Ft)(ρ:kA)(F' H':Hp)(S':Ft)(ρ':kA):Prop where
 ff:Same F F'
 hh:∀b u,H b=some u->¬ U ρ S b->H' b=some u
 dm:∀b,H' b=none->H b=none
 fn:∀b,F b=none->F' b≠none->U ρ S b∨H b=none
 uu:∀b,U ρ' S' b->U ρ S b∨H b=none
 bo:∀(j:Nat) t,ρ'[j]?=some (some (.nk t))->t.isD=false->ρ[j]?=some (some (.nk t))/\S' j=S j
structure Ste(F H:Hp)(S:Ft)(ρ:kA)(F' H':Hp)(S':Ft)(ρ':kA):Prop extends Stp F H S ρ F' H' S' ρ' where
 ow:∀(j:Nat) t,ρ'[j]?=some (some (.own t))->∃t0,ρ[j]?=some (some (.own t0))
section
variable{K:QA}{F H F1 H1 F2 H2:Hp}{S S1 S2:Ft}{ρ ρ1 ρ2:kA}{σ:St}
section
variable{v:V}{t:T}{Z W:AdP}{i:Nat}{s:Sl}{b p:Addr}{vs:List Nat}{H0:Hp}{S0:Ft}{ρ0:kA}{n:Bool}
theorem Stp.refl:Stp F H S ρ F H S ρ:=⟨.refl _,fun _ _ h _=>h,fun _ h=>h,fun b h z=>absurd h z,fun _ h=>.inl h,fun _ _ h _=>⟨h,rfl⟩⟩
theorem Ste.refl:Ste F H S ρ F H S ρ:=⟨Stp.refl,fun _ t h=>⟨t,h⟩⟩
theorem Stp.trans(a:Stp F H S ρ F1 H1 S1 ρ1)(b:Stp F1 H1 S1 ρ1 F2 H2 S2 ρ2):Stp F H S ρ F2 H2 S2 ρ2 where
 ff:=a.ff.trans b.ff
 hh:=fun x u h n=>b.hh x u (a.hh x u h n) fun z=>by rcases a.uu x z with q|q;exact n q;rw[q]at h;cases h
 dm:=fun x h=>a.dm x (b.dm x h)
 fn:=fun x h z=>by
  by_cases q:F1 x=none;rcases b.fn x q z with w|w
  ·exact a.uu x w
  exact .inr (a.dm x w);exact a.fn x h q
 uu:=fun x h=>by rcases b.uu x h with w|w;exact a.uu x w;exact .inr (a.dm x w)
 bo:=fun j t h n=>by obtain⟨h1,h2⟩:=b.bo j t h n;obtain⟨h3,h4⟩:=a.bo j t h1 n;exact⟨h3,h2.trans h4⟩
theorem Ste.trans(a:Ste F H S ρ F1 H1 S1 ρ1)(b:Ste F1 H1 S1 ρ1 F2 H2 S2 ρ2):Ste F H S ρ F2 H2 S2 ρ2:=⟨a.toStp.trans b.toStp,fun j t h=>by obtain⟨t1,h1⟩:=b.ow j t h;exact a.ow j t1 h1⟩
theorem Stp.keep(s:Stp F H S ρ F1 H1 S1 ρ1){st:Bool}(h:Tr K F H st v t Z)(n:∀b,Z b->¬ U ρ S b):Tr K F1 H1 st v t Z :=
 h.mono s.ff fun b hb=>by
  obtain⟨h1,h2⟩:=h.dom b hb;refine⟨?_,?_⟩;cases e:H b with
  |none=>exact absurd e h1
  |some u=>exact s.hh b u e (n b hb)
  by_cases q:F1 b=none
  ·exact q
  rcases s.fn b h2 q with z|z
  ·exact absurd z (n b hb)
  exact absurd z h1
theorem Rl.dom(I:Rl K F H S ρ σ)(h:ρ[i]?=some (some s))(hb:S i b):H b≠none/\F b=none:=by obtain⟨v,_,r⟩:=I.sl i s h;exact r.dom b hb
theorem Rl.isD(I:Rl K F H S ρ σ)(h:ρ[i]?=some (some s))(hd:s.t.isD=true):¬ S i b:=by
 obtain⟨v,_,r⟩:=I.sl i s h;generalize s.t=t at r hd;generalize s.st=st at r;cases r with
 |d r n=>exact n b
 |_=>cases hd
structure Held(F H:Hp)(S:Ft)(ρ:kA)(Z:AdP):Prop where
 dom:∀b,Z b->H b≠none/\F b=none
 nw:∀(i:Nat) s,ρ[i]?=some (some s)->∀b,Z b->¬ S i b
theorem Held.nu(h:Held F H S ρ Z):∀b,Z b->¬ U ρ S b:=fun b hb ⟨i,t,h1,h2⟩=>h.nw i _ h1 b hb h2
theorem Held.step(h:Held F H S ρ Z)(s:Stp F H S ρ F1 H1 S1 ρ1)(I1:Rl K F1 H1 S1 ρ1 σ):Held F1 H1 S1 ρ1 Z where
 dom:=fun b hb=>by
  obtain⟨h1,h2⟩:=h.dom b hb;refine⟨fun z=>h1 (s.dm b z),?_⟩;by_cases q:F1 b=none;exact q;rcases s.fn b h2 q with z|z
  ·exact absurd z (h.nu b hb)
  exact absurd z h1
 nw:=fun i sl e b hb z=>by
  cases sl with
  |own t=>rcases s.uu b ⟨i,t,e,z⟩ with q|q;exact h.nu b hb q;exact(h.dom b hb).1 q
  |nk t =>
   cases hd:t.isD with
   |true=>exact I1.isD e hd z
   |false=>obtain⟨e1,e2⟩:=s.bo i t e hd;rw[e2]at z;exact h.nw i _ e1 b hb z
theorem Held.none:Held F H S ρ fun _=>False:=⟨fun _ z=>z.elim,fun _ _ _ _ z=>z.elim⟩
def frzH(F H:Hp)(W:AdP):Hp:=open Classical in fun b=>if W b then H b else F b
theorem frzH_in(h:W b):frzH F H W b=H b:=if_pos h
theorem frzH_out(h:¬ W b):frzH F H W b=F b:=if_neg h
theorem frzH_ff(h:∀b,W b->F b=none):Same F (frzH F H W):=fun b u e=>by rw[frzH_out fun z=>by rw[h b z]at e;cases e];exact e
theorem frzH_fh(f:Same F H):Same (frzH F H W) H:=fun b u e=>by by_cases hb:W b;rw[frzH_in hb]at e;exact e;rw[frzH_out hb]at e;exact f b u e
theorem Rl.frz(I:Rl K F H S ρ σ){W:AdP}(hw:Held F H S ρ W):Rl K (frzH F H W) H S ρ σ where
 fh:=frzH_fh I.fh
 len:=I.len
 sl:=fun i s e=>by obtain⟨v,h1,h2⟩:=I.sl i s e;refine⟨v,h1,h2.mono (frzH_ff fun b hb=>(hw.dom b hb).2) fun b hb=>⟨rfl,?_⟩⟩;rw[frzH_out fun z=>hw.nw i s e b z hb];exact(h2.dom b hb).2
 dj:=I.dj
theorem Stp.frz(s:Stp F H S ρ F1 H1 S1 ρ1){W:AdP}(hw:∀b,W b->F1 b=none)(fr:∀b,W b->H b=none∨U ρ S b):Stp F H S ρ (frzH F1 H1 W) H1 S1 ρ1 :=
 ⟨s.ff.trans (frzH_ff hw),s.hh,s.dm,fun b h z=>by by_cases q:W b;exact(fr b q).symm;rw[frzH_out q]at z;exact s.fn b h z,s.uu,s.bo⟩
theorem Ste.frz(s:Ste F H S ρ F1 H1 S1 ρ1){W:AdP}(hw:∀b,W b->F1 b=none)(fr:∀b,W b->H b=none∨U ρ S b):Ste F H S ρ (frzH F1 H1 W) H1 S1 ρ1:=⟨s.toStp.frz hw fr,s.ow⟩
theorem Stp.new(s:Stp F H S ρ F1 H1 S1 ρ1){p:Addr}(h:H1 p=none)(o:HO):Stp F H S ρ F1 (JA H1 p o) S1 ρ1 :=
 ⟨s.ff,fun b u e n=>upd_same' h b u (s.hh b u e n),fun b e=>by by_cases hb:b=p;rw[hb,gA]at e;cases e;rw[zA hb]at e;exact s.dm b e,s.fn,s.uu,s.bo⟩
theorem Ste.new(s:Ste F H S ρ F1 H1 S1 ρ1){p:Addr}(h:H1 p=none)(o:HO):Ste F H S ρ F1 (JA H1 p o) S1 ρ1:=⟨s.toStp.new h o,s.ow⟩
theorem Rl.same(I:Rl K F H S ρ σ)(h:Same H H1):Rl K F H1 S ρ σ where
 fh:=I.fh.trans h
 len:=I.len
 sl:=fun i s e=>by
  obtain⟨v,h1,h2⟩:=I.sl i s e;refine⟨v,h1,h2.mono (.refl _) fun b hb=>⟨?_,(h2.dom b hb).2⟩⟩;cases e:H b with
  |none=>exact absurd e (h2.dom b hb).1
  |some u=>exact h b u e
 dj:=I.dj
theorem Rl.new(I:Rl K F H S ρ σ){p:Addr}(h:H p=none)(o:HO):Rl K F (JA H p o) S ρ σ:=I.same (upd_same' h)
theorem Stp.newT(s:Stp F H S ρ F1 H1 S1 ρ1)(h:H1 p=none)(hf:F1 p=none)(o:HO):Stp F H S ρ (JA F1 p o) (JA H1 p o) S1 ρ1 :=
 let s':=s.new h o
 ⟨s.ff.trans (upd_same' hf),s'.hh,s'.dm,fun b e z=>by by_cases hb:b=p;rw[hb];exact .inr (s.dm p h);rw[zA hb]at z;exact s.fn b e z,s.uu,s.bo⟩
theorem Ste.newT(s:Ste F H S ρ F1 H1 S1 ρ1)(h:H1 p=none)(hf:F1 p=none)(o:HO):Ste F H S ρ (JA F1 p o) (JA H1 p o) S1 ρ1:=⟨s.toStp.newT h hf o,s.ow⟩
theorem Rl.newT(I:Rl K F H S ρ σ)(h:H p=none)(o:HO):Rl K (JA F p o) (JA H p o) S ρ σ where
 fh:=fun b u e=>by by_cases hb:b=p;rw[hb,gA]at e ⊢;exact e;rw[zA hb]at e ⊢;exact I.fh b u e
 len:=I.len
 sl:=fun i s e=>by obtain⟨v,h1,h2⟩:=I.sl i s e;refine⟨v,h1,h2.mono (upd_same' (I.fh.free h)) fun b hb=>?_⟩;have hn:b≠p:=fun z=>(h2.dom b hb).1 (by rw[z];exact h);rw[zA hn,zA hn];exact⟨rfl,(h2.dom b hb).2⟩
 dj:=I.dj
theorem lockA_get(ρ:kA)(i:Nat):(lockA ρ)[i]?=ρ[i]?.map lockS:=by unfold lockA;rw[QY]
theorem lockA_some{ρ:kA}(h:(lockA ρ)[i]?=some (some s)):∃s0,ρ[i]?=some (some s0)/\s=.nk s0.t:=by
 rw[lockA_get]at h;cases e:ρ[i]? with
 |none=>rw[e]at h;cases h
 |some o =>
  rw[e]at h;cases o with
  |none=>cases h
  |some s0 =>
   cases s0 with
   |own t=>injection h with h;injection h with h;subst h;exact⟨_,rfl,rfl⟩
   |nk t=>injection h with h;injection h with h;subst h;exact⟨_,rfl,rfl⟩
theorem lockA_U(b:Addr):¬ U (lockA ρ) S b:=fun⟨i,t,h,_⟩=>by obtain⟨s0,_,e⟩:=lockA_some h;cases e
theorem Rl.lockA(I:Rl K F H S ρ σ):Rl K F H S (lockA ρ) σ where
 fh:=I.fh
 len:=by unfold L3.lockA;rw[QG];exact I.len
 sl:=fun i s e=>by obtain⟨s0,h,rfl⟩:=lockA_some e;obtain⟨v,h1,h2⟩:=I.sl i s0 h;exact⟨v,h1,h2.weak⟩
 dj:=fun i j t s _ h=>by obtain⟨s0,_,e⟩:=lockA_some h;cases e
theorem Stp.unlockA(s:Stp F H S (L3.lockA ρ) F1 H1 S1 ρ1):Stp F H S ρ F1 H1 S ρ :=
 ⟨s.ff,fun b u e _=>s.hh b u e (lockA_U b),s.dm,fun b h z=>(s.fn b h z).elim (fun q=>absurd q (lockA_U b)) .inr,fun _ h=>.inl h,fun _ _ h _=>⟨h,rfl⟩⟩
theorem Rl.unlockA(I:Rl K F H S ρ σ)(s:Stp F H S (L3.lockA ρ) F1 H1 S1 ρ1)(f:Same F1 H1):Rl K F1 H1 S ρ σ where
 fh:=f
 len:=I.len
 sl:=fun i sl e=>by obtain⟨v,h1,h2⟩:=I.sl i sl e;exact⟨v,h1,s.keep h2 fun b _=>lockA_U b⟩
 dj:=I.dj
structure VR(K:QA)(vs:List Nat)(H0:Hp)(S0:Ft)(ρ0:kA)(F H:Hp)(S:Ft)(ρ:kA)(v:V)(t:T)(n:Bool)(Z:AdP):Prop where
 tr:Tr K F H n v t Z
 fr:n=true->∀b,Z b->H0 b=none∨U ρ0 S0 b
 tm:n=false->∀b,Z b->∃(i:Nat) (s:Sl),i∈vs/\ρ[i]?=some (some s)/\S i b
 nw:n=true->∀(i:Nat) s,ρ[i]?=some (some s)->∀b,Z b->¬ S i b
theorem VR.d{vs:List Nat}{H0:Hp}{S0:Ft}{ρ0:kA}{v:V}{x:D}(n:Bool)(r:Rep K F v x):VR K vs H0 S0 ρ0 F H S ρ v (.d x) n (fun _=>False) :=
 ⟨.d r fun _ z=>z,fun _ _ z=>z.elim,fun _ _ z=>z.elim,fun _ _ _ _ _ z=>z.elim⟩
theorem VR.held(h:VR K vs H0 S0 ρ0 F H S ρ v t true Z):Held F H S ρ Z:=⟨fun b hb=>h.tr.dom b hb,h.nw rfl⟩
theorem VR.vars{ws:List Nat}(h:VR K vs H0 S0 ρ0 F H S ρ v t n Z)(k:∀i∈vs,i∈ws):VR K ws H0 S0 ρ0 F H S ρ v t n Z :=
 ⟨h.tr,h.fr,fun e b hb=>let⟨i,s,h1,h2⟩:=h.tm e b hb;⟨i,s,k i h1,h2⟩,h.nw⟩
theorem VR.from(s:Stp F H S ρ F1 H1 S1 ρ1)(h:VR K vs H1 S1 ρ1 F2 H2 S2 ρ2 v t n Z):VR K vs H S ρ F2 H2 S2 ρ2 v t n Z :=
 ⟨h.tr,fun e b hb=>by rcases h.fr e b hb with q|q;exact .inl (s.dm b q);exact(s.uu b q).symm,h.tm,h.nw⟩
theorem VR.frz{vs:List Nat}{v:V}{t:T}{n:Bool}{Z:AdP}(s:Ste F H S ρ F1 H1 S1 ρ1)(I:Rl K F1 H1 S1 ρ1 σ)(h:VR K vs H S ρ F1 H1 S1 ρ1 v t n Z) :
  ∃F2 Z2,Ste F H S ρ F2 H1 S1 ρ1/\Rl K F2 H1 S1 ρ1 σ/\Tr K F2 H1 false v (fA t n) Z2/\(esc t n=true->Rep K F2 v t.er)/\(∀b,Z2 b->∃(i:Nat) (s:Sl),i∈vs/\ρ1[i]?=some (some s)/\S1 i b) /\
   ∀st v' t' Z',Tr K F1 H1 st v' t' Z'->(∀b,Z' b->∃(i:Nat) (s:Sl),ρ1[i]?=some (some s)/\S1 i b)->Tr K F2 H1 st v' t' Z':=by
 cases n with
 |true =>
  have hw:=h.held;have ff:=frzH_ff (H:=H1) fun b hb=>(hw.dom b hb).2;have kp:=h.tr.kept ff fun b u hb e=>by rw[frzH_in hb];exact e
  refine⟨frzH F1 H1 Z,fun _=>False,s.frz (fun b hb=>(hw.dom b hb).2) (h.fr rfl),I.frz hw,.d kp fun _ z=>z,fun _=>kp,fun b z=>z.elim,fun st v' t' Z' r hz=>r.mono ff fun b hb=>⟨rfl,?_⟩⟩;obtain⟨i,sl,h1,h2⟩:=hz b hb;rw[frzH_out fun z=>hw.nw i sl h1 b z h2];exact(r.dom b hb).2
 |false =>
  refine⟨F1,Z,s,I,h.tr,?_,h.tm rfl,fun _ _ _ _ r _=>r⟩;intro e;have tr:=h.tr;cases t with
  |d x=>cases tr with|d r n=>exact r
  |_=>cases e
end
end
noncomputable abbrev Kont(K:QA)(vs:List Nat)(F H:Hp)(S:Ft)(ρ:kA)(σ:St)(Q:TK)(R:VK):Prop :=
 ∀v F' H' S' ρ' t n Z,Ste F H S ρ F' H' S' ρ'->Rl K F' H' S' ρ' σ->VR K vs H S ρ F' H' S' ρ' v t n Z->Q t n ρ'->R v H'
noncomputable abbrev KontB(K:QA)(F H:Hp)(S:Ft)(ρ:kA)(σ:St)(Q:Bool->kA->Prop)(R:Bool->Hp->Prop):Prop :=
 ∀b F' H' S' ρ',Ste F H S ρ F' H' S' ρ'->Rl K F' H' S' ρ' σ->Q b ρ'->R b H'
section
variable{K:QA}{ws:List Nat}{F H F1 H1:Hp}{S S1:Ft}{ρ ρ1:kA}{σ:St}{v w:V}{a b:T}{Za Zb:AdP}{Q:TK}{R:VK}{sa sb:Bool}
section
variable{F2 H2:Hp}{S2:Ft}{ρ2:kA}{p:Addr}{vs xs:List V}{ts:List T}{ds ks:List D}{x y:D}{QB:Bool->Prop}{o:HO}{op:CmpOp}{RB:Bool->Hp->Prop}{n:String}{k:Bool}{Y:AdP}
theorem Kont.from(k:Kont K ws F H S ρ σ Q R)(s:Ste F H S ρ F2 H2 S2 ρ2):Kont K ws F2 H2 S2 ρ2 σ Q R:=fun v F' H' S' ρ' t n Z s' I' r q=>k v F' H' S' ρ' t n Z (s.trans s') I' (r.from s.toStp) q
theorem KontB.from{Q:Bool->kA->Prop}{R:Bool->Hp->Prop}(k:KontB K F H S ρ σ Q R)(s:Ste F H S ρ F2 H2 S2 ρ2):KontB K F2 H2 S2 ρ2 σ Q R:=fun b F' H' S' ρ' s' I' q=>k b F' H' S' ρ' (s.trans s') I' q
theorem Kont.vars{us:List Nat}(k:Kont K ws F H S ρ σ Q R)(h:∀i∈us,i∈ws):Kont K us F H S ρ σ Q R:=fun v F' H' S' ρ' t n Z s I r q=>k v F' H' S' ρ' t n Z s I (r.vars h) q
theorem Kont.d(k:Kont K ws F H S ρ σ Q R)(s:Ste F H S ρ F1 H1 S1 ρ1)(I:Rl K F1 H1 S1 ρ1 σ){x:D}{n:Bool}(r:Rep K F1 v x)(q:Q (.d x) n ρ1):R v H1:=k v F1 H1 S1 ρ1 _ n _ s I (VR.d n r) q
theorem Kont.list(k:Kont K ws F H S ρ σ Q R)(s:Ste F H S ρ F1 H1 S1 ρ1)(I:Rl K F1 H1 S1 ρ1 σ)(hp:H1 p=none){W:AdP}(r:Trs K F1 H1 true vs ts W)
  (fr:∀b,W b->H b=none∨U ρ S b) (hw:Held F1 H1 S1 ρ1 W) (q:Q (.lst ts) true ρ1):R (.ref p) (JA H1 p (.lst vs)):=by
 have np:∀b,H1 b≠none->b≠p:=fun b h z=>h (by rw[z];exact hp);refine k _ F1 _ S1 ρ1 _ true (fun b=>b=p∨W b) (s.new hp _) (I.new hp _) ⟨.lst gA (I.fh.free hp) (r.mono (.refl _) fun b hb=>⟨?_,(hw.dom b hb).2⟩) (fun z=>(hw.dom p z).1 hp) (fun b=>wf),fun _ b hb=>?_,fun z=>(by cases z),fun _ i sl e b hb z=>?_⟩ q;rw[zA (np b (hw.dom b hb).1)];rcases hb with rfl|hb
 ·exact .inl (s.dm _ hp)
 exact fr b hb;rcases hb with rfl|hb
 ·exact(I.dom e z).1 hp
 exact hw.nw i sl e b hb z
theorem Kont.listD(k:Kont K ws F H S ρ σ Q R)(s:Ste F H S ρ F1 H1 S1 ρ1)(I:Rl K F1 H1 S1 ρ1 σ)(hp:H1 p=none)(r:Reps K F1 vs ds)(q:Q (.lst (ds.map T.d)) true ρ1):R (.ref p) (JA H1 p (.lst vs)) :=
 k.list s I hp (Trs.of_reps r) (fun b z=>z.elim) .none q
theorem Kont.tupD(k:Kont K ws F H S ρ σ Q R)(s:Ste F H S ρ F1 H1 S1 ρ1)(I:Rl K F1 H1 S1 ρ1 σ)(hp:H1 p=none){n:Bool}(r:Reps K F1 vs ds)(q:Q (.d (.tuple ds)) n ρ1):R (.ref p) (JA H1 p (.tup vs)) :=
 Kont.d k (s.newT hp (I.fh.free hp) _) (I.newT hp _) (.tup (SqT.of gA) (r.mono (upd_same' (I.fh.free hp)))) q
theorem Kont.tup(k:Kont K ws F H S ρ σ Q R)(s:Ste F H S ρ F1 H1 S1 ρ1)(I:Rl K F1 H1 S1 ρ1 σ){p:Addr}(hp:H1 p=none){vs:List V}{ts:List T}{W:AdP}(r:Trs K F1 H1 true vs ts W)
  (fr:∀b,W b->H b=none∨U ρ S b) (hw:Held F1 H1 S1 ρ1 W) (q:Q (mkTup ts) true ρ1):R (.ref p) (JA H1 p (.tup vs)):=by
 unfold mkTup at q;cases e:unD ts with
 |some ds=>rw[e]at q;exact k.tupD s I hp (r.un e).1 q
 |none =>
  rw[e]at q;have np:∀b,H1 b≠none->b≠p:=fun b h z=>h (by rw[z];exact hp);refine k _ F1 _ S1 ρ1 _ true (fun b=>b=p∨W b) (s.new hp _) (I.new hp _) ⟨.tup gA (I.fh.free hp) (r.mono (.refl _) fun b hb=>⟨?_,(hw.dom b hb).2⟩) (fun z=>(hw.dom p z).1 hp) (fun b=>wf),fun _ b hb=>?_,fun z=>(by cases z),fun _ i sl e b hb z=>?_⟩ q;rw[zA (np b (hw.dom b hb).1)];rcases hb with rfl|hb
  ·exact .inl (s.dm _ hp)
  exact fr b hb;rcases hb with rfl|hb
  ·exact(I.dom e z).1 hp
  exact hw.nw i sl e b hb z
theorem bin_ok{op:Operator}(s:Ste F H S ρ F1 H1 S1 ρ1)(I:Rl K F1 H1 S1 ρ1 σ)(ra:Tr K F1 H1 sa v a Za)(rb:Tr K F1 H1 sb w b Zb)(h:binT op a.vw b.vw fun z n=>Q z n ρ1)(k:Kont K ws F H S ρ σ Q R):binR K op v w H1 R:=by
 have ii:∀{i j:Int},a.vw=.sc (.int i)->b.vw=.sc (.int j)->v=.int i/\w=.int j:=fun ea eb=>⟨ra.int ea,rb.int eb⟩
 cases op with
 |Add =>
  rcases h with⟨i,j,ea,eb,h⟩| ⟨x,y,ea,eb,h⟩| ⟨xs0,ys0,ds,es,ea,eb,e1,e2,hl,q⟩| ⟨xs0,ys0,ds,es,ea,eb,e1,e2,hn,hn2,hl,q⟩
  obtain⟨rfl,rfl⟩:=ii ea eb;exact k.d s I (.int _) h;obtain rfl:=ra.str ea;obtain rfl:=rb.str eb;exact⟨h.1,k.d s I (.str _) h.2⟩;obtain⟨p,xs,_,rfl,hp,rp,_⟩:=ra.ls I.fh ea;obtain⟨p2,ys,_,rfl,hq,rq,_⟩:=rb.ls I.fh eb;have r1:=(rp.un e1).1;have r2:=(rq.un e2).1;exact .inl ⟨xs,ys,hp,hq,by rw[r1.length,r2.length];exact hl,fun l hl=>k.listD s I hl (r1.append r2) q⟩;obtain⟨p,xs,_,rfl,hp,rp,_⟩:=ra.tp I.fh ea;obtain⟨p2,ys,_,rfl,hq,rq,_⟩:=rb.tp I.fh eb;have r1:=(rp.un e1).1;have r2:=(rq.un e2).1;refine .inr ⟨p,p2,xs,ys,rfl,rfl,hp,hq,?_,by rw[r1.length,r2.length];exact hl,fun z=>?_,fun _ l hl=>?_⟩;intro z;subst z;cases r1;exact hn rfl;subst z;cases r2;exact absurd rfl hn2;exact k.tupD s I hl (r1.append r2) q
 |Sub=>obtain⟨i,j,ea,eb,h⟩:=h;obtain⟨rfl,rfl⟩:=ii ea eb;exact k.d s I (.int _) h
 |Mult =>
  rcases h with⟨i,j,ea,eb,h⟩| ⟨x,y,ea,eb,h⟩
  obtain⟨rfl,rfl⟩:=ii ea eb;exact⟨h.1,k.d s I (.int _) h.2⟩;obtain rfl:=ra.str ea;obtain rfl:=rb.int eb;exact⟨h.1,k.d s I (.str _) h.2⟩
 |FloorDiv=>obtain⟨i,j,ea,eb,h⟩:=h;obtain⟨rfl,rfl⟩:=ii ea eb;exact⟨h.1,k.d s I (.int _) h.2⟩
 |Mod=>obtain⟨i,j,ea,eb,h⟩:=h;obtain⟨rfl,rfl⟩:=ii ea eb;exact⟨h.1,k.d s I (.int _) h.2⟩
 |_=>exact h.elim
theorem eq_ok(neg:Bool)(ra:Rep K H1 v x)(rb:Rep K H1 w y)(h:eqD x y fun k=>QB (if neg then !k else k))(k:∀c,QB c->R (.bl c) H1):rEq K neg v w H1 R:=by
 have gen:okD x/\okD y/\QB (if neg then !PyData.eqv x y else Qw x y)->(∃dx dy,Rep K H1 v dx/\Rep K H1 w dy/\okD dx/\okD dy/\R (.bl (if neg then !PyData.eqv dx dy else Qw dx dy)) H1):=fun⟨o1,o2,q⟩ =>
  ⟨x,y,ra,rb,o1,o2,k _ q⟩
 unfold eqD at h;split at h;cases ra;cases rb;exact k _ h;cases ra;cases rb;exact k _ h;cases ra;cases rb;exact k _ h;have g:=gen h;rename_i n1 n2 n3;cases ra with
 |int i =>
  cases rb with
  |int j=>exact absurd rfl (n1 i j rfl)
  |_=>exact g
 |str i =>
  cases rb with
  |str j=>exact absurd rfl (n2 i j rfl)
  |_=>exact g
 |bl i =>
  cases rb with
  |bl j=>exact absurd rfl (n3 i j rfl)
  |_=>exact g
 |_=>exact g
theorem flat_rep{F:Hp}{v w:V}{a b:D}(ra:Rep K F v a)(rb:Rep K F w b)(fa:flatD a=true)(fb:flatD b=true):eqV v w=Qw a b:=by cases ra<;>cases rb<;>first|exact absurd (show false=true from fa) QD|exact absurd (show false=true from fb) QD | (simp only[Qw];rfl) | (simp only[Qw])
theorem flat_v{F:Hp}{v:V}{a:D}(ra:Rep K F v a)(fa:flatD a=true):flatV v=true:=by cases ra<;>first|rfl|exact absurd (show false=true from fa) QD
theorem flat_all{F:Hp}(h:Reps K F vs ds)(f:ds.all flatD=true):vs.all flatV=true :=
 Reps.ind (R:=fun vs ds=>ds.all flatD=true->vs.all flatV=true) (fun _=>rfl) (fun h ih f=>by rw[qd,Qb]at f ⊢;exact⟨flat_v h f.1,ih f.2⟩) h f
theorem flat_any{F:Hp}{v:V}{a:D}(ra:Rep K F v a)(fa:flatD a=true):∀{vs:List V}{ds:List D},Reps K F vs ds->ds.all flatD=true->inV v vs=ds.any fun y=>Qw y a
 |_,_,.nil,_=>rfl
 |_,_,.cons h t,f=>by rw[qd,Qb]at f;have e:=flat_any ra fa t f.2;unfold inV at e ⊢;rw[wy,wy,flat_rep h ra f.1 fa,e]
theorem reps_keys{k:List Key}(h:Reps K F xs (k.map kD)):xs=k.map kV:=by
 induction k generalizing xs with
 |nil=>cases h;rfl
 |cons i k ih =>
  cases h with
  |cons h t=>rw[QN,ih t];cases i<;>(cases h;rfl)
theorem valT_find(q:List Key):∀(kvs:List KE),valT kvs q=(dA (kvs.map fun p=>tD p.1) (tD q)).bind fun n=>(kvs.map (·.2.2))[n]?
 |[]=>rfl
 |p::r=>by rw[QN,QN];unfold dA;by_cases e:p.1=q;rw[valT_pos e,if_pos (by rw[e])];rfl;rw[valT_neg e,if_neg fun z=>e (tD_inj z),valT_find q r];cases dA (r.map fun p=>tD p.1) (tD q)<;>rfl
theorem valV_find(q:Key):∀(kvs:List (Key×V)),valV kvs q=(dA (kvs.map fun p=>kD p.1) (kD q)).bind fun n=>(kvs.map (·.2))[n]?
 |[]=>rfl
 |p::r=>by rw[QN,QN];unfold dA;by_cases e:p.1=q;rw[valV_pos e,if_pos (by rw[e])];rfl;rw[valV_neg e,if_neg fun z=>e (kD_inj z),valV_find q r];cases dA (r.map fun p=>kD p.1) (kD q)<;>rfl
theorem DKo.get{a:Addr}{b:Bool}{k:D}(ha:H1 a=some o)(q:DKo K H1 b o ks vs)(rk:Rep K H1 w k)(hk:keyK b k):DGet K H1 a w ((dA ks k).bind fun n=>vs[n]?):=by
 cases b with
 |true =>
  obtain⟨ep,kvs,rfl,rfl,rfl,h4,_⟩:=q;obtain⟨q,rfl⟩:=hk;cases rk with
  |tup hq rq=>cases reps_keys rq;exact⟨ep,kvs,q,ha,h4,hq,(valT_find q kvs).symm⟩
 |false =>
  obtain⟨z,rfl⟩:=hk;cases rk;rcases q with⟨kvs,_,rfl,rfl,rfl,_⟩| ⟨ep,rfl,rfl,rfl⟩
  exact .inl ⟨kvs,ha,(valV_find (.inr z) kvs).symm⟩;exact .inr ⟨ep,ha,rfl⟩
theorem find_isSome{b:Bool}{k:D}(q:DKo K H1 b o ks vs):((dA ks k).bind fun n=>vs[n]?).isSome=(dA ks k).isSome:=by
 cases e:dA ks k with
 |none=>rfl
 |some n =>
  have h1:=(QT.mp (findK_lt e)).1;have h2:n<vs.length:=by rw[<- q.len];exact h1
  simp[h2]
theorem in_okD{b neg:Bool}{a:Addr}(ha:H1 a=some o)(q:DKo K H1 b o ks vs)(ra:Rep K H1 v x)(hk:keyK b x)(h:R (.bl (if neg then !(dA ks x).isSome else(dA ks x).isSome)) H1):rInU K neg v (.ref a) H1 R :=
 .inr (.inr ⟨_,q.get ha ra hk,by rw[find_isSome q];exact h⟩)
theorem in_ok(neg:Bool)(ra:Rep K H1 v x)(rb:Rep K H1 w y)(h:inD x y fun k=>QB (if neg then !k else k))(k:∀c,QB c->R (.bl c) H1):rInU K neg v w H1 R:=by
 unfold inD at h;split at h;cases ra;cases rb;exact k _ h;rename_i ds;have rb':=rb;cases rb with
 |lst hp rp =>
  rcases h.1 with⟨fa,fs⟩| ⟨o1,o2⟩
  refine .inl ⟨_,_,rfl,.inl hp,flat_v ra fa,flat_all rp fs,?_⟩;rw[flat_any ra fa rp fs];exact k _ h.2;exact .inr (.inl ⟨_,ds,ra,.inl rb',o1,o2,k _ h.2⟩)
 rename_i ds;have rb':=rb;cases rb with
 |tup hp rp =>
  rcases h.1 with⟨fa,fs⟩| ⟨o1,o2⟩
  refine .inl ⟨_,_,rfl,.inr hp,flat_v ra fa,flat_all rp fs,?_⟩;rw[flat_any ra fa rp fs];exact k _ h.2;exact .inr (.inl ⟨_,ds,ra,.inr rb',o1,o2,k _ h.2⟩)
 obtain⟨b,ek,hk,q⟩:=h;cases rb with
 |@dct b' a o ks vs ds h dk r =>
  have hl:ks.length=ds.length:=by rw[dk.len,Reps.length r]
  rw[Wc (WU hl)]at q;cases kind_ok dk ek;exact in_okD h dk ra hk (k _ q)
 exact h.elim
theorem ord_ok{g:Int->Int->Bool}(ra:Rep K H1 v x)(rb:Rep K H1 w y)(h:ordD g x y QB)(k:∀c,QB c->R (.bl c) H1):rOrd g v w H1 R:=by unfold ordD at h;split at h;cases ra;cases rb;exact k _ h;exact h.elim
theorem cmp_ok(ra:Rep K H1 v x)(rb:Rep K H1 w y)(h:cmpD op x y QB)(k:∀c,QB c->R (.bl c) H1):cmpR K op v w H1 R:=by
 cases op with
 |Eq=>exact eq_ok false ra rb h k
 |NotEq=>exact eq_ok true ra rb h k
 |Lt=>exact ord_ok ra rb h k
 |LtE=>exact ord_ok ra rb h k
 |Gt=>exact ord_ok ra rb h k
 |GtE=>exact ord_ok ra rb h k
 |In=>exact in_ok false ra rb h k
 |NotIn=>exact in_ok true ra rb h k
 |Is=>obtain⟨a,b,rfl,rfl,q⟩:=h;cases rb;cases ra;exact⟨_,_,rfl,rfl,k _ q⟩
 |IsNot=>exact h.elim
theorem cmp_okT(f:Same F1 H1)(ra:Rep K H1 v x)(rb:Tr K F1 H1 sb w b Zb)(h:cmpT op x b QB)(k:∀c,QB c->R (.bl c) H1):cmpR K op v w H1 R:=by
 cases b with
 |d y=>exact cmp_ok ra (rb.rep f) h k
 |lst ts=>exact cmp_ok ra (rb.rep f) h k
 |tup ts=>exact cmp_ok ra (rb.rep f) h k
 |dct b ks ts =>
  obtain⟨hk,h⟩:=h;cases rb with
  |dct ha dk _ _ _ _ =>
   rcases h with⟨rfl,q⟩| ⟨rfl,q⟩
   exact in_okD (neg:=false) ha (dk.mono f) ra hk (k _ q);exact in_okD (neg:=true) ha (dk.mono f) ra hk (k _ q)
theorem isEmpty_reps(r:Reps K F xs ds):(!ds.isEmpty)=!xs.isEmpty:=by cases r<;>rfl
theorem tru_okD(ra:Rep K H1 v x)(h:truD x QB)(k:∀c,QB c->RB c H1):truQ K v H1 RB:=by
 unfold truD at h;split at h;cases ra;exact k _ h;cases ra;exact k _ h;cases ra;exact k _ h;cases ra;exact⟨h.1,k _ h.2⟩;cases ra with
 |lst hp rp=>rw[isEmpty_reps rp]at h;exact⟨_,.inl ⟨_,hp,rfl⟩,k _ h⟩
 cases ra with
 |tup hp rp=>rw[isEmpty_reps rp]at h;exact⟨_,.inr (.inl ⟨_,hp,rfl⟩),k _ h⟩
 exact h.elim
theorem as_okD(ra:Rep K H1 v x)(h:asD x QB)(k:∀c,QB c->RB c H1):asB v H1 RB:=by unfold asD at h;split at h;cases ra;exact k _ h;exact h.elim
theorem idx_ok(s:Ste F H S ρ F1 H1 S1 ρ1)(I:Rl K F1 H1 S1 ρ1 σ)(ra:Tr K F1 H1 sa v a Za)(za:∀b,Za b->∃(i:Nat) (s:Sl),i∈ws/\ρ1[i]?=some (some s)/\S1 i b)(rb:Tr K F1 H1 sb w b Zb)(h:idxT a.vw b.vw fun z=>Q z false ρ1)(k:Kont K ws F H S ρ σ Q R):rIxU K v w H1 R:=by
 rcases h with⟨z,i,c,ea,eb,h1,h2,q⟩| ⟨ts,i,d,ea,eb,h1,q⟩| ⟨ts,i,d,ea,eb,h1,q⟩
 obtain rfl:=ra.str ea;obtain rfl:=rb.int eb;exact⟨h1,c,h2,k.d s I (.str _) q⟩;obtain⟨p,xs,Z',rfl,hp,rp,hz⟩:=ra.ls I.fh ea;obtain rfl:=rb.int eb;obtain⟨x,Z,h2,r,hz2⟩:=rp.at h1;exact⟨xs,x,.inl hp,h2,k _ F1 H1 S1 ρ1 _ false Z s I ⟨r,fun z=>(by cases z),fun _ b hb=>za b (hz b (hz2 b hb)),fun z=>(by cases z)⟩ q⟩;obtain⟨p,xs,Z',rfl,hp,rp,hz⟩:=ra.tp I.fh ea;obtain rfl:=rb.int eb;obtain⟨x,Z,h2,r,hz2⟩:=rp.at h1;exact⟨xs,x,.inr hp,h2,k _ F1 H1 S1 ρ1 _ false Z s I ⟨r,fun z=>(by cases z),fun _ b hb=>za b (hz b (hz2 b hb)),fun z=>(by cases z)⟩ q⟩
theorem dix_ok(s:Ste F H S ρ F1 H1 S1 ρ1)(I:Rl K F1 H1 S1 ρ1 σ)(ra:Tr K F1 H1 sa v a Za)(za:∀b,Za b->∃(i:Nat) (s:Sl),i∈ws/\ρ1[i]?=some (some s)/\S1 i b)(rb:Rep K H1 w y)(h:dixT a.vw y fun z=>Q z false ρ1)(k:Kont K ws F H S ρ σ Q R):rIxU K v w H1 R:=by
 obtain⟨b,ks,ts,n,d,ea,hk,hf,ht,q⟩:=h;obtain⟨p,o,vs,Z',rfl,hp,dk,rp,hz,_⟩:=ra.dc I.fh ea;obtain⟨x,Z,h2,r,hz2⟩:=rp.get ht;have g:=(dk.mono I.fh).get hp rb hk;rw[hf]at g;have g:DGet K H1 p w (vs[n]?):=g;rw[h2]at g;have fin:=k _ F1 H1 S1 ρ1 _ false Z s I ⟨r,fun z=>(by cases z),fun _ b hb=>za b (hz b (hz2 b hb)),fun z=>(by cases z)⟩ q;cases w with
 |str z=>exact⟨x,g,fin⟩
 |ref c=>exact⟨x,g,fin⟩
 |_=>exact g.elim
theorem Reps.cut(r:Reps K F xs ds)(lo hi:Option Int):Reps K F (cutV xs lo hi) (cutD ds lo hi):=by unfold cutV cutD;rw[r.length];exact(r.drop _).take _
theorem slc_ok{lo hi:Option Int}(s:Ste F H S ρ F1 H1 S1 ρ1)(I:Rl K F1 H1 S1 ρ1 σ)(ra:Tr K F1 H1 sa v a Za)(h:slcT a.vw lo hi fun z n=>Q z n ρ1)(k:Kont K ws F H S ρ σ Q R):rSl K v lo hi H1 R:=by
 rcases h with⟨z,ea,h⟩| ⟨ts,ds,ea,e,q⟩| ⟨ts,ds,ea,e,n,q⟩
 obtain rfl:=ra.str ea;exact⟨h.1,k.d s I (.str _) h.2⟩;obtain⟨p,xs,_,rfl,hp,rp,_⟩:=ra.ls I.fh ea;exact .inl ⟨p,xs,rfl,hp,fun l hl=>k.listD s I hl ((rp.un e).1.cut _ _) q⟩;obtain⟨p,xs,_,rfl,hp,rp,_⟩:=ra.tp I.fh ea;refine .inr ⟨p,xs,rfl,hp,by rw[(rp.un e).1.length];exact n,fun l hl=>k.tupD s I hl ((rp.un e).1.cut _ _) q⟩
theorem part_ok{P:Option Int->Prop}{RP:Option Int->Hp->Prop}(ra:Rep K H1 v x)(h:partD x P)(k:∀o,P o->RP o H1):partQ v H1 RP:=by unfold partD at h;split at h;cases ra;exact k _ h;exact h.elim
def tyD:D->Value
 | .none=>.type "NoneType"
 | .bool _=>.type "bool"
 | .int _=>.type "int"
 | .str _=>.type "str"
 | .list _=>.type "list"
 | .tuple _=>.type "tuple"
 | .dict _=>.type "dict"
theorem Rep.ty(ra:Rep K H1 v x):TyOf K H1 v (tyD x)∨TyQ K H1 v (tyD x):=by
 cases ra with
 |non=>exact .inl .non
 |bl b=>exact .inl (.bl _)
 |int b=>exact .inl (.int _)
 |str b=>exact .inl (.str _)
 |lst hp rp=>exact .inr (.inl ⟨_,_,rfl,hp,rfl⟩)
 |tup hp rp=>exact .inr (.inr ⟨_,_,rfl,hp,rfl⟩)
 |@dct b _ _ _ _ _ hp q _ =>
  cases b with
  |true=>obtain⟨ep,kvs,rfl,_⟩:=q;exact .inl (.dT hp)
  |false =>
   rcases q with⟨kvs,_,rfl,_⟩| ⟨ep,rfl,_⟩
   exact .inl (.dK hp);exact .inl (.dT hp)
theorem kit_ok(h:isD n x=some k)(ht:isTyN n=true):QAp K (tyD x) (.type n)=some k:=by simp only[isTyN,wF,beq_iff_eq]at ht;rcases ht with((((rfl|rfl)|rfl)|rfl)|rfl)|rfl<;>cases x<;>simp[isD]at h<;>subst h<;>rfl
theorem isi_ok(ra:Rep K H1 v x)(h:isD n x=some k)(ht:isTyN n=true)(q:R (.bl k) H1):rIsI K [v,.ty n] H1 R :=
 ⟨tyD x,.type n,k,ra.ty,rfl,kit_ok h ht,q⟩
inductive Tn(K:QA)(F H:Hp)(Y:AdP):List V->List T->Prop where
 |nil:Tn K F H Y [] []
 |cons {v:V}{t:T}{vs:List V}{ts:List T}{Z:AdP}:Tr K F H false v t Z->(∀b,Z b->Y b)->Tn K F H Y vs ts->Tn K F H Y (v::vs) (t::ts)
theorem vw_map(ts:List T):∀{xs:List (T×Bool)},fzOf xs=ts->vwOf xs=ts.map T.vw
 |[],h=>by subst h;rfl
 |p::r,h=>by subst h;simp only[vwOf,fzOf,QN,vw_map _ rfl]
theorem Tn.one{x:Vw}(h:Tn K F H Y vs ts)(e:ts.map T.vw=[x]):∃v t Z,vs=[v]/\ts=[t]/\t.vw=x/\Tr K F H false v t Z/\∀b,Z b->Y b:=by
 cases h with
 |nil=>cases e
 |cons r z t =>
  simp only[QN,Wo]at e;cases t with
  |nil=>exact⟨_,_,_,rfl,rfl,e.1,r,z⟩
  |cons _ _ _=>simp at e
theorem reps_strs:∀{xs:List V}{ys:List Str},Reps K F xs (ys.map PyData.str)->xs=ys.map V.str
 |_,[],.nil=>rfl
 |_,y::ys,.cons h t=>by cases h;rw[QN,reps_strs t]
theorem strs_reps:∀(ys:List Str),Reps K F (ys.map V.str) (ys.map PyData.str)
 |[]=>.nil
 |y::ys=>.cons (.str y) (strs_reps ys)
theorem bi_okT{bi:Bi}(s:Ste F H S ρ F1 H1 S1 ρ1)(I:Rl K F1 H1 S1 ρ1 σ)(ra:Tn K F1 H1 Y vs ts)(h:biT bi (ts.map T.vw) fun z n=>Q z n ρ1)(k:Kont K ws F H S ρ σ Q R):biR K bi vs H1 R:=by
 cases bi with
 |len =>
  rcases h with⟨z,e,h⟩| ⟨us,e,h⟩| ⟨us,e,h⟩
  obtain⟨v,t,Z,rfl,rfl,e,r,_⟩:=ra.one e;obtain rfl:=r.str e;exact .inl ⟨_,rfl,h.1,k.d s I (.int _) h.2⟩;obtain⟨v,t,Z,rfl,rfl,e,r,_⟩:=ra.one e;obtain⟨p,xs,_,rfl,hp,rp,_⟩:=r.ls I.fh e;exact .inr ⟨_,xs,rfl,.inl hp,by rw[rp.length];exact k.d s I (.int _) h⟩;obtain⟨v,t,Z,rfl,rfl,e,r,_⟩:=ra.one e;obtain⟨p,xs,_,rfl,hp,rp,_⟩:=r.tp I.fh e;exact .inr ⟨_,xs,rfl,.inr hp,by rw[rp.length];exact k.d s I (.int _) h⟩
 |any=>obtain⟨us,bs,e,hb,q⟩:=h;obtain⟨v,t,Z,rfl,rfl,e,r,_⟩:=ra.one e;obtain⟨p,xs,_,rfl,hp,rp,_⟩:=r.ls I.fh e;obtain rfl:=(rp.un hb).1.bools;exact⟨bs,hp,k.d s I (.bl _) q⟩
 |all=>obtain⟨us,bs,e,hb,q⟩:=h;obtain⟨v,t,Z,rfl,rfl,e,r,_⟩:=ra.one e;obtain⟨p,xs,_,rfl,hp,rp,_⟩:=r.ls I.fh e;obtain rfl:=(rp.un hb).1.bools;exact⟨bs,hp,k.d s I (.bl _) q⟩
 |list=>obtain⟨us,ds,e,hb,q⟩:=h;obtain⟨v,t,Z,rfl,rfl,e,r,_⟩:=ra.one e;obtain⟨p,xs,_,rfl,hp,rp,_⟩:=r.ls I.fh e;exact⟨_,xs,rfl,.inl hp,fun l hl=>k.listD s I hl (rp.un hb).1 q⟩
 |sorted=>obtain⟨us,ss,e,hb,h64,q⟩:=h;obtain⟨v,t,Z,rfl,rfl,e,r,_⟩:=ra.one e;obtain⟨p,xs,_,rfl,hp,rp,_⟩:=r.ls I.fh e;obtain rfl:=reps_strs (rp.un hb).1;exact⟨_,rfl,.inl ⟨ss,hp,h64,fun l ss' hl p1 p2=>k.listD s I hl (strs_reps ss') (q ss' p1 p2)⟩⟩
theorem mt_okT{m:Mt}(s:Ste F H S ρ F1 H1 S1 ρ1)(I:Rl K F1 H1 S1 ρ1 σ)(rv:Tr K F1 H1 sa v a Za)(ra:Tn K F1 H1 Y vs ts)(h:mtT m a.vw (ts.map T.vw) fun z n=>Q z n ρ1)(k:Kont K ws F H S ρ σ Q R):mtR K m v vs H1 R:=by
 cases m with
 |join=>obtain⟨z,us,ys,ea,e,hy,hl,q⟩:=h;obtain⟨w,t,Z,rfl,rfl,e,r,_⟩:=ra.one e;obtain rfl:=rv.str ea;obtain⟨p,xs,_,rfl,hp,rp,_⟩:=r.ls I.fh e;obtain rfl:=reps_strs (rp.un hy).1;exact⟨z,p,ys,rfl,rfl,hp,hl,k.d s I (.str _) q⟩
 |_=>exact h.elim
theorem isS_i{x:Vw}(h:x.isS=true):∃z,x=.sc (.str z):=by
 cases x with
 |sc d=>cases d with
  |str z=>exact⟨z,rfl⟩
  |_=>exact(QD h).elim
 |_=>exact(QD h).elim
theorem mt_ty{m:Mt}(rv:Tr K F1 H1 sa v a Za)(h:mtTy m a.vw=true):tyV K m.ty v H1:=by
 have h:=yA h;obtain⟨z,ea⟩:=isS_i h.1;obtain rfl:=rv.str ea;cases m with
 |join=>rfl
 |_=>exact(QD h.2).elim
end
end
inductive AV(K:QA)(F H:Hp):List Md->List V->List (T×Bool)->(Addr->Prop)->(Addr->Prop)->Prop where
 |nil {md:List Md}{W Y:AdP}:(∀b,¬ W b)->AV K F H md [] [] W Y
 |chg {md:List Md}{v:V}{vs:List V}{x:T}{xs:List (T×Bool)}{W Y:AdP}:(md.headD .nq).isMut=true->AV K F H md.tail vs xs W Y->AV K F H md (v::vs) ((x,true)::xs) W Y
 |new {md:List Md}{v:V}{vs:List V}{x:T}{xs:List (T×Bool)}{Z W W' Y:AdP}:(md.headD .nq).isMut=false->Tr K F H true v x Z->AV K F H md.tail vs xs W' Y->(∀b,Z b->¬ W' b)->(∀b,W b↔Z b∨W' b) ->
   AV K F H md (v::vs) ((x,true)::xs) W Y
 |tmp {md:List Md}{v:V}{vs:List V}{x:T}{xs:List (T×Bool)}{Z W Y:AdP}:(md.headD .nq).isMut=false->Tr K F H false v x Z->(∀b,Z b->Y b)->AV K F H md.tail vs xs W Y ->
   AV K F H md (v::vs) ((x,false)::xs) W Y
section
variable{K:QA}{F H F1 H1:Hp}{S S1:Ft}{ρ ρ1:kA}{σ:St}
section
variable{Y W:AdP}{md:List Md}{vs:List V}{xs:List (T×Bool)}{ws:List Nat}{H0:Hp}{S0:Ft}{ρ0:kA}
theorem AV.sub{Y':AdP}(h:AV K F H md vs xs W Y)(k:∀b,Y b->Y' b):AV K F H md vs xs W Y':=by
 induction h with
 |nil h=>exact .nil h
 |chg h t ih=>exact .chg h (ih k)
 |new h r t n q ih=>exact .new h r (ih k) n q
 |tmp h r z t ih=>exact .tmp h r (fun b hb=>k b (z b hb)) (ih k)
theorem AV.dom(h:AV K F H md vs xs W Y):∀b,W b->H b≠none/\F b=none:=by
 induction h with
 |nil h=>exact fun b hb=>absurd hb (h b)
 |chg h t ih=>exact ih
 |new h r t n q ih=>exact fun b hb=>((q b).mp hb).elim (r.dom b) (ih b)
 |tmp h r z t ih=>exact ih
theorem AV.length(h:AV K F H md vs xs W Y):vs.length=xs.length:=by
 induction h with
 |nil h=>rfl
 |chg h t ih=>simp[ih]
 |new h r t n q ih=>simp[ih]
 |tmp h r z t ih=>simp[ih]
theorem AV.trs(h:AV K F H md vs xs W Y):(∀(i:Nat),(md.getD i .nq).isMut=false)->escB xs=true->Trs K F H true vs (tsOf xs) W:=by
 induction h with
 |nil h=>exact fun _ _=>.nil h
 |@chg md _ _ _ _ _ _ h t ih =>
  intro m;have:=m 0;cases md with
  |nil=>cases h
  |cons a r=>exact absurd h (by simpa using this)
 |@new md v vs x xs Z W W' Y h r t n q ih =>
  intro m e;simp only[escB,Qb]at e;exact .cons r (ih (fun i=>by cases md with
   |nil=>exact m i
   |cons a md=>exact m (i+1)) e.2) n q
 |@tmp md v vs x xs Z W Y h r z t ih =>
  intro m e;simp only[escB,Qb]at e;refine .cons (S1:=fun _=>False) ?_ (ih (fun i=>by cases md with
   |nil=>exact m i
   |cons a md=>exact m (i+1)) e.2) (fun _ z=>z.elim) fun b=>by simp
  cases x with
  |d x=>cases r with|d r n=>exact .d r fun _ z=>z
  |_=>exact absurd e.1 (by simp[esc,T.isD])
theorem noMd(i:Nat):((([]:List Md).getD i .nq).isMut)=false:=rfl
theorem AV.tn(h:AV K F H md vs xs W Y)(e:Same F F1)(k:∀b,W b->F1 b=H b)(k2:∀b,Y b->F b=none->F1 b=none)(hm:md=[]):Tn K F1 H Y vs (fzOf xs):=by
 induction h with
 |nil h=>exact .nil
 |chg h t ih=>subst hm;cases h
 |@new md v vs x xs Z W W' Y h r t n q ih=>subst hm;refine .cons (Z:=fun _=>False) ?_ (fun b z=>z.elim) (ih (fun b hb=>k b ((q b).mpr (.inr hb))) k2 rfl);exact .d (r.kept e fun b u hb eu=>by rw[k b ((q b).mpr (.inl hb))];exact eu) fun _ z=>z
 |@tmp md v vs x xs Z W Y h r z t ih=>subst hm;exact .cons (r.mono e fun b hb=>⟨rfl,k2 b (z b hb) (r.dom b hb).2⟩) z (ih k k2 rfl)
structure AR(K:QA)(ws:List Nat)(md:List Md)(H0:Hp)(S0:Ft)(ρ0:kA)(F H:Hp)(S:Ft)(ρ:kA)(vs:List V)(xs:List (T×Bool))(W Y:AdP):Prop where
 av:AV K F H md vs xs W Y
 fr:∀b,W b->H0 b=none∨U ρ0 S0 b
 tm:∀b,Y b->∃(i:Nat) (s:Sl),i∈ws/\ρ[i]?=some (some s)/\S i b
 nw:∀(i:Nat) s,ρ[i]?=some (some s)->∀b,W b->¬ S i b
theorem AR.held(h:AR K ws md H0 S0 ρ0 F H S ρ vs xs W Y):Held F H S ρ W:=⟨h.av.dom,h.nw⟩
theorem AR.from{F2 H2:Hp}{S2:Ft}{ρ2:kA}(s:Stp F H S ρ F1 H1 S1 ρ1)(h:AR K ws md H1 S1 ρ1 F2 H2 S2 ρ2 vs xs W Y):AR K ws md H S ρ F2 H2 S2 ρ2 vs xs W Y :=
 ⟨h.av,fun b hb=>by rcases h.fr b hb with q|q;exact .inl (s.dm b q);exact(s.uu b q).symm,h.tm,h.nw⟩
theorem AR.vars{us:List Nat}(h:AR K ws md H0 S0 ρ0 F H S ρ vs xs W Y)(k:∀i∈ws,i∈us):AR K us md H0 S0 ρ0 F H S ρ vs xs W Y :=
 ⟨h.av,h.fr,fun b hb=>let⟨i,s,h1,h2⟩:=h.tm b hb;⟨i,s,k i h1,h2⟩,h.nw⟩
theorem AR.frz{ws:List Nat}{vs:List V}{xs:List (T×Bool)}{W Y:AdP}(s:Ste F H S ρ F1 H1 S1 ρ1)(I:Rl K F1 H1 S1 ρ1 σ)(h:AR K ws [] H S ρ F1 H1 S1 ρ1 vs xs W Y) :
  ∃F2,Ste F H S ρ F2 H1 S1 ρ1/\Rl K F2 H1 S1 ρ1 σ/\Tn K F2 H1 Y vs (fzOf xs) /\
   ∀st v' t' Z',Tr K F1 H1 st v' t' Z'->(∀b,Z' b->∃(i:Nat) (s:Sl),ρ1[i]?=some (some s)/\S1 i b)->Tr K F2 H1 st v' t' Z':=by
 have hw:=h.held;have ff:=frzH_ff (H:=H1) fun b hb=>(hw.dom b hb).2;refine⟨frzH F1 H1 W,s.frz (fun b hb=>(hw.dom b hb).2) h.fr,I.frz hw,h.av.tn ff (fun b hb=>frzH_in hb) (fun b hy hf=>?_) rfl,fun st v' t' Z' r hz=>r.mono ff fun b hb=>⟨rfl,?_⟩⟩;obtain⟨i,sl,_,h2,h3⟩:=h.tm b hy;rw[frzH_out fun z=>h.nw i sl h2 b z h3];exact hf;obtain⟨i,sl,h1,h2⟩:=hz b hb;rw[frzH_out fun z=>hw.nw i sl h1 b z h2];exact(r.dom b hb).2
def mutVs:List Md->List V->List V
 |_,[]=>[]
 |md,v::vs=>match md.headD .nq with
  | .chg=>v::mutVs md.tail vs
  |_=>mutVs md.tail vs
noncomputable abbrev KontA(K:QA)(p:PX)(md:List Md)(F H:Hp)(S:Ft)(ρ:kA)(σ:St)(Q:List (T×Bool)->kA->Prop)(R:List V->Hp->Prop):Prop :=
 ∀vs F' H' S' ρ' xs W Y,Ste F H S ρ F' H' S' ρ'->Rl K F' H' S' ρ' σ->AR K (vrs p) md H S ρ F' H' S' ρ' vs xs W Y->(mutVs md vs).map (fun v=>some (some v))=(xA md p).map (fun j=>σ[j]?)->Q xs ρ'->R vs H'
def XRel(K:QA)(F H:Hp)(x:XD)(dx:Option Addr):Prop:=∃a fs,dx=some a/\H a=some (.xd fs)/\Paired (fun(p:Str×V) (q:Str×D)=>p.1=q.1/\Rep K F p.2 q.2) fs x.2
def XOk(K:QA)(F H:Hp)(S:Ft)(ρ:kA)(E:XE)(EK:XK):Prop:=∀x dx F' H' S' ρ',Stp F H S ρ F' H' S' ρ'->Same F' H'->XRel K F' H' x dx->E x->EK x.1 dx H'
theorem XOk.from{E:XE}{EK:XK}(h:XOk K F H S ρ E EK)(s:Stp F H S ρ F1 H1 S1 ρ1):XOk K F1 H1 S1 ρ1 E EK:=fun x dx F2 H2 S2 ρ2 s2 f r q=>h x dx F2 H2 S2 ρ2 (s.trans s2) f r q
theorem XOk.never:XOk K F H S ρ (fun _=>False) (fun _ _ _=>False):=fun _ _ _ _ _ _ _ _ _ z=>z
inductive ArgsR(K:QA)(F H:Hp)(Y:AdP):List Md->List V->List T->Prop where
 |nil {md:List Md}:ArgsR K F H Y md [] []
 |chg {md:List Md}{v:V}{vs:List V}{t:T}{ts:List T}:md.headD .nq=.chg->ArgsR K F H Y md.tail vs ts->ArgsR K F H Y md (v::vs) (t::ts)
 |rd {md:List Md}{v:V}{vs:List V}{t:T}{ts:List T}{Z:AdP}:md.headD .nq≠.chg->Tr K F H false v t Z->(∀b,Z b->Y b)->ArgsR K F H Y md.tail vs ts->ArgsR K F H Y md (v::vs) (t::ts)
structure Frm(M:AdP)(F H F' H':Hp):Prop where
 ff:Same F F'
 fh:Same F' H'
 hh:∀b u,H b=some u->¬ M b->H' b=some u
 dm:∀b,H' b=none->H b=none
 fn:∀b,F b=none->F' b≠none->M b∨H b=none
def lift(K:QA)(P:PSp):Sp:=fun vs H Q E=>∃(F:Hp) (ts:List T) (M Y:AdP),Same F H/\ArgsR K F H Y P.md vs ts/\Trs K F H true (mutVs P.md vs) (mutTs P.md ts) M/\(∀b,Y b->¬ M b) /\
 P.run ts (fun r os=>∀v F' H' Z M',Frm M F H F' H'->Tr K F' H' true v r Z->Trs K F' H' true (mutVs P.md vs) os M'->(∀b,Z b->¬ M' b)->(∀b,Z b∨M' b->M b∨H b=none)->Q v H')
  (fun x=>∀dx F' H',Frm M F H F' H'->XRel K F' H' x dx->E x.1 dx H')
structure GOk(K:QA)(Γ:Ev)(Ψ:PEv):Prop where
 sp:∀f vs H Q E,lift K (Ψ.sp f) vs H Q E->Γ.sp f vs H Q E
 va:∀x d,Ψ.va x=some d->∀F,Rep K F (Γ.va x) d
structure PSnd(K:QA)(Γ:Ev)(Ψ:PEv)(p:PX):Prop where
 e:∀{E:XE}{EK:XK}{F H:Hp}{S:Ft}{ρ:kA}{σ:St}{Q:TK}{R:VK},Rl K F H S ρ σ->XOk K F H S ρ E EK->(pe Ψ p E).e ρ Q->Kont K (vrs p) F H S ρ σ Q R->(wp K Γ p EK).e σ H R
 t:∀{E:XE}{EK:XK}{F H:Hp}{S:Ft}{ρ:kA}{σ:St}{Q:Bool->kA->Prop}{R:Bool->Hp->Prop},Rl K F H S ρ σ->XOk K F H S ρ E EK->(pe Ψ p E).t ρ Q->KontB K F H S ρ σ Q R->(wp K Γ p EK).t σ H R
 a:∀{E:XE}{EK:XK}{F H:Hp}{S:Ft}{ρ:kA}{σ:St}{md:List Md}{Q:List (T×Bool)->kA->Prop}{R:List V->Hp->Prop},Rl K F H S ρ σ->XOk K F H S ρ E EK->(∀j∈xA md p,∃v,σ[j]?=some (some v))->(pe Ψ p E).a md ρ Q->KontA K p md F H S ρ σ Q R->(wp K Γ p EK).a σ H R
end
end
section
variable{K:QA}{Γ:Ev}{Ψ:PEv}{E:XE}{EK:XK}{F H F1 H1:Hp}{S S1:Ft}{ρ ρ1:kA}{σ:St}
section
variable{b a as:PX}{RR:List V->Hp->Prop}{P:List (T×Bool)->kA->Prop}{Y Z:AdP}{t:T}{st:Bool}{ts:List T}{v:V}
theorem sq_e(ib:PSnd K Γ Ψ b)(I:Rl K F H S ρ σ)(X:XOk K F H S ρ E EK){x:T}{P:T×Bool->kA->Prop}{RR:VK}(h:sq x ρ (cu (pe Ψ b E).e) P)
  (kk:∀w F' H' S' ρ' y m Z,Ste F H S ρ F' H' S' ρ'->Rl K F' H' S' ρ' σ->(∀st v Zx,Tr K F H st v x Zx->Tr K F' H' st v x Zx)->(x.isD=false->ρ'=ρ/\S'=S)->VR K (vrs b) H S ρ F' H' S' ρ' w y m Z->P (y,m) ρ'->RR w H') :
  (wp K Γ b EK).e σ H RR:=by
 unfold sq at h;cases hd:x.isD with
 |true =>
  rw[hd,if_pos rfl]at h;refine ib.e I X h fun w F' H' S' ρ' y m Z s I' r q=>kk w F' H' S' ρ' y m Z s I' (fun st v Zx rx=>?_) (fun z=>(by rw[hd]at z;cases z)) r q;cases x with
  |d x=>cases rx with|d r n=>exact .d (r.mono s.ff) n
  |_=>cases hd
 |false =>
  rw[hd,if_neg (by simp)]at h;have X':XOk K F H S (lockA ρ) E EK:=fun x dx F2 H2 S2 ρ2 s2 f r q=>X x dx F2 H2 S ρ s2.unlockA f r q;refine ib.e I.lockA X' h fun w F' H' S' ρ' y m Z s I' r q=>?_;have kp:∀st v t Zx,Tr K F H st v t Zx->Tr K F' H' st v t Zx:=fun st v t Zx rx=>s.keep rx fun b _=>lockA_U b;refine kk w F' H' S ρ y m Z ⟨s.unlockA,fun j t h=>⟨t,h⟩⟩ (I.unlockA s.toStp I'.fh) (fun st v Zx rx=>kp st v _ Zx rx) (fun _=>⟨rfl,rfl⟩) ⟨r.tr,fun e b hb=>?_,fun e b hb=>?_,fun e i sl hi b hb z=>?_⟩ q;exact .inl ((r.fr e b hb).elim id fun z=>absurd z (lockA_U b));obtain⟨i,sl,h1,h2,h3⟩:=r.tm e b hb;cases sl with
  |own t=>obtain⟨t0,h0⟩:=s.ow i t h2;obtain⟨_,_,e0⟩:=lockA_some h0;cases e0
  |nk t =>
   cases hd:t.isD with
   |true=>exact absurd h3 (I'.isD h2 hd)
   |false=>obtain⟨g1,g2⟩:=s.bo i t h2 hd;obtain⟨s0,g3,_⟩:=lockA_some g1;rw[g2]at h3;exact⟨i,s0,h1,g3,h3⟩
  rcases r.fr e b hb with q|q
  ·exact(I.dom hi z).1 q
  exact absurd q (lockA_U b)
theorem sq_a{md:List Md}(ib:PSnd K Γ Ψ b)(I:Rl K F H S ρ σ)(X:XOk K F H S ρ E EK)(hm:∀j∈xA md b,∃v,σ[j]?=some (some v)){x:T}(h:sq x ρ ((pe Ψ b E).a md) P)
  (kk:∀ws F' H' S' ρ' ys W Y,Ste F H S ρ F' H' S' ρ'->Rl K F' H' S' ρ' σ->(∀st v Zx,Tr K F H st v x Zx->Tr K F' H' st v x Zx)->(x.isD=false->ρ'=ρ/\S'=S)->AR K (vrs b) md H S ρ F' H' S' ρ' ws ys W Y->(mutVs md ws).map (fun v=>some (some v))=(xA md b).map (fun j=>σ[j]?)->P ys ρ'->RR ws H') :
  (wp K Γ b EK).a σ H RR:=by
 unfold sq at h;cases hd:x.isD with
 |true =>
  rw[hd,if_pos rfl]at h;refine ib.a I X hm h fun w F' H' S' ρ' y W Y s I' r mv q=>kk w F' H' S' ρ' y W Y s I' (fun st v Zx rx=>?_) (fun z=>(by rw[hd]at z;cases z)) r mv q;cases x with
  |d x=>cases rx with|d r n=>exact .d (r.mono s.ff) n
  |_=>cases hd
 |false =>
  rw[hd,if_neg (by simp)]at h;have X':XOk K F H S (lockA ρ) E EK:=fun x dx F2 H2 S2 ρ2 s2 f r q=>X x dx F2 H2 S ρ s2.unlockA f r q;refine ib.a I.lockA X' hm h fun w F' H' S' ρ' y W Y s I' r mv q=>?_;have kp:∀st v t Zx,Tr K F H st v t Zx->Tr K F' H' st v t Zx:=fun st v t Zx rx=>s.keep rx fun b _=>lockA_U b;refine kk w F' H' S ρ y W Y ⟨s.unlockA,fun j t h=>⟨t,h⟩⟩ (I.unlockA s.toStp I'.fh) (fun st v Zx rx=>kp st v _ Zx rx) (fun _=>⟨rfl,rfl⟩) ⟨r.av,fun b hb=>?_,fun b hb=>?_,fun i sl hi b hb z=>?_⟩ mv q;exact .inl ((r.fr b hb).elim id fun z=>absurd z (lockA_U b));obtain⟨i,sl,h1,h2,h3⟩:=r.tm b hb;cases sl with
  |own t=>obtain⟨t0,h0⟩:=s.ow i t h2;obtain⟨_,_,e0⟩:=lockA_some h0;cases e0
  |nk t =>
   cases hd:t.isD with
   |true=>exact absurd h3 (I'.isD h2 hd)
   |false=>obtain⟨g1,g2⟩:=s.bo i t h2 hd;obtain⟨s0,g3,_⟩:=lockA_some g1;rw[g2]at h3;exact⟨i,s0,h1,g3,h3⟩
  rcases r.fr b hb with q|q
  ·exact(I.dom hi z).1 q
  exact absurd q (lockA_U b)
theorem one_f(ia:PSnd K Γ Ψ a)(I:Rl K F H S ρ σ)(X:XOk K F H S ρ E EK){P:TK}{RR:VK}(h:(pe Ψ a E).e ρ P)
  (kk:∀v F' H' S' ρ' x n Z,Ste F H S ρ F' H' S' ρ'->Rl K F' H' S' ρ' σ->XOk K F' H' S' ρ' E EK->Tr K F' H' false v (fA x n) Z->(esc x n=true->Rep K F' v x.er)->(∀b,Z b->∃(i:Nat) (s:Sl),i∈vrs a/\ρ'[i]?=some (some s)/\S' i b)->P x n ρ'->RR v H') :
  (wp K Γ a EK).e σ H RR:=by
 refine ia.e I X h fun v F' H' S' ρ' x n Z s I' r q=>?_;obtain⟨F2,Z2,s2,I2,r2,e2,z2,_⟩:=r.frz s I';exact kk v F2 H' S' ρ' x n Z2 s2 I2 (X.from s2.toStp) r2 e2 z2 q
theorem two_f(ia:PSnd K Γ Ψ a)(ib:PSnd K Γ Ψ b)(I:Rl K F H S ρ σ)(X:XOk K F H S ρ E EK){P:T->Bool->T->Bool->kA->Prop}{RR:V->V->Hp->Prop}
  (h:(pe Ψ a E).e ρ fun x n ρ1=>sq (fA x n) ρ1 (cu (pe Ψ b E).e) fun y ρ2=>P x n y.1 y.2 ρ2)
  (kk:∀v w F' H' S' ρ' x n y m Za Zb,Ste F H S ρ F' H' S' ρ'->Rl K F' H' S' ρ' σ->XOk K F' H' S' ρ' E EK->Tr K F' H' false v (fA x n) Za->(∀b,Za b->∃(i:Nat) (s:Sl),i∈vrs a/\ρ'[i]?=some (some s)/\S' i b)->Tr K F' H' false w (fA y m) Zb ->
   P x n y m ρ'->RR v w H'):(wp K Γ a EK).e σ H fun v H1=>(wp K Γ b EK).e σ H1 fun w H2=>RR v w H2:=by
 refine one_f ia I X h fun v F1 H1 S1 ρ1 x n Za s1 I1 X1 r1 _ z1 q1=>?_;refine sq_e ib I1 X1 q1 fun w F2 H2 S2 ρ2 y m Z s2 I2 kp hs r2 q2=>?_;obtain⟨F3,Z3,s3,I3,r3,_,_,k3⟩:=r2.frz s2 I2;have za:∀b,Za b->∃(i:Nat) (s:Sl),i∈vrs a/\ρ2[i]?=some (some s)/\S2 i b:=by
  cases hd:(fA x n).isD with
  |true =>
   intro b hb;exfalso;generalize fA x n=t at r1 hd;cases r1 with
   |d r n=>exact n b hb
   |_=>cases hd
  |false=>obtain⟨e1,e2⟩:=hs hd;rw[e1,e2];exact z1
 have s13:=s1.trans s3;exact kk v w F3 H2 S2 ρ2 x n y m Za Z3 s13 I3 (X.from s13.toStp) (k3 _ _ _ _ (kp _ _ _ r1) fun b hb=>let⟨i,s,_,h2⟩:=za b hb;⟨i,s,h2⟩) za r3 q2
theorem args_f(ia:PSnd K Γ Ψ as)(I:Rl K F H S ρ σ)(X:XOk K F H S ρ E EK)(h:(pe Ψ as E).a [] ρ P)
  (kk:∀vs F' H' S' ρ' xs Y,Ste F H S ρ F' H' S' ρ'->Rl K F' H' S' ρ' σ->XOk K F' H' S' ρ' E EK->Tn K F' H' Y vs (fzOf xs)->(∀b,Y b->∃(i:Nat) (s:Sl),i∈vrs as/\ρ'[i]?=some (some s)/\S' i b)->P xs ρ'->RR vs H'):(wp K Γ as EK).a σ H RR:=by
 refine ia.a (md:=[]) I X (fun j hj=>by cases as<;>cases hj) h fun vs F' H' S' ρ' xs W Y s I' r _ q=>?_;obtain⟨F2,s2,I2,t,_⟩:=r.frz s I';exact kk vs F2 H' S' ρ' xs Y s2 I2 (X.from s2.toStp) t r.tm q
theorem two_a(ia:PSnd K Γ Ψ a)(ib:PSnd K Γ Ψ as)(I:Rl K F H S ρ σ)(X:XOk K F H S ρ E EK){P1:T->Bool->Prop}{P:T->Bool->List (T×Bool)->kA->Prop}{R1:V->Hp->Prop}{RR:V->List V->Hp->Prop}
  (h:(pe Ψ a E).e ρ fun x n ρ1=>P1 x n/\sq (fA x n) ρ1 ((pe Ψ as E).a []) fun xs ρ2=>P x n xs ρ2)
  (k1:∀v F' H' x n Za,Tr K F' H' false v (fA x n) Za->P1 x n->R1 v H')
  (kk:∀v vs F' H' S' ρ' x n xs Za Y,Ste F H S ρ F' H' S' ρ'->Rl K F' H' S' ρ' σ->XOk K F' H' S' ρ' E EK->Tr K F' H' false v (fA x n) Za->(∀b,Za b->∃(i:Nat) (s:Sl),i∈vrs a/\ρ'[i]?=some (some s)/\S' i b)->Tn K F' H' Y vs (fzOf xs) ->
   P x n xs ρ'->RR v vs H'):(wp K Γ a EK).e σ H fun v H1=>R1 v H1/\(wp K Γ as EK).a σ H1 fun vs H2=>RR v vs H2:=by
 refine one_f ia I X h fun v F1 H1 S1 ρ1 x n Za s1 I1 X1 r1 _ z1 ⟨p1,q1⟩=>⟨k1 v F1 H1 x n Za r1 p1,?_⟩
 refine sq_a ib I1 X1 (fun j hj=>by cases as<;>cases hj) q1 fun vs F2 H2 S2 ρ2 xs W Y s2 I2 kp hs r2 _ q2=>?_;obtain⟨F3,s3,I3,tn,k3⟩:=r2.frz s2 I2;have za:∀b,Za b->∃(i:Nat) (s:Sl),i∈vrs a/\ρ2[i]?=some (some s)/\S2 i b:=by
  cases hd:(fA x n).isD with
  |true =>
   intro b hb;exfalso;generalize fA x n=t at r1 hd;cases r1 with
   |d r n=>exact n b hb
   |_=>cases hd
  |false=>obtain⟨e1,e2⟩:=hs hd;rw[e1,e2];exact z1
 have s13:=s1.trans s3;exact kk v vs F3 H2 S2 ρ2 x n xs Za Y s13 I3 (X.from s13.toStp) (k3 _ _ _ _ (kp _ _ _ r1) fun b hb=>let⟨i,s,_,h2⟩:=za b hb;⟨i,s,h2⟩) za tn q2
def ItV(K:QA)(F H:Hp)(Y:AdP):Item->T->Prop
 | .one v,t=>∃Z,Tr K F H false v t Z/\∀b,Z b->Y b
 | .tup vs,t=>∃ds,t=.d (.tuple ds)/\Reps K F vs ds
theorem ItV.mono{it:Item}(h:ItV K F H Y it t)(e:Same F F1)(k:∀b,Y b->H1 b=H b/\F1 b=none):ItV K F1 H1 Y it t:=by
 cases it with
 |one v=>obtain⟨Z,r,z⟩:=h;exact⟨Z,r.mono e fun b hb=>k b (z b hb),z⟩
 |tup vs=>obtain⟨ts,e1,r⟩:=h;exact⟨ts,e1,r.mono e⟩
theorem its_of{xs:List V}(h:Trs K F H st xs ts Z)(z:∀b,Z b->Y b):Paired (ItV K F H Y) (xs.map .one) ts :=
 Trs.ind (R:=fun _ xs ts Z=>(∀b,Z b->Y b)->Paired (ItV K F H Y) (xs.map .one) ts) (fun _ _=>.nil) (fun h _ _ q ih z=>.cons ⟨_,h.weak,fun b hb=>z b ((q b).mpr (.inl hb))⟩ (ih fun b hb=>z b ((q b).mpr (.inr hb)))) h z
theorem its_map{Y:AdP}{α:Type}(f:α->V)(g:α->D)(h:∀x,Rep K F (f x) (g x)):∀(l:List α),Paired (ItV K F H Y) (l.map fun x=>.one (f x)) (l.map fun x=>T.d (g x))
 |[]=>.nil
 |x::r=>.cons ⟨fun _=>False,.d (h x) fun _ z=>z,fun _ z=>z.elim⟩ (its_map f g h r)
theorem Tr.lsS(f:Same F H)(h:Tr K F H st v t Z)(e:t.vw=.ls ts):∃a vs S',v=.ref a/\SqL K H a vs/\Trs K F H false vs ts S'/\(∀b,S' b->Z b)/\∀F' H',Same F F'->Same F' H'->(∀b,Z b->H' b=H b)->SqL K H' a vs:=by
 cases h with
 |d r n =>
  cases r with
  |lst q r=>injection e with e;subst e;exact⟨_,_,_,rfl,f.seq q,Trs.of_reps r,fun b hb=>hb.elim,fun F' H' e1 e2 _=>(e1.trans e2).seq q⟩
  |dct _ _ _=>exact(vw_dict_ls e).elim
  |_=>cases e
 |lst h _ r n q=>injection e with e;subst e;exact⟨_,_,_,rfl,SqL.of h,r.weak,fun b hb=>(q b).mpr (.inr hb),fun F' H' _ _ k=>SqL.of ((k _ ((q _).mpr (.inl rfl))).trans h)⟩
 |tup=>cases e
 |dct=>cases e
 |lstF h r n=>injection e with e;subst e;exact⟨_,_,_,rfl,f.seq h,Trs.of_reps r,fun b hb=>hb.elim,fun F' H' e1 e2 _=>(e1.trans e2).seq h⟩
theorem Tr.tpS(f:Same F H)(h:Tr K F H st v t Z)(e:t.vw=.tp ts):∃a vs S',v=.ref a/\SqT K H a vs/\Trs K F H false vs ts S'/\(∀b,S' b->Z b)/\∀F' H',Same F F'->Same F' H'->(∀b,Z b->H' b=H b)->SqT K H' a vs:=by
 cases h with
 |d r n =>
  cases r with
  |tup q r=>injection e with e;subst e;exact⟨_,_,_,rfl,f.tupl q,Trs.of_reps r,fun b hb=>hb.elim,fun F' H' e1 e2 _=>(e1.trans e2).tupl q⟩
  |dct _ _ _=>exact(vw_dict_tp e).elim
  |_=>cases e
 |tup h _ r n q=>injection e with e;subst e;exact⟨_,_,_,rfl,SqT.of h,r.weak,fun b hb=>(q b).mpr (.inr hb),fun F' H' _ _ k=>SqT.of ((k _ ((q _).mpr (.inl rfl))).trans h)⟩
 |lst=>cases e
 |lstF=>cases e
 |dct=>cases e
theorem Tr.seqS(f:Same F H)(h:Tr K F H st v t Z)(e:t.vw.seq=some ts):∃a vs sz,v=.ref (Src.adr sz)/\SqS K H sz vs/\(∃S',Trs K F H false vs ts S')/\a=Src.adr sz/\∀F' H',Same F F'->Same F' H'->(∀b,Z b->H' b=H b)->SqS K H' sz vs:=by
 generalize ev:t.vw=w at e;cases w with
 |ls us=>cases e;obtain⟨a,vs,S',rfl,hq,rp,_,hs⟩:=h.lsS f ev;exact⟨a,vs,.l a,rfl,hq,⟨S',rp⟩,rfl,hs⟩
 |tp us=>cases e;obtain⟨a,vs,S',rfl,hq,rp,_,hs⟩:=h.tpS f ev;exact⟨a,vs,.t a,rfl,hq,⟨S',rp⟩,rfl,hs⟩
 |_=>cases e
theorem key_reps:∀(k:List Key),Reps K F (k.map kV) (k.map kD)
 |[]=>.nil
 | .inl i::k=>.cons (.int i) (key_reps k)
 | .inr z::k=>.cons (.str z) (key_reps k)
theorem its_itm{Y:AdP}:∀{kvs:List KE}{ds:List D},KeysAt K F kvs->Reps K F (kvs.map (·.2.2)) ds->Paired (ItV K F H Y) (kvs.map fun p=>.tup [.ref p.2.1,p.2.2]) (((kvs.map fun p=>tD p.1).zip ds).map fun p=>T.d (.tuple [p.1,p.2]))
 |[],_,_,.nil=>.nil
 |p::r,_,hk,.cons h t=>by simp only[QN,Wv];exact .cons ⟨[_,_],rfl,.cons (.tup (hk p QF) (key_reps p.1)) (.cons h .nil)⟩ (its_itm (fun p hp=>hk p (QE _ hp)) t)
theorem its_key{Y:AdP}:∀{kvs:List KE},KeysAt K F kvs->Paired (ItV K F H Y) (kvs.map fun p=>.one (.ref p.2.1)) ((kvs.map fun p=>tD p.1).map T.d)
 |[],_=>.nil
 |p::r,hk=>.cons ⟨fun _=>False,.d (.tup (hk p QF) (key_reps p.1)) fun _ z=>z,fun _ z=>z.elim⟩ (its_key fun p hp=>hk p (QE _ hp))
theorem its_enum{Y:AdP}:∀{xs:List V}{ds:List D}(_:Reps K F xs ds) (g:Nat->Int) (n:Nat),Paired (ItV K F H Y) ((xs.zipIdx n).map fun p=>.tup [.int (g p.2),p.1]) ((ds.zipIdx n).map fun p=>T.d (.tuple [.int (g p.2),p.1]))
 |_,_,.nil,g,n=>by simp only[List.zipIdx_nil,wZ];exact .nil
 |_,_,.cons h t,g,n=>by simp only[List.zipIdx_cons,QN];exact .cons ⟨[_,_],rfl,.cons (.int _) (.cons h .nil)⟩ (its_enum t g (n+1))
theorem items_okT{ik:ItK}{vs:List V}{RD:List T->Prop}{RR:List Item->(Hp->Prop)->Hp->Prop}(f:Same F H)(ra:Tn K F H Y vs ts)(h:itemsT ik (ts.map T.vw) RD)
  (k:∀xs ys st,Paired (ItV K F H Y) xs ys->(∀F' H',Same F F'->Same F' H'->(∀b,Y b->H' b=H b)->st H')->RD ys->RR xs st H):itemsR K ik vs H RR:=by
 cases ik with
 |val =>
  rcases h with⟨z,e,h⟩| ⟨us,e,h⟩| ⟨us,e,h⟩| ⟨ks,us,e,h⟩
  obtain⟨v,t,Z,rfl,rfl,e,r,_⟩:=ra.one e;obtain rfl:=r.str e;exact k _ _ _ (its_map (fun c=>.str ⟨#[c]⟩) (fun c=>.str ⟨#[c]⟩) (fun c=>.str _) _) (fun _ _ _ _ _=>trivial) h;obtain⟨v,t,Z,rfl,rfl,e,r,z⟩:=ra.one e;obtain⟨p,xs,S',rfl,hp,rp,z2,hs⟩:=r.lsS f e;exact .inl ⟨xs,hp,k _ _ _ (its_of rp fun b hb=>z b (z2 b hb)) (fun F' H' e1 e2 q=>hs F' H' e1 e2 fun b hb=>q b (z b hb)) h⟩;obtain⟨v,t,Z,rfl,rfl,e,r,z⟩:=ra.one e;obtain⟨p,xs,S',rfl,hp,rp,z2,hs⟩:=r.tpS f e;exact .inr (.inl ⟨xs,hp,k _ _ _ (its_of rp fun b hb=>z b (z2 b hb)) (fun F' H' e1 e2 q=>hs F' H' e1 e2 fun b hb=>q b (z b hb)) h⟩);obtain⟨v,t,Z,rfl,rfl,e1,r1,y1⟩:=ra.one e;obtain⟨a,o,xs,_,rfl,ha,dk,rp,_,hs⟩:=r1.dc f e1;obtain⟨ep,kvs,rfl,rfl,rfl,h4,_⟩:=dk;exact .inr (.inr ⟨ep,kvs,ha,k _ _ _ (its_key h4) (fun F' H' e1 e2 q=>hs F' H' e1 e2 fun b hb=>q b (y1 b hb)) h⟩)
 |rng1=>obtain⟨j,e,h⟩:=h;obtain⟨v,t,Z,rfl,rfl,e,r,_⟩:=ra.one e;obtain rfl:=r.int e;exact⟨h.1,k _ _ _ (its_map (fun(i:Nat)=>.int (i:Int)) (fun(i:Nat)=>.int (i:Int)) (fun c=>.int _) _) (fun _ _ _ _ _=>trivial) h.2⟩
 |enum=>obtain⟨x,us,ds,e,g1,g3,q⟩:=h;obtain⟨v,t,Z,rfl,rfl,e1,r1,y1⟩:=ra.one e;obtain⟨a,xs,sz,rfl,hq,⟨_,rp⟩,_,hs⟩:=r1.seqS f (by rw[e1];exact g1);exact⟨sz,xs,rfl,hq,k _ _ _ (its_enum (rp.un g3).1 (fun i=>(i:Int)) 0) (fun F' H' e1 e2 q=>hs F' H' e1 e2 fun b hb=>q b (y1 b hb)) q⟩
 |itm =>
  rcases h with⟨ks,us,ds,e,g3,q⟩| ⟨e,q⟩
  rotate_left
  obtain⟨v,t,Z,rfl,rfl,e1,r1,y1⟩:=ra.one e;obtain⟨_,rp⟩:=r1.sc e1;generalize ed:PyData.dict []=d at rp;cases rp with
  |@dct b a o ks vs ds h q2 r =>
   have ez:ks.zip ds=[]:=by injection ed with ed;exact ed.symm
   have hl:ks.length=ds.length:=by rw[q2.len,Reps.length r]
   have ek:ks=[]:=by
    cases ks with
    |nil=>rfl
    |cons k ks =>
     cases ds with
     |nil=>cases hl
     |cons d ds=>cases ez
   subst ek;have eo:∃ep,o=.dT ep []:=by
    cases b with
    |true =>
     obtain⟨ep,kvs,e1,e2,_⟩:=q2;cases kvs with
     |nil=>exact⟨ep,e1⟩
     |cons p r=>cases e2
    |false =>
     rcases q2 with⟨kvs,n,_,e2,_⟩| ⟨ep,e1,_⟩
     cases kvs with
     |nil=>exact absurd rfl n
     |cons p r=>cases e2
     exact⟨ep,e1⟩
   obtain⟨ep,rfl⟩:=eo;exact⟨ep,[],f _ _ h,k _ _ _ .nil (fun F' H' e1 e2 _=>e2 _ _ (e1 _ _ h)) q⟩
  |_=>cases ed
  obtain⟨v,t,Z,rfl,rfl,e1,r1,y1⟩:=ra.one e;obtain⟨a,o,xs,_,rfl,ha,dk,rp,_,hs⟩:=r1.dc f e1;obtain⟨ep,kvs,rfl,rfl,rfl,h4,_⟩:=dk;exact⟨ep,kvs,ha,k _ _ _ (its_itm h4 (rp.un g3).1) (fun F' H' e1 e2 q=>hs F' H' e1 e2 fun b hb=>q b (y1 b hb)) q⟩
end
end
section
variable{i j:Nat}{Z:AdP}
def updF(S:Ft)(i:Nat)(Z:AdP):Ft:=fun j=>if j=i then Z else S j
theorem DA{S:Ft}:updF S i Z i=Z:=if_pos rfl
theorem pA{S:Ft}(h:j≠i):updF S i Z j=S j:=if_neg h
theorem vA{α:Type}{l:List α}{x y:α}(h:(l.set i x)[j]?=some y):(i=j/\y=x/\i<l.length)∨(i≠j/\l[j]?=some y):=by rw[wA]at h;by_cases e:i=j;subst e;rw[if_pos rfl]at h;by_cases hl:i<l.length;rw[if_pos hl]at h;cases h;exact .inl ⟨rfl,rfl,hl⟩;rw[if_neg hl]at h;cases h;rw[if_neg e]at h;exact .inr ⟨e,h⟩
theorem set_get{α:Type}{l:List α}{x:α}(h:i<l.length):(l.set i x)[i]?=some x:=by rw[wA,if_pos rfl,if_pos h]
theorem set_ne{α:Type}{l:List α}{x:α}(h:i≠j):(l.set i x)[j]?=l[j]?:=by rw[wA,if_neg h]
end
section
variable{K:QA}{Γ:Ev}{Ψ:PEv}{E:XE}{EK:XK}{F H F1 H1:Hp}{S S1:Ft}{ρ ρ1:kA}{σ:St}
section
variable{Z Y:AdP}{J:List Nat}{F' H':Hp}{S':Ft}{ρ':kA}{σ':St}{st:Bool}{tg:Tg}{k:Nat}{mask:List Bool}
theorem Rl.setB(I:Rl K F H S ρ σ)(i:Nat){v:V}{t:T}(r:Tr K F H false v t Z)(hz:∀(j:Nat) u,j≠i->ρ[j]?=some (some (.own u))->∀b,Z b->¬ S j b):Rl K F H (updF S i Z) (ρ.set i (some (.nk t))) (σ.set i (some v)) where
 fh:=I.fh
 len:=by simpa using I.len
 sl:=fun j s h=>by
  rcases vA h with⟨rfl,e,hl⟩| ⟨hn,h⟩
  cases e;exact⟨v,set_get (by rw[<- I.len];exact hl),by rw[DA];exact r⟩;rw[set_ne hn,pA (Qy hn)];exact I.sl j s h
 dj:=fun j k t' s n h1 h2 b hb hk=>by
  rcases vA h1 with⟨_,e,_⟩| ⟨n1,h1⟩
  cases e;rw[pA (Qy n1)]at hb;rcases vA h2 with⟨e,_,_⟩| ⟨n2,h2⟩
  subst e;rw[DA]at hk;exact hz j t' n h1 b hk hb;rw[pA (Qy n2)]at hk;exact I.dj j k t' s n h1 h2 b hb hk
structure Bd(J:List Nat)(F H:Hp)(S:Ft)(ρ:kA)(σ:St)(F' H':Hp)(S':Ft)(ρ':kA)(σ':St):Prop where
 ff:Same F F'
 hh:Same H H'
 fn:∀b,F b=none->F' b≠none->H b=none
 out:∀j,j∉J->ρ'[j]?=ρ[j]?/\S' j=S j/\σ'[j]?=σ[j]?
 inn:∀j t,j∈J->ρ'[j]?≠some (some (.own t))
theorem Bd.U(h:Bd J F H S ρ σ F' H' S' ρ' σ'){b:Addr}(u:U ρ' S' b):L3.U ρ S b:=by obtain⟨i,t,h1,h2⟩:=u;by_cases hi:i∈J;exact absurd h1 (h.inn i t hi);obtain⟨e1,e2,_⟩:=h.out i hi;rw[e1]at h1;rw[e2]at h2;exact⟨i,t,h1,h2⟩
theorem Bd.dm(h:Bd J F H S ρ σ F' H' S' ρ' σ')(b:Addr)(e:H' b=none):H b=none:=h.hh.free e
theorem setAllV{Y:AdP}(hy:∀b,Y b->¬ U ρ S b):∀(is:List Nat) {vs:List V}{ts:List T}{S1:Ft}{ρ1 ρ':kA}{σ1:St}{J:List Nat},(∀i∈is,i∈J)->Rl K F H S1 ρ1 σ1->(∀b,U ρ1 S1 b->U ρ S b)->Tn K F H Y vs ts->setAllT is ts ρ1=some ρ' ->
  ∃σ' S',setAll is vs σ1=some σ'/\Rl K F H S' ρ' σ'/\(∀j,j∉J->ρ'[j]?=ρ1[j]?/\S' j=S1 j/\σ'[j]?=σ1[j]?)/\(∀j t,ρ'[j]?=some (some (.own t))->j∉is/\ρ1[j]?=some (some (.own t)))
 |[],_,_,S1,ρ1,ρ',σ1,J,hJ,I,hu,.nil,h=>by simp only[setAllT,Ql]at h;subst h;exact⟨σ1,S1,rfl,I,fun _ _=>⟨rfl,rfl,rfl⟩,fun j t h=>⟨(by simp),h⟩⟩
 |[],_,_,_,_,_,_,_,_,_,_,.cons _ _ _,h=>by simp[setAllT]at h
 |_::_,_,_,_,_,_,_,_,_,_,_,.nil,h=>by simp[setAllT]at h
 |i::is,_,_,S1,ρ1,ρ',σ1,J,hJ,I,hu,.cons (v:=v) (t:=t) (Z:=Z) r z tl,h=>by
  simp only[setAllT]at h;have nu:∀b,Z b->¬ U ρ1 S1 b:=fun b hb u=>hy b (z b hb) (hu b u);have I2:=I.setB i r fun j u _ hj b hb hs=>nu b hb ⟨j,u,hj,hs⟩;have hu2:∀b,U (ρ1.set i (some (.nk t))) (updF S1 i Z) b->U ρ S b:=fun b ⟨j,u,h1,h2⟩=>by
   rcases vA h1 with⟨_,e,_⟩| ⟨n,h1⟩
   cases e;rw[pA (Qy n)]at h2;exact hu b ⟨j,u,h1,h2⟩
  obtain⟨σ',S',g1,g2,g3,g4⟩:=setAllV hy is (fun j hj=>hJ j (QE _ hj)) I2 hu2 tl h;refine⟨σ',S',g1,g2,fun j hj=>?_,fun j u hj=>?_⟩;obtain⟨e1,e2,e3⟩:=g3 j hj;have n:i≠j:=fun e=>hj (e▸hJ i QF);rw[set_ne n]at e1 e3;rw[pA (Qy n)]at e2;exact⟨e1,e2,e3⟩;obtain⟨e1,e2⟩:=g4 j u hj;rcases vA e2 with⟨_,e,_⟩| ⟨n,e2⟩
  cases e;exact⟨fun m=>(QK.mp m).elim (fun e=>n e.symm) e1,e2⟩
theorem Tn.of_trs{vs:List V}{ts:List T}(h:Trs K F H st vs ts Z)(z:∀b,Z b->Y b):Tn K F H Y vs ts :=
 Trs.ind (R:=fun _ vs ts Z=>(∀b,Z b->Y b)->Tn K F H Y vs ts) (fun _ _=>.nil) (fun h _ _ q ih z=>.cons h.weak (fun b hb=>z b ((q b).mpr (.inl hb))) (ih fun b hb=>z b ((q b).mpr (.inr hb)))) h z
theorem bind_okT{it:Item}{t:T}{QP:kA->Prop}{RP:St->Hp->Prop}(I:Rl K F H S ρ σ)(hy:∀b,Y b->¬ U ρ S b)(r:ItV K F H Y it t)(h:bindV tg t ρ QP)
  (k:∀ρ2 σ2 F2 H2 S2,Bd tg.ix F H S ρ σ F2 H2 S2 ρ2 σ2->Rl K F2 H2 S2 ρ2 σ2->QP ρ2->RP σ2 H2):bindI K tg it σ H RP:=by
 have nm:∀(i:Nat) {v:V}{t:T}{Z:AdP}{F2 H2:Hp}{S2:Ft},Same F F2->Same H H2->(∀b,F b=none->F2 b≠none->H b=none)->Rl K F2 H2 S2 ρ σ->S2=S->Tr K F2 H2 false v t Z->(∀b,Z b->¬ U ρ S b)->QP (ρ.set i (some (.nk t)))->tg=.nm i->RP (σ.set i (some v)) H2:=by
  intro i v t Z F2 H2 S2 e1 e2 e3 I2 hS r hz q ht;subst hS ht;refine k _ _ F2 H2 (updF S2 i Z) ⟨e1,e2,e3,fun j hj=>?_,fun j u hj hu=>?_⟩ (I2.setB i r fun j u _ hj b hb hs=>hz b hb ⟨j,u,hj,hs⟩) q;have n:i≠j:=fun e=>hj (by subst e;exact QJ.mpr rfl);exact⟨set_ne n,pA (Qy n),set_ne n⟩;have e:j=i:=QJ.mp hj;subst e;rcases vA hu with⟨_,e,_⟩| ⟨n,_⟩
  cases e;exact n rfl
 have tp:∀(is:List Nat) {vs:List V}{ts:List T}{H2:Hp}{ρ':kA},Same H H2->tg=.tp is->Tn K F H2 Y vs ts->setAllT is ts ρ=some ρ'->QP ρ'->∃σ',setAll is vs σ=some σ'/\RP σ' H2:=by intro is vs ts H2 ρ' e2 ht r e q;subst ht;obtain⟨σ',S',g1,g2,g3,g4⟩:=setAllV hy is (J:=is) (fun i hi=>hi) (I.same e2) (fun b u=>u) r e;exact⟨σ',g1,k _ _ F H2 S' ⟨.refl _,e2,fun b h z=>absurd h z,g3,fun j u hj hu=>(g4 j u hu).1 hj⟩ g2 q⟩
 cases it with
 |one v =>
  obtain⟨Z,r,z⟩:=r;cases tg with
  |nm i=>exact nm i (.refl _) (.refl _) (fun b h z=>absurd h z) I rfl r (fun b hb=>hy b (z b hb)) h rfl
  |tp is=>have h2:(match t.vw with | .tp ts=>∃ρ',setAllT is ts ρ=some ρ'/\QP ρ'|_=>False):=h;split at h2;rename_i ts e;obtain⟨ρ',e1,q⟩:=h2;obtain⟨a,vs,S',rfl,hp,rp,z2⟩:=r.tp I.fh e;obtain⟨σ',g1,g2⟩:=tp is (.refl _) rfl (Tn.of_trs rp fun b hb=>z b (z2 b hb)) e1 q;exact⟨vs,σ',hp,g1,g2⟩;exact h2.elim
 |tup vs =>
  obtain⟨ds,rfl,rd⟩:=r;cases tg with
  |nm i=>intro p hp;refine nm i (upd_same' (I.fh.free hp)) (upd_same' hp) (fun b h1 h2=>?_) (I.newT hp (.tup vs)) rfl (.d (S:=fun _=>False) (.tup (SqT.of gA) (rd.mono (upd_same' (I.fh.free hp)))) fun _ z=>z) (fun b z=>z.elim) h rfl;by_cases hb:b=p;rw[hb];exact hp;rw[zA hb]at h2;exact absurd h1 h2
  |tp is=>intro H' s;obtain⟨ρ',e1,q⟩:=h;exact tp is s rfl (Tn.of_trs (Trs.of_reps (st:=false) rd) fun b hb=>hb.elim) e1 q
def entF(k:Nat)(S:Ft):Ft:=fun i=>if i<k then fun _=>False else S (i - k)
theorem maskP_get:∀(m:List Bool) (ρ:kA) (i:Nat) s,(maskP m ρ)[i]?=some (some s)->ρ[i]?=some (some s)/\m.getD i false=false
 |[],ρ,i,s,h=>by
  have e:maskP [] ρ=ρ:=by cases ρ<;>rfl
  rw[e]at h;exact⟨h,rfl⟩
 |b::m,[],i,s,h=>by simp[maskP]at h
 |b::m,v::ρ,0,s,h=>by
  cases b with
  |true=>simp[maskP]at h
  |false=>simp[maskP]at h;simp[h]
 |b::m,v::ρ,i+1,s,h=>by simp only[maskP,WJ]at h;obtain⟨h1,h2⟩:=maskP_get m ρ i s h;exact⟨by simpa using h1,by simpa using h2⟩
theorem maskS_get:∀(m:List Bool) (σ:St) (i:Nat) v,σ[i]?=some (some v)->m.getD i false=false->(maskS m σ)[i]?=some (some v)
 |[],σ,i,v,h,_=>by
  have e:maskS [] σ=σ:=by cases σ<;>rfl
  rw[e];exact h
 |b::m,[],i,v,h,_=>by simp at h
 |b::m,w::σ,0,v,h,hb=>by
  have:b=false:=by simpa using hb
  subst this;simpa[maskS]using h
 |b::m,w::σ,i+1,v,h,hb=>by simp only[maskS,WJ];exact maskS_get m σ i v (by simpa using h) (by simpa using hb)
theorem maskP_len:∀(m:List Bool) (ρ:kA),(maskP m ρ).length=ρ.length
 |[],ρ=>by cases ρ<;>rfl
 |_::_,[]=>rfl
 |b::m,v::ρ=>by simp[maskP,maskP_len m ρ]
theorem entP_get{ρ:kA}{i:Nat}{s:Sl}(h:(entP k mask ρ)[i]?=some (some s)):k<=i/\ρ[i - k]?=some (some s)/\mask.getD (i - k) false=false:=by unfold entP at h;rcases QAb i k with z|z;rw[Qq (by simpa using z),wb]at h;split at h<;>cases h;rw[Qk (by simpa using z)]at h;simp only[qU]at h;obtain⟨h1,h2⟩:=maskP_get mask ρ _ s h;exact⟨z,h1,h2⟩
theorem Rl.ent(I:Rl K F H S ρ σ)(k:Nat)(mask:List Bool):Rl K F H (entF k S) (entP k mask ρ) (entS k mask σ) where
 fh:=I.fh
 len:=by simp[entP,entS,maskP_len,maskS_len,I.len]
 sl:=fun i s h=>by obtain⟨h0,h1,h2⟩:=entP_get h;obtain⟨v,g1,g2⟩:=I.sl _ s h1;refine⟨v,?_,?_⟩;unfold entS;rw[Qk (by simpa using h0)];simp only[qU];exact maskS_get mask σ _ v g1 h2;unfold entF;rw[if_neg (by omega)];exact g2
 dj:=fun i j t s n h1 h2 b hb hj=>by obtain⟨a0,a1,_⟩:=entP_get h1;obtain⟨b0,b1,_⟩:=entP_get h2;unfold entF at hb hj;rw[if_neg (by omega)]at hb hj;exact I.dj (i - k) (j - k) t s (by omega) a1 b1 b hb hj
theorem ent_noU(b:Addr):¬ U (entP k mask (lockA ρ)) S' b:=fun⟨i,t,h,_⟩=>by obtain⟨_,h1,_⟩:=entP_get h;obtain⟨_,_,e⟩:=lockA_some h1;cases e
theorem Paired.get_of{α β:Type}{R:α->β->Prop}{xs:List α}{ys:List β}(h:Paired R xs ys):∀{i:Nat}{x:α},xs[i]?=some x->∃y,ys.drop i=y::ys.drop (i+1)/\R x y:=by
 induction h with
 |nil=>intro i x e;simp at e
 |@cons x y xs ys h t ih =>
  intro i z e;cases i with
  |zero=>simp at e;subst e;exact⟨y,by simp,h⟩
  |succ i=>obtain⟨y',h1,h2⟩:=ih (i:=i) (by simpa using e);exact⟨y',by simpa using h1,h2⟩
structure Pur(F H F' H':Hp):Prop where
 ff:Same F F'
 hh:Same H H'
 fn:∀b,F b=none->F' b≠none->H b=none
theorem Pur.trans{F2 H2:Hp}(a:Pur F H F1 H1)(b:Pur F1 H1 F2 H2):Pur F H F2 H2:=⟨a.ff.trans b.ff,a.hh.trans b.hh,fun x h z=>by by_cases q:F1 x=none;exact a.hh.free (b.fn x q z);exact a.fn x h q⟩
theorem Pur.ste(p:Pur F H F1 H1):Ste F H S ρ F1 H1 S ρ:=⟨⟨p.ff,fun b u h _=>p.hh b u h,fun b h=>p.hh.free h,fun b h z=>.inr (p.fn b h z),fun b h=>.inl h,fun _ _ h _=>⟨h,rfl⟩⟩,fun _ t h=>⟨t,h⟩⟩
theorem Pur.rl(p:Pur F H F1 H1)(f:Same F1 H1)(I:Rl K F H S ρ σ):Rl K F1 H1 S ρ σ:=⟨f,I.len,fun i s e=>by
 obtain⟨v,h1,h2⟩:=I.sl i s e;exact⟨v,h1,h2.mono p.ff fun b hb=>by
  obtain⟨d1,d2⟩:=h2.dom b hb;refine⟨?_,?_⟩;cases e:H b with
  |none=>exact absurd e d1
  |some u=>exact p.hh b u e
  by_cases q:F1 b=none
  ·exact q
  exact absurd (p.fn b d2 q) d1⟩,I.dj⟩
theorem Stp.pur(s:Stp F H S ρ F1 H1 S' ρ')(n:∀b,¬ U ρ S b):Pur F H F1 H1:=⟨s.ff,fun b u h=>s.hh b u h (n b),fun b h z=>(s.fn b h z).elim (fun q=>absurd q (n b)) id⟩
theorem Pur.trs(p:Pur F H F1 H1){v:List V}{t:List T}(h:Trs K F H st v t Z):Trs K F1 H1 st v t Z:=h.mono p.ff fun b hb=>by
  obtain⟨d1,d2⟩:=h.dom b hb;refine⟨?_,?_⟩;cases e:H b with
  |none=>exact absurd e d1
  |some u=>exact p.hh b u e
  by_cases q:F1 b=none
  ·exact q
  exact absurd (p.fn b d2 q) d1
theorem compV_ok{ws:List Nat}{k0:Nat}{c:kA->(Bool->kA->Prop)->Prop}{e:kA->TK->Prop}{tc:TT}{te:TE}{us:List Nat}
  (ic:∀{F H:Hp}{S:Ft}{ρ:kA}{σ:St}{Q:Bool->kA->Prop}{R:Bool->Hp->Prop},Rl K F H S ρ σ->c ρ Q->KontB K F H S ρ σ Q R->tc σ H R)
  (ie:∀{F H:Hp}{S:Ft}{ρ:kA}{σ:St}{Q:TK}{R:VK},Rl K F H S ρ σ->e ρ Q->Kont K us F H S ρ σ Q R->te σ H R)
  {F0 H0:Hp}{S0:Ft}{ρ0:kA}(s:Ste F0 H0 S0 ρ0 F H S ρ) (I:Rl K F H S ρ σ) {xs:List Item}{ys:List T}{st:Hp->Prop}(pr:Paired (ItV K F H Y) xs ys) (hyd:∀b,Y b->H b≠none/\F b=none) (hst:∀F' H',Same F F'->Same F' H'->(∀b,Y b->H' b=H b)->st H') {Q:TK}{R:VK}
  (h:compV (compBody tg (entP k0 mask (lockA ρ)) c e) ys [] fun ys=>Q (.lst ys) true ρ) (k:Kont K ws F0 H0 S0 ρ0 σ Q R) :
  CompB K xs st tg tc te (entS k0 mask σ) H R:=by
 refine compB_of ?_;have len:=qJ pr;have yk:∀{F' H':Hp},Pur F H F' H'->∀b,Y b->H' b=H b/\F' b=none:=fun {F' H'} p b hb=>by
  obtain⟨d1,d2⟩:=hyd b hb;refine⟨?_,?_⟩;cases e:H b with
  |none=>exact absurd e d1
  |some u=>exact p.hh b u e
  by_cases q:F' b=none
  ·exact q
  exact absurd (p.fn b d2 q) d1
 refine⟨fun i acc H'=>∃F' dacc W,Pur F H F' H'/\Same F' H'/\Trs K F' H' true acc dacc W/\(∀b,W b->H b=none)/\compV (compBody tg (entP k0 mask (lockA ρ)) c e) (ys.drop i) dacc fun ys=>Q (.lst ys) true ρ,
  ⟨F,[],fun _=>False,⟨.refl _,.refl _,fun b h z=>absurd h z⟩,I.fh,.nil fun _ z=>z,fun _ z=>z.elim,by simpa using h⟩,?_,?_,?_⟩
 rintro i acc H' _ ⟨F',dacc,W,p,f,_,_,_⟩;exact hst F' H' p.ff f fun b hb=>(yk p b hb).1;rintro i x acc H1 hx ⟨F1,dacc,W,p1,f1,ra,hw,hc⟩;obtain⟨y,hd,ry⟩:=Paired.get_of pr hx;rw[hd]at hc;unfold compV at hc;unfold compBody at hc;have I1:Rl K F1 H1 (entF k0 S) (entP k0 mask (lockA ρ)) (entS k0 mask σ):=((p1.rl f1 I).lockA).ent k0 mask;refine bind_okT I1 (fun b _=>ent_noU b) (ry.mono p1.ff (yk p1)) hc fun ρ2 σ2 F2 H2 S2 bd I2 hc=>?_;have p2:Pur F1 H1 F2 H2:=⟨bd.ff,bd.hh,bd.fn⟩
 have nu2:∀b,¬ U ρ2 S2 b:=fun b u=>ent_noU b (bd.U u);refine ic I2 hc fun b F3 H3 S3 ρ3 s3 I3 q=>?_;have p3:Pur F2 H2 F3 H3:=s3.toStp.pur nu2;have nu3:∀b,¬ U ρ3 S3 b:=fun b ⟨j,t,h1,_⟩=>by obtain⟨t0,h0⟩:=s3.ow j t h1;by_cases hj:j∈tg.ix;exact bd.inn j t0 hj h0;rw[(bd.out j hj).1]at h0;obtain⟨_,h1,_⟩:=entP_get h0;obtain⟨_,_,e⟩:=lockA_some h1;cases e
 have p123:=p1.trans (p2.trans p3);cases b with
 |false=>exact⟨F3,dacc,W,p123,I3.fh,p3.trs (p2.trs ra),hw,q⟩
 |true =>
  refine ie I3 q fun v F4 H4 S4 ρ4 z n Z s4 I4 r4 ⟨hk,hl,hc⟩=>?_;have p4:Pur F3 H3 F4 H4:=s4.toStp.pur nu3;have ra4:=p4.trs (p3.trs (p2.trs ra));have rz:∃Z',Tr K F4 H4 true v z Z'/\∀b,Z' b->H3 b=none:=by
   cases n with
   |true=>exact⟨Z,r4.tr,fun b hb=>(r4.fr rfl b hb).elim id fun u=>absurd u (nu3 b)⟩
   |false =>
    cases z with
    |d x =>
     have tr:=r4.tr;cases tr with
     |d r n=>exact⟨fun _=>False,.d r fun _ z=>z,fun _ z=>z.elim⟩
    |_=>exact absurd hk (by simp[esc,T.isD])
  obtain⟨Z',rz,fz⟩:=rz;refine⟨by rw[ra.length];exact hl,F4,_,fun b=>W b∨Z' b,p123.trans p4,I4.fh,ra4.append (Trs.one rz) fun b hb hz=>?_,fun b hb=>?_,hc⟩;have q1:=(ra.dom b hb).1;exact q1 ((p2.trans p3).hh.free (fz b hz));rcases hb with hb|hb
  ·exact hw b hb
  exact p123.hh.free (fz b hb)
 rintro acc H' ⟨F',dacc,W,p,f,ra,hw,hc⟩;rw[len,QBi]at hc;unfold compV at hc;have I':=p.rl f I;refine⟨by rw[ra.length];exact hc.1,fun q hq=>?_⟩;refine Kont.list (k.from s) (p.ste) I' hq ra (fun b hb=>.inl (hw b hb)) ⟨ra.dom,fun i sl hi b hb z=>?_⟩ hc.2;exact(I.dom hi z).1 (hw b hb)
end
end
section
variable{K:QA}{Γ:Ev}{Ψ:PEv}{E:XE}{EK:XK}{F H F1 H1:Hp}{S S1:Ft}{ρ ρ1:kA}{σ:St}
theorem Tr.nr{v:V}{u t:T}{Z:AdP}(h:Tr K F H false v u Z)(e:shalT u=some t):Tr K F H false v t Z:=by
 unfold shalT at e;split at e;rename_i ts ev;cases ed:unD ts with
 |none=>rw[ed]at e;cases e
 |some ds =>
  rw[ed]at e;injection e with e;subst e;cases h with
  |d r n =>
   cases r with
   |lst q r=>injection ev with ev;subst ev;rw[iA]at ed;injection ed with ed;subst ed;exact .lstF q r n
   |dct _ _ _=>exact(vw_dict_ls ev).elim
   |_=>cases ev
  |lst h1 h2 h3 h4 h5=>injection ev with ev;subst ev;show Tr K F H false _ (.lst (ds.map T.d)) Z;rw[<- unD_some ed];exact .lst h1 h2 h3 h4 h5
  |tup=>cases ev
  |dct=>cases ev
  |lstF h1 h2 h3=>injection ev with ev;subst ev;rw[iA]at ed;injection ed with ed;subst ed;exact .lstF h1 h2 h3
 split at e
 ·injection e with e;subst e;exact h
 cases e
theorem AV.pass{Y:AdP}{md:List Md}{vs:List V}{xs:List (T×Bool)}{W:AdP}(h:AV K F H md vs xs W Y)(e:Same F F1)(k:∀b,W b->F1 b=H b)(k2:∀b,Y b->F b=none->F1 b=none) :
  ∀{os ts:List T},YA md xs os=some ts->ArgsR K F1 H Y md vs ts/\mutTs md ts=os:=by
 induction h with
 |nil h =>
  intro os ts hp;cases os with
  |nil=>simp only[YA,Ql]at hp;subst hp;exact⟨.nil,rfl⟩
  |cons _ _=>simp[YA]at hp
 |@chg md v vs x xs W Y h t ih =>
  intro os ts hp;have hm:md.headD .nq=.chg:=by generalize md.headD .nq=m at h;cases m<;>first|rfl|cases h
  unfold YA at hp;rw[hm]at hp;cases os with
  |nil=>cases hp
  |cons o os =>
   cases ep:YA md.tail xs os with
   |none=>simp only[ep,wX]at hp;cases hp
   |some us=>simp only[ep,Q6,Ql]at hp;subst hp;obtain⟨h1,h2⟩:=ih k k2 ep;refine⟨.chg hm h1,?_⟩;unfold mutTs;rw[hm];simp only[h2]
 |@new md v vs x xs Z W W' Y h r t n q ih =>
  intro os ts hp;have r':Tr K F1 H false v (.d x.er) (fun _=>False):=.d (r.kept e fun b u hb eu=>by rw[k b ((q b).mpr (.inl hb))];exact eu) fun _ z=>z;have ihk:=@ih (fun b hb=>k b ((q b).mpr (.inr hb))) k2;unfold YA at hp;cases hm:md.headD .nq with
  |chg=>rw[hm]at h;cases h
  |nq =>
   simp only[hm,fA]at hp;cases ep:YA md.tail xs os with
   |none=>simp only[ep,wX]at hp;cases hp
   |some us=>simp only[ep,Q6,Ql]at hp;subst hp;obtain⟨h1,h2⟩:=ihk ep;exact⟨.rd (by rw[hm];simp) r' (fun _ z=>z.elim) h1,by unfold mutTs;rw[hm];exact h2⟩
  |nr =>
   simp only[hm,fA]at hp;cases es:shalT (.d x.er) with
   |none=>simp only[es]at hp;cases hp
   |some u =>
    simp only[es]at hp;cases ep:YA md.tail xs os with
    |none=>simp only[ep,wX]at hp;cases hp
    |some us=>simp only[ep,Q6,Ql]at hp;subst hp;obtain⟨h1,h2⟩:=ihk ep;exact⟨.rd (by rw[hm];simp) (r'.nr es) (fun _ z=>z.elim) h1,by unfold mutTs;rw[hm];exact h2⟩
  |nk =>
   simp only[hm,fA]at hp;cases ep:YA md.tail xs os with
   |none=>simp only[ep,wX]at hp;cases hp
   |some us=>simp only[ep,Q6,Ql]at hp;subst hp;obtain⟨h1,h2⟩:=ihk ep;exact⟨.rd (by rw[hm];simp) r' (fun _ z=>z.elim) h1,by unfold mutTs;rw[hm];exact h2⟩
 |@tmp md v vs x xs Z W Y h r z t ih =>
  intro os ts hp;have r':Tr K F1 H false v x Z:=r.mono e fun b hb=>⟨rfl,k2 b (z b hb) (r.dom b hb).2⟩
  have ihk:=@ih k k2;unfold YA at hp;cases hm:md.headD .nq with
  |chg=>rw[hm]at h;cases h
  |nq =>
   simp only[hm,fA]at hp;cases x with
   |d x =>
    cases ep:YA md.tail xs os with
    |none=>simp only[ep,wX]at hp;cases hp
    |some us=>simp only[ep,Q6,Ql]at hp;subst hp;obtain⟨h1,h2⟩:=ihk ep;exact⟨.rd (by rw[hm];simp) r' z h1,by unfold mutTs;rw[hm];exact h2⟩
   |_=>cases hp
  |nr =>
   simp only[hm,fA]at hp;cases es:shalT x with
   |none=>simp only[es]at hp;cases hp
   |some u =>
    simp only[es]at hp;cases ep:YA md.tail xs os with
    |none=>simp only[ep,wX]at hp;cases hp
    |some us=>simp only[ep,Q6,Ql]at hp;subst hp;obtain⟨h1,h2⟩:=ihk ep;exact⟨.rd (by rw[hm];simp) (r'.nr es) z h1,by unfold mutTs;rw[hm];exact h2⟩
  |nk =>
   simp only[hm,fA]at hp;cases ep:YA md.tail xs os with
   |none=>simp only[ep,wX]at hp;cases hp
   |some us=>simp only[ep,Q6,Ql]at hp;subst hp;obtain⟨h1,h2⟩:=ihk ep;exact⟨.rd (by rw[hm];simp) r' z h1,by unfold mutTs;rw[hm];exact h2⟩
theorem clear_get:∀(J:List Nat) (ρ:kA) (i:Nat) s,(clear J ρ)[i]?=some (some s)->i∉J/\ρ[i]?=some (some s)
 |[],ρ,i,s,h=>⟨(by simp),h⟩
 |j::J,ρ,i,s,h=>by
  unfold clear at h;obtain⟨h1,h2⟩:=clear_get J _ i s h;rcases vA h2 with⟨_,e,_⟩| ⟨n,h3⟩
  cases e;exact⟨fun m=>(QK.mp m).elim (fun e=>n e.symm) h1,h3⟩
theorem clear_len:∀(J:List Nat) (ρ:kA),(clear J ρ).length=ρ.length
 |[],_=>rfl
 |j::J,ρ=>by unfold clear;rw[clear_len J];simp
theorem Rl.drop(I:Rl K F H S ρ σ)(hl:ρ1.length=ρ.length)(h:∀(i:Nat) s,ρ1[i]?=some (some s)->ρ[i]?=some (some s)):Rl K F H S ρ1 σ :=
 ⟨I.fh,hl.trans I.len,fun i s e=>I.sl i s (h i s e),fun i j t s n e1 e2=>I.dj i j t s n (h i _ e1) (h j _ e2)⟩
theorem ownsAt_some:∀{J:List Nat}{ρ:kA}{os:List T},HA J ρ=some os->os.length=J.length/\∀(i:Nat) j,J[i]?=some j->∃t,os[i]?=some t/\ρ[j]?=some (some (.own t))
 |[],ρ,os,h=>by simp only[HA,Ql]at h;subst h;exact⟨rfl,fun i j e=>by simp at e⟩
 |j::J,ρ,os,h=>by
  unfold HA at h;split at h;rename_i t e;cases eo:HA J ρ with
  |none=>rw[eo]at h;cases h
  |some us =>
   rw[eo]at h;injection h with h;subst h;obtain⟨h1,h2⟩:=ownsAt_some eo;refine⟨by simp[h1],fun i k hk=>?_⟩;cases i with
   |zero=>simp at hk;subst hk;exact⟨t,rfl,e⟩
   |succ i=>obtain⟨u,g1,g2⟩:=h2 i k (by simpa using hk);exact⟨u,by simpa using g1,g2⟩
  cases h
theorem Rl.trs(I:Rl K F H S ρ σ):∀{J:List Nat}{os:List T}{vs:List V},J.Nodup->HA J ρ=some os->vs.map (fun v=>some (some v))=J.map (fun j=>σ[j]?)->Trs K F H true vs os (fun b=>∃j∈J,S j b)
 |[],os,vs,_,h,hv=>by
  simp only[HA,Ql]at h;subst h;cases vs with
  |nil=>exact .nil fun b ⟨j,hj,_⟩=>by simp at hj
  |cons _ _=>simp at hv
 |j::J,os,vs,nd,h,hv=>by
  unfold HA at h;split at h;rename_i t e;cases eo:HA J ρ with
  |none=>rw[eo]at h;cases h
  |some us =>
   rw[eo]at h;injection h with h;subst h;cases vs with
   |nil=>simp at hv
   |cons v vs =>
    simp only[QN,Wo]at hv;obtain⟨v',g1,g2⟩:=I.sl j _ e;rw[g1]at hv;have:v=v':=by simpa using hv.1
    subst this;have nd':=Qe.mp nd;refine .cons g2 (Rl.trs I nd'.2 eo hv.2) (fun b hb ⟨k,hk,z⟩=>?_) fun b=>?_;obtain⟨i,hi⟩:=WZ.mp hk;obtain⟨u,_,hu⟩:=(ownsAt_some eo).2 i k hi;exact I.dj j k t _ (fun z=>nd'.1 (z▸hk)) e hu b hb z;constructor
    ·rintro⟨k,hk,z⟩
     rcases QK.mp hk with e|e;subst e;exact .inl z;exact .inr ⟨k,e,z⟩
    rintro(z|⟨k,hk,z⟩)
    ·exact⟨j,QF,z⟩
    exact⟨k,QE _ hk,z⟩
  cases h
theorem Rl.setO(I:Rl K F H S ρ σ)(i:Nat){v:V}{t:T}{Z:AdP}(hv:σ[i]?=some (some v))(r:Tr K F H true v t Z)(hz:∀(j:Nat) s,j≠i->ρ[j]?=some (some s)->∀b,Z b->¬ S j b):Rl K F H (updF S i Z) (ρ.set i (some (.own t))) σ where
 fh:=I.fh
 len:=by simpa using I.len
 sl:=fun j s h=>by
  rcases vA h with⟨rfl,e,hl⟩| ⟨hn,h⟩
  cases e;exact⟨v,hv,by rw[DA];exact r⟩;rw[pA (Qy hn)];exact I.sl j s h
 dj:=fun j k t' s n h1 h2 b hb hk=>by
  rcases vA h1 with⟨e,_,_⟩| ⟨n1,h1⟩
  subst e;rw[DA]at hb;rcases vA h2 with⟨e,_,_⟩| ⟨n2,h2⟩
  exact n e;rw[pA (Qy n2)]at hk;exact hz k s (Qy n2) h2 b hb hk;rw[pA (Qy n1)]at hb;rcases vA h2 with⟨e,_,_⟩| ⟨n2,h2⟩
  subst e;rw[DA]at hk;exact hz j _ n h1 b hk hb;rw[pA (Qy n2)]at hk;exact I.dj j k t' s n h1 h2 b hb hk
theorem putOwns_ok:∀{J:List Nat}{os:List T}{vs:List V}{M:AdP}{S1:Ft}{ρ1 ρ2:kA},J.Nodup->Rl K F H S1 ρ1 σ->Trs K F H true vs os M->vs.map (fun v=>some (some v))=J.map (fun j=>σ[j]?)->Held F H S1 ρ1 M->putOwns J os ρ1=some ρ2 ->
  ∃S2,Rl K F H S2 ρ2 σ/\(∀i,i∉J->ρ2[i]?=ρ1[i]?/\S2 i=S1 i)/\∀i∈J,∀s,ρ2[i]?=some (some s)->(∃t,s=.own t)/\∀b,S2 i b->M b
 |[],os,vs,M,S1,ρ1,ρ2,nd,I,r,hv,hm,h=>by
  cases os with
  |nil=>simp only[putOwns,Ql]at h;subst h;exact⟨S1,I,fun _ _=>⟨rfl,rfl⟩,fun i hi=>by simp at hi⟩
  |cons _ _=>simp[putOwns]at h
 |j::J,os,vs,M,S1,ρ1,ρ2,nd,I,r,hv,hm,h=>by
  cases r with
  |nil _=>simp[putOwns]at h
  |@cons _ v t vs ts _ Z M' r1 r2 n q =>
   simp only[putOwns]at h;simp only[QN,Wo]at hv;have nd':=Qe.mp nd;have I2:=I.setO j hv.1.symm r1 fun k s _ hk b hb=>hm.nw k s hk b ((q b).mpr (.inl hb));have hm2:Held F H (updF S1 j Z) (ρ1.set j (some (.own t))) M':=⟨fun b hb=>hm.dom b ((q b).mpr (.inr hb)),fun i s hi b hb z=>by
    rcases vA hi with⟨rfl,_,_⟩| ⟨ne,hi⟩
    rw[DA]at z;exact n b z hb;rw[pA (Qy ne)]at z;exact hm.nw i s hi b ((q b).mpr (.inr hb)) z⟩
   obtain⟨S2,g1,g2,g3⟩:=putOwns_ok nd'.2 I2 r2 hv.2 hm2 h;refine⟨S2,g1,fun i hi=>?_,fun i hi s hs=>?_⟩;have ni:j≠i:=fun e=>hi (e▸QF);obtain⟨e1,e2⟩:=g2 i fun m=>hi (QE _ m);rw[set_ne ni]at e1;rw[pA (Qy ni)]at e2;exact⟨e1,e2⟩;rcases QK.mp hi with e|e
   ·subst e
    obtain⟨e1,e2⟩:=g2 i nd'.1;rw[e1]at hs;rcases vA hs with⟨_,e,_⟩| ⟨ne,_⟩
    injection e with e;refine⟨⟨t,e⟩,fun b hb=>?_⟩;rw[e2,DA]at hb;exact(q b).mpr (.inl hb);exact absurd rfl ne
   obtain⟨h1,h2⟩:=g3 i e s hs;exact⟨h1,fun b hb=>(q b).mpr (.inr (h2 b hb))⟩
theorem call_ok{f:Str}{as:PX}(g:GOk K Γ Ψ)(ia:PSnd K Γ Ψ as)(I:Rl K F H S ρ σ)(X:XOk K F H S ρ E EK){Q:TK}{R:VK}{ws:List Nat}(h:(pe Ψ (.call f as) E).e ρ Q)(k:Kont K ws F H S ρ σ Q R):(wp K Γ (.call f as) EK).e σ H R:=by
 obtain⟨os,ho,nd,h⟩:=h;generalize hJ:xA (Ψ.sp f).md as=J at ho nd h;have own:∀j∈J,∃t,ρ[j]?=some (some (.own t)):=fun j hj=>by obtain⟨i,hi⟩:=WZ.mp hj;obtain⟨t,_,e⟩:=(ownsAt_some ho).2 i j hi;exact⟨t,e⟩
 have I0:Rl K F H S (clear J ρ) σ:=I.drop (clear_len J ρ) fun i s e=>(clear_get J ρ i s e).2;have u0:∀b,U (clear J ρ) S b->U ρ S b:=fun b ⟨i,t,h1,h2⟩=>⟨i,t,(clear_get J ρ i _ h1).2,h2⟩
 have X0:XOk K F H S (clear J ρ) E EK:=fun x dx F2 H2 S2 ρ2 s2 ff r q=>X x dx F2 H2 (fun _ _=>False) [] ⟨s2.ff,fun b u e n=>s2.hh b u e fun z=>n (u0 b z),s2.dm,fun b e z=>(s2.fn b e z).imp (u0 b) id,fun b ⟨i,t,e,_⟩=>by simp at e,fun j t e=>by simp at e⟩ ff r q;have hm:∀j∈xA (Ψ.sp f).md as,∃v,σ[j]?=some (some v):=fun j hj=>by obtain⟨t,e⟩:=own j (hJ▸hj);obtain⟨v,h1,_⟩:=I.sl j _ e;exact⟨v,h1⟩
 show(wp K Γ as EK).a σ H fun vs H1=>Γ.sp f vs H1 R EK;refine ia.a I0 X0 hm h fun vs F1 H1 S1 ρ1 xs W Y s1 I1 r1 mv q1=>?_;rw[hJ]at mv;obtain⟨ts,hp,q1⟩:=q1;have hw:=r1.held;have s2:=s1.frz (fun b hb=>(hw.dom b hb).2) r1.fr;have I2:=I1.frz hw;have yk:∀b,Y b->F1 b=none->frzH F1 H1 W b=none:=fun b hy hf=>by obtain⟨i,sl,_,h2,h3⟩:=r1.tm b hy;rw[frzH_out fun z=>r1.nw i sl h2 b z h3];exact hf
 obtain⟨ar,mt⟩:=r1.av.pass (frzH_ff fun b hb=>(hw.dom b hb).2) (fun b hb=>frzH_in hb) yk hp;generalize frzH F1 H1 W=F2 at s2 I2 yk ar;have M0:=I.trs nd ho mv;have hM:Held F H S (clear J ρ) (fun b=>∃j∈J,S j b):=⟨fun b ⟨j,hj,hb⟩=>let⟨t,e⟩:=own j hj;I.dom e hb,fun i s e b ⟨j,hj,hb⟩ z=>by obtain⟨e1,e2⟩:=clear_get J ρ i s e;obtain⟨t,et⟩:=own j hj;exact I.dj j i t s (fun q=>e1 (q▸hj)) et e2 b hb z⟩
 have hM2:=hM.step s2.toStp I2;have M2:Trs K F2 H1 true (mutVs (Ψ.sp f).md vs) (mutTs (Ψ.sp f).md ts) (fun b=>∃j∈J,S j b):=by
  rw[mt];refine M0.mono s2.ff fun b hb=>?_;refine⟨?_,(hM2.dom b hb).2⟩;cases e:H b with
  |none=>exact absurd e (hM.dom b hb).1
  |some u=>exact s2.hh b u e (hM.nu b hb)
 refine g.sp f vs H1 R EK ⟨F2,ts,_,Y,I2.fh,ar,M2,fun b hy hb=>?_,?_⟩;obtain⟨i,sl,_,h2,h3⟩:=r1.tm b hy;exact hM2.nw i sl h2 b hb h3
 ·have up:∀b,(∃j∈J,S j b)->U ρ S b:=fun b ⟨j,hj,hb⟩=>let⟨t,e⟩:=own j hj;⟨j,t,e,hb⟩
  have lk:∀b,(∃j∈J,S j b)∨H1 b=none->U ρ S b∨H b=none:=fun b hb=>hb.imp (up b) (s2.dm b);refine(Ψ.sp f).mono ?_ ?_ q1
  rotate_left
  rintro x qx dx F' H' fm xr;refine X x dx F' H' (fun _ _=>False) [] ⟨s2.ff.trans fm.ff,fun b u e n=>fm.hh b u (s2.hh b u e fun z=>n (u0 b z)) fun z=>n (up b z),fun b e=>s2.dm b (fm.dm b e),fun b e z=>?_,fun b ⟨i,t,e,_⟩=>by simp at e,fun j t e=>by simp at e⟩ fm.fh xr qx;by_cases q:F2 b=none;exact lk b (fm.fn b q z);exact(s2.fn b e q).imp (u0 b) id;rintro r os' ⟨ρ2,hput,q⟩ v F' H' Z M' fm tr trs dz hf;have I3:Rl K F' H' S1 ρ1 σ:=⟨fm.fh,I2.len,fun i s e=>by
   obtain⟨w,g1,g2⟩:=I2.sl i s e;refine⟨w,g1,g2.mono fm.ff fun b hb=>?_⟩;obtain⟨d1,d2⟩:=g2.dom b hb;have nM:¬ ∃j∈J,S j b:=fun z=>hM2.nw i s e b z hb;refine⟨?_,?_⟩;cases e:H1 b with
   |none=>exact absurd e d1
   |some u=>exact fm.hh b u e nM
   by_cases z:F' b=none
   ·exact z
   exact((fm.fn b d2 z).elim nM d1).elim,I2.dj⟩
  have nw3:∀b,(∃j∈J,S j b)∨H1 b=none->∀(i:Nat) s,ρ1[i]?=some (some s)->¬ S1 i b:=fun b hb i s e z=>by rcases hb with hb|hb;exact hM2.nw i s e b hb z;exact(I2.dom e z).1 hb
  have hM':Held F' H' S1 ρ1 M':=⟨trs.dom,fun i s e b hb=>nw3 b (hf b (.inr hb)) i s e⟩
  obtain⟨S2,I4,g2,g3⟩:=putOwns_ok nd I3 trs mv hM' hput;have inJ:∀i s,ρ2[i]?=some (some s)->(i∈J/\(∃t,s=.own t)/\∀b,S2 i b->M' b)∨(i∉J/\ρ1[i]?=some (some s)/\S2 i=S1 i):=fun i s e=>by by_cases hi:i∈J;exact .inl ⟨hi,g3 i hi s e⟩;obtain⟨e1,e2⟩:=g2 i hi;exact .inr ⟨hi,e1▸e,e2⟩
  have st:Ste F H S ρ F' H' S2 ρ2:=⟨⟨s2.ff.trans fm.ff,fun b u e n=>fm.hh b u (s2.hh b u e fun z=>n (u0 b z)) fun z=>n (up b z),fun b e=>s2.dm b (fm.dm b e),fun b e z=>by
    by_cases q:F2 b=none;exact lk b (fm.fn b q z);exact(s2.fn b e q).imp (u0 b) id,
   fun b ⟨i,t,h1,h2⟩=>by
    rcases inJ i _ h1 with⟨_,_,e⟩| ⟨_,e1,e2⟩
    exact lk b (hf b (.inr (e b h2)));rw[e2]at h2;exact(s2.uu b ⟨i,t,e1,h2⟩).imp (u0 b) id,
   fun j t e hd=>by
    rcases inJ j _ e with⟨_,⟨t',z⟩,_⟩| ⟨_,e1,e2⟩
    cases z;obtain⟨b1,b2⟩:=s2.bo j t e1 hd;exact⟨(clear_get J ρ j _ b1).2,e2.trans b2⟩⟩,
   fun j t e=>by
    rcases inJ j _ e with⟨hj,_,_⟩| ⟨_,e1,e2⟩
    exact own j hj;obtain⟨t0,e0⟩:=s2.ow j t e1;exact⟨t0,(clear_get J ρ j _ e0).2⟩⟩
  refine k v F' H' S2 ρ2 r true Z st I4 ⟨tr,fun _ b hb=>?_,fun z=>(by cases z),fun _ i s e b hb z=>?_⟩ q;exact(lk b (hf b (.inl hb))).symm;rcases inJ i s e with⟨_,_,e2⟩| ⟨_,e1,e2⟩
  ·exact dz b hb (e2 b z)
  rw[e2]at z;exact nw3 b (hf b (.inl hb)) i s e1 z
end
section
variable{K:QA}{Γ:Ev}{Ψ:PEv}{E:XE}{EK:XK}{F H F1 H1:Hp}{S S1:Ft}{ρ ρ1:kA}{σ:St}
section
variable{j i:Nat}{t s:T}{b:Bool}{F2 H2:Hp}{S2:Ft}{ρ2:kA}{W P Sp:AdP}{vs ys:List V}{ts us:List T}{a:Addr}{u0 o:HO}{v xv iv:V}{x y:D}{ks:List D}{R:Hp->Prop}{N:T->Prop}
theorem lock1_get(hj:ρ[j]?=some (some (.own t))){s:Sl}(h:(ρ.set j (some (.nk t)))[i]?=some (some s)):(i=j/\s=.nk t)∨(i≠j/\ρ[i]?=some (some s)):=by
 rcases vA h with⟨rfl,e,_⟩| ⟨n,h⟩
 injection e with e;exact .inl ⟨rfl,e⟩;exact .inr ⟨Qy n,h⟩
theorem Rl.lock1(I:Rl K F H S ρ σ)(hj:ρ[j]?=some (some (.own t))):Rl K F H S (ρ.set j (some (.nk t))) σ where
 fh:=I.fh
 len:=by simpa using I.len
 sl:=fun i s e=>by
  rcases lock1_get hj e with⟨rfl,rfl⟩| ⟨_,e⟩
  obtain⟨v,h1,h2⟩:=I.sl i _ hj;exact⟨v,h1,h2.weak⟩;exact I.sl i s e
 dj:=fun i k t' s n e1 e2=>by
  rcases lock1_get hj e1 with⟨_,z⟩| ⟨n1,g1⟩
  cases z;rcases lock1_get hj e2 with⟨q,_⟩| ⟨_,g2⟩
  ·exact I.dj i k t' _ n g1 (q▸hj)
  exact I.dj i k t' s n g1 g2
theorem Rl.lock1U(I:Rl K F H S ρ σ)(hj:ρ[j]?=some (some (.own t)))(b:Addr)(hb:S j b):¬ U (ρ.set j (some (.nk t))) S b:=fun⟨i,u,h1,h2⟩=>by
 rcases lock1_get hj h1 with⟨_,z⟩| ⟨n,h1⟩
 cases z;exact I.dj i j u _ n h1 hj b h2 hb
theorem lock1U(hj:ρ[j]?=some (some (.own t))){b:Addr}(h:U (ρ.set j (some (.nk t))) S b):U ρ S b:=by
 obtain⟨i,u,h1,h2⟩:=h;rcases lock1_get hj h1 with⟨_,z⟩| ⟨n,h1⟩
 cases z;exact⟨i,u,h1,h2⟩
theorem XOk.lock1(X:XOk K F H S ρ E EK)(hj:ρ[j]?=some (some (.own t))):XOk K F H S (ρ.set j (some (.nk t))) E EK:=fun x dx F2 H2 S2 ρ2 s2 f r q =>
 X x dx F2 H2 (fun _ _=>False) [] ⟨s2.ff,fun b u e n=>s2.hh b u e fun z=>n (lock1U hj z),s2.dm,fun b e z=>(s2.fn b e z).imp (lock1U hj) id,fun b ⟨i,t,e,_⟩=>by simp at e,fun j t e=>by simp at e⟩ f r q
theorem lock1_nw(I:Rl K F H S ρ σ)(hj:ρ[j]?=some (some (.own t)))(s:Ste F H S (ρ.set j (some (.nk t))) F2 H2 S2 ρ2)(I2:Rl K F2 H2 S2 ρ2 σ){b:Addr}(hb:S j b) :
  ∀(i:Nat) sl,i≠j->ρ2[i]?=some (some sl)->¬ S2 i b:=fun i sl n e z=>by
 cases sl with
 |own u=>rcases s.uu b ⟨i,u,e,z⟩ with q|q;exact I.lock1U hj b hb q;exact(I.dom hj hb).1 q
 |nk u =>
  cases hd:u.isD with
  |true=>exact I2.isD e hd z
  |false =>
   obtain⟨e1,e2⟩:=s.bo i u e hd;rw[e2]at z;rcases lock1_get hj e1 with⟨q,_⟩| ⟨_,e1⟩
   exact n q;exact I.dj j i t _ (Qy n) hj e1 b hb z
theorem put_root{t':T}{v0:V}{H3:Hp}{Z':AdP}(I:Rl K F H S ρ σ)(hj:ρ[j]?=some (some (.own t)))(hv:σ[j]?=some (some v0))(s:Ste F H S (ρ.set j (some (.nk t))) F2 H2 S2 ρ2)(I2:Rl K F2 H2 S2 ρ2 σ)
  (hH:∀b u,H2 b=some u->¬ S j b->H3 b=some u) (dm:∀b,H3 b=none->H2 b=none) (r:Tr K F2 H3 true v0 t' Z') (hz:∀b,Z' b->S j b∨W b∨H2 b=none) (hw:Held F2 H2 S2 ρ2 W) (frW:∀b,W b->H b=none∨U (ρ.set j (some (.nk t))) S b) :
  Ste F H S ρ F2 H3 (updF S2 j Z') (ρ2.set j (some (.own t')))/\Rl K F2 H3 (updF S2 j Z') (ρ2.set j (some (.own t'))) σ/\∀b,S j b∨W b∨H2 b=none->∀(i:Nat) sl,i≠j->ρ2[i]?=some (some sl)->¬ S2 i b:=by
 have nw:∀b,S j b∨W b∨H2 b=none->∀(i:Nat) sl,i≠j->ρ2[i]?=some (some sl)->¬ S2 i b:=fun b hb i sl n e z=>by rcases hb with hb|hb|hb;exact lock1_nw I hj s I2 hb i sl n e z;exact hw.nw i sl e b hb z;exact(I2.dom e z).1 hb
 have uj:∀b,S j b->U ρ S b:=fun b hb=>⟨j,t,hj,hb⟩
 have lk:∀b,S j b∨W b∨H2 b=none->U ρ S b∨H b=none:=fun b hb=>by rcases hb with hb|hb|hb;exact .inl (uj b hb);exact(frW b hb).symm.imp (lock1U hj) id;exact .inr (s.dm b hb)
 have fS:∀b,S j b->F2 b=none:=fun b hb=>by
  by_cases q:F2 b=none;exact q;rcases s.fn b (I.dom hj hb).2 q with z|z
  ·exact absurd z (I.lock1U hj b hb)
  exact absurd z (I.dom hj hb).1
 have fh:Same F2 H3:=fun b u e=>hH b u (I2.fh b u e) fun z=>by rw[fS b z]at e;cases e
 have I3:Rl K F2 H3 S2 (ρ2.set j none) σ:=⟨fh,by simpa using I2.len,fun i sl e=>by
   rcases vA e with⟨_,z,_⟩| ⟨n,e⟩
   cases z;obtain⟨v,h1,h2⟩:=I2.sl i sl e;refine⟨v,h1,h2.mono (.refl _) fun b hb=>⟨?_,(h2.dom b hb).2⟩⟩;cases eb:H2 b with
   |none=>exact absurd eb (h2.dom b hb).1
   |some u=>exact hH b u eb fun z=>lock1_nw I hj s I2 z i sl (Qy n) e hb,
  fun i k u sl n e1 e2=>by
   rcases vA e1 with⟨_,z,_⟩| ⟨_,e1⟩
   cases z;rcases vA e2 with⟨_,z,_⟩| ⟨_,e2⟩
   ·cases z
   exact I2.dj i k u sl n e1 e2⟩
 have I4:=I3.setO j hv r fun i sl n e b hb=>by
  rcases vA e with⟨_,z,_⟩| ⟨_,e⟩
  cases z;exact nw b (hz b hb) i sl n e
 have es:(ρ2.set j none).set j (some (.own t'))=ρ2.set j (some (.own t')):=by simp
 rw[es]at I4;refine⟨⟨⟨s.ff,fun b u e n=>hH b u (s.hh b u e fun z=>n (lock1U hj z)) fun z=>n (uj b z),fun b e=>s.dm b (dm b e),fun b e z=>(s.fn b e z).imp (lock1U hj) id,fun b ⟨i,u,h1,h2⟩=>?_,fun i u e hd=>?_⟩,fun i u e=>?_⟩,I4,nw⟩;rcases vA h1 with⟨rfl,_,_⟩| ⟨n,h1⟩
 ·rw[DA]at h2
  exact lk b (hz b h2)
 rw[pA (Qy n)]at h2;exact(s.uu b ⟨i,u,h1,h2⟩).imp (lock1U hj) id;rcases vA e with⟨rfl,z,_⟩| ⟨n,e⟩
 ·cases z
 obtain⟨e1,e2⟩:=s.bo i u e hd;rcases lock1_get hj e1 with⟨z,_⟩| ⟨_,e1⟩
 exact absurd z.symm n;exact⟨e1,by rw[pA (Qy n)];exact e2⟩;rcases vA e with⟨rfl,_,_⟩| ⟨n,e⟩
 ·exact⟨t,hj⟩
 obtain⟨t0,e0⟩:=s.ow i u e;rcases lock1_get hj e0 with⟨_,z⟩| ⟨_,e0⟩
 cases z;exact⟨t0,e0⟩
theorem Trs.erase{st:Bool}{S:AdP}{k:Nat}(h:Trs K F H st vs ts S)(e:ts[k]?=some t):∃v P1 P2,vs[k]?=some v/\Tr K F H st v t P1/\Trs K F H st (vs.eraseIdx k) (ts.eraseIdx k) P2/\(∀b,P1 b->¬ P2 b)/\∀b,P1 b∨P2 b->S b:=by
 revert k;refine Trs.ind (R:=fun st vs ts S=>∀{k:Nat},ts[k]?=some t->∃v P1 P2,vs[k]?=some v/\Tr K F H st v t P1/\Trs K F H st (vs.eraseIdx k) (ts.eraseIdx k) P2/\(∀b,P1 b->¬ P2 b)/\∀b,P1 b∨P2 b->S b) (fun n k e=>by cases e) (fun {_ _ _ _ _ _ P0 _} h t n q ih k e=>?_) h;cases k with
 |zero=>cases e;exact⟨_,_,_,rfl,h,t,n,fun b hb=>(q b).mpr hb⟩
 |succ k=>obtain⟨v,P1,P2,h1,h2,h3,h4,h5⟩:=ih (k:=k) e;refine⟨v,P1,fun b=>P0 b∨P2 b,h1,h2,.cons h h3 (fun b hb z=>n b hb (h5 b (.inr z))) fun b=>wf,fun b hb z=>z.elim (fun z=>n b z (h5 b (.inl hb))) (h4 b hb),fun b hb=>(q b).mpr ?_⟩;rcases hb with hb|hb|hb;exact .inr (h5 b (.inl hb));exact .inl hb;exact .inr (h5 b (.inr hb))
theorem nd_snoc'{α:Type}:∀{l:List α}{k:α},l.Nodup->¬ k∈l->(l++[k]).Nodup
 |[],k,_,_=>by simp
 |a::r,k,h,hk=>by obtain⟨h1,h2⟩:=Qe.mp h;show(a::(r++[k])).Nodup;refine Qe.mpr ⟨fun m=>?_,nd_snoc' h2 fun m=>hk (QK.mpr (Or.inr m))⟩;rcases Qd.mp m with q|q;exact h1 q;exact hk (QK.mpr (Or.inl (QJ.mp q).symm))
theorem chg_lst(fa:F a=none)(r:Trs K F H true ys us P)(n:¬ P a):Tr K F (JA H a (.lst ys)) true (.ref a) (.lst us) fun b=>b=a∨P b :=
 .lst (S':=P) gA fa (r.mono (.refl _) fun b hb=>⟨zA fun z=>n (z▸hb),(r.dom b hb).2⟩) n fun b=>wf
theorem upd_other(ha:Sp a)(b:Addr)(u:HO)(e:H b=some u)(hb:¬ Sp b):JA H a u0 b=some u:=by have hn:b≠a:=fun z=>hb (by rw[z];exact ha);rw[zA hn];exact e
theorem upd_none(b:Addr)(e:JA H a u0 b=none):H b=none:=by by_cases hb:b=a;rw[hb,gA]at e;cases e;rw[zA hb]at e;exact e
theorem mut_okT{m:Mt}{N:T->T->Prop}{R:VK}(f:Same F H)(r:Tr K F H true v s Sp)(rv:Trs K F H true vs ts W)(dj:∀b,Sp b->¬ W b)(h:mutT m s ts N)
  (k:∀w r s' H' S1 Zr,(∀b u,H b=some u->¬ Sp b->H' b=some u)->(∀b,H' b=none->H b=none)->Tr K F H' true v s' S1->Tr K F H' true w r Zr->(∀b,Zr b->¬ S1 b)->(∀b,S1 b∨Zr b->Sp b∨W b∨H b=none)->N r s'->R w H'):mtR K m v vs H R:=by
 cases m with
 |append =>
  obtain⟨us0,t0,rfl,rfl,h⟩:=h;cases r with
  |@lst _ a xs _ _ S' h1 h2 h3 h4 h5 =>
   have ha:Sp a:=(h5 a).mpr (.inl rfl);cases rv with
   |@cons _ w t ws us _ W1 W2 r1 r2 n q =>
    cases r2 with
    |nil n2 =>
     have hW:∀b,W b↔W1 b:=fun b=>by rw[q b];simp[n2 b]
     refine⟨a,xs,w,rfl,rfl,h1,by rw[h3.length];exact h.1,k .non (.d .none) _ _ _ (fun _=>False) (upd_other ha) upd_none (chg_lst h2 (Trs.append h3 (Trs.one r1) fun b hb hw=>dj b ((h5 b).mpr (.inr hb)) ((hW b).mpr hw)) fun z=>z.elim h4 fun z=>dj a ha ((hW a).mpr z)) (.d .non fun _ z=>z) (fun _ z=>z.elim) (fun b hb=>?_) h.2⟩;rcases hb with(hb|hb|hb)|hb;exact .inl (hb▸ha);exact .inl ((h5 b).mpr (.inr hb));exact .inr (.inl ((hW b).mpr hb));exact hb.elim
 |pop =>
  obtain⟨us0,i,j,t0,rfl,rfl,hi,ht,q⟩:=h;cases r with
  |@lst _ a xs _ _ S' h1 h2 h3 h4 h5 =>
   have ha:Sp a:=(h5 a).mpr (.inl rfl);obtain⟨w,P1,P2,g1,g2,g3,g4,g5⟩:=h3.erase ht;have na:¬ P1 a:=fun z=>h4 (g5 a (.inl z));have nb:¬ P2 a:=fun z=>h4 (g5 a (.inr z));cases rv with
   |cons r1 r2 n q2 =>
    cases r2;cases r1 with
    |d r1 n1 =>
     cases r1;refine⟨a,i,xs,j,w,rfl,rfl,h1,by rw[h3.length];exact hi,g1,k w t0 _ _ _ P1 (upd_other ha) upd_none (chg_lst h2 g3 nb) (g2.mono (.refl _) fun b hb=>⟨zA fun z=>na (z▸hb),(g2.dom b hb).2⟩) (fun b hb z=>?_) (fun b hb=>?_) q⟩;rcases z with z|z
     ·exact na (z▸hb)
     exact g4 b hb z;rcases hb with(hb|hb)|hb
     ·exact .inl (hb▸ha)
     exact .inl ((h5 b).mpr (.inr (g5 b (.inr hb))));exact .inl ((h5 b).mpr (.inr (g5 b (.inl hb))))
 |_=>exact h.elim
theorem Trs.setD(rx:Rep K F xv x){S:AdP}(n:Nat)(h:Trs K F H true vs ts S):∃P,Trs K F H true (vs.set n xv) (ts.set n (.d x)) P/\∀b,P b->S b:=by
 revert n;refine Trs.ind (R:=fun st vs ts S=>∀n:Nat,∃P,Trs K F H st (vs.set n xv) (ts.set n (.d x)) P/\∀b,P b->S b) (fun {_ S} z n=>⟨S,.nil z,fun _ h=>h⟩) (fun {_ _ _ _ _ _ S1 S2} h t m q ih n=>?_) h;cases n with
 |zero=>exact⟨S2,.cons (S1:=fun _=>False) (.d rx fun _ z=>z) t (fun _ z=>z.elim) fun b=>by simp,fun b hb=>(q b).mpr (.inr hb)⟩
 |succ n=>obtain⟨P,h1,h2⟩:=ih n;exact⟨fun b=>S1 b∨P b,.cons h h1 (fun b hb z=>m b hb (h2 b z)) fun b=>wf,fun b hb=>(q b).mpr (hb.imp id (h2 b))⟩
theorem Trs.part{S:AdP}(h:Trs K F H true vs ts S)(e:ts[i]?=some t):∃v S1,vs[i]?=some v/\Tr K F H true v t S1/\(∀b,S1 b->S b) /\
  ∀(H':Hp) t' S1',(∀b,S b->¬ S1 b->H' b=H b)->Tr K F H' true v t' S1'->(∀b,S1' b->S1 b)->∃P,Trs K F H' true vs (ts.set i t') P/\∀b,P b->S b:=by
 revert i;refine Trs.ind (R:=fun st vs ts S=>∀{i:Nat},ts[i]?=some t->∃v S1,vs[i]?=some v/\Tr K F H st v t S1/\(∀b,S1 b->S b)/\∀(H':Hp) t' S1',(∀b,S b->¬ S1 b->H' b=H b)->Tr K F H' st v t' S1'->(∀b,S1' b->S1 b)->∃P,Trs K F H' st vs (ts.set i t') P/\∀b,P b->S b) (fun n i e=>by cases e) (fun {_ _ _ _ _ _ P1 P2} h t n q ih i e=>?_) h;cases i with
 |zero=>cases e;exact⟨_,P1,rfl,h,fun b hb=>(q b).mpr (.inl hb),fun H' t' S1' k r k2=>⟨fun b=>S1' b∨P2 b,.cons r (t.mono (.refl _) fun b hb=>⟨k b ((q b).mpr (.inr hb)) fun z=>n b z hb,(t.dom b hb).2⟩) (fun b hb z=>n b (k2 b hb) z) fun b=>wf,fun b hb=>(q b).mpr (hb.imp (k2 b) id)⟩⟩
 |succ i=>obtain⟨v,S1,h1,h2,h3,h4⟩:=ih (i:=i) e;refine⟨v,S1,h1,h2,fun b hb=>(q b).mpr (.inr (h3 b hb)),fun H' t' S1' k r k2=>?_⟩;obtain⟨P,g1,g2⟩:=h4 H' t' S1' (fun b hb hn=>k b ((q b).mpr (.inr hb)) hn) r k2;exact⟨fun b=>P1 b∨P b,.cons (h.mono (.refl _) fun b hb=>⟨k b ((q b).mpr (.inl hb)) fun z=>n b hb (h3 b z),(h.dom b hb).2⟩) g1 (fun b hb z=>n b hb (g2 b z)) fun b=>wf,fun b hb=>(q b).mpr (hb.imp id (g2 b))⟩
def ksP(ks:List D)(k:D):List D:=match dA ks k with
 |some _=>ks
 |none=>ks++[k]
def vsP{α:Type}(ks:List D)(vs:List α)(k:D)(x:α):List α:=match dA ks k with
 |some n=>vs.set n x
 |none=>vs++[x]
theorem put_set{α β:Type}[DecidableEq α](k:α)(key:β->α)(f:β->β)(hf:∀p,key (f p)=key p):∀(l:List β) (n:Nat),(l.map key).Nodup->(l.map key)[n]?=some k->(∀(g:β->V) (x:V),(∀p,key p=k->g (f p)=x)->(l.map fun p=>if key p=k then f p else p).map g=(l.map g).set n x)
 |[],n,_,e=>by simp at e
 |p::r,0,nd,e=>by
  intro g x hg;have e:key p=k:=by simpa using e
  rw[QN]at nd;obtain⟨n1,n2⟩:=Qe.mp nd;have e2:(r.map fun p=>if key p=k then f p else p)=r:=by rw[show r=r.map id from(List.map_id r).symm,Qp];refine wc fun q hq=>?_;have:key q≠k:=fun z=>n1 (Qh.mpr ⟨q,by simpa using hq,z.trans e.symm⟩);simp[this]
  rw[QN,e2,QN,QN,if_pos e,hg p e];rfl
 |p::r,n+1,nd,e=>by
  intro g x hg;rw[QN]at nd;obtain⟨n1,n2⟩:=Qe.mp nd;have e:(r.map key)[n]?=some k:=by simpa using e
  have np:¬ key p=k:=fun z=>n1 (by rw[z];exact qF e);rw[QN,QN,QN,if_neg np,put_set k key f hf r n n2 e g x hg];rfl
theorem put_keys{α β γ:Type}[DecidableEq α](k:α)(key:β->α)(f:β->β)(g:β->γ)(hg:∀p,g (f p)=g p)(l:List β):(l.map fun p=>if key p=k then f p else p).map g=l.map g:=by rw[Qp];refine wc fun p _=>?_;show g (if key p=k then f p else p)=g p;split;exact hg p;rfl
theorem DKo.put{k:D}(f:Same F H)(ha:H a=some o)(dk:DKo K F b o ks vs)(ry:Rep K F iv k)(hk:keyK b k)(hl:ks.length<sizeLine)
  (kk:∀o',DKo K F b o' (ksP ks k) (vsP ks vs k xv)->R (JA H a o')):setR K (.ref a) iv xv H R:=by
 cases b with
 |true =>
  obtain⟨ep,kvs,rfl,rfl,rfl,h4,h5⟩:=dk;obtain⟨q,rfl⟩:=hk;cases ry with
  |@tup p _ _ hq rq =>
   cases reps_keys rq;refine⟨ep,kvs,q,ha,fun p hp=>f.tupl (h4 p hp),f.tupl hq,by simpa using hl,fun ep'=>kk _ ?_⟩;have vf:=valT_find q kvs;unfold putT ksP vsP;cases e:dA (kvs.map fun p=>tD p.1) (tD q) with
   |none =>
    rw[e]at vf;have vf:valT kvs q=none:=vf;rw[vf];refine⟨ep',kvs++[(q,p,xv)],rfl,by simp,by simp,fun x hx=>?_,?_⟩;rcases Qd.mp hx with hx|hx
    ·exact h4 x hx
    rw[QJ.mp hx];exact hq;rw[Qc];refine nd_snoc' h5 fun m=>findK_none.mp e ?_;obtain⟨x,hx,ex⟩:=Qh.mp m;exact Qh.mpr ⟨x,hx,by rw[ex]⟩
   |some n =>
    rw[e]at vf;have hn:=findK_lt e;have hn2:(kvs.map (·.1))[n]?=some q:=by
     rw[QY]at hn ⊢;cases en:kvs[n]? with
     |none=>rw[en]at hn;cases hn
     |some x=>rw[en]at hn;rw[Q6,Ql]at hn ⊢;exact tD_inj hn
    have hs:(valT kvs q).isSome=true:=by
     rw[vf];have:n<kvs.length:=by have:=(QT.mp hn2).1;simpa using this
     simp[this]
    rw[if_pos hs];refine⟨ep',_,rfl,(put_keys q (·.1) (fun p=>(p.1,p.2.1,xv)) (fun p=>tD p.1) (fun _=>rfl) kvs).symm,(put_set q (·.1) (fun p=>(p.1,p.2.1,xv)) (fun _=>rfl) kvs n h5 hn2 (·.2.2) xv fun _ _=>rfl).symm,fun x hx=>?_,?_⟩;obtain⟨y,hy,ey⟩:=Qh.mp hx;have hy:=h4 y hy;by_cases z:y.1=q;rw[if_pos z]at ey;subst ey;exact hy;rw[if_neg z]at ey;subst ey;exact hy;have:=put_keys q (·.1) (fun p:KE=>(p.1,p.2.1,xv)) (·.1) (fun _=>rfl) kvs;rw[this];exact h5
 |false =>
  obtain⟨z,rfl⟩:=hk;cases ry;rcases dk with⟨kvs,hne,rfl,rfl,rfl,h5⟩| ⟨ep,rfl,rfl,rfl⟩
  rotate_left
  exact .inr ⟨ep,ha,kk _ (.inl ⟨[(.inr z,xv)],by simp,rfl,rfl,rfl,by simp⟩)⟩;refine .inl ⟨kvs,ha,by simpa using hl,kk _ (.inl ?_)⟩;have vf:=valV_find (.inr z) kvs;have ez:kD (.inr z)=.str z:=rfl;rw[ez]at vf;unfold putK ksP vsP;rw[valV_any];cases e:dA (kvs.map fun p=>kD p.1) (.str z) with
  |none=>rw[e]at vf;have vf:valV kvs (.inr z)=none:=vf;rw[vf];refine⟨kvs++[(.inr z,xv)],by simp,rfl,by simp[ez],by simp,?_⟩;rw[Qc];refine nd_snoc' h5 fun m=>findK_none.mp e ?_;obtain⟨x,hx,ex⟩:=Qh.mp m;exact Qh.mpr ⟨x,hx,by rw[ex];rfl⟩
  |some n =>
   rw[e]at vf;have hn:=findK_lt e;have hn2:(kvs.map (·.1))[n]?=some (.inr z):=by
    rw[QY]at hn ⊢;cases en:kvs[n]? with
    |none=>rw[en]at hn;cases hn
    |some x=>rw[en]at hn;rw[Q6,Ql]at hn ⊢;exact kD_inj hn
   have hs:(valV kvs (.inr z)).isSome=true:=by
    rw[vf];have:n<kvs.length:=by have:=(QT.mp hn2).1;simpa using this
    simp[this]
   rw[if_pos hs];refine⟨_,by simpa using hne,rfl,(put_keys (.inr z) (·.1) (fun p=>(p.1,xv)) (fun p=>kD p.1) (fun _=>rfl) kvs).symm,(put_set (.inr z) (·.1) (fun p=>(p.1,xv)) (fun _=>rfl) kvs n h5 hn2 (·.2) xv fun _ _=>rfl).symm,?_⟩;have:=put_keys (.inr z) (·.1) (fun p:Key×V=>(p.1,xv)) (·.1) (fun _=>rfl) kvs;rw[this];exact h5
theorem chg_dct(fa:F a=none)(dk:DKo K F b o ks ys)(r:Trs K F H true ys us P)(n:¬ P a):Tr K F (JA H a o) true (.ref a) (.dct b ks us) fun b=>b=a∨P b :=
 .dct (S':=P) gA dk fa (r.mono (.refl _) fun b hb=>⟨zA fun z=>n (z▸hb),(r.dom b hb).2⟩) n fun b=>wf
theorem st_okT(f:Same F H)(r:Tr K F H true v s Sp)(ry:Rep K F iv y)(rx:Rep K F xv x)(h:stT s y x N)
  (k:∀s' H' S1,(∀b u,H b=some u->¬ Sp b->H' b=some u)->(∀b,H' b=none->H b=none)->Tr K F H' true v s' S1->(∀b,S1 b->Sp b)->N s'->R H'):setR K v iv xv H R:=by
 cases s with
 |lst ts =>
  cases y with
  |int i =>
   obtain⟨n,hn,q⟩:=h;cases ry;cases r with
   |@lst _ a xs _ _ S' h1 h2 h3 h4 h5=>have ha:Sp a:=(h5 a).mpr (.inl rfl);obtain⟨P,g1,g2⟩:=h3.setD rx n;refine⟨xs,n,h1,by rw[h3.length];exact hn,k _ _ _ (upd_other ha) upd_none (chg_lst h2 g1 fun z=>h4 (g2 a z)) (fun b hb=>?_) q⟩;rcases hb with hb|hb;exact hb▸ha;exact(h5 b).mpr (.inr (g2 b hb))
  |_=>exact h.elim
 |dct b ks ts =>
  obtain⟨hk,hl,q⟩:=h;cases r with
  |@dct _ _ a o _ vs _ _ S' h1 dk h2 h3 h4 h5 =>
   have ha:Sp a:=(h5 a).mpr (.inl rfl);refine dk.put f h1 ry hk hl fun o' dk'=>?_;unfold ksP vsP at dk';unfold putD at q;cases e:dA ks y with
   |some n=>rw[e]at dk' q;obtain⟨P,g1,g2⟩:=h3.setD rx n;refine k _ _ _ (upd_other ha) upd_none (chg_dct h2 dk' g1 fun z=>h4 (g2 a z)) (fun b hb=>?_) q;rcases hb with hb|hb;exact hb▸ha;exact(h5 b).mpr (.inr (g2 b hb))
   |none=>rw[e]at dk' q;have g1:=Trs.append h3 (Trs.one (Tr.d (S:=fun _=>False) rx fun _ z=>z)) fun _ _ z=>z;refine k _ _ _ (upd_other ha) upd_none (chg_dct h2 dk' g1 fun z=>z.elim h4 id) (fun b hb=>?_) q;rcases hb with hb|hb|hb;exact hb▸ha;exact(h5 b).mpr (.inr hb);exact hb.elim
 |_=>exact h.elim
theorem DKo.vs_inj{F':Hp}{ks':List D}{vs':List V}(h:DKo K F b o ks vs)(h':DKo K F' b o ks' vs'):vs=vs':=by
 cases b with
 |true=>obtain⟨ep,kvs,e,_,rfl,_⟩:=h;obtain⟨ep',kvs',e',_,rfl,_⟩:=h';rw[e]at e';cases e';rfl
 |false=>rcases h with⟨kvs,_,e,_,rfl,_⟩| ⟨ep,e,_,rfl⟩<;>rcases h' with⟨kvs',_,e',_,rfl,_⟩| ⟨ep',e',_,rfl⟩<;>rw[e]at e'<;>cases e'<;>rfl
theorem st2_okT{F0:Hp}{n:Nat}{w:V}(f:Same F H)(r:Tr K F H true (.ref a) (.dct b ks ts) Sp)(ho:H a=some o)(dk0:DKo K F0 b o ks vs)(hw:vs[n]?=some w)(ht:ts[n]?=some s)
  (ry:Rep K F iv y) (rx:Rep K F xv x) (h:stT s y x N)
  (k:∀s' H' S1,(∀b u,H b=some u->¬ Sp b->H' b=some u)->(∀b,H' b=none->H b=none)->Tr K F H' true (.ref a) (.dct b ks (ts.set n s')) S1->(∀b,S1 b->Sp b)->N s'->R H'):setR K w iv xv H R:=by
 cases r with
 |@dct _ _ a o' _ vs' _ _ S' h1 dk h2 h3 h4 h5 =>
  rw[ho]at h1;cases h1;cases dk0.vs_inj dk;have ha:Sp a:=(h5 a).mpr (.inl rfl);obtain⟨w',S1,g1,g2,g3,g4⟩:=h3.part ht;rw[hw]at g1;cases g1;refine st_okT f g2 ry rx h fun s' H' S1' hh dm rs sub q2=>?_;have keep:∀b,¬ S1 b->H b≠none->H' b=H b:=fun b hb hn=>by
   cases e:H b with
   |none=>exact absurd e hn
   |some u=>exact hh b u e hb
  have na:¬ S1 a:=fun z=>h4 (g3 a z);obtain⟨P,p1,p2⟩:=g4 H' s' S1' (fun b hb hn=>keep b hn (h3.dom b hb).1) rs sub;refine k _ H' (fun b=>b=a∨P b) (fun b u e hb=>hh b u e fun z=>hb ((h5 b).mpr (.inr (g3 b z)))) dm (.dct (S':=P) ((keep a na (by rw[ho];simp)).trans ho) dk h2 p1 (fun z=>h4 (p2 a z)) fun b=>wf) (fun b hb=>?_) q2;rcases hb with hb|hb;exact hb▸ha;exact(h5 b).mpr (.inr (p2 b hb))
theorem sd_okT{p:Addr}(f:Same F H)(hp:H p=none)(r:Tr K F H true v t Sp)(ry:Rep K F iv y)(h:sdfT y t N)
  (k:∀s' H' S1,(∀b u,H b=some u->¬ Sp b->H' b=some u)->(∀b,H' b=none->H b=none)->Tr K F H' true v s' S1->(∀b,S1 b->Sp b∨b=p)->N s'->R H'):rSetDef K v [iv,.ref p] (JA H p (.dT 0 [])) fun _ H'=>R H':=by
 obtain⟨ks,ts,rfl,hk,hl,h⟩:=h;cases r with
 |@dct _ _ a o _ vs _ _ S' h1 dk h2 h3 h4 h5 =>
  have ha:Sp a:=(h5 a).mpr (.inl rfl);obtain⟨ep,kvs,rfl,rfl,rfl,d4,d5⟩:=dk;obtain⟨q,rfl⟩:=hk;have ap:a≠p:=aA h1 hp;have fp:F p=none:=f.free hp;have sm:Same H (JA H p (.dT 0 [])):=upd_same' hp;cases ry with
  |@tup c _ _ hq rq =>
   cases reps_keys rq;have vf:=valT_find q kvs;refine⟨a,c,.ref p,ep,kvs,q,rfl,rfl,(zA ap).trans h1,fun x hx=>(f.trans sm).tupl (d4 x hx),(f.trans sm).tupl hq,by simpa using hl,fun u eu=>?_,fun en ep'=>?_⟩;rcases h with⟨n,e,q⟩| ⟨e,q⟩
   ·have r0:Tr K F H true (.ref a) (.dct true (kvs.map fun p=>tD p.1) ts) Sp:=.dct h1 ⟨ep,kvs,rfl,rfl,rfl,d4,d5⟩ h2 h3 h4 h5
    refine k _ _ Sp (fun b u e _=>sm b u e) (fun b e=>upd_none b e) (r0.mono (.refl _) fun b hb=>⟨zA fun z=>(r0.dom b hb).1 (by rw[z];exact hp),(r0.dom b hb).2⟩) (fun b hb=>.inl hb) q
   rw[e]at vf;rw[vf]at eu;cases eu;rcases h with⟨n,e,q⟩| ⟨e,q2⟩
   ·have hn:=findK_lt e
    rw[e]at vf;have:n<kvs.length:=by have:=(QT.mp hn).1;simpa using this
    rw[vf]at en;have en:(kvs.map (·.2.2))[n]?=none:=en;rw[List.getElem?_eq_none_iff,QG]at en;omega
   have ep2:putT kvs q c (.ref p)=kvs++[(q,c,.ref p)]:=by unfold putT;rw[en];rfl
   rw[ep2];have np:¬ S' p:=fun z=>(h3.dom p z).1 hp;have g0:Tr K F (JA H p (.dT 0 [])) true (.ref p) (.dct true [] []) fun b=>b=p :=
    .dct (S':=fun _=>False) (vs:=[]) gA ⟨0,[],rfl,rfl,rfl,fun _ z=>(nomatch z),Q0⟩ fp (.nil fun _ z=>z) (fun z=>z) fun b=>by simp
   have g3:Trs K F (JA H p (.dT 0 [])) true (kvs.map (·.2.2)) ts S':=h3.mono (.refl _) fun b hb=>⟨zA fun z=>np (z▸hb),(h3.dom b hb).2⟩
   have g1:=Trs.append g3 (Trs.one g0) fun b hb z=>np (z▸hb);have dk':DKo K F true (.dT ep' (kvs++[(q,c,.ref p)])) ((kvs.map fun p=>tD p.1)++[tD q]) (kvs.map (·.2.2)++[.ref p]):=by
    refine⟨ep',_,rfl,by simp,by simp,fun x hx=>?_,?_⟩;rcases Qd.mp hx with hx|hx
    ·exact d4 x hx
    rw[QJ.mp hx];exact hq;rw[Qc];refine nd_snoc' d5 fun m=>findK_none.mp e ?_;obtain⟨x,hx,ex⟩:=Qh.mp m;exact Qh.mpr ⟨x,hx,by rw[ex]⟩
   refine k _ _ _ (fun b u e hb=>?_) (fun b e=>upd_none b (upd_none b e)) (chg_dct h2 dk' g1 fun z=>z.elim h4 ap) (fun b hb=>?_) q2;rw[zA fun z=>hb (by rw[z];exact ha)];exact sm b u e;rcases hb with hb|hb|hb
   ·exact .inl (hb▸ha)
   exact .inl ((h5 b).mpr (.inr hb));exact .inr hb
end
end
section
variable{K:QA}{Γ:Ev}{F H:Hp}{S:Ft}{ρ:kA}{σ:St}
section
variable{Z:AdP}{zs:List (List Str×V)}{i k:Nat}{EK:XK}
theorem ls_at{v:V}{c:List Str}(r:Tr K F H true v (lsT c) Z):∃b,v=.ref b/\H b=some (.lst (c.map V.str))/\F b=none/\Z b:=by
 have r:Tr K F H true v (.lst ((c.map PyData.str).map T.d)) Z:=r;cases r with
 |@lst _ a vs _ _ S' h1 h2 h3 h4 h5=>rw[reps_strs (h3.un (iA _)).1]at h1;exact⟨a,rfl,h1,h2,(h5 a).mpr (.inl rfl)⟩
theorem trs_ls:∀{ls:List (List Str)}{vs:List V}{Z:AdP},Trs K F H true vs (ls.map lsT) Z->∃zs:List (List Str×V),vs=zs.map we/\ls=zs.map qL/\∀z∈zs,∃a,z.2=.ref a/\H a=some (.lst (z.1.map V.str))
 |[],_,_,h=>by cases h;exact⟨[],rfl,rfl,fun _ z=>nomatch z⟩
 |c::ls,_,_,h=>by
  cases h with
  |cons r t n q=>obtain⟨zs,rfl,rfl,hz⟩:=trs_ls t;obtain⟨b,rfl,hb,_⟩:=ls_at r;exact⟨(c,.ref b)::zs,rfl,rfl,fun z h=>(QK.mp h).elim (fun e=>⟨b,by rw[e],by rw[e];exact hb⟩) (hz z)⟩
theorem trs_perm{zs':List (List Str×V)}(p:zs.Perm zs'):∀{Z:AdP},Trs K F H true (zs.map we) (zs.map fun z=>lsT z.1) Z->Trs K F H true (zs'.map we) (zs'.map fun z=>lsT z.1) Z:=by
 induction p with
 |nil=>exact fun h=>h
 |cons x _ ih =>
  intro Z h;cases h with
  |cons r t n q=>exact .cons r (ih t) n q
 |swap x y l =>
  intro Z h;cases h with
  |@cons _ _ _ _ _ _ S1 S2 r t n q =>
   cases t with
   |@cons _ _ _ _ _ _ S3 S4 r2 t2 n2 q2 =>
    exact .cons (S1:=S3) (S2:=fun b=>S1 b∨S4 b) r2 (.cons r t2 (fun b h1 h4=>n b h1 ((q2 b).mpr (.inr h4))) fun b=>wf) (fun b h3 z=>z.elim (fun h1=>n b h1 ((q2 b).mpr (.inl h3))) (n2 b h3)) fun b=>by
     rw[q b,q2 b];constructor;rintro(h|h|h)
     ·exact .inr (.inl h)
     exact .inl h;exact .inr (.inr h);rintro(h|h|h)
     ·exact .inr (.inl h)
     exact .inl h;exact .inr (.inr h)
 |trans _ _ i1 i2=>exact fun h=>i2 (i1 h)
theorem off_get{j:Nat}{s:Sl}(h:(ρ.set i none)[j]?=some (some s)):j≠i/\ρ[j]?=some (some s):=by
 rcases vA h with⟨_,z,_⟩| ⟨n,e⟩
 cases z;exact⟨Qy n,e⟩
theorem off_ste:Ste F H S ρ F H S (ρ.set i none) :=
 ⟨⟨.refl _,fun _ _ h _=>h,fun _ h=>h,fun b h z=>absurd h z,fun b ⟨j,t,e,hb⟩=>.inl ⟨j,t,(off_get e).2,hb⟩,fun j t e _=>⟨(off_get e).2,rfl⟩⟩,fun j t e=>⟨t,(off_get e).2⟩⟩
theorem hx_e(p:PX){Q:TK}{R:VK}{ws:List Nat}(I:Rl K F H S ρ σ)(h:hxE p ρ Q)(k:Kont K ws F H S ρ σ Q R):(wp K Γ p EK).e σ H R:=by
 obtain⟨i,ls,rfl,hi,h64,q⟩:=h;obtain⟨v,hv,r⟩:=I.sl i _ hi;have r:Tr K F H true v (.lst (ls.map lsT)) (S i):=r;show(match σ[i]? with|some (some v)=>rSorted K [v] H R|_=>False);rw[hv];cases r with
 |@lst _ a vs _ _ S' h1 h2 h3 h4 h5=>obtain⟨zs,rfl,rfl,hz⟩:=trs_ls h3;rw[QG]at h64;refine⟨a,rfl,.inr ⟨zs,SqL.of h1,h64,fun z hz'=>?_,fun l zs' hl pz so=>?_⟩⟩;obtain⟨b,e,g⟩:=hz z hz';exact⟨b,e,SqL.of g⟩;rw[Qp]at h3;have t3:=trs_perm pz.symm h3;have:=q (zs'.map qL) (pz.map _) so;rw[Qp]at this;exact k.list off_ste (I.drop (qI ..) fun j s e=>(off_get e).2) hl t3 (fun b hb=>.inr ⟨i,_,hi,(h5 b).mpr (.inr hb)⟩) ⟨fun b hb=>h3.dom b hb,fun j sl e b hb z=>I.dj i j _ sl (Qy (off_get e).1) hi (off_get e).2 b ((h5 b).mpr (.inr hb)) z⟩ this
theorem at_nat{α:Type}{xs:List α}{x:α}(h:xs[k]?=some x):atI xs (k:Int)=some x:=by have hk:=(QT.mp h).1;unfold atI ixN;rw[if_pos (by omega),if_pos (by omega)];exact h
theorem tup_ls{v:V}{us ts:List T}(r:Tr K F H true v (.tup us) Z)(e:us[k]?=some (.lst ts)):∃a ws b vs S1,v=.ref a/\H a=some (.tup ws)/\ws[k]?=some (.ref b)/\H b=some (.lst vs)/\Trs K F H true vs ts S1:=by
 cases r with
 |@tup _ a ws _ _ S' h1 h2 h3 h4 h5 =>
  obtain⟨w,S1,g1,g2,_⟩:=h3.get e;cases g2 with
  |@lst _ b vs _ _ S2 f1 f2 f3 f4 f5=>exact⟨a,ws,b,vs,S2,rfl,h1,g1,f1,f3⟩
theorem ls_rep{H':Hp}(h:∀z∈zs,∃a,z.2=.ref a/\H' a=some (.lst (z.1.map V.str))):Reps K H' (zs.map we) ((zs.map qL).map strsD):=by
 induction zs with
 |nil=>exact .nil
 |cons z zs ih=>obtain⟨a,e,g⟩:=h z QF;refine .cons ?_ (ih fun y hy=>h y (QE _ hy));rw[e];exact .lst (SqL.of g) (strs_reps _)
theorem hx_t(p:PX){Q:Bool->kA->Prop}{R:Bool->Hp->Prop}(I:Rl K F H S ρ σ)(h:hxT p ρ Q)(k:KontB K F H S ρ σ Q R):(wp K Γ p EK).t σ H R:=by
 obtain⟨j,us,ls,rfl,hj,hu,h64,so,ok,q⟩:=h;obtain⟨v,hv,r⟩:=I.sl j _ hj;obtain⟨a,ws,b,vs,S1,rfl,ha,hw,hb,h3⟩:=tup_ls (show Tr K F H true v (.tup us) (S j) from r) hu;obtain⟨zs,rfl,rfl,hz⟩:=trs_ls h3;rw[QG]at h64;have ix:∀Q:VK,Q (.ref b) H->(match σ[j]? with|some (some v)=>rIxU K v (.int 0) H Q|_=>False):=fun Q q=>by rw[hv];exact⟨ws,.ref b,.inr (SqT.of ha),at_nat (k:=0) hw,q⟩
 show(match σ[j]? with|some (some v)=>rIxU K v (.int 0) H fun x H1=>(match σ[j]? with|some (some v)=>rIxU K v (.int 0) H1 fun y H2=>rSorted K [y] H2 fun z H3=>rEq K true x z H3 fun x H4=>asB x H4 R|_=>False)|_=>False);refine ix _ (ix _ ?_);refine⟨b,rfl,.inr ⟨zs,SqL.of hb,h64,fun z hz'=>?_,fun l zs' hl pz so'=>?_⟩⟩;obtain⟨c,e,g⟩:=hz z hz';exact⟨c,e,SqL.of g⟩;have sm:=upd_same' (o:=.lst (zs'.map we)) hl;have e1:zs'.map qL=zs.map qL:=srtL_one (pz.map _) so' so;have r1:Rep K (JA H l (.lst (zs'.map we))) (.ref b) (.list ((zs.map qL).map strsD)):=.lst (SqL.of (sm _ _ hb)) (ls_rep fun z h=>by obtain⟨c,e,g⟩:=hz z h;exact⟨c,e,sm _ _ g⟩);have r2:Rep K (JA H l (.lst (zs'.map we))) (.ref l) (.list ((zs'.map qL).map strsD)):=.lst (SqL.of gA) (ls_rep fun z h=>by obtain⟨c,e,g⟩:=hz z (pz.mem_iff.mp h);exact⟨c,e,sm _ _ g⟩);rw[e1]at r2;refine⟨_,_,r1,r2,ok,ok,?_⟩;rw[QAl _ ok.1];exact k false F _ S ρ (Ste.refl.new hl _) (I.new hl _) q
end
end
section
variable{K:QA}{Γ:Ev}{Ψ:PEv}
section
variable{p:PX}{F H:Hp}{S:Ft}{ρ:kA}{Z:AdP}
noncomputable abbrev SndE(K:QA)(Γ:Ev)(Ψ:PEv)(p:PX):Prop:=∀{E:XE}{EK:XK}{F H:Hp}{S:Ft}{ρ:kA}{σ:St}{Q:TK}{R:VK},Rl K F H S ρ σ->XOk K F H S ρ E EK->(pe Ψ p E).e ρ Q->Kont K (vrs p) F H S ρ σ Q R->(wp K Γ p EK).e σ H R
theorem tru_of(he:SndE K Γ Ψ p){E:XE}{EK:XK}{σ:St}{Q:Bool->kA->Prop}{R:Bool->Hp->Prop}(I:Rl K F H S ρ σ)(X:XOk K F H S ρ E EK)(h:(pe Ψ p E).e ρ fun t _ ρ1=>truD t.er fun b=>Q b ρ1)(k:KontB K F H S ρ σ Q R) :
  (wp K Γ p EK).e σ H fun x H1=>truQ K x H1 R :=
 he I X h fun v F' H' S' ρ' t n Z s I' r q=>tru_okD (r.tr.rep I'.fh) q fun c qc=>k c F' H' S' ρ' s I' qc
theorem PSnd.of_e(ht:∀E ρ Q,(pe Ψ p E).t ρ Q=(pe Ψ p E).e ρ fun t _ ρ1=>truD t.er fun b=>Q b ρ1)(ht':∀EK σ H R,(wp K Γ p EK).t σ H R=(wp K Γ p EK).e σ H fun x H1=>truQ K x H1 R)(ha:∀E,(pe Ψ p E).a=nev.a)(he:SndE K Γ Ψ p):PSnd K Γ Ψ p where
 e:=he
 t:=fun I X h k=>by rw[ht]at h;rw[ht'];exact tru_of he I X h k
 a:=fun I X _ h k=>by rw[ha]at h;exact h.elim
theorem PSnd.of_0(ht:∀E,(pe Ψ p E).t=nev.t)(ha:∀E,(pe Ψ p E).a=nev.a)(he:SndE K Γ Ψ p):PSnd K Γ Ψ p where
 e:=he
 t:=fun I X h k=>by rw[ht]at h;exact h.elim
 a:=fun I X _ h k=>by rw[ha]at h;exact h.elim
theorem PSnd.of_t(ht:∀E ρ Q,(pe Ψ p E).e ρ Q=(pe Ψ p E).t ρ fun b ρ1=>Q (.d (.bool b)) false ρ1)(ht':∀EK σ H R,(wp K Γ p EK).t σ H R=(wp K Γ p EK).e σ H fun x H1=>asB x H1 R)(ha:∀E,(pe Ψ p E).a=nev.a)
  (he:∀{E:XE}{EK:XK}{F H:Hp}{S:Ft}{ρ:kA}{σ:St}{Q:Bool->kA->Prop}{R:VK},Rl K F H S ρ σ->XOk K F H S ρ E EK->(pe Ψ p E).t ρ Q->KontB K F H S ρ σ Q (fun b=>R (.bl b))->(wp K Γ p EK).e σ H R):PSnd K Γ Ψ p where
 e:=fun I X h k=>by rw[ht]at h;exact he I X h fun b F' H' S' ρ' s I' q=>Kont.d k s I' (.bl b) q
 t:=fun I X h k=>by rw[ht'];exact he I X h fun b F' H' S' ρ' s I' q=>k b F' H' S' ρ' s I' q
 a:=fun I X _ h k=>by rw[ha]at h;exact h.elim
theorem var_e(i:Nat):SndE K Γ Ψ (.var i):=by
 intro E EK F H S ρ σ Q R I X h k;have h2:rdV ρ[i]? fun t=>Q t false ρ:=h;show(match σ[i]? with|some (some v)=>R v H|_=>False);have key:∀s,ρ[i]?=some (some s)->Q s.t false ρ->(match σ[i]? with|some (some v)=>R v H|_=>False):=fun s e q=>by obtain⟨v,h1,h3⟩:=I.sl i _ e;rw[h1];exact k v F H S ρ s.t false (S i) .refl I ⟨h3.weak,fun z=>(by cases z),fun _ b hb=>⟨i,s,QJ.mpr rfl,e,hb⟩,fun z=>(by cases z)⟩ q
 unfold rdV at h2;split at h2;rename_i e;exact key _ e h2;rename_i e;exact key _ e h2;exact h2.elim;exact h2.elim
theorem mut_ty{m:Mt}{v:V}{s:T}(h:isMut m=true)(ht:mutTy m s=true)(r:Tr K F H true v s Z):tyV K m.ty v H:=by
 unfold mutTy at ht;split at ht;cases r with
 |lst h1 _ _ _ _ =>
  refine .inl ⟨?_,_,SqL.of h1⟩;cases m with
  |append=>rfl
  |pop=>rfl
  |_=>cases ht
 cases ht
theorem mt_e{m:Mt}{o as:PX}(io:PSnd K Γ Ψ o)(ia:PSnd K Γ Ψ as):SndE K Γ Ψ (.mt m o as):=by
 intro E EK F H S ρ σ Q R I X h k;show(wp K Γ o EK).e σ H fun x H1=>tyV K m.ty x H1/\(wp K Γ as EK).a σ H1 fun vs H2=>mtR K m x vs H2 R;cases hm:isMut m with
 |false =>
  have h:(pe Ψ o E).e ρ fun x n ρ1=>mtTy m (fA x n).vw=true/\sq (fA x n) ρ1 ((pe Ψ as E).a []) fun xs ρ2=>mtT m (fA x n).vw (vwOf xs) fun z k=>Q z k ρ2:=by have h2:(if isMut m=true then _ else _):=h;rw[hm,if_neg (by simp)]at h2;exact h2
  refine two_a (P1:=fun x n=>mtTy m (fA x n).vw=true) (R1:=fun v H1=>tyV K m.ty v H1) (RR:=fun v vs H2=>mtR K m v vs H2 R) io ia I X h (fun v F' H' x n Za r p=>mt_ty r p) fun v vs F' H' S' ρ' x n xs Za Y s I' X' r _ tn q=>?_;rw[vw_map _ rfl]at q;exact mt_okT s I' r tn q k
 |true =>
  have h:rootV (rootOf o) fun j=>ownV ρ[j]? fun t=>mutTy m t=true/\(pe Ψ as E).a [] (ρ.set j (some (.nk t))) fun xs ρ2=>escB xs=true/\ρ2[j]?=some (some (.nk t))/\mutT m t (tsOf xs) fun r s'=>Q r true (ρ2.set j (some (.own s'))):=by have h2:(if isMut m=true then _ else _):=h;rw[hm,if_pos rfl]at h2;exact h2
  cases o with
  |var j =>
   have h:ownV ρ[j]? _:=h;unfold ownV at h;split at h;rename_i t hj;obtain⟨ht,q1⟩:=h;obtain⟨v0,hv,r0⟩:=I.sl j _ hj;have IL:=I.lock1 hj;have n0:=I.lock1U hj;have r0:Tr K F H true v0 t (S j):=r0;have XL:=X.lock1 hj;show(match σ[j]? with|some (some v)=>_|_=>False);rw[hv];refine⟨mut_ty hm ht r0,?_⟩;refine ia.a (md:=[]) IL XL (fun j hj=>by cases as<;>cases hj) q1 fun vs F2 H2 S2 ρ2 xs W Y s2 I2 ar _ q2=>?_;obtain⟨he,hj2,q2⟩:=q2;have r2:Tr K F2 H2 true v0 t (S j):=s2.toStp.keep r0 n0;have hw:=ar.held;have trs:=ar.av.trs noMd he;have wS:∀b,S j b->¬ W b:=fun b hb hb2=>by rcases ar.fr b hb2 with q|q;exact(r0.dom b hb).1 q;exact n0 b hb q
   refine mut_okT I2.fh r2 trs wS q2 fun w r s' H3 S3 Zr hh dm rs' rr dz hf q=>?_;obtain⟨st,I3,nw⟩:=put_root I hj hv s2 I2 hh dm rs' (fun b hb=>hf b (.inl hb)) hw ar.fr;have zr:∀b,Zr b->S j b∨W b∨H2 b=none:=fun b hb=>hf b (.inr hb);refine k w F2 H3 _ _ r true Zr st I3 ⟨rr,fun _ b hb=>?_,fun z=>(by cases z),fun _ i sl e b hb z=>?_⟩ q;rcases zr b hb with q|q|q
   ·exact .inr ⟨j,t,hj,q⟩
   exact(ar.fr b q).imp id (lock1U hj);exact .inl (s2.dm b q);rcases vA e with⟨rfl,_,_⟩| ⟨n,e⟩
   ·rw[DA]at z
    exact dz b hb z
   rw[pA (Qy n)]at z;exact nw b (zr b hb) i sl (Qy n) e z
   all_goals exact h.elim
  |_=>exact h.elim
theorem Kont.dct{ws:List Nat}{F H F1 H1:Hp}{S S1:Ft}{ρ ρ1:kA}{σ:St}{Q:TK}{R:VK}(k:Kont K ws F H S ρ σ Q R)(s:Ste F H S ρ F1 H1 S1 ρ1)(I:Rl K F1 H1 S1 ρ1 σ){p:Addr}(hp:H p=none)(fp:F1 p=none)(hh:Held F1 H1 S1 ρ1 fun b=>b=p){o:HO}{b:Bool}{ks:List D}{vs:List V}{ts:List T}{W:AdP}(dk:DKo K F1 b o ks vs)(r:Trs K F1 H1 true vs ts W)
  (fr:∀b,W b->H b=none∨U ρ S b) (hw:Held F1 H1 S1 ρ1 W) (np:¬ W p) (q:Q (.dct b ks ts) true ρ1):R (.ref p) (JA H1 p o):=by
 have ne:∀b u,H b=some u->b≠p:=fun b u e=>aA e hp;have s':Ste F H S ρ F1 (JA H1 p o) S1 ρ1:=⟨⟨s.ff,fun b u e n=>by rw[zA (ne b u e)];exact s.hh b u e n,fun b e=>s.dm b (upd_none b e),s.fn,s.uu,s.bo⟩,s.ow⟩
 have I':Rl K F1 (JA H1 p o) S1 ρ1 σ:=⟨fun b u e=>by rw[zA fun z=>by rw[z,fp]at e;cases e];exact I.fh b u e,I.len,fun i sl e=>by obtain⟨v,h1,h2⟩:=I.sl i sl e;exact⟨v,h1,h2.mono (.refl _) fun b hb=>⟨zA fun z=>hh.nw i sl e b z hb,(h2.dom b hb).2⟩⟩,I.dj⟩
 refine k _ F1 _ S1 ρ1 _ true (fun b=>b=p∨W b) s' I' ⟨.dct gA dk fp (r.mono (.refl _) fun b hb=>⟨zA fun z=>np (z▸hb),(hw.dom b hb).2⟩) np (fun b=>wf),fun _ b hb=>?_,fun z=>(by cases z),fun _ i sl e b hb z=>?_⟩ q;rcases hb with hb|hb
 ·exact .inl (hb▸hp)
 exact fr b hb;rcases hb with hb|hb
 ·exact hh.nw i sl e b hb z
 exact hw.nw i sl e b hb z
theorem VR.strict{F1 H1:Hp}{S1:Ft}{ρ1:kA}{ws:List Nat}{v:V}{t:T}{n:Bool}(r:VR K ws H S ρ F1 H1 S1 ρ1 v t n Z)(e:esc t n=true):∃W,Tr K F1 H1 true v t W/\Held F1 H1 S1 ρ1 W/\∀b,W b->H b=none∨U ρ S b:=by
 cases n with
 |true=>exact⟨Z,r.tr,r.held,r.fr rfl⟩
 |false =>
  have tr:=r.tr;cases t with
  |d x=>cases tr with|d q _=>exact⟨fun _=>False,.d q fun _ z=>z,.none,fun _ z=>z.elim⟩
  |_=>cases e
theorem held_new{σ:St}(I:Rl K F H S ρ σ){p:Addr}(hp:H p=none)(o:HO):Held F (JA H p o) S ρ fun b=>b=p :=
 ⟨fun b hb=>⟨by rw[hb,gA];simp,by rw[hb];exact I.fh.free hp⟩,fun i sl e b hb z=>(I.dom e z).1 (by rw[hb];exact hp)⟩
theorem VA(g:GOk K Γ Ψ):∀(p:PX),PSnd K Γ Ψ p
 | .var i=>⟨var_e i,fun I X h k=>tru_of (Γ:=Γ) (Ψ:=Ψ) (var_e i) I X h k,fun I X _ h k=>h.elim⟩
 | .int i=>⟨fun I X h k=>Kont.d k .refl I (.int i) h,fun I X h k=>k _ _ _ _ _ .refl I h,fun I X _ h k=>h.elim⟩
 | .str x=>⟨fun I X h k=>Kont.d k .refl I (.str x) h,fun I X h k=>h.elim,fun I X _ h k=>h.elim⟩
 | .bl b=>⟨fun I X h k=>Kont.d k .refl I (.bl b) h,fun I X h k=>k _ _ _ _ _ .refl I h,fun I X _ h k=>h.elim⟩
 | .non=>⟨fun I X h k=>Kont.d k .refl I .non h,fun I X h k=>k _ _ _ _ _ .refl I h,fun I X _ h k=>h.elim⟩
 | .glo x=>.of_e (fun _ _ _=>rfl) (fun _ _ _ _=>rfl) (fun _=>rfl) fun {E EK F H S ρ σ Q R} I X h k=>by have h:(match Ψ.va x with|some d=>Q (.d d) false ρ|none=>False):=h;split at h;rename_i d e;exact Kont.d k .refl I (g.va x d e F) h;exact h.elim
 | .bty _ _=>⟨fun I X h k=>h.elim,fun I X h k=>h.elim,fun I X _ h k=>h.elim⟩
 | .bin op a b=>.of_e (fun _ _ _=>rfl) (fun _ _ _ _=>rfl) (fun _=>rfl) fun {E EK F H S ρ σ Q R} I X h k =>
  two_f (P:=fun x n y m ρ2=>binT op (fA x n).vw (fA y m).vw fun z k=>Q z k ρ2) (RR:=fun x y H2=>binR K op x y H2 R) (VA g a) (VA g b) I X h fun v w F' H' S' ρ' x n y m Za Zb s I' X' ra _ rb q=>bin_ok s I' ra rb q k
 | .cmp op a b=>.of_t (fun _ _ _=>rfl) (fun _ _ _ _=>rfl) (fun _=>rfl) fun {E EK F H S ρ σ Q R} I X h k =>
  two_f (P:=fun x n y m ρ2=>cmpT op x.er (fA y m) fun k=>Q k ρ2) (RR:=fun x y H2=>cmpR K op x y H2 R) (VA g a) (VA g b) I X h fun v w F' H' S' ρ' x n y m Za Zb s I' X' ra _ rb q =>
   cmp_okT I'.fh (by have:=ra.rep I'.fh;rwa [frzN_er]at this) rb q fun c qc=>k c F' H' S' ρ' s I' qc
 | .neg a=>.of_0 (fun _=>rfl) (fun _=>rfl) fun {E EK F H S ρ σ Q R} I X h k=>by
  refine(VA g a).e (Q:=fun x _ ρ1=>negT x fun t=>Q t false ρ1) I X h fun v F' H' S' ρ' x n Z s I' r q=>?_;have tr:=r.tr;obtain⟨i,rfl,q2⟩:=(show negT x fun t=>Q t false ρ' from q)
  cases tr with
  |d rr _=>cases rr;exact Kont.d k s I' (.int _) q2
 | .and a b=>⟨fun {E EK F H S ρ σ Q R} I X h k=>by
   refine(VA g a).e (Q:=fun x _ ρ1=>asD x.er fun c=>if c=true then(pe Ψ b E).e ρ1 Q else Q (.d (.bool false)) false ρ1) (R:=fun x H1=>asB x H1 fun c H2=>if c=true then(wp K Γ b EK).e σ H2 R else R (.bl false) H2) I X h fun v F' H' S' ρ' x n Z s I' r q=>?_;refine as_okD (r.tr.rep I'.fh) q fun c qc=>?_;cases c with
   |false=>exact Kont.d k s I' (.bl false) qc
   |true=>exact(VA g b).e I' (X.from s.toStp) qc ((k.from s).vars fun i hi=>QV _ hi),
  fun {E EK F H S ρ σ Q R} I X h k=>by
   refine(VA g a).t (Q:=fun c ρ1=>if c=true then(pe Ψ b E).t ρ1 Q else Q false ρ1) (R:=fun c H1=>if c=true then(wp K Γ b EK).t σ H1 R else R false H1) I X h fun c F' H' S' ρ' s I' qc=>?_;cases c with
   |false=>exact k _ F' H' S' ρ' s I' qc
   |true=>exact(VA g b).t I' (X.from s.toStp) qc (KontB.from k s),fun I X _ h k=>h.elim⟩
 | .or a b=>⟨fun {E EK F H S ρ σ Q R} I X h k=>by
   refine(VA g a).e (Q:=fun x _ ρ1=>asD x.er fun c=>if c=true then Q (.d (.bool true)) false ρ1 else(pe Ψ b E).e ρ1 Q) (R:=fun x H1=>asB x H1 fun c H2=>if c=true then R (.bl true) H2 else(wp K Γ b EK).e σ H2 R) I X h fun v F' H' S' ρ' x n Z s I' r q=>?_;refine as_okD (r.tr.rep I'.fh) q fun c qc=>?_;cases c with
   |true=>exact Kont.d k s I' (.bl true) qc
   |false=>exact(VA g b).e I' (X.from s.toStp) qc ((k.from s).vars fun i hi=>QV _ hi),
  fun {E EK F H S ρ σ Q R} I X h k=>by
   refine(VA g a).t (Q:=fun c ρ1=>if c=true then Q true ρ1 else(pe Ψ b E).t ρ1 Q) (R:=fun c H1=>if c=true then R true H1 else(wp K Γ b EK).t σ H1 R) I X h fun c F' H' S' ρ' s I' qc=>?_;cases c with
   |true=>exact k _ F' H' S' ρ' s I' qc
   |false=>exact(VA g b).t I' (X.from s.toStp) qc (KontB.from k s),fun I X _ h k=>h.elim⟩
 | .not a=>⟨fun {E EK F H S ρ σ Q R} I X h k=>by
   refine(VA g a).e (Q:=fun x _ ρ1=>truD x.er fun c=>Q (.d (.bool (!c))) false ρ1) (R:=fun x H1=>truQ K x H1 fun c H2=>R (.bl (!c)) H2) I X h fun v F' H' S' ρ' x n Z s I' r q=>?_;exact tru_okD (r.tr.rep I'.fh) q fun c qc=>Kont.d k s I' (.bl _) qc,
  fun {E EK F H S ρ σ Q R} I X h k=>(VA g a).t (Q:=fun c ρ1=>Q (!c) ρ1) (R:=fun c H1=>R (!c) H1) I X h fun c F' H' S' ρ' s I' qc=>k _ F' H' S' ρ' s I' qc,fun I X _ h k=>h.elim⟩
 | .call f as=>.of_e (fun _ _ _=>rfl) (fun _ _ _ _=>rfl) (fun _=>rfl) fun {E EK F H S ρ σ Q R} I X h k=>call_ok g (VA g as) I X h k
 | .isi a c=>by
  have key:∀{E:XE}{EK:XK}{F H:Hp}{S:Ft}{ρ:kA}{σ:St}{Q:Bool->kA->Prop}{R:VK},Rl K F H S ρ σ->XOk K F H S ρ E EK->(pe Ψ (.isi a c) E).t ρ Q->KontB K F H S ρ σ Q (fun b=>R (.bl b))->(wp K Γ (.isi a c) EK).e σ H R:=by
   intro E EK F H S ρ σ Q R I X h k;refine(VA g a).e (Q:=fun x _ ρ1=>isiD c x.er fun b=>Q b ρ1) I X h fun v F' H' S' ρ' x n Z s I' r q=>?_;cases c with
   |bty z n=>obtain⟨b,h1,h2,q⟩:=q;exact isi_ok (r.tr.rep I'.fh) h1 h2 (k b F' H' S' ρ' s I' q)
   |_=>exact q.elim
  refine⟨fun I X h k=>key I X h fun b F' H' S' ρ' s I' q=>Kont.d k s I' (.bl b) q,fun {E EK F H S ρ σ Q R} I X h k=>?_,fun I X _ h k=>h.elim⟩;exact key (R:=fun v H1=>truQ K v H1 R) I X h fun b F' H' S' ρ' s I' q=>k b F' H' S' ρ' s I' q
 | .bi f as=>.of_e (fun _ _ _=>rfl) (fun _ _ _ _=>rfl) (fun _=>rfl) fun {E EK F H S ρ σ Q R} I X h k =>
  args_f (P:=fun xs ρ1=>biT f (vwOf xs) fun z k=>Q z k ρ1) (RR:=fun vs H1=>biR K f vs H1 R) (VA g as) I X h fun vs F' H' S' ρ' xs Y s I' X' tn _ q=>by rw[vw_map _ rfl]at q;exact bi_okT s I' tn q k
 | .mt m o as=>.of_e (fun _ _ _=>rfl) (fun _ _ _ _=>rfl) (fun _=>rfl) (mt_e (VA g o) (VA g as))
 | .idx a b=>by
  have he:SndE K Γ Ψ (.idx a b):=fun {E EK F H S ρ σ Q R} I X h k =>
   two_f (P:=fun x n y m ρ2=>(idxT (fA x n).vw (fA y m).vw fun z=>Q z false ρ2)∨(dixT (fA x n).vw y.er fun z=>Q z false ρ2)) (RR:=fun x y H2=>rIxU K x y H2 R) (VA g a) (VA g b) I X h fun v w F' H' S' ρ' x n y m Za Zb s I' X' ra za rb q=>by rcases q with q|q;exact idx_ok s I' ra za rb q k;exact dix_ok s I' ra za (by have:=rb.rep I'.fh;rwa [frzN_er]at this) q k
  exact⟨he,fun I X h k=>tru_of he I X h k,fun I X _ h k=>h.elim⟩
 | .slc a lo hi=>.of_0 (fun _=>rfl) (fun _=>rfl) fun {E EK F H S ρ σ Q R} I X h k=>by
  have part:∀(p:PX),PSnd K Γ Ψ p->∀{F H:Hp}{S:Ft}{ρ:kA}{x:T}{P:Option Int->kA->Prop}{RP:Option Int->Hp->Prop},Rl K F H S ρ σ->XOk K F H S ρ E EK ->
    sq (α:=Option Int) x ρ (if isNop p=true then fun ρ (R:Option Int->kA->Prop)=>R none ρ else fun ρ R=>(pe Ψ p E).e ρ fun l _ ρ2=>partD l.er fun o=>R o ρ2) P ->
    (∀o F' H' S' ρ',Ste F H S ρ F' H' S' ρ'->Rl K F' H' S' ρ' σ->(∀st v Zx,Tr K F H st v x Zx->Tr K F' H' st v x Zx)->P o ρ'->RP o H') ->
    (if isNop p=true then fun(R:Option Int->Hp->Prop)=>R none H else fun R=>(wp K Γ p EK).e σ H fun l H2=>partQ l H2 R) RP:=by
   intro p ip F H S ρ x P RP I X h k;cases hn:isNop p with
   |true=>simp only[hn,if_true]at h ⊢;refine k none F H S ρ .refl I (fun _ _ _ r=>r) ?_;unfold sq at h;split at h<;>exact h
   |false =>
    simp only[hn,qN,if_false]at h ⊢;have h2:sq x ρ (cu (pe Ψ p E).e) fun y ρ'=>partD y.1.er fun o=>P o ρ':=by unfold sq at h ⊢;exact h
    refine sq_e ip I X h2 fun w F' H' S' ρ' y m Z s I' kp _ r q=>part_ok (r.tr.rep I'.fh) q fun o qo=>k o F' H' S' ρ' s I' kp qo
  refine one_f (VA g a) I X h fun v F1 H1 S1 ρ1 x n Za s1 I1 X1 r1 _ z1 h1=>?_;refine part lo (VA g lo) I1 X1 h1 fun l F2 H2 S2 ρ2 s2 I2 k2 h2=>?_;refine part hi (VA g hi) I2 (X1.from s2.toStp) h2 fun u F3 H3 S3 ρ3 s3 I3 k3 h3=>?_;exact slc_ok (s1.trans (s2.trans s3)) I3 (k3 _ _ _ (k2 _ _ _ r1)) h3 k
 | .nop=>⟨fun I X h k=>h.elim,fun I X h k=>h.elim,fun I X _ h k=>h.elim⟩
 | .lst as=>.of_0 (fun _=>rfl) (fun _=>rfl) fun {E EK F H S ρ σ Q R} I X h k=>by refine(VA g as).a (md:=[]) (R:=fun xs H1=>xs.length<=sizeLine/\∀p,H1 p=none->R (.ref p) (JA H1 p (.lst xs))) I X (fun j hj=>by cases as<;>cases hj) h fun vs F' H' S' ρ' xs W Y s I' r _ q=>?_;exact⟨by rw[r.av.length];exact q.2.1,fun p hp=>Kont.list k s I' hp (r.av.trs noMd q.1) r.fr r.held q.2.2⟩
 | .tup as=>.of_0 (fun _=>rfl) (fun _=>rfl) fun {E EK F H S ρ σ Q R} I X h k=>by refine(VA g as).a (md:=[]) (R:=fun xs H1=>xs.length<=sizeLine/\∀p,H1 p=none->R (.ref p) (JA H1 p (.tup xs))) I X (fun j hj=>by cases as<;>cases hj) h fun vs F' H' S' ρ' xs W Y s I' r _ q=>?_;exact⟨by rw[r.av.length];exact q.2.1,fun p hp=>Kont.tup k s I' hp (r.av.trs noMd q.1) r.fr r.held q.2.2⟩
 | .comp mask tgs tg ik its cond elt=>.of_0 (fun _=>rfl) (fun _=>rfl) fun {E EK F H S ρ σ Q R} I X h k=>by
  refine args_f (RR:=fun vs H1=>itemsR K ik vs H1 fun xs st H2=>CompB K xs st tg (if isNop cond=true then fun _ H Q=>Q true H else(wp K Γ cond (fun _ _ _=>False)).t) (wp K Γ elt (fun _ _ _=>False)).e (entS tgs.length mask σ) H2 R) (VA g its) I X h fun vs F1 H1 S1 ρ1 xs Y s1 I1 X1 tn tm q1=>?_;rw[vw_map _ rfl]at q1;refine items_okT I1.fh tn q1 fun xs ys st pr hst hc=>?_;refine compV_ok (us:=vrs elt) ?_ ?_ s1 I1 pr (fun b hb=>?_) hst hc k;intro F H S ρ σ Q R I h k;cases hn:isNop cond with
  |true=>simp only[hn,if_true]at h ⊢;exact k true F H S ρ .refl I h
  |false=>simp only[hn,qN,if_false]at h ⊢;exact(VA g cond).t I XOk.never h k
  intro F H S ρ σ Q R I h k;exact(VA g elt).e I XOk.never h k;obtain⟨i,sl,_,h2,h3⟩:=tm b hb;exact I1.dom h2 h3
 | .lset a=>.of_0 (fun _=>rfl) (fun _=>rfl) fun {E EK F H S ρ σ Q R} I X h k =>
  one_f (P:=fun x n ρ1=>lsetT (fA x n).vw fun z k=>Q z k ρ1) (RR:=fun x H1=>rLset K x H1 R) (VA g a) I X h fun v F' H' S' ρ' x n Z s I' _ r _ _ ⟨us,ss,e,hb,l,q⟩=>by obtain⟨p,xs,_,rfl,hp,rp,_⟩:=r.ls I'.fh e;obtain rfl:=reps_strs (rp.un hb).1;exact⟨p,ss,rfl,hp,l,fun zs nd m=>k.d s I' (.int _) (q zs nd m)⟩
 | .hx p=>⟨fun {E EK F H S ρ σ Q R} I X h k=>hx_e (Γ:=Γ) p I h k,fun {E EK F H S ρ σ Q R} I X h k=>hx_t (Γ:=Γ) p I h k,fun I X _ h k=>h.elim⟩
 | .dnew b=>.of_0 (fun _=>rfl) (fun _=>rfl) fun {E EK F H S ρ σ Q R} I X h k=>by
  intro p hp;have hh:=held_new I hp (.dT 0 []);have e:=Kont.dct (o:=.dT 0 []) (b:=b) (ks:=[]) (vs:=[]) (ts:=[]) (W:=fun _=>False) k (Ste.refl.new hp (.dT 0 [])) (I.new hp _) hp (I.fh.free hp) hh ?_ (.nil fun _ z=>z) (fun _ z=>z.elim) .none (fun z=>z) h;rw[upd_upd]at e;exact e;cases b with
  |true=>exact⟨0,[],rfl,rfl,rfl,fun _ z=>(nomatch z),Q0⟩
  |false=>exact .inr ⟨0,rfl,rfl,rfl⟩
 | .dsp a b=>.of_0 (fun _=>rfl) (fun _=>rfl) fun {E EK F H S ρ σ Q R} I X h k=>by
  intro p hp;have hh:=held_new I hp (.dT 0 []);have s0:Ste F H S ρ F (JA H p (.dT 0 [])) S ρ:=Ste.refl.new hp _;refine one_f (VA g a) (I.new hp _) (X.from s0.toStp) h fun y F1 H1 S1 ρ1 x n Z s1 I1 X1 _ er _ ⟨he,q1⟩=>?_;have hh1:=hh.step s1.toStp I1;have ry:=er he;refine(VA g b).e I1 X1 q1 fun v F2 H2 S2 ρ2 t m Zb s2 I2 r2 q2=>?_;have hh2:=hh1.step s2.toStp I2;obtain⟨he2,hk,q2⟩:=q2;obtain⟨W,rw,hw,frw⟩:=(r2.from s1.toStp).strict he2;have hp2:H2 p=some (.dT 0 []):=s2.hh p _ (s1.hh p _ gA (hh.nu p rfl)) (hh1.nu p rfl);have np:¬ W p:=fun z=>by rcases frw p z with q|q;rw[gA]at q;cases q;exact hh.nu p rfl q
  have ry2:=ry.mono s2.ff;refine⟨hp2,?_⟩;generalize x.er=d at hk ry2 q2;obtain⟨ks,rfl⟩:=hk;cases ry2 with
  |@tup c _ _ hq rq=>cases reps_keys rq;refine⟨c,ks,rfl,I2.fh.tupl hq,fun ep=>?_⟩;exact Kont.dct (o:=.dT ep [(ks,c,v)]) (b:=true) (vs:=[v]) (ts:=[t]) k (s0.trans (s1.trans s2)) I2 hp (hh2.dom p rfl).2 hh2 ⟨ep,_,rfl,rfl,rfl,fun z hz=>by rw[QJ.mp hz];exact hq,by simp⟩ (Trs.one rw) (fun b hb=>by rcases frw b hb with q|q;exact .inl (upd_none b q);exact .inr q) hw np q2
 | .nj=>⟨fun I X h k=>h.elim,fun I X h k=>h.elim,fun {E EK F H S ρ σ md Q R} I X _ h k=>k [] F H S ρ [] (fun _=>False) (fun _=>False) .refl I ⟨.nil fun _ z=>z,fun _ z=>z.elim,fun _ z=>z.elim,fun _ _ _ _ z=>z.elim⟩ (by cases md with|nil=>rfl|cons m r=>cases m<;>rfl) h⟩
 | .nh a as=>⟨fun I X h k=>h.elim,fun I X h k=>h.elim,fun {E EK F H S ρ σ md Q R} I X hm h k=>by
  show(wp K Γ a EK).e σ H fun x H1=>(wp K Γ as EK).a σ H1 fun xs H2=>R (x::xs) H2;have vr2:∀i∈vrs as,i∈vrs (.nh a as):=fun i hi=>QV _ hi;cases hmd:(md.headD .nq).isMut with
  |true =>
   have h2:isVar a=true/\(pe Ψ as E).a md.tail ρ fun xs ρ1=>Q ((.d .none,true)::xs) ρ1:=by have h3:(if(md.headD .nq).isMut=true then _ else _):=h;rw[hmd,if_pos rfl]at h3;exact h3
   obtain⟨m,md',rfl⟩:∃m md',md=m::md':=by
    cases md with
    |nil=>cases hmd
    |cons m md'=>exact⟨m,md',rfl⟩
   have em:m=.chg:=by have hmd:m.isMut=true:=hmd;cases m<;>first|rfl|cases hmd
   subst em;cases a with
   |var j=>obtain⟨v,hv⟩:=hm j (show j∈j::xA md' as from QF);show(match σ[j]? with|some (some v)=>_|_=>False);rw[hv];refine(VA g as).a I X (fun i hi=>hm i (QE _ hi)) h2.2 fun vs F' H' S' ρ' xs W Y s I' r mv q=>?_;refine k (v::vs) F' H' S' ρ' _ W Y s I' ⟨.chg hmd r.av,r.fr,(r.vars vr2).tm,r.nw⟩ ?_ q;show(some (some v))::(mutVs md' vs).map _=σ[j]?::(xA md' as).map _;have mv:(mutVs md' vs).map (fun v=>some (some v))=(xA md' as).map (fun j=>σ[j]?):=mv;rw[hv,mv]
   |_=>exact absurd h2.1 (by simp[isVar])
  |false =>
   have h2:(pe Ψ a E).e ρ fun x n ρ1=>sq (α:=List (T×Bool)) (if n=true then .d .none else x) ρ1 ((pe Ψ as E).a md.tail) fun xs ρ2=>Q ((x,n)::xs) ρ2:=by have h3:(if(md.headD .nq).isMut=true then _ else _):=h;rw[hmd,if_neg (by simp)]at h3;exact h3
   have hroots:xA md (.nh a as)=xA md.tail as:=by
    cases md with
    |nil=>cases as<;>rfl
    |cons m md'=>have hmd:m.isMut=false:=hmd;cases m<;>first|rfl|cases hmd
   have hmv:∀v vs,mutVs md (v::vs)=mutVs md.tail vs:=fun v vs=>by unfold mutVs;generalize md.headD .nq=m at hmd;cases m<;>first | (cases vs<;>rfl)|cases hmd
   refine(VA g a).e I X h2 fun v F1 H1 S1 ρ1 x n Z s1 I1 r1 q1=>?_;refine sq_a (VA g as) I1 (X.from s1.toStp) (fun i hi=>hm i (by rw[hroots];exact hi)) q1 fun vs F2 H2 S2 ρ2 xs W Y s2 I2 kp hs r2 mv q2=>?_;have s12:=s1.trans s2;have r2':=(r2.from s1.toStp).vars vr2;have mv':(mutVs md (v::vs)).map (fun v=>some (some v))=(xA md (.nh a as)).map (fun j=>σ[j]?):=by rw[hroots,hmv];exact mv
   cases n with
   |true =>
    have hd:=r1.held;have hd2:=hd.step s2.toStp I2;refine k (v::vs) F2 H2 S2 ρ2 _ (fun b=>Z b∨W b) Y s12 I2 ⟨.new hmd (s2.toStp.keep r1.tr hd.nu) r2.av (fun b hb hw=>?_) fun b=>wf,fun b hb=>?_,r2'.tm,fun i sl e b hb=>?_⟩ mv' q2;rcases r2.fr b hw with q|q
    ·exact(hd.dom b hb).1 q
    exact hd.nu b hb q;rcases hb with hb|hb
    ·exact r1.fr rfl b hb
    exact r2'.fr b hb;rcases hb with hb|hb
    ·exact hd2.nw i sl e b hb
    exact r2.nw i sl e b hb
   |false =>
    have za:∀b,Z b->∃(i:Nat) (s:Sl),i∈vrs a/\ρ2[i]?=some (some s)/\S2 i b:=by
     cases hd:x.isD with
     |true =>
      intro b hb;exfalso;have tr:=r1.tr;cases x with
      |d x=>cases tr with|d r n=>exact n b hb
      |_=>cases hd
     |false=>obtain⟨e1,e2⟩:=hs hd;rw[e1,e2];exact r1.tm rfl
    refine k (v::vs) F2 H2 S2 ρ2 _ W (fun b=>Z b∨Y b) s12 I2 ⟨.tmp hmd (kp _ _ _ r1.tr) (fun b hb=>.inl hb) (r2.av.sub fun b hb=>.inr hb),r2'.fr,fun b hb=>?_,r2.nw⟩ mv' q2;rcases hb with hb|hb;obtain⟨i,sl,h1,h2⟩:=za b hb;exact⟨i,sl,Qf _ h1,h2⟩;exact r2'.tm b hb⟩
end
end
structure Sts(C J:List Nat)(F H:Hp)(S:Ft)(ρ:kA)(σ:St)(F' H':Hp)(S':Ft)(ρ':kA)(σ':St):Prop where
 ff:Same F F'
 hh:∀b u,H b=some u->¬ U ρ S b->H' b=some u
 dm:∀b,H' b=none->H b=none
 fn:∀b,F b=none->F' b≠none->U ρ S b∨H b=none
 uu:∀b,U ρ' S' b->U ρ S b∨H b=none
 bo:∀(j:Nat) t,j∉J->ρ'[j]?=some (some (.nk t))->t.isD=false->ρ[j]?=some (some (.nk t))/\S' j=S j/\σ'[j]?=σ[j]?
 sg:∀j∈C,σ'[j]?=σ[j]?
structure Stc(C:List Nat)(F H:Hp)(S:Ft)(ρ:kA)(σ:St)(F' H':Hp)(S':Ft)(ρ':kA)(σ':St):Prop where
 ff:Same F F'
 hh:∀b u,H b=some u->¬ U ρ S b->H' b=some u
 dm:∀b,H' b=none->H b=none
 fn:∀b,F b=none->F' b≠none->U ρ S b∨H b=none
 uu:∀b,U ρ' S' b->U ρ S b∨H b=none
 sg:∀j∈C,σ'[j]?=σ[j]?
section
variable{K:QA}{Γ:Ev}{Ψ:PEv}{E:XE}{EK:XK}{F H F1 H1 F2 H2:Hp}{S S1 S2:Ft}{ρ ρ1 ρ2:kA}{σ σ1 σ2:St}{C J:List Nat}
section
variable{t:T}{Z:AdP}{i:Nat}
theorem Stp.sts(s:Stp F H S ρ F1 H1 S1 ρ1):Sts C J F H S ρ σ F1 H1 S1 ρ1 σ:=⟨s.ff,s.hh,s.dm,s.fn,s.uu,fun j t _ e h=>let⟨h1,h2⟩:=s.bo j t e h;⟨h1,h2,rfl⟩,fun _ _=>rfl⟩
theorem Sts.refl:Sts C J F H S ρ σ F H S ρ σ:=Stp.refl.sts
theorem Sts.trans(a:Sts C J F H S ρ σ F1 H1 S1 ρ1 σ1)(b:Sts C [] F1 H1 S1 ρ1 σ1 F2 H2 S2 ρ2 σ2):Sts C J F H S ρ σ F2 H2 S2 ρ2 σ2 where
 ff:=a.ff.trans b.ff
 hh:=fun x u h n=>b.hh x u (a.hh x u h n) fun z=>by rcases a.uu x z with q|q;exact n q;rw[q]at h;cases h
 dm:=fun x h=>a.dm x (b.dm x h)
 fn:=fun x h z=>by
  by_cases q:F1 x=none;rcases b.fn x q z with w|w
  ·exact a.uu x w
  exact .inr (a.dm x w);exact a.fn x h q
 uu:=fun x h=>by rcases b.uu x h with w|w;exact a.uu x w;exact .inr (a.dm x w)
 bo:=fun j t hj h n=>by obtain⟨h1,h2,h3⟩:=b.bo j t (by simp) h n;obtain⟨h4,h5,h6⟩:=a.bo j t hj h1 n;exact⟨h4,h2.trans h5,h3.trans h6⟩
 sg:=fun j hj=>(b.sg j hj).trans (a.sg j hj)
theorem Sts.c(s:Sts C J F H S ρ σ F1 H1 S1 ρ1 σ1):Stc C F H S ρ σ F1 H1 S1 ρ1 σ1:=⟨s.ff,s.hh,s.dm,s.fn,s.uu,s.sg⟩
theorem Stc.trans(a:Stc C F H S ρ σ F1 H1 S1 ρ1 σ1)(b:Stc C F1 H1 S1 ρ1 σ1 F2 H2 S2 ρ2 σ2):Stc C F H S ρ σ F2 H2 S2 ρ2 σ2 where
 ff:=a.ff.trans b.ff
 hh:=fun x u h n=>b.hh x u (a.hh x u h n) fun z=>by rcases a.uu x z with q|q;exact n q;rw[q]at h;cases h
 dm:=fun x h=>a.dm x (b.dm x h)
 fn:=fun x h z=>by
  by_cases q:F1 x=none;rcases b.fn x q z with w|w
  ·exact a.uu x w
  exact .inr (a.dm x w);exact a.fn x h q
 uu:=fun x h=>by rcases b.uu x h with w|w;exact a.uu x w;exact .inr (a.dm x w)
 sg:=fun j hj=>(b.sg j hj).trans (a.sg j hj)
theorem XOk.fromS(h:XOk K F H S ρ E EK)(s:Sts C J F H S ρ σ F1 H1 S1 ρ1 σ1):XOk K F1 H1 S1 ρ1 E EK:=fun x dx F2 H2 S2 ρ2 s2 f r q =>
 h x dx F2 H2 (fun _ _=>False) [] ⟨s.ff.trans s2.ff,fun b u e n=>s2.hh b u (s.hh b u e n) (fun z=>(s.uu b z).elim n fun w=>(by rw[w]at e;cases e)),fun b e=>s.dm b (s2.dm b e),fun b e z=>by
  by_cases q:F1 b=none;rcases s2.fn b q z with w|w
  ·exact s.uu b w
  exact .inr (s.dm b w);exact s.fn b e q,fun b ⟨i,t,e,_⟩=>by simp at e,fun j t e=>by simp at e⟩ f r q
structure EndsOk(K:QA)(C:List Nat)(F H:Hp)(S:Ft)(ρ:kA)(σ:St)(Z:PEnds)(Dn:Ends):Prop where
 nx:∀F' H' S' ρ' σ',Sts C [] F H S ρ σ F' H' S' ρ' σ'->Rl K F' H' S' ρ' σ'->Z.nx ρ'->Dn.nx σ' H'
 rt:∀v t W F' H' S' ρ' σ',Stc C F H S ρ σ F' H' S' ρ' σ'->Rl K F' H' S' ρ' σ'->Tr K F' H' true v t W->Held F' H' S' ρ' W->(∀b,W b->H b=none∨U ρ S b)->Z.rt t ρ'->Dn.rt v H'
 bk:∀F' H' S' ρ' σ',Sts C [] F H S ρ σ F' H' S' ρ' σ'->Rl K F' H' S' ρ' σ'->Z.bk ρ'->Dn.bk σ' H'
 ct:∀F' H' S' ρ' σ',Sts C [] F H S ρ σ F' H' S' ρ' σ'->Rl K F' H' S' ρ' σ'->Z.ct ρ'->Dn.ct σ' H'
theorem frS(s:Sts C J F H S ρ σ F1 H1 S1 ρ1 σ1){W:AdP}(fr:∀b,W b->H1 b=none∨U ρ1 S1 b):∀b,W b->H b=none∨U ρ S b:=fun b hb=>by rcases fr b hb with q|q;exact .inl (s.dm b q);exact(s.uu b q).symm
theorem EndsOk.from{Z:PEnds}{Dn:Ends}(ok:EndsOk K C F H S ρ σ Z Dn)(s:Sts C [] F H S ρ σ F1 H1 S1 ρ1 σ1):EndsOk K C F1 H1 S1 ρ1 σ1 Z Dn :=
 ⟨fun F' H' S' ρ' σ' s' I q=>ok.nx F' H' S' ρ' σ' (s.trans s') I q,fun v t W F' H' S' ρ' σ' s' I r h fr q=>ok.rt v t W F' H' S' ρ' σ' (s.c.trans s') I r h (frS s fr) q,
  fun F' H' S' ρ' σ' s' I q=>ok.bk F' H' S' ρ' σ' (s.trans s') I q,fun F' H' S' ρ' σ' s' I q=>ok.ct F' H' S' ρ' σ' (s.trans s') I q⟩
theorem Sts.setD(s:Sts C J F H S ρ σ F1 H1 S1 ρ1 σ1)(i:Nat)(hi:i∉C)(v:V)(ht:t.isD=true)(Z:AdP):Sts C J F H S ρ σ F1 H1 (updF S1 i Z) (ρ1.set i (some (.nk t))) (σ1.set i (some v)) :=
 ⟨s.ff,s.hh,s.dm,s.fn,fun b ⟨j,u,h1,h2⟩=>by
  rcases vA h1 with⟨_,e,_⟩| ⟨n,h1⟩
  cases e;rw[pA (Qy n)]at h2;exact s.uu b ⟨j,u,h1,h2⟩,
 fun j u hj e hd=>by
  rcases vA e with⟨_,e,_⟩| ⟨n,e⟩
  injection e with e;injection e with e;subst e;rw[ht]at hd;cases hd;rw[pA (Qy n),set_ne n];exact s.bo j u hj e hd,
 fun j hj=>by have n:i≠j:=fun e=>hi (e▸hj);rw[set_ne n];exact s.sg j hj⟩
theorem Rl.setD(I:Rl K F H S ρ σ)(i:Nat){v:V}{x:D}(r:Rep K F v x):Rl K F H (updF S i fun _=>False) (ρ.set i (some (.nk (.d x)))) (σ.set i (some v)) :=
 I.setB i (.d r fun _ z=>z) fun _ _ _ _ _ z=>z.elim
theorem Rl.setN(I:Rl K F H S ρ σ)(i:Nat){v:V}(r:Tr K F H true v t Z)(hz:∀(j:Nat) s,j≠i->ρ[j]?=some (some s)->∀b,Z b->¬ S j b):Rl K F H (updF S i Z) (ρ.set i (some (.own t))) (σ.set i (some v)) where
 fh:=I.fh
 len:=by simpa using I.len
 sl:=fun j s h=>by
  rcases vA h with⟨rfl,e,hl⟩| ⟨hn,h⟩
  cases e;exact⟨v,set_get (by rw[<- I.len];exact hl),by rw[DA];exact r⟩;rw[set_ne hn,pA (Qy hn)];exact I.sl j s h
 dj:=fun j k t' s n h1 h2 b hb hk=>by
  rcases vA h1 with⟨e,_,_⟩| ⟨n1,h1⟩
  subst e;rw[DA]at hb;rcases vA h2 with⟨e,_,_⟩| ⟨n2,h2⟩
  exact n e;rw[pA (Qy n2)]at hk;exact hz k s (Qy n2) h2 b hb hk;rw[pA (Qy n1)]at hb;rcases vA h2 with⟨e,_,_⟩| ⟨n2,h2⟩
  subst e;rw[DA]at hk;exact hz j _ n h1 b hk hb;rw[pA (Qy n2)]at hk;exact I.dj j k t' s n h1 h2 b hb hk
theorem Sts.setN(s:Sts C J F H S ρ σ F1 H1 S1 ρ1 σ1)(i:Nat)(hi:i∉C)(v:V)(t:T)(fr:∀b,Z b->H b=none∨U ρ S b):Sts C J F H S ρ σ F1 H1 (updF S1 i Z) (ρ1.set i (some (.own t))) (σ1.set i (some v)) :=
 ⟨s.ff,s.hh,s.dm,s.fn,fun b ⟨j,u,h1,h2⟩=>by
  rcases vA h1 with⟨rfl,_,_⟩| ⟨n,h1⟩
  rw[DA]at h2;exact(fr b h2).symm;rw[pA (Qy n)]at h2;exact s.uu b ⟨j,u,h1,h2⟩,
 fun j u hj e hd=>by
  rcases vA e with⟨_,e,_⟩| ⟨n,e⟩
  cases e;rw[pA (Qy n),set_ne n];exact s.bo j u hj e hd,
 fun j hj=>by have n:i≠j:=fun e=>hi (e▸hj);rw[set_ne n];exact s.sg j hj⟩
theorem setAllT_D:∀(is:List Nat) (ds:List D) {ρ ρ':kA},setAllT is (ds.map T.d) ρ=some ρ'->∀(j:Nat) t,ρ'[j]?=some (some (.nk t))->t.isD=false->j∉is/\ρ[j]?=some (some (.nk t))
 |[],[],ρ,ρ',h,j,t,e,hd=>by simp only[wZ,setAllT,Ql]at h;subst h;exact⟨(by simp),e⟩
 |[],_::_,_,_,h,_,_,_,_=>by simp[setAllT]at h
 |_::_,[],_,_,h,_,_,_,_=>by simp[setAllT]at h
 |i::is,d::ds,ρ,ρ',h,j,t,e,hd=>by
  simp only[QN,setAllT]at h;obtain⟨h1,h2⟩:=setAllT_D is ds h j t e hd;rcases vA h2 with⟨_,q,_⟩| ⟨n,q⟩
  injection q with q;injection q with q;subst q;cases hd;exact⟨fun m=>(QK.mp m).elim (fun z=>n z.symm) h1,q⟩
theorem Rl.frz1(I:Rl K F H S ρ σ)(hi:ρ[i]?=some (some (.own t))):Rl K (frzH F H (S i)) H (updF S i fun _=>False) (ρ.set i (some (.nk (.d t.er)))) σ/\Sts C [] F H S ρ σ (frzH F H (S i)) H (updF S i fun _=>False) (ρ.set i (some (.nk (.d t.er)))) σ:=by
 obtain⟨v,hv,r⟩:=I.sl i _ hi;have ff:=frzH_ff (H:=H) fun b (hb:S i b)=>(r.dom b hb).2;have I0:Rl K F H S (ρ.set i none) σ:=I.drop (by simp) fun j s e=>by
  rcases vA e with⟨_,z,_⟩| ⟨_,e⟩
  cases z;exact e
 have hw:Held F H S (ρ.set i none) (S i):=⟨r.dom,fun j s e b hb z=>by
  rcases vA e with⟨_,q,_⟩| ⟨n,e⟩
  cases q;exact I.dj i j t s n hi e b hb z⟩
 have I1:=I0.frz hw;have kp:Rep K (frzH F H (S i)) v t.er:=Tr.kept ff r fun b u hb e=>by rw[frzH_in hb];exact e
 have I2:=I1.setD i kp;have e1:(ρ.set i none).set i (some (.nk (.d t.er)))=ρ.set i (some (.nk (.d t.er))):=by simp
 have e2:σ.set i (some v)=σ:=by apply wW;intro j;rw[wA];split;rename_i e;subst e;split;exact hv.symm;rename_i n;rw[qX (by omega)];rfl
 rw[e1,e2]at I2;refine⟨I2,⟨ff,fun b u e _=>e,fun b e=>e,fun b e z=>.inl ?_,fun b ⟨j,u,h1,h2⟩=>.inl ?_,fun j u _ e hd=>?_,fun _ _=>rfl⟩⟩;by_cases hb:S i b
 ·exact⟨i,t,hi,hb⟩
 rw[frzH_out hb]at z;exact absurd e z;rcases vA h1 with⟨_,q,_⟩| ⟨n,h1⟩
 ·cases q
 rw[pA (Qy n)]at h2;exact⟨j,u,h1,h2⟩;rcases vA e with⟨_,q,_⟩| ⟨n,e⟩
 ·injection q with q;injection q with q;subst q;cases hd
 exact⟨e,pA (Qy n),rfl⟩
theorem modify_at{f:Option Sl->Option Sl}:ρ.modify i f=match ρ[i]? with|some o=>ρ.set i (f o)|none=>ρ:=by
 apply wW;intro j;rw[Wg];cases h:ρ[i]? with
 |none=>simp only;by_cases e:i=j;subst e;simp[h];simp[e]
 |some o=>simp only;rw[wA];by_cases e:i=j;subst e;obtain⟨hl,rfl⟩:=QT.mp h;simp[hl];simp[e]
theorem set_self{α:Type}{l:List α}{o:α}(h:l[i]?=some o):l.set i o=l:=by apply wW;intro j;rw[wA];split;rename_i e;subst e;rw[if_pos (QT.mp h).1,h];rfl
theorem Rl.frzAt:∀(is:List Nat) {F:Hp}{S:Ft}{ρ:kA},Rl K F H S ρ σ->∃F' S',Rl K F' H S' (frzAt is ρ) σ/\Sts C [] F H S ρ σ F' H S' (frzAt is ρ) σ
 |[],F,S,ρ,I=>⟨F,S,I,.refl⟩
 |i::is,F,S,ρ,I=>by
  have one:∃F1 S1,Rl K F1 H S1 (ρ.modify i frzS) σ/\Sts C [] F H S ρ σ F1 H S1 (ρ.modify i frzS) σ:=by
   rw[modify_at];cases h:ρ[i]? with
   |none=>exact⟨F,S,I,.refl⟩
   |some o =>
    cases o with
    |none=>have e:ρ.set i (frzS none)=ρ:=set_self h;simp only[e];exact⟨F,S,I,.refl⟩
    |some sl =>
     cases sl with
     |nk t=>have e:ρ.set i (frzS (some (.nk t)))=ρ:=set_self h;simp only[e];exact⟨F,S,I,.refl⟩
     |own t=>exact⟨_,_,I.frz1 h⟩
  obtain⟨F1,S1,I1,s1⟩:=one;obtain⟨F2,S2,I2,s2⟩:=Rl.frzAt is I1;exact⟨F2,S2,I2,s1.trans s2⟩
end
end
def noSt(C:List Nat):PT->Bool
 | .seq s r=>noSt C s&&noSt C r
 | .set i _=>!C.contains i
 | .own i _=>!C.contains i
 | .ife _ a b=>noSt C a&&noSt C b
 | .for_ tg _ _ body=>tg.ix.all (fun i=>!C.contains i)&&noSt C body
 | .nil=>true
 | .expr _=>true
 | .ret _=>true
 | .tset is _=>is.all fun i=>!C.contains i
 | .six _ _ _=>true
 | .sdf _ _=>true
 | .whl _ body=>noSt C body
 | .frz _ s=>noSt C s
 | .hs s=>noSt C s
section
variable{K:QA}{Γ:Ev}{F H:Hp}{S:Ft}{ρ:kA}{σ:St}{C:List Nat}
section
variable{ts:List T}{Z:AdP}{i:Nat}{σ':St}{x:Str}{c:List Str}{b:Addr}{EK:XK}
theorem Trs.part2{vs:List V}{t:T}(h:Trs K F H true vs ts Z)(e:ts[i]?=some t):∃v S1,vs[i]?=some v/\Tr K F H true v t S1/\(∀b,S1 b->Z b) /\
  ∀(H':Hp) t' S1',(∀b,Z b->¬ S1 b->H' b=H b)->Tr K F H' true v t' S1'->(∀b,S1' b->S1 b∨H b=none)->∃P,Trs K F H' true vs (ts.set i t') P/\∀b,P b->Z b∨H b=none:=by
 revert i;refine Trs.ind (R:=fun st vs ts Z=>∀{i:Nat},ts[i]?=some t->∃v S1,vs[i]?=some v/\Tr K F H st v t S1/\(∀b,S1 b->Z b)/\∀(H':Hp) t' S1',(∀b,Z b->¬ S1 b->H' b=H b)->Tr K F H' st v t' S1'->(∀b,S1' b->S1 b∨H b=none)->∃P,Trs K F H' st vs (ts.set i t') P/\∀b,P b->Z b∨H b=none) (fun n i e=>by cases e) (fun {_ _ _ _ _ _ P1 P2} h t n q ih i e=>?_) h;cases i with
 |zero=>cases e;exact⟨_,P1,rfl,h,fun b hb=>(q b).mpr (.inl hb),fun H' t' S1' k r k2=>⟨fun b=>S1' b∨P2 b,.cons r (t.mono (.refl _) fun b hb=>⟨k b ((q b).mpr (.inr hb)) fun z=>n b z hb,(t.dom b hb).2⟩) (fun b hb z=>(k2 b hb).elim (fun y=>n b y z) fun y=>(t.dom b z).1 y) fun b=>wf,fun b hb=>hb.elim (fun y=>(k2 b y).imp (fun y=>(q b).mpr (.inl y)) id) fun y=>.inl ((q b).mpr (.inr y))⟩⟩
 |succ i=>obtain⟨v,S1,h1,h2,h3,h4⟩:=ih (i:=i) e;refine⟨v,S1,h1,h2,fun b hb=>(q b).mpr (.inr (h3 b hb)),fun H' t' S1' k r k2=>?_⟩;obtain⟨P,g1,g2⟩:=h4 H' t' S1' (fun b hb hn=>k b ((q b).mpr (.inr hb)) hn) r k2;exact⟨fun b=>P1 b∨P b,.cons (h.mono (.refl _) fun b hb=>⟨k b ((q b).mpr (.inl hb)) fun z=>n b hb (h3 b z),(h.dom b hb).2⟩) g1 (fun b hb z=>(g2 b z).elim (n b hb) (h.dom b hb).1) fun b=>wf,fun b hb=>hb.elim (fun y=>.inl ((q b).mpr (.inl y))) fun y=>(g2 b y).imp (fun y=>(q b).mpr (.inr y)) id⟩
theorem tup_put{v:V}{us:List T}{k:Nat}(r:Tr K F H true v (.tup us) Z)(e:us[k]?=some (.lst ts)):∃a ws b vs S1,v=.ref a/\H a=some (.tup ws)/\ws[k]?=some (.ref b)/\H b=some (.lst vs)/\Trs K F H true vs ts S1/\Z b/\(∀c,S1 c->Z c)/\¬ S1 b /\
  ∀(H':Hp) vs' ts' S1',(∀c,Z c->¬ S1 c->c≠b->H' c=H c)->H' b=some (.lst vs')->Trs K F H' true vs' ts' S1'->(∀c,S1' c->S1 c∨H c=none)->∃P,Tr K F H' true v (.tup (us.set k (.lst ts'))) P/\∀c,P c->Z c∨H c=none:=by
 cases r with
 |@tup _ a ws _ _ S' h1 h2 h3 h4 h5 =>
  obtain⟨w,S1,g1,g2,g3,g4⟩:=h3.part2 e;cases g2 with
  |@lst _ b vs _ _ S2 f1 f2 f3 f4 f5 =>
   have sb:S' b:=g3 b ((f5 b).mpr (.inl rfl));have s2:∀c,S2 c->S' c:=fun c hc=>g3 c ((f5 c).mpr (.inr hc));refine⟨a,ws,b,vs,S2,rfl,h1,g1,f1,f3,(h5 b).mpr (.inr sb),fun c hc=>(h5 c).mpr (.inr (s2 c hc)),f4,fun H' vs' ts' S1' k1 k2 k3 k4=>?_⟩;have nb:¬ S1' b:=fun z=>(k4 b z).elim f4 fun e=>by rw[f1]at e;cases e
   obtain⟨P,p1,p2⟩:=g4 H' (.lst ts') (fun c=>c=b∨S1' c) (fun c hc hn=>k1 c ((h5 c).mpr (.inr hc)) (fun z=>hn ((f5 c).mpr (.inr z))) fun z=>hn ((f5 c).mpr (.inl z))) (.lst k2 f2 k3 nb fun c=>wf) fun c hc=>hc.elim (fun e=>.inl ((f5 c).mpr (.inl e))) fun z=>(k4 c z).imp (fun z=>(f5 c).mpr (.inr z)) id;have ka:=k1 a ((h5 a).mpr (.inl rfl)) (fun z=>h4 (s2 a z)) fun z=>h4 (z▸sb);exact⟨fun c=>c=a∨P c,.tup (ka.trans h1) h2 p1 (fun z=>(p2 a z).elim h4 fun e=>by rw[h1]at e;cases e) fun c=>wf,fun c hc=>hc.elim (fun e=>.inl ((h5 c).mpr (.inl e))) fun z=>(p2 c z).imp (fun z=>(h5 c).mpr (.inr z)) id⟩
theorem root_put{j:Nat}{t t':T}{v0:V}{H3:Hp}{Z':AdP}(I:Rl K F H S ρ σ)(hj:ρ[j]?=some (some (.own t)))(hv:σ[j]?=some (some v0))(hH:∀b u,H b=some u->¬ S j b->H3 b=some u)(dm:∀b,H3 b=none->H b=none)(r:Tr K F H3 true v0 t' Z')(hz:∀b,Z' b->S j b∨H b=none) :
  Ste F H S ρ F H3 (updF S j Z') (ρ.set j (some (.own t')))/\Rl K F H3 (updF S j Z') (ρ.set j (some (.own t'))) σ:=by
 obtain⟨a,b,_⟩:=put_root (W:=fun _=>False) I hj hv .refl (I.lock1 hj) hH dm r (fun b hb=>(hz b hb).imp id .inr) .none fun _ z=>z.elim;have es:(ρ.set j (some (.nk t))).set j (some (.own t'))=ρ.set j (some (.own t')):=by simp
 rw[es]at a b;exact⟨a,b⟩
theorem Rl.off(I:Rl K F H S ρ σ)(hl:σ'.length=σ.length)(e:∀k,k≠i->σ'[k]?=σ[k]?):Rl K F H S (ρ.set i none) σ' where
 fh:=I.fh
 len:=by rw[qI,I.len,hl]
 sl:=fun k s h=>by obtain⟨n,h⟩:=off_get h;rw[e k n];exact I.sl k s h
 dj:=fun k l t s n h1 h2=>I.dj k l t s n (off_get h1).2 (off_get h2).2
theorem Stp.off{F1 H1:Hp}{S1:Ft}{ρ1:kA}(s:Stp F H S ρ F1 H1 S1 ρ1)(hi:i∉C)(e:∀k,k≠i->σ'[k]?=σ[k]?):Sts C [] F H S ρ σ F1 H1 S1 (ρ1.set i none) σ' :=
 ⟨s.ff,s.hh,s.dm,s.fn,fun b ⟨k,t,h,hb⟩=>s.uu b ⟨k,t,(off_get h).2,hb⟩,fun k t _ h hd=>by obtain⟨n,h⟩:=off_get h;obtain⟨h1,h2⟩:=s.bo k t h hd;exact⟨h1,h2,e k n⟩,fun k hk=>e k fun z=>hi (z▸hk)⟩
def appd(x:Str)(ls:List (List Str))(n:Nat):List T:=(ls.take n).map (fun c=>lsT (c++[x]))++(ls.drop n).map lsT
theorem appd_at{ls:List (List Str)}{n:Nat}(h:ls[n]?=some c):(appd x ls n)[n]?=some (lsT c)/\(appd x ls n).set n (lsT (c++[x]))=appd x ls (n+1):=by
 obtain⟨hn,e⟩:=QT.mp h;have hl:((ls.take n).map fun c=>lsT (c++[x])).length=n:=by rw[QG,WB];omega
 have hd:ls.drop n=c::ls.drop (n+1):=by rw[WA hn,e]
 unfold appd;rw[hd];constructor;rw[Qk (by omega),hl,Wa];rfl;rw[List.set_append_right _ _ (by omega),hl,Wa,QN,QAy,List.take_add_one,h,Qc,qj];rfl
theorem ls_new{H':Hp}(h:H' b=some (.lst (c.map V.str)))(f:F b=none):Tr K F H' true (.ref b) (lsT c) fun y=>y=b :=
 .lst h f (Trs.of_reps (strs_reps c)) (fun z=>z) fun y=>⟨.inl,fun z=>z.elim id QW⟩
theorem app_body{D:Ends}{xs:List V}(h:σ[i]?=some (some (.ref b)))(g:H b=some (.lst xs))(l:xs.length<sizeLine)(q:D.nx σ (JA H b (.lst (xs++[.str x])))):wps K Γ EK (.seq (.expr (.mt .append (.var i) (.nh (.str x) .nj))) .nil) D σ H:=by show(match σ[i]? with|some (some v)=>tyV K "list" v H/\rAppend v [.str x] H fun _ H3=>D.nx σ H3|_=>False);rw[h];exact⟨.inl ⟨rfl,_,SqL.of g⟩,b,xs,_,rfl,rfl,g,l,q⟩
theorem hs_ok(s:PT){Dn:Ends}{N:kA->Prop}(c:noSt C s=true)(I:Rl K F H S ρ σ)(h:hsP s N ρ)(k:∀F' H' S' ρ' σ',Sts C [] F H S ρ σ F' H' S' ρ' σ'->Rl K F' H' S' ρ' σ'->N ρ'->Dn.nx σ' H'):wps K Γ EK s Dn σ H:=by
 rcases h with⟨j,i,x,us,ls,rfl,ne,il,hj,hu,hc,q⟩| ⟨j,m,e,x,t,us,ts,rfl,he,hj,hu,hl,q⟩
 have hi:i∉C:=fun z=>by
  have c1:=(yA c).1;have:(!C.contains i)=true:=by simpa[Tg.ix]using c1
  rw[Qo.mpr z]at this;cases this
 obtain⟨v,hv,r⟩:=I.sl j _ hj;obtain⟨a,ws,b,vs,S1,rfl,ha,hw,hb,h3,zb,sub,nb,put⟩:=tup_put (show Tr K F H true v (.tup us) (S j) from r) hu;show(match σ[j]? with|some (some v)=>rIxU K v (.int 0) H fun x H1=>itemsR K .val [x] H1 fun xs st H2=>ForB K xs st (.nm i) _ Dn σ H2|_=>False);rw[hv];refine⟨ws,.ref b,.inr (SqT.of ha),at_nat (k:=0) hw,.inl ⟨vs,SqL.of hb,?_⟩⟩;intro J Y;have vl:vs.length=ls.length:=by rw[h3.length,QG]
 have len1:(vs.map Item.one).length=ls.length:=by rw[QG,vl]
 refine⟨fun n m σ' H'=>n<=ls.length/\m=ls.length - n/\σ'.length=σ.length/\(∀k,k≠i->σ'[k]?=σ[k]?)/\(∀c,¬ S1 c->H' c=H c)/\(∀c,H' c=none->H c=none)/\∃P,Trs K F H' true vs (appd x ls n) P/\∀c,P c->S1 c,⟨_,Q5 _,rfl,rfl,fun _ _=>rfl,fun _ _=>rfl,fun _ z=>z,S1,by simpa[appd]using h3,fun _ z=>z⟩,?_⟩;rintro n m σ' H' ⟨nl,rfl,sl,se,hh,hd,P,tr,ps⟩;have st:SqL K H' b vs:=SqL.of ((hh b nb).trans hb);by_cases e:n=ls.length;subst e;refine .inl ⟨Y.stop _ H' st (by rw[len1];exact QR _),?_⟩;obtain⟨P2,p1,p2⟩:=put H' vs _ P (fun c _ hn _=>hh c hn) ((hh b nb).trans hb) tr fun c hc=>.inl (ps c hc);obtain⟨st2,I2⟩:=root_put I hj hv (fun c u e n=>by rw[hh c fun z=>n (sub c z)];exact e) hd p1 p2;refine k F H' _ _ σ' (st2.toStp.off hi se) (I2.off sl se) ?_;have:appd x ls ls.length=ls.map fun c=>lsT (c++[x]):=by unfold appd;rw[QBh,QBi,wZ,wC]
 rw[this];exact q;have hn:n<ls.length:=by omega
 refine .inr ⟨Y.go n H' st (by rw[len1];exact hn),fun σ2 H2=>∃m',m' < ls.length - n/\_,fun _ _ z=>z,fun y H2 hy=>?_⟩;obtain⟨it,h1,h2⟩:=Y.yld n H' y H2 st (by rw[len1];exact hn) hy;obtain⟨c,hcn⟩:∃c,ls[n]?=some c:=⟨_,qp hn⟩
 obtain⟨a1,a2⟩:=appd_at (x:=x) hcn;obtain⟨v1,S2,g1,g2,g3,g4⟩:=tr.part a1;obtain⟨b1,rfl,g5,g6,g7⟩:=ls_at g2;rw[QY,g1]at h1;cases h1;obtain⟨hy1,hy2⟩:=h2;rw[hy1,hy2];have hi2:i<σ'.length:=by rw[sl,<- I.len];exact il
 have cl:=hc c (qF hcn);show wps K Γ EK _ _ (σ'.set i (some (.ref b1))) H';refine app_body (set_get hi2) g5 (by rw[QG];exact cl) ?_;have eb:c.map V.str++[.str x]=(c++[x]).map V.str:=by rw[Qc];rfl
 rw[eb];obtain⟨P',t1,t2⟩:=g4 (JA H' b1 (.lst ((c++[x]).map V.str))) (lsT (c++[x])) (fun y=>y=b1) (fun y _ hn=>zA fun z=>hn (z▸g7)) (ls_new gA g6) fun y hy=>hy▸g7;rw[a2]at t1;have s1:S1 b1:=ps b1 (g3 b1 g7);refine⟨ls.length - (n+1),by omega,hn,rfl,by rw[qI];exact sl,fun k hk=>by rw[set_ne (Qy hk)];exact se k hk,fun c hc=>(zA fun z=>hc (by rw[z];exact s1)).trans (hh c hc),fun c hc=>hd c (upd_none c hc),P',t1,fun c hc=>ps c (t2 c hc)⟩;obtain⟨v,hv,r⟩:=I.sl j _ hj;obtain⟨a,ws,b,vs,S1,rfl,ha,hw,hb,h3,zb,sub,nb,put⟩:=tup_put (show Tr K F H true v (.tup us) (S j) from r) hu;have vl:vs.length<sizeLine:=by rw[h3.length];exact hl
 show(match σ[j]? with|some (some v)=>rIxU K v (.int (m:Int)) H fun x H1=>tyV K "list" x H1/\(wp K Γ (.nh e .nj) EK).a σ H1 fun vs H2=>rAppend x vs H2 fun _ H3=>Dn.nx σ H3|_=>False);rw[hv];refine⟨ws,.ref b,.inr (SqT.of ha),at_nat hw,.inl ⟨rfl,_,SqL.of hb⟩,?_⟩;rcases he with⟨rfl,rfl⟩| ⟨rfl,rfl⟩
 refine⟨b,vs,.str x,rfl,rfl,hb,vl,?_⟩;have t1:Trs K F (JA H b (.lst (vs++[.str x]))) true (vs++[.str x]) (ts++[.d (.str x)]) S1:=by
  have t0:=h3.mono (F':=F) (H':=JA H b (.lst (vs++[.str x]))) (.refl _) fun c hc=>⟨zA fun z=>nb (by rw[<- z];exact hc),(h3.dom c hc).2⟩
  have t2:=Trs.append t0 (Trs.one (Tr.d (S:=fun _=>False) (.str x) fun _ z=>z)) fun _ _ z=>z;have:(fun b=>S1 b∨False)=S1:=funext fun b=>propext ⟨fun z=>z.elim id QW,.inl⟩;rw[this]at t2;exact t2
 obtain⟨P2,p1,p2⟩:=put _ _ _ S1 (fun c _ _ hb=>zA hb) gA t1 fun c hc=>.inl hc;obtain⟨st2,I2⟩:=root_put I hj hv (fun c u e n=>(zA fun z=>n (by rw[z];exact zb)).trans e) (fun c=>upd_none c) p1 p2;exact k _ _ _ _ _ st2.toStp.sts I2 q;refine⟨by show 1<=sizeLine;rw[QZ];decide,fun p hp=>?_⟩;have pb:b≠p:=fun z=>by rw[z,hp]at hb;cases hb
 refine⟨b,vs,.ref p,rfl,rfl,by rw[zA pb];exact hb,vl,?_⟩;have np:¬ S1 p:=fun z=>(h3.dom p z).1 hp;have up:JA (JA H p (.lst [.str x])) b (.lst (vs++[.ref p])) p=some (.lst [.str x]):=by rw[zA (Qy pb),gA]
 have t1:Trs K F (JA (JA H p (.lst [.str x])) b (.lst (vs++[.ref p]))) true (vs++[.ref p]) (ts++[lsT [x]]) (fun c=>S1 c∨c=p):=by
  have t0:=h3.mono (F':=F) (H':=JA (JA H p (.lst [.str x])) b (.lst (vs++[.ref p]))) (.refl _) fun c hc=>⟨(zA fun z=>nb (by rw[<- z];exact hc)).trans (zA fun z=>np (by rw[<- z];exact hc)),(h3.dom c hc).2⟩
  exact Trs.append t0 (Trs.one (ls_new (c:=[x]) up (I.fh.free hp))) fun c hc (z:c=p)=>np (z▸hc)
 obtain⟨P2,p1,p2⟩:=put _ _ _ _ (fun c zc _ hb=>(zA hb).trans (zA fun z=>by rw[z]at zc;exact(I.dom hj zc).1 hp)) gA t1 fun c hc=>hc.imp id fun(z:c=p)=>by rw[z];exact hp
 obtain⟨st2,I2⟩:=root_put I hj hv (fun c u e n=>(zA fun z=>n (by rw[z];exact zb)).trans ((zA fun z=>by rw[z,hp]at e;cases e).trans e)) (fun c e=>upd_none c (upd_none c e)) p1 p2;exact k _ _ _ _ _ st2.toStp.sts I2 q
end
end
section
variable{K:QA}{Γ:Ev}{Ψ:PEv}{E:XE}{EK:XK}{F H F1 H1 F2 H2:Hp}{S S1 S2:Ft}{ρ ρ1 ρ2:kA}{σ σ1 σ2:St}{C J:List Nat}
theorem Sts.bind{L:List Nat}(s:Sts C J F H S ρ σ F1 H1 S1 ρ1 σ1)(b:Bd L F1 H1 S1 ρ1 σ1 F2 H2 S2 ρ2 σ2)(hL:∀j∈L,j∈J)(hC:∀j∈L,j∉C):Sts C J F H S ρ σ F2 H2 S2 ρ2 σ2 :=
 ⟨s.ff.trans b.ff,fun x u e n=>b.hh x u (s.hh x u e n),fun x e=>s.dm x (b.dm x e),fun x e z=>by
  by_cases q:F1 x=none;exact .inr (s.dm x (b.fn x q z));exact s.fn x e q,fun x u=>s.uu x (b.U u),fun j t hj e hd=>by
  obtain⟨e1,e2,e3⟩:=b.out j fun z=>hj (hL j z);rw[e1]at e;obtain⟨g1,g2,g3⟩:=s.bo j t hj e hd;exact⟨g1,e2.trans g2,e3.trans g3⟩,fun j hj=>(b.out j fun z=>hC j z hj).2.2.trans (s.sg j hj)⟩
theorem for_okT{tg:Tg}{body:PEnds->kA->Prop}{tb:TS}{Z:PEnds}{Dn:Ends}{xs:List Item}{ys:List T}{st:Hp->Prop}{Y:AdP}
  (ib:∀{F H:Hp}{S:Ft}{ρ:kA}{σ:St}{Z:PEnds}{Dn:Ends},Rl K F H S ρ σ->XOk K F H S ρ E EK->body Z ρ->EndsOk K C F H S ρ σ Z Dn->tb Dn σ H)
  (I:Rl K F H S ρ σ) (X:XOk K F H S ρ E EK) (hC:∀j∈tg.ix,j∉C) (pr:Paired (ItV K F H Y) xs ys) (hy:∀b,Y b->¬ U ρ S b/\H b≠none/\F b=none) (hst:∀F' H',Same F F'->Same F' H'->(∀b,Y b->H' b=H b)->st H') (h:forV body tg Z ys ρ)
  (onx:∀F' H' S' ρ' σ',Sts C tg.ix F H S ρ σ F' H' S' ρ' σ'->Rl K F' H' S' ρ' σ'->Z.nx ρ'->Dn.nx σ' H')
  (ort:∀v t W F' H' S' ρ' σ',Stc C F H S ρ σ F' H' S' ρ' σ'->Rl K F' H' S' ρ' σ'->Tr K F' H' true v t W->Held F' H' S' ρ' W->(∀b,W b->H b=none∨U ρ S b)->Z.rt t ρ'->Dn.rt v H'):ForB K xs st tg tb Dn σ H:=by
 intro J hJ;have len:=qJ pr;have yk:∀{F1 H1:Hp}{S1:Ft}{ρ1:kA}{σ1:St},Sts C tg.ix F H S ρ σ F1 H1 S1 ρ1 σ1->∀b,Y b->H1 b=H b/\F1 b=none:=fun {F1 H1 S1 ρ1 σ1} s b hb=>by
  obtain⟨n,d1,d2⟩:=hy b hb;refine⟨?_,?_⟩;cases e:H b with
  |none=>exact absurd e d1
  |some u=>exact s.hh b u e n
  by_cases q:F1 b=none
  ·exact q
  exact((s.fn b d2 q).elim n d1).elim
 refine⟨fun i m σ' H'=>i<=xs.length/\m=xs.length - i/\∃ρ' F' S',Sts C tg.ix F H S ρ σ F' H' S' ρ' σ'/\Rl K F' H' S' ρ' σ'/\forV body tg Z (ys.drop i) ρ',⟨_,Q5 _,rfl,ρ,F,S,.refl,I,by simpa using h⟩,?_⟩;rintro i m σ1 H1 ⟨hi,rfl,ρ1,F1,S1,s1,I1,h1⟩;have hs:=hst F1 H1 s1.ff I1.fh fun b hb=>(yk s1 b hb).1;rcases QAb i xs.length with hlt|hge;refine .inr ⟨hJ.go i H1 hs hlt,fun σ' H'=>i+1<=xs.length/\∃ρ' F' S',Sts C tg.ix F H S ρ σ F' H' S' ρ' σ'/\Rl K F' H' S' ρ' σ'/\forV body tg Z (ys.drop (i+1)) ρ',fun σ' H' ⟨a,b⟩=>⟨_,by omega,a,rfl,b⟩,fun x H2 hyl=>?_⟩;obtain⟨it,hx,hm⟩:=hJ.yld i H1 x H2 hs hlt hyl;obtain⟨y,hd,ry⟩:=Paired.get_of pr hx;rw[hd]at h1;unfold forV at h1;have key:L3.bindI K tg it σ1 H1 fun σ2 H2=>tb { Dn with nx:=fun σ' H'=>i+1<=xs.length/\∃ρ' F' S',Sts C tg.ix F H S ρ σ F' H' S' ρ' σ'/\Rl K F' H' S' ρ' σ'/\forV body tg Z (ys.drop (i+1)) ρ',ct:=fun σ' H'=>i+1<=xs.length/\∃ρ' F' S',Sts C tg.ix F H S ρ σ F' H' S' ρ' σ'/\Rl K F' H' S' ρ' σ'/\forV body tg Z (ys.drop (i+1)) ρ',bk:=Dn.nx } σ2 H2:=by
  refine bind_okT I1 (fun b hb u=>?_) (ry.mono s1.ff (yk s1)) h1 fun ρ2 σ2 F2 H3 S2 bd I2 h2=>?_;rcases s1.uu b u with q|q
  ·exact(hy b hb).1 q
  exact(hy b hb).2.1 q;have s2:=s1.bind bd (fun j hj=>hj) hC;exact ib I2 (X.fromS s2) h2 ⟨fun F' H' S' ρ' σ' s' I' q=>⟨hlt,ρ',F',S',s2.trans s',I',q⟩,fun v t W F' H' S' ρ' σ' s' I' r hw fr q=>ort v t W F' H' S' ρ' σ' (s2.c.trans s') I' r hw (frS s2 fr) q,
   fun F' H' S' ρ' σ' s' I' q=>onx F' H' S' ρ' σ' (s2.trans s') I' q,fun F' H' S' ρ' σ' s' I' q=>⟨hlt,ρ',F',S',s2.trans s',I',q⟩⟩
 exact bindI_step hm key;have e:ys.drop i=[]:=WP (by omega);rw[e]at h1;exact .inl ⟨hJ.stop i H1 hs hge,onx F1 H1 S1 ρ1 σ1 s1 I1 h1⟩
theorem kill_get:∀(J:List Nat) (ρ:kA) (i:Nat) s,(kill J ρ)[i]?=some (some s)->ρ[i]?=some (some s)/\(i∈J->∀t,s=.nk t->t.isD=true)
 |[],ρ,i,s,h=>⟨h,fun z=>by simp at z⟩
 |j::J,ρ,i,s,h=>by
  unfold kill at h;obtain⟨h1,h2⟩:=kill_get J _ i s h;rw[Wg]at h1;by_cases e:j=i;subst e;simp only[reduceIte]at h1;cases q:ρ[j]? with
  |none=>rw[q]at h1;cases h1
  |some o =>
   rw[q]at h1;have h1:killS o=some s:=by simpa using h1
   cases o with
   |none=>cases h1
   |some sl =>
    cases sl with
    |own t=>cases h1;exact⟨rfl,fun _ t' z=>by cases z⟩
    |nk t =>
     have h1:(if t.isD=true then some (Sl.nk t) else none)=some s:=h1;cases hd:t.isD with
     |true=>rw[hd,if_pos rfl]at h1;cases h1;exact⟨rfl,fun _ t' z=>by cases z;exact hd⟩
     |false=>rw[hd]at h1;simp at h1
  simp only[e,if_false]at h1;refine⟨by simpa using h1,fun m=>h2 ((QK.mp m).elim (fun z=>absurd z.symm e) id)⟩
theorem kill_len:∀(J:List Nat) (ρ:kA),(kill J ρ).length=ρ.length
 |[],_=>rfl
 |j::J,ρ=>by unfold kill;rw[kill_len J];simp
theorem Sts.kill(s:Sts C J F H S ρ σ F1 H1 S1 ρ1 σ1):Sts C [] F H S ρ σ F1 H1 S1 (L3.kill J ρ1) σ1 :=
 ⟨s.ff,s.hh,s.dm,s.fn,fun b ⟨i,t,h1,h2⟩=>s.uu b ⟨i,t,(kill_get J ρ1 i _ h1).1,h2⟩,fun j t _ e hd=>by obtain⟨h1,h2⟩:=kill_get J ρ1 j _ e;by_cases hj:j∈J;rw[h2 hj t rfl]at hd;cases hd;exact s.bo j t hj h1 hd,s.sg⟩
theorem lock_get:∀(L:List Nat) (ρ:kA) (j:Nat),(lock L ρ)[j]?=if j∈L then ρ[j]?.map lockS else ρ[j]?
 |[],ρ,j=>by simp[lock]
 |i::L,ρ,j=>by
  have l2:∀o,lockS (lockS o)=lockS o:=fun o=>by
   match o with
   |none=>rfl
   |some (.own _)=>rfl
   |some (.nk _)=>rfl
  unfold lock;rw[lock_get L,Wg];by_cases e:i=j;subst e;cases h:ρ[i]? with
  |none=>simp
  |some o=>simp[l2]
  have e':¬ j=i:=fun z=>e z.symm;simp[e,e']
theorem lock_len:∀(L:List Nat) (ρ:kA),(lock L ρ).length=ρ.length
 |[],_=>rfl
 |i::L,ρ=>by unfold lock;rw[lock_len L];simp
theorem unlock_get:∀(L:List Nat) (ρ0 ρ:kA) (j:Nat),(∀i∈L,i<ρ.length)->(unlockF L ρ0 ρ)[j]?=if j∈L then some (ρ0[j]?.getD none) else ρ[j]?
 |[],ρ0,ρ,j,_=>by simp[unlockF]
 |i::L,ρ0,ρ,j,h=>by unfold unlockF;rw[unlock_get L ρ0 _ j (fun k hk=>by simpa using h k (QE _ hk)),wA];by_cases e:i=j;subst e;simp[h i QF];have e':¬ j=i:=fun z=>e z.symm;simp[e,e']
theorem unlock_len:∀(L:List Nat) (ρ0 ρ:kA),(unlockF L ρ0 ρ).length=ρ.length
 |[],_,_=>rfl
 |i::L,ρ0,ρ=>by unfold unlockF;rw[unlock_len L];simp
theorem ownsIn_own{ρ:kA}:∀(is:List Nat),∀i∈ownsIn ρ is,∃t,ρ[i]?=some (some (.own t))
 |[],i,h=>by simp[ownsIn]at h
 |j::is,i,h=>by
  unfold ownsIn at h;split at h
  ·rename_i ho
   rcases QK.mp h with e|e
   ·subst e
    unfold ownO at ho;split at ho;rename_i t e;exact⟨t,e⟩
    all_goals cases ho
   exact ownsIn_own is i e
  exact ownsIn_own is i h
theorem ownsIn_mem{ρ:kA}{i:Nat}{t:T}(h:ρ[i]?=some (some (.own t))):∀(is:List Nat),i∈is->i∈ownsIn ρ is
 |[],hi=>by simp at hi
 |j::is,hi=>by
  unfold ownsIn;rcases QK.mp hi with e|e;subst e;have:ownO ρ[i]?=true:=by rw[h];rfl
  rw[if_pos this];exact QF;have:=ownsIn_mem h is e;split;exact QE _ this;exact this
section
variable{L:List Nat}(hL:∀i∈L,∃t,ρ[i]?=some (some (.own t)))
include hL
theorem lockL{i:Nat}{s:Sl}(h:(lock L ρ)[i]?=some (some s)):(i∈L/\∃t,ρ[i]?=some (some (.own t))/\s=.nk t)∨(i∉L/\ρ[i]?=some (some s)):=by rw[lock_get]at h;by_cases hi:i∈L;rw[if_pos hi]at h;obtain⟨t,e⟩:=hL i hi;rw[e]at h;injection h with h;injection h with h;exact .inl ⟨hi,t,e,h.symm⟩;rw[if_neg hi]at h;exact .inr ⟨hi,h⟩
theorem lockLU{b:Addr}(h:U (lock L ρ) S b):U ρ S b:=by
 obtain⟨i,t,h1,h2⟩:=h;rcases lockL hL h1 with⟨_,t',_,e⟩| ⟨_,h1⟩
 cases e;exact⟨i,t,h1,h2⟩
theorem Rl.lock(I:Rl K F H S ρ σ):Rl K F H S (L3.lock L ρ) σ where
 fh:=I.fh
 len:=by rw[lock_len];exact I.len
 sl:=fun i s e=>by
  rcases lockL hL e with⟨_,t,h,rfl⟩| ⟨_,h⟩
  obtain⟨v,h1,h2⟩:=I.sl i _ h;exact⟨v,h1,h2.weak⟩;exact I.sl i s h
 dj:=fun i j t s n e1 e2=>by
  rcases lockL hL e1 with⟨_,_,_,z⟩| ⟨_,h1⟩
  cases z;rcases lockL hL e2 with⟨_,t',h2,_⟩| ⟨_,h2⟩
  ·exact I.dj i j t _ n h1 h2
  exact I.dj i j t s n h1 h2
theorem Rl.lockU(I:Rl K F H S ρ σ){i:Nat}(hi:i∈L){b:Addr}(hb:S i b):¬ U (L3.lock L ρ) S b:=fun⟨j,t,h1,h2⟩=>by
 obtain⟨t',e⟩:=hL i hi;rcases lockL hL h1 with⟨_,_,_,z⟩| ⟨hj,h1⟩
 cases z;exact I.dj j i t _ (fun z=>hj (z▸hi)) h1 e b h2 hb
theorem unlock_ok(I:Rl K F H S ρ σ)(s:Sts C [] F H S (lock L ρ) σ F1 H1 S1 ρ1 σ1)(I1:Rl K F1 H1 S1 ρ1 σ1)(hl:∀i∈L,ρ1[i]?=ρ[i]?.map lockS) :
  ∃S2,Rl K F1 H1 S2 (unlockF L ρ ρ1) σ1/\Sts C [] F H S ρ σ F1 H1 S2 (unlockF L ρ ρ1) σ1:=by
 classical
 have l1:∀i∈L,∃t,ρ[i]?=some (some (.own t))/\ρ1[i]?=some (some (.nk t)):=fun i hi=>by obtain⟨t,e⟩:=hL i hi;have:=hl i hi;rw[e]at this;exact⟨t,e,this⟩
 have hlt:∀i∈L,i<ρ1.length:=fun i hi=>by obtain⟨t,_,e⟩:=l1 i hi;exact(QT.mp e).1
 let S2:Ft:=fun i=>if i∈L then S i else S1 i
 have s2i:∀i∈L,S2 i=S i:=fun i hi=>if_pos hi;have s2o:∀i,i∉L->S2 i=S1 i:=fun i hi=>if_neg hi;have get:∀i sl,(unlockF L ρ ρ1)[i]?=some (some sl)->(i∈L/\∃t,ρ[i]?=some (some (.own t))/\ρ1[i]?=some (some (.nk t))/\sl=.own t)∨(i∉L/\ρ1[i]?=some (some sl)):=fun i sl e=>by rw[unlock_get L ρ ρ1 i hlt]at e;by_cases hi:i∈L;rw[if_pos hi]at e;obtain⟨t,e1,e2⟩:=l1 i hi;rw[e1]at e;injection e with e;have e:some (Sl.own t)=some sl:=e;injection e with e;exact .inl ⟨hi,t,e1,e2,e.symm⟩;rw[if_neg hi]at e;exact .inr ⟨hi,e⟩
 have far:∀i∈L,∀k sl,k∉L->ρ1[k]?=some (some sl)->∀b,S i b->¬ S1 k b:=fun i hi k sl hk e b hb z=>by
  obtain⟨t,e1,_⟩:=l1 i hi;cases sl with
  |own u=>rcases s.uu b ⟨k,u,e,z⟩ with q|q;exact I.lockU hL hi hb q;exact(I.dom e1 hb).1 q
  |nk u =>
   cases hd:u.isD with
   |true=>exact I1.isD e hd z
   |false =>
    obtain⟨g1,g2,_⟩:=s.bo k u (by simp) e hd;rw[g2]at z;rcases lockL hL g1 with⟨q,_⟩| ⟨_,g1⟩
    exact hk q;exact I.dj i k t _ (fun q=>hk (q▸hi)) e1 g1 b hb z
 refine⟨S2,⟨I1.fh,by rw[unlock_len];exact I1.len,fun i sl e=>?_,fun i k t sl n e1 e2 b hb hk=>?_⟩,⟨s.ff,fun b u e n=>s.hh b u e fun z=>n (lockLU hL z),s.dm,fun b e z=>(s.fn b e z).imp (lockLU hL) id,fun b ⟨i,t,h1,h2⟩=>?_,fun j t _ e hd=>?_,s.sg⟩⟩;rcases get i sl e with⟨hi,t,e1,e2,rfl⟩| ⟨hi,e1⟩
 ·rw[s2i i hi]
  obtain⟨v,g1,g2⟩:=I.sl i _ e1;cases hd:t.isD with
  |true =>
   obtain⟨v',g3,g4⟩:=I1.sl i _ e2;refine⟨v',g3,?_⟩;have nb:∀b,¬ S i b:=fun b=>I.isD e1 hd;cases t with
   |d x =>
    have g4:Tr K F1 H1 false v' (.d x) (S1 i):=g4;cases g4 with
    |d r _=>exact .d r nb
   |_=>cases hd
  |false =>
   obtain⟨_,_,g5⟩:=s.bo i t (by simp) e2 hd;refine⟨v,g5.trans g1,?_⟩;have g2:Tr K F H true v t (S i):=g2;refine g2.mono s.ff fun b hb=>?_;obtain⟨d1,d2⟩:=g2.dom b hb;have nu:=I.lockU hL hi hb;refine⟨?_,?_⟩;cases eb:H b with
   |none=>exact absurd eb d1
   |some u=>exact s.hh b u eb nu
   by_cases q:F1 b=none
   ·exact q
   exact((s.fn b d2 q).elim nu d1).elim
 rw[s2o i hi];exact I1.sl i sl e1;rcases get i _ e1 with⟨hi,t',a1,a2,_⟩| ⟨hi,a1⟩
 ·rw[s2i i hi]at hb
  rcases get k sl e2 with⟨hk',t2,b1,b2,_⟩| ⟨hk',b1⟩
  rw[s2i k hk']at hk;exact I.dj i k t' _ n a1 b1 b hb hk;rw[s2o k hk']at hk;exact far i hi k sl hk' b1 b hb hk
 rw[s2o i hi]at hb;rcases get k sl e2 with⟨hk',t2,b1,b2,_⟩| ⟨hk',b1⟩
 rw[s2i k hk']at hk;exact far k hk' i _ hi a1 b hk hb;rw[s2o k hk']at hk;exact I1.dj i k t sl n a1 b1 b hb hk;rcases get i _ h1 with⟨hi,t',a1,a2,_⟩| ⟨hi,a1⟩
 ·rw[s2i i hi]at h2
  exact .inl ⟨i,t',a1,h2⟩
 rw[s2o i hi]at h2;exact(s.uu b ⟨i,t,a1,h2⟩).imp (lockLU hL) id;rcases get j _ e with⟨_,_,_,_,z⟩| ⟨hj,e1⟩
 ·cases z
 obtain⟨g1,g2,g3⟩:=s.bo j t (by simp) e1 hd;rcases lockL hL g1 with⟨q,_⟩| ⟨_,g1⟩
 exact absurd q hj;exact⟨g1,(s2o j hj).trans g2,g3⟩
end
theorem not_mem{i:Nat}(h:(!C.contains i)=true):i∉C:=fun z=>by have:C.contains i=true:=Qo.mpr z;rw[this]at h;cases h
theorem not_mems{is:List Nat}(h:(is.all fun i=>!C.contains i)=true):∀i∈is,i∉C:=fun i hi=>not_mem (qE.mp h i hi)
theorem allD_fz:∀{xs:List (T×Bool)},allD xs=true->∀t∈fzOf xs,t.isD=true
 |[],_,t,h=>by simp[fzOf]at h
 |p::r,h,t,ht=>by
  simp only[allD,Qb]at h;simp only[fzOf,QK]at ht;rcases ht with rfl|ht;obtain⟨x,n⟩:=p;cases n with
  |true=>rfl
  |false =>
   have h1:=h.1;cases x with
   |d x=>rfl
   |_=>cases h1
  exact allD_fz h.2 t ht
theorem Tn.bare{Y:AdP}{vs:List V}{ts:List T}(h:Tn K F H Y vs ts):(∀t∈ts,t.isD=true)->Tn K F H (fun _=>False) vs ts:=by
 induction h with
 |nil=>exact fun _=>.nil
 |@cons v t vs ts Z r z tl ih =>
  intro hd;refine .cons (Z:=fun _=>False) ?_ (fun _ z=>z) (ih fun u hu=>hd u (QE _ hu));have hd:=hd t QF;cases t with
  |d x=>cases r with|d q _=>exact .d q fun _ z=>z
  |_=>cases hd
theorem ret_ok{v:V}{t:T}{W:AdP}{Z:PEnds}{Dn:Ends}(ok:EndsOk K C F H S ρ σ Z Dn)(s:Ste F H S ρ F1 H1 S1 ρ1)(I:Rl K F1 H1 S1 ρ1 σ)(r:Tr K F1 H1 true v t W)(hw:Held F1 H1 S1 ρ1 W)(fr:∀b,W b->H b=none∨U ρ S b)(q:Z.rt t ρ1):Dn.rt v H1 :=
 ok.rt v t W F1 H1 S1 ρ1 σ (s.toStp.sts (J:=[])).c I r hw fr q
theorem ret_snd(g:GOk K Γ Ψ):∀(e:PX) {F H:Hp}{S:Ft}{ρ:kA}{σ:St}{Z:PEnds}{Dn:Ends},Rl K F H S ρ σ->XOk K F H S ρ E EK->retP Ψ E Z.rt e ρ->EndsOk K C F H S ρ σ Z Dn->(wp K Γ e EK).e σ H Dn.rt:=by
  intro e F H S ρ σ Z Dn I X h ok;have gen:∀e,(pe Ψ e E).e ρ (fun x n ρ1=>esc x n=true/\Z.rt x ρ1)->(wp K Γ e EK).e σ H Dn.rt:=fun e h=>by refine(VA g e).e (Q:=fun x n ρ1=>esc x n=true/\Z.rt x ρ1) I X h fun v F' H' S' ρ' x n Za s J r ⟨he,q⟩=>?_;obtain⟨W,r2,hw,fr⟩:=r.strict he;exact ret_ok ok s J r2 hw fr q
  cases e with
  |var i =>
   have h':rdR ρ i Z.rt ρ[i]?:=h;show(match σ[i]? with|some (some v)=>Dn.rt v _|_=>False)
   match hd:ρ[i]?,h' with
   |some (some (.own t)),h' =>
    obtain⟨v,h1,r⟩:=I.sl i _ hd;rw[h1];have I0:Rl K F H S (ρ.set i none) σ:=I.drop (by simp) fun j s e=>by
     rcases vA e with⟨_,z,_⟩| ⟨_,e⟩
     cases z;exact e
    refine ok.rt v t (S i) F H S (ρ.set i none) σ ⟨.refl _,fun b u e _=>e,fun b e=>e,fun b e z=>absurd e z,fun b ⟨j,u,h1,h2⟩=>.inl ?_,fun _ _=>rfl⟩ I0 r ⟨r.dom,fun j s e b hb z=>?_⟩ (fun b hb=>.inr ⟨i,t,hd,hb⟩) h';rcases vA h1 with⟨_,z,_⟩| ⟨_,h1⟩
    ·cases z
    exact⟨j,u,h1,h2⟩;rcases vA e with⟨_,q,_⟩| ⟨n,e⟩
    ·cases q
    exact I.dj i j t s n hd e b hb z
   |some (some (.nk t)),h' =>
    obtain⟨v,h1,r⟩:=I.sl i _ hd;rw[h1];obtain⟨ht,h'⟩:=h';cases t with
    |d x =>
     have r:Tr K F H false v (.d x) (S i):=r;cases r with
     |d q n=>exact ret_ok (W:=fun _=>False) ok .refl I (.d q fun _ z=>z) .none (fun _ z=>z.elim) h'
    |_=>cases ht
   |some none,h'=>exact h'.elim
   |none,h'=>exact h'.elim
  |_=>exact gen _ h
theorem psnds(g:GOk K Γ Ψ):∀(p:PT) {F H:Hp}{S:Ft}{ρ:kA}{σ:St}{Z:PEnds}{Dn:Ends},noSt C p=true->Rl K F H S ρ σ->XOk K F H S ρ E EK->uA Ψ E p Z ρ->EndsOk K C F H S ρ σ Z Dn->wps K Γ EK p Dn σ H
 | .nil,_,_,_,_,_,_,_,c,I,X,h,ok=>ok.nx _ _ _ _ _ .refl I h
 | .seq s r,_,_,_,_,_,_,_,c,I,X,h,ok=>by obtain⟨c1,c2⟩:=yA c;exact psnds g s c1 I X h ⟨fun F' H' S' ρ' σ' s' J q=>psnds g r c2 J (X.fromS s') q (ok.from s'),ok.rt,ok.bk,ok.ct⟩
 | .set i e,F,H,S,ρ,σ,Z,Dn,c,I,X,h,ok=>by have hi:=not_mem c;refine one_f (RR:=fun x H1=>Dn.nx (σ.set i (some x)) H1) (VA g e) I X h fun v F' H' S' ρ' x n Za s J X' r er _ ⟨he,q⟩=>?_;exact ok.nx _ _ _ _ _ (s.toStp.sts.setD i hi v rfl _) (J.setD i (er he)) q
 | .expr e,F,H,S,ρ,σ,Z,Dn,c,I,X,h,ok=>(VA g e).e I X h fun v F' H' S' ρ' x n Za s J r q=>ok.nx _ _ _ _ _ s.toStp.sts J q
 | .ret e,F,H,S,ρ,σ,Z,Dn,c,I,X,h,ok=>ret_snd g e I X h ok
 | .ife t a b,F,H,S,ρ,σ,Z,Dn,c,I,X,h,ok=>by
  obtain⟨c1,c2⟩:=yA c;refine(VA g t).t I X h fun k F' H' S' ρ' s J q=>?_;cases k with
  |true=>exact psnds g a c1 J (X.from s.toStp) q (ok.from s.toStp.sts)
  |false=>exact psnds g b c2 J (X.from s.toStp) q (ok.from s.toStp.sts)
 | .for_ tg ik its body,F,H,S,ρ,σ,Z,Dn,c,I,X,h,ok=>by
  obtain⟨c1,c2⟩:=yA c;have hC:=not_mems c1;refine args_f (RR:=fun vs H1=>itemsR K ik vs H1 fun xs st H2=>ForB K xs st tg (wps K Γ EK body) Dn σ H2) (VA g its) I X h fun vs F1 H1 S1 ρ1 xs Y s1 I1 X1 tn tm q=>?_;rw[vw_map _ rfl]at q;have ok1:=ok.from s1.toStp.sts;cases ha:allD xs with
  |true=>have tn':=tn.bare (allD_fz ha);refine items_okT I1.fh tn' q fun its ys st pr hst hc=>?_;rw[ha,if_pos rfl]at hc;refine for_okT (fun I X h ok=>psnds g body c2 I X h ok) I1 X1 hC pr (fun b z=>z.elim) hst hc ?_ ?_;exact fun F' H' S' ρ' σ' s' I' q=>ok1.nx _ _ _ _ _ s'.kill (I'.drop (kill_len _ _) fun i sl e=>(kill_get _ _ i sl e).1) q;exact fun v t W F' H' S' ρ' σ' s' I' r hw fr q=>ok1.rt v t W F' H' S' ρ' σ' s' I' r hw fr q
  |false =>
   refine items_okT I1.fh tn q fun its' ys st pr hst hc=>?_;rw[ha,if_neg (by simp)]at hc;have hL:=ownsIn_own (ρ:=ρ1) (vrs its);have IL:=I1.lock hL;have sL:Sts C [] F1 H1 S1 ρ1 σ F1 H1 (fun _ _=>False) [] σ:=⟨.refl _,fun b u e _=>e,fun b e=>e,fun b e z=>absurd e z,fun b ⟨i,t,e,_⟩=>by simp at e,fun j t _ e=>by simp at e,fun _ _=>rfl⟩
   have XL:XOk K F1 H1 S1 (lock (ownsIn ρ1 (vrs its)) ρ1) E EK:=fun x dx F2 H2 S2 ρ2 s2 f r q =>
    X1 x dx F2 H2 (fun _ _=>False) [] ⟨s2.ff,fun b u e n=>s2.hh b u e fun z=>n (lockLU hL z),s2.dm,fun b e z=>(s2.fn b e z).imp (lockLU hL) id,fun b ⟨i,t,e,_⟩=>by simp at e,fun j t e=>by simp at e⟩ f r q
   refine for_okT (fun I X h ok=>psnds g body c2 I X h ok) IL XL hC pr (fun b hb=>?_) hst hc ?_ ?_;obtain⟨i,sl,h1,h2,h3⟩:=tm b hb;refine⟨fun u=>?_,I1.dom h2 h3⟩;cases sl with
   |own t=>exact I1.lockU hL (ownsIn_mem h2 _ h1) h3 u
   |nk t =>
    obtain⟨j,t',e1,e2⟩:=u;rcases lockL hL e1 with⟨_,_,_,z⟩| ⟨_,e1⟩
    cases z;exact I1.dj j i t' _ (fun z=>by subst z;rw[h2]at e1;cases e1) e1 h2 b e2 h3
   intro F' H' S' ρ' σ' s' I' ⟨q1,q2⟩;have sk:=s'.kill;have Ik:=I'.drop (kill_len tg.ix ρ') fun i sl e=>(kill_get _ _ i sl e).1;obtain⟨S2,I2,s2⟩:=unlock_ok hL I1 sk Ik fun i hi=>(q1 i hi).2;exact ok1.nx _ _ _ _ _ s2 I2 q2;intro v t W F' H' S' ρ' σ' s' I' r hw fr q;exact ok1.rt v t W F' H' S' ρ' σ' ⟨s'.ff,fun b u e n=>s'.hh b u e fun z=>n (lockLU hL z),s'.dm,fun b e z=>(s'.fn b e z).imp (lockLU hL) id,fun b u=>(s'.uu b u).imp (lockLU hL) id,s'.sg⟩ I' r hw (fun b hb=>(fr b hb).imp id (lockLU hL)) q
 | .own i e,F,H,S,ρ,σ,Z,Dn,c,I,X,h,ok=>by refine(VA g e).e (Q:=fun x n ρ1=>esc x n=true/\Z.nx (ρ1.set i (some (.own x)))) I X h fun v F' H' S' ρ' x n Za s J r ⟨he,q⟩=>?_;obtain⟨W,r2,hw,fr⟩:=r.strict he;exact ok.nx _ _ _ _ _ (s.toStp.sts.setN i (not_mem c) v x fr) (J.setN i r2 fun j sl _ e b hb=>hw.nw j sl e b hb) q
 | .tset is e,F,H,S,ρ,σ,Z,Dn,c,I,X,h,ok=>by
  have hc:=not_mems c;refine one_f (RR:=fun x H1=>bindT K (.tp is) x σ H1 Dn.nx) (VA g e) I X h fun v F' H' S' ρ' x n Za s J X' r er _ ⟨he,q⟩=>?_;have q2:bindV (.tp is) (.d x.er) ρ' fun ρ2=>Z.nx ρ2/\∀(j:Nat) t,ρ2[j]?=some (some (.nk t))->t.isD=false->j∉is:=by
   generalize x.er=d at q;cases d with
   |tuple ds=>obtain⟨ρ2,e,q⟩:=q;exact⟨ρ2,e,q,fun j t h1 h2=>(setAllT_D is ds e j t h1 h2).1⟩
   |dict kvs =>
    have q:(match vwDict kvs with | .tp ts=>∃ρ2,setAllT is ts ρ'=some ρ2/\Z.nx ρ2|_=>False):=q;unfold vwDict at q;cases ek:kindD kvs with
    |none=>rw[ek]at q;exact q.elim
    |some b=>rw[ek]at q;exact q.elim
   |_=>exact q.elim
  refine bind_okT (Y:=fun _=>False) (it:=.one v) J (fun b z=>z.elim) ⟨fun _=>False,.d (er he) fun _ z=>z,fun _ z=>z⟩ q2 fun ρ2 σ2 F2 H2 S2 bd J2 qn=>?_;have st:=(s.toStp.sts (σ:=σ) (C:=C) (J:=is)).bind bd (fun j hj=>hj) hc;exact ok.nx _ _ _ _ _ ⟨st.ff,st.hh,st.dm,st.fn,st.uu,fun j t _ e hd=>st.bo j t (qn.2 j t e hd) e hd,st.sg⟩ J2 qn.1
 | .six o i e,F,H,S,ρ,σ,Z,Dn,c,I,X,h,ok=>by
  have later:∀{j:Nat}{t:T}{v0:V},ρ[j]?=some (some (.own t))->Tr K F H true v0 t (S j)->∀{F' H':Hp}{S':Ft}{ρ':kA},Ste F H S (ρ.set j (some (.nk t))) F' H' S' ρ'->Tr K F' H' true v0 t (S j)/\∀b,S j b->H' b=H b:=fun {j t v0} hj r0 {F' H' S' ρ'} s=>⟨s.toStp.keep r0 (I.lock1U hj),fun b hb=>by
   cases e:H b with
   |none=>exact absurd e (r0.dom b hb).1
   |some u=>exact s.hh b u e (I.lock1U hj b hb)⟩
  cases o with
  |var j =>
   have h:ownV ρ[j]? _:=h;unfold ownV at h;split at h;rename_i t hj;obtain⟨v0,hv,r0⟩:=I.sl j _ hj;have r0:Tr K F H true v0 t (S j):=r0;show(wp K Γ e EK).e σ H fun v H1=>(wp K Γ (.var j) EK).e σ H1 fun ov H2=>(wp K Γ i EK).e σ H2 fun iv H3=>setR K ov iv v H3 fun H4=>Dn.nx σ H4;refine one_f (VA g e) (I.lock1 hj) (X.lock1 hj) h fun xv F1 H1 S1 ρ1 x n Zx s1 I1 X1 _ er1 _ ⟨he,q1⟩=>?_;have rx:=er1 he;show(match σ[j]? with|some (some v)=>_|_=>False);rw[hv];refine one_f (VA g i) I1 X1 q1 fun iv F2 H2 S2 ρ2 y m Zy s2 I2 X2 _ er2 _ ⟨he2,hj2,q2⟩=>?_;have s12:=s1.trans s2;refine st_okT I2.fh (later hj r0 s12).1 (er2 he2) (rx.mono s2.ff) q2 fun t' H3 S3 hh dm rt sub q=>?_;obtain⟨st,I3,_⟩:=put_root (W:=fun _=>False) I hj hv s12 I2 hh dm rt (fun b hb=>.inl (sub b hb)) .none (fun _ z=>z.elim);exact ok.nx _ _ _ _ _ st.toStp.sts I3 q
   all_goals exact h.elim
  |idx a k =>
   cases a with
   |var j =>
    have h:ownV ρ[j]? _:=h;unfold ownV at h;split at h;rename_i t hj;obtain⟨v0,hv,r0⟩:=I.sl j _ hj;have r0:Tr K F H true v0 t (S j):=r0;show(wp K Γ e EK).e σ H fun v H1=>(wp K Γ (.var j) EK).e σ H1 fun ov H2=>(wp K Γ k EK).e σ H2 fun zv H3=>rIxU K ov zv H3 fun ow H4=>(wp K Γ i EK).e σ H4 fun iv H5=>setR K ow iv v H5 fun H6=>Dn.nx σ H6;refine one_f (VA g e) (I.lock1 hj) (X.lock1 hj) h fun xv F1 H1 S1 ρ1 x n Zx s1 I1 X1 _ er1 _ ⟨he,q1⟩=>?_;have rx:=er1 he;show(match σ[j]? with|some (some v)=>_|_=>False);rw[hv];refine one_f (VA g k) I1 X1 q1 fun zv F2 H2 S2 ρ2 z l Zz s2 I2 X2 _ er2 _ ⟨hez,b,ks,ts,n,s,et,hk,hf,ht,q2⟩=>?_;have s12:=s1.trans s2;have rz:=er2 hez;subst et;obtain⟨r2,k2⟩:=later hj r0 s12;obtain⟨a,o,vs,ea,ho,dk,hw⟩:∃a o vs,v0=.ref a/\H2 a=some o/\DKo K F2 b o ks vs/\∃w,vs[n]?=some w/\S j a:=by
     cases r2 with
     |dct h1 dk h2 h3 h4 h5=>obtain⟨w,_,g1,_⟩:=h3.get ht;exact⟨_,_,_,rfl,h1,dk,w,g1,(h5 _).mpr (.inl rfl)⟩
    obtain⟨w,hw,sa⟩:=hw;subst ea;have gd:=(dk.mono I2.fh).get ho (rz.mono I2.fh) hk;rw[hf]at gd;have gd:DGet K H2 a zv (vs[n]?):=gd;rw[hw]at gd;have fin:(wp K Γ i EK).e σ H2 fun iv H5=>setR K w iv xv H5 fun H6=>Dn.nx σ H6:=by
     refine one_f (VA g i) I2 X2 q2 fun iv F3 H3 S3 ρ3 y m Zy s3 I3 X3 _ er3 _ ⟨he3,hj3,q3⟩=>?_;have s13:=s12.trans s3;obtain⟨r3,k3⟩:=later hj r0 s13;have ho3:H3 a=some o:=by rw[k3 a sa,<- k2 a sa];exact ho
     refine st2_okT I3.fh r3 ho3 dk hw ht (er3 he3) ((rx.mono s2.ff).mono s3.ff) q3 fun t' H4 S4 hh dm rt sub q=>?_;obtain⟨st,I4,_⟩:=put_root (W:=fun _=>False) I hj hv s13 I3 hh dm rt (fun b hb=>.inl (sub b hb)) .none (fun _ z=>z.elim);exact ok.nx _ _ _ _ _ st.toStp.sts I4 q
    cases zv with
    |str z=>exact⟨w,gd,fin⟩
    |ref c=>exact⟨w,gd,fin⟩
    |_=>exact gd.elim
    all_goals exact h.elim
   |_=>exact h.elim
  |_=>exact h.elim
 | .sdf j k,F,H,S,ρ,σ,Z,Dn,c,I,X,h,ok=>by
  have h:ownV ρ[j]? _:=h;unfold ownV at h;split at h;rename_i t hj;obtain⟨v0,hv,r0⟩:=I.sl j _ hj;have r0:Tr K F H true v0 t (S j):=r0;obtain⟨hd,h⟩:=h;show(match σ[j]? with|some (some v)=>tyV K "dict" v H/\(wp K Γ k EK).e σ H fun x H1=>∀p,H1 p=none->rSetDef K v [x,.ref p] (JA H1 p (.dT 0 [])) fun _ H2=>Dn.nx σ H2|_=>False);rw[hv];constructor;cases r0 with
  |@dct _ b _ _ _ _ _ _ _ h1 dk _ _ _ _ =>
   cases b with
   |true=>obtain⟨ep,kvs,rfl,_⟩:=dk;exact .inr (.inr (.inl ⟨rfl,.inr ⟨ep,kvs,h1⟩⟩))
   |false=>cases hd
  |_=>cases hd
  refine one_f (VA g k) (I.lock1 hj) (X.lock1 hj) h fun iv F1 H1 S1 ρ1 y m Zy s1 I1 X1 _ er _ ⟨he,hj1,q1⟩=>?_;intro p hp;have r1:=s1.toStp.keep r0 (I.lock1U hj);refine sd_okT I1.fh hp r1 (er he) q1 fun t' H3 S3 hh dm rt sub q=>?_;obtain⟨st,I3,_⟩:=put_root (W:=fun _=>False) I hj hv s1 I1 hh dm rt (fun b hb=>(sub b hb).imp id fun(z:b=p)=>.inr (by rw[z];exact hp)) .none (fun _ z=>z.elim);exact ok.nx _ _ _ _ _ st.toStp.sts I3 q
  all_goals exact h.elim
 | .whl t body,F,H,S,ρ,σ,Z,Dn,c,I,X,h,ok=>by
  obtain⟨W,⟨m0,w0⟩,turn⟩:=h;refine⟨fun m σ' H'=>∃ρ' F' S',Sts C [] F H S ρ σ F' H' S' ρ' σ'/\Rl K F' H' S' ρ' σ'/\W m ρ',⟨m0,ρ,F,S,.refl,I,w0⟩,?_⟩;rintro m σ1 H1 ⟨ρ1,F1,S1,s1,I1,w1⟩;refine(VA g t).t I1 (X.fromS s1) (turn m ρ1 w1) fun k F' H' S' ρ' s' J q=>?_;have s2:=s1.trans s'.toStp.sts;cases k with
  |false=>exact ok.nx _ _ _ _ _ s2 J q
  |true =>
   refine⟨fun σ' H'=>∃m',m' < m/\∃ρ' F' S',Sts C [] F H S ρ σ F' H' S' ρ' σ'/\Rl K F' H' S' ρ' σ'/\W m' ρ',fun _ _ z=>z,?_⟩;refine psnds g body c J (X.fromS s2) q ⟨?_,?_,?_,?_⟩;exact fun F' H' S' ρ' σ' s' I' ⟨m',hm,w⟩=>⟨m',hm,ρ',F',S',s2.trans s',I',w⟩
   exact fun v t W F' H' S' ρ' σ' s' I' r hw fr q=>ok.rt v t W F' H' S' ρ' σ' (s2.c.trans s') I' r hw (frS s2 fr) q;exact fun F' H' S' ρ' σ' s' I' q=>ok.nx _ _ _ _ _ (s2.trans s') I' q;exact fun F' H' S' ρ' σ' s' I' ⟨m',hm,w⟩=>⟨m',hm,ρ',F',S',s2.trans s',I',w⟩
 | .frz is s,F,H,S,ρ,σ,Z,Dn,c,I,X,h,ok=>by obtain⟨F',S',I',s'⟩:=I.frzAt (C:=C) is;exact psnds g s c I' (X.fromS s') h (ok.from s')
 | .hs s,F,H,S,ρ,σ,Z,Dn,c,I,X,h,ok=>hs_ok (Γ:=Γ) s c I h fun F' H' S' ρ' σ' a b q=>ok.nx F' H' S' ρ' σ' a b q
end
section
variable{ev:Ev}{n:Need}
def tyB(x:Str)(n:String):Bool:=(x==("bool":Str)&&n == "bool")||(x==("int":Str)&&n == "int")||(x==("str":Str)&&n == "str")||(x==("list":Str)&&n == "list")||(x==("tuple":Str)&&n == "tuple")||(x==("ValueError":Str)&&n == "ValueError")
theorem tyB_ok{x:Str}{n:String}(h:tyB x n=true):bootBuiltins x=some (.type n):=by simp only[tyB,wF,Qb,beq_iff_eq]at h;rcases h with((((⟨rfl,rfl⟩| ⟨rfl,rfl⟩)|⟨rfl,rfl⟩)|⟨rfl,rfl⟩)|⟨rfl,rfl⟩)|⟨rfl,rfl⟩<;>kernel_rfl
structure Need where
 fn:List Str
 va:List Str
 no:List Str
def ikB(n:Need):ItK->Bool
 | .val=>true
 | .rng1=>n.no.contains ("range":Str)
 | .enum=>n.no.contains ("enumerate":Str)
 | .itm=>true
def needB(n:Need):PX->Bool
 | .glo x=>n.va.contains x
 | .bty x t=>n.no.contains x&&tyB x t
 | .bin _ a b | .cmp _ a b | .and a b | .or a b | .idx a b | .nh a b | .dsp a b=>needB n a&&needB n b
 | .not a | .neg a | .lst a | .tup a=>needB n a
 | .slc a b c=>needB n a&&(needB n b&&needB n c)
 | .lset a=>n.no.contains "len" && (n.no.contains "set" && needB n a)
 | .hx a=>needB n a
 | .call f as=>n.fn.contains f&&needB n as
 | .bi f as=>n.no.contains f.nm&&needB n as
 | .isi a c=>n.no.contains ("isinstance":Str)&&(needB n a&&needB n c)
 | .mt _ o as=>needB n o&&needB n as
 | .comp _ _ _ ik its cond elt=>ikB n ik&&(needB n its&&(needB n cond&&needB n elt))
 |_=>true
def needSB(n:Need):PT->Bool
 | .seq s r=>needSB n s&&needSB n r
 | .set _ e=>needB n e
 | .own _ e=>needB n e
 | .expr e=>needB n e
 | .ret e=>needB n e
 | .ife c a b=>needB n c&&(needSB n a&&needSB n b)
 | .for_ _ ik its body=>ikB n ik&&(needB n its&&needSB n body)
 | .tset _ e=>needB n e
 | .six o i e=>needB n o&&(needB n i&&needB n e)
 | .sdf i k=>needB n (sdX i k)
 | .whl c b=>needB n c&&needSB n b
 | .frz _ s=>needSB n s
 | .hs s=>needSB n s
 | .nil=>true
def globOf(ev:Ev)(n:Need):Glob:=⟨ev,fun f=>f∈n.fn,fun x=>x∈n.va,fun x=>x∈n.no⟩
theorem ikB_ok{ik:ItK}(h:ikB n ik=true):ikN (globOf ev n) ik:=by
 cases ik with
 |val=>trivial
 |itm=>trivial
 |_=>exact Qo.mp h
theorem needB_ok:∀(p:PX),needB n p=true->XA (globOf ev n) p:=by
 intro p;induction p with
 |glo x=>intro h;exact Qo.mp h
 |bty x t=>intro h;obtain⟨h1,h2⟩:=yA h;exact⟨Qo.mp h1,tyB_ok h2⟩
 |bin _ a b ia ib|cmp _ a b ia ib|and a b ia ib|or a b ia ib|idx a b ia ib|nh a b ia ib|dsp a b ia ib=>intro h;obtain⟨h1,h2⟩:=yA h;exact⟨ia h1,ib h2⟩
 |not a ia|neg a ia|lst a ia|tup a ia=>intro h;exact ia h
 |slc a b c ia ib ic=>intro h;obtain⟨h1,h23⟩:=yA h;obtain⟨h2,h3⟩:=yA h23;exact⟨ia h1,ib h2,ic h3⟩
 |call f as ia=>intro h;obtain⟨h1,h2⟩:=yA h;exact⟨Qo.mp h1,ia h2⟩
 |lset a ia=>intro h;obtain⟨h1,h2⟩:=yA h;obtain⟨h3,h4⟩:=yA h2;exact⟨Qo.mp h1,Qo.mp h3,ia h4⟩
 |hx a ia=>intro h;exact ia h
 |bi f as ia=>intro h;obtain⟨h1,h2⟩:=yA h;exact⟨Qo.mp h1,ia h2⟩
 |isi a c ia ic=>intro h;obtain⟨h1,h23⟩:=yA h;obtain⟨h2,h3⟩:=yA h23;exact⟨Qo.mp h1,ia h2,ic h3⟩
 |mt _ o as io ia=>intro h;obtain⟨h1,h2⟩:=yA h;exact⟨io h1,ia h2⟩
 |comp _ _ _ ik its cond elt i1 i2 i3=>intro h;obtain⟨h1,h⟩:=yA h;obtain⟨h2,h⟩:=yA h;obtain⟨h3,h4⟩:=yA h;exact⟨ikB_ok h1,i1 h2,i2 h3,i3 h4⟩
 |_=>intro _;trivial
theorem needSB_ok:∀(p:PT),needSB n p=true->needsS (globOf ev n) p:=by
 intro p;induction p with
 |seq s r is ir=>intro h;obtain⟨h1,h2⟩:=yA h;exact⟨is h1,ir h2⟩
 |set _ e|own _ e|expr e|ret e|tset _ e=>intro h;exact needB_ok _ h
 |six o i e=>intro h;obtain⟨h1,h23⟩:=yA h;obtain⟨h2,h3⟩:=yA h23;exact⟨needB_ok _ h1,needB_ok _ h2,needB_ok _ h3⟩
 |sdf i k=>intro h;exact needB_ok _ h
 |frz _ s is=>intro h;exact is h
 |hs s is=>intro h;exact is h
 |whl c b ib=>intro h;obtain⟨h1,h2⟩:=yA h;exact⟨needB_ok _ h1,ib h2⟩
 |ife c a b ia ib=>intro h;obtain⟨h1,h23⟩:=yA h;obtain⟨h2,h3⟩:=yA h23;exact⟨needB_ok _ h1,ia h2,ib h3⟩
 |for_ _ ik its body ib=>intro h;obtain⟨h1,h23⟩:=yA h;obtain⟨h2,h3⟩:=yA h23;exact⟨ikB_ok h1,needB_ok _ h2,ib h3⟩
 |_=>intro _;trivial
def fnScopeB(N ps:List Str)(sc:Scope):Bool:=sc.kind==.function&&!sc.isCoroutine&&!sc.isGenerator&&nodupB N&&N.take ps.length==ps &&
 ps.all (fun x=>sc.names.lookup x==some .local||sc.names.lookup x==some .cell)&&sc.names.all fun y=>y.2 != .free
theorem fnScopeB_ok{N ps:List Str}{sc:Scope}(h:fnScopeB N ps sc=true):FnScope N ps sc:=by simp only[fnScopeB,Qb,qE,wF,beq_iff_eq,Q4,bne_iff_ne,ne_eq]at h;obtain⟨⟨⟨⟨⟨⟨h1,h2⟩,h3⟩,h4⟩,h5⟩,h6⟩,h7⟩:=h;exact⟨h1,h2,h3,nodupB_ok h4,h5,h6,h7⟩
def defB(n:Need)(b:PT)(N ps:List Str)(st:Stmt):Bool:=fnScopeB N ps (LA st)&&chkS b ⟨N,LA st⟩ (defBody st)&&needSB n b
def parS:Md->T->Sl
 | .chg,t=>.own t
 |_,t=>.nk t
def parP:List Md->List T->kA
 |_,[]=>[]
 |md,t::ts=>some (parS (md.headD .nq) t)::parP md.tail ts
def nA(N:List Str)(md:List Md)(ts:List T):kA:=parP md ts++Qs (N.length - ts.length) none
def chgIx:Nat->List Md->Nat->List Nat
 |_,_,0=>[]
 |k,md,n+1=>match md.headD .nq with
  | .chg=>k::chgIx (k+1) md.tail n
  |_=>chgIx (k+1) md.tail n
def outV:Option (List T)->(List T->Prop)->Prop
 |some os,Q=>Q os
 |none,_=>False
def endsP(P:PSp)(n:Nat)(Q:T->List T->Prop):PEnds where
 nx:=fun ρ=>outV (HA (chgIx 0 P.md n) ρ) (Q (.d .none))
 rt:=fun t ρ=>outV (HA (chgIx 0 P.md n) ρ) (Q t)
def vaOf(mg:Str->Option Value)(x:Str):V:=((mg x).bind absV).getD .non
def evOf(K:QA)(mg:Str->Option Value)(Ψ:PEv):Ev:=⟨fun f=>lift K (Ψ.sp f),vaOf mg⟩
structure ValsOk(P:Program)(w:World)(K:QA)(mg:Str->Option Value)(Ψ:PEv)(va:List Str):Prop where
 rep:∀x d,Ψ.va x=some d->∀F,Rep K F (vaOf mg x) d
 has:∀x∈va,∃u v,mg x=some u/\absV u=some v
theorem rel_abs{u:Value}{v:V}(h:absV u=some v):lA v u:=by cases u<;>first | (obtain rfl:=Q7 h;first|rfl|exact⟨_,rfl⟩)|exact nomatch (show(none:Option V)=some v from h)
end
section
variable{P:Program}{w:World}{K:QA}{mg:Str->Option Value}{base:Heap}{Ψ:PEv}
section
variable{k:Nat}{F H:Hp}{Y M:AdP}{md:List Md}{vs:List V}{ts:List T}{N ps:List Str}{R:PSp}{x qual:Str}{st:Stmt}{f:Addr}{fd:FuncData}{n:Need}
def Have(P:Program)(w:World)(K:QA)(mg:Str->Option Value)(base:Heap)(Ψ:PEv)(k:Nat)(f:Str):Prop :=
 ∃(a:Addr) (fd:FuncData) (ps:List Str),FnOk P w K mg base CX0 k a fd ps (lift K (Ψ.sp f))/\mg f=some (.ref a)/\wk K (.ref a)=true/\Binds K fd ps []
theorem Have.mono{j:Nat}{f:Str}(h:Have P w K mg base Ψ j f)(hk:j<=k):Have P w K mg base Ψ k f:=by obtain⟨a,fd,ps,h1,h2⟩:=h;exact⟨a,fd,ps,h1.mono hk,h2⟩
theorem ArgsR.length(h:ArgsR K F H Y md vs ts):vs.length=ts.length:=by
 induction h with
 |nil=>rfl
 |chg _ _ e=>exact congrArg Nat.succ e
 |rd _ _ _ _ e=>exact congrArg Nat.succ e
theorem parP_len:∀(m:List Md) (ts:List T),(parP m ts).length=ts.length
 |_,[]=>rfl
 |m,d::ds=>by unfold parP;rw[QL,QL,parP_len]
theorem parS_bor{m:Md}(h:m≠.chg)(t:T):parS m t=.nk t:=by cases m<;>first|rfl|exact absurd rfl h
theorem mutVs_cons(md:List Md)(v:V)(vs:List V):mutVs md (v::vs)=match md.headD .nq with | .chg=>v::mutVs md.tail vs|_=>mutVs md.tail vs:=by first | (rw[mutVs];done) | (rw[mutVs];cases md.headD .nq<;>rfl)
theorem mutTs_cons(md:List Md)(v:T)(vs:List T):mutTs md (v::vs)=match md.headD .nq with | .chg=>v::mutTs md.tail vs|_=>mutTs md.tail vs:=by first | (rw[mutTs];done) | (rw[mutTs];cases md.headD .nq<;>rfl)
theorem parP_cons(md:List Md)(t:T)(ts:List T):parP md (t::ts)=some (parS (md.headD .nq) t)::parP md.tail ts:=by rw[parP]
theorem args_rl(h:ArgsR K F H Y md vs ts)(r:Trs K F H true (mutVs md vs) (mutTs md ts) M) :
  ∃Z:Ft,(∀(i:Nat) s,(parP md ts)[i]?=some (some s)->∃v,vs[i]?=some v/\Tr K F H s.st v s.t (Z i))/\(∀(i:Nat) t,(parP md ts)[i]?=some (some (.own t))->∀b,Z i b->M b)/\(∀(i:Nat) t,(parP md ts)[i]?=some (some (.nk t))->∀b,Z i b->Y b) /\
   ∀(i j:Nat) t u,i≠j->(parP md ts)[i]?=some (some (.own t))->(parP md ts)[j]?=some (some (.own u))->∀b,Z i b->¬ Z j b:=by
 induction h generalizing M with
 |nil=>exact⟨fun _ _=>False,fun i s e=>by simp[parP]at e,fun i t e=>by simp[parP]at e,fun i t e=>by simp[parP]at e,fun i j t u _ e=>by simp[parP]at e⟩
 |@chg md v vs t ts hm tl ih =>
  have e1:mutVs md (v::vs)=v::mutVs md.tail vs:=by rw[mutVs_cons,hm]
  have e2:mutTs md (t::ts)=t::mutTs md.tail ts:=by rw[mutTs_cons,hm]
  rw[e1,e2]at r;cases r with
  |@cons _ _ _ _ _ _ Z1 Z2 r1 r2 n q =>
   obtain⟨Z,h1,h2,h3,h4⟩:=ih r2;have ep:parP md (t::ts)=some (.own t)::parP md.tail ts:=by rw[parP_cons,hm];rfl
   rw[ep];refine⟨fun i=>match i with|0=>Z1|i+1=>Z i,fun i s e=>?_,fun i u e b hb=>?_,fun i u e b hb=>?_,fun i j u w ne e e' b hb hb'=>?_⟩;cases i with
   |zero=>simp at e;subst e;exact⟨v,rfl,r1⟩
   |succ i=>exact h1 i s (by simpa using e)
   cases i with
   |zero=>exact(q b).mpr (.inl hb)
   |succ i=>exact(q b).mpr (.inr (h2 i u (by simpa using e) b hb))
   cases i with
   |zero=>simp at e
   |succ i=>exact h3 i u (by simpa using e) b hb
   cases i with
   |zero =>
    cases j with
    |zero=>exact ne rfl
    |succ j=>exact n b hb (h2 j w (by simpa using e') b hb')
   |succ i =>
    cases j with
    |zero=>exact n b hb' (h2 i u (by simpa using e) b hb)
    |succ j=>exact h4 i j u w (fun z=>ne (by rw[z])) (by simpa using e) (by simpa using e') b hb hb'
 |@rd md v vs t ts Z1 hm r1 hz tl ih =>
  have e1:mutVs md (v::vs)=mutVs md.tail vs:=by rw[mutVs_cons];cases e:md.headD .nq<;>first|exact absurd e hm|rfl
  have e2:mutTs md (t::ts)=mutTs md.tail ts:=by rw[mutTs_cons];cases e:md.headD .nq<;>first|exact absurd e hm|rfl
  rw[e1,e2]at r;obtain⟨Z,h1,h2,h3,h4⟩:=ih r;have ep:parP md (t::ts)=some (.nk t)::parP md.tail ts:=by rw[parP_cons,parS_bor hm]
  rw[ep];refine⟨fun i=>match i with|0=>Z1|i+1=>Z i,fun i s e=>?_,fun i u e b hb=>?_,fun i u e b hb=>?_,fun i j u w ne e e' b hb hb'=>?_⟩;cases i with
  |zero=>simp at e;subst e;exact⟨v,rfl,r1⟩
  |succ i=>exact h1 i s (by simpa using e)
  cases i with
  |zero=>simp at e
  |succ i=>exact h2 i u (by simpa using e) b hb
  cases i with
  |zero=>exact hz b hb
  |succ i=>exact h3 i u (by simpa using e) b hb
  cases i with
  |zero=>simp at e
  |succ i =>
   cases j with
   |zero=>simp at e'
   |succ j=>exact h4 i j u w (fun z=>ne (by rw[z])) (by simpa using e) (by simpa using e') b hb hb'
theorem start_ok(f:Same F H)(h:ArgsR K F H Y md vs ts)(hm:Trs K F H true (mutVs md vs) (mutTs md ts) M)(dj:∀b,Y b->¬ M b) :
  ∃S,Rl K F H S (nA N md ts) (start N vs)/\∀b,U (nA N md ts) S b->M b:=by
 obtain⟨Z,h1,h2,h3,h4⟩:=args_rl h hm;have hl:=h.length;have get:∀(i:Nat) s,(nA N md ts)[i]?=some (some s)->(parP md ts)[i]?=some (some s):=fun i s e=>by
  unfold nA at e;rcases QAb i ts.length with z|z
  ·rwa [Qq (by rw[parP_len];exact z)]at e
  rw[Qk (by rw[parP_len];exact z),wb]at e;split at e<;>cases e
 refine⟨Z,⟨f,?_,fun i s e=>?_,fun i j t s n e1 e2 b hb hb'=>?_⟩,fun b ⟨i,t,e,hb⟩=>h2 i t (get i _ e) b hb⟩;unfold nA start;rw[QM,QM,parP_len,QG,qU,qU,hl];obtain⟨v,g1,g2⟩:=h1 i s (get i s e);refine⟨v,?_,g2⟩;unfold start;rw[Qq (by rw[QG];exact(QT.mp g1).1),QY,g1];rfl;cases s with
 |own u=>exact h4 i j t u n (get i _ e1) (get j _ e2) b hb hb'
 |nk u=>exact dj b (h3 j u (get j _ e2) b hb') (h2 i t (get i _ e1) b hb)
theorem chgIx_map:∀{md:List Md}{k n:Nat}{vs:List V}{σ:St},vs.length=n->(∀(i:Nat) v,vs[i]?=some v->σ[k+i]?=some (some v))->(mutVs md vs).map (fun v=>some (some v))=(chgIx k md n).map fun j=>σ[j]?
 |md,k,0,vs,σ,h,g=>by
  cases vs with
  |nil=>rfl
  |cons _ _=>cases h
 |md,k,n+1,vs,σ,h,g=>by
  cases vs with
  |nil=>cases h
  |cons v vs =>
   have ih:=chgIx_map (md:=md.tail) (k:=k+1) (n:=n) (vs:=vs) (σ:=σ) (by simpa using h) fun i w hw=>by have:=g (i+1) w (by simpa using hw);rw[show k+1+i=k+(i+1) by omega];exact this
   have g0:=g 0 v rfl;rw[mutVs_cons];unfold chgIx;cases e:md.headD .nq with
   |chg=>simp only[QN,ih];rw[show σ[k]?=some (some v) from g0]
   |_=>exact ih
theorem chgIx_ge:∀{md:List Md}{k n j:Nat},j∈chgIx k md n->k<=j
 |md,k,0,j,h=>by simp[chgIx]at h
 |md,k,n+1,j,h=>by
  unfold chgIx at h;cases e:md.headD .nq with
  |chg=>rw[e]at h;rcases QK.mp h with z|z;omega;have:=chgIx_ge z;omega
  |_=>rw[e]at h;have:=chgIx_ge h;omega
theorem chgIx_nd:∀(md:List Md) (k n:Nat),(chgIx k md n).Nodup
 |md,k,0=>Q0
 |md,k,n+1=>by
  have ih:=chgIx_nd md.tail (k+1) n;unfold chgIx;cases e:md.headD .nq with
  |chg=>exact Qe.mpr ⟨fun z=>by have:=chgIx_ge z;omega,ih⟩
  |_=>exact ih
theorem fn_def{b:PT}(F:Fun K x qual st f fd)(chk:defB n b N ps st=true)(hc:noSt (chgIx 0 R.md ps.length) b=true)
  (fns:∀g∈n.fn,Have P w K mg base Ψ k g) (vals:ValsOk P w K mg Ψ n.va) (nos:∀y∈n.no,mg y=none)
  (body:∀ts Q E,R.run ts Q E->ts.length=ps.length/\uA Ψ (fun _=>False) b (endsP R ps.length Q) (nA N R.md ts)):FnOk P w K mg base CX0 (k+1) f fd ps (lift K R):=by
 obtain⟨c12,c3⟩:=yA chk;obtain⟨c1,c2⟩:=yA c12;have S:=fnScopeB_ok c1;refine F.ok S (fun vs H Q E h=>?_) (fun cdv A outer s H vs Q E hr h=>?_);obtain⟨F',ts,M,Y,h1,h2,h3,h4,h5⟩:=h;rw[h2.length];exact(body ts _ _ h5).1;obtain⟨F',ts,M,Y,h1,h2,h3,h4,h5⟩:=h;have q:=(body ts _ _ h5).2;have hlen:=(body ts _ _ h5).1;have ok:OkS ((cxOf CX0 P w K mg base N qual (LA st) f cdv A outer s H E).nox) ⟨N,LA st⟩ (globOf (evOf K mg Ψ) n) E0:={
  N:=rfl
  sc:=rfl
  calm:=rfl
  un:=by have:=hr.un;show(A.deeper _).units+66<cLine;omega
  fn:=fun g hg=>by obtain⟨a,gd,gps,g1,g2,g3,g4⟩:=fns g hg;exact⟨CX0,k,a,gd,gps,g1,hr,g2,g3,g4,pass0,fun _ _ _ _ _ z=>z⟩
  val:=fun y hy=>by obtain⟨u,v,e1,e2⟩:=vals.has y hy;refine⟨u,e1,?_⟩;show lA (vaOf mg y) u;unfold vaOf;rw[e1];show lA ((absV u).getD .non) u;rw[e2];exact rel_abs e2
  no:=fun y hy=>nos y hy
  po:=PassesOwn.never
  nd:=S.nd
  cel:=fun _=>rfl }
 refine⟨_,(snds b ok c2 (needSB_ok b c3)).1,?_⟩;obtain⟨S0,I,hU⟩:=start_ok (N:=N) h1 h2 h3 h4;have g:GOk K (evOf K mg Ψ) Ψ:=⟨fun _ _ _ _ _ h=>h,fun y d e F=>vals.rep y d e F⟩
 have hvl:vs.length=ps.length:=h2.length.trans hlen;have fin:∀v t W F2 H2 S2 ρ2 σ2,Stc (chgIx 0 R.md ps.length) F' H S0 (nA N R.md ts) (start N vs) F2 H2 S2 ρ2 σ2->Rl K F2 H2 S2 ρ2 σ2->Tr K F2 H2 true v t W->Held F2 H2 S2 ρ2 W->(∀b,W b->H b=none∨U (nA N R.md ts) S0 b) ->
   outV (HA (chgIx 0 R.md ps.length) ρ2) (fun os=>∀v F3 H3 Z M',Frm M F' H F3 H3->Tr K F3 H3 true v t Z->Trs K F3 H3 true (mutVs R.md vs) os M'->(∀b,Z b->¬ M' b)->(∀b,Z b∨M' b->M b∨H b=none)->Q v H3)->Q v H2:=by
  intro v t W F2 H2 S2 ρ2 σ2 s I2 r hw fr q;cases eo:HA (chgIx 0 R.md ps.length) ρ2 with
  |none=>rw[eo]at q;exact q.elim
  |some os =>
   rw[eo]at q;have hv:(mutVs R.md vs).map (fun v=>some (some v))=(chgIx 0 R.md ps.length).map fun j=>σ2[j]?:=by rw[chgIx_map (md:=R.md) (k:=0) (n:=ps.length) (vs:=vs) (σ:=start N vs) hvl fun i w hw=>?_];exact wc fun j hj=>(s.sg j hj).symm;unfold start;rw[QAX,Qq (by rw[QG];exact(QT.mp hw).1),QY,hw];rfl
   have trs:=I2.trs (chgIx_nd _ _ _) eo hv;have own:∀j∈chgIx 0 R.md ps.length,∃t,ρ2[j]?=some (some (.own t)):=fun j hj=>by obtain⟨i,hi⟩:=WZ.mp hj;obtain⟨t,_,e⟩:=(ownsAt_some eo).2 i j hi;exact⟨t,e⟩
   have lk:∀b,U (nA N R.md ts) S0 b∨H b=none->M b∨H b=none:=fun b hb=>hb.imp (hU b) id;refine q v F2 H2 W _ ⟨s.ff,I2.fh,fun b u e n=>s.hh b u e fun z=>n (hU b z),s.dm,fun b e z=>lk b (s.fn b e z)⟩ r trs (fun b hb ⟨j,hj,z⟩=>?_) fun b hb=>?_;obtain⟨t',e⟩:=own j hj;exact hw.nw j _ e b hb z;rcases hb with hb|⟨j,hj,z⟩
   ·exact lk b (fr b hb).symm
   obtain⟨t',e⟩:=own j hj;exact lk b (s.uu b ⟨j,t',e,z⟩)
 refine psnds g b hc I (fun _ _ _ _ _ _ _ _ _ z=>z.elim) q ⟨?_,?_,fun _ _ _ _ _ _ _ z=>z.elim,fun _ _ _ _ _ _ _ z=>z.elim⟩;intro F2 H2 S2 ρ2 σ2 s I2 q;exact fin .non (.d .none) (fun _=>False) F2 H2 S2 ρ2 σ2 s.c I2 (.d .non fun _ z=>z) .none (fun _ z=>z.elim) q;intro v t W F2 H2 S2 ρ2 σ2 s I2 r hw fr q;exact fin v t W F2 H2 S2 ρ2 σ2 s I2 r hw fr q
theorem have_def{Ψ':PEv}{b:PT}(F:Fun K x qual st f fd)(hm:mg x=some (.ref f))(hb:Binds K fd ps [])(chk:defB n b N ps st=true)(hc:noSt (chgIx 0 R.md ps.length) b=true)
  (fns:∀g∈n.fn,Have P w K mg base Ψ k g) (vals:ValsOk P w K mg Ψ n.va) (nos:∀y∈n.no,mg y=none)
  (body:∀ts Q E,R.run ts Q E->ts.length=ps.length/\uA Ψ (fun _=>False) b (endsP R ps.length Q) (nA N R.md ts)) (hR:Ψ'.sp x=R):Have P w K mg base Ψ' (k+1) x :=
 ⟨f,fd,ps,by rw[hR];exact fn_def F chk hc fns vals nos body,hm,F.kp,hb⟩
end
end
def pLaw:PSp where
 md:=[.nr]
 run:=fun ts Q _=>∃ns:List Int,ns.length<=63/\(∀n∈ns,Wp n<=1048576)/\ts=[.lst ((ns.map PyData.int).map T.d)]/\Q (.d (.bool true)) []
 mono:=fun h _ ⟨ns,h1,h2,h3,q⟩=>⟨ns,h1,h2,h3,h _ _ q⟩
def pNo:PSp:=⟨[],fun _ _ _=>False,fun _ _ h=>h⟩
theorem reps_ints{K:QA}{F:Hp}:∀(ns:List Int),Reps K F (ns.map V.int) (ns.map PyData.int)
 |[]=>.nil
 |n::r=>.cons (.int n) (reps_ints r)
theorem reps_strs'{K:QA}{F:Hp}:∀(ns:List Str),Reps K F (ns.map V.str) (ns.map PyData.str)
 |[]=>.nil
 |n::r=>.cons (.str n) (reps_strs' r)
theorem law_sp(K:QA)(H:Hp)(a:Addr)(ns:List Int)(hl:ns.length<=63)(hw:∀n∈ns,Wp n<=1048576)(hS:SqL K H a (ns.map V.int)):lift K pLaw [.ref a] H (fun v _=>v=.bl true) fun _ _ _=>False:=by
 refine⟨H,[.lst ((ns.map PyData.int).map T.d)],fun _=>False,fun _=>False,.refl _,.rd (Z:=fun _=>False) (by simp[pLaw]) (.lstF hS (reps_ints ns) fun _ z=>z) (fun _ z=>z) .nil,.nil fun _ z=>z,fun _ z=>z.elim,ns,hl,hw,rfl,fun v F' H' Z M' _ r _ _ _=>?_⟩;cases r with
 |d r _=>cases r;rfl
theorem weight_mem{ns:List Int}:∀n∈ns,Wh (.int n)<=wg (ns.map Wk.int):=by
 induction ns with
 |nil=>intro n hn;cases hn
 |cons m ns ih=>intro n hn;show _<=Wh (.int m)+1+wg (ns.map Wk.int);rcases QK.mp hn with rfl|hn;omega;have:=ih n hn;omega
theorem bits_of{ns:List Int}(h:Wk.layableAll [.list (ns.map .int)]=true):∀n∈ns,Wp n<=1048576:=by
 intro n hn;have h1:=(PySem.W.layableW_iff.mp (PySem.W.layableW_arg h _ QF)).2.2;have h2:wg (ns.map Wk.int)<=2 ^ 20:=h1;have h3:=weight_mem n hn;have h4:Wh (.int n)=if n==0 then 0 else n.natAbs.log2+1:=rfl
 rw[PySem.intBits_le_iff];by_cases hz:n=0;subst hz;exact Nat.pow_pos (by decide);have:(n==0)=false:=by simpa using hz
 rw[h4,this]at h3;have h5:n.natAbs.log2+1<=1048576:=by have:n.natAbs.log2+1<=wg (ns.map Wk.int):=h3;omega
 exact(Nat.log2_lt (show n.natAbs≠0 by omega)).mp (by omega)
def DefAt(K:QA)(x:Str)(st:Stmt):Prop:=∃f fd,Q3 K mainGlobals x=some (some (.ref f))/\Fun K x x st f fd
def ValAt(K:QA)(x:Str)(d:D):Prop:=∃u v,Q3 K mainGlobals x=some (some u)/\absV u=some v/\∀F,Rep K F v d
theorem val_strs{K:QA}{x:Str}{f:Addr}{xs:List Str}{od:Option Addr}{its:List Value}{n:Nat}{sl:Array (Option Value)}(a:Q3 K mainGlobals x=some (some (.ref f)))
  (l:K.lookup f=some ⟨.type "tuple",od,.seq its.toArray n,sl⟩) (h:its.map absV=xs.map fun y=>some (.str y)) (hz:xs.length<=sizeLine):ValAt K x (.tuple (xs.map PyData.str)):=by
 refine⟨_,_,a,rfl,fun F=>.tup (.inr ⟨_,its.toArray,n,l,rfl,rfl,?_,?_⟩) (reps_strs' xs)⟩;have:=congrArg qq h;simp at this;simp;omega;have key:∀(its:List Value) (xs:List Str),its.map absV=xs.map (fun y=>some (.str y))->bA (xs.map V.str) its:=by
  intro its;induction its with
  |nil =>
   intro xs h;cases xs with
   |nil=>exact .nil
   |cons _ _=>simp at h
  |cons u its ih =>
   intro xs h;cases xs with
   |nil=>simp at h
   |cons y xs=>simp only[QN,Wo]at h;exact .cons (rel_abs h.1) (ih xs h.2)
 simpa using key its xs h
section
variable{P:Program}{w:World}{K:QA}{mg:Str->Option Value}{base h:Heap}{Ψ:PEv}
section
variable{x:Str}{st:Stmt}{N ps:List Str}{k:Nat}{n:Need}
theorem ValAt.inMg(X:K.In h)(G:h.Ns mainGlobals mg){d:D}(v:ValAt K x d):(∀F,Rep K F (vaOf mg x) d)/\∃u v,mg x=some u/\absV u=some v:=by
 obtain⟨u,v,h1,h2,h3⟩:=v;have e:=QA9 X G h1;refine⟨fun F=>?_,u,v,e,h2⟩;have:vaOf mg x=v:=by unfold vaOf;rw[e];show(absV u).getD .non=v;rw[h2];rfl
 rw[this];exact h3 F
theorem have_atR{R:PSp}{Ψ':PEv}{b:PT}(X:K.In h)(G:h.Ns mainGlobals mg)(D:DefAt K x st)(chk:defB n b N ps st=true)(hc:noSt (chgIx 0 R.md ps.length) b=true)
  (hb:∀(kV doc pm:Value) (an:Option Addr) (cdv ct:Value) (us:List Value),us.length=ps.length->bindArgs (wK x x (defArgs st) (defBody st) (LA st) .none kV doc pm an cdv ct) ⟨us,[]⟩=pure (ps.zip us))
  (fns:∀g∈n.fn,Have P w K mg base Ψ k g) (vals:ValsOk P w K mg Ψ n.va) (nos:∀y∈n.no,Q3 K mainGlobals y=some none)
  (body:∀ts Q E,R.run ts Q E->ts.length=ps.length/\uA Ψ (fun _=>False) b (endsP R ps.length Q) (nA N R.md ts)) (hR:Ψ'.sp x=R):Have P w K mg base Ψ' (k+1) x:=by
 obtain⟨f,fd,a,F⟩:=D;exact have_def F (QA9 X G a) (F.binds hb) chk hc fns vals (fun y hy=>QBA X G (nos y hy)) body hR
theorem have_at{b:PT}(X:K.In h)(G:h.Ns mainGlobals mg)(D:DefAt K x st)(chk:defB n b N ps st=true)(hc:noSt (chgIx 0 (Ψ.sp x).md ps.length) b=true)
  (hb:∀(kV doc pm:Value) (an:Option Addr) (cdv ct:Value) (us:List Value),us.length=ps.length->bindArgs (wK x x (defArgs st) (defBody st) (LA st) .none kV doc pm an cdv ct) ⟨us,[]⟩=pure (ps.zip us))
  (fns:∀g∈n.fn,Have P w K mg base Ψ k g) (vals:ValsOk P w K mg Ψ n.va) (nos:∀y∈n.no,Q3 K mainGlobals y=some none)
  (body:∀ts Q E,(Ψ.sp x).run ts Q E->ts.length=ps.length/\uA Ψ (fun _=>False) b (endsP (Ψ.sp x) ps.length Q) (nA N (Ψ.sp x).md ts)):Have P w K mg base Ψ (k+1) x :=
 have_atR X G D chk hc hb fns vals nos body rfl
theorem law_at{fa:Addr}(X:K.In h)(G:h.Ns mainGlobals mg)(D:DefAt K "law" st)(hp:ps=[x])(hfa:mg "law"=some (.ref fa))(hs:Ψ.sp "law"=pLaw)
  (hb:∀(kV doc pm:Value) (an:Option Addr) (cdv ct:Value) (us:List Value),us.length=ps.length->bindArgs (wK "law" "law" (defArgs st) (defBody st) (LA st) .none kV doc pm an cdv ct) ⟨us,[]⟩=pure (ps.zip us))
  (H:∀base:Heap,K.In base->base.Ns mainGlobals mg->∀f fd,Fun K "law" "law" st f fd->mg "law"=some (.ref f)->FnOk P w K mg base CX0 k f fd ps (lift K (Ψ.sp "law"))) :
  ∃fd:FuncData,(∀(s:Shared) (u:Value),BindsTo s fd ⟨[u],[]⟩ [(x,u)])/\∀base:Heap,K.In base->base.Ns mainGlobals mg->FnOk P w K mg base CX0 k fa fd [x] (lift K pLaw):=by
 obtain⟨f,fd,a,F⟩:=D;have e:=hfa.symm.trans (QA9 X G a);cases e;subst hp;refine⟨fd,fun s u=>?_,fun base kb nb=>?_⟩;obtain⟨oc,od,kV,doc,pm,an,cdv,ct,osl,rfl,lk,hcd⟩:=F.ex;exact .of_eq (hb kV doc pm an cdv ct [u] rfl);rw[<- hs];exact H base kb nb fa fd F hfa
end
end
theorem compV_map{α:Type}{body:T->(Option T->Prop)->Prop}(g f:α->T):∀(l:List α) (acc:List T) (Q:List T->Prop),(∀x∈l,∀R:Option T->Prop,R (some (f x))->body (g x) R)->acc.length+l.length<=sizeLine->Q (acc++l.map f)->compV body (l.map g) acc Q
 |[],acc,Q,_,hl,q=>by simp only[wZ,compV];exact⟨by simpa using hl,by simpa using q⟩
 |x::r,acc,Q,hb,hl,q=>by simp only[QN,compV];refine hb x QF _ ?_;simp only[QL]at hl;refine⟨by omega,compV_map g f r _ Q (fun y hy=>hb y (QE _ hy)) (by simp;omega) (by simpa using q)⟩
theorem compV_filter{α:Type}{body:T->(Option T->Prop)->Prop}(g f:α->T)(p:α->Bool):∀(l:List α) (acc:List T) (Q:List T->Prop),(∀x∈l,∀R:Option T->Prop,R (if p x=true then some (f x) else none)->body (g x) R)->acc.length+l.length<=sizeLine->Q (acc++(l.filter p).map f)->compV body (l.map g) acc Q
 |[],acc,Q,_,hl,q=>by simp only[wZ,compV];exact⟨by simpa using hl,by simpa using q⟩
 |x::r,acc,Q,hb,hl,q=>by
  simp only[QN,compV];refine hb x QF _ ?_;simp only[QL]at hl;cases hp:p x with
  |true=>refine⟨by omega,compV_filter g f p r _ Q (fun y hy=>hb y (QE _ hy)) (by simp;omega) ?_⟩;rw[WD,if_pos hp]at q;simpa using q
  |false=>refine compV_filter g f p r _ Q (fun y hy=>hb y (QE _ hy)) (by omega) ?_;rw[WD,if_neg (by rw[hp];simp)]at q;exact q
theorem atI_pos{α:Type}{xs:List α}{i:Int}(h0:0<=i)(h1:i<xs.length):∃v,atI xs i=some v/\xs[i.toNat]?=some v:=by
 have h:i.toNat<xs.length:=by omega
 have e:((i.toNat:Nat):Int)=i:=by omega
 have q:=atI_nat (qp h);rw[e]at q;exact⟨xs[i.toNat],q,qp h⟩
theorem atI_map{α β:Type}(f:α->β)(xs:List α)(i:Int):atI (xs.map f) i=(atI xs i).map f:=by
 unfold atI;rw[QG];cases ixN xs.length i with
 |none=>rfl
 |some j=>exact QY
theorem for_inv{Ψ:PEv}{E:XE}{α:Type}{body:PT}{tg:Tg}{Z:PEnds}(g:α->T)(W:List α->kA->Prop)(h0:∀ρ,W [] ρ->Z.nx ρ)
  (hs:∀x xs ρ (N:kA->Prop),(∀ρ',W xs ρ'->N ρ')->W (x::xs) ρ->bindV tg (g x) ρ fun ρ1=>uA Ψ E body { Z with nx:=N,ct:=N,bk:=Z.nx } ρ1):∀(xs:List α) (ρ:kA),W xs ρ->forV (uA Ψ E body) tg Z (xs.map g) ρ
 |[],ρ,w=>h0 ρ w
 |x::xs,ρ,w=>hs x xs ρ (fun ρ2=>forV (uA Ψ E body) tg Z (xs.map g) ρ2) (fun ρ2 w2=>for_inv g W h0 hs xs ρ2 w2) w
def tblEv(sp:List (Str×PSp))(va:List (Str×D)):PEv:=⟨fun f=>(sp.lookup f).getD pNo,fun x=>va.lookup x⟩
theorem vals_ok{P:Program}{w:World}{K:QA}{mg:Str->Option Value}{h:Heap}{sp:List (Str×PSp)}{tbl:List (Str×D)}{va:List Str}(X:K.In h)(G:h.Ns mainGlobals mg)(ht:∀p∈tbl,ValAt K p.1 p.2)
  (hva:(va.all fun x=>(tbl.map qL).contains x)=true):ValsOk P w K mg (tblEv sp tbl) va:=by
 refine⟨fun x d e F=>((ht (x,d) (qH e)).inMg X G).1 F,fun x hx=>?_⟩;have:=qE.mp hva x hx;obtain⟨p,hp,e⟩:=Qh.mp (Qo.mp this);rw[<- e];exact((ht p hp).inMg X G).2
theorem sub_of{α:Type}[BEq α][LawfulBEq α]{l m:List α}(h:(l.all fun x=>m.contains x)=true):∀x∈l,x∈m:=fun x hx=>Qo.mp (qE.mp h x hx)
section
variable{a b c:PX}{i:Nat}{n:Int}{x:Str}{m:Mt}{f:Str}{g:Bi}{op:Operator}{cp:CmpOp}{is:List Bool}{tgs:List Str}{tg:Tg}{ik:ItK}{y:String}
theorem vrs_var:vrs (.var i)=[i]:=rfl
theorem vrs_acons:vrs (.nh a b)=vrs a++vrs b:=rfl
theorem vrs_anil:vrs .nj=[]:=rfl
end
def optP{α:Type}(o:Option α)(K:α->Prop):Prop:=∃a,o=some a/\K a
theorem optP.mk{α:Type}{o:Option α}{a:α}{K:α->Prop}(e:o=some a)(k:K a):optP o K:=⟨a,e,k⟩
theorem optP_s{α:Type}{a:α}{K:α->Prop}:optP (some a) K=K a:=propext ⟨fun⟨_,e,k⟩=>by cases e;exact k,fun k=>⟨a,rfl,k⟩⟩
theorem optP_e{α:Type}{o:Option α}{a:α}{K:α->Prop}(h:o=some a):optP o K=K a:=by rw[h];exact optP_s
theorem optP_m{α β:Type}{o:Option α}{f:α->β}{K:β->Prop}:optP (o.map f) K=optP o fun a=>K (f a):=by
 cases o with
 |none=>exact propext ⟨fun⟨_,e,_⟩=>(by cases e),fun⟨_,e,_⟩=>(by cases e)⟩
 |some a=>rw[Q6,optP_s,optP_s]
def peE(Ψ:PEv)(e:PX)(E:XE)(ρ:kA)(K:TK):Prop:=(pe Ψ e E).e ρ K
def peT(Ψ:PEv)(e:PX)(E:XE)(ρ:kA)(K:Bool->kA->Prop):Prop:=(pe Ψ e E).t ρ K
def peA(Ψ:PEv)(e:PX)(E:XE)(md:List Md)(ρ:kA)(K:List (T×Bool)->kA->Prop):Prop:=(pe Ψ e E).a md ρ K
def runP(p:PSp)(ts:List T)(K:T->List T->Prop)(E:XE):Prop:=p.run ts K E
def sqE(x:T)(n:Bool)(Ψ:PEv)(b:PX)(E:XE)(ρ:kA)(K:TK):Prop:=sq (fA x n) ρ (cu (pe Ψ b E).e) fun y ρ2=>K y.1 y.2 ρ2
def sqA(x:T)(n:Bool)(Ψ:PEv)(b:PX)(E:XE)(md:List Md)(ρ:kA)(K:List (T×Bool)->kA->Prop):Prop:=sq (if n=true then .d .none else x) ρ ((pe Ψ b E).a md) K
def sqM(x:T)(n:Bool)(Ψ:PEv)(b:PX)(E:XE)(ρ:kA)(K:List (T×Bool)->kA->Prop):Prop:=sq (fA x n) ρ ((pe Ψ b E).a []) K
def getK(i:Nat)(σ ρ:kA)(K:TK):Prop:=rdV σ[i]? fun t=>K t false ρ
def retK(i:Nat)(σ:kA)(ρ:kA)(j:Nat)(R:T->kA->Prop):Prop:=rdR ρ j R σ[i]?
def setK(Ψ:PEv)(E:XE)(r:PT)(Z:PEnds)(i:Nat)(x:T)(n:Bool)(ρ:kA):Prop:=esc x n=true/\uA Ψ E r Z (ρ.set i (some (.nk (.d x.er))))
def ownK(Ψ:PEv)(E:XE)(r:PT)(Z:PEnds)(i:Nat)(x:T)(n:Bool)(ρ:kA):Prop:=esc x n=true/\uA Ψ E r Z (ρ.set i (some (.own x)))
def escK(x:T)(n:Bool)(P:Prop):Prop:=esc x n=true/\P
def binV(op:Operator)(x:T)(n:Bool)(y:T)(m:Bool)(Q:T->Bool->Prop):Prop:=binT op (fA x n).vw (fA y m).vw Q
def cmpV(op:CmpOp)(x y:T)(Q:Bool->Prop):Prop:=cmpT op x.er y Q
def truV(x:T)(Q:Bool->Prop):Prop:=truD x.er Q
def isiV(c:PX)(x:T)(Q:Bool->Prop):Prop:=isiD c x.er Q
def biV(f:Bi)(xs:List (T×Bool))(Q:T->Bool->Prop):Prop:=biT f (vwOf xs) Q
def idxV(x:T)(n:Bool)(y:T)(m:Bool)(Q:T->Prop):Prop:=idxT (fA x n).vw (fA y m).vw Q∨dixT (fA x n).vw y.er Q
def whlP(Ψ:PEv)(E:XE)(c:PX)(q:PT)(Z:PEnds)(ρ:kA):Prop:=uA Ψ E (.whl c q) Z ρ
def stV(t y x:T)(Q:T->Prop):Prop:=stT t y.er x.er Q
def subV(z t:T)(Q:T->(T->T)->Prop):Prop:=subT z.er t Q
def sdfV(y t:T)(Q:T->Prop):Prop:=sdfT y.er t Q
def slcV(x:T)(n:Bool)(l u:Option Int)(Q:T->Bool->Prop):Prop:=slcT (fA x n).vw l u Q
def lstV(xs:List (T×Bool))(C:List T->Prop):Prop:=escB xs=true/\C (tsOf xs)
def itV(ik:ItK)(xs:List (T×Bool))(R:List T->Prop):Prop:=itemsT ik (vwOf xs) R
def mtV(m:Mt)(x:T)(n:Bool)(xs:List (T×Bool))(Q:T->Bool->Prop):Prop:=mtT m (fA x n).vw (vwOf xs) Q
def passK(md:List Md)(xs:List (T×Bool))(C:List T->Prop):Prop:=optP (YA md xs []) C
def compX(Ψ:PEv)(E:XE)(mask:List Bool)(tgs:List Str)(tg:Tg)(cond elt:PX)(ρ:kA):T->(Option T->Prop)->Prop:=compBody tg (entP tgs.length mask (lockA ρ)) (if isNop cond=true then fun ρ R=>R true ρ else(pe Ψ cond E).t) (pe Ψ elt E).e
def bindK(tg:Tg)(x:T)(ρ:kA)(K:kA->Prop):Prop:=bindV tg x ρ K
section
variable{Ψ:PEv}{E:XE}{ρ:kA}{K:TK}{L:Bool->kA->Prop}{M:List (T×Bool)->kA->Prop}{a b c as its elt cond:PX}{Rt:T->kA->Prop}
section
variable{i j:Nat}{x:T}{op:CmpOp}{f t:Str}{p:PSp}{md:List Md}{n:Bool}{mask m:List Bool}{tgs:List Str}{tg:Tg}{ik:ItK}{R:Option T->Prop}{s:Option Sl}{σ:kA}{ts:List T}
theorem E_var:peE Ψ (.var i) E ρ K=getK i ρ ρ K:=rfl
theorem E_int{i:Int}:peE Ψ (.int i) E ρ K=K (.d (.int i)) false ρ:=rfl
theorem E_str{x:Str}:peE Ψ (.str x) E ρ K=K (.d (.str x)) false ρ:=rfl
theorem E_non:peE Ψ .non E ρ K=K (.d .none) false ρ:=rfl
theorem E_glo{x:Str}{d:D}(h:Ψ.va x=some d):peE Ψ (.glo x) E ρ K=K (.d d) false ρ:=by show(match Ψ.va x with|some d=>K (.d d) false ρ|none=>False)=_;rw[h]
theorem E_bin{op:Operator}:peE Ψ (.bin op a b) E ρ K=peE Ψ a E ρ fun x n ρ1=>sqE x n Ψ b E ρ1 fun y m ρ2=>binV op x n y m fun z k=>K z k ρ2:=rfl
theorem T_cmp:peT Ψ (.cmp op a b) E ρ L=peE Ψ a E ρ fun x n ρ1=>sqE x n Ψ b E ρ1 fun y m ρ2=>cmpV op x (fA y m) fun k=>L k ρ2:=rfl
theorem E_cmp:peE Ψ (.cmp op a b) E ρ K=peT Ψ (.cmp op a b) E ρ fun k ρ1=>K (.d (.bool k)) false ρ1:=rfl
theorem T_and:peT Ψ (.and a b) E ρ L=peT Ψ a E ρ fun c ρ1=>if c=true then peT Ψ b E ρ1 L else L false ρ1:=rfl
theorem T_or:peT Ψ (.or a b) E ρ L=peT Ψ a E ρ fun c ρ1=>if c=true then L true ρ1 else peT Ψ b E ρ1 L:=rfl
theorem T_not:peT Ψ (.not a) E ρ L=peT Ψ a E ρ fun c ρ1=>L (!c) ρ1:=rfl
theorem ZA(h:Ψ.sp f=p)(hm:p.md=md)(hn:(md.all fun m=>!m.isMut)=true):peE Ψ (.call f as) E ρ K=peA Ψ as E md ρ fun xs ρ1=>passK md xs fun ts=>runP p ts (fun r os=>os=[]/\K r true ρ1) E:=by
 have mr:∀(md:List Md) (as:PX),(md.all fun m=>!m.isMut)=true->xA md as=[]:=by
  intro md;induction md with
  |nil=>intro as _;cases as<;>rfl
  |cons m md ih =>
   intro as h;rw[qd,Qb]at h;cases m with
   |chg=>cases h.1
   |_=>cases as with
    |nh a as=>exact ih as h.2
    |_=>rfl
 show(∃os,HA (xA (Ψ.sp f).md as) ρ=some os/\(xA (Ψ.sp f).md as).Nodup/\(pe Ψ as E).a (Ψ.sp f).md (clear (xA (Ψ.sp f).md as) ρ) fun xs ρ1=>∃ts,YA (Ψ.sp f).md xs os=some ts/\(Ψ.sp f).run ts (fun r os'=>∃ρ2,putOwns (xA (Ψ.sp f).md as) os' ρ1=some ρ2/\K r true ρ2) E)=_;rw[h,hm,mr md as hn];have po:∀(r:T) (os:List T) (ρ1:kA),(∃ρ2,putOwns [] os ρ1=some ρ2/\K r true ρ2)=(os=[]/\K r true ρ1):=by
  intro r os ρ1;cases os with
  |nil=>exact propext ⟨fun⟨_,e,k⟩=>by cases e;exact⟨rfl,k⟩,fun k=>⟨_,rfl,k.2⟩⟩
  |cons _ _=>exact propext ⟨fun⟨_,e,k⟩=>(by cases e),fun k=>(by cases k.1)⟩
 have:=fun(ρ1:kA)=>funext fun r=>funext fun os=>po r os ρ1;simp only[this];exact propext ⟨fun⟨_,e,_,k⟩=>by cases e;exact k,fun k=>⟨_,rfl,Q0,k⟩⟩
theorem T_call:peT Ψ (.call f as) E ρ L=peE Ψ (.call f as) E ρ fun t _ ρ1=>truV t fun b=>L b ρ1:=rfl
theorem T_isi:peT Ψ (.isi a c) E ρ L=peE Ψ a E ρ fun x _ ρ1=>isiV c x fun b=>L b ρ1:=rfl
theorem E_isi:peE Ψ (.isi a c) E ρ K=peT Ψ (.isi a c) E ρ fun k ρ1=>K (.d (.bool k)) false ρ1:=rfl
theorem E_bi{f:Bi}:peE Ψ (.bi f as) E ρ K=peA Ψ as E [] ρ fun xs ρ1=>biV f xs fun z k=>K z k ρ1:=rfl
theorem mt_str{m:Mt}{z:Str}(h:isMut m=false):mtTy m (fA (.d (.str z)) n).vw=true:=by cases n<;>cases m<;>first|rfl|cases h
theorem E_join:peE Ψ (.mt .join a as) E ρ K=peE Ψ a E ρ fun x n ρ1=>mtTy .join (fA x n).vw=true/\sqM x n Ψ as E ρ1 fun xs ρ2=>mtV .join x n xs fun z k=>K z k ρ2:=rfl
theorem E_pop:peE Ψ (.mt .pop (.var j) as) E ρ K=ownV ρ[j]? fun t=>mutTy .pop t=true/\peA Ψ as E [] (ρ.set j (some (.nk t))) fun xs ρ2=>escB xs=true/\ρ2[j]?=some (some (.nk t))/\mutT .pop t (tsOf xs) fun r s'=>K r true (ρ2.set j (some (.own s'))):=rfl
theorem E_dnew{x:Bool}:peE Ψ (.dnew x) E ρ K=K (.dct x [] []) true ρ:=rfl
theorem E_dsp:peE Ψ (.dsp a b) E ρ K=peE Ψ a E ρ fun y m ρ1=>escK y m (peE Ψ b E ρ1 fun x n ρ2=>escK x n (keyK true y.er/\K (.dct true [y.er] [x]) true ρ2)):=rfl
theorem E_callc(h:Ψ.sp f=p)(hm:p.md=.chg::md)(hn:(md.all fun m=>!m.isMut)=true):peE Ψ (.call f (.nh (.var j) as)) E ρ K=ownV ρ[j]? fun t=>peA Ψ as E md (ρ.set j none) fun xs ρ1=>passK md xs fun ts=>runP p (t::ts) (fun r os=>∃t',os=[t']/\K r true (ρ1.set j (some (.own t')))) E:=by
 have mr:∀(md:List Md) (as:PX),(md.all fun m=>!m.isMut)=true->xA md as=[]:=by
  intro md;induction md with
  |nil=>intro as _;cases as<;>rfl
  |cons m md ih =>
   intro as h;rw[qd,Qb]at h;cases m with
   |chg=>cases h.1
   |_=>cases as with
    |nh a as=>exact ih as h.2
    |_=>rfl
 show(∃os,HA (xA (Ψ.sp f).md (.nh (.var j) as)) ρ=some os/\(xA (Ψ.sp f).md (.nh (.var j) as)).Nodup/\(pe Ψ (.nh (.var j) as) E).a (Ψ.sp f).md (clear (xA (Ψ.sp f).md (.nh (.var j) as)) ρ) fun xs ρ1=>∃ts,YA (Ψ.sp f).md xs os=some ts/\(Ψ.sp f).run ts (fun r os'=>∃ρ2,putOwns (xA (Ψ.sp f).md (.nh (.var j) as)) os' ρ1=some ρ2/\K r true ρ2) E)=_;rw[h,hm];have e1:xA (.chg::md) (.nh (.var j) as)=[j]:=by show j::xA md as=[j];rw[mr md as hn]
 rw[e1];have po:∀(r:T) (os:List T) (ρ1:kA),(∃ρ2,putOwns [j] os ρ1=some ρ2/\K r true ρ2)=(∃t',os=[t']/\K r true (ρ1.set j (some (.own t')))):=by
  intro r os ρ1
  match os with
  |[]=>exact propext ⟨fun⟨_,e,k⟩=>(by cases e),fun⟨_,e,k⟩=>(by cases e)⟩
  |[t]=>exact propext ⟨fun⟨_,e,k⟩=>by cases e;exact⟨t,rfl,k⟩,fun⟨_,e,k⟩=>by cases e;exact⟨_,rfl,k⟩⟩
  |_::_::_=>exact propext ⟨fun⟨_,e,k⟩=>(by cases e),fun⟨_,e,k⟩=>(by cases e)⟩
 have pf:=fun(ρ1:kA)=>funext fun r=>funext fun os=>po r os ρ1;simp only[pf];have pa:∀(t:T) (xs:List (T×Bool)) (G:List T->Prop),(∃ts,YA (.chg::md) ((.d .none,true)::xs) [t]=some ts/\G ts)=passK md xs fun ts=>G (t::ts):=by
  intro t xs G;show(∃ts,(YA md xs []).map (t::·)=some ts/\G ts)=optP (YA md xs []) fun ts=>G (t::ts);cases YA md xs []with
  |none=>exact propext ⟨fun⟨_,e,_⟩=>(by cases e),fun⟨_,e,_⟩=>(by cases e)⟩
  |some ts=>exact propext ⟨fun⟨_,e,k⟩=>by cases e;exact⟨_,rfl,k⟩,fun⟨_,e,k⟩=>by cases e;exact⟨_,rfl,k⟩⟩
 have oa:∀t,ρ[j]?=some (some (.own t))->HA [j] ρ=some [t]:=fun t e=>by unfold HA;rw[e];rfl
 have ac:∀(os:List T),((pe Ψ (.nh (.var j) as) E).a (.chg::md) (clear [j] ρ) fun xs ρ1=>∃ts,YA (.chg::md) xs os=some ts/\p.run ts (fun r os'=>∃t',os'=[t']/\K r true (ρ1.set j (some (.own t')))) E)=(peA Ψ as E md (ρ.set j none) fun xs ρ1=>∃ts,YA (.chg::md) ((.d .none,true)::xs) os=some ts/\p.run ts (fun r os'=>∃t',os'=[t']/\K r true (ρ1.set j (some (.own t')))) E):=fun os=>propext ⟨fun h=>h.2,fun h=>⟨rfl,h⟩⟩;simp only[ac]
 match e:ρ[j]? with
 |some (some (.own t))=>show _=(peA Ψ as E md (ρ.set j none) fun xs ρ1=>passK md xs fun ts=>runP p (t::ts) (fun r os=>∃t',os=[t']/\K r true (ρ1.set j (some (.own t')))) E);rw[oa t e];have:=fun xs (ρ1:kA)=>pa t xs fun ts=>p.run ts (fun r os'=>∃t',os'=[t']/\K r true (ρ1.set j (some (.own t')))) E;refine propext ⟨fun⟨_,e,_,k⟩=>?_,fun k=>⟨_,rfl,by simp,?_⟩⟩;cases e;simp only[this]at k;exact k;simp only[this];exact k
 |some (some (.nk t))=>exact propext ⟨fun⟨_,z,_⟩=>(by unfold HA at z;rw[e]at z;cases z),fun k=>k.elim⟩
 |some none=>exact propext ⟨fun⟨_,z,_⟩=>(by unfold HA at z;rw[e]at z;cases z),fun k=>k.elim⟩
 |none=>exact propext ⟨fun⟨_,z,_⟩=>(by unfold HA at z;rw[e]at z;cases z),fun k=>k.elim⟩
theorem E_append:peE Ψ (.mt .append (.var j) as) E ρ K=ownV ρ[j]? fun t=>mutTy .append t=true/\peA Ψ as E [] (ρ.set j (some (.nk t))) fun xs ρ2=>escB xs=true/\ρ2[j]?=some (some (.nk t))/\mutT .append t (tsOf xs) fun r s'=>K r true (ρ2.set j (some (.own s'))):=rfl
theorem E_idx:peE Ψ (.idx a b) E ρ K=peE Ψ a E ρ fun x n ρ1=>sqE x n Ψ b E ρ1 fun y m ρ2=>idxV x n y m fun z=>K z false ρ2:=rfl
theorem E_slc_hi{i:Int}:peE Ψ (.slc a .nop (.int i)) E ρ K=peE Ψ a E ρ fun x n ρ1=>slcV x n none (some i) fun z k=>K z k ρ1:=by
 show(pe Ψ a E).e ρ (fun x n ρ1=>sq (fA x n) ρ1 (fun ρ (R:Option Int->kA->Prop)=>R none ρ) fun l ρ2=>sq (fA x n) ρ2 (fun ρ (R:Option Int->kA->Prop)=>R (some i) ρ) fun u ρ3=>slcT (fA x n).vw l u fun z k=>K z k ρ3)=_;have:∀x n ρ1,(sq (fA x n) ρ1 (fun ρ (R:Option Int->kA->Prop)=>R none ρ) fun l ρ2=>sq (fA x n) ρ2 (fun ρ (R:Option Int->kA->Prop)=>R (some i) ρ) fun u ρ3=>slcT (fA x n).vw l u fun z k=>K z k ρ3)=slcT (fA x n).vw none (some i) fun z k=>K z k ρ1:=by intro x n ρ1;unfold sq;split<;>rfl
 simp only[this];rfl
theorem E_lst:peE Ψ (.lst as) E ρ K=peA Ψ as E [] ρ fun xs ρ1=>xs.length<=sizeLine/\lstV xs fun ts=>K (.lst ts) true ρ1:=by have:∀(xs:List (T×Bool)) ρ1,(xs.length<=sizeLine/\lstV xs fun ts=>K (.lst ts) true ρ1)=(escB xs=true/\xs.length<=sizeLine/\K (.lst (tsOf xs)) true ρ1):=fun xs ρ1=>propext ⟨fun h=>⟨h.2.1,h.1,h.2.2⟩,fun h=>⟨h.2.1,h.1,h.2.2⟩⟩;simp only[this];rfl
theorem E_tup:peE Ψ (.tup as) E ρ K=peA Ψ as E [] ρ fun xs ρ1=>xs.length<=sizeLine/\lstV xs fun ts=>K (mkTup ts) true ρ1:=by have:∀(xs:List (T×Bool)) ρ1,(xs.length<=sizeLine/\lstV xs fun ts=>K (mkTup ts) true ρ1)=(escB xs=true/\xs.length<=sizeLine/\K (mkTup (tsOf xs)) true ρ1):=fun xs ρ1=>propext ⟨fun h=>⟨h.2.1,h.1,h.2.2⟩,fun h=>⟨h.2.1,h.1,h.2.2⟩⟩;simp only[this];rfl
theorem E_comp:peE Ψ (.comp mask tgs tg ik its cond elt) E ρ K=peA Ψ its E [] ρ fun xs ρ1=>itV ik xs fun items =>
   compV (compX Ψ (fun _=>False) mask tgs tg cond elt ρ1) items [] fun ys=>K (.lst ys) true ρ1:=rfl
theorem X_nop:compX Ψ E [] [t] (.nm 0) .nop elt ρ x R=peE Ψ elt E (some (.nk x)::lockA ρ) fun y n _=>escK y n (R (some y)):=rfl
theorem X_m1{b:Bool}:compX Ψ E (b::m) [t] (.nm 0) .nop elt ρ x R=peE Ψ elt E (some (.nk x)::maskP (b::m) (lockA ρ)) fun y n _=>escK y n (R (some y)):=rfl
theorem X_cmp:compX Ψ E [] [t] (.nm 0) (.cmp op a b) elt ρ x R=peT Ψ (.cmp op a b) E (some (.nk x)::lockA ρ) fun k ρ2=>if k=true then peE Ψ elt E ρ2 fun y n _=>escK y n (R (some y)) else R none:=rfl
theorem A_nil:peA Ψ .nj E md ρ M=M [] ρ:=rfl
theorem A_cons:peA Ψ (.nh a as) E [] ρ M=peE Ψ a E ρ fun x n ρ1=>sqA x n Ψ as E [] ρ1 fun xs ρ2=>M ((x,n)::xs) ρ2:=rfl
theorem A_cons_s:peA Ψ (.nh a as) E (.nr::md) ρ M=peE Ψ a E ρ fun x n ρ1=>sqA x n Ψ as E md ρ1 fun xs ρ2=>M ((x,n)::xs) ρ2:=rfl
theorem A_cons_b:peA Ψ (.nh a as) E (.nk::md) ρ M=peE Ψ a E ρ fun x n ρ1=>sqA x n Ψ as E md ρ1 fun xs ρ2=>M ((x,n)::xs) ρ2:=rfl
theorem R_var:retP Ψ E Rt (.var i) ρ=retK i ρ ρ i Rt:=rfl
theorem R_bl{x:Bool}:retP Ψ E Rt (.bl x) ρ=Rt (.d (.bool x)) ρ:=propext ⟨fun h=>h.2,fun h=>⟨rfl,h⟩⟩
theorem R_bin{op:Operator}:retP Ψ E Rt (.bin op a b) ρ=peE Ψ (.bin op a b) E ρ fun x n ρ1=>escK x n (Rt x ρ1):=rfl
theorem R_cmp:retP Ψ E Rt (.cmp op a b) ρ=peE Ψ (.cmp op a b) E ρ fun x n ρ1=>escK x n (Rt x ρ1):=rfl
theorem R_bi{f:Bi}:retP Ψ E Rt (.bi f as) ρ=peE Ψ (.bi f as) E ρ fun x n ρ1=>escK x n (Rt x ρ1):=rfl
theorem R_idx:retP Ψ E Rt (.idx a b) ρ=peE Ψ (.idx a b) E ρ fun x n ρ1=>escK x n (Rt x ρ1):=rfl
theorem R_tup:retP Ψ E Rt (.tup as) ρ=peE Ψ (.tup as) E ρ fun x n ρ1=>escK x n (Rt x ρ1):=rfl
theorem R_comp:retP Ψ E Rt (.comp mask tgs tg ik its cond elt) ρ=peE Ψ (.comp mask tgs tg ik its cond elt) E ρ fun x n ρ1=>escK x n (Rt x ρ1):=rfl
theorem G_s:getK (i+1) (s::σ) ρ K=getK i σ ρ K:=rfl
theorem G_b{t:T}:getK 0 (some (.nk t)::σ) ρ K=K t false ρ:=rfl
theorem G_o{t:T}:getK 0 (some (.own t)::σ) ρ K=K t false ρ:=rfl
theorem G_l:getK i (lockA σ) ρ K=getK i σ ρ K:=by
 unfold getK lockA;rw[QY];cases σ[i]? with
 |none=>rfl
 |some s=>cases s with
  |none=>rfl
  |some s=>cases s<;>rfl
theorem G_m{b:Bool}:getK (i+1) (maskP (b::m) (lockA (s::σ))) ρ K=getK i (maskP m (lockA σ)) ρ K:=rfl
theorem G_m0:getK 0 (maskP (false::m) (lockA (s::σ))) ρ K=getK 0 (lockA (s::σ)) ρ K:=rfl
theorem H_s:retK (i+1) (s::σ) ρ j Rt=retK i σ ρ j Rt:=rfl
theorem H_b{x:D}:retK 0 (some (.nk (.d x))::σ) ρ j Rt=Rt (.d x) ρ:=propext ⟨fun h=>h.2,fun h=>⟨rfl,h⟩⟩
theorem H_o{t:T}:retK 0 (some (.own t)::σ) ρ j Rt=Rt t (ρ.set j none):=rfl
theorem Q_d{x:D}:sqE (.d x) n Ψ b E ρ K=peE Ψ b E ρ K:=by cases n<;>rfl
theorem Q_n:sqE x true Ψ b E ρ K=peE Ψ b E ρ K:=rfl
theorem Q_l:sqE (.lst ts) false Ψ b E ρ K=peE Ψ b E (lockA ρ) fun y m _=>K y m ρ:=rfl
theorem J_d{x:D}:sqA (.d x) n Ψ b E md ρ M=peA Ψ b E md ρ M:=by cases n<;>rfl
theorem J_n:sqA x true Ψ b E md ρ M=peA Ψ b E md ρ M:=rfl
theorem J_l:sqA (.lst ts) false Ψ b E md ρ M=peA Ψ b E md (lockA ρ) fun xs _=>M xs ρ:=rfl
theorem M_d{x:D}:sqM (.d x) n Ψ b E ρ M=peA Ψ b E [] ρ M:=by cases n<;>rfl
end
end
section
variable{Ψ:PEv}{E:XE}{ρ σ:kA}{Z:PEnds}{s r q:PT}{i:Nat}{e c its:PX}{o:Option Sl}{n:Bool}{v:D}{P:Prop}{ds:List D}{x:T}
section
variable{j:Nat}{is:List Nat}{A B:Prop}
theorem cA:uA Ψ E .nil Z ρ=Z.nx ρ:=rfl
theorem S_set:uA Ψ E (.seq (.set i e) r) Z (o::σ)=peE Ψ e E (o::σ) fun x n ρ1=>setK Ψ E r Z i x n ρ1:=rfl
theorem S_own:uA Ψ E (.seq (.own i e) r) Z (o::σ)=peE Ψ e E (o::σ) fun x n ρ1=>ownK Ψ E r Z i x n ρ1:=rfl
theorem S_expr:uA Ψ E (.seq (.expr e) r) Z (o::σ)=peE Ψ e E (o::σ) fun _ _ ρ1=>uA Ψ E r Z ρ1:=rfl
theorem S_ret:uA Ψ E (.seq (.ret e) r) Z (o::σ)=retP Ψ E Z.rt e (o::σ):=rfl
theorem S_ife:uA Ψ E (.seq (.ife c s .nil) r) Z (o::σ)=peT Ψ c E (o::σ) fun k ρ1=>if k=true then uA Ψ E s { Z with nx:=fun ρ'=>uA Ψ E r Z ρ' } ρ1 else uA Ψ E r Z ρ1:=rfl
theorem S_for{tg:Tg}{ik:ItK}:uA Ψ E (.seq (.for_ tg ik its q) r) Z (o::σ)=peA Ψ its E [] (o::σ) fun xs ρ1=>itV ik xs fun items =>
   if allD xs=true then forV (uA Ψ E q) tg { Z with nx:=fun ρ2=>uA Ψ E r Z (kill tg.ix ρ2) } items ρ1
   else forV (uA Ψ E q) tg { Z with nx:=fun ρ2=>unlock tg.ix (ownsIn ρ1 (vrs its)) ρ1 (fun ρ'=>uA Ψ E r Z ρ') (kill tg.ix ρ2) } items (lock (ownsIn ρ1 (vrs its)) ρ1):=rfl
theorem S_six{a:PX}:uA Ψ E (.seq (.six (.var j) a e) r) Z (o::σ)=ownV (o::σ)[j]? fun t=>peE Ψ e E ((o::σ).set j (some (.nk t))) fun x n ρ1=>escK x n (peE Ψ a E ρ1 fun y m ρ2=>escK y m (ρ2[j]?=some (some (.nk t))/\stV t y x fun t'=>uA Ψ E r Z (ρ2.set j (some (.own t'))))):=rfl
theorem S_six2{a k:PX}:uA Ψ E (.seq (.six (.idx (.var j) k) a e) r) Z (o::σ)=ownV (o::σ)[j]? fun t=>peE Ψ e E ((o::σ).set j (some (.nk t))) fun x n ρ1=>escK x n (peE Ψ k E ρ1 fun z l ρ2=>escK z l (subV z t fun s put=>peE Ψ a E ρ2 fun y m ρ3=>escK y m (ρ3[j]?=some (some (.nk t))/\stV s y x fun s'=>uA Ψ E r Z (ρ3.set j (some (.own (put s'))))))):=rfl
theorem S_sdf{k:PX}:uA Ψ E (.seq (.sdf j k) r) Z (o::σ)=ownV (o::σ)[j]? fun t=>dctB t=true/\peE Ψ k E ((o::σ).set j (some (.nk t))) fun y m ρ1=>escK y m (ρ1[j]?=some (some (.nk t))/\sdfV y t fun t'=>uA Ψ E r Z (ρ1.set j (some (.own t')))):=rfl
theorem S_tset:uA Ψ E (.seq (.tset is e) r) Z (o::σ)=peE Ψ e E (o::σ) fun x n ρ1=>escK x n (bindK (.tp is) (.d x.er) ρ1 fun ρ2=>uA Ψ E r Z ρ2):=rfl
theorem S_frz:uA Ψ E (.seq (.frz is s) r) Z (o::σ)=uA Ψ E (.seq s r) Z (frzAt is (o::σ)):=rfl
theorem S_whl:uA Ψ E (.seq (.whl c q) r) Z (o::σ)=whlP Ψ E c q { Z with nx:=fun ρ'=>uA Ψ E r Z ρ' } (o::σ):=rfl
theorem K_d:setK Ψ E r Z i (.d v) n ρ=uA Ψ E r Z (ρ.set i (some (.nk (.d v)))):=propext ⟨fun h=>h.2,fun h=>⟨by cases n<;>rfl,h⟩⟩
theorem K_l:setK Ψ E r Z i (.lst (ds.map T.d)) true ρ=uA Ψ E r Z (ρ.set i (some (.nk (.d (.list ds))))):=by unfold setK T.er;rw[ersT_map];exact propext ⟨fun h=>h.2,fun h=>⟨rfl,h⟩⟩
theorem O_n:ownK Ψ E r Z i x true ρ=uA Ψ E r Z (ρ.set i (some (.own x))):=propext ⟨fun h=>h.2,fun h=>⟨rfl,h⟩⟩
theorem C_d:escK (.d v) n P=P:=propext ⟨fun h=>h.2,fun h=>⟨by cases n<;>rfl,h⟩⟩
theorem C_n:escK x true P=P:=propext ⟨fun h=>h.2,fun h=>⟨rfl,h⟩⟩
theorem nil_and:(([]:List T)=[]/\P)=P:=propext ⟨fun h=>h.2,fun h=>⟨rfl,h⟩⟩
theorem if_t:(if(true:Bool)=true then A else B)=A:=rfl
theorem if_f:(if(false:Bool)=true then A else B)=B:=rfl
theorem N_0{v a0:Option Sl}:uA Ψ E r Z (WE (a0::σ) 0 v)=uA Ψ E r Z (v::σ):=rfl
theorem N_1{v a0 a1:Option Sl}:uA Ψ E r Z (WE (a0::a1::σ) 1 v)=uA Ψ E r Z (a0::v::σ):=rfl
theorem N_2{v a0 a1 a2:Option Sl}:uA Ψ E r Z (WE (a0::a1::a2::σ) 2 v)=uA Ψ E r Z (a0::a1::v::σ):=rfl
theorem N_3{v a0 a1 a2 a3:Option Sl}:uA Ψ E r Z (WE (a0::a1::a2::a3::σ) 3 v)=uA Ψ E r Z (a0::a1::a2::v::σ):=rfl
theorem N_4{v a0 a1 a2 a3 a4:Option Sl}:uA Ψ E r Z (WE (a0::a1::a2::a3::a4::σ) 4 v)=uA Ψ E r Z (a0::a1::a2::a3::v::σ):=rfl
theorem N_5{v a0 a1 a2 a3 a4 a5:Option Sl}:uA Ψ E r Z (WE (a0::a1::a2::a3::a4::a5::σ) 5 v)=uA Ψ E r Z (a0::a1::a2::a3::a4::v::σ):=rfl
theorem N_6{v a0 a1 a2 a3 a4 a5 a6:Option Sl}:uA Ψ E r Z (WE (a0::a1::a2::a3::a4::a5::a6::σ) 6 v)=uA Ψ E r Z (a0::a1::a2::a3::a4::a5::v::σ):=rfl
theorem N_7{v a0 a1 a2 a3 a4 a5 a6 a7:Option Sl}:uA Ψ E r Z (WE (a0::a1::a2::a3::a4::a5::a6::a7::σ) 7 v)=uA Ψ E r Z (a0::a1::a2::a3::a4::a5::a6::v::σ):=rfl
theorem N_8{v a0 a1 a2 a3 a4 a5 a6 a7 a8:Option Sl}:uA Ψ E r Z (WE (a0::a1::a2::a3::a4::a5::a6::a7::a8::σ) 8 v)=uA Ψ E r Z (a0::a1::a2::a3::a4::a5::a6::a7::v::σ):=rfl
theorem N_9{v a0 a1 a2 a3 a4 a5 a6 a7 a8 a9:Option Sl}:uA Ψ E r Z (WE (a0::a1::a2::a3::a4::a5::a6::a7::a8::a9::σ) 9 v)=uA Ψ E r Z (a0::a1::a2::a3::a4::a5::a6::a7::a8::v::σ):=rfl
theorem N_10{v a0 a1 a2 a3 a4 a5 a6 a7 a8 a9 a10:Option Sl}:uA Ψ E r Z (WE (a0::a1::a2::a3::a4::a5::a6::a7::a8::a9::a10::σ) 10 v)=uA Ψ E r Z (a0::a1::a2::a3::a4::a5::a6::a7::a8::a9::v::σ):=rfl
theorem N_11{v a0 a1 a2 a3 a4 a5 a6 a7 a8 a9 a10 a11:Option Sl}:uA Ψ E r Z (WE (a0::a1::a2::a3::a4::a5::a6::a7::a8::a9::a10::a11::σ) 11 v)=uA Ψ E r Z (a0::a1::a2::a3::a4::a5::a6::a7::a8::a9::a10::v::σ):=rfl
theorem N_12{v a0 a1 a2 a3 a4 a5 a6 a7 a8 a9 a10 a11 a12:Option Sl}:uA Ψ E r Z (WE (a0::a1::a2::a3::a4::a5::a6::a7::a8::a9::a10::a11::a12::σ) 12 v)=uA Ψ E r Z (a0::a1::a2::a3::a4::a5::a6::a7::a8::a9::a10::a11::v::σ):=rfl
end
end
section
variable{d:D}{n m:Bool}{i j:Int}{z y:Str}{b:Bool}{xs:List (T×Bool)}{ts:List T}{ds es:List D}{md:List Md}{t:T}{C:List T->Prop}{Q:T->Bool->Prop}{L:Bool->Prop}{R:T->Prop}{W:List T->Prop}
section
variable{ρ:kA}{P:kA->Prop}{e f k:D}{op:CmpOp}{x:Str}{kvs:List (D×D)}
theorem st_l{i:Int}{x:D}{Q:T->Prop}(h0:0<=i)(h1:i<ds.length)(q:Q (.lst ((ds.set i.toNat x).map T.d))):stV (.lst (ds.map T.d)) (.d (.int i)) (.d x) Q:=by
 have h:i.toNat<ds.length:=by omega
 refine⟨i.toNat,?_,by rw[<- QBW];exact q⟩;unfold ixN;rw[QG];rw[if_pos h0,if_pos h1]
theorem at_in{l:List Nat}{i:Int}{K:Nat->Prop}(h0:0<=i)(h1:i<l.length)(k:∀v,v∈l->K v):optP (atI l i) K:=by obtain⟨v,h2,h3⟩:=atI_pos h0 h1;exact⟨v,h2,k v (qF h3)⟩
theorem at_inD{i:Int}{K:D->Prop}(h0:0<=i)(h1:i<ds.length)(k:∀v,v∈ds->K v):optP (atI ds i) K:=by obtain⟨v,h2,h3⟩:=atI_pos h0 h1;exact⟨v,h2,k v (qF h3)⟩
theorem U_nil{J:List Nat}{ρ0:kA}{N:kA->Prop}:unlock J [] ρ0 N ρ=N ρ:=propext ⟨fun h=>h.2,fun h=>⟨fun _ z=>(nomatch z),h⟩⟩
theorem map_d{α:Type}(f:α->D)(l:List α):l.map (fun c=>T.d (f c))=(l.map f).map T.d:=by rw[Qp];rfl
theorem lst_vw:(fA (.lst (ds.map T.d)) n).vw=.ls (ds.map T.d):=by cases n;rfl;show Vw.ls ((ersT (ds.map T.d)).map T.d)=_;rw[ersT_map]
theorem P_nil:passK md [] C=C []:=optP_s
theorem P_d:passK [] ((.d d,n)::xs) C=passK [] xs fun ts=>C (.d d::ts):=by
 have e:YA [] ((.d d,n)::xs) []=(YA [] xs []).map (.d d::·):=by cases n<;>rfl
 unfold passK;rw[e,optP_m]
theorem P_b:passK (.nk::md) ((t,false)::xs) C=passK md xs fun ts=>C (t::ts):=by have e:YA (.nk::md) ((t,false)::xs) []=(YA md xs []).map (t::·):=rfl;unfold passK;rw[e,optP_m]
theorem shal_l:shalT (.lst (ds.map T.d))=some (.lst (ds.map T.d)):=by simp only[shalT,T.vw,iA,Q6]
theorem P_s{u:T}(h:shalT (fA t n)=some u):passK (.nr::md) ((t,n)::xs) C=passK md xs fun ts=>C (u::ts):=by
 have e:YA (.nr::md) ((t,n)::xs) []=(YA md xs []).map (u::·):=by show(match shalT (fA t n) with|some t=>(YA md xs []).map (t::·)|none=>none)=_;rw[h]
 unfold passK;rw[e,optP_m]
theorem P_sl:passK (.nr::md) ((.lst (ds.map T.d),n)::xs) C=passK md xs fun ts=>C (.lst (ds.map T.d)::ts):=P_s (by cases n;exact shal_l;show shalT (.d (.list (ersT (ds.map T.d))))=_;rw[ersT_map];simp only[shalT,T.vw,iA,Q6])
theorem L_nil:lstV [] C=C []:=propext ⟨fun h=>h.2,fun h=>⟨rfl,h⟩⟩
theorem L_l:lstV ((.lst (ds.map T.d),true)::xs) C=lstV xs fun ts=>C (.lst (ds.map T.d)::ts):=by show((esc (.lst (ds.map T.d)) true&&escB xs)=true/\C (.lst (ds.map T.d)::tsOf xs))=(escB xs=true/\C (.lst (ds.map T.d)::tsOf xs));rw[show esc (.lst (ds.map T.d)) true=true from rfl,QAE]
theorem L_d:lstV ((.d d,n)::xs) C=lstV xs fun ts=>C (.d d::ts):=by show((esc (.d d) n&&escB xs)=true/\C (.d d::tsOf xs))=(escB xs=true/\C (.d d::tsOf xs));rw[show esc (.d d) n=true by cases n<;>rfl,QAE]
theorem B_nm{i:Nat}:bindK (.nm i) t ρ P=P (ρ.set i (some (.nk t))):=rfl
theorem bv_k{tg:Tg}:bindV tg t ρ P=bindK tg t ρ P:=rfl
theorem V_add:binV .Add (.d (.int i)) n (.d (.int j)) m Q=Q (.d (.int (i+j))) false:=by unfold binV;rw[rA,rA];exact binT_1 i j
theorem V_sub:binV .Sub (.d (.int i)) n (.d (.int j)) m Q=Q (.d (.int (i - j))) false:=by unfold binV;rw[rA,rA];exact binT_5 i j
theorem V_mul:binV .Mult (.d (.int i)) n (.d (.int j)) m Q=(IntMulOk i j/\Q (.d (.int (i * j))) false):=by unfold binV;rw[rA,rA];exact binT_6 i j
theorem V_rep:binV .Mult (.d (.str z)) n (.d (.int j)) m Q=((-(2 ^ 31)<=j/\j<2 ^ 31/\z.length * j.toNat<=sizeLine)/\Q (.d (.str (repS z j))) false):=by unfold binV;rw[rA,rA];exact binT_7 z j
theorem V_div:binV .FloorDiv (.d (.int i)) n (.d (.int j)) m Q=((0<j/\j<2 ^ 200)/\Q (.d (.int (i / j))) false):=by unfold binV;rw[rA,rA];exact binT_8 i j
theorem V_mod:binV .Mod (.d (.int i)) n (.d (.int j)) m Q=(0<j/\Q (.d (.int (i % j))) false):=by unfold binV;rw[rA,rA];exact binT_9 i j
theorem V_ls:binV .Add (.lst (ds.map T.d)) n (.lst (es.map T.d)) m Q=(ds.length+es.length<=sizeLine/\Q (.lst ((ds++es).map T.d)) true):=by unfold binV;rw[lst_vw,lst_vw,binT_3,iA,iA];exact propext ⟨fun⟨_,_,e1,e2,k⟩=>by cases e1;cases e2;exact k,fun k=>⟨_,_,rfl,rfl,k⟩⟩
theorem mk_2:mkTup [.d d,.d e]=.d (.tuple [d,e]):=rfl
theorem mk_4{g:D}:mkTup [.d d,.d e,.d f,.d g]=.d (.tuple [d,e,f,g]):=rfl
theorem c_eqi:cmpV .Eq (.d (.int i)) (.d (.int j)) L=L (decide (i=j)):=rfl
theorem c_eqs:cmpV .Eq (.d (.str z)) (.d (.str y)) L=L (decide (z=y)):=rfl
theorem c_nei:cmpV .NotEq (.d (.int i)) (.d (.int j)) L=L (!decide (i=j)):=rfl
theorem c_nes:cmpV .NotEq (.d (.str z)) (.d (.str y)) L=L (!decide (z=y)):=rfl
theorem c_lt:cmpV .Lt (.d (.int i)) (.d (.int j)) L=L (decide (i<j)):=rfl
theorem cmpV_l:cmpV op (.d d) (.lst (ds.map T.d)) L=cmpD op d (.list ds) L:=by show cmpD op d (.list (ersT (ds.map T.d))) L=_;rw[ersT_map]
theorem c_gt:cmpV .Gt (.d (.int i)) (.d (.int j)) L=L (decide (j<i)):=rfl
theorem c_Fn{u:T}:cmpV op t (fA u false) L=cmpV op t u L:=rfl
theorem c_nink:cmpV .NotIn (.d (.str z)) (.d (.list ds)) L=(((flatD (.str z)=true/\ds.all flatD=true)∨(okD (.str z)/\okD (.list ds)))/\L (!(ds.any fun y=>Qw y (.str z)))):=rfl
theorem c_ninD{ks:List D}:cmpV .NotIn (.d d) (.dct b ks ts) L=(keyK b d/\L (!(dA ks d).isSome)):=by show(keyK b d/\((CmpOp.NotIn=.In/\L (dA ks d).isSome)∨(CmpOp.NotIn=.NotIn/\L (!(dA ks d).isSome))))=_;simp
theorem c_inl:cmpV .In (.d (.str z)) (.lst (ds.map T.d)) L=(((flatD (.str z)=true/\ds.all flatD=true)∨(okD (.str z)/\okD (.list ds)))/\L (ds.any fun y=>Qw y (.str z))):=by exact cmpV_l
theorem t_b:truV (.d (.bool b)) L=L b:=rfl
theorem i_of{k:String}(h:isD k d=some b)(hk:isTyN k=true):isiV (.bty x k) (.d d) L=L b:=by show(∃b,isD k d=some b/\isTyN k=true/\L b)=_;exact propext ⟨fun⟨_,e,_,q⟩=>by rw[h]at e;cases e;exact q,fun q=>⟨_,h,hk,q⟩⟩
theorem i_ss:isiV (.bty x "str") (.d (.str z)) L=L true:=i_of rfl rfl
theorem n_ld:biV .len [(.d (.list ds),n)] Q=Q (.d (.int ds.length)) false:=by unfold biV vwOf;rw[rA];refine(biT_2 _).trans ?_;rw[QG]
theorem n_ll:biV .len [(.lst (ds.map T.d),n)] Q=Q (.d (.int ds.length)) false:=by unfold biV vwOf;rw[lst_vw];refine(biT_2 _).trans ?_;rw[QG]
theorem n_lof:biV .list [(.lst (ds.map T.d),n)] Q=Q (.lst (ds.map T.d)) true:=by unfold biV vwOf;rw[lst_vw];refine(biT_5 _).trans ?_;rw[iA];exact optP_s
theorem n_lod:biV .list [(.d (.list ds),n)] Q=Q (.lst (ds.map T.d)) true:=by unfold biV vwOf;rw[rA];refine(biT_5 _).trans ?_;rw[iA];exact optP_s
theorem dix_ls:dixT (.ls ts) k R=False:=propext ⟨fun⟨_,_,_,_,_,e,_⟩=>(by cases e),QW⟩
theorem dix_tp:dixT (.tp ts) k R=False:=propext ⟨fun⟨_,_,_,_,_,e,_⟩=>(by cases e),QW⟩
theorem dix_sc{x:D}:dixT (.sc x) k R=False:=propext ⟨fun⟨_,_,_,_,_,e,_⟩=>(by cases e),QW⟩
theorem x_l:idxV (.lst (ds.map T.d)) n (.d (.int i)) m R=optP (atI ds i) fun d=>R (.d d):=by unfold idxV;rw[lst_vw,rA,dix_ls,or_false];refine(idxT_2 _ _).trans ?_;show optP (atI (ds.map T.d) i) R=_;rw[atI_map,optP_m]
theorem x_ld:idxV (.d (.list ds)) n (.d (.int i)) m R=optP (atI ds i) fun d=>R (.d d):=by unfold idxV;rw[rA,rA,show(T.d (.list ds)).vw=.ls (ds.map T.d) from rfl,dix_ls,or_false];refine(idxT_2 _ _).trans ?_;show optP (atI (ds.map T.d) i) R=_;rw[atI_map,optP_m]
theorem x_td:idxV (.d (.tuple ds)) n (.d (.int i)) m R=optP (atI ds i) fun d=>R (.d d):=by unfold idxV;rw[rA,rA,show(T.d (.tuple ds)).vw=.tp (ds.map T.d) from rfl,dix_tp,or_false];refine(idxT_3 _ _).trans ?_;show optP (atI (ds.map T.d) i) R=_;rw[atI_map,optP_m]
theorem x_s:idxV (.d (.str z)) n (.d (.int i)) m R=(z.length<=sizeLine/\optP (atI z.cps.toList i) fun c=>R (.d (.str ⟨#[c]⟩))):=by unfold idxV;rw[rA,rA,show(T.d (.str z)).vw=.sc (.str z) from rfl,dix_sc,or_false];exact idxT_1 _ _
theorem x_l3:idxV (.lst [.d d,.d e,.d f]) n t m R=idxV (.lst ([d,e,f].map T.d)) n t m R:=rfl
theorem x_l4{g:D}:idxV (.lst [.d d,.d e,.d f,.d g]) n t m R=idxV (.lst ([d,e,f,g].map T.d)) n t m R:=rfl
theorem x_dk{q:Bool}{l:Nat}(h1:kindD kvs=some q)(h2:keyK q k)(h3:dA (kvs.map (·.1)) k=some l)(h4:(kvs.map (·.2))[l]?=some e)(h5:R (.d e)):idxV (.d (.dict kvs)) n (.d k) m R:=by
 unfold idxV;rw[rA];refine .inr ?_;show dixT (vwDict kvs) k R;unfold vwDict;rw[h1];refine⟨q,_,_,l,.d e,rfl,h2,h3,?_,h5⟩;rw[QY]at h4 ⊢;cases z:kvs[l]? with
 |none=>rw[z]at h4;cases h4
 |some p=>rw[z]at h4;cases h4;rfl
theorem s_ll{l u:Option Int}:slcV (.lst (ds.map T.d)) n l u Q=Q (.lst ((cutD ds l u).map T.d)) true:=by unfold slcV;rw[lst_vw];refine(slcT_2 _).trans ?_;rw[iA];exact optP_s
theorem m_jn:mtV .join (.d (.str z)) n [(.lst (ds.map T.d),m)] Q=∃ys:List Str,ds=ys.map PyData.str/\(ys.map (·.length)).sum+ys.length * z.length<=16777216/\Q (.d (.str (QAL z ys))) false:=by unfold mtV vwOf;rw[rA,lst_vw];refine(mtT_1 z _).trans ?_;simp only[iA,Ql]
theorem m_tj{P:Prop}:(mtTy .join (fA (.d (.str z)) n).vw=true/\P)=P:=propext ⟨fun h=>h.2,fun h=>⟨mt_str rfl,h⟩⟩
theorem w_l:itV .val [(.d (.list ds),n)] W=W (ds.map T.d):=by unfold itV vwOf;rw[rA];exact itemsT_2 _
theorem w_ll:itV .val [(.lst (ds.map T.d),n)] W=W (ds.map T.d):=by unfold itV vwOf;rw[lst_vw];exact itemsT_2 _
theorem w_r1:itV .rng1 [(.d (.int j),n)] W=((-(2 ^ 62)<=j/\j<2 ^ 62)/\W ((Qz j.toNat).map fun(i:Nat)=>.d (.int (i:Int)))):=by unfold itV vwOf;rw[rA];exact itemsT_4 j
theorem w_en:itV .enum [(.d (.list ds),n)] W=W (ds.zipIdx.map fun p=>.d (.tuple [.int (p.2:Int),p.1])):=by unfold itV vwOf;rw[rA];refine(itemsT_5 _).trans ?_;exact propext ⟨fun⟨_,_,e1,e2,k⟩=>by cases e1;rw[iA]at e2;cases e2;exact k,fun k=>⟨_,_,rfl,iA _,k⟩⟩
theorem w_enl:itV .enum [(.lst (ds.map T.d),n)] W=W (ds.zipIdx.map fun p=>.d (.tuple [.int (p.2:Int),p.1])):=by unfold itV vwOf;rw[lst_vw];refine(itemsT_5 _).trans ?_;exact propext ⟨fun⟨_,_,e1,e2,k⟩=>by cases e1;rw[iA]at e2;cases e2;exact k,fun k=>⟨_,_,rfl,iA _,k⟩⟩
theorem w_itm(h:kvs=[]∨kindD kvs=some true):itV .itm [(.d (.dict kvs),n)] W=W (kvs.map fun p=>.d (.tuple [p.1,p.2])):=by
 unfold itV vwOf;rw[rA];show itemsT .itm [vwDict kvs] W=_;rcases h with rfl|h;exact itemsT_7;unfold vwDict;rw[h];refine(itemsT_6 _ _).trans ?_;have e:(kvs.map fun p=>T.d p.2)=(kvs.map (·.2)).map T.d:=by rw[Qp];rfl
 have e2:((kvs.map (·.1)).zip (kvs.map (·.2))).map (fun p=>T.d (.tuple [p.1,p.2]))=kvs.map fun p=>T.d (.tuple [p.1,p.2]):=by rw[List.zip_map',Qp];rfl
 refine propext ⟨fun⟨ds,e1,k⟩=>?_,fun k=>⟨kvs.map (·.2),by rw[e,iA],?_⟩⟩;rw[e,iA]at e1;cases e1;rw[e2]at k;exact k;rw[e2];exact k
def eZ(Q:T->List T->Prop):PEnds:={ nx:=fun _=>Q (.d .none) [],rt:=fun t _=>Q t [] }
theorem eZ_rt{Q:T->List T->Prop}{t:T}:(eZ Q).rt t ρ=Q t []:=rfl
theorem begin_ok{Ψ:PEv}{b:PT}{p:PSp}{N ps:List Str}{ds:List T}{Q:T->List T->Prop}(ρ:kA)(hl:ds.length=ps.length)(hc:chgIx 0 p.md ps.length=[])(hs:nA N p.md ds=ρ)(h:uA Ψ (fun _=>False) b (eZ Q) ρ):ds.length=ps.length/\uA Ψ (fun _=>False) b (endsP p ps.length Q) (nA N p.md ds):=by
 have e:endsP p ps.length Q=eZ Q:=by unfold endsP;rw[hc];rfl
 rw[e,hs];exact⟨hl,h⟩
end
end
end L2.L3
namespace L2.L3.K11
open PySem PySem.Spec PyProof.Rows L2 L2.L3
section
variable{c k i m s v:Int}{K Q:T->List T->Prop}{E:XE}{Ψ:PEv}{ys ns st:List Str}{n c1:Nat}{Z:PEnds}{sc:Sl}{es:LSS}{o6 o7 o8 o12 o13 o9 o10 o11:Option Sl}{p q:Pt}{r:Rm}{l:Inn}{a b g:Str}{w:Wy}{e:Str×Str}
def top(i:Nat):Stmt:=qR.main.body.getD i (.Pass ⟨0,0,0,0⟩)
def N_apart_chains:List Str:=["edges","starts","goal","rooms","came_from","firsts","chains"]
def ps_apart_chains:List Str:=["edges","starts","goal"]
def n_apart_chains:Need:=⟨["rooms_of","points_reached","lay_chain","chain_from","full_names"],["BEGIN"],["sorted"]⟩
def b_apart_chains_1:PT :=
  (.seq (.expr (.call "lay_chain" (.nh (.var 3) (.nh (.var 4) (.nh (.tup (.nh (.var 2) (.nh (.str "to") .nj))) .nj)))))
  (.seq (.set 4 (.call "points_reached" (.nh (.var 3) .nj)))
  .nil))
def b_apart_chains:PT :=
  (.seq (.own 3 (.call "rooms_of" (.nh (.var 0) (.nh (.var 1) (.nh (.var 2) .nj)))))
  (.seq (.set 4 (.call "points_reached" (.nh (.var 3) .nj)))
  (.seq (.whl (.cmp .In (.tup (.nh (.var 2) (.nh (.str "to") .nj))) (.var 4)) b_apart_chains_1)
  (.seq (.set 5 (.comp [] ["point"] (.nm 0) .val (.nh (.idx (.var 3) (.glo "BEGIN")) .nj) (.cmp .Gt (.idx (.idx (.var 4) (.var 0)) (.glo "BEGIN")) (.int 0)) (.idx (.var 0) (.int 0))))
  (.seq (.own 6 (.comp [] ["first"] (.nm 0) .val (.nh (.var 5) .nj) .nop (.call "chain_from" (.nh (.var 4) (.nh (.var 0) (.nh (.var 3) .nj))))))
  (.seq (.ret (.tup (.nh (.hx (.bi .sorted (.nh (.var 6) .nj))) (.nh (.call "full_names" (.nh (.var 4) .nj)) .nj))))
  .nil))))))
theorem cb_apart_chains:defB n_apart_chains b_apart_chains N_apart_chains ps_apart_chains (top 3)=true:=by kernel_rfl
def N_rooms_of:List Str:=["edges","starts","goal","rooms","name","first","second"]
def ps_rooms_of:List Str:=["edges","starts","goal"]
def n_rooms_of:Need:=⟨["add_name","add_way"],["BEGIN","WIDE"],[]⟩
def b_rooms_of_1:PT :=
  (.seq (.ife (.cmp .NotEq (.var 4) (.var 2)) (.seq (.expr (.call "add_name" (.nh (.var 3) (.nh (.var 4) .nj))))
  (.seq (.expr (.call "add_way" (.nh (.var 3) (.nh (.glo "BEGIN") (.nh (.tup (.nh (.var 4) (.nh (.str "to") .nj))) (.nh (.glo "WIDE") .nj))))))
  .nil)) .nil)
  .nil)
def b_rooms_of_2:PT :=
  (.seq (.ife (.and (.cmp .NotEq (.var 5) (.var 2)) (.cmp .NotEq (.var 5) (.var 6))) (.seq (.expr (.call "add_name" (.nh (.var 3) (.nh (.var 5) .nj))))
  (.seq (.expr (.call "add_name" (.nh (.var 3) (.nh (.var 6) .nj))))
  (.seq (.expr (.call "add_way" (.nh (.var 3) (.nh (.tup (.nh (.var 5) (.nh (.str "from") .nj))) (.nh (.tup (.nh (.var 6) (.nh (.str "to") .nj))) (.nh (.glo "WIDE") .nj))))))
  .nil))) .nil)
  .nil)
def b_rooms_of:PT :=
  (.seq (.own 3 (.dsp (.glo "BEGIN") (.dnew true)))
  (.seq (.for_ (.nm 4) .val (.nh (.var 1) .nj) b_rooms_of_1)
  (.seq (.for_ (.tp [5,6]) .val (.nh (.var 0) .nj) b_rooms_of_2)
  (.seq (.ret (.var 3))
  .nil))))
theorem cb_rooms_of:defB n_rooms_of b_rooms_of N_rooms_of ps_rooms_of (top 4)=true:=by kernel_rfl
def N_add_name:List Str:=["rooms","name"]
def ps_add_name:List Str:=["rooms","name"]
def n_add_name:Need:=⟨["add_way"],[],[]⟩
def b_add_name:PT :=
  (.seq (.expr (.call "add_way" (.nh (.var 0) (.nh (.tup (.nh (.var 1) (.nh (.str "to") .nj))) (.nh (.tup (.nh (.var 1) (.nh (.str "from") .nj))) (.nh (.int 1) .nj))))))
  .nil)
theorem cb_add_name:defB n_add_name b_add_name N_add_name ps_add_name (top 5)=true:=by kernel_rfl
def N_add_way:List Str:=["rooms","here","there","room"]
def ps_add_way:List Str:=["rooms","here","there","room"]
def n_add_way:Need:=⟨[],[],[]⟩
def b_add_way:PT :=
  (.seq (.sdf 0 (.var 1))
  (.seq (.sdf 0 (.var 2))
  (.seq (.six (.idx (.var 0) (.var 1)) (.var 2) (.var 3))
  (.seq (.six (.idx (.var 0) (.var 2)) (.var 1) (.int 0))
  .nil))))
theorem cb_add_way:defB n_add_way b_add_way N_add_way ps_add_way (top 6)=true:=by kernel_rfl
def N_points_reached:List Str:=["rooms","came_from","waiting","here","there","room"]
def ps_points_reached:List Str:=["rooms"]
def n_points_reached:Need:=⟨[],["BEGIN"],["len"]⟩
def b_points_reached_1:PT :=
  (.seq (.ife (.and (.cmp .Gt (.var 5) (.int 0)) (.cmp .NotIn (.var 4) (.var 1))) (.seq (.six (.var 1) (.var 4) (.var 3))
  (.seq (.expr (.mt .append (.var 2) (.nh (.var 4) .nj)))
  .nil)) .nil)
  .nil)
def b_points_reached_2:PT :=
  (.seq (.set 3 (.mt .pop (.var 2) (.nh (.int 0) .nj)))
  (.seq (.for_ (.tp [4,5]) .itm (.nh (.idx (.var 0) (.var 3)) .nj) b_points_reached_1)
  .nil))
def b_points_reached:PT :=
  (.seq (.own 1 (.dsp (.glo "BEGIN") .non))
  (.seq (.own 2 (.lst (.nh (.glo "BEGIN") .nj)))
  (.seq (.whl (.cmp .Gt (.bi .len (.nh (.var 2) .nj)) (.int 0)) b_points_reached_2)
  (.seq (.ret (.var 1))
  .nil))))
theorem cb_points_reached:defB n_points_reached b_points_reached N_points_reached ps_points_reached (top 7)=true:=by kernel_rfl
def N_lay_chain:List Str:=["rooms","came_from","last","there","here"]
def ps_lay_chain:List Str:=["rooms","came_from","last"]
def n_lay_chain:Need:=⟨[],["BEGIN"],[]⟩
def b_lay_chain_1:PT :=
  (.seq (.set 4 (.idx (.var 1) (.var 3)))
  (.seq (.six (.idx (.var 0) (.var 4)) (.var 3) (.bin .Sub (.idx (.idx (.var 0) (.var 4)) (.var 3)) (.int 1)))
  (.seq (.six (.idx (.var 0) (.var 3)) (.var 4) (.bin .Add (.idx (.idx (.var 0) (.var 3)) (.var 4)) (.int 1)))
  (.seq (.set 3 (.var 4))
  .nil))))
def b_lay_chain:PT :=
  (.seq (.set 3 (.var 2))
  (.seq (.whl (.cmp .NotEq (.var 3) (.glo "BEGIN")) b_lay_chain_1)
  .nil))
theorem cb_lay_chain:defB n_lay_chain b_lay_chain N_lay_chain ps_lay_chain (top 8)=true:=by kernel_rfl
def N_chain_from:List Str:=["rooms","first","goal","chain","name"]
def ps_chain_from:List Str:=["rooms","first","goal"]
def n_chain_from:Need:=⟨["name_behind"],[],[]⟩
def b_chain_from_1:PT :=
  (.seq (.expr (.mt .append (.var 3) (.nh (.var 4) .nj)))
  (.seq (.set 4 (.call "name_behind" (.nh (.var 0) (.nh (.var 4) .nj))))
  .nil))
def b_chain_from:PT :=
  (.seq (.own 3 (.lst .nj))
  (.seq (.set 4 (.var 1))
  (.seq (.whl (.cmp .NotEq (.var 4) (.var 2)) b_chain_from_1)
  (.seq (.ret (.var 3))
  .nil))))
theorem cb_chain_from:defB n_chain_from b_chain_from N_chain_from ps_chain_from (top 9)=true:=by kernel_rfl
def N_name_behind:List Str:=["rooms","name","here"]
def ps_name_behind:List Str:=["rooms","name"]
def n_name_behind:Need:=⟨[],[],[]⟩
def b_name_behind:PT :=
  (.seq (.set 2 (.tup (.nh (.var 1) (.nh (.str "from") .nj))))
  (.seq (.ret (.idx (.comp [] ["there"] (.nm 0) .val (.nh (.idx (.var 0) (.var 2)) .nj) (.and (.cmp .NotEq (.idx (.var 0) (.int 0)) (.var 2)) (.cmp .Gt (.idx (.idx (.var 1) (.var 0)) (.var 3)) (.int 0))) (.idx (.var 0) (.int 0))) (.int 0)))
  .nil))
theorem cb_name_behind:defB n_name_behind b_name_behind N_name_behind ps_name_behind (top 10)=true:=by kernel_rfl
def N_full_names:List Str:=["came_from"]
def ps_full_names:List Str:=["came_from"]
def n_full_names:Need:=⟨[],[],["sorted"]⟩
def b_full_names:PT :=
  (.seq (.ret (.bi .sorted (.nh (.comp [] ["point"] (.nm 0) .val (.nh (.var 0) .nj) (.and (.cmp .Eq (.idx (.var 0) (.int 1)) (.str "to")) (.cmp .NotIn (.tup (.nh (.idx (.var 0) (.int 0)) (.nh (.str "from") .nj))) (.var 1))) (.idx (.var 0) (.int 0))) .nj)))
  .nil)
theorem cb_full_names:defB n_full_names b_full_names N_full_names ps_full_names (top 11)=true:=by kernel_rfl
def N_l_mixed:List Str:=["_law_cell_here","_law_k","_law_m"]
def ps_l_mixed:List Str:=["_law_cell_here","_law_k"]
def n_l_mixed:Need:=⟨[],[],[]⟩
def b_l_mixed:PT :=
  (.seq (.set 2 (.bin .Mod (.bin .Add (.bin .Mult (.bin .Mod (.var 0) (.int 2147483647)) (.int 48271)) (.bin .Mult (.bin .Add (.bin .Add (.bin .Mult (.var 1) (.var 1)) (.bin .Mult (.int 3) (.var 1))) (.int 7)) (.int 69621))) (.int 2147483647)))
  (.seq (.ret (.bin .Mod (.bin .Mult (.var 2) (.var 2)) (.int 2147483647)))
  .nil))
theorem cb_l_mixed:defB n_l_mixed b_l_mixed N_l_mixed ps_l_mixed (top 14)=true:=by kernel_rfl
def N_l_names:List Str:=["_law_cell_here","_law_many","_law_m","_law_base","_law_some","_law_size","_law_at","_law_out","_law_k","_law_signs"]
def ps_l_names:List Str:=["_law_cell_here","_law_many"]
def n_l_names:Need:=⟨["_law_mixed"],[],["range"]⟩
def b_l_names_1:PT :=
  (.seq (.own 9 (.comp [] ["_law_place"] (.nm 0) .rng1 (.nh (.var 5) .nj) .nop (.var 4)))
  (.seq (.six (.var 9) (.var 6) (.idx (.var 4) (.bin .Mod (.bin .Add (.bin .FloorDiv (.var 2) (.int 4200)) (.bin .Mult (.int 3) (.var 8))) (.int 20))))
  (.seq (.six (.var 9) (.bin .Mod (.bin .Add (.var 6) (.int 1)) (.var 5)) (.idx (.var 4) (.bin .Mod (.bin .Add (.bin .FloorDiv (.var 2) (.int 84000)) (.bin .FloorDiv (.var 8) (.int 20))) (.int 20))))
  (.seq (.expr (.mt .append (.var 7) (.nh (.mt .join (.str "") (.nh (.var 9) .nj)) .nj)))
  .nil))))
def b_l_names:PT :=
  (.seq (.set 2 (.call "_law_mixed" (.nh (.var 0) (.nh (.int 3) .nj))))
  (.seq (.set 3 (.idx (.str "abcdefghijklmnpqrstvwxyz") (.bin .Mod (.var 2) (.int 24))))
  (.seq (.set 4 (.str "bcdfghjklmnpqrstvwxz"))
  (.seq (.ife (.and (.cmp .Eq (.bin .Mod (.bin .FloorDiv (.var 2) (.int 25)) (.int 3)) (.int 0)) (.cmp .Lt (.var 1) (.int 9))) (.seq (.ret (.comp [false,false,false,false,false,false,false,false,true] ["_law_k"] (.nm 0) .rng1 (.nh (.var 1) .nj) .nop (.bin .Mult (.var 4) (.bin .Sub (.var 2) (.var 0)))))
  .nil) .nil)
  (.seq (.set 5 (.bin .Add (.int 2) (.bin .Mod (.bin .FloorDiv (.var 2) (.int 75)) (.int 7))))
  (.seq (.set 6 (.bin .Mod (.bin .FloorDiv (.var 2) (.int 525)) (.var 5)))
  (.seq (.own 7 (.lst .nj))
  (.seq (.for_ (.nm 8) .rng1 (.nh (.var 1) .nj) b_l_names_1)
  (.seq (.ret (.var 7))
  .nil)))))))))
theorem cb_l_names:defB n_l_names b_l_names N_l_names ps_l_names (top 15)=true:=by kernel_rfl
def N_l_fold:List Str:=["_law_script","_law_number","_law_cell_here"]
def ps_l_fold:List Str:=["_law_script"]
def n_l_fold:Need:=⟨[],[],[]⟩
def b_l_fold_1:PT :=
  (.seq (.set 1 (.bin .Mod (.bin .Add (.bin .Add (.bin .Mult (.var 1) (.int 1000003)) (.var 2)) (.int 1)) (.int 2147483647)))
  .nil)
def b_l_fold:PT :=
  (.seq (.set 1 (.int 0))
  (.seq (.for_ (.nm 2) .val (.nh (.var 0) .nj) b_l_fold_1)
  (.seq (.ret (.var 1))
  .nil)))
theorem cb_l_fold:defB n_l_fold b_l_fold N_l_fold ps_l_fold (top 16)=true:=by kernel_rfl
def N_l_web:List Str:=["_law_script","_law_most","_law_seed","_law_m","_law_names_here","_law_edges","_law_k","_law_cell_here","_law_j","_law_n","_law_one","_law_other","_law_starts","_law_name"]
def ps_l_web:List Str:=["_law_script","_law_most"]
def n_l_web:Need:=⟨["_law_fold","_law_mixed","_law_names"],[],["enumerate","range","len"]⟩
def b_l_web_r1:PT :=
  (.seq (.ife (.cmp .Eq (.bin .Mod (.bin .FloorDiv (.var 9) (.int 256)) (.idx (.lst (.nh (.int 1) (.nh (.int 2) (.nh (.int 4) .nj)))) (.bin .Mod (.bin .FloorDiv (.var 3) (.int 27)) (.int 3)))) (.int 0)) (.seq (.expr (.mt .append (.var 5) (.nh (.tup (.nh (.idx (.var 4) (.var 10)) (.nh (.idx (.var 4) (.var 11)) .nj))) .nj)))
  .nil) .nil)
  .nil)
def b_l_web_1:PT :=
  (.seq (.set 9 (.call "_law_mixed" (.nh (.bin .Add (.var 2) (.var 7)) (.nh (.bin .Add (.bin .Add (.bin .Mult (.int 2) (.var 6)) (.var 8)) (.int 20)) .nj))))
  (.seq (.set 10 (.bin .Mod (.var 9) (.bi .len (.nh (.var 4) .nj))))
  (.seq (.set 11 (.bin .Mod (.bin .FloorDiv (.var 9) (.int 16)) (.bi .len (.nh (.var 4) .nj))))
  (.seq (.ife (.cmp .Gt (.bin .Mod (.bin .FloorDiv (.var 3) (.int 9)) (.int 3)) (.int 0)) (.seq (.set 11 (.bin .Mod (.bin .Add (.bin .Add (.var 10) (.int 1)) (.bin .Mod (.bin .FloorDiv (.var 9) (.int 16)) (.int 3))) (.bi .len (.nh (.var 4) .nj))))
  .nil) .nil)
  b_l_web_r1))))
def b_l_web_2:PT :=
  (.seq (.for_ (.nm 8) .rng1 (.nh (.bin .Add (.int 1) (.bin .Mod (.bin .FloorDiv (.var 3) (.int 5000)) (.int 2))) .nj) b_l_web_1)
  .nil)
def b_l_web_3:PT :=
  (.seq (.ife (.cmp .Eq (.bin .Mod (.call "_law_mixed" (.nh (.var 2) (.nh (.bin .Add (.int 200) (.var 6)) .nj))) (.idx (.lst (.nh (.int 2) (.nh (.int 3) (.nh (.int 2) (.nh (.int 6) .nj))))) (.bin .Mod (.bin .FloorDiv (.var 3) (.int 81)) (.int 4)))) (.int 0)) (.seq (.expr (.mt .append (.var 12) (.nh (.var 13) .nj)))
  .nil) .nil)
  .nil)
def b_l_web_r2:PT :=
  (.seq (.frz [5,12] (.ret (.tup (.nh (.var 4) (.nh (.var 5) (.nh (.var 12) (.nh (.idx (.var 4) (.bin .Mod (.bin .FloorDiv (.var 3) (.int 1296)) (.bi .len (.nh (.var 4) .nj)))) .nj)))))))
  .nil)
def b_l_web:PT :=
  (.seq (.set 2 (.call "_law_fold" (.nh (.var 0) .nj)))
  (.seq (.set 3 (.call "_law_mixed" (.nh (.var 2) (.nh (.int 1) .nj))))
  (.seq (.set 4 (.call "_law_names" (.nh (.var 2) (.nh (.bin .Add (.int 2) (.bin .Mod (.var 3) (.bin .Sub (.var 1) (.int 1)))) .nj))))
  (.seq (.own 5 (.lst .nj))
  (.seq (.for_ (.tp [6,7]) .enum (.nh (.slc (.var 0) .nop (.int 63)) .nj) b_l_web_2)
  (.seq (.own 12 (.lst .nj))
  (.seq (.for_ (.tp [6,13]) .enum (.nh (.var 4) .nj) b_l_web_3)
  (.seq (.ife (.cmp .Eq (.bin .Mod (.bin .FloorDiv (.var 3) (.int 324)) (.int 4)) (.int 0)) (.seq (.own 12 (.bin .Add (.var 12) (.slc (.var 12) .nop (.int 1))))
  .nil) .nil)
  b_l_web_r2))))))))
theorem cb_l_web:defB n_l_web b_l_web N_l_web ps_l_web (top 17)=true:=by kernel_rfl
def N_l_texts:List Str:=["_law_found"]
def ps_l_texts:List Str:=["_law_found"]
def n_l_texts:Need:=⟨[],[],["isinstance","list","all","str"]⟩
def b_l_texts:PT :=
  (.seq (.ife (.not (.isi (.var 0) (.bty "list" "list"))) (.seq (.ret (.bl false))
  .nil) .nil)
  (.seq (.ret (.bi .all (.nh (.comp [] ["_law_name"] (.nm 0) .val (.nh (.var 0) .nj) .nop (.isi (.var 0) (.bty "str" "str"))) .nj)))
  .nil))
theorem cb_l_texts:defB n_l_texts b_l_texts N_l_texts ps_l_texts (top 18)=true:=by kernel_rfl
def N_l_chain:List Str:=["_law_chain_here","_law_edges","_law_starts","_law_goal"]
def ps_l_chain:List Str:=["_law_chain_here","_law_edges","_law_starts","_law_goal"]
def n_l_chain:Need:=⟨["_law_texts"],[],["len","set","all","range"]⟩
def b_l_chain:PT :=
  (.seq (.ife (.or (.not (.call "_law_texts" (.nh (.var 0) .nj))) (.or (.cmp .Eq (.bi .len (.nh (.var 0) .nj)) (.int 0)) (.or (.cmp .NotIn (.idx (.var 0) (.int 0)) (.var 2)) (.cmp .In (.var 3) (.var 0))))) (.seq (.ret (.bl false))
  .nil) .nil)
  (.seq (.ife (.or (.cmp .NotEq (.lset (.var 0)) (.bi .len (.nh (.var 0) .nj))) (.cmp .NotIn (.tup (.nh (.idx (.var 0) (.neg (.int 1))) (.nh (.var 3) .nj))) (.var 1))) (.seq (.ret (.bl false))
  .nil) .nil)
  (.seq (.ret (.bi .all (.nh (.comp [] ["_law_k"] (.nm 0) .rng1 (.nh (.bin .Sub (.bi .len (.nh (.var 0) .nj)) (.int 1)) .nj) .nop (.cmp .In (.tup (.nh (.idx (.var 1) (.var 0)) (.nh (.idx (.var 1) (.bin .Add (.var 0) (.int 1))) .nj))) (.var 2))) .nj)))
  .nil)))
theorem cb_l_chain:defB n_l_chain b_l_chain N_l_chain ps_l_chain (top 19)=true:=by kernel_rfl
def N_l_apart:List Str:=["_law_chains","_law_met","_law_chain_here"]
def ps_l_apart:List Str:=["_law_chains"]
def n_l_apart:Need:=⟨[],[],["list","len","set"]⟩
def b_l_apart_1:PT :=
  (.seq (.set 1 (.bin .Add (.var 1) (.bi .list (.nh (.var 2) .nj))))
  .nil)
def b_l_apart:PT :=
  (.seq (.set 1 (.lst .nj))
  (.seq (.for_ (.nm 2) .val (.nh (.var 0) .nj) b_l_apart_1)
  (.seq (.ret (.cmp .Eq (.lset (.var 1)) (.bi .len (.nh (.var 1) .nj))))
  .nil)))
theorem cb_l_apart:defB n_l_apart b_l_apart N_l_apart ps_l_apart (top 20)=true:=by kernel_rfl
def N_law:List Str:=["_law_script","_law_names_here","_law_edges","_law_starts","_law_goal","_law_handed","_law_found","_law_chain_here","_law_many"]
def ps_law:List Str:=["_law_script"]
def n_law:Need:=⟨["_law_web","apart_chains","_law_chain","_law_texts","_law_apart"],[],["list","isinstance","len","tuple","sorted"]⟩
def b_law_1:PT :=
  (.seq (.ife (.not (.call "_law_chain" (.nh (.var 7) (.nh (.var 2) (.nh (.var 3) (.nh (.var 4) .nj)))))) (.seq (.ret (.bl false))
  .nil) .nil)
  .nil)
def b_law_2:PT :=
  (.seq (.expr (.mt .append (.var 7) (.nh (.str "more") .nj)))
  .nil)
def b_law:PT :=
  (.seq (.tset [1,2,3,4] (.call "_law_web" (.nh (.var 0) (.nh (.int 10) .nj))))
  (.seq (.set 5 (.lst (.nh (.bi .list (.nh (.var 2) .nj)) (.nh (.bi .list (.nh (.var 3) .nj)) .nj))))
  (.seq (.own 6 (.call "apart_chains" (.nh (.idx (.var 5) (.int 0)) (.nh (.idx (.var 5) (.int 1)) (.nh (.var 4) .nj)))))
  (.seq (.ife (.or (.not (.isi (.var 6) (.bty "tuple" "tuple"))) (.or (.cmp .NotEq (.bi .len (.nh (.var 6) .nj)) (.int 2)) (.not (.isi (.idx (.var 6) (.int 0)) (.bty "list" "list"))))) (.seq (.ret (.bl false))
  .nil) .nil)
  (.seq (.for_ (.nm 7) .val (.nh (.idx (.var 6) (.int 0)) .nj) b_law_1)
  (.seq (.ife (.or (.hx (.cmp .NotEq (.idx (.var 6) (.int 0)) (.bi .sorted (.nh (.idx (.var 6) (.int 0)) .nj)))) (.or (.not (.call "_law_apart" (.nh (.idx (.var 6) (.int 0)) .nj))) (.not (.call "_law_texts" (.nh (.idx (.var 6) (.int 1)) .nj))))) (.seq (.ret (.bl false))
  .nil) .nil)
  (.seq (.set 8 (.bi .len (.nh (.idx (.var 6) (.int 0)) .nj)))
  (.seq (.hs (.for_ (.nm 7) .val (.nh (.idx (.var 6) (.int 0)) .nj) b_law_2))
  (.seq (.hs (.expr (.mt .append (.idx (.var 6) (.int 0)) (.nh (.lst (.nh (.str "more") .nj)) .nj))))
  (.seq (.hs (.expr (.mt .append (.idx (.var 6) (.int 1)) (.nh (.str "more") .nj))))
  (.seq (.ife (.cmp .NotEq (.var 5) (.lst (.nh (.var 2) (.nh (.var 3) .nj)))) (.seq (.ret (.bl false))
  .nil) .nil)
  (.seq (.ret (.cmp .Eq (.bi .len (.nh (.idx (.call "apart_chains" (.nh (.idx (.var 5) (.int 0)) (.nh (.idx (.var 5) (.int 1)) (.nh (.var 4) .nj)))) (.int 0)) .nj)) (.var 8)))
  .nil))))))))))))
theorem cb_law:defB n_law b_law N_law ps_law (top 21)=true:=by kernel_rfl
def sp_mixed:PSp where
 md:=[]
 run:=fun ds Q _=>∃c k:Int,ds=[.d (.int c),.d (.int k)]/\(0<=k/\k<=1000)/\∀v:Int,0<=v->Q (.d (.int v)) []
 mono:=fun h _ z=>by obtain⟨c,k,e,l,q⟩:=z;exact⟨c,k,e,l,fun v hv=>h _ _ (q v hv)⟩
theorem run_mixed:runP sp_mixed [.d (.int c),.d (.int k)] K E=((0<=k/\k<=1000)/\∀v:Int,0<=v->K (.d (.int v)) []):=propext ⟨fun⟨_,_,e,q⟩=>by cases e;exact q,fun q=>⟨c,k,rfl,q⟩⟩
theorem ok_mixed(ds Q E)(h:sp_mixed.run ds Q E):ds.length=ps_l_mixed.length/\uA Ψ (fun _=>False) b_l_mixed (endsP sp_mixed ps_l_mixed.length Q) (nA N_l_mixed sp_mixed.md ds):=by obtain⟨c,k,rfl,⟨h0,h1⟩,q⟩:=h;refine begin_ok [some (.nk (.d (.int c))),some (.nk (.d (.int k))),none] rfl rfl rfl ?_;delta b_l_mixed;simp?[↓cA];have a:=Qt c (show(2147483647:Int)≠0 by decide);have b:=Qi c (show(0:Int)<2147483647 by decide);have m0:0<=(c % 2147483647 * 48271+(k * k+3 * k+7) * 69621) % 2147483647:=Qt _ (by decide);have m1:(c % 2147483647 * 48271+(k * k+3 * k+7) * 69621) % 2147483647<2147483647:=Qi _ (by decide);exact⟨CMul.ok (.inr ⟨by omega,by omega⟩),CMul.ok (.inr ⟨by omega,by omega⟩),CMul.ok (.inr ⟨by omega,by omega⟩),CMul.ok (.inr ⟨by omega,by omega⟩),CMul.ok (.inl ⟨by omega,by omega⟩),q _ (Qt _ (by decide))⟩
def sp_fold:PSp where
 md:=[.nr]
 run:=fun ds Q _=>∃ns:List Int,ds=[.lst ((ns.map PyData.int).map T.d)]/\∀v:Int,Q (.d (.int v)) []
 mono:=fun h _ z=>by obtain⟨ns,e,q⟩:=z;exact⟨ns,e,fun v=>h _ _ (q v)⟩
theorem run_fold{ns:List Int}:runP sp_fold [.lst ((ns.map PyData.int).map T.d)] K E=∀v:Int,K (.d (.int v)) []:=propext ⟨fun⟨ms,e,q⟩=>q,fun q=>⟨ns,rfl,q⟩⟩
theorem ok_fold(ds Q E)(h:sp_fold.run ds Q E):ds.length=ps_l_fold.length/\uA Ψ (fun _=>False) b_l_fold (endsP sp_fold ps_l_fold.length Q) (nA N_l_fold sp_fold.md ds):=by obtain⟨ns,rfl,q⟩:=h;refine begin_ok [some (.nk (.lst ((ns.map PyData.int).map T.d))),none,none] rfl rfl rfl ?_;delta b_l_fold;simp?[↓cA];rw[<- map_d];refine for_inv (fun(n:Int)=>T.d (.int n)) (fun l ρ=>∃a o,0<=a/\a<2147483647/\ρ=[some (.nk (.lst ((ns.map PyData.int).map T.d))),some (.nk (.d (.int a))),o]) ?_ ?_ _ _ ⟨0,_,by decide,by decide,by rw[map_d]⟩;rintro ρ ⟨a,o,_,_,rfl⟩;simp?[↓cA];exact q a;rintro x l ρ N hN ⟨a,o,h0,h1,rfl⟩;delta b_l_fold_1;simp?[↓cA];exact⟨CMul.ok (.inr ⟨by decide,by decide⟩),hN _ ⟨_,_,Qt _ (by decide),Qi _ (by decide),rfl⟩⟩
def okT(s:Str):Prop:=s.length<=9/\∀c∈s.cps.toList,c<128
theorem foldl_app(xs:List (Array Nat)):∀(acc:Array Nat),(xs.foldl (·++·) acc).toList=acc.toList++(xs.map QBR).flatten:=by
 induction xs with
 |nil=>intro acc;simp
 |cons a xs ih=>intro acc;rw[wq,ih];simp
theorem repS_codes(x:Str)(k:Int):(repS x k).cps.toList=(Qs k.toNat x.cps.toList).flatten:=by
 unfold repS Txt.mul;split;rename_i h;have:k.toNat=0:=by omega
 rw[this];rfl;rename_i h;split;rename_i h2;rw[wF]at h2;rcases h2 with h2|h2;have:k=1:=by simpa using h2
 subst this;simp;have h3:x.length=0:=by simpa using h2
 have:x.cps.toList=[]:=by
  have:x.cps.toList.length=0:=by rw[Qa];exact h3
  exact QAO.mp this
 rw[this];simp;show((Qs k.toNat x.cps).foldl (·++·) #[]).toList=_;rw[foldl_app];simp
theorem rep_ok{c:Nat}(hc:c<128)(hk:k<=9):okT (repS ⟨#[c]⟩ k):=by
 have h:=repS_codes ⟨#[c]⟩ k;have e:(Qs k.toNat ([c]:List Nat)).flatten=Qs k.toNat c:=by
  generalize k.toNat=n;induction n with
  |zero=>rfl
  |succ n ih=>rw[qh,qi,ih,qh];rfl
 have h:(repS ⟨#[c]⟩ k).cps.toList=Qs k.toNat c:=h.trans e;refine⟨?_,fun x hx=>?_⟩;have:=congrArg qq h;rw[Qa,qU]at this;show(repS ⟨#[c]⟩ k).cps.size<=9;omega;rw[h]at hx;rw[List.eq_of_mem_replicate hx];exact hc
theorem join_codes:∀(ys:List Str),(QBy (Qx "") ys).cps.toList=(ys.map fun y=>y.cps.toList).flatten
 |[]=>rfl
 |[y]=>by simp[QBy]
 |y::z::r=>by have ih:=join_codes (z::r);show((y.cps++(Qx "").cps)++(QBy (Qx "") (z::r)).cps).toList=_;rw[QAx,QAx,ih,show(Qx "").cps.toList=[] by decide +kernel,wC];rfl
def one(y:Str):Prop:=∃c,c<128/\y=⟨#[c]⟩
theorem join_ok(hl:ys.length<=9)(h:∀y∈ys,one y):okT (QAL (Qx "") ys):=by
 have e:(QAL (Qx "") ys).cps.toList=(ys.map fun y=>y.cps.toList).flatten:=by rw[show QAL (Qx "") ys=QBy (Qx "") ys from StrLaws.glued_eq_join _ _];exact join_codes ys
 have key:∀(ys:List Str),(∀y∈ys,one y)->((ys.map fun y=>y.cps.toList).flatten).length=ys.length/\∀c∈(ys.map fun y=>y.cps.toList).flatten,c<128:=by
  intro ys;induction ys with
  |nil=>intro _;exact⟨rfl,fun c hc=>by simp at hc⟩
  |cons y r ih =>
   intro h;obtain⟨i1,i2⟩:=ih fun z hz=>h z (QE _ hz);obtain⟨c,hc,rfl⟩:=h y QF;rw[QN,qi];refine⟨?_,fun x hx=>?_⟩;rw[QM,i1,QL];show 1+r.length=r.length+1;omega;rcases Qd.mp hx with hx|hx
   ·have:x=c:=by simpa using hx
    rw[this];exact hc
   exact i2 x hx
 obtain⟨k1,k2⟩:=key ys h;refine⟨?_,by rw[e];exact k2⟩;have:=congrArg qq e;rw[Qa,k1]at this;show(QAL (Qx "") ys).cps.size<=9;omega
def sp_names:PSp where
 md:=[]
 run:=fun ds Q _=>∃c k:Int,ds=[.d (.int c),.d (.int k)]/\(2<=k/\k<=10)/\∀ns:List Str,ns.length=k.toNat->(∀s∈ns,okT s)->Q (.lst ((ns.map PyData.str).map T.d)) []
 mono:=fun h _ z=>by obtain⟨c,k,e,l,q⟩:=z;exact⟨c,k,e,l,fun ns h1 h2=>h _ _ (q ns h1 h2)⟩
theorem run_names(h:2<=k/\k<=10)(q:∀ns:List Str,ns.length=k.toNat->(∀s∈ns,okT s)->K (.lst ((ns.map PyData.str).map T.d)) []):runP sp_names [.d (.int c),.d (.int k)] K E:=⟨c,k,rfl,h,q⟩
theorem al24:(Qx "abcdefghijklmnpqrstvwxyz").cps.toList.length=24/\((Qx "abcdefghijklmnpqrstvwxyz").cps.toList.all fun c=>decide (c<128))=true:=by decide +kernel
theorem al20:(Qx "bcdfghjklmnpqrstvwxz").cps.toList.length=20/\((Qx "bcdfghjklmnpqrstvwxz").cps.toList.all fun c=>decide (c<128))=true:=by decide +kernel
theorem at24{K:Nat->Prop}(h0:0<=i)(h1:i<24)(k:∀c,c<128->K c):optP (atI (Qx "abcdefghijklmnpqrstvwxyz").cps.toList i) K :=
 at_in h0 (by rw[al24.1];exact h1) fun v hv=>k v (of_decide_eq_true (qE.mp al24.2 v hv))
theorem at20{K:Nat->Prop}(h0:0<=i)(h1:i<20)(k:∀c,c<128->K c):optP (atI (Qx "bcdfghjklmnpqrstvwxz").cps.toList i) K :=
 at_in h0 (by rw[al20.1];exact h1) fun v hv=>k v (of_decide_eq_true (qE.mp al20.2 v hv))
theorem len20:(Qx "bcdfghjklmnpqrstvwxz").length<=sizeLine:=by decide +kernel
theorem len24:(Qx "abcdefghijklmnpqrstvwxyz").length<=sizeLine:=by decide +kernel
theorem one_set(h:∀y∈ys,one y){c:Nat}(hc:c<128):∀y∈ys.set n ⟨#[c]⟩,one y:=fun y hy=>by rcases List.mem_or_eq_of_mem_set hy with z|z;exact h y z;exact⟨c,hc,z⟩
theorem sum_one:∀{ys:List Str},(∀y∈ys,one y)->(ys.map (·.length)).sum=ys.length
 |[],_=>rfl
 |y::r,h=>by obtain⟨c,_,rfl⟩:=h y QF;rw[QN,List.sum_cons,sum_one fun z hz=>h z (QE _ hz),QL];show 1+r.length=r.length+1;omega
def nmS(c k m:Int)(c1:Nat)(sz av:Int)(ns:List Str)(o8 o9:Option Sl):kA:=[some (.nk (.d (.int c))),some (.nk (.d (.int k))),some (.nk (.d (.int m))),some (.nk (.d (.str ⟨#[c1]⟩))),some (.nk (.d (.str (Qx "bcdfghjklmnpqrstvwxz")))),some (.nk (.d (.int sz))),some (.nk (.d (.int av))),some (.own (.lst ((ns.map PyData.str).map T.d))),o8,o9]
theorem nm_body{sz av:Int}{o8 o9:Option Sl}{i:Nat}(m0:0<=m)(hc:c1<128)(s0:2<=sz)(s1:sz<=8)(a0:0<=av)(a1:av<sz)(hl:ns.length<=9)(q:∀s o,okT s->Z.nx (nmS c k m c1 sz av (ns++[s]) (some (.nk (.d (.int (i:Int))))) o)) :
  uA Ψ (fun _=>False) b_l_names_1 Z (nmS c k m c1 sz av ns (some (.nk (.d (.int (i:Int))))) o9):=by
 have hz:sizeLine=16777216:=QZ;delta nmS at q ⊢;delta b_l_names_1;simp?[↓cA];refine⟨by omega,by omega,compV_map (fun(i:Nat)=>T.d (.int (i:Int))) (fun _=>.d (.str ⟨#[c1]⟩)) _ _ _ (fun x _ R hR=>?_) (by rw[wB,Qu];omega) ?_⟩;simp?[↓cA];exact hR;rw[qa,map_d];have e0:(Qz sz.toNat).map (fun _=>PyData.str ⟨#[c1]⟩)=((Qz sz.toNat).map fun _=>(⟨#[c1]⟩:Str)).map PyData.str:=by rw[Qp];rfl
 rw[e0];have hy:∀y∈(Qz sz.toNat).map fun _=>(⟨#[c1]⟩:Str),one y:=fun y hy=>by obtain⟨_,_,e⟩:=Qh.mp hy;exact⟨c1,hc,e.symm⟩
 have hyl:((Qz sz.toNat).map fun _=>(⟨#[c1]⟩:Str)).length=sz.toNat:=by rw[QG,wB]
 generalize (Qz sz.toNat).map (fun _=>(⟨#[c1]⟩:Str))=ys at hy hyl;refine⟨CMul.ok (.inl ⟨by decide,by decide⟩),len20,at20 (Qt _ (by decide)) (Qi _ (by decide)) fun c2 hc2=>st_l a0 (by rw[QG];omega) ?_⟩;rw[<- QBW];refine⟨len20,at20 (Qt _ (by decide)) (Qi _ (by decide)) fun c3 hc3=>?_⟩;refine⟨by omega,st_l (Qt _ (by omega)) (by rw[QG,qI,hyl];have:=Qi (av+1) (show 0<sz by omega);omega) ?_⟩;rw[<- QBW];have hy2:=one_set (one_set hy (n:=av.toNat) hc2) (n:=((av+1) % sz).toNat) hc3;have hl2:((ys.set av.toNat ⟨#[c2]⟩).set ((av+1) % sz).toNat ⟨#[c3]⟩).length=sz.toNat:=by rw[qI,qI,hyl]
 generalize (ys.set av.toNat ⟨#[c2]⟩).set ((av+1) % sz).toNat ⟨#[c3]⟩=zs at hy2 hl2;simp?[↓cA];refine⟨zs,rfl,by rw[sum_one hy2,show(Qx "").length=0 by decide +kernel];omega,?_⟩;have hj:=join_ok (by omega) hy2;have key:=q _ (some (.own (.lst ((zs.map PyData.str).map T.d)))) hj;refine⟨?_,?_⟩;rw[QG,QG];omega;rw[Qc,Qc]at key;exact key
def b_names_r:PT :=
  (.seq (.set 5 (.bin .Add (.int 2) (.bin .Mod (.bin .FloorDiv (.var 2) (.int 75)) (.int 7))))
  (.seq (.set 6 (.bin .Mod (.bin .FloorDiv (.var 2) (.int 525)) (.var 5)))
  (.seq (.own 7 (.lst .nj))
  (.seq (.for_ (.nm 8) .rng1 (.nh (.var 1) .nj) b_l_names_1)
  (.seq (.ret (.var 7))
  .nil)))))
def b_names_h:PT->PT:=fun r =>
  (.seq (.set 2 (.call "_law_mixed" (.nh (.var 0) (.nh (.int 3) .nj))))
  (.seq (.set 3 (.idx (.str "abcdefghijklmnpqrstvwxyz") (.bin .Mod (.var 2) (.int 24))))
  (.seq (.set 4 (.str "bcdfghjklmnpqrstvwxz"))
  (.seq (.ife (.and (.cmp .Eq (.bin .Mod (.bin .FloorDiv (.var 2) (.int 25)) (.int 3)) (.int 0)) (.cmp .Lt (.var 1) (.int 9))) (.seq (.ret (.comp [false,false,false,false,false,false,false,false,true] ["_law_k"] (.nm 0) .rng1 (.nh (.var 1) .nj) .nop (.bin .Mult (.var 4) (.bin .Sub (.var 2) (.var 0)))))
  .nil) .nil)
  r))))
theorem names_eq:b_l_names=b_names_h b_names_r:=rfl
theorem names_r(hm:0<=m)(k0:2<=k)(k1:k<=10)(hc:c1<128)(q:∀ns:List Str,ns.length=k.toNat->(∀s∈ns,okT s)->Q (.lst ((ns.map PyData.str).map T.d)) []) :
  uA Ψ (fun _=>False) b_names_r (eZ Q) [some (.nk (.d (.int c))),some (.nk (.d (.int k))),some (.nk (.d (.int m))),some (.nk (.d (.str ⟨#[c1]⟩))),some (.nk (.d (.str (Qx "bcdfghjklmnpqrstvwxz")))),none,none,none,none,none]:=by
 delta b_names_r;simp?[↓cA];have s0:=Qt (m / 75) (show(7:Int)≠0 by decide);have s1:=Qi (m / 75) (show(0:Int)<7 by decide);have s0':2<=2+m / 75 % 7:=by omega
 have s1':2+m / 75 % 7<=8:=by omega
 generalize 2+m / 75 % 7=sz at s0' s1';have a0:=Qt (m / 525) (show sz≠0 by omega);have a1:=Qi (m / 525) (show 0<sz by omega);generalize m / 525 % sz=av at a0 a1;refine⟨by omega,Q5 _,by omega,by omega,for_inv (fun(i:Nat)=>T.d (.int (i:Int))) (fun l ρ=>∃ns o8 o9,ns.length+l.length=k.toNat/\(∀s∈ns,okT s)/\ρ=nmS c k m c1 sz av ns o8 o9) ?_ ?_ _ _ ⟨[],_,_,by rw[wB,Qu,QAX],fun s hs=>(nomatch hs),rfl⟩⟩;rintro ρ ⟨ns,o8,o9,hl,hns,rfl⟩;delta nmS;simp?[↓cA];exact q ns (by rw[Qu]at hl;omega) hns;rintro i l ρ N hN ⟨ns,o8,o9,hl,hns,rfl⟩;rw[QL]at hl;exact nm_body (o8:=some (.nk (.d (.int (i:Int))))) (o9:=o9) hm hc s0' s1' a0 a1 (by omega) fun s o hs=>hN _ ⟨ns++[s],_,_,by rw[QM,Qn];omega,fun y hy=>by rcases Qd.mp hy with hy|hy;exact hns y hy;rw[QJ.mp hy];exact hs,rfl⟩
theorem ok_names(h1:Ψ.sp "_law_mixed"=sp_mixed)(ds Q E)(h:sp_names.run ds Q E):ds.length=ps_l_names.length/\uA Ψ (fun _=>False) b_l_names (endsP sp_names ps_l_names.length Q) (nA N_l_names sp_names.md ds):=by
 obtain⟨c,k,rfl,⟨k0,k1⟩,q⟩:=h;refine begin_ok [some (.nk (.d (.int c))),some (.nk (.d (.int k))),none,none,none,none,none,none,none,none] rfl rfl rfl ?_;rw[names_eq];have hr:∀(m:Int) (c1:Nat),0<=m->c1<128->_:=fun m c1 hm hc=>names_r (Ψ:=Ψ) (c:=c) (m:=m) (c1:=c1) hm k0 k1 hc q;generalize b_names_r=r at hr;delta b_names_h;simp?[↓ZA (md:=[]) h1 rfl rfl,↓run_mixed];refine fun m hm=>⟨len24,at24 (Qt _ (by decide)) (Qi _ (by decide)) fun c1 hc=>?_⟩
 have hr:=hr m c1 hm hc;split;split
 ·rename_i h9
  have h9:=of_decide_eq_true h9;have hz:sizeLine=16777216:=QZ;refine⟨by omega,by omega,compV_map (fun(i:Nat)=>T.d (.int (i:Int))) (fun i=>.d (.str (repS ⟨#[c1]⟩ (k - (i:Int))))) _ _ _ (fun x hx R hR=>?_) (by rw[wB,Qu];omega) ?_⟩;simp?[↓cA];have hx:=Ww.mp hx;refine⟨by omega,by omega,?_,hR⟩;show 1 * (k - (x:Int)).toNat<=sizeLine;omega;rw[qa,map_d];have:=q ((Qz k.toNat).map fun(i:Nat)=>repS ⟨#[c1]⟩ (k - (i:Int))) (by rw[QG,wB]) fun s hs=>by obtain⟨i,_,rfl⟩:=Qh.mp hs;exact rep_ok hc (by omega)
  rw[show((Qz k.toNat).map fun(i:Nat)=>repS ⟨#[c1]⟩ (k - (i:Int))).map PyData.str=(Qz k.toNat).map fun(i:Nat)=>PyData.str (repS ⟨#[c1]⟩ (k - (i:Int))) by rw[Qp];rfl]at this;exact this
 exact hr;exact hr
def pr(p:Str×Str):D:=.tuple [.str p.1,.str p.2]
def wbS(sc sd m:Sl)(ns:List Str)(es:LSS)(o6 o7 o8 o9 o10 o11 o12 o13:Option Sl):kA:=[some sc,some (.nk (.d (.int 10))),some sd,some m,some (.nk (.d (.list (ns.map PyData.str)))),some (.own (.lst ((es.map pr).map T.d))),o6,o7,o8,o9,o10,o11,o12,o13]
theorem at_s{K:D->Prop}(h0:0<=i)(h1:i<ns.length)(k:∀s∈ns,K (.str s)):optP (atI (ns.map PyData.str) i) K :=
 at_inD h0 (by rw[QG];exact h1) fun v hv=>by obtain⟨s,hs,rfl⟩:=Qh.mp hv;exact k s hs
theorem at_i{l:List Int}{K:D->Prop}(h0:0<=i)(h1:i<l.length)(hp:∀s∈l,0<s)(k:∀s,0<s->K (.int s)):optP (atI (l.map PyData.int) i) K :=
 at_inD h0 (by rw[QG];exact h1) fun v hv=>by obtain⟨s,hs,rfl⟩:=Qh.mp hv;exact k s (hp s hs)
theorem web_r1{sd:Sl}{n a b:Int}(hl:es.length<=200)(a0:0<=a)(a1:a<ns.length)(b0:0<=b)(b1:b<ns.length)
  (q:∀es',es'.length<=es.length+1->(∀p∈es',p∈es∨p.1∈ns/\p.2∈ns)->Z.nx (wbS sc sd (.nk (.d (.int m))) ns es' o6 o7 o8 (some (.nk (.d (.int n)))) (some (.nk (.d (.int a)))) (some (.nk (.d (.int b)))) o12 o13)) :
  uA Ψ (fun _=>False) b_l_web_r1 Z (wbS sc sd (.nk (.d (.int m))) ns es o6 o7 o8 (some (.nk (.d (.int n)))) (some (.nk (.d (.int a)))) (some (.nk (.d (.int b)))) o12 o13):=by
 have hz:sizeLine=16777216:=QZ;delta wbS at q ⊢;delta b_l_web_r1;simp?[↓cA];refine⟨by omega,at_i (l:=[1,2,4]) (Qt _ (by decide)) (Qi _ (by decide)) (by decide) fun d hd=>?_⟩;simp?[↓cA];refine⟨hd,?_⟩;split;refine at_s a0 a1 fun x hx=>at_s b0 b1 fun y hy=>?_;refine⟨by omega,?_,?_⟩;rw[QG,QG];omega;have:=q (es++[(x,y)]) (by rw[QM];exact QR _) fun p hp=>by rcases Qd.mp hp with hp|hp;exact .inl hp;rw[QJ.mp hp];exact .inr ⟨hx,hy⟩
 rw[Qc,Qc]at this;exact this;exact q es (wo _) fun p hp=>.inl hp
theorem web_1(h1:Ψ.sp "_law_mixed"=sp_mixed){i j:Nat}(hl:es.length<=200)(hn:0<ns.length)(hi:i<63)(hj:j<2)
  (q:∀es' o9 o10 o11,es'.length<=es.length+1->(∀p∈es',p∈es∨p.1∈ns/\p.2∈ns)->Z.nx (wbS sc (.nk (.d (.int s))) (.nk (.d (.int m))) ns es' (some (.nk (.d (.int (i:Int))))) (some (.nk (.d (.int c)))) (some (.nk (.d (.int (j:Int))))) o9 o10 o11 o12 o13)) :
  uA Ψ (fun _=>False) b_l_web_1 Z (wbS sc (.nk (.d (.int s))) (.nk (.d (.int m))) ns es (some (.nk (.d (.int (i:Int))))) (some (.nk (.d (.int c)))) (some (.nk (.d (.int (j:Int))))) o9 o10 o11 o12 o13):=by
 have hz:sizeLine=16777216:=QZ;have hr:∀n a b:Int,0<=a->a<ns.length->0<=b->b<ns.length->uA Ψ (fun _=>False) b_l_web_r1 Z (wbS sc (.nk (.d (.int s))) (.nk (.d (.int m))) ns es (some (.nk (.d (.int (i:Int))))) (some (.nk (.d (.int c)))) (some (.nk (.d (.int (j:Int))))) (some (.nk (.d (.int n)))) (some (.nk (.d (.int a)))) (some (.nk (.d (.int b)))) o12 o13):=fun n a b a0 a1 b0 b1=>web_r1 hl a0 a1 b0 b1 fun es' e1 e2=>q es' _ _ _ e1 e2;have hn':(0:Int)<ns.length:=by omega
 delta wbS at hr ⊢;delta b_l_web_1;simp?[↓ZA (md:=[]) h1 rfl rfl];refine⟨CMul.ok (.inl ⟨by decide,by decide⟩),Eq.mpr run_mixed ⟨⟨by omega,by omega⟩,fun n hn0=>?_⟩⟩;simp?[QG];refine⟨hn',hn',?_⟩;split;exact⟨hn',hr _ _ _ (Qt _ (by omega)) (Qi _ hn') (Qt _ (by omega)) (Qi _ hn')⟩;exact hr _ _ _ (Qt _ (by omega)) (Qi _ hn') (Qt _ (by omega)) (Qi _ hn')
theorem web_2(h1:Ψ.sp "_law_mixed"=sp_mixed){i:Nat}(hl:es.length<=126)(hn:0<ns.length)(hi:i<63)
  (q:∀es' o8 o9 o10 o11,es'.length<=es.length+2->(∀p∈es',p∈es∨p.1∈ns/\p.2∈ns)->Z.nx (wbS sc (.nk (.d (.int s))) (.nk (.d (.int m))) ns es' (some (.nk (.d (.int (i:Int))))) (some (.nk (.d (.int c)))) o8 o9 o10 o11 o12 o13)) :
  uA Ψ (fun _=>False) b_l_web_2 Z (wbS sc (.nk (.d (.int s))) (.nk (.d (.int m))) ns es (some (.nk (.d (.int (i:Int))))) (some (.nk (.d (.int c)))) o8 o9 o10 o11 o12 o13):=by
 have hz:sizeLine=16777216:=QZ;delta wbS;delta b_l_web_2;simp?[↓cA];have t0:=Qt (m / 5000) (show(2:Int)≠0 by decide);have t1:=Qi (m / 5000) (show(0:Int)<2 by decide);generalize m / 5000 % 2=t at t0 t1;refine⟨by omega,by omega,for_inv (fun(j:Nat)=>T.d (.int (j:Int))) (fun l ρ=>∃es' o8 o9 o10 o11,(∀j∈l,j<2)/\es'.length+l.length<=es.length+2/\(∀p∈es',p∈es∨p.1∈ns/\p.2∈ns)/\ρ=wbS sc (.nk (.d (.int s))) (.nk (.d (.int m))) ns es' (some (.nk (.d (.int (i:Int))))) (some (.nk (.d (.int c)))) o8 o9 o10 o11 o12 o13) ?_ ?_ _ _ ⟨es,_,_,_,_,fun j hj=>by have:=Ww.mp hj;omega,by rw[wB];omega,fun p hp=>.inl hp,rfl⟩⟩;rintro ρ ⟨es',p8,p9,p10,p11,_,e1,e2,rfl⟩;exact q es' _ p9 p10 p11 (by rw[Qu]at e1;omega) e2;rintro j l ρ N hN ⟨es',p8,p9,p10,p11,e0,e1,e2,rfl⟩;rw[QL]at e1;exact web_1 (j:=j) (o9:=p9) (o10:=p10) (o11:=p11) h1 (by omega) hn hi (e0 j QF) fun es2 r9 r10 r11 f1 f2=>hN _ ⟨es2,_,r9,r10,r11,fun k hk=>e0 k (QE _ hk),by omega,fun p hp=>by rcases f2 p hp with z|z;exact e2 p z;exact .inr z,rfl⟩
def wcS(sc:Sl)(s m:Int)(ns:List Str)(es:LSS)(st:List Str)(o6 o7 o8 o9 o10 o11 o13:Option Sl):kA:=[some sc,some (.nk (.d (.int 10))),some (.nk (.d (.int s))),some (.nk (.d (.int m))),some (.nk (.d (.list (ns.map PyData.str)))),some (.own (.lst ((es.map pr).map T.d))),o6,o7,o8,o9,o10,o11,some (.own (.lst ((st.map PyData.str).map T.d))),o13]
theorem web_3(h1:Ψ.sp "_law_mixed"=sp_mixed){i:Nat}{x:Str}(hl:st.length<=10)(hi:i<10)
  (q0:Z.nx (wcS sc s m ns es st (some (.nk (.d (.int (i:Int))))) o7 o8 o9 o10 o11 (some (.nk (.d (.str x))))))
  (q1:Z.nx (wcS sc s m ns es (st++[x]) (some (.nk (.d (.int (i:Int))))) o7 o8 o9 o10 o11 (some (.nk (.d (.str x)))))) :
  uA Ψ (fun _=>False) b_l_web_3 Z (wcS sc s m ns es st (some (.nk (.d (.int (i:Int))))) o7 o8 o9 o10 o11 (some (.nk (.d (.str x))))):=by
 have hz:sizeLine=16777216:=QZ;delta wcS at q0 q1 ⊢;delta b_l_web_3;simp?[↓ZA (md:=[]) h1 rfl rfl];refine Eq.mpr run_mixed ⟨⟨by omega,by omega⟩,fun n hn0=>?_⟩;simp?[↓cA];refine⟨by omega,at_i (l:=[2,3,2,6]) (Qt _ (by decide)) (Qi _ (by decide)) (by decide) fun d hd=>?_⟩;simp?[↓cA];refine⟨hd,?_⟩;split;refine⟨by rw[QG,QG];omega,?_⟩;rw[Qc,Qc]at q1;exact q1;exact q0
def WebOk(ns:List Str)(es:LSS)(st:List Str)(g:Str):Prop:=ns.length<=10/\(∀s∈ns,okT s)/\es.length<=126/\(∀p∈es,p.1∈ns/\p.2∈ns)/\st.length<=11/\(∀s∈st,s∈ns)/\g∈ns
def webD(ns:List Str)(es:LSS)(st:List Str)(g:Str):D:=.tuple [.list (ns.map PyData.str),.list (es.map pr),.list (st.map PyData.str),.str g]
theorem web_r2(hn:0<ns.length)(q:∀g∈ns,Q (.d (webD ns es st g)) []) :
  uA Ψ (fun _=>False) b_l_web_r2 (eZ Q) (wcS sc s m ns es st o6 o7 o8 o9 o10 o11 o13):=by
 have hz:sizeLine=16777216:=QZ;have hn':(0:Int)<ns.length:=by omega
 delta wcS;delta b_l_web_r2;simp?[QG];have e1:(T.lst ((es.map pr).map T.d)).er=.list (es.map pr):=by show PyData.list (ersT ((es.map pr).map T.d))=_;rw[ersT_map]
 have e2:(T.lst ((st.map PyData.str).map T.d)).er=.list (st.map PyData.str):=by show PyData.list (ersT ((st.map PyData.str).map T.d))=_;rw[ersT_map]
 rw[e1,e2];exact⟨hn',at_s (Qt _ (by omega)) (Qi _ hn') fun g hg=>⟨by omega,q g hg⟩⟩
theorem cut_len{α:Type}(l:List α)(k:Nat):(cutD l none (some (k:Int))).length<=k:=by
 unfold cutD;rw[WB];have:HT.sIx l.length l.length (some (k:Int))<=k:=by unfold HT.sIx;simp only;split<;>omega
 omega
theorem cut_mem{α:Type}{l:List α}{a b:Option Int}{x:α}(h:x∈cutD l a b):x∈l:=List.mem_of_mem_drop (List.mem_of_mem_take h)
theorem cut_map{α β:Type}(f:α->β)(l:List α)(a b:Option Int):cutD (l.map f) a b=(cutD l a b).map f:=by unfold cutD;rw[QG,List.map_take,List.map_drop]
theorem zip_in{α:Type}{l:List α}{p:α×Nat}(h:p∈l.zipIdx):p.2<l.length/\p.1∈l:=by have h:=List.mem_zipIdx_iff_getElem?.mp h;exact⟨(QT.mp h).1,qF h⟩
def sp_web:PSp where
 md:=[.nr]
 run:=fun ds Q _=>∃cs:List Int,ds=[.lst ((cs.map PyData.int).map T.d),.d (.int 10)]/\∀ns es st g,WebOk ns es st g->Q (.d (webD ns es st g)) []
 mono:=fun h _ z=>by obtain⟨cs,e,q⟩:=z;exact⟨cs,e,fun ns es st g w=>h _ _ (q ns es st g w)⟩
theorem run_web{cs:List Int}(q:∀ns es st g,WebOk ns es st g->K (.d (webD ns es st g)) []):runP sp_web [.lst ((cs.map PyData.int).map T.d),.d (.int 10)] K E:=⟨cs,rfl,q⟩
theorem ok_web(h0:Ψ.sp "_law_fold"=sp_fold)(h1:Ψ.sp "_law_mixed"=sp_mixed)(h2:Ψ.sp "_law_names"=sp_names)(ds Q E)(h:sp_web.run ds Q E):ds.length=ps_l_web.length/\uA Ψ (fun _=>False) b_l_web (endsP sp_web ps_l_web.length Q) (nA N_l_web sp_web.md ds):=by
 obtain⟨cs,rfl,q⟩:=h;have hz:sizeLine=16777216:=QZ;refine begin_ok [some (.nk (.lst ((cs.map PyData.int).map T.d))),some (.nk (.d (.int 10))),none,none,none,none,none,none,none,none,none,none,none,none] rfl rfl rfl ?_;delta b_l_web;simp?[↓ZA (md:=[.nr]) h0 rfl rfl,↓ZA (md:=[]) h1 rfl rfl,↓ZA (md:=[]) h2 rfl rfl];refine Eq.mpr run_fold fun v=>?_;simp?[↓ZA (md:=[]) h1 rfl rfl,↓ZA (md:=[]) h2 rfl rfl];refine Eq.mpr run_mixed ⟨⟨by decide,by decide⟩,fun m hm=>?_⟩;simp?[↓ZA (md:=[]) h2 rfl rfl];have k0:=Qt m (show(10 - 1:Int)≠0 by decide);have k1:=Qi m (show(0:Int)<10 - 1 by decide);refine⟨by decide,run_names ⟨by omega,by omega⟩ fun ns hnl hns=>?_⟩;have hn9:ns.length<=10:=by omega
 have hn0:0<ns.length:=by omega
 simp?[↓cA];rw[cut_map];refine⟨Q5 _,for_inv (fun(p:D×Nat)=>T.d (.tuple [.int (p.2:Int),p.1])) (fun l ρ=>∃es o6 o7 o8 o9 o10 o11,(∀p∈l,p.2<63/\∃c,p.1=.int c)/\es.length+2 * l.length<=126/\(∀p∈es,p.1∈ns/\p.2∈ns)/\ρ=wbS (.nk (.lst ((cs.map PyData.int).map T.d))) (.nk (.d (.int v))) (.nk (.d (.int m))) ns es o6 o7 o8 o9 o10 o11 none none) ?_ ?_ _ _ ⟨[],_,_,_,_,_,_,fun p hp=>?_,?_,fun p hp=>(nomatch hp),rfl⟩⟩;rintro ρ ⟨es,o6,o7,o8,o9,o10,o11,_,el,es2,rfl⟩;delta wbS;simp?[↓cA];refine⟨Q5 _,for_inv (fun(p:D×Nat)=>T.d (.tuple [.int (p.2:Int),p.1])) (fun l ρ=>∃st o6 o13,(∀p∈l,p.2<10/\∃x∈ns,p.1=.str x)/\st.length+l.length<=10/\(∀s∈st,s∈ns)/\ρ=wcS (.nk (.lst ((cs.map PyData.int).map T.d))) v m ns es st o6 (killS o7) o8 o9 o10 o11 o13) ?_ ?_ _ _ ⟨[],_,_,fun p hp=>?_,?_,fun p hp=>(nomatch hp),rfl⟩⟩;rintro ρ ⟨st,p6,p13,_,sl,ss,rfl⟩;rw[Qu]at sl;have hr:=fun(st:List Str) (s1:st.length<=11) (s2:∀s∈st,s∈ns)=>web_r2 (Ψ:=Ψ) (sc:=.nk (.lst ((cs.map PyData.int).map T.d))) (s:=v) (m:=m) (es:=es) (st:=st) (o6:=killS p6) (o7:=killS o7) (o8:=o8) (o9:=o9) (o10:=o10) (o11:=o11) (o13:=killS p13) hn0 fun g hg=>q ns es st g ⟨hn9,hns,by rw[Qu]at el;omega,es2,s1,s2,hg⟩;unfold wcS at hr;delta wcS;simp?[↓cA];split;rw[cut_map];have c1:=cut_len st 1;refine⟨by rw[QG,QG];show st.length+(cutD st none (some ((1:Nat):Int))).length<=_;omega,?_⟩;have:=hr (st++cutD st none (some 1)) (by rw[QM];show st.length+(cutD st none (some ((1:Nat):Int))).length<=_;omega) fun s hs=>by rcases Qd.mp hs with h|h;exact ss s h;exact ss s (cut_mem h)
 rw[Qc]at this;exact this;exact hr st (by omega) ss;rintro⟨x,i⟩ l ρ N hN ⟨st,p6,p13,e0,sl,ss,rfl⟩;obtain⟨hi,y,hy,e⟩:=e0 _ QF;have e:x=.str y:=e;subst e;rw[QL]at sl;refine optP.mk rfl ?_;exact web_3 (i:=i) (x:=y) h1 (by omega) hi (hN _ ⟨st,_,_,fun p hp=>e0 p (QE _ hp),by omega,ss,rfl⟩) (hN _ ⟨st++[y],_,_,fun p hp=>e0 p (QE _ hp),by rw[QM,Qn];omega,fun s hs=>by rcases Qd.mp hs with h|h;exact ss s h;rw[QJ.mp h];exact hy,rfl⟩);obtain⟨z1,z2⟩:=zip_in hp;rw[QG]at z1;obtain⟨x,hx,e⟩:=Qh.mp z2;exact⟨by omega,x,hx,e.symm⟩;rw[QBB,QG,Qu];omega;rintro⟨x,i⟩ l ρ N hN ⟨es,p6,p7,p8,p9,p10,p11,e0,el,es2,rfl⟩;obtain⟨hi,c,e⟩:=e0 _ QF;have e:x=.int c:=e;subst e;rw[QL]at el;refine optP.mk rfl ?_;exact web_2 (i:=i) (c:=c) (o8:=p8) (o9:=p9) (o10:=p10) (o11:=p11) h1 (by omega) hn0 hi fun es' r8 r9 r10 r11 f1 f2=>hN _ ⟨es',_,_,r8,r9,r10,r11,fun p hp=>e0 p (QE _ hp),by omega,fun p hp=>by rcases f2 p hp with z|z;exact es2 p z;exact z,rfl⟩;obtain⟨z1,z2⟩:=zip_in hp;have c1:=cut_len cs 63;rw[QG]at z1;obtain⟨x,hx,e⟩:=Qh.mp z2;exact⟨Qj z1 c1,x,e.symm⟩;have c1:=cut_len cs 63;rw[QBB,QG,Qu];have c1:(cutD cs none (some 63)).length<=63:=c1;omega
theorem eqv_ss(a b:Str):Qw (.str a) (.str b)=decide (a=b):=by rw[qO,decide_eq_true_iff];simp[Qw]
theorem any_str(l:List Str)(z:Str):((l.map PyData.str).any fun y=>Qw y (.str z))=decide (z∈l):=by rw[List.any_map,qO,We,decide_eq_true_iff];constructor;rintro⟨x,hx,e⟩;have e:Qw (.str x) (.str z)=true:=e;rw[eqv_ss,decide_eq_true_iff]at e;exact e▸hx;intro h;exact⟨z,h,by show Qw (.str z) (.str z)=true;rw[eqv_ss];exact dT rfl⟩
theorem flat_str(l:List Str):(l.map PyData.str).all flatD=true:=by rw[QBV,qE];exact fun _ _=>rfl
def goes(g:Str)(cut:List Str)(s:Str):Bool:=!decide (s=g)&&!decide (s∈cut)
inductive Led(es:LSS)(st:List Str)(g:Str)(cut:List Str):Str->Prop
 |st {s:Str}:s∈st->goes g cut s=true->Led es st g cut s
 |ed {a b:Str}:Led es st g cut a->(a,b)∈es->goes g cut b=true->Led es st g cut b
theorem nd_len:∀{ks ns:List Str},ks.Nodup->(∀s∈ks,s∈ns)->ks.length<=ns.length
 |[],_,_,_=>Q5 _
 |s::r,ns,h,hs=>by obtain⟨h1,h2⟩:=Qe.mp h;have hm:=hs s QF;have:=nd_len (ks:=r) (ns:=ns.erase s) h2 fun x hx=>(QAm (fun(e:x=s)=>h1 (e▸hx))).mpr (hs x (QE _ hx));rw[QAB hm]at this;have hp:=QAW hm;rw[QL];omega
noncomputable abbrev Pt:=Str×Str
theorem pr_inj(h:pr p=pr q):p=q:=by obtain⟨a,b⟩:=p;obtain⟨c,d⟩:=q;injection h with h;injection h with h1 h;injection h with h2 _;injection h1 with h1;injection h2 with h2;exact QBx h1 h2
theorem fk_ne{x k:D}{r:List D}(h:x≠k):dA (x::r) k=(dA r k).map (·+1):=by unfold dA;rw[if_neg h];cases r<;>rfl
theorem fk_eq{x k:D}{r:List D}(h:x=k):dA (x::r) k=some 0:=by unfold dA;rw[if_pos h]
def look{α:Type}:List (Pt×α)->Pt->Option α
 |[],_=>none
 |e::l,p=>if e.1=p then some e.2 else look l p
def put{α:Type}:List (Pt×α)->Pt->α->List (Pt×α)
 |[],p,v=>[(p,v)]
 |e::l,p,v=>if e.1=p then(e.1,v)::l else e::put l p v
def keyL{α:Type}(l:List (Pt×α)):List D:=l.map fun e=>pr e.1
theorem find_none{α:Type}{p:Pt}:∀{l:List (Pt×α)},look l p=none->dA (keyL l) (pr p)=none/\∀w,put l p w=l++[(p,w)]
 |[],_=>⟨rfl,fun _=>rfl⟩
 |e::l,h=>by unfold look at h;by_cases c:e.1=p;rw[if_pos c]at h;cases h;rw[if_neg c]at h;obtain⟨i1,i2⟩:=find_none h;refine⟨?_,fun w=>?_⟩;show dA (pr e.1::keyL l) (pr p)=none;rw[fk_ne (fun z=>c (pr_inj z)),i1];rfl;show(if e.1=p then(e.1,w)::l else e::put l p w)=_;rw[if_neg c,i2];rfl
theorem find_some{α:Type}{p:Pt}{v:α}(f:α->T):∀{l:List (Pt×α)},look l p=some v->∃n,dA (keyL l) (pr p)=some n/\(l.map fun e=>f e.2)[n]?=some (f v)/\∀w,keyL (put l p w)=keyL l/\(l.map fun e=>f e.2).set n (f w)=(put l p w).map fun e=>f e.2
 |[],h=>by cases h
 |e::l,h=>by unfold look at h;by_cases c:e.1=p;rw[if_pos c]at h;injection h with h;refine⟨0,?_,?_,fun w=>?_⟩;exact fk_eq (congrArg pr c);show some (f e.2)=_;rw[h];have:put (e::l) p w=(e.1,w)::l:=if_pos c;rw[this];exact⟨rfl,rfl⟩;rw[if_neg c]at h;obtain⟨n,i1,i2,i3⟩:=find_some f h;refine⟨n+1,?_,i2,fun w=>?_⟩;show dA (pr e.1::keyL l) (pr p)=some (n+1);rw[fk_ne (fun z=>c (pr_inj z)),i1];rfl;have:put (e::l) p w=e::put l p w:=if_neg c;rw[this];obtain⟨j1,j2⟩:=i3 w;refine⟨?_,?_⟩;show pr e.1::keyL (put l p w)=pr e.1::keyL l;rw[j1];show f e.2::(l.map fun e=>f e.2).set n (f w)=f e.2::(put l p w).map fun e=>f e.2;rw[j2]
theorem look_put{α:Type}{p q:Pt}{w:α}:∀{l:List (Pt×α)},look (put l p w) q=if p=q then some w else look l q
 |[]=>rfl
 |e::l=>by
  by_cases c:e.1=p;have h1:put (e::l) p w=(e.1,w)::l:=if_pos c;rw[h1];show(if e.1=q then some w else look l q)=if p=q then some w else(if e.1=q then some e.2 else look l q)
  rw[c];split<;>rfl;have h1:put (e::l) p w=e::put l p w:=if_neg c;rw[h1];show(if e.1=q then some e.2 else look (put l p w) q)=if p=q then some w else(if e.1=q then some e.2 else look l q)
  rw[look_put];by_cases d:e.1=q;rw[if_pos d,if_pos d,if_neg (fun z=>c (d.trans z.symm))];rw[if_neg d,if_neg d]
theorem put_len{α:Type}{p:Pt}{w:α}:∀{l:List (Pt×α)},(put l p w).length<=l.length+1
 |[]=>QR _
 |e::l=>by by_cases c:e.1=p;rw[show put (e::l) p w=(e.1,w)::l from if_pos c,QL,QL];omega;have:=put_len (p:=p) (w:=w) (l:=l);rw[show put (e::l) p w=e::put l p w from if_neg c,QL,QL];omega
theorem key_pr(p:Pt):keyK true (pr p):=⟨[.inr p.1,.inr p.2],rfl⟩
noncomputable abbrev Inn:=List (Pt×Int)
noncomputable abbrev Rm:=List (Pt×Inn)
def innT(l:Inn):T:=.dct true (keyL l) (l.map fun e=>T.d (.int e.2))
def eA(r:Rm):T:=.dct true (keyL r) (r.map fun e=>innT e.2)
def sdf(r:Rm)(p:Pt):Rm:=match look r p with
 |some _=>r
 |none=>r++[(p,[])]
theorem sd_room{Q:T->Prop}(hl:r.length<sizeLine)(q:Q (eA (sdf r p))):sdfV (.d (pr p)) (eA r) Q:=by
 refine⟨keyL r,_,rfl,key_pr p,by unfold keyL;rw[QG];exact hl,?_⟩;unfold sdf at q;cases h:look r p with
 |some v=>rw[h]at q;obtain⟨n,i1,_⟩:=find_some innT h;exact .inl ⟨n,i1,q⟩
 |none =>
  rw[h]at q;refine .inr ⟨(find_none h).1,?_⟩;have e:eA (r++[(p,[])])=.dct true (keyL r++[pr p]) ((r.map fun e=>innT e.2)++[.dct true [] []]):=by unfold eA keyL;rw[Qc,Qc];rfl
  show Q (T.dct true (keyL r++[pr p]) ((r.map fun e=>innT e.2)++[.dct true [] []]));rw[<- e];exact q
theorem st_inn{Q:T->Prop}(hl:l.length<sizeLine)(q:Q (innT (put l p v))):stV (innT l) (.d (pr p)) (.d (.int v)) Q:=by
 refine⟨key_pr p,by unfold keyL;rw[QG];exact hl,?_⟩;have e:putD true (keyL l) (l.map fun e=>T.d (.int e.2)) (pr p) (.d (.int v))=innT (put l p v):=by
  unfold putD;cases h:look l p with
  |none=>obtain⟨i1,i2⟩:=find_none h;rw[i1,i2];unfold innT keyL;rw[Qc,Qc];rfl
  |some u=>obtain⟨n,i1,i2,i3⟩:=find_some (fun i:Int=>T.d (.int i)) h;rw[i1];obtain⟨j1,j2⟩:=i3 v;show T.dct true (keyL l) ((l.map fun e=>T.d (.int e.2)).set n (T.d (.int v)))=_;unfold innT;rw[j1,j2]
 show Q (putD true (keyL l) (l.map fun e=>T.d (.int e.2)) (pr p) (.d (.int v)));rw[e];exact q
theorem sub_room{Q:T->(T->T)->Prop}(h:look r p=some l)(q:∀f:T->T,(∀l',f (innT l')=eA (put r p l'))->Q (innT l) f):subV (.d (pr p)) (eA r) Q:=by obtain⟨n,i1,i2,i3⟩:=find_some innT h;refine⟨true,keyL r,_,n,innT l,rfl,key_pr p,i1,i2,q _ fun l'=>?_⟩;obtain⟨j1,j2⟩:=i3 l';show T.dct true (keyL r) ((r.map fun e=>innT e.2).set n (innT l'))=_;unfold eA;rw[j1,j2]
def sA:Pt:=("","begin")
def tO(n:Str):Pt:=(n,"to")
def fR(n:Str):Pt:=(n,"from")
theorem s_bt:("begin":Str)≠"to":=by decide +kernel
theorem s_bf:("begin":Str)≠"from":=by decide +kernel
theorem s_tf:("to":Str)≠"from":=by decide +kernel
theorem bg_to:sA≠tO a:=fun h=>s_bt (congrArg we h)
theorem bg_fr:sA≠fR a:=fun h=>s_bf (congrArg we h)
theorem KA:tO a≠fR b:=fun h=>s_tf (congrArg we h)
theorem to_inj(h:tO a=tO b):a=b:=congrArg qL h
theorem fr_inj(h:fR a=fR b):a=b:=congrArg qL h
def Lay(p q:Pt):Prop:=(p=sA/\∃n,q=tO n)∨(∃n,p=tO n/\q=fR n)∨(∃a b,a≠b/\p=fR a/\q=tO b)
theorem lay_not(h:Lay p q):¬ Lay q p:=by
 rintro k;rcases h with⟨rfl,n,rfl⟩| ⟨n,rfl,rfl⟩| ⟨a,b,ab,rfl,rfl⟩<;>rcases k with⟨e1,m,e2⟩| ⟨m,e1,e2⟩| ⟨c,d,cd,e1,e2⟩
 exact bg_to e1.symm;exact bg_fr e2;exact KA e1;exact bg_fr e1.symm;exact KA e1.symm;exact cd ((fr_inj e1).symm.trans (to_inj e2));exact bg_to e1.symm;exact ab ((fr_inj e2).trans (to_inj e1).symm);exact KA e1
theorem lay_ne(h:Lay p q):p≠q:=fun e=>lay_not h (by rw[e]at h ⊢;exact h)
noncomputable abbrev Wy:=Pt×Pt×Int
def lk(r:Rm)(p:Pt):Inn:=(look r p).getD []
def addw(r:Rm)(w:Wy):Rm:=put (put (sdf (sdf r w.1) w.2.1) w.1 (put (lk (sdf (sdf r w.1) w.2.1) w.1) w.2.1 w.2.2)) w.2.1 (put (lk (put (sdf (sdf r w.1) w.2.1) w.1 (put (lk (sdf (sdf r w.1) w.2.1) w.1) w.2.1 w.2.2)) w.2.1) w.1 0)
theorem look_app{α:Type}{p q:Pt}{v:α}:∀{l:List (Pt×α)},look (l++[(p,v)]) q=(look l q).or (if p=q then some v else none)
 |[]=>rfl
 |e::l=>by show(if e.1=q then some e.2 else look (l++[(p,v)]) q)=(if e.1=q then some e.2 else look l q).or (if p=q then some v else none);by_cases c:e.1=q;rw[if_pos c,if_pos c];rfl;rw[if_neg c,if_neg c];exact look_app
theorem look_sdf:look (sdf r p) q=(look r q).or (if p=q then some [] else none):=by
 unfold sdf;cases h:look r p with
 |some v =>
  show look r q=_;cases h2:look r q with
  |some x=>rfl
  |none =>
   show none=if p=q then some [] else none
   rw[if_neg];intro e;rw[e,h2]at h;cases h
 |none=>show look (r++[(p,[])]) q=_;exact look_app
theorem sdf_len:(sdf r p).length<=r.length+1:=by unfold sdf;split;omega;rw[QM,Qn];omega
theorem put_mem{α:Type}{p:Pt}{w:α}{e:Pt×α}:∀{l:List (Pt×α)},e∈put l p w->e=(p,w)∨e∈l
 |[],h=>.inl (QJ.mp h)
 |x::l,h=>by by_cases c:x.1=p;rw[show put (x::l) p w=(x.1,w)::l from if_pos c]at h;rcases QK.mp h with h|h;exact .inl (by rw[h,c]);exact .inr (QE _ h);rw[show put (x::l) p w=x::put l p w from if_neg c]at h;rcases QK.mp h with h|h;exact .inr (by rw[h];exact QF);exact(put_mem h).imp_right (QE _)
theorem put_key{α:Type}{p:Pt}{w:α}{q:Pt}:∀{l:List (Pt×α)},(∃v,(q,v)∈put l p w)↔q=p∨∃v,(q,v)∈l
 |[]=>by
  constructor;rintro⟨v,h⟩;exact .inl (congrArg qL (QJ.mp h));rintro(rfl|⟨v,h⟩)
  ·exact⟨w,QJ.mpr rfl⟩
  exact(nomatch h)
 |x::l=>by
  by_cases c:x.1=p;rw[show put (x::l) p w=(x.1,w)::l from if_pos c];constructor;rintro⟨v,h⟩;rcases QK.mp h with h|h;exact .inl ((congrArg qL h).trans c);exact .inr ⟨v,QE _ h⟩;rintro(rfl|⟨v,h⟩)
  ·exact⟨w,by rw[c];exact QF⟩
  rcases QK.mp h with h|h
  ·exact⟨w,by rw[<- h];exact QF⟩
  exact⟨v,QE _ h⟩;rw[show put (x::l) p w=x::put l p w from if_neg c];have ih:=put_key (p:=p) (w:=w) (q:=q) (l:=l);constructor;rintro⟨v,h⟩;rcases QK.mp h with h|h;exact .inr ⟨v,by rw[h];exact QF⟩;exact(ih.mp ⟨v,h⟩).imp_right fun⟨v,h⟩=>⟨v,QE _ h⟩
  rintro(h|⟨v,h⟩)
  ·obtain⟨v,h⟩:=ih.mpr (.inl h)
   exact⟨v,QE _ h⟩
  rcases QK.mp h with h|h
  ·exact⟨v,by rw[h];exact QF⟩
  obtain⟨v,h⟩:=ih.mpr (.inr ⟨v,h⟩);exact⟨v,QE _ h⟩
def Ent(r:Rm)(p q:Pt):Prop:=∃v,(q,v)∈lk r p
def Key(r:Rm)(p:Pt):Prop:=∃l,look r p=some l
def Pos(r:Rm):Prop:=∀p,∀e∈lk r p,(0<e.2↔Lay p e.1)
def Dom(r:Rm):Prop:=∀p q,Ent r p q->Key r q
def Sz(r:Rm)(n:Nat):Prop:=r.length<=n/\∀p,(lk r p).length<=n
theorem lk_put:lk (put r p l) q=if p=q then l else lk r q:=by unfold lk;rw[look_put];split<;>rfl
theorem lk_sdf:lk (sdf r p) q=lk r q:=by
 unfold lk;rw[look_sdf];cases look r q with
 |some x=>rfl
 |none=>show(if p=q then some [] else none).getD []=[];split<;>rfl
theorem key_put:Key (put r p l) q↔p=q∨Key r q:=by unfold Key;rw[look_put];by_cases h:p=q;rw[if_pos h];exact⟨fun _=>.inl h,fun _=>⟨_,rfl⟩⟩;rw[if_neg h];exact⟨.inr,fun z=>z.resolve_left h⟩
theorem key_sdf:Key (sdf r p) q↔p=q∨Key r q:=by
 unfold Key;rw[look_sdf];cases look r q with
 |some x=>exact⟨fun _=>.inr ⟨_,rfl⟩,fun _=>⟨_,rfl⟩⟩
 |none=>show(∃l,(if p=q then some [] else none)=some l)↔_;by_cases h:p=q;rw[if_pos h];exact⟨fun _=>.inl h,fun _=>⟨_,rfl⟩⟩;rw[if_neg h];exact⟨fun⟨_,e⟩=>(nomatch e),fun z=>(z.resolve_left h)⟩
theorem lk_addw(h:w.1≠w.2.1)(p:Pt):lk (addw r w) p=if w.2.1=p then put (lk r p) w.1 0 else if w.1=p then put (lk r p) w.2.1 w.2.2 else lk r p:=by unfold addw;rw[lk_put,lk_put,lk_put,lk_sdf,lk_sdf,lk_sdf,lk_sdf,if_neg h,lk_sdf,lk_sdf];by_cases h1:w.2.1=p;rw[if_pos h1,if_pos h1,h1];rw[if_neg h1,if_neg h1];by_cases h2:w.1=p;rw[if_pos h2,if_pos h2,h2];rw[if_neg h2,if_neg h2]
theorem key_addw:Key (addw r w) p↔p=w.1∨p=w.2.1∨Key r p:=by
 unfold addw;rw[key_put,key_put,key_sdf,key_sdf];constructor;rintro(h|h|h|h|h)
 ·exact .inr (.inl h.symm)
 exact .inl h.symm;exact .inr (.inl h.symm);exact .inl h.symm;exact .inr (.inr h);rintro(h|h|h)
 ·exact .inr (.inl h.symm)
 exact .inl h.symm;exact .inr (.inr (.inr (.inr h)))
theorem ent_addw(h:w.1≠w.2.1):Ent (addw r w) p q↔Ent r p q∨(p=w.1/\q=w.2.1)∨(p=w.2.1/\q=w.1):=by
 unfold Ent;rw[lk_addw h];by_cases h1:w.2.1=p;rw[if_pos h1,put_key];constructor;rintro(e|e)
 ·exact .inr (.inr ⟨h1.symm,e⟩)
 exact .inl e;rintro(e|⟨e1,e2⟩| ⟨e1,e2⟩)
 ·exact .inr e
 exact absurd (e1.symm.trans h1.symm) h;exact .inl e2;rw[if_neg h1];by_cases h2:w.1=p;rw[if_pos h2,put_key];constructor;rintro(e|e)
 ·exact .inr (.inl ⟨h2.symm,e⟩)
 exact .inl e;rintro(e|⟨e1,e2⟩| ⟨e1,e2⟩)
 ·exact .inr e
 exact .inl e2;exact absurd e1.symm h1;rw[if_neg h2];exact⟨.inl,fun z=>z.elim id fun z=>z.elim (fun e=>absurd e.1.symm h2) fun e=>absurd e.1.symm h1⟩
def GoodW(w:Wy):Prop:=Lay w.1 w.2.1/\0<w.2.2
theorem pos_addw(g:GoodW w)(hp:Pos r):Pos (addw r w):=by intro p e he;rw[lk_addw (lay_ne g.1)]at he;by_cases h1:w.2.1=p;rw[if_pos h1]at he;rcases put_mem he with z|z;rw[z,<- h1];exact⟨fun x=>absurd x (wj 0),fun x=>absurd x (lay_not g.1)⟩;exact hp p e z;rw[if_neg h1]at he;by_cases h2:w.1=p;rw[if_pos h2]at he;rcases put_mem he with z|z;rw[z,<- h2];exact⟨fun _=>g.1,fun _=>g.2⟩;exact hp p e z;rw[if_neg h2]at he;exact hp p e he
theorem dom_addw(g:GoodW w)(hd:Dom r):Dom (addw r w):=by
 intro p q h;rw[key_addw];rcases(ent_addw (lay_ne g.1)).mp h with h|⟨_,h⟩| ⟨_,h⟩
 exact .inr (.inr (hd p q h));exact .inr (.inl h);exact .inl h
theorem put_len_le{α:Type}{w:α}{l:List (Pt×α)}(h:l.length<=n):(put l p w).length<=n+1:=QX put_len (by omega)
theorem put_has{α:Type}{p:Pt}{w:α}:∀{l:List (Pt×α)},(look l p).isSome=true->(put l p w).length=l.length
 |[],h=>by cases h
 |e::l,h=>by by_cases c:e.1=p;rw[show put (e::l) p w=(e.1,w)::l from if_pos c];rfl;rw[show put (e::l) p w=e::put l p w from if_neg c,QL,QL];rw[show look (e::l) p=look l p from if_neg c]at h;rw[put_has h]
theorem key_some(h:Key r p):(look r p).isSome=true:=by obtain⟨l,e⟩:=h;rw[e];rfl
theorem len_addw:(addw r w).length<=r.length+2:=by have k1:Key (sdf (sdf r w.1) w.2.1) w.1:=key_sdf.mpr (.inr (key_sdf.mpr (.inl rfl)));have k2:Key (sdf (sdf r w.1) w.2.1) w.2.1:=key_sdf.mpr (.inl rfl);unfold addw;rw[put_has (key_some (key_put.mpr (.inr k2))),put_has (key_some k1)];have:=sdf_len (r:=r) (p:=w.1);have:=sdf_len (r:=sdf r w.1) (p:=w.2.1);omega
theorem sz_addw(g:w.1≠w.2.1)(h:Sz r n):Sz (addw r w) (n+2):=by
 refine⟨QX len_addw (by have:=h.1;omega),fun p=>?_⟩;rw[lk_addw g];have h2:=h.2 p;split;exact QX (put_len_le h2) (by omega);split
 ·exact QX (put_len_le h2) (by omega)
 omega
theorem ent_all:∀{ws:List Wy}{r:Rm},(∀w∈ws,GoodW w)->∀{p q:Pt},Ent (ws.foldl addw r) p q↔Ent r p q∨(∃v,(p,q,v)∈ws)∨∃v,(q,p,v)∈ws
 |[],r,_,p,q=>⟨.inl,fun z=>z.elim id fun z=>z.elim (fun⟨_,z⟩=>(nomatch z)) fun⟨_,z⟩=>(nomatch z)⟩
 |w::ws,r,h,p,q=>by
  rw[wq,ent_all (fun w hw=>h w (QE _ hw)),ent_addw (lay_ne (h w QF).1)];constructor;rintro((z|⟨rfl,rfl⟩| ⟨rfl,rfl⟩)|⟨v,z⟩| ⟨v,z⟩)
  ·exact .inl z
  exact .inr (.inl ⟨_,QF⟩);exact .inr (.inr ⟨_,QF⟩);exact .inr (.inl ⟨v,QE _ z⟩);exact .inr (.inr ⟨v,QE _ z⟩);rintro(z|⟨v,z⟩| ⟨v,z⟩)
  ·exact .inl (.inl z)
  rcases QK.mp z with z|z
  ·rw[<- z]
   exact .inl (.inr (.inl ⟨rfl,rfl⟩))
  exact .inr (.inl ⟨v,z⟩);rcases QK.mp z with z|z
  ·rw[<- z]
   exact .inl (.inr (.inr ⟨rfl,rfl⟩))
  exact .inr (.inr ⟨v,z⟩)
theorem all_addw:∀{ws:List Wy}{r:Rm}{n:Nat},(∀w∈ws,GoodW w)->Pos r->Dom r->Key r sA->Sz r n->Pos (ws.foldl addw r)/\Dom (ws.foldl addw r)/\Key (ws.foldl addw r) sA/\Sz (ws.foldl addw r) (n+2 * ws.length)
 |[],r,n,_,h1,h2,h3,h4=>⟨h1,h2,h3,h4⟩
 |w::ws,r,n,h,h1,h2,h3,h4=>by have g:=h w QF;have:=all_addw (ws:=ws) (r:=addw r w) (n:=n+2) (fun w hw=>h w (QE _ hw)) (pos_addw g h1) (dom_addw g h2) (key_addw.mpr (.inr (.inr h3))) (sz_addw (lay_ne g.1) h4);rw[wq,QL,show n+2 * (ws.length+1)=n+2+2 * ws.length by omega];exact this
def wyS(g:Str)(n:Str):List Wy:=if n=g then[] else[(tO n,fR n,1),(sA,tO n,2)]
def wyE(g:Str)(e:Str×Str):List Wy:=if e.1=g∨e.1=e.2 then[] else[(tO e.1,fR e.1,1),(tO e.2,fR e.2,1),(fR e.1,tO e.2,2)]
def room0:Rm:=[(sA,[])]
def jA(es:LSS)(st:List Str)(g:Str):Rm:=(es.flatMap (wyE g)).foldl addw ((st.flatMap (wyS g)).foldl addw room0)
theorem z_1:(0:Int)<1:=by decide
theorem z_2:(0:Int)<2:=by decide
theorem wyS_len{n:Str}:(wyS g n).length<=2:=by unfold wyS;split;exact Q5 _;exact QR _
theorem wyE_len:(wyE g e).length<=3:=by unfold wyE;split;exact Q5 _;exact QR _
theorem wyS_good{n:Str}:∀w∈wyS g n,GoodW w:=by
 intro w hw;unfold wyS at hw;split at hw;exact(nomatch hw);rcases QK.mp hw with rfl|hw
 ·exact⟨.inr (.inl ⟨n,rfl,rfl⟩),z_1⟩
 rw[QJ.mp hw];exact⟨.inl ⟨rfl,n,rfl⟩,z_2⟩
theorem wyE_good:∀w∈wyE g e,GoodW w:=by
 intro w hw;unfold wyE at hw;split at hw;exact(nomatch hw);rename_i h;rcases QK.mp hw with rfl|hw;exact⟨.inr (.inl ⟨e.1,rfl,rfl⟩),z_1⟩;rcases QK.mp hw with rfl|hw
 ·exact⟨.inr (.inl ⟨e.2,rfl,rfl⟩),z_1⟩
 rw[QJ.mp hw];exact⟨.inr (.inr ⟨e.1,e.2,fun z=>h (.inr z),rfl,rfl⟩),z_2⟩
theorem flat_len{α:Type}{f:α->List Wy}{k:Nat}(h:∀x,(f x).length<=k):∀(l:List α),(l.flatMap f).length<=k * l.length
 |[]=>QR _
 |x::l=>by have:=flat_len h l;have:=h x;rw[QAC,QM,QL,Nat.mul_succ];omega
theorem flat_good{α:Type}{f:α->List Wy}(h:∀x,∀w∈f x,GoodW w)(l:List α):∀w∈l.flatMap f,GoodW w:=fun w hw=>by obtain⟨x,_,hx⟩:=QAQ.mp hw;exact h x w hx
structure RmOk(r:Rm)(n:Nat):Prop where
 pos:Pos r
 dom:Dom r
 bg:Key r sA
 sz:Sz r n
theorem ok_room0:RmOk room0 1:=by
 have e:∀p,lk room0 p=[]:=fun p=>by show(if sA=p then some [] else none).getD []=[];split<;>rfl
 refine⟨fun p e' he=>?_,fun p q ⟨v,h⟩=>?_,⟨[],if_pos rfl⟩,QR _,fun p=>?_⟩;rw[e]at he;exact(nomatch he);rw[e]at h;exact(nomatch h);rw[e];exact Q5 _
theorem RmOk.add{r:Rm}{n:Nat}(h:RmOk r n){ws:List Wy}(g:∀w∈ws,GoodW w):RmOk (ws.foldl addw r) (n+2 * ws.length):=by obtain⟨h1,h2,h3,h4⟩:=all_addw g h.pos h.dom h.bg h.sz;exact⟨h1,h2,h3,h4⟩
theorem ok_rooms(h1:es.length<=126)(h2:st.length<=11):RmOk (jA es st g) 1000:=by have a:=(ok_room0.add (flat_good (f:=wyS g) (fun _=>wyS_good) st)).add (flat_good (f:=wyE g) (fun _=>wyE_good) es);have l1:=flat_len (f:=wyS g) (k:=2) (fun _=>wyS_len) st;have l2:=flat_len (f:=wyE g) (k:=3) (fun _=>wyE_len) es;exact⟨a.pos,a.dom,a.bg,QX a.sz.1 (by omega),fun p=>QX (a.sz.2 p) (by omega)⟩
def Way(r:Rm)(p q:Pt):Prop:=∃v,(q,v)∈lk r p/\0<v
inductive Rch(r:Rm):Pt->Prop
 |bg:Rch r sA
 |go {p q:Pt}:Rch r p->Way r p q->Rch r q
theorem in_S{n:Str}:(p,q,v)∈wyS g n↔n≠g/\((p,q,v)=(tO n,fR n,1)∨(p,q,v)=(sA,tO n,2)):=by unfold wyS;split;rename_i h;exact⟨fun z=>(nomatch z),fun z=>absurd h z.1⟩;rename_i h;rw[QK,QJ];exact⟨fun z=>⟨h,z⟩,fun z=>z.2⟩
theorem in_E:(p,q,v)∈wyE g e↔(e.1≠g/\e.1≠e.2)/\((p,q,v)=(tO e.1,fR e.1,1)∨(p,q,v)=(tO e.2,fR e.2,1)∨(p,q,v)=(fR e.1,tO e.2,2)):=by unfold wyE;split;rename_i h;exact⟨fun z=>(nomatch z),fun z=>h.elim (fun h=>absurd h z.1.1) fun h=>absurd h z.1.2⟩;rename_i h;rw[QK,QK,QJ];exact⟨fun z=>⟨⟨fun e=>h (.inl e),fun e=>h (.inr e)⟩,z⟩,fun z=>z.2⟩
theorem goes_iff{cut:List Str}{s:Str}:goes g cut s=true↔s≠g/\s∉cut:=by unfold goes;rw[Qb,Q4,Q4,decide_eq_false_iff_not,decide_eq_false_iff_not]
end
section
variable{es:LSS}{st:List Str}{g:Str}{cut:List Str}
theorem led_goes{s:Str}(h:Led es st g cut s):s≠g/\s∉cut:=by
 cases h with
 |st _ h=>exact goes_iff.mp h
 |ed _ _ h=>exact goes_iff.mp h
end
section
variable{r:Rm}{ks:List Pt}{vs:List D}
theorem sz_all:∀{ws:List Wy}{r:Rm}{n:Nat},(∀w∈ws,GoodW w)->Sz r n->Sz (ws.foldl addw r) (n+2 * ws.length)
 |[],r,n,_,h4=>h4
 |w::ws,r,n,h,h4=>by have:=sz_all (ws:=ws) (r:=addw r w) (n:=n+2) (fun w hw=>h w (QE _ hw)) (sz_addw (lay_ne (h w QF).1) h4);rw[wq,QL,show n+2 * (ws.length+1)=n+2+2 * ws.length by omega];exact this
inductive CF(r:Rm):List Pt->List D->Prop
 |bg:CF r [sA] [.none]
 |add {ks:List Pt}{vs:List D}{p q:Pt}:CF r ks vs->p∈ks->Way r p q->q∉ks->CF r (ks++[q]) (vs++[pr p])
theorem CF.len(h:CF r ks vs):vs.length=ks.length:=by
 induction h with
 |bg=>rfl
 |add _ _ _ _ ih=>rw[QM,QM,ih];rfl
theorem CF.hb(h:CF r ks vs):sA∈ks:=by
 induction h with
 |bg=>exact QF
 |add _ _ _ _ ih=>exact Qf _ ih
theorem CF.rch(h:CF r ks vs):∀k∈ks,Rch r k:=by
 induction h with
 |bg=>intro k hk;rw[QJ.mp hk];exact .bg
 |add _ hp w _ ih=>intro k hk;rcases Qd.mp hk with z|z;exact ih k z;rw[QJ.mp z];exact .go (ih _ hp) w
theorem CF.nd(h:CF r ks vs):ks.Nodup:=by
 induction h with
 |bg=>exact Qe.mpr ⟨fun z=>(nomatch z),Q0⟩
 |add _ _ _ n ih=>refine qk.mpr ⟨ih,Qe.mpr ⟨fun z=>(nomatch z),Q0⟩,fun a ha b hb z=>?_⟩;rw[QJ.mp hb]at z;exact n (z▸ha)
theorem rch_key(hd:Dom r)(hb:Key r sA){p:Pt}(h:Rch r p):Key r p:=by
 cases h with
 |bg=>exact hb
 |go _ w=>obtain⟨v,m,_⟩:=w;exact hd _ _ ⟨v,m⟩
theorem key_mem{p:Pt}{l:Inn}:∀{r:Rm},look r p=some l->p∈r.map (·.1)
 |[],h=>by cases h
 |e::r,h=>by by_cases c:e.1=p;rw[<- c];exact QF;rw[show look (e::r) p=look r p from if_neg c]at h;exact QE _ (key_mem (r:=r) h)
theorem nd_lenP:∀{ks ns:List Pt},ks.Nodup->(∀s∈ks,s∈ns)->ks.length<=ns.length
 |[],_,_,_=>Q5 _
 |s::r,ns,h,hs=>by obtain⟨h1,h2⟩:=Qe.mp h;have hm:=hs s QF;have:=nd_lenP (ks:=r) (ns:=ns.erase s) h2 fun x hx=>(QAm (fun(e:x=s)=>h1 (e▸hx))).mpr (hs x (QE _ hx));rw[QAB hm]at this;have hp:=QAW hm;rw[QL];omega
theorem CF.le(hd:Dom r)(hb:Key r sA)(h:CF r ks vs):ks.length<=r.length:=by
 have:=nd_lenP (ns:=r.map (·.1)) h.nd fun s hs=>by obtain⟨l,e⟩:=rch_key hd hb (h.rch s hs);exact key_mem e
 rw[QG]at this;exact this
structure Srch(r:Rm)(ks:List Pt)(vs:List D)(ws:List Pt):Prop where
 cf:CF r ks vs
 sub:∀w∈ws,w∈ks
 clo:∀k∈ks,k∉ws->∀q,Way r k q->q∈ks
structure Srch1(r:Rm)(here:Pt)(ks:List Pt)(vs:List D)(ws:List Pt)(l:Inn):Prop where
 cf:CF r ks vs
 sub:∀w∈ws,w∈ks
 clo:∀k∈ks,k∉ws->k≠here->∀q,Way r k q->q∈ks
 her:here∈ks
 don:∀e∈lk r here,0<e.2->e.1∈ks∨e∈l
 all:∀e∈l,e∈lk r here
end
section
variable{r:Rm}{ks ws:List Pt}{vs:List D}
theorem srch0:Srch r [sA] [.none] [sA]:=⟨.bg,fun _ h=>h,fun k h n=>absurd h n⟩
theorem Srch.pop{w:Pt}(h:Srch r ks vs (w::ws)):Srch1 r w ks vs ws (lk r w):=by refine⟨h.cf,fun x hx=>h.sub x (QE _ hx),fun k hk n ne=>h.clo k hk fun z=>?_,h.sub w QF,fun e he _=>.inr he,fun e he=>he⟩;rcases QK.mp z with z|z;exact ne z;exact n z
theorem Srch1.skip{here:Pt}{e:Pt×Int}{l:Inn}(h:Srch1 r here ks vs ws (e::l))(c:0<e.2->e.1∈ks):Srch1 r here ks vs ws l:=by
 refine⟨h.cf,h.sub,h.clo,h.her,fun x hx p=>?_,fun x hx=>h.all x (QE _ hx)⟩;rcases h.don x hx p with z|z;exact .inl z;rcases QK.mp z with z|z
 ·rw[z]at p ⊢;exact .inl (c p)
 exact .inr z
theorem Srch1.add{here:Pt}{e:Pt×Int}{l:Inn}(h:Srch1 r here ks vs ws (e::l))(c:0<e.2)(n:e.1∉ks):Srch1 r here (ks++[e.1]) (vs++[pr here]) (ws++[e.1]) l:=by
 have me:=h.all e QF;refine⟨h.cf.add h.her ⟨e.2,me,c⟩ n,fun x hx=>?_,fun k hk nw ne q w=>?_,Qf _ h.her,fun x hx p=>?_,fun x hx=>h.all x (QE _ hx)⟩;rcases Qd.mp hx with z|z
 ·exact Qf _ (h.sub x z)
 exact QV _ z;rcases Qd.mp hk with z|z
 ·exact Qf _ (h.clo k z (fun y=>nw (Qf _ y)) ne q w)
 exact absurd (QV _ z) nw;rcases h.don x hx p with z|z
 ·exact .inl (Qf _ z)
 rcases QK.mp z with z|z
 ·rw[z];exact .inl (QV _ QF)
 exact .inr z
theorem Srch1.fin{here:Pt}(h:Srch1 r here ks vs ws []):Srch r ks vs ws:=by refine⟨h.cf,h.sub,fun k hk n q w=>?_⟩;by_cases e:k=here;subst e;obtain⟨v,m,p⟩:=w;rcases h.don (q,v) m p with z|z;exact z;exact(nomatch z);exact h.clo k hk n e q w
theorem Srch.done(h:Srch r ks vs [])(p:Pt):p∈ks↔Rch r p:=by
 refine⟨h.cf.rch p,fun z=>?_⟩;induction z with
 |bg=>exact h.cf.hb
 |go _ w ih=>exact h.clo _ ih (fun z=>(nomatch z)) _ w
end
def eC(Q:T->List T->Prop):PEnds:={ nx:=fun ρ=>outV (HA [0] ρ) (Q (.d .none)),rt:=fun t ρ=>outV (HA [0] ρ) (Q t) }
theorem begin_okc{Ψ:PEv}{b:PT}{p:PSp}{N ps:List Str}{ds:List T}{Q:T->List T->Prop}(ρ:kA)(hl:ds.length=ps.length)(hc:chgIx 0 p.md ps.length=[0])(hs:nA N p.md ds=ρ)(h:uA Ψ (fun _=>False) b (eC Q) ρ):ds.length=ps.length/\uA Ψ (fun _=>False) b (endsP p ps.length Q) (nA N p.md ds):=by
 have e:endsP p ps.length Q=eC Q:=by unfold endsP;rw[hc];rfl
 rw[e,hs];exact⟨hl,h⟩
def awS(r:Rm)(h t:Pt)(v:Int):kA:=[some (.own (eA r)),some (.nk (.d (pr h))),some (.nk (.d (pr t))),some (.nk (.d (.int v)))]
section
variable{Ψ:PEv}{Z:PEnds}{q:PT}{r:Rm}{h t:Pt}{v:Int}
theorem aw_1(hl:r.length<sizeLine)(k:uA Ψ (fun _=>False) q Z (awS (sdf r h) h t v)):uA Ψ (fun _=>False) (.seq (.sdf 0 (.var 1)) q) Z (awS r h t v):=by delta awS at k ⊢;simp?[↓cA];refine⟨rfl,sd_room hl ?_⟩;exact k
theorem aw_2(hl:r.length<sizeLine)(k:uA Ψ (fun _=>False) q Z (awS (sdf r t) h t v)):uA Ψ (fun _=>False) (.seq (.sdf 0 (.var 2)) q) Z (awS r h t v):=by delta awS at k ⊢;simp?[↓cA];refine⟨rfl,sd_room hl ?_⟩;exact k
theorem aw_3{l:Inn}(e:look r h=some l)(hl:l.length<sizeLine)(k:uA Ψ (fun _=>False) q Z (awS (put r h (put l t v)) h t v)):uA Ψ (fun _=>False) (.seq (.six (.idx (.var 0) (.var 1)) (.var 2) (.var 3)) q) Z (awS r h t v):=by delta awS at k ⊢;simp?[↓cA];refine sub_room e fun f hf=>st_inn hl ?_;rw[hf];exact k
theorem aw_4{l:Inn}(e:look r t=some l)(hl:l.length<sizeLine)(k:uA Ψ (fun _=>False) q Z (awS (put r t (put l h 0)) h t v)):uA Ψ (fun _=>False) (.seq (.six (.idx (.var 0) (.var 2)) (.var 1) (.int 0)) q) Z (awS r h t v):=by delta awS at k ⊢;simp?[↓cA];refine sub_room e fun f hf=>st_inn hl ?_;rw[hf];exact k
end
section
variable{r:Rm}{K:T->List T->Prop}{Ψ:PEv}
theorem key_look{p:Pt}(h:Key r p):look r p=some (lk r p):=by obtain⟨l,e⟩:=h;unfold lk;rw[e];rfl
def sp_addw:PSp where
 md:=[.chg]
 run:=fun ds Q _=>∃(r:Rm) (w:Wy),ds=[eA r,.d (pr w.1),.d (pr w.2.1),.d (.int w.2.2)]/\(w.1≠w.2.1/\Sz r 5000)/\Q (.d .none) [eA (addw r w)]
 mono:=fun h _ z=>by obtain⟨r,w,e,l,q⟩:=z;exact⟨r,w,e,l,h _ _ q⟩
theorem run_addw(w:Wy){E:XE}(h:w.1≠w.2.1)(s:Sz r 5000)(q:K (.d .none) [eA (addw r w)]):runP sp_addw [eA r,.d (pr w.1),.d (pr w.2.1),.d (.int w.2.2)] K E:=⟨r,w,rfl,⟨h,s⟩,q⟩
theorem ok_addw(ds Q E)(h:sp_addw.run ds Q E):ds.length=ps_add_way.length/\uA Ψ (fun _=>False) b_add_way (endsP sp_addw ps_add_way.length Q) (nA N_add_way sp_addw.md ds):=by obtain⟨r,w,rfl,⟨hn,hs⟩,q⟩:=h;have hz:sizeLine=16777216:=QZ;refine begin_okc (awS r w.1 w.2.1 w.2.2) rfl rfl rfl ?_;have h1:=hs.1;have h2:=sdf_len (r:=r) (p:=w.1);have k1:Key (sdf (sdf r w.1) w.2.1) w.1:=key_sdf.mpr (.inr (key_sdf.mpr (.inl rfl)));have k2:Key (sdf (sdf r w.1) w.2.1) w.2.1:=key_sdf.mpr (.inl rfl);have l1:=hs.2 w.1;have l2:=hs.2 w.2.1;refine aw_1 (by omega) (aw_2 (by omega) (aw_3 (key_look k1) (by rw[lk_sdf,lk_sdf];omega) (aw_4 (key_look (key_put.mpr (.inr k2))) (by rw[lk_put,if_neg hn,lk_sdf,lk_sdf];omega) ?_)));exact q
def sp_addn:PSp where
 md:=[.chg]
 run:=fun ds Q _=>∃(r:Rm) (n:Str),ds=[eA r,.d (.str n)]/\Sz r 5000/\Q (.d .none) [eA (addw r (tO n,fR n,1))]
 mono:=fun h _ z=>by obtain⟨r,w,e,l,q⟩:=z;exact⟨r,w,e,l,h _ _ q⟩
theorem run_addn{n:Str}{E:XE}(s:Sz r 5000)(q:K (.d .none) [eA (addw r (tO n,fR n,1))]):runP sp_addn [eA r,.d (.str n)] K E:=⟨r,n,rfl,s,q⟩
theorem ok_addn(h1:Ψ.sp "add_way"=sp_addw)(ds Q E)(h:sp_addn.run ds Q E):ds.length=ps_add_name.length/\uA Ψ (fun _=>False) b_add_name (endsP sp_addn ps_add_name.length Q) (nA N_add_name sp_addn.md ds):=by obtain⟨r,n,rfl,hs,q⟩:=h;have hz:sizeLine=16777216:=QZ;refine begin_okc [some (.own (eA r)),some (.nk (.d (.str n)))] rfl rfl rfl ?_;delta b_add_name;simp?[↓E_callc (md:=[]) h1 rfl rfl];refine⟨by omega,by omega,?_⟩;exact run_addw (tO n,fR n,1) KA hs ⟨_,rfl,q⟩
def rmS(es:LSS)(st:List Str)(g:Str)(r:Rm)(o4 o5 o6:Option Sl):kA:=[some (.nk (.d (.list (es.map pr)))),some (.nk (.d (.list (st.map PyData.str)))),some (.nk (.d (.str g))),some (.own (eA r)),o4,o5,o6]
end
section
variable{Ψ:PEv}{Z:PEnds}{es:LSS}{st:List Str}{g:Str}{r:Rm}
theorem rm_0(hB:Ψ.va "BEGIN"=some (pr sA)){q:PT}{o3 o4 o5 o6:Option Sl}(k:uA Ψ (fun _=>False) q Z (rmS es st g room0 o4 o5 o6)) :
  uA Ψ (fun _=>False) (.seq (.own 3 (.dsp (.glo "BEGIN") (.dnew true))) q) Z [some (.nk (.d (.list (es.map pr)))),some (.nk (.d (.list (st.map PyData.str)))),some (.nk (.d (.str g))),o3,o4,o5,o6]:=by
 simp?[↓E_glo hB];exact⟨key_pr sA,k⟩
theorem rm_1(h1:Ψ.sp "add_name"=sp_addn)(h2:Ψ.sp "add_way"=sp_addw)(hB:Ψ.va "BEGIN"=some (pr sA))(hW:Ψ.va "WIDE"=some (.int 2)){n:Str}{o5 o6:Option Sl}(hs:Sz r 4900)(k:Z.nx (rmS es st g ((wyS g n).foldl addw r) (some (.nk (.d (.str n)))) o5 o6)) :
  uA Ψ (fun _=>False) b_rooms_of_1 Z (rmS es st g r (some (.nk (.d (.str n)))) o5 o6):=by
 have hz:sizeLine=16777216:=QZ;delta rmS at k ⊢;delta b_rooms_of_1;simp?[↓E_glo hB,↓E_glo hW,↓E_callc (md:=[]) h1 rfl rfl,↓E_callc (md:=[]) h2 rfl rfl];by_cases e:n=g;rw[dT e];unfold wyS at k;rw[if_pos e]at k;exact k;rw[dF e];unfold wyS at k;rw[if_neg e]at k;have s1:Sz r 5000:=⟨QX hs.1 (by omega),fun p=>QX (hs.2 p) (by omega)⟩
 have s2:=sz_addw (w:=(tO n,fR n,1)) KA hs;have s3:Sz (addw r (tO n,fR n,1)) 5000:=⟨QX s2.1 (by omega),fun p=>QX (s2.2 p) (by omega)⟩
 refine run_addn s1 ⟨_,rfl,?_⟩;refine⟨by omega,?_⟩;exact run_addw (sA,tO n,2) bg_to s3 ⟨_,rfl,k⟩
theorem rm_2(h1:Ψ.sp "add_name"=sp_addn)(h2:Ψ.sp "add_way"=sp_addw)(hW:Ψ.va "WIDE"=some (.int 2)){a b:Str}{o4:Option Sl}(hs:Sz r 4900)(k:Z.nx (rmS es st g ((wyE g (a,b)).foldl addw r) o4 (some (.nk (.d (.str a)))) (some (.nk (.d (.str b)))))) :
  uA Ψ (fun _=>False) b_rooms_of_2 Z (rmS es st g r o4 (some (.nk (.d (.str a)))) (some (.nk (.d (.str b))))):=by
 have hz:sizeLine=16777216:=QZ;delta rmS at k ⊢;delta b_rooms_of_2;simp?[↓E_glo hW,↓E_callc (md:=[]) h1 rfl rfl,↓E_callc (md:=[]) h2 rfl rfl];unfold wyE at k;by_cases e:a=g;rw[dT e];rw[if_pos (.inl e)]at k;exact k;rw[dF e];by_cases e2:a=b;rw[dT e2];rw[if_pos (.inr e2)]at k;exact k;rw[dF e2];rw[if_neg (fun z=>z.elim e e2)]at k;have s1:Sz r 5000:=⟨QX hs.1 (by omega),fun p=>QX (hs.2 p) (by omega)⟩
 have s2:=sz_addw (w:=(tO a,fR a,1)) KA hs;have s3:=sz_addw (w:=(tO b,fR b,1)) KA s2;refine run_addn s1 ⟨_,rfl,?_⟩;refine run_addn ⟨QX s2.1 (by omega),fun p=>QX (s2.2 p) (by omega)⟩ ⟨_,rfl,?_⟩;refine⟨by omega,by omega,?_⟩;exact run_addw (fR a,tO b,2) KA.symm ⟨QX s3.1 (by omega),fun p=>QX (s3.2 p) (by omega)⟩ ⟨_,rfl,k⟩
end
section
variable{E:XE}{Ψ:PEv}{r:Rm}{p q:Pt}{l:Inn}{n m:Bool}{R:T->Prop}{W:List T->Prop}{ρ:kA}{b:PX}{M:List (T×Bool)->kA->Prop}{md:List Md}{ks:List Pt}{vs:List D}
def sp_rooms:PSp where
 md:=[]
 run:=fun ds Q _=>∃(es:LSS) (st:List Str) (g:Str),ds=[.d (.list (es.map pr)),.d (.list (st.map PyData.str)),.d (.str g)]/\(es.length<=126/\st.length<=11)/\Q (eA (jA es st g)) []
 mono:=fun h _ z=>by obtain⟨es,st,g,e,l,q⟩:=z;exact⟨es,st,g,e,l,h _ _ q⟩
theorem run_rooms{es:LSS}{st:List Str}{g:Str}{K:T->List T->Prop}(h1:es.length<=126)(h2:st.length<=11)(q:K (eA (jA es st g)) []):runP sp_rooms [.d (.list (es.map pr)),.d (.list (st.map PyData.str)),.d (.str g)] K E:=⟨es,st,g,rfl,⟨h1,h2⟩,q⟩
theorem ok_roomsD(h1:Ψ.sp "add_name"=sp_addn)(h2:Ψ.sp "add_way"=sp_addw)(hB:Ψ.va "BEGIN"=some (pr sA))(hW:Ψ.va "WIDE"=some (.int 2))(ds Q E)(h:sp_rooms.run ds Q E):ds.length=ps_rooms_of.length/\uA Ψ (fun _=>False) b_rooms_of (endsP sp_rooms ps_rooms_of.length Q) (nA N_rooms_of sp_rooms.md ds):=by obtain⟨es,st,g,rfl,⟨l1,l2⟩,q⟩:=h;refine begin_ok [some (.nk (.d (.list (es.map pr)))),some (.nk (.d (.list (st.map PyData.str)))),some (.nk (.d (.str g))),none,none,none,none] rfl rfl rfl ?_;refine rm_0 hB ?_;delta rmS;simp?[↓cA];rw[<- map_d];refine for_inv (fun(s:Str)=>T.d (.str s)) (fun l ρ=>∃r o4,RmOk r (1+4 * (11 - l.length))/\l.length<=11/\(l.flatMap (wyS g)).foldl addw r=(st.flatMap (wyS g)).foldl addw room0/\ρ=rmS es st g r o4 none none) ?_ ?_ _ _ ⟨room0,_,?_,l2,rfl,rfl⟩;rintro ρ ⟨r,o4,ok,_,e,rfl⟩;have e:r=(st.flatMap (wyS g)).foldl addw room0:=e;delta rmS;simp?[↓cA];rw[<- map_d];refine for_inv (fun(p:Str×Str)=>T.d (pr p)) (fun l ρ=>∃r o5 o6,Sz r (45+6 * (126 - l.length))/\l.length<=126/\(l.flatMap (wyE g)).foldl addw r=jA es st g/\ρ=rmS es st g r (killS o4) o5 o6) ?_ ?_ _ _ ⟨r,_,_,?_,l1,by rw[e];rfl,rfl⟩;rintro ρ ⟨r,o5,o6,_,_,e,rfl⟩;have e:r=jA es st g:=e;subst e;delta rmS;simp?[↓cA];exact q;rintro⟨a,b⟩ l ρ N hN ⟨r,o5,o6,s,ll,e,rfl⟩;rw[QL]at s ll;rw[QAC,QAD]at e;refine optP.mk rfl ?_;refine rm_2 (a:=a) (b:=b) h1 h2 hW ⟨QX s.1 (by omega),fun p=>QX (s.2 p) (by omega)⟩ (hN _ ⟨_,_,_,?_,by omega,e,rfl⟩);have z:Sz ((wyE g (a,b)).foldl addw r) (45+6 * (126 - (l.length+1))+2 * (wyE g (a,b)).length):=sz_all wyE_good s;have y:=wyE_len (g:=g) (e:=(a,b));exact⟨QX z.1 (by omega),fun p=>QX (z.2 p) (by omega)⟩;exact⟨QX ok.sz.1 (by rw[Qu];omega),fun p=>QX (ok.sz.2 p) (by rw[Qu];omega)⟩;rintro s l ρ N hN ⟨r,o4,ok,ll,e,rfl⟩;rw[QL]at ok ll;rw[QAC,QAD]at e;refine rm_1 (n:=s) h1 h2 hB hW ⟨QX ok.sz.1 (by omega),fun p=>QX (ok.sz.2 p) (by omega)⟩ (hN _ ⟨_,_,?_,by omega,e,rfl⟩);have z:=ok.add (ws:=wyS g s) wyS_good;have y:=wyS_len (g:=g) (n:=s);exact⟨z.pos,z.dom,z.bg,QX z.sz.1 (by omega),fun p=>QX (z.sz.2 p) (by omega)⟩;exact⟨ok_room0.pos,ok_room0.dom,ok_room0.bg,QX ok_room0.sz.1 (by omega),fun p=>QX (ok_room0.sz.2 p) (by omega)⟩
def innD(l:Inn):D:=.dict (l.map fun e=>(pr e.1,.int e.2))
def kvR(r:Rm):List (D×D):=r.map fun e=>(pr e.1,innD e.2)
theorem kind_room(h:look r p=some l):kindD (kvR r)=some true:=by
 cases r with
 |nil=>cases h
 |cons e r=>rfl
theorem kind_inn(l:Inn):(l.map fun e=>(pr e.1,PyData.int e.2))=[]∨kindD (l.map fun e=>(pr e.1,PyData.int e.2))=some true:=by
 cases l with
 |nil=>exact .inl rfl
 |cons e r=>exact .inr rfl
theorem x_room(h:Key r p)(k:R (.d (innD (lk r p)))):idxV (.d (.dict (kvR r))) n (.d (pr p)) m R:=by
 have e:=key_look h;obtain⟨i,i1,i2,_⟩:=find_some (fun l=>T.d (innD l)) e;have e1:(kvR r).map (·.1)=keyL r:=by unfold kvR keyL;rw[Qp];rfl
 refine x_dk (kind_room e) (key_pr p) (by rw[e1];exact i1) ?_ k;have e2:(kvR r).map (·.2)=r.map fun e=>innD e.2:=by unfold kvR;rw[Qp];rfl
 rw[e2];rw[QY]at i2 ⊢;cases z:r[i]? with
 |none=>rw[z]at i2;cases i2
 |some x=>rw[z]at i2;injection i2 with i2;injection i2 with i2;show some (innD x.2)=_;rw[i2]
theorem w_inn:itV .itm [(.d (innD l),n)] W=W (l.map fun e=>.d (.tuple [pr e.1,.int e.2])):=by unfold innD;rw[w_itm (kind_inn l),Qp];rfl
theorem Q_room{K:TK}:sqE (eA r) false Ψ b E ρ K=peE Ψ b E (lockA ρ) fun y m _=>K y m ρ:=rfl
theorem Q_inn{K:TK}:sqE (innT l) false Ψ b E ρ K=peE Ψ b E (lockA ρ) fun y m _=>K y m ρ:=rfl
theorem J_room:sqA (eA r) false Ψ b E md ρ M=peA Ψ b E md (lockA ρ) fun xs _=>M xs ρ:=rfl
theorem J_inn:sqA (innT l) false Ψ b E md ρ M=peA Ψ b E md (lockA ρ) fun xs _=>M xs ρ:=rfl
def IsRm(t:T)(r:Rm):Prop:=t=eA r∨t=.d (.dict (kvR r))
theorem x_dT{b:Bool}{ks:List D}{ts:List T}{n m:Bool}{k:D}{l:Nat}{t:T}(h1:keyK b k)(h2:dA ks k=some l)(h3:ts[l]?=some t)(h:R t):idxV (.dct b ks ts) false (.d k) m R:=.inr ⟨b,ks,ts,l,t,rfl,h1,h2,h3,h⟩
theorem x_roomT(h:Key r p)(k:R (innT (lk r p))):idxV (eA r) false (.d (pr p)) m R:=by obtain⟨i,i1,i2,_⟩:=find_some innT (key_look h);exact x_dT (n:=false) (key_pr p) i1 i2 k
theorem x_innT{v:Int}(h:look l p=some v)(k:R (.d (.int v))):idxV (innT l) false (.d (pr p)) m R:=by obtain⟨i,i1,i2,_⟩:=find_some (fun v:Int=>T.d (.int v)) h;exact x_dT (n:=false) (key_pr p) i1 i2 k
theorem unD_inn(l:Inn):unD (l.map fun e=>T.d (.int e.2))=some (l.map fun e=>.int e.2):=by rw[show(l.map fun e=>T.d (.int e.2))=(l.map fun e=>PyData.int e.2).map T.d by rw[Qp];rfl,iA]
theorem w_innT:itV .itm [(innT l,false)] W=W (l.map fun e=>.d (.tuple [pr e.1,.int e.2])):=by
 refine(itemsT_6 _ _).trans ?_;have e:((keyL l).zip (l.map fun e=>PyData.int e.2)).map (fun p=>T.d (.tuple [p.1,p.2]))=l.map fun e=>T.d (.tuple [pr e.1,.int e.2]):=by unfold keyL;rw[List.zip_map',Qp];rfl
 refine propext ⟨fun⟨ds,e1,k⟩=>?_,fun k=>⟨_,unD_inn l,by rw[e];exact k⟩⟩;rw[unD_inn]at e1;cases e1;rw[e]at k;exact k
theorem vrs_idx{a:PX}:vrs (.idx a b)=vrs a:=rfl
theorem al_inn:allD [(innT l,false)]=false:=rfl
def cam(ks:List Pt)(vs:List D):T:=.dct true (ks.map pr) (vs.map T.d)
theorem pt_mem:pr q∈ks.map pr↔q∈ks:=by constructor;intro h;obtain⟨x,hx,e⟩:=Qh.mp h;rw[<- pr_inj e];exact hx;exact List.mem_map_of_mem
theorem find_pt(ks:List Pt)(q:Pt):(dA (ks.map pr) (pr q)).isSome=decide (q∈ks):=by rw[qO,findK_some,pt_mem,decide_eq_true_iff]
theorem st_cam{x:D}{Q:T->Prop}(n:q∉ks)(hl:ks.length<sizeLine)(k:Q (cam (ks++[q]) (vs++[x]))):stV (cam ks vs) (.d (pr q)) (.d x) Q:=by refine⟨key_pr q,by rw[QG];exact hl,?_⟩;show Q (putD true (ks.map pr) (vs.map T.d) (pr q) (.d x));unfold putD;rw[findK_none.mpr (fun z=>n (pt_mem.mp z))];unfold cam at k;rw[Qc,Qc]at k;exact k
theorem c_ninC{L:Bool->Prop}:cmpV .NotIn (.d (pr q)) (cam ks vs) L=L (!decide (q∈ks)):=by unfold cam;rw[c_ninD,find_pt];exact propext ⟨fun h=>h.2,fun h=>⟨key_pr q,h⟩⟩
def prS(t0:T)(ks:List Pt)(vs:List D)(ws:List Pt)(o3 o4 o5:Option Sl):kA:=[some (.nk t0),some (.own (cam ks vs)),some (.own (.lst ((ws.map pr).map T.d))),o3,o4,o5]
end
section
variable{Ψ:PEv}{Z:PEnds}{t0:T}{r:Rm}{ks ws:List Pt}{vs:List D}
section
variable{w:Pt}{o3 o4 o5:Option Sl}
theorem pr_1{p q:Pt}{v:Int}(hl:ks.length<sizeLine)(hw:ws.length<sizeLine)(k0:(0<v->q∈ks)->Z.nx (prS t0 ks vs ws (some (.nk (.d (pr p)))) (some (.nk (.d (pr q)))) (some (.nk (.d (.int v))))))
  (k1:0<v->q∉ks->Z.nx (prS t0 (ks++[q]) (vs++[pr p]) (ws++[q]) (some (.nk (.d (pr p)))) (some (.nk (.d (pr q)))) (some (.nk (.d (.int v)))))) :
  uA Ψ (fun _=>False) b_points_reached_1 Z (prS t0 ks vs ws (some (.nk (.d (pr p)))) (some (.nk (.d (pr q)))) (some (.nk (.d (.int v))))):=by
 delta prS at k0 k1 ⊢;delta b_points_reached_1;simp?[↓c_ninC];by_cases h:0<v;rw[dT h];by_cases h2:q∈ks;rw[dT h2];exact k0 fun _=>h2;rw[dF h2];simp only[QAn,↓reduceIte];refine st_cam h2 hl ?_;refine⟨by rw[QG,QG];exact hw,?_⟩;have:=k1 h h2;rw[Qc,Qc]at this;exact this;rw[dF h];exact k0 fun z=>absurd z h
theorem pr_pop{q:PT}(k:uA Ψ (fun _=>False) q Z (prS t0 ks vs ws (some (.nk (.d (pr w)))) o4 o5)) :
  uA Ψ (fun _=>False) (.seq (.set 3 (.mt .pop (.var 2) (.nh (.int 0) .nj))) q) Z (prS t0 ks vs (w::ws) o3 o4 o5):=by
 delta prS at k ⊢;simp?[↓cA];refine⟨0,.d (pr w),?_,rfl,rfl,k⟩;unfold ixN;rw[if_pos (by decide),if_pos (by rw[QG,QG,QL];omega)];rfl
theorem pr_for(hr:IsRm t0 r)(hk:Key r w)
  (k:forV (uA Ψ (fun _=>False) b_points_reached_1) (.tp [4,5]) { Z with nx:=fun ρ2=>Z.nx (kill [4,5] ρ2) } ((lk r w).map fun e=>T.d (.tuple [pr e.1,.int e.2])) (prS t0 ks vs ws (some (.nk (.d (pr w)))) o4 o5)) :
  uA Ψ (fun _=>False) (.seq (.for_ (.tp [4,5]) .itm (.nh (.idx (.var 0) (.var 3)) .nj) b_points_reached_1) .nil) Z (prS t0 ks vs ws (some (.nk (.d (pr w)))) o4 o5):=by
 rcases hr with rfl|rfl;delta prS at k ⊢;simp?[↓Q_room];refine x_roomT hk ?_;simp?[↓J_inn,↓w_innT,al_inn,vrs_idx];exact k;delta prS at k ⊢;simp?[↓cA];refine x_room hk ?_;simp?[↓w_inn];exact k
theorem pr_2(rr:IsRm t0 r)(hd:Dom r)(hb:Key r sA)(hr:r.length<=1000)(h:Srch r ks vs (w::ws))(hm:2 * (r.length - ks.length)+ws.length+1<=3000)
  (hz:∀ks' vs' ws' o3 o4 o5,Srch r ks' vs' ws'->2 * (r.length - ks'.length)+ws'.length<=2 * (r.length - ks.length)+ws.length->Z.nx (prS t0 ks' vs' ws' o3 o4 o5)) :
  uA Ψ (fun _=>False) b_points_reached_2 Z (prS t0 ks vs (w::ws) o3 o4 o5):=by
 have hZ:sizeLine=16777216:=QZ;refine pr_pop ?_;have h0:=h.pop;have hk:Key r w:=rch_key hd hb (h.cf.rch w (h.sub w QF));refine pr_for rr hk ?_;refine for_inv (fun(e:Pt×Int)=>T.d (.tuple [pr e.1,.int e.2])) (fun l ρ=>∃ks' vs' ws' o4 o5,Srch1 r w ks' vs' ws' l/\2 * (r.length - ks'.length)+ws'.length<=2 * (r.length - ks.length)+ws.length/\ρ=prS t0 ks' vs' ws' (some (.nk (.d (pr w)))) o4 o5) ?_ ?_ _ _ ⟨ks,vs,ws,_,_,h0,QR _,rfl⟩;rintro ρ ⟨ks',vs',ws',p4,p5,s,l,rfl⟩;exact hz ks' vs' ws' _ (killS p4) (killS p5) s.fin l;rintro⟨q,v⟩ l ρ N hN ⟨ks',vs',ws',p4,p5,s,e,rfl⟩;refine optP.mk rfl ?_;have s1:=s.cf.le hd hb;refine pr_1 (p:=w) (q:=q) (v:=v) (by omega) (by omega) (fun c=>hN _ ⟨ks',vs',ws',_,_,s.skip c,e,rfl⟩) fun c n=>?_;have s2:=s.add c n;have s3:=s2.cf.le hd hb;rw[QM,Qn]at s3;exact hN _ ⟨_,_,_,_,_,s2,by rw[QM,QM,Qn];omega,rfl⟩
theorem pr_0(hB:Ψ.va "BEGIN"=some (pr sA)){q:PT}(k:uA Ψ (fun _=>False) q Z (prS t0 [sA] [.none] [sA] none none none)) :
  uA Ψ (fun _=>False) (.seq (.own 1 (.dsp (.glo "BEGIN") .non)) (.seq (.own 2 (.lst (.nh (.glo "BEGIN") .nj))) q)) Z [some (.nk t0),none,none,none,none,none]:=by
 have hZ:sizeLine=16777216:=QZ;simp?[↓E_glo hB];exact⟨key_pr sA,by omega,k⟩
end
end
theorem whl_inv{Ψ:PEv}{E:XE}{c:PX}{q:PT}{Z:PEnds}{ρ:kA}(W:Nat->kA->Prop)(m:Nat)(h0:W m ρ)(hs:∀m ρ,W m ρ->peT Ψ c E ρ fun b ρ1=>if b=true then uA Ψ E q { Z with nx:=fun ρ'=>∃m',m' < m/\W m' ρ',ct:=fun ρ'=>∃m',m' < m/\W m' ρ',bk:=Z.nx } ρ1 else Z.nx ρ1):whlP Ψ E c q Z ρ:=⟨W,⟨m,h0⟩,hs⟩
def sp_reach:PSp where
 md:=[.nk]
 run:=fun ds Q _=>∃(t0:T) (r:Rm),ds=[t0]/\(IsRm t0 r/\Dom r/\Key r sA/\r.length<=1000)/\∀ks vs,CF r ks vs->(∀p,p∈ks↔Rch r p)->Q (cam ks vs) []
 mono:=fun h _ z=>by obtain⟨t0,r,e,l,q⟩:=z;exact⟨t0,r,e,l,fun ks vs a b=>h _ _ (q ks vs a b)⟩
theorem run_reach{t0:T}{r:Rm}{K:T->List T->Prop}{E:XE}(h0:IsRm t0 r)(h1:Dom r)(h2:Key r sA)(h3:r.length<=1000)(q:∀ks vs,CF r ks vs->(∀p,p∈ks↔Rch r p)->K (cam ks vs) []):runP sp_reach [t0] K E:=⟨t0,r,rfl,⟨h0,h1,h2,h3⟩,q⟩
theorem ok_reach{Ψ:PEv}(hB:Ψ.va "BEGIN"=some (pr sA))(ds Q E)(h:sp_reach.run ds Q E):ds.length=ps_points_reached.length/\uA Ψ (fun _=>False) b_points_reached (endsP sp_reach ps_points_reached.length Q) (nA N_points_reached sp_reach.md ds):=by
 obtain⟨t0,r,rfl,⟨h0,hd,hb,hr⟩,q⟩:=h;refine begin_ok [some (.nk t0),none,none,none,none,none] rfl rfl rfl ?_;refine pr_0 hB ?_;delta prS;simp?[↓cA];refine whl_inv (fun m ρ=>m<=3000/\∃ks vs ws o3 o4 o5,Srch r ks vs ws/\m=2 * (r.length - ks.length)+ws.length/\ρ=prS t0 ks vs ws o3 o4 o5) (2 * (r.length - 1)+1) ⟨by omega,[sA],[.none],[sA],none,none,none,srch0,rfl,rfl⟩ ?_;rintro m ρ ⟨hm,ks,vs,ws,o3,o4,o5,s,e,rfl⟩;cases ws with
 |nil=>delta prS;simp?[QG];rw[dF (by omega)];simp?[↓cA];exact q ks vs s.cf s.done
 |cons w ws=>rw[QL]at e;have hp:=fun(Z:PEnds) hz=>pr_2 (Ψ:=Ψ) (Z:=Z) (o3:=o3) (o4:=o4) (o5:=o5) h0 hd hb hr s (by omega) hz;unfold prS at hp;delta prS;simp?[QG];rw[dT (by omega)];refine hp _ fun ks' vs' ws' o3 o4 o5 s' l'=>⟨_,by omega,by omega,ks',vs',ws',o3,o4,o5,s',rfl,rfl⟩
theorem at_0{α:Type}{x:α}{r:List α}:atI (x::r) 0=some x:=atI_nat (j:=0) rfl
theorem at_1{α:Type}{x y:α}{r:List α}:atI (x::y::r) 1=some y:=atI_nat (j:=1) rfl
def sm:List Pt->(Pt->Int)->Int
 |[],_=>0
 |x::l,f=>f x+sm l f
section
variable{f g:Pt->Int}
theorem GA:∀{l:List Pt},(∀x∈l,f x=g x)->sm l f=sm l g
 |[],_=>rfl
 |x::l,h=>by show f x+sm l f=g x+sm l g;rw[h x QF,GA fun y hy=>h y (QE _ hy)]
theorem sm_add:∀(l:List Pt),sm l (fun x=>f x+g x)=sm l f+sm l g
 |[]=>rfl
 |x::l=>by show f x+g x+sm l _=f x+sm l f+(g x+sm l g);rw[sm_add l];omega
theorem sm_neg:∀(l:List Pt),sm l (fun x=>- f x)=- sm l f
 |[]=>rfl
 |x::l=>by show - f x+sm l _=- (f x+sm l f);rw[sm_neg l];omega
theorem sm_zero:∀(l:List Pt),sm l (fun _=>0)=0
 |[]=>rfl
 |x::l=>by show 0+sm l _=0;rw[sm_zero l];rfl
theorem sm_nonneg:∀{l:List Pt},(∀x∈l,0<=f x)->0<=sm l f
 |[],_=>Int.le_refl _
 |x::l,h=>by have h1:=h x QF;have h2:=sm_nonneg (l:=l) fun y hy=>h y (QE _ hy);show 0<=f x+sm l f;omega
theorem sm_one:∀{l:List Pt},(∀x∈l,0<=f x)->∀{y:Pt},y∈l->f y<=sm l f
 |x::l,h,y,hy=>by have h1:=h x QF;have h0:∀y∈l,0<=f y:=fun y hy=>h y (QE _ hy);show f y<=f x+sm l f;rcases QK.mp hy with e|e;have h2:=sm_nonneg h0;rw[e];omega;have h2:=sm_one h0 e;omega
theorem sm_two:∀{l:List Pt},(∀x∈l,0<=f x)->∀{y z:Pt},y∈l->z∈l->y≠z->f y+f z<=sm l f
 |x::l,h,y,z,hy,hz,ne=>by
  have h1:=h x QF;have h0:∀y∈l,0<=f y:=fun y hy=>h y (QE _ hy);show f y+f z<=f x+sm l f;rcases QK.mp hy with e|e;rcases QK.mp hz with e'|e'
  ·exact absurd (e.trans e'.symm) ne
  have h2:=sm_one h0 e';rw[e];omega;rcases QK.mp hz with e'|e'
  ·have h2:=sm_one h0 e
   rw[e'];omega
  have h2:=sm_two h0 e e' ne;omega
theorem sm_pos:∀{l:List Pt},0<sm l f->∃x∈l,0<f x
 |[],h=>absurd h (wj 0)
 |x::l,h=>by by_cases c:0<f x;exact⟨x,QF,c⟩;have h:0<f x+sm l f:=h;obtain⟨y,hy,p⟩:=sm_pos (l:=l) (by omega);exact⟨y,QE _ hy,p⟩
theorem sm_swap{k:Pt->Pt->Int}{m:List Pt}:∀(l:List Pt),sm l (fun x=>sm m fun y=>k x y)=sm m fun y=>sm l fun x=>k x y
 |[]=>(sm_zero m).symm
 |x::l=>by show sm m (fun y=>k x y)+sm l _=sm m fun y=>k x y+sm l fun x=>k x y;rw[sm_swap l,sm_add]
theorem sm_ite0{u:Pt}{k:Int}:∀{l:List Pt},u∉l->sm l (fun x=>if x=u then k else 0)=0
 |[],_=>rfl
 |x::l,h=>by show(if x=u then k else 0)+sm l _=0;rw[if_neg (fun(e:x=u)=>h (e▸QF)),sm_ite0 fun z=>h (QE _ z)];rfl
theorem sm_ite{u:Pt}{k:Int}:∀{l:List Pt},l.Nodup->u∈l->sm l (fun x=>if x=u then k else 0)=k
 |x::l,nd,h=>by obtain⟨h1,h2⟩:=Qe.mp nd;show(if x=u then k else 0)+sm l _=k;by_cases e:x=u;rw[if_pos e,sm_ite0 (by rw[<- e];exact h1)];omega;rw[if_neg e,sm_ite h2 ((QK.mp h).resolve_left fun z=>e z.symm)];omega
theorem sm_split(p:Pt->Bool):∀(l:List Pt),sm l f=sm (l.filter p) f+sm (l.filter fun x=>!p x) f
 |[]=>rfl
 |x::l=>by
  show f x+sm l f=_;rw[WD,WD,sm_split p l];cases p x with
  |true=>show _=(f x+sm (l.filter p) f)+sm (l.filter fun x=>!p x) f;omega
  |false=>show _=sm (l.filter p) f+(f x+sm (l.filter fun x=>!p x) f);omega
theorem sm_anti{a:Pt->Pt->Int}(l:List Pt)(h:∀x∈l,∀y∈l,a x y=- a y x):sm l (fun x=>sm l fun y=>a x y)=0:=by
 have e1:sm l (fun x=>sm l fun y=>a x y)=sm l fun y=>sm l fun x=>a x y:=sm_swap l;have e2:(sm l fun y=>sm l fun x=>a x y)=- sm l (fun y=>sm l fun x=>a y x):=by rw[<- sm_neg];refine GA fun y hy=>?_;rw[<- sm_neg];exact GA fun x hx=>h x hx y hy
 omega
end
section
variable{p q u v:Pt}{r:Rm}{w:Wy}{es:LSS}{st:List Str}{g:Str}
def rm(r:Rm)(p q:Pt):Int:=(look (lk r p) q).getD 0
def Adj(r:Rm)(p q:Pt):Prop:=∃v,look (lk r p) q=some v
def NdI(r:Rm):Prop:=∀p,((lk r p).map (·.1)).Nodup
theorem look_in{α:Type}{q:Pt}{v:α}:∀{l:List (Pt×α)},look l q=some v->(q,v)∈l
 |[],h=>by cases h
 |e::l,h=>by by_cases c:e.1=q;rw[show look (e::l) q=some e.2 from if_pos c]at h;injection h with h;rw[<- c,<- h];exact QF;rw[show look (e::l) q=look l q from if_neg c]at h;exact QE _ (look_in h)
theorem in_look{α:Type}{q:Pt}{v:α}:∀{l:List (Pt×α)},(l.map (·.1)).Nodup->(q,v)∈l->look l q=some v
 |e::l,nd,h=>by obtain⟨h1,h2⟩:=Qe.mp nd;rcases QK.mp h with c|c;rw[<- c];exact if_pos rfl;have ne:e.1≠q:=fun z=>h1 (Qh.mpr ⟨(q,v),c,z.symm⟩);rw[show look (e::l) q=look l q from if_neg ne];exact in_look h2 c
theorem put_keys{α:Type}{p:Pt}{w:α}:∀{l:List (Pt×α)},(put l p w).map (·.1)=if p∈l.map (·.1) then l.map (·.1) else l.map (·.1)++[p]
 |[]=>rfl
 |e::l=>by by_cases c:e.1=p;rw[show put (e::l) p w=(e.1,w)::l from if_pos c,if_pos (by rw[<- c];exact QF)];rfl;rw[show put (e::l) p w=e::put l p w from if_neg c];rw[QN,QN,put_keys];by_cases h:p∈l.map (·.1);rw[if_pos h,if_pos (QE _ h)];rw[if_neg h,if_neg (fun z=>(QK.mp z).elim (fun z=>c z.symm) h)];rfl
theorem put_ndk{α:Type}{w:α}{l:List (Pt×α)}(h:(l.map (·.1)).Nodup):((put l p w).map (·.1)).Nodup:=by rw[put_keys];split;exact h;rename_i n;refine qk.mpr ⟨h,Qe.mpr ⟨fun z=>(nomatch z),Q0⟩,fun a ha b hb z=>?_⟩;rw[QJ.mp hb]at z;exact n (z▸ha)
theorem way_rm(nd:NdI r):Way r p q↔0<rm r p q:=by
 unfold Way rm;constructor;rintro⟨v,m,h⟩;rw[in_look (nd p) m];exact h;intro h;cases e:look (lk r p) q with
 |none=>rw[e]at h;exact absurd h (wj 0)
 |some v=>rw[e]at h;exact⟨v,look_in e,h⟩
def psh(r:Rm)(u v:Pt):Rm:=put (put r u (put (lk r u) v (rm r u v - 1))) v (put (lk (put r u (put (lk r u) v (rm r u v - 1))) v) u (rm (put r u (put (lk r u) v (rm r u v - 1))) v u+1))
theorem lk_psh(h:u≠v)(p:Pt):lk (psh r u v) p=if v=p then put (lk r v) u (rm r v u+1) else if u=p then put (lk r u) v (rm r u v - 1) else lk r p:=by
 have e:rm (put r u (put (lk r u) v (rm r u v - 1))) v u=rm r v u:=by unfold rm;rw[lk_put,if_neg h]
 unfold psh;rw[e,lk_put,lk_put,lk_put,if_neg h]
theorem rm_psh(h:u≠v)(p q:Pt):rm (psh r u v) p q=rm r p q+(if p=v/\q=u then 1 else 0) - (if p=u/\q=v then 1 else 0):=by show(look (lk (psh r u v) p) q).getD 0=_;rw[lk_psh h];by_cases h1:v=p;rw[if_pos h1,look_put,if_neg (c:=p=u/\q=v) (fun z=>h (z.1.symm.trans h1.symm))];by_cases h2:u=q;rw[if_pos h2,if_pos ⟨h1.symm,h2.symm⟩,<- h1,<- h2];show rm r v u+1=rm r v u+1 - 0;omega;rw[if_neg h2,if_neg (fun z=>h2 z.2.symm),h1];show rm r p q=rm r p q+0 - 0;omega;rw[if_neg h1,if_neg (c:=p=v/\q=u) (fun z=>h1 z.1.symm)];by_cases h2:u=p;rw[if_pos h2,look_put];by_cases h3:v=q;rw[if_pos h3,if_pos ⟨h2.symm,h3.symm⟩,<- h2,<- h3];show rm r u v - 1=rm r u v+0 - 1;omega;rw[if_neg h3,if_neg (fun z=>h3 z.2.symm),h2];show rm r p q=rm r p q+0 - 0;omega;rw[if_neg h2,if_neg (fun z=>h2 z.1.symm)];show rm r p q=rm r p q+0 - 0;omega
theorem adj_ent:Adj r p q↔Ent r p q:=by
 unfold Adj Ent;constructor;rintro⟨v,h⟩;exact⟨v,look_in h⟩;rintro⟨v,h⟩;generalize lk r p=l at h;induction l with
 |nil=>exact(nomatch h)
 |cons e l ih =>
  by_cases c:e.1=q;exact⟨e.2,if_pos c⟩;rcases QK.mp h with z|z
  ·exact absurd (by rw[<- z]) c
  obtain⟨w,hw⟩:=ih z;exact⟨w,(show look (e::l) q=look l q from if_neg c).trans hw⟩
theorem adj_psh(h:u≠v)(h1:Adj r u v)(h2:Adj r v u):Adj (psh r u v) p q↔Adj r p q:=by unfold Adj;rw[lk_psh h];by_cases e1:v=p;rw[if_pos e1,look_put];by_cases e2:u=q;rw[if_pos e2,<- e1,<- e2];exact⟨fun _=>h2,fun _=>⟨_,rfl⟩⟩;rw[if_neg e2,e1];rw[if_neg e1];by_cases e2:u=p;rw[if_pos e2,look_put];by_cases e3:v=q;rw[if_pos e3,<- e2,<- e3];exact⟨fun _=>h1,fun _=>⟨_,rfl⟩⟩;rw[if_neg e3,e2];rw[if_neg e2]
theorem ndi_psh(h:u≠v)(nd:NdI r):NdI (psh r u v):=by
 intro p;rw[lk_psh h];split;exact put_ndk (nd v);split
 ·exact put_ndk (nd u)
 exact nd p
theorem rm_none(h:¬ Adj r p q):rm r p q=0:=by
 unfold rm;cases e:look (lk r p) q with
 |none=>rfl
 |some v=>exact absurd ⟨v,e⟩ h
def Cap(p q:Pt)(v:Int):Prop:=(∃n,p=tO n/\q=fR n/\v=1)∨(∃n,p=sA/\q=tO n/\v=2)∨(∃a b,a≠b/\p=fR a/\q=tO b/\v=2)∨(¬ Lay p q/\v=0)
def Each(P:Pt->Pt->Int->Prop)(r:Rm):Prop:=∀p,∀e∈lk r p,P p e.1 e.2
theorem each_addw{P:Pt->Pt->Int->Prop}(hn:w.1≠w.2.1)(h1:P w.1 w.2.1 w.2.2)(h2:P w.2.1 w.1 0)(h:Each P r):Each P (addw r w):=by intro p e he;rw[lk_addw hn]at he;by_cases c1:w.2.1=p;rw[if_pos c1]at he;rcases put_mem he with z|z;rw[z,<- c1];exact h2;exact h p e z;rw[if_neg c1]at he;by_cases c2:w.1=p;rw[if_pos c2]at he;rcases put_mem he with z|z;rw[z,<- c2];exact h1;exact h p e z;rw[if_neg c2]at he;exact h p e he
theorem sdf_keys(h:(r.map (·.1)).Nodup):((sdf r p).map (·.1)).Nodup:=by
 unfold sdf;cases e:look r p with
 |some v=>exact h
 |none=>show(List.map (fun e:Pt×Inn=>e.1) (r++[(p,[])])).Nodup;rw[Qc];refine qk.mpr ⟨h,Qe.mpr ⟨fun z=>(nomatch z),Q0⟩,fun a ha b hb z=>?_⟩;have hb:b=p:=QJ.mp hb;rw[z,hb]at ha;obtain⟨x,hx,e2⟩:=Qh.mp ha;have:=in_look h (show(p,x.2)∈r by rw[<- e2];exact hx);rw[e]at this;cases this
theorem ndi_addw(hn:w.1≠w.2.1)(h:NdI r):NdI (addw r w):=by
 intro p;rw[lk_addw hn];split;exact put_ndk (h p);split
 ·exact put_ndk (h p)
 exact h p
theorem key_iff:Key r p↔p∈r.map (·.1):=by
 constructor;rintro⟨l,e⟩;exact key_mem e;intro h;induction r with
 |nil=>exact(nomatch h)
 |cons e r ih =>
  by_cases c:e.1=p;exact⟨e.2,if_pos c⟩;rcases QK.mp h with z|z
  ·exact absurd z.symm c
  obtain⟨l,hl⟩:=ih z;exact⟨l,(show look (e::r) p=look r p from if_neg c).trans hl⟩
structure Tbl0(r:Rm):Prop where
 ndk:(r.map (·.1)).Nodup
 ndi:NdI r
 cap:Each Cap r
 kind:∀p,Key r p->p=sA∨∃n,p=tO n∨p=fR n
 sym:∀p q,Ent r p q->Ent r q p/\Key r p
theorem lay_kind(h:Lay p q):(p=sA∨∃n,p=tO n∨p=fR n)/\(q=sA∨∃n,q=tO n∨q=fR n):=by
 rcases h with⟨h,n,e⟩| ⟨n,h,e⟩| ⟨a,b,_,h,e⟩
 exact⟨.inl h,.inr ⟨n,.inl e⟩⟩;exact⟨.inr ⟨n,.inl h⟩,.inr ⟨n,.inr e⟩⟩;exact⟨.inr ⟨a,.inr h⟩,.inr ⟨b,.inl e⟩⟩
theorem tbl_add(h1:Lay w.1 w.2.1)(h2:Cap w.1 w.2.1 w.2.2)(t:Tbl0 r):Tbl0 (addw r w):=by
 have ne:=lay_ne h1;refine⟨?_,ndi_addw ne t.ndi,each_addw ne h2 (.inr (.inr (.inr ⟨lay_not h1,rfl⟩))) t.cap,fun p h=>?_,fun p q h=>?_⟩;unfold addw;exact put_ndk (put_ndk (sdf_keys (sdf_keys t.ndk)));rcases key_addw.mp h with z|z|z
 ·rw[z];exact(lay_kind h1).1
 rw[z];exact(lay_kind h1).2;exact t.kind p z;rw[ent_addw ne,key_addw];rcases(ent_addw ne).mp h with z|⟨z1,z2⟩| ⟨z1,z2⟩
 obtain⟨s1,s2⟩:=t.sym p q z;exact⟨.inl s1,.inr (.inr s2)⟩;exact⟨.inr (.inr ⟨z2,z1⟩),.inl z1⟩;exact⟨.inr (.inl ⟨z2,z1⟩),.inr (.inl z1)⟩
theorem tbl_all:∀{ws:List Wy}{r:Rm},(∀w∈ws,Lay w.1 w.2.1/\Cap w.1 w.2.1 w.2.2)->Tbl0 r->Tbl0 (ws.foldl addw r)
 |[],_,_,t=>t
 |w::ws,r,h,t=>tbl_all (ws:=ws) (fun w hw=>h w (QE _ hw)) (tbl_add (h w QF).1 (h w QF).2 t)
theorem key_all{p:Pt}:∀{ws:List Wy}{r:Rm},Key (ws.foldl addw r) p↔Key r p∨∃w∈ws,p=w.1∨p=w.2.1
 |[],r=>⟨.inl,fun z=>z.elim id fun⟨_,m,_⟩=>(nomatch m)⟩
 |w::ws,r=>by
  rw[wq,key_all (ws:=ws),key_addw];constructor;rintro((z|z|z)|⟨x,m,z⟩)
  ·exact .inr ⟨w,QF,.inl z⟩
  exact .inr ⟨w,QF,.inr z⟩;exact .inl z;exact .inr ⟨x,QE _ m,z⟩;rintro(z|⟨x,m,z⟩)
  ·exact .inl (.inr (.inr z))
  rcases QK.mp m with rfl|m
  ·rcases z with z|z
   ·exact .inl (.inl z)
   exact .inl (.inr (.inl z))
  exact .inr ⟨x,m,z⟩
def wys(es:LSS)(st:List Str)(g:Str):List Wy:=st.flatMap (wyS g)++es.flatMap (wyE g)
theorem rooms_wys:jA es st g=(wys es st g).foldl addw room0:=by unfold jA wys;rw[QAD]
theorem in_wys{v:Int}:(p,q,v)∈wys es st g↔(∃n∈st,n≠g/\((p,q,v)=(tO n,fR n,1)∨(p,q,v)=(sA,tO n,2)))∨(∃e∈es,(e.1≠g/\e.1≠e.2)/\((p,q,v)=(tO e.1,fR e.1,1)∨(p,q,v)=(tO e.2,fR e.2,1)∨(p,q,v)=(fR e.1,tO e.2,2))):=by
 unfold wys;rw[Qd,QAQ,QAQ];constructor;rintro(⟨n,m,h⟩| ⟨e,m,h⟩)
 ·exact .inl ⟨n,m,in_S.mp h⟩
 exact .inr ⟨e,m,in_E.mp h⟩;rintro(⟨n,m,h⟩| ⟨e,m,h⟩)
 ·exact .inl ⟨n,m,in_S.mpr h⟩
 exact .inr ⟨e,m,in_E.mpr h⟩
theorem wys_cap:∀w∈wys es st g,Lay w.1 w.2.1/\Cap w.1 w.2.1 w.2.2:=by
 rintro⟨p,q,v⟩ h;rcases in_wys.mp h with⟨n,_,_,e|e⟩| ⟨e,_,⟨_,ne⟩,z|z|z⟩
 cases e;exact⟨.inr (.inl ⟨n,rfl,rfl⟩),.inl ⟨n,rfl,rfl,rfl⟩⟩;cases e;exact⟨.inl ⟨rfl,n,rfl⟩,.inr (.inl ⟨n,rfl,rfl,rfl⟩)⟩;cases z;exact⟨.inr (.inl ⟨_,rfl,rfl⟩),.inl ⟨_,rfl,rfl,rfl⟩⟩;cases z;exact⟨.inr (.inl ⟨_,rfl,rfl⟩),.inl ⟨_,rfl,rfl,rfl⟩⟩;cases z;exact⟨.inr (.inr ⟨_,_,ne,rfl,rfl⟩),.inr (.inr (.inl ⟨_,_,ne,rfl,rfl,rfl⟩))⟩
theorem lk_room0(p:Pt):lk room0 p=[]:=by show(if sA=p then some [] else none).getD []=[];split<;>rfl
theorem tbl_0:Tbl0 room0:=by refine⟨Qe.mpr ⟨fun z=>(nomatch z),Q0⟩,fun p=>?_,fun p e he=>?_,fun p h=>?_,fun p q h=>?_⟩;rw[lk_room0];exact Q0;rw[lk_room0]at he;exact(nomatch he);exact .inl (QJ.mp (key_iff.mp h));obtain⟨v,h⟩:=h;rw[lk_room0]at h;exact(nomatch h)
end
section
variable{es:LSS}{st:List Str}{g:Str}
section
variable{p q:Pt}{n:Str}
theorem tbl_rooms:Tbl0 (jA es st g):=by rw[rooms_wys];exact tbl_all wys_cap tbl_0
theorem good_wys:∀w∈wys es st g,GoodW w:=fun w hw=>by unfold wys at hw;rcases Qd.mp hw with z|z;exact flat_good (f:=wyS g) (fun _=>wyS_good) st w z;exact flat_good (f:=wyE g) (fun _=>wyE_good) es w z
theorem ent_rooms:Ent (jA es st g) p q↔(∃v,(p,q,v)∈wys es st g)∨∃v,(q,p,v)∈wys es st g:=by
 rw[rooms_wys,ent_all good_wys];constructor;rintro(⟨v,h⟩| h)
 ·rw[lk_room0]at h;exact(nomatch h)
 exact h;exact .inr
theorem nam_rooms(h:Key (jA es st g) (tO n)):Ent (jA es st g) (tO n) (fR n):=by
 rw[rooms_wys]at h;rcases key_all.mp h with z|⟨⟨p,q,v⟩,m,z⟩
 exact absurd (QJ.mp (key_iff.mp z)).symm bg_to;refine ent_rooms.mpr (.inl ⟨1,in_wys.mpr ?_⟩);have z:tO n=p∨tO n=q:=z;rcases in_wys.mp m with⟨k,mk,ne,e|e⟩| ⟨e,me,ne,y|y|y⟩
 cases e;rcases z with z|z;rw[to_inj z];exact .inl ⟨k,mk,ne,.inl rfl⟩;exact absurd z KA;cases e;rcases z with z|z;exact absurd z.symm bg_to;rw[to_inj z];exact .inl ⟨k,mk,ne,.inl rfl⟩;cases y;rcases z with z|z;rw[to_inj z];exact .inr ⟨e,me,ne,.inl rfl⟩;exact absurd z KA;cases y;rcases z with z|z;rw[to_inj z];exact .inr ⟨e,me,ne,.inr (.inl rfl)⟩;exact absurd z KA;cases y;rcases z with z|z;exact absurd z KA;rw[to_inj z];exact .inr ⟨e,me,ne,.inr (.inl rfl)⟩
theorem c_of:Cap p q (rm (jA es st g) p q)∨(¬ Adj (jA es st g) p q/\rm (jA es st g) p q=0):=by by_cases h:Adj (jA es st g) p q;obtain⟨v,e⟩:=h;have:=tbl_rooms (es:=es) (st:=st) (g:=g) |>.cap p (q,v) (look_in e);unfold rm;rw[e];exact .inl this;exact .inr ⟨h,rm_none h⟩
theorem c_nn:0<=rm (jA es st g) p q:=by rcases c_of (es:=es) (st:=st) (g:=g) (p:=p) (q:=q) with(⟨_,_,_,e⟩| ⟨_,_,_,e⟩| ⟨_,_,_,_,_,e⟩| ⟨_,e⟩)|⟨_,e⟩<;>rw[e]<;>decide
theorem c_lay(h:¬ Lay p q):rm (jA es st g) p q=0:=by
 rcases c_of (es:=es) (st:=st) (g:=g) (p:=p) (q:=q) with(⟨n,e1,e2,_⟩| ⟨n,e1,e2,_⟩| ⟨a,b,ne,e1,e2,_⟩| ⟨_,e⟩)|⟨_,e⟩
 exact absurd (.inr (.inl ⟨n,e1,e2⟩)) h;exact absurd (.inl ⟨e1,n,e2⟩) h;exact absurd (.inr (.inr ⟨a,b,ne,e1,e2⟩)) h;exact e;exact e
theorem c_to(h:q≠fR n):rm (jA es st g) (tO n) q=0:=c_lay fun l=>by
 rcases l with⟨e,_⟩| ⟨m,e1,e2⟩| ⟨a,b,_,e,_⟩
 exact bg_to e.symm;exact h (by rw[e2,to_inj e1]);exact KA e
theorem c_one:rm (jA es st g) (tO n) (fR n)<=1:=by
 rcases c_of (es:=es) (st:=st) (g:=g) (p:=tO n) (q:=fR n) with(⟨_,_,_,e⟩| ⟨m,e1,_,_⟩| ⟨a,b,ne,e1,e2,_⟩| ⟨_,e⟩)|⟨_,e⟩
 rw[e];decide;exact absurd e1.symm bg_to;exact absurd e1 KA;rw[e];decide;rw[e];decide
theorem c_one'(h:Key (jA es st g) (tO n)):rm (jA es st g) (tO n) (fR n)=1:=by
 have a:=adj_ent.mpr (nam_rooms h);rcases c_of (es:=es) (st:=st) (g:=g) (p:=tO n) (q:=fR n) with(⟨_,_,_,e⟩| ⟨m,e1,_,_⟩| ⟨a,b,ne,e1,e2,_⟩| ⟨l,e⟩)|⟨z,e⟩
 exact e;exact absurd e1.symm bg_to;exact absurd e1 KA;exact absurd (.inr (.inl ⟨n,rfl,rfl⟩)) l;exact absurd a z
theorem c_fr(h:p≠tO n):rm (jA es st g) p (fR n)=0:=c_lay fun l=>by
 rcases l with⟨_,m,e⟩| ⟨m,e1,e2⟩| ⟨a,b,_,_,e⟩
 exact KA e.symm;exact h (by rw[e1,fr_inj e2]);exact KA e.symm
theorem c_bg:rm (jA es st g) p sA=0:=c_lay fun l=>by
 rcases l with⟨_,m,e⟩| ⟨m,e1,e2⟩| ⟨a,b,_,_,e⟩
 exact bg_to e;exact bg_fr e2;exact bg_to e
theorem c_two(h:p≠fR n):rm (jA es st g) p (tO n)=0∨rm (jA es st g) p (tO n)=2:=by
 rcases c_of (es:=es) (st:=st) (g:=g) (p:=p) (q:=tO n) with(⟨_,_,e,_⟩| ⟨m,_,_,e⟩| ⟨a,b,_,_,_,e⟩| ⟨l,e⟩)|⟨_,e⟩
 exact absurd e KA;exact .inr e;exact .inr e;exact .inl e;exact .inl e
theorem c_wide{v:Int}(h:(p,tO n,v)∈wys es st g):rm (jA es st g) p (tO n)=2:=by
 have a:Adj (jA es st g) p (tO n):=adj_ent.mpr (ent_rooms.mpr (.inl ⟨v,h⟩));have l:Lay p (tO n):=(wys_cap _ h).1;rcases c_of (es:=es) (st:=st) (g:=g) (p:=p) (q:=tO n) with(⟨_,_,e,_⟩| ⟨m,_,_,e⟩| ⟨a,b,_,_,_,e⟩| ⟨l',e⟩)|⟨z,e⟩
 exact absurd e KA;exact e;exact e;exact absurd l l';exact absurd a z
end
end
section
variable{es:LSS}{st:List Str}{g:Str}
def vs0(es:LSS)(st:List Str)(g:Str):List Pt:=(jA es st g).map (·.1)
def fl(es:LSS)(st:List Str)(g:Str)(r:Rm)(p q:Pt):Int:=rm (jA es st g) p q - rm r p q
def out(es:LSS)(st:List Str)(g:Str)(r:Rm)(p:Pt):Int:=sm (vs0 es st g) (fl es st g r p)
structure Base(es:LSS)(st:List Str)(g:Str)(r:Rm):Prop where
 ndi:NdI r
 adj:∀p q,Adj r p q↔Adj (jA es st g) p q
 keys:r.map (·.1)=vs0 es st g
 nn:∀p q,0<=rm r p q
 anti:∀p q,fl es st g r p q=- fl es st g r q p
structure Flow(es:LSS)(st:List Str)(g:Str)(r:Rm):Prop extends Base es st g r where
 cons:∀x,x≠sA->x≠tO g->out es st g r x=0
theorem vs0_nd:(vs0 es st g).Nodup:=tbl_rooms.ndk
theorem flow0:Flow es st g (jA es st g):=by
 have e:∀p q,fl es st g (jA es st g) p q=0:=fun p q=>by unfold fl;omega
 refine⟨⟨tbl_rooms.ndi,fun p q=>wf,rfl,fun p q=>c_nn,fun p q=>by rw[e,e];rfl⟩,fun x _ _=>?_⟩;unfold out;rw[GA (g:=fun _=>0) fun q _=>e x q];exact sm_zero _
theorem adj_sym{p q:Pt}(h:Adj (jA es st g) p q):Adj (jA es st g) q p:=adj_ent.mpr (tbl_rooms.sym p q (adj_ent.mp h)).1
theorem adj_key{p q:Pt}(h:Adj (jA es st g) p q):p∈vs0 es st g:=key_iff.mp (tbl_rooms.sym p q (adj_ent.mp h)).2
theorem adj_ne{p q:Pt}(h:Adj (jA es st g) p q):p≠q:=by
 rcases ent_rooms.mp (adj_ent.mp h) with⟨v,m⟩| ⟨v,m⟩
 exact lay_ne (wys_cap _ m).1;exact(lay_ne (wys_cap _ m).1).symm
section
variable{r:Rm}
theorem Base.dom(b:Base es st g r):Dom r:=fun p q h=>by have a:=(b.adj p q).mp (adj_ent.mpr h);rw[key_iff,b.keys];exact adj_key (adj_sym a)
theorem Base.bg(b:Base es st g r):Key r sA:=by rw[key_iff,b.keys];refine key_iff.mp ?_;show Key (jA es st g) sA;rw[rooms_wys];exact key_all.mpr (.inl ⟨[],if_pos rfl⟩)
theorem Base.len(b:Base es st g r):r.length=(jA es st g).length:=by have:=congrArg qq b.keys;unfold vs0 at this;rw[QG,QG]at this;exact this
theorem Base.adjw(b:Base es st g r){p q:Pt}(h:0<rm r p q):Adj (jA es st g) p q:=(b.adj p q).mp (by
 unfold rm at h;cases e:look (lk r p) q with
 |none=>rw[e]at h;exact absurd h (wj 0)
 |some v=>exact⟨v,e⟩)
theorem map_put{u:Pt}{l:Inn}(h:u∈r.map (·.1)):(put r u l).map (·.1)=r.map (·.1):=by rw[put_keys,if_pos h]
theorem Base.pushed(b:Base es st g r){u v:Pt}(h:0<rm r u v):Base es st g (psh r u v):=by
 have a:=b.adjw h;have ne:=adj_ne a;have e:=rm_psh (r:=r) ne;refine⟨ndi_psh ne b.ndi,fun p q=>?_,?_,fun p q=>?_,fun p q=>?_⟩;rw[adj_psh ne ((b.adj u v).mpr a) ((b.adj v u).mpr (adj_sym a))];exact b.adj p q;have ku:u∈r.map (·.1):=by rw[b.keys];exact adj_key a
 have kv:v∈r.map (·.1):=by rw[b.keys];exact adj_key (adj_sym a)
 unfold psh;rw[map_put (by rw[map_put ku];exact kv),map_put ku];exact b.keys;rw[e];have:=b.nn p q;by_cases c:p=u/\q=v;rw[if_pos c,c.1,c.2];split<;>omega;rw[if_neg c];split<;>omega;unfold fl;rw[e,e];have:=b.anti p q;unfold fl at this;by_cases c1:p=v/\q=u;rw[if_pos c1,if_pos (c:=q=u/\p=v) ⟨c1.2,c1.1⟩,if_neg (c:=p=u/\q=v) (fun z=>ne (z.1.symm.trans c1.1)),if_neg (c:=q=v/\p=u) (fun z=>ne (z.2.symm.trans c1.1))];omega;rw[if_neg c1,if_neg (c:=q=u/\p=v) (fun z=>c1 ⟨z.2,z.1⟩)];by_cases c2:p=u/\q=v;rw[if_pos c2,if_pos (c:=q=v/\p=u) ⟨c2.2,c2.1⟩];omega;rw[if_neg c2,if_neg (c:=q=v/\p=u) (fun z=>c2 ⟨z.2,z.1⟩)];omega
theorem out_psh(b:Base es st g r){u v:Pt}(h:0<rm r u v)(x:Pt):out es st g (psh r u v) x=out es st g r x+(if x=u then 1 else 0) - (if x=v then 1 else 0):=by
 have a:=b.adjw h;have ne:=adj_ne a;unfold out;have e:∀q,fl es st g (psh r u v) x q=fl es st g r x q+((if q=v then(if x=u then 1 else 0) else 0)+-(if q=u then(if x=v then 1 else 0) else 0)):=fun q=>by unfold fl;rw[rm_psh ne];by_cases c1:x=u;have c2:x≠v:=fun z=>ne (c1.symm.trans z);rw[if_neg (c:=x=v/\q=u) (fun z=>c2 z.1),if_pos c1,if_neg c2];by_cases c3:q=v;rw[if_pos (c:=x=u/\q=v) ⟨c1,c3⟩,if_pos c3];split<;>omega;rw[if_neg (c:=x=u/\q=v) (fun z=>c3 z.2),if_neg c3];split<;>omega;rw[if_neg (c:=x=u/\q=v) (fun z=>c1 z.1),if_neg c1];by_cases c2:x=v;rw[if_pos c2];by_cases c3:q=u;rw[if_pos (c:=x=v/\q=u) ⟨c2,c3⟩,if_pos c3];split<;>omega;rw[if_neg (c:=x=v/\q=u) (fun z=>c3 z.2),if_neg c3];split<;>omega;rw[if_neg (c:=x=v/\q=u) (fun z=>c2 z.1),if_neg c2];split<;>split<;>omega
 rw[GA fun q _=>e q,sm_add,sm_add,sm_neg,sm_ite vs0_nd (adj_key (adj_sym a)),sm_ite vs0_nd (adj_key a)];omega
end
section
variable{r rs:Rm}{ks:List Pt}
theorem CF.find{vs:List D}(h:CF r ks vs){q:Pt}(m:q∈ks)(ne:q≠sA):∃ks1 vs1 p ks2 vs2,CF r ks1 vs1/\p∈ks1/\Way r p q/\q∉ks1/\ks=ks1++q::ks2/\vs=vs1++pr p::vs2:=by
 induction h with
 |bg=>exact absurd (QJ.mp m) ne
 |@add ks vs p x c hp w n ih=>by_cases e:q∈ks;obtain⟨ks1,vs1,p1,ks2,vs2,a1,a2,a3,a4,a5,a6⟩:=ih e;exact⟨ks1,vs1,p1,ks2++[x],vs2++[pr p],a1,a2,a3,a4,by rw[a5,qj];rfl,by rw[a6,qj];rfl⟩;have e2:q=x:=QJ.mp ((Qd.mp m).resolve_left e);subst e2;exact⟨ks,vs,p,[],[],c,hp,w,n,rfl,rfl⟩
structure LC(es:LSS)(st:List Str)(g:Str)(rs r:Rm)(here:Pt)(ks:List Pt):Prop extends Base es st g r where
 cons:∀x,x≠sA->x≠tO g->out es st g r x=if x=here then 1 else 0
 val:out es st g r sA=out es st g rs sA+if here=sA then 1 else 0
 fresh:∀p,∀q∈ks,rm rs p q<=rm r p q
theorem lc_start(f:Flow es st g rs)(ks:List Pt):LC es st g rs rs (tO g) ks:=by refine⟨f.toBase,fun x h1 h2=>?_,?_,fun p q _=>Int.le_refl _⟩;rw[if_neg h2];exact f.cons x h1 h2;rw[if_neg (fun z=>bg_to z.symm)];omega
theorem lc_step{here p:Pt}{ks1:List Pt}(nd:NdI rs)(l:LC es st g rs r here ks)(hh:here∈ks)(hb:here≠sA)(w:Way rs p here)(hn:here∉ks1)(hs:∀q∈ks1,q∈ks):0<rm r p here/\LC es st g rs (psh r p here) p ks1:=by have h0:0<rm r p here:=Int.lt_of_lt_of_le ((way_rm nd).mp w) (l.fresh p here hh);have ne:=adj_ne (l.adjw h0);refine⟨h0,l.toBase.pushed h0,fun x h1 h2=>?_,?_,fun x q hq=>?_⟩;rw[out_psh l.toBase h0,l.cons x h1 h2];split<;>split<;>omega;rw[out_psh l.toBase h0,l.val,if_neg hb,if_neg (c:=sA=here) (fun z=>hb z.symm)];by_cases c:p=sA;rw[if_pos c,if_pos c.symm];omega;rw[if_neg c,if_neg (fun z=>c z.symm)];omega;have h1:=l.fresh x q (hs q hq);rw[rm_psh ne,if_neg (c:=x=p/\q=here) (fun z=>hn (z.2▸hq))];split<;>omega
theorem lc_end(l:LC es st g rs r sA ks):Flow es st g r/\out es st g r sA=out es st g rs sA+1:=by refine⟨⟨l.toBase,fun x h1 h2=>?_⟩,?_⟩;rw[l.cons x h1 h2,if_neg h1];rw[l.val,if_pos rfl]
end
end
section
variable{es:LSS}{st:List Str}{g:Str}{r:Rm}
section
variable{p q y:Pt}{n a:Str}{ks:List Pt}
theorem fl_back(b:Base es st g r)(h:rm (jA es st g) q p=0):fl es st g r p q=rm r q p:=by have:=b.anti p q;unfold fl at this ⊢;omega
def thr(r:Rm)(n:Str):Int:=rm r (fR n) (tO n)
theorem thr_fl(b:Base es st g r)(n:Str):fl es st g r (tO n) (fR n)=thr r n:=fl_back b (c_lay fun l=>lay_not (.inr (.inl ⟨n,rfl,rfl⟩)) l)
theorem thr_le(b:Base es st g r)(n:Str):thr r n<=1:=by rw[<- thr_fl b];have h1:=c_one (es:=es) (st:=st) (g:=g) (n:=n);have h2:=b.nn (tO n) (fR n);unfold fl;omega
theorem rm_off(b:Base es st g r)(h:p∉vs0 es st g∨q∉vs0 es st g):rm r p q=0:=by refine rm_none fun a=>?_;have a:=(b.adj p q).mp a;rcases h with h|h;exact h (adj_key a);exact h (adj_key (adj_sym a))
theorem sm_at(l:List Pt)(nd:l.Nodup)(u:Pt)(k:Int)(h:u∉l->k=0):sm l (fun x=>if x=u then k else 0)=k:=by by_cases m:u∈l;exact sm_ite nd m;rw[sm_ite0 m,h m]
def inn(r:Rm)(n:Str)(y:Pt):Int:=if y=fR n then 0 else rm r (tO n) y
theorem in_sum(f:Flow es st g r)(h:n≠g):sm (vs0 es st g) (inn r n)=thr r n:=by
 have c:=f.cons (tO n) (fun z=>bg_to z.symm) (fun z=>h (to_inj z));unfold out at c;have e:∀y,fl es st g r (tO n) y=(if y=fR n then thr r n else 0)+- inn r n y:=fun y=>by unfold inn;by_cases e:y=fR n;rw[if_pos e,if_pos e,e,thr_fl f.toBase];omega;rw[if_neg e,if_neg e];unfold fl;rw[c_to e];omega
 rw[GA fun y _=>e y,sm_add,sm_neg,sm_at _ vs0_nd (fR n) (thr r n) (fun z=>rm_off f.toBase (.inl z))]at c;omega
theorem inn_nn(b:Base es st g r)(n:Str)(y:Pt):0<=inn r n y:=by unfold inn;split;decide;exact b.nn _ _
def oun(r:Rm)(n:Str)(y:Pt):Int:=if y=tO n then 0 else rm r y (fR n)
theorem out_sum(f:Flow es st g r)(n:Str):sm (vs0 es st g) (oun r n)=thr r n:=by
 have c:=f.cons (fR n) (fun z=>bg_fr z.symm) (fun z=>KA z.symm);unfold out at c;have e:∀y,fl es st g r (fR n) y=- (if y=tO n then thr r n else 0)+oun r n y:=fun y=>by unfold oun;by_cases e:y=tO n;rw[if_pos e,if_pos e,e];have:=f.anti (fR n) (tO n);rw[thr_fl f.toBase]at this;omega;rw[if_neg e,if_neg e,fl_back f.toBase (c_fr e)];omega
 rw[GA fun y _=>e y,sm_add,sm_neg,sm_at _ vs0_nd (tO n) (thr r n) (fun z=>rm_off f.toBase (.inr z))]at c;omega
theorem oun_nn(b:Base es st g r)(n:Str)(y:Pt):0<=oun r n y:=by unfold oun;split;decide;exact b.nn _ _
def Fst(r:Rm)(n:Str):Prop:=0<rm r (tO n) sA
def Nxt(r:Rm)(a b:Str):Prop:=a≠b/\0<rm r (tO b) (fR a)
theorem fst_st(b:Base es st g r)(h:Fst r n):n∈st/\n≠g:=by
 rcases ent_rooms.mp (adj_ent.mp (b.adjw h)) with⟨v,m⟩| ⟨v,m⟩
 exact absurd (wys_cap _ m).1 fun l=>by
  rcases l with⟨e,_⟩| ⟨_,_,e⟩| ⟨_,_,_,e,_⟩
  exact bg_to e.symm;exact bg_fr e;exact KA e
 rcases in_wys.mp m with⟨k,mk,ne,e|e⟩| ⟨e,_,_,y|y|y⟩
 ·exact absurd (congrArg qL e) bg_to
 have:=congrArg (fun w:Wy=>w.2.1) e;rw[to_inj this];exact⟨mk,ne⟩;exact absurd (congrArg qL y) bg_to;exact absurd (congrArg qL y) bg_to;exact absurd (congrArg qL y) bg_fr
theorem nxt_es(b:Base es st g r){c:Str}(h:Nxt r a c):(a,c)∈es/\a≠g:=by
 rcases ent_rooms.mp (adj_ent.mp (b.adjw h.2)) with⟨v,m⟩| ⟨v,m⟩
 exact absurd (wys_cap _ m).1 fun l=>by
  rcases l with⟨e,_⟩| ⟨k,e1,e2⟩| ⟨_,_,_,e,_⟩
  exact bg_to e.symm;exact h.1 ((fr_inj e2).trans (to_inj e1).symm);exact KA e
 rcases in_wys.mp m with⟨k,mk,ne,e|e⟩| ⟨e,me,ne,y|y|y⟩
 ·exact absurd (congrArg qL e).symm KA
 exact absurd (congrArg qL e).symm bg_fr;exact absurd (congrArg qL y).symm KA;exact absurd (congrArg qL y).symm KA;have e1:a=e.1:=fr_inj (congrArg qL y);have e2:c=e.2:=to_inj (congrArg (fun w:Wy=>w.2.1) y);rw[e1,e2];exact⟨me,ne.1⟩
theorem fst_in:inn r n sA=rm r (tO n) sA:=by unfold inn;exact if_neg bg_fr
theorem nxt_in(h:a≠n):inn r n (fR a)=rm r (tO n) (fR a):=by unfold inn;exact if_neg fun z=>h (fr_inj z)
theorem nxt_out(h:a≠n):oun r a (tO n)=rm r (tO n) (fR a):=by unfold oun;exact if_neg fun z=>h (to_inj z).symm
theorem on_vs(b:Base es st g r)(h:0<rm r p q):p∈vs0 es st g/\q∈vs0 es st g:=⟨adj_key (b.adjw h),adj_key (adj_sym (b.adjw h))⟩
theorem fst_one(f:Flow es st g r)(n:Str)(h:n≠g):rm r (tO n) sA<=1:=by by_cases c:0<rm r (tO n) sA;have h1:=sm_one (fun x _=>inn_nn f.toBase n x) (on_vs f.toBase c).2;rw[in_sum f h,fst_in]at h1;exact Int.le_trans h1 (thr_le f.toBase n);omega
theorem fst_thr(f:Flow es st g r)(h:Fst r n):thr r n=1:=by have ng:=(fst_st f.toBase h).2;have h1:=sm_one (fun x _=>inn_nn f.toBase n x) (on_vs f.toBase h).2;rw[in_sum f ng,fst_in]at h1;have:=thr_le f.toBase n;unfold Fst at h;omega
theorem nxt_thr(f:Flow es st g r)(h:Nxt r a n)(ng:n≠g):thr r n=1:=by have h1:=sm_one (fun x _=>inn_nn f.toBase n x) (on_vs f.toBase h.2).2;rw[in_sum f ng,nxt_in h.1]at h1;have:=thr_le f.toBase n;have:=h.2;omega
theorem two_in(f:Flow es st g r)(ng:n≠g){x:Pt}(hx:0<inn r n x)(hy:0<inn r n y):x=y:=by
 have vx:x∈vs0 es st g:=by unfold inn at hx;split at hx;exact absurd hx (wj 0);exact(on_vs f.toBase hx).2
 have vy:y∈vs0 es st g:=by unfold inn at hy;split at hy;exact absurd hy (wj 0);exact(on_vs f.toBase hy).2
 by_cases e:x=y;exact e;have h1:=sm_two (fun z _=>inn_nn f.toBase n z) vx vy e;rw[in_sum f ng]at h1;have:=thr_le f.toBase n;omega
theorem nxt_inj(f:Flow es st g r){b:Str}(ng:n≠g)(h1:Nxt r a n)(h2:Nxt r b n):a=b :=
 fr_inj (two_in f ng (by rw[nxt_in h1.1];exact h1.2) (by rw[nxt_in h2.1];exact h2.2))
theorem fst_nxt(f:Flow es st g r)(h1:Fst r n)(h2:Nxt r a n):False :=
 bg_fr (two_in f (fst_st f.toBase h1).2 (by rw[fst_in];exact h1) (by rw[nxt_in h2.1];exact h2.2))
theorem nxt_some(f:Flow es st g r)(h:thr r n=1):∃y,y≠tO n/\0<rm r y (fR n):=by obtain⟨y,_,hy⟩:=sm_pos (f:=oun r n) (l:=vs0 es st g) (by rw[out_sum f,h];decide);unfold oun at hy;split at hy;exact absurd hy (wj 0);rename_i ne;exact⟨y,ne,hy⟩
theorem nb_fr(b:Base es st g r)(h:Adj r y (fR n)):∃m,y=tO m:=by
 rcases ent_rooms.mp (adj_ent.mp ((b.adj _ _).mp h)) with⟨v,m⟩| ⟨v,m⟩
 rcases(wys_cap _ m).1 with⟨_,k,e⟩| ⟨k,e,_⟩| ⟨_,k,_,_,e⟩
 ·exact absurd e.symm KA
 exact⟨k,e⟩;exact absurd e.symm KA;rcases(wys_cap _ m).1 with⟨e,_⟩| ⟨k,e,_⟩| ⟨_,k,_,_,e⟩
 ·exact absurd e.symm bg_fr
 exact absurd e.symm KA;exact⟨k,e⟩
theorem nb_bg(b:Base es st g r)(h:Adj r y sA):∃m,y=tO m:=by
 rcases ent_rooms.mp (adj_ent.mp ((b.adj _ _).mp h)) with⟨v,m⟩| ⟨v,m⟩
 rcases(wys_cap _ m).1 with⟨_,k,e⟩| ⟨k,_,e⟩| ⟨_,k,_,_,e⟩
 ·exact absurd e bg_to
 exact absurd e bg_fr;exact absurd e bg_to;rcases(wys_cap _ m).1 with⟨_,k,e⟩| ⟨k,e,_⟩| ⟨_,k,_,e,_⟩
 ·exact⟨k,e⟩
 exact absurd e bg_to;exact absurd e bg_fr
theorem nxt_ex(f:Flow es st g r)(h:thr r n=1):∃m,Nxt r n m:=by obtain⟨y,ne,hy⟩:=nxt_some f h;obtain⟨m,rfl⟩:=nb_fr f.toBase ((f.adj _ _).mpr (f.toBase.adjw hy));exact⟨m,fun e=>ne (by rw[e]),hy⟩
theorem wide_left(f:Flow es st g r){v:Int}(m:(p,tO n,v)∈wys es st g):0<rm r p (tO n):=by
 have c:=c_wide m;have l:=(wys_cap _ m).1;have back:fl es st g r p (tO n)=rm r (tO n) p:=fl_back f.toBase (c_lay (lay_not l));unfold fl at back;rw[c]at back;have key:rm r (tO n) p<=1:=by
  rcases in_wys.mp m with⟨k,mk,ne,e|e⟩| ⟨e,me,ne,y|y|y⟩
  exact absurd (congrArg (fun w:Wy=>w.2.1) e) KA;have e1:p=sA:=congrArg qL e;have e2:n=k:=to_inj (congrArg (fun w:Wy=>w.2.1) e);rw[e1];exact fst_one f n (by rw[e2];exact ne);exact absurd (congrArg (fun w:Wy=>w.2.1) y) KA;exact absurd (congrArg (fun w:Wy=>w.2.1) y) KA;have e1:p=fR e.1:=congrArg qL y;have e2:n=e.2:=to_inj (congrArg (fun w:Wy=>w.2.1) y);rw[e1];by_cases c:0<rm r (tO n) (fR e.1);have nn:e.1≠n:=by rw[e2];exact ne.2
  have h1:=sm_one (fun x _=>oun_nn f.toBase e.1 x) (on_vs f.toBase c).1;rw[out_sum f,nxt_out nn]at h1;exact Int.le_trans h1 (thr_le f.toBase _);omega
 omega
theorem same_len{l m:List Pt}(h1:l.Nodup)(h2:m.Nodup)(h:∀x,x∈l↔x∈m):l.length=m.length:=by have a:=nd_lenP h1 fun x hx=>(h x).mp hx;have b:=nd_lenP h2 fun x hx=>(h x).mpr hx;omega
def cutP(ks:List Pt)(x:Pt):Bool:=decide (x.2="to")&&!decide (fR x.1∈ks)
theorem cut_iff{x:Pt}:cutP ks x=true↔∃n,x=tO n/\fR n∉ks:=by unfold cutP;rw[Qb,Q4,decide_eq_true_iff,decide_eq_false_iff_not];constructor;rintro⟨h1,h2⟩;exact⟨x.1,QBx rfl h1,h2⟩;rintro⟨n,rfl,h⟩;exact⟨rfl,h⟩
theorem sm_bool(p:Pt->Bool):∀(l:List Pt),sm l (fun x=>if p x=true then 1 else 0)=(l.filter p).length
 |[]=>rfl
 |x::l=>by show(if p x=true then 1 else 0)+sm l _=_;rw[sm_bool p l,WD];by_cases c:p x=true;rw[if_pos c,if_pos c,QL];omega;rw[if_neg c,if_neg c];omega
theorem cut_many(f:Flow es st g r)(nd:ks.Nodup)(hk:∀p,p∈ks↔Rch r p)(hg:tO g∉ks):out es st g r sA=(ks.filter (cutP ks)).length:=by
 have sub:∀p∈ks,p∈vs0 es st g:=fun p hp=>by have:=key_iff.mp (rch_key f.toBase.dom f.toBase.bg ((hk p).mp hp));rw[f.keys]at this;exact this
 have clo:∀x∈ks,∀y,y∉ks->rm r x y=0:=fun x hx y hy=>by have:=f.nn x y;by_cases c:0<rm r x y;exact absurd ((hk y).mpr (.go ((hk x).mp hx) ((way_rm f.ndi).mpr c))) hy;omega
 have s1:sm ((vs0 es st g).filter fun x=>decide (x∈ks)) (fun x=>out es st g r x)=out es st g r sA:=by
  have hb:sA∈ks:=(hk sA).mpr .bg;have e:∀x∈(vs0 es st g).filter (fun x=>decide (x∈ks)),out es st g r x=if x=sA then out es st g r sA else 0:=fun x hx=>by by_cases c:x=sA;rw[if_pos c,c];rw[if_neg c];exact f.cons x c fun z=>hg (z▸of_decide_eq_true (Qm.mp hx).2)
  rw[GA e];exact sm_ite (vs0_nd.sublist qB) (Qm.mpr ⟨sub _ hb,dT hb⟩)
 have s2:∀x∈(vs0 es st g).filter (fun x=>decide (x∈ks)),sm ((vs0 es st g).filter fun y=>!decide (y∈ks)) (fl es st g r x)=if cutP ks x=true then 1 else 0:=fun x hx=>by
  have xk:x∈ks:=of_decide_eq_true (Qm.mp hx).2;have xv:=(Qm.mp hx).1;have c0:∀y∈(vs0 es st g).filter (fun y=>!decide (y∈ks)),y∉ks/\fl es st g r x y=rm (jA es st g) x y:=fun y hy=>by have:=(Qm.mp hy).2;rw[Q4,decide_eq_false_iff_not]at this;refine⟨this,?_⟩;unfold fl;rw[clo x xk y this];omega
  have c1:∀y∈(vs0 es st g).filter (fun y=>!decide (y∈ks)),∀n,y=tO n->fl es st g r x y=0:=fun y hy n e=>by
   obtain⟨yk,e1⟩:=c0 y hy;rw[e1,e];by_cases cf:x=fR n;rw[cf];exact c_lay fun l=>lay_not (.inr (.inl ⟨n,rfl,rfl⟩)) l;rcases c_two (es:=es) (st:=st) (g:=g) cf with z|z
   ·exact z
   have a:Adj (jA es st g) x (tO n):=by refine ql fun na=>?_;rw[rm_none na]at z;exact absurd z (by decide)
   rcases ent_rooms.mp (adj_ent.mp a) with⟨v,m⟩| ⟨v,m⟩
   have:=wide_left f m;rw[clo x xk (tO n) (e▸yk)]at this;exact absurd this (wj 0);rw[c_lay (lay_not (wys_cap _ m).1)]
  rcases tbl_rooms.kind x (key_iff.mpr xv) with e|⟨n,e|e⟩
  have nc:¬ cutP ks x=true:=fun z=>by obtain⟨n,e2,_⟩:=cut_iff.mp z;exact bg_to (e.symm.trans e2)
  rw[if_neg nc];rw[GA (g:=fun _=>0),sm_zero];intro y hy;by_cases t:∃n,y=tO n;obtain⟨n,t⟩:=t;exact c1 y hy n t;rw[(c0 y hy).2,e];exact c_lay fun l=>by
   rcases l with⟨_,z⟩| ⟨n,z,_⟩| ⟨_,b,_,_,z⟩
   exact t z;exact bg_to z;exact t ⟨b,z⟩
  by_cases fk:fR n∈ks
  ·have nc:¬ cutP ks x=true:=fun z=>by
    obtain⟨m,e2,h⟩:=cut_iff.mp z;rw[<- to_inj (e.symm.trans e2)]at h;exact h fk
   rw[if_neg nc,GA (g:=fun _=>0),sm_zero];intro y hy;rw[(c0 y hy).2,e];exact c_to fun z=>(c0 y hy).1 (z▸fk)
  rw[if_pos (cut_iff.mpr ⟨n,e,fk⟩)];have kn:Key (jA es st g) (tO n):=by rw[<- e];exact key_iff.mpr xv
  have fv:fR n∈vs0 es st g:=adj_key (adj_sym (adj_ent.mpr (nam_rooms kn)));rw[GA (g:=fun y=>if y=fR n then 1 else 0)];exact sm_ite (vs0_nd.sublist qB) (Qm.mpr ⟨fv,by rw[dF fk];rfl⟩);intro y hy;rw[(c0 y hy).2,e];by_cases c:y=fR n;rw[if_pos c,c,c_one' kn];rw[if_neg c,c_to c];have nc:¬ cutP ks x=true:=fun z=>by obtain⟨m,e2,_⟩:=cut_iff.mp z;exact KA (e2.symm.trans e)
  rw[if_neg nc,GA (g:=fun _=>0),sm_zero];intro y hy;by_cases t:∃n,y=tO n;obtain⟨n,t⟩:=t;exact c1 y hy n t;rw[(c0 y hy).2,e];exact c_lay fun l=>by
   rcases l with⟨z,_⟩| ⟨n,z,_⟩| ⟨_,b,_,_,z⟩
   exact bg_fr z.symm;exact KA z.symm;exact t ⟨b,z⟩
 have s3:∀x,out es st g r x=sm ((vs0 es st g).filter fun y=>decide (y∈ks)) (fl es st g r x)+sm ((vs0 es st g).filter fun y=>!decide (y∈ks)) (fl es st g r x):=fun x=>sm_split _ _;have s4:sm ((vs0 es st g).filter fun x=>decide (x∈ks)) (fun x=>out es st g r x)=sm ((vs0 es st g).filter fun x=>decide (x∈ks)) (fun x=>if cutP ks x=true then 1 else 0):=by rw[GA fun x _=>s3 x,sm_add,sm_anti _ fun x _ y _=>f.anti x y,GA s2];omega
 rw[<- s1,s4,sm_bool];have:(((vs0 es st g).filter fun x=>decide (x∈ks)).filter (cutP ks)).length=(ks.filter (cutP ks)).length:=by refine same_len ((vs0_nd.sublist qB).sublist qB) (nd.sublist qB) fun x=>?_;rw[Qm,Qm,Qm,decide_eq_true_iff];exact⟨fun⟨⟨_,h1⟩,h2⟩=>⟨h1,h2⟩,fun⟨h1,h2⟩=>⟨⟨sub x h1,h1⟩,h2⟩⟩
 rw[this]
theorem fst_len(f:Flow es st g r):out es st g r sA=(((lk r sA).map (·.1)).filter fun y=>decide (0<rm r y sA)).length:=by
 have e:∀y∈vs0 es st g,fl es st g r sA y=if decide (0<rm r y sA)=true then 1 else 0:=fun y hy=>by rw[fl_back f.toBase c_bg];have h0:=f.nn y sA;by_cases c:0<rm r y sA;rw[dT c,if_pos rfl];obtain⟨n,e⟩:=nb_bg f.toBase ((f.adj _ _).mpr (f.toBase.adjw c));rw[e]at c ⊢;have:=fst_one f n (fst_st f.toBase c).2;omega;rw[dF c,if_neg (by decide)];omega
 unfold out;rw[GA e,sm_bool];have:((vs0 es st g).filter fun y=>decide (0<rm r y sA)).length=(((lk r sA).map (·.1)).filter fun y=>decide (0<rm r y sA)).length:=by refine same_len (vs0_nd.sublist qB) ((f.ndi sA).sublist qB) fun y=>?_;rw[Qm,Qm,decide_eq_true_iff];refine⟨fun⟨_,h⟩=>⟨?_,h⟩,fun⟨_,h⟩=>⟨(on_vs f.toBase h).1,h⟩⟩;obtain⟨v,hv⟩:=(f.adj sA y).mpr (adj_sym (f.toBase.adjw h));exact Qh.mpr ⟨(y,v),look_in hv,rfl⟩
 rw[this]
theorem cut_led(f:Flow es st g r)(hk:∀p,p∈ks↔Rch r p)(hg:tO g∉ks){cut:List Str}(hc:∀n,tO n∈ks->fR n∉ks->n∈cut):¬ ∃a,(a,g)∈es/\Led es st g cut a:=by
 have go:∀p∈ks,∀n v,(p,tO n,v)∈wys es st g->tO n∈ks:=fun p hp n v m=>(hk _).mpr (.go ((hk _).mp hp) ((way_rm f.ndi).mpr (wide_left f m)));have key:∀n,Led es st g cut n->fR n∈ks:=fun n h=>by
  induction h with
  |@st s h k=>obtain⟨k1,k2⟩:=goes_iff.mp k;have t:=go sA ((hk _).mpr .bg) s 2 (in_wys.mpr (.inl ⟨s,h,k1,.inr rfl⟩));exact ql fun z=>k2 (hc s t z)
  |@ed a b l m k ih=>obtain⟨k1,k2⟩:=goes_iff.mp k;by_cases e:a=b;rw[<- e];exact ih;have t:=go (fR a) ih b 2 (in_wys.mpr (.inr ⟨(a,b),m,⟨(led_goes l).1,e⟩,.inr (.inr rfl)⟩));exact ql fun z=>k2 (hc b t z)
 rintro⟨a,m,l⟩;exact hg (go (fR a) (key a l) g 2 (in_wys.mpr (.inr ⟨(a,g),m,⟨(led_goes l).1,(led_goes l).1⟩,.inr (.inr rfl)⟩)))
end
end
inductive Run(r:Rm)(g f:Str):List Str->Str->Prop
 |nil:Run r g f [] f
 |go {c:List Str}{n m:Str}:Run r g f c n->n≠g->Nxt r n m->Run r g f (c++[n]) m
inductive Chn(es:LSS)(st:List Str)(g:Str):List Str->Str->Prop
 |st {f:Str}:f∈st->f≠g->Chn es st g [] f
 |go {c:List Str}{n m:Str}:Chn es st g c n->n≠g->(n,m)∈es->Chn es st g (c++[n]) m
section
variable{es:LSS}{st:List Str}{g:Str}{r:Rm}
section
variable{s n:Str}{c:List Str}
theorem Run.chn(f:Flow es st g r)(hs:Fst r s)(h:Run r g s c n):Chn es st g c n:=by
 induction h with
 |nil=>exact .st (fst_st f.toBase hs).1 (fst_st f.toBase hs).2
 |go _ ng nx ih=>exact .go ih ng (nxt_es f.toBase nx).1
theorem Run.thr1(f:Flow es st g r)(hs:Fst r s)(h:Run r g s c n)(ng:n≠g):thr r n=1:=by
 cases h with
 |nil=>exact fst_thr f hs
 |go _ _ nx=>exact nxt_thr f nx ng
theorem Run.pred(h:Run r g s c n):∀x,x∈c∨x=n->x=s∨∃y∈c,Nxt r y x:=by
 induction h with
 |nil=>intro x hx;exact hx.elim (fun z=>(nomatch z)) .inl
 |@go c n m _ _ nx ih =>
  intro x hx;rcases hx with hx|rfl;have:x∈c∨x=n:=(Qd.mp hx).imp_right QJ.mp;rcases ih x this with z|⟨y,hy,z⟩
  exact .inl z;exact .inr ⟨y,Qf _ hy,z⟩;exact .inr ⟨n,QV _ QF,nx⟩
theorem Run.ng(h:Run r g s c n):∀x∈c,x≠g:=by
 induction h with
 |nil=>exact fun x hx=>(nomatch hx)
 |go _ k _ ih=>intro x hx;rcases Qd.mp hx with z|z;exact ih x z;rw[QJ.mp z];exact k
theorem Run.nd(f:Flow es st g r)(hs:Fst r s)(h:Run r g s c n):c.Nodup/\n∉c:=by
 induction h with
 |nil=>exact⟨Q0,fun z=>(nomatch z)⟩
 |@go c n m h k nx ih =>
  have nd:(c++[n]).Nodup:=qk.mpr ⟨ih.1,Qe.mpr ⟨fun z=>(nomatch z),Q0⟩,fun a ha b hb z=>by rw[QJ.mp hb]at z;exact ih.2 (z▸ha)⟩;refine⟨nd,fun z=>?_⟩;rcases Qd.mp z with z|z;rcases h.pred m (.inl z) with e|⟨y,hy,e⟩
  ·rw[e]at nx;exact fst_nxt f hs nx
  rw[nxt_inj f (h.ng m z) e nx]at hy;exact ih.2 hy;exact nx.1 (QJ.mp z).symm
theorem Run.apart(f:Flow es st g r){s':Str}(hs:Fst r s)(hs':Fst r s'){c':List Str}{n':Str}(h:Run r g s c n)(h':Run r g s' c' n'):∀x∈c,x∈c'->s=s':=by
 induction h with
 |nil=>exact fun x hx=>(nomatch hx)
 |@go c n m h k nx ih =>
  intro x hx hx';rcases Qd.mp hx with z|z;exact ih x z hx';have z:=QJ.mp z;subst z;rcases h.pred x (.inr rfl) with e|⟨y,hy,e⟩<;>rcases h'.pred x (.inl hx') with e'|⟨y',hy',e'⟩
  exact e.symm.trans e';rw[e]at e';exact(fst_nxt f hs e').elim;rw[e']at e;exact(fst_nxt f hs' e).elim;rw[nxt_inj f k e e']at hy;exact ih y' hy hy'
end
end
section
variable{es:LSS}{st:List Str}{g:Str}
section
variable{cut c:List Str}
theorem chn_led{n:Str}(h:Chn es st g c n)(hc:∀x∈c,x∉cut)(ng:n≠g)(nc:n∉cut):Led es st g cut n:=by
 induction h with
 |st h _=>exact .st h (goes_iff.mpr ⟨ng,nc⟩)
 |@go c n m _ k e ih=>exact .ed (ih (fun x hx=>hc x (Qf _ hx)) k (hc n (QV _ QF))) e (goes_iff.mpr ⟨ng,nc⟩)
theorem chn_meet(h:Chn es st g c g)(hl:¬ ∃a,(a,g)∈es/\Led es st g cut a):∃x∈c,x∈cut:=by
 refine ql fun z=>?_;have hc:∀x∈c,x∉cut:=fun x hx m=>z ⟨x,hx,m⟩;cases h with
 |st _ e=>exact e rfl
 |@go c n _ h k e=>exact hl ⟨n,e,chn_led h (fun x hx=>hc x (Qf _ hx)) k (hc n (QV _ QF))⟩
def Apart:List (List Str)->Prop
 |[]=>True
 |c::cs=>(∀d∈cs,∀x∈c,x∉d)/\Apart cs
theorem picks{cut:List Str}:∀{cs:List (List Str)},Apart cs->(∀c∈cs,∃x∈c,x∈cut)->∃ps:List Str,ps.length=cs.length/\ps.Nodup/\(∀p∈ps,p∈cut)/\∀p∈ps,∃c∈cs,p∈c
 |[],_,_=>⟨[],rfl,Q0,fun _ z=>(nomatch z),fun _ z=>(nomatch z)⟩
 |c::cs,a,h=>by
  obtain⟨ps,e1,e2,e3,e4⟩:=picks (cs:=cs) a.2 fun d hd=>h d (QE _ hd);obtain⟨x,hx,hc⟩:=h c QF;refine⟨x::ps,by rw[QL,QL,e1],Qe.mpr ⟨fun z=>?_,e2⟩,fun p hp=>?_,fun p hp=>?_⟩;obtain⟨d,hd,hp⟩:=e4 x z;exact a.1 d hd x hx hp;rcases QK.mp hp with z|z
  ·rw[z];exact hc
  exact e3 p z;rcases QK.mp hp with z|z
  ·exact⟨c,QF,by rw[z];exact hx⟩
  obtain⟨d,hd,hp⟩:=e4 p z;exact⟨d,QE _ hd,hp⟩
theorem chains_le{cs:List (List Str)}(a:Apart cs)(h:∀c∈cs,Chn es st g c g)(hl:¬ ∃a,(a,g)∈es/\Led es st g cut a):cs.length<=cut.length:=by obtain⟨ps,e1,e2,e3,_⟩:=picks a fun c hc=>chn_meet (h c hc) hl;rw[<- e1];exact nd_len e2 e3
end
end
section
variable{ks:List Pt}{vs:List D}{p:Pt}
def camD(ks:List Pt)(vs:List D):List (D×D):=(ks.map pr).zip vs
theorem cam_er(ks:List Pt)(vs:List D):(cam ks vs).er=.dict (camD ks vs):=by show PyData.dict ((ks.map pr).zip (ersT (vs.map T.d)))=_;rw[ersT_map];rfl
theorem cam_fst(h:vs.length=ks.length):(camD ks vs).map (·.1)=ks.map pr:=Wc (by rw[QG];omega)
theorem cam_snd(h:vs.length=ks.length):(camD ks vs).map (·.2)=vs:=Wd (by rw[QG];omega)
theorem cam_kind(h:vs.length=ks.length)(m:p∈ks):kindD (camD ks vs)=some true:=by
 cases ks with
 |nil=>exact(nomatch m)
 |cons x ks=>cases vs with
  |nil=>cases h
  |cons y vs=>rfl
theorem find_app{q:Pt}{ks2:List Pt}:∀{ks1:List Pt},q∉ks1->dA ((ks1++q::ks2).map pr) (pr q)=some ks1.length
 |[],_=>fk_eq rfl
 |x::ks1,h=>by show dA (pr x::(ks1++q::ks2).map pr) (pr q)=_;rw[fk_ne (fun z=>h (by rw[pr_inj z];exact QF)),find_app fun z=>h (QE _ z)];rfl
theorem x_cam{ks1 ks2:List Pt}{vs1 vs2:List D}{q:Pt}{n m:Bool}{R:T->Prop}(h1:vs1.length=ks1.length)(h2:vs2.length=ks2.length)(hq:q∉ks1)(k:R (.d (pr p))):idxV (.d (.dict (camD (ks1++q::ks2) (vs1++pr p::vs2)))) n (.d (pr q)) m R:=by
 have hl:(vs1++pr p::vs2).length=(ks1++q::ks2).length:=by rw[QM,QM,QL,QL,h1,h2]
 refine x_dk (cam_kind hl (p:=q) (QV _ QF)) (key_pr q) (by rw[cam_fst hl];exact find_app hq) ?_ k;rw[cam_snd hl,<- h1,Qk (QR _),Wa];rfl
theorem eqv_pr(a b:Pt):Qw (pr a) (pr b)=decide (a=b):=by
 rw[qO,decide_eq_true_iff];have e:Qw (pr a) (pr b)=(Qw (.str a.1) (.str b.1)&&(Qw (.str a.2) (.str b.2)&&true)):=by simp[pr,Qw,PyData.eqvAll]
 rw[e,eqv_ss,eqv_ss,Bool.and_true,Qb,decide_eq_true_iff,decide_eq_true_iff];exact⟨fun h=>QBx h.1 h.2,fun h=>by rw[h];exact⟨rfl,rfl⟩⟩
def NmOk(es:LSS)(st:List Str):Prop:=(∀s∈st,qY s=true)/\∀e∈es,qY e.1=true/\qY e.2=true
theorem ok_pt{a b:Str}(h1:qY a=true)(h2:qY b=true):okD (pr (a,b)):=by refine⟨?_,?_⟩;simp only[pr,qw,Q9,h1,h2,QBC];simp only[pr,wt,qP];decide
theorem so_to:qY "to"=true:=by decide +kernel
theorem so_fr:qY "from"=true:=by decide +kernel
theorem so_bg:qY ""=true/\qY "begin"=true:=by decide +kernel
theorem key_ok{es:LSS}{st:List Str}{g:Str}(h:NmOk es st)(k:p∈vs0 es st g):okD (pr p):=by
 have k:Key (jA es st g) p:=key_iff.mpr k;rw[rooms_wys]at k;rcases key_all.mp k with z|⟨⟨u,v,c⟩,m,z⟩
 rw[QJ.mp (key_iff.mp z)];exact ok_pt so_bg.1 so_bg.2;have z:p=u∨p=v:=z;rcases in_wys.mp m with⟨n,mn,_,e|e⟩| ⟨e,me,_,y|y|y⟩
 cases e;rcases z with z|z<;>subst z;exact ok_pt (h.1 n mn) so_to;exact ok_pt (h.1 n mn) so_fr;cases e;rcases z with z|z<;>subst z;exact ok_pt so_bg.1 so_bg.2;exact ok_pt (h.1 n mn) so_to;cases y;rcases z with z|z<;>subst z;exact ok_pt (h.2 e me).1 so_to;exact ok_pt (h.2 e me).1 so_fr;cases y;rcases z with z|z<;>subst z;exact ok_pt (h.2 e me).2 so_to;exact ok_pt (h.2 e me).2 so_fr;cases y;rcases z with z|z<;>subst z;exact ok_pt (h.2 e me).1 so_fr;exact ok_pt (h.2 e me).2 so_to
def lyS(r:Rm)(kd:List (D×D))(last:D)(th:Pt)(o4:Option Sl):kA:=[some (.own (eA r)),some (.nk (.d (.dict kd))),some (.nk (.d last)),some (.nk (.d (pr th))),o4]
end
section
variable{Ψ:PEv}{Z:PEnds}{q:PT}{r:Rm}{kd:List (D×D)}{last:D}{u v:Pt}
theorem ly_1(hk:Key r u)(ha:Adj r u v)(hl:(lk r u).length<sizeLine)(k:uA Ψ (fun _=>False) q Z (lyS (put r u (put (lk r u) v (rm r u v - 1))) kd last v (some (.nk (.d (pr u)))))) :
  uA Ψ (fun _=>False) (.seq (.six (.idx (.var 0) (.var 4)) (.var 3) (.bin .Sub (.idx (.idx (.var 0) (.var 4)) (.var 3)) (.int 1))) q) Z (lyS r kd last v (some (.nk (.d (pr u))))):=by
 obtain⟨x,hx⟩:=ha;have e:rm r u v=x:=by unfold rm;rw[hx];rfl
 rw[e]at k;delta lyS at k ⊢;simp?[↓Q_room];refine x_roomT hk ?_;simp?[↓Q_inn];refine x_innT hx ?_;simp?[↓cA];refine sub_room (key_look hk) fun f hf=>st_inn hl ?_;rw[hf];exact k
theorem ly_2(hk:Key r v)(ha:Adj r v u)(hl:(lk r v).length<sizeLine)(k:uA Ψ (fun _=>False) q Z (lyS (put r v (put (lk r v) u (rm r v u+1))) kd last v (some (.nk (.d (pr u)))))) :
  uA Ψ (fun _=>False) (.seq (.six (.idx (.var 0) (.var 3)) (.var 4) (.bin .Add (.idx (.idx (.var 0) (.var 3)) (.var 4)) (.int 1))) q) Z (lyS r kd last v (some (.nk (.d (pr u))))):=by
 obtain⟨x,hx⟩:=ha;have e:rm r v u=x:=by unfold rm;rw[hx];rfl
 rw[e]at k;delta lyS at k ⊢;simp?[↓Q_room];refine x_roomT hk ?_;simp?[↓Q_inn];refine x_innT hx ?_;simp?[↓cA];refine sub_room (key_look hk) fun f hf=>st_inn hl ?_;rw[hf];exact k
end
theorem Base.inn{es:LSS}{st:List Str}{g:Str}{r:Rm}(b:Base es st g r)(p:Pt):(lk r p).length<=(jA es st g).length:=by
 have:=nd_lenP (ns:=vs0 es st g) (b.ndi p) fun q hq=>by obtain⟨e,he,z⟩:=Qh.mp hq;have a:Adj r p q:=adj_ent.mpr ⟨e.2,by rw[<- z];exact he⟩;exact adj_key (adj_sym ((b.adj p q).mp a))
 unfold vs0 at this;rw[QG,QG]at this;exact this
section
variable{Ψ:PEv}{Z:PEnds}{es:LSS}{st:List Str}{g:Str}
theorem ly_body{rs r:Rm}{ks:List Pt}{vs:List D}{th:Pt}{last:D}{o4:Option Sl}{ks0 ks9:List Pt}{vs0' vs9:List D}(hsz:(jA es st g).length<=1000)(hn:NdI rs)(cf:CF rs ks0 vs0')(ek:ks=ks0++ks9)(ev:vs=vs0'++vs9)(h9:vs9.length=ks9.length)(ht:th∈ks0)(hb:th≠sA)(lc:LC es st g rs r th ks0)
  (k:∀ks1 vs1 ks8 vs8 p r',CF rs ks1 vs1->ks=ks1++ks8->vs=vs1++vs8->vs8.length=ks8.length->ks1.length<ks0.length->p∈ks1->LC es st g rs r' p ks1->Z.nx (lyS r' (camD ks vs) last p (some (.nk (.d (pr p)))))) :
  uA Ψ (fun _=>False) b_lay_chain_1 Z (lyS r (camD ks vs) last th o4):=by
 have hz:sizeLine=16777216:=QZ;obtain⟨ks1,vs1,p,ks2,vs2,c1,hp,w,nt,e1,e2⟩:=cf.find ht hb;have l0:=cf.len;have l1:=c1.len;have l2:vs2.length=ks2.length:=by rw[e1,e2,QM,QM,QL,QL]at l0;omega
 have ek':ks=ks1++th::(ks2++ks9):=by rw[ek,e1,qj];rfl
 have ev':vs=vs1++pr p::(vs2++vs9):=by rw[ev,e2,qj];rfl
 obtain⟨pos,lc'⟩:=lc_step hn lc ht hb w nt fun q hq=>by rw[e1];exact Qf _ hq
 have a:=lc.adjw pos;have ne:=adj_ne a;have kp:Key r p:=by rw[key_iff,lc.keys];exact adj_key a
 have kt:Key r th:=by rw[key_iff,lc.keys];exact adj_key (adj_sym a)
 have li:=lc.toBase.inn;have st1:uA Ψ (fun _=>False) (.seq (.set 3 (.var 4)) .nil) Z (lyS (psh r p th) (camD ks vs) last th (some (.nk (.d (pr p))))):=by have:=k ks1 vs1 (th::(ks2++ks9)) (pr p::(vs2++vs9)) p (psh r p th) c1 ek' ev' (by rw[QL,QL,QM,QM];omega) (by rw[e1,QM,QL];omega) hp lc';unfold lyS at this;delta lyS;simp?[↓cA];exact this
 have st2:uA Ψ (fun _=>False) (.seq (.six (.idx (.var 0) (.var 4)) (.var 3) (.bin .Sub (.idx (.idx (.var 0) (.var 4)) (.var 3)) (.int 1))) (.seq (.six (.idx (.var 0) (.var 3)) (.var 4) (.bin .Add (.idx (.idx (.var 0) (.var 3)) (.var 4)) (.int 1))) (.seq (.set 3 (.var 4)) .nil))) Z (lyS r (camD ks vs) last th (some (.nk (.d (pr p))))):=by have i1:=li p;have i2:=li th;refine ly_1 kp ((lc.adj _ _).mpr a) (by omega) (ly_2 ?_ ?_ ?_ st1);exact key_put.mpr (.inr kt);show Adj _ th p;have:=(lc.adj th p).mpr (adj_sym a);unfold Adj at this ⊢;rw[lk_put,if_neg ne];exact this;rw[lk_put,if_neg ne];omega
 unfold lyS at st2;delta lyS;delta b_lay_chain_1;simp?[↓cA];rw[ek',ev']at st2 ⊢;refine x_cam l1 (by rw[QM,QM];omega) nt ?_;simp?[↓cA];exact st2
end
section
variable{es:LSS}{st c:List Str}{g a f:Str}{ks:List Pt}{vs:List D}{K:T->List T->Prop}{E:XE}{Ψ:PEv}{W:List T->Prop}{n m:Bool}{ρ:kA}{R:T->Prop}{r:Rm}{Z:PEnds}{L:Bool->Prop}
def sp_lay:PSp where
 md:=[.chg]
 run:=fun ds Q _=>∃(es:LSS) (st:List Str) (g:Str) (rs:Rm) (ks:List Pt) (vs:List D),ds=[eA rs,.d (.dict (camD ks vs)),.d (pr (tO g))]/\((jA es st g).length<=1000/\NmOk es st/\Flow es st g rs/\CF rs ks vs/\tO g∈ks)/\∀r',Flow es st g r'->out es st g r' sA=out es st g rs sA+1->Q (.d .none) [eA r']
 mono:=fun h _ z=>by obtain⟨es,st,g,rs,ks,vs,e,l,q⟩:=z;exact⟨es,st,g,rs,ks,vs,e,l,fun r' a b=>h _ _ (q r' a b)⟩
theorem run_lay{rs:Rm}(h1:(jA es st g).length<=1000)(h2:NmOk es st)(h3:Flow es st g rs)(h4:CF rs ks vs)(h5:tO g∈ks)(q:∀r',Flow es st g r'->out es st g r' sA=out es st g rs sA+1->K (.d .none) [eA r']):runP sp_lay [eA rs,.d (.dict (camD ks vs)),.d (pr (tO g))] K E:=⟨es,st,g,rs,ks,vs,rfl,⟨h1,h2,h3,h4,h5⟩,q⟩
theorem ok_lay(hB:Ψ.va "BEGIN"=some (pr sA))(ds Q E)(h:sp_lay.run ds Q E):ds.length=ps_lay_chain.length/\uA Ψ (fun _=>False) b_lay_chain (endsP sp_lay ps_lay_chain.length Q) (nA N_lay_chain sp_lay.md ds):=by
 obtain⟨es,st,g,rs,ks,vs,rfl,⟨h1,h2,fl,cf,hg⟩,q⟩:=h;refine begin_okc [some (.own (eA rs)),some (.nk (.d (.dict (camD ks vs)))),some (.nk (.d (pr (tO g)))),none,none] rfl rfl rfl ?_;delta b_lay_chain;simp?[↓cA];refine whl_inv (fun m ρ=>∃r ks0 vs0' ks9 vs9 th o4,m=ks0.length/\CF rs ks0 vs0'/\ks=ks0++ks9/\vs=vs0'++vs9/\vs9.length=ks9.length/\th∈ks0/\LC es st g rs r th ks0/\ρ=lyS r (camD ks vs) (pr (tO g)) th o4) ks.length ⟨rs,ks,vs,[],[],tO g,_,rfl,cf,by rw[wC],by rw[wC],rfl,hg,lc_start fl ks,rfl⟩ ?_;rintro m ρ ⟨r,ks0,vs0',ks9,vs9,th,o4,em,c0,ek,ev,h9,ht,lc,rfl⟩;have okt:okD (pr th):=key_ok h2 (by have:=rch_key fl.toBase.dom fl.toBase.bg (c0.rch th ht);rw[key_iff,fl.keys]at this;exact this);have okb:okD (pr sA):=ok_pt so_bg.1 so_bg.2;have hcmp:∀L:Bool->Prop,L (!decide (th=sA))->cmpV .NotEq (.d (pr th)) (.d (pr sA)) L:=fun L l=>by show okD (pr th)/\okD (pr sA)/\L (!PyData.eqv (pr th) (pr sA));rw[eqv_pr];exact⟨okt,okb,l⟩
 by_cases e:th=sA;subst e;delta lyS;simp?[↓E_glo hB];refine hcmp _ ?_;rw[dT rfl];obtain⟨f1,f2⟩:=lc_end lc;exact q r f1 f2;have hp:=fun(Z:PEnds) hz=>ly_body (Ψ:=Ψ) (Z:=Z) (last:=pr (tO g)) (o4:=o4) h1 fl.ndi c0 ek ev h9 ht e lc hz;unfold lyS at hp;delta lyS;simp?[↓E_glo hB];refine hcmp _ ?_;rw[dF e];refine hp _ fun ks1 vs1 ks8 vs8 p r' a1 a2 a3 a4 a5 a6 a7=>⟨ks1.length,by omega,r',ks1,vs1,ks8,vs8,p,_,rfl,a1,a2,a3,a4,a6,a7,rfl⟩
theorem w_keyT{l:Inn}:itV .val [(innT l,false)] W=W ((l.map fun e=>pr e.1).map T.d):=itemsT_8 _ _
theorem w_keyD{kvs:List (D×D)}(h:kindD kvs=some true):itV .val [(.d (.dict kvs),n)] W=W ((kvs.map (·.1)).map T.d):=by unfold itV vwOf;rw[rA];show itemsT .val [vwDict kvs] W=_;unfold vwDict;rw[h];exact itemsT_8 _ _
theorem X_and{a b elt:PX}{t:Str}{x:T}{R:Option T->Prop}:compX Ψ E [] [t] (.nm 0) (.and a b) elt ρ x R=peT Ψ (.and a b) E (some (.nk x)::lockA ρ) fun k ρ2=>if k=true then peE Ψ elt E ρ2 fun y n _=>escK y n (R (some y)) else R none:=rfl
theorem x_pr0{p:Pt}:idxV (.d (pr p)) n (.d (.int 0)) m R=R (.d (.str p.1)):=by delta pr;rw[x_td,at_0,optP_s]
theorem x_pr1{p:Pt}:idxV (.d (pr p)) n (.d (.int 1)) m R=R (.d (.str p.2)):=by delta pr;rw[x_td,at_1,optP_s]
theorem pr_fr:(T.d (.tuple [.str a,.str "from"]))=.d (pr (fR a)):=rfl
theorem pr_to:(T.d (.tuple [.str a,.str "to"]))=.d (pr (tO a)):=rfl
def sp_behind:PSp where
 md:=[.nk]
 run:=fun ds Q _=>∃(es:LSS) (st:List Str) (g:Str) (r:Rm) (n:Str),ds=[eA r,.d (.str n)]/\((jA es st g).length<=1000/\Flow es st g r/\thr r n=1)/\∀m,Nxt r n m->Q (.d (.str m)) []
 mono:=fun h _ z=>by obtain⟨es,st,g,r,n,e,l,q⟩:=z;exact⟨es,st,g,r,n,e,l,fun m a=>h _ _ (q m a)⟩
theorem run_behind{n:Str}(h1:(jA es st g).length<=1000)(h2:Flow es st g r)(h3:thr r n=1)(q:∀m,Nxt r n m->K (.d (.str m)) []):runP sp_behind [eA r,.d (.str n)] K E:=⟨es,st,g,r,n,rfl,⟨h1,h2,h3⟩,q⟩
theorem ok_behind(ds Q E)(h:sp_behind.run ds Q E):ds.length=ps_name_behind.length/\uA Ψ (fun _=>False) b_name_behind (endsP sp_behind ps_name_behind.length Q) (nA N_name_behind sp_behind.md ds):=by
 obtain⟨es,st,g,r,n,rfl,⟨h1,fl,ht⟩,q⟩:=h;have hz:sizeLine=16777216:=QZ;have hi:=fl.toBase.inn (fR n);obtain⟨m0,nx⟩:=nxt_ex fl ht;have a0:Adj r (fR n) (tO m0):=(fl.adj _ _).mpr (adj_sym (fl.toBase.adjw nx.2));have kf:Key r (fR n):=by rw[key_iff,fl.keys];exact adj_key ((fl.adj _ _).mp a0)
 refine begin_ok [some (.nk (eA r)),some (.nk (.d (.str n))),none] rfl rfl rfl ?_;delta b_name_behind;simp?[pr_fr,↓Q_room];refine⟨by omega,x_roomT kf ?_⟩;simp?[↓J_inn,↓w_keyT];have e0:((lk r (fR n)).map fun e=>pr e.1).map T.d=((lk r (fR n)).map (·.1)).map fun p=>T.d (pr p):=by rw[Qp,Qp];rfl
 rw[e0];refine compV_filter (fun p=>T.d (pr p)) (fun(p:Pt)=>T.d (.str p.1)) (fun p=>!decide (p.1=n)&&decide (0<rm r p (fR n))) ((lk r (fR n)).map (·.1)) [] _ (fun x hx R hR=>?_) (by show 0+((lk r (fR n)).map (·.1)).length<=_;rw[QG];omega) ?_;obtain⟨e,he,ee⟩:=Qh.mp hx;have ax:Adj r (fR n) x:=adj_ent.mpr ⟨e.2,by rw[<- ee];exact he⟩;have ax':Adj r x (fR n):=(fl.adj _ _).mpr (adj_sym ((fl.adj _ _).mp ax));have kx:Key r x:=by rw[key_iff,fl.keys];exact adj_key ((fl.adj _ _).mp ax')
 obtain⟨v,hv⟩:=ax';have ev:rm r x (fR n)=v:=by unfold rm;rw[hv];rfl
 rw[ev]at hR;simp?[↓X_and,↓x_pr0,↓Q_room];by_cases c:x.1=n;rw[dT c]at hR ⊢;exact hR;rw[dF c]at hR ⊢;simp only[QAn,↓reduceIte];refine x_roomT kx ?_;simp?[↓Q_inn];refine x_innT hv ?_;simp?[↓x_pr0];by_cases d:0<v;rw[dT d]at hR ⊢;exact hR;rw[dF d]at hR ⊢;exact hR;have hm:tO m0∈((lk r (fR n)).map (·.1)).filter fun p=>!decide (p.1=n)&&decide (0<rm r p (fR n)):=by obtain⟨v,hv⟩:=a0;refine Qm.mpr ⟨Qh.mpr ⟨_,look_in hv,rfl⟩,?_⟩;rw[dF (show ¬ (tO m0).1=n from fun z=>nx.1 z.symm),dT nx.2];rfl
 cases ef:((lk r (fR n)).map (·.1)).filter fun p=>!decide (p.1=n)&&decide (0<rm r p (fR n)) with
 |nil=>rw[ef]at hm;exact(nomatch hm)
 |cons y ys =>
  have hy:y∈((lk r (fR n)).map (·.1)).filter fun p=>!decide (p.1=n)&&decide (0<rm r p (fR n)):=by rw[ef];exact QF
  have hy2:=(Qm.mp hy).2;rw[Qb,Q4,decide_eq_false_iff_not,decide_eq_true_iff]at hy2;obtain⟨m,rfl⟩:=nb_fr fl.toBase ((fl.adj _ _).mpr (fl.toBase.adjw hy2.2));rw[qa,map_d (fun p:Pt=>PyData.str p.1)];simp?[↓cA];rw[QN,at_0];simp?[↓cA];exact q m ⟨fun z=>hy2.1 z.symm,hy2.2⟩
def sp_chain:PSp where
 md:=[.nk]
 run:=fun ds Q _=>∃(es:LSS) (st:List Str) (g:Str) (r:Rm) (f:Str),ds=[eA r,.d (.str f),.d (.str g)]/\((jA es st g).length<=1000/\Flow es st g r/\Fst r f)/\∀c,Run r g f c g->Q (.lst ((c.map PyData.str).map T.d)) []
 mono:=fun h _ z=>by obtain⟨es,st,g,r,n,e,l,q⟩:=z;exact⟨es,st,g,r,n,e,l,fun m a=>h _ _ (q m a)⟩
theorem run_chain(h1:(jA es st g).length<=1000)(h2:Flow es st g r)(h3:Fst r f)(q:∀c,Run r g f c g->K (.lst ((c.map PyData.str).map T.d)) []):runP sp_chain [eA r,.d (.str f),.d (.str g)] K E:=⟨es,st,g,r,f,rfl,⟨h1,h2,h3⟩,q⟩
theorem run_in(fl:Flow es st g r)(hf:Fst r f){n:Str}(h:Run r g f c n):(∀x∈c,tO x∈vs0 es st g)/\tO n∈vs0 es st g:=by
 induction h with
 |nil=>exact⟨fun x hx=>(nomatch hx),(on_vs fl.toBase hf).1⟩
 |go _ _ nx ih=>refine⟨fun x hx=>?_,(on_vs fl.toBase nx.2).1⟩;rcases Qd.mp hx with z|z;exact ih.1 x z;rw[QJ.mp z];exact ih.2
theorem run_len(fl:Flow es st g r)(hf:Fst r f){n:Str}(h:Run r g f c n):c.length<=(jA es st g).length:=by
 have nd:=(h.nd fl hf).1;have:=nd_lenP (ks:=c.map tO) (ns:=vs0 es st g) (WR tO (fun a b ne z=>ne (to_inj z)) nd) fun p hp=>by obtain⟨x,hx,e⟩:=Qh.mp hp;rw[<- e];exact(run_in fl hf h).1 x hx
 unfold vs0 at this;rw[QG,QG]at this;exact this
def chS(r:Rm)(f g:Str)(c:List Str)(n:Str):kA:=[some (.nk (eA r)),some (.nk (.d (.str f))),some (.nk (.d (.str g))),some (.own (.lst ((c.map PyData.str).map T.d))),some (.nk (.d (.str n)))]
theorem ch_body(h1:Ψ.sp "name_behind"=sp_behind){n:Str}(hs:(jA es st g).length<=1000)(fl:Flow es st g r)(ht:thr r n=1)(hl:c.length<=1000)(k:∀m,Nxt r n m->Z.nx (chS r f g (c++[n]) m)) :
  uA Ψ (fun _=>False) b_chain_from_1 Z (chS r f g c n):=by
 have hz:sizeLine=16777216:=QZ;delta chS at k ⊢;delta b_chain_from_1;simp?[↓J_room,↓ZA (md:=[.nk]) h1 rfl rfl];refine⟨by rw[QG,QG];omega,run_behind hs fl ht fun m nx=>?_⟩;have:=k m nx;rw[Qc,Qc]at this;simp?[↓cA];exact this
theorem ok_chain(h1:Ψ.sp "name_behind"=sp_behind)(ds Q E)(h:sp_chain.run ds Q E):ds.length=ps_chain_from.length/\uA Ψ (fun _=>False) b_chain_from (endsP sp_chain ps_chain_from.length Q) (nA N_chain_from sp_chain.md ds):=by
 obtain⟨es,st,g,r,f,rfl,⟨hs,fl,hf⟩,q⟩:=h;have hz:sizeLine=16777216:=QZ;refine begin_ok [some (.nk (eA r)),some (.nk (.d (.str f))),some (.nk (.d (.str g))),none,none] rfl rfl rfl ?_;delta b_chain_from
 simp?[↓cA];refine⟨Q5 _,whl_inv (fun m ρ=>∃c n,m+c.length=1001/\Run r g f c n/\ρ=chS r f g c n) 1001 ⟨[],f,rfl,.nil,rfl⟩ ?_⟩;rintro m ρ ⟨c,n,em,rn,rfl⟩;have hl:=run_len fl hf rn;by_cases e:n=g;subst e;delta chS;simp?[↓cA];exact q c rn;have hp:=fun(Z:PEnds) hz=>ch_body (Ψ:=Ψ) (Z:=Z) (f:=f) (g:=g) (c:=c) h1 hs fl (rn.thr1 fl hf e) (by omega) hz;unfold chS at hp;delta chS;simp?[↓cA];rw[dF e];refine hp _ fun m' nx=>?_;have rn':=rn.go e nx;have hl':=run_len fl hf rn';rw[QM,Qn]at hl';exact⟨m - 1,by omega,c++[n],m',by rw[QM,Qn];omega,rn',rfl⟩
theorem c_ninK{q:Pt}(hv:vs.length=ks.length)(hb:sA∈ks):cmpV .NotIn (.d (pr q)) (.d (.dict (camD ks vs))) L=L (!decide (q∈ks)):=by show(∃b,kindD (camD ks vs)=some b/\keyK b (pr q)/\L (!(dA ((camD ks vs).map (·.1)) (pr q)).isSome))=_;rw[cam_kind hv hb,cam_fst hv,find_pt];exact propext ⟨fun⟨_,_,_,h⟩=>h,fun h=>⟨true,rfl,key_pr q,h⟩⟩
theorem c_inK{q:Pt}(hv:vs.length=ks.length)(hb:sA∈ks):cmpV .In (.d (pr q)) (.d (.dict (camD ks vs))) L=L (decide (q∈ks)):=by show(∃b,kindD (camD ks vs)=some b/\keyK b (pr q)/\L (dA ((camD ks vs).map (·.1)) (pr q)).isSome)=_;rw[cam_kind hv hb,cam_fst hv,find_pt];exact propext ⟨fun⟨_,_,_,h⟩=>h,fun h=>⟨true,rfl,key_pr q,h⟩⟩
theorem n_srt{ss:List Str}{Q:T->Bool->Prop}(h64:ss.length<64)(q:∀ss':List Str,ss'.Perm ss->sortedS ss'=true->Q (.lst ((ss'.map PyData.str).map T.d)) true):biV .sorted [(.lst ((ss.map PyData.str).map T.d),n)] Q:=by unfold biV vwOf;rw[lst_vw];exact⟨_,ss,rfl,iA _,h64,q⟩
theorem E_hx{K:TK}{p:PX}:peE Ψ (.hx p) E ρ K=hxE p ρ K:=rfl
theorem T_hx{L:Bool->kA->Prop}{p:PX}:peT Ψ (.hx p) E ρ L=hxT p ρ L:=rfl
def cutN(ks:List Pt):List Str:=(ks.filter (cutP ks)).map fun p=>p.1
def sp_full:PSp where
 md:=[]
 run:=fun ds Q _=>∃(ks:List Pt) (vs:List D),ds=[.d (.dict (camD ks vs))]/\(vs.length=ks.length/\sA∈ks/\ks.length<=1000/\(ks.filter (cutP ks)).length<64)/\∀cut:List Str,cut.Perm (cutN ks)->sortedS cut=true->Q (.lst ((cut.map PyData.str).map T.d)) []
 mono:=fun h _ z=>by obtain⟨ks,vs,e,l,q⟩:=z;exact⟨ks,vs,e,l,fun m a b=>h _ _ (q m a b)⟩
theorem run_full(h1:vs.length=ks.length)(h2:sA∈ks)(h3:ks.length<=1000)(h4:(ks.filter (cutP ks)).length<64)(q:∀cut:List Str,cut.Perm (cutN ks)->sortedS cut=true->K (.lst ((cut.map PyData.str).map T.d)) []):runP sp_full [.d (.dict (camD ks vs))] K E:=⟨ks,vs,rfl,⟨h1,h2,h3,h4⟩,q⟩
theorem ok_full(ds Q E)(h:sp_full.run ds Q E):ds.length=ps_full_names.length/\uA Ψ (fun _=>False) b_full_names (endsP sp_full ps_full_names.length Q) (nA N_full_names sp_full.md ds):=by obtain⟨ks,vs,rfl,⟨hv,hb,h3,h4⟩,q⟩:=h;have hz:sizeLine=16777216:=QZ;refine begin_ok [some (.nk (.d (.dict (camD ks vs))))] rfl rfl rfl ?_;delta b_full_names;simp?[↓w_keyD (cam_kind hv hb),cam_fst hv];rw[<- map_d];refine compV_filter (fun p=>T.d (pr p)) (fun(p:Pt)=>T.d (.str p.1)) (cutP ks) ks [] _ (fun x hx R hR=>?_) (by show 0+ks.length<=_;omega) ?_;have hR:R (if(decide (x.2="to")&&!decide (fR x.1∈ks))=true then some (T.d (.str x.1)) else none):=hR;simp?[↓X_and,↓x_pr0,↓x_pr1,pr_fr,↓c_ninK hv hb];by_cases c:x.2="to";rw[dT c]at hR ⊢;refine⟨by omega,?_⟩;by_cases d:fR x.1∈ks;rw[dT d]at hR ⊢;exact hR;rw[dF d]at hR ⊢;exact hR;rw[dF c]at hR ⊢;exact hR;rw[qa,map_d (fun p:Pt=>PyData.str p.1),show((ks.filter (cutP ks)).map fun p=>PyData.str p.1)=(cutN ks).map PyData.str by unfold cutN;rw[Qp];rfl];refine n_srt (by unfold cutN;rw[QG];exact h4) fun ss' p1 p2=>?_;simp?[↓cA];exact q ss' p1 p2
theorem fst_bound(f:Flow es st g r):(((lk r sA).map (·.1)).filter fun y=>decide (0<rm r y sA)).length<=st.length:=by
 have hn:∀y∈((lk r sA).map (·.1)).filter (fun y=>decide (0<rm r y sA)),y=tO y.1/\Fst r y.1:=fun y hy=>by have h:=of_decide_eq_true (Qm.mp hy).2;obtain⟨n,rfl⟩:=nb_bg f.toBase ((f.adj _ _).mpr (f.toBase.adjw h));exact⟨rfl,h⟩
 have nd:(((lk r sA).map (·.1)).filter fun y=>decide (0<rm r y sA)).Nodup:=(f.ndi sA).sublist qB;have:=nd_len (ks:=(((lk r sA).map (·.1)).filter fun y=>decide (0<rm r y sA)).map (·.1)) (ns:=st) (by
  refine WR _ (fun a b h=>h) (WH (fun {a b} ha hb ne z=>?_) nd);exact ne (by rw[(hn a ha).1,(hn b hb).1,z])) fun s hs=>by
  obtain⟨y,hy,e⟩:=Qh.mp hs;rw[<- e];exact(fst_st f.toBase (hn y hy).2).1
 rw[QG]at this;exact this
theorem compV_rel{α β:Type}{body:T->(Option T->Prop)->Prop}(P:α->β->Prop)(g:α->T)(f:β->T):∀(l:List α) (acc:List T) (Q:List T->Prop),(∀x∈l,∀R:Option T->Prop,(∀y,P x y->R (some (f y)))->body (g x) R)->acc.length+l.length<=sizeLine->(∀ys,Paired P l ys->Q (acc++ys.map f))->compV body (l.map g) acc Q
 |[],acc,Q,_,hl,q=>by have:=q [] .nil;rw[wZ,wC]at this;exact⟨by rw[Qu]at hl;omega,this⟩
 |x::r,acc,Q,hb,hl,q=>by
  rw[QL]at hl;refine hb x QF _ fun y hy=>⟨by omega,?_⟩
  refine compV_rel P g f r _ Q (fun z hz=>hb z (QE _ hz)) (by rw[QM,Qn];omega) fun ys hp=>?_;have:=q (y::ys) (.cons hy hp);rw[QN]at this;rw[qj];exact this
theorem K_cam{r:PT}{i:Nat}:setK Ψ E r Z i (cam ks vs) true ρ=uA Ψ E r Z (ρ.set i (some (.nk (.d (.dict (camD ks vs)))))):=by unfold setK;rw[cam_er];exact propext ⟨fun h=>h.2,fun h=>⟨rfl,h⟩⟩
noncomputable abbrev chT:=lsT
theorem chT_er(cs:List (List Str)):ersT (cs.map chT)=cs.map strsD:=by rw[ersT_eq,Qp];congr 1;funext c;show PyData.list (ersT ((c.map PyData.str).map T.d))=_;rw[ersT_map];rfl
theorem mk_ll{a b:List T}:mkTup [.lst a,.lst b]=.tup [.lst a,.lst b]:=rfl
theorem apart_iff:∀{cs:List (List Str)},Apart cs↔cs.Pairwise fun c d=>∀x∈c,x∉d
 |[]=>⟨fun _=>.nil,fun _=>trivial⟩
 |c::cs=>by rw[List.pairwise_cons,<- apart_iff];exact wf
theorem apart_perm{cs ds:List (List Str)}(h:ds.Perm cs)(a:Apart cs):Apart ds:=apart_iff.mpr ((h.pairwise_iff (fun {a b} z x hx hy=>z x hy hx)).mpr (apart_iff.mp a))
structure Good(es:LSS)(st:List Str)(g:Str)(cs:List (List Str))(cut:List Str):Prop where
 chn:∀c∈cs,Chn es st g c g/\c.Nodup/\∀x∈c,x≠g
 apart:Apart cs
 len:cs.length=cut.length
 few:cut.length<=11
 nd:cut.Nodup
 srt:sortedS cut=true
 ng:g∉cut
 led:¬ ∃a,(a,g)∈es/\Led es st g cut a
 okn:∀s∈cut,qY s=true
end
section
variable{es:LSS}{st:List Str}{g:Str}{r:Rm}
theorem runs_apart(f:Flow es st g r):∀{fs:List Str}{cs:List (List Str)},fs.Nodup->(∀s∈fs,Fst r s)->Paired (fun s c=>Run r g s c g) fs cs->Apart cs/\(∀c∈cs,∃s∈fs,Run r g s c g)
 |_,_,_,_,.nil=>⟨trivial,fun _ h=>(nomatch h)⟩
 |s::fs,c::cs,nd,hf,.cons h t=>by
  obtain⟨n1,n2⟩:=Qe.mp nd;obtain⟨a1,a2⟩:=runs_apart f n2 (fun s hs=>hf s (QE _ hs)) t;refine⟨⟨fun d hd x hx hy=>?_,a1⟩,fun d hd=>?_⟩;obtain⟨s',hs',r'⟩:=a2 d hd;have:=Run.apart f (hf s QF) (hf s' (QE _ hs')) h r' x hx hy;exact n1 (this▸hs');rcases QK.mp hd with z|z
  ·rw[z];exact⟨s,QF,h⟩
  obtain⟨s',hs',r'⟩:=a2 d z;exact⟨s',QE _ hs',r'⟩
def fsP(r:Rm):List Pt:=((lk r sA).map fun e=>e.1).filter fun y=>decide (0<rm r y sA)
def fsN(r:Rm):List Str:=(fsP r).map fun p=>p.1
theorem fs_at(f:Flow es st g r):∀y∈fsP r,y=tO y.1/\Fst r y.1:=fun y hy=>by have h:=of_decide_eq_true (Qm.mp hy).2;obtain⟨n,rfl⟩:=nb_bg f.toBase ((f.adj _ _).mpr (f.toBase.adjw h));exact⟨rfl,h⟩
theorem fs_nd(f:Flow es st g r):(fsN r).Nodup:=by have nd:(fsP r).Nodup:=(f.ndi sA).sublist qB;refine WR _ (fun a b h=>h) (WH (fun {a b} ha hb ne z=>?_) nd);exact ne (by rw[(fs_at f a ha).1,(fs_at f b hb).1,z])
theorem fs_fst(f:Flow es st g r):∀s∈fsN r,Fst r s:=fun s hs=>by obtain⟨y,hy,e⟩:=Qh.mp hs;rw[<- e];exact(fs_at f y hy).2
theorem fs_len(f:Flow es st g r):out es st g r sA=(fsN r).length/\(fsN r).length<=st.length:=by have h1:=fst_len f;have h2:=fst_bound f;unfold fsN;rw[QG];exact⟨h1,h2⟩
theorem paired_len{α β:Type}{P:α->β->Prop}{l:List α}{m:List β}(h:Paired P l m):l.length=m.length:=qJ h
theorem good_of(f:Flow es st g r)(hn:NmOk es st)(h11:st.length<=11){ks:List Pt}{vs:List D}(cf:CF r ks vs)(hk:∀p,p∈ks↔Rch r p)(hg:tO g∉ks){cs ds:List (List Str)}(hp:Paired (fun s c=>Run r g s c g) (fsN r) cs)(pd:ds.Perm cs){cut:List Str}(pc:cut.Perm (cutN ks))(sc:sortedS cut=true):Good es st g ds cut:=by
 obtain⟨a1,a2⟩:=runs_apart f (fs_nd f) (fs_fst f) hp;obtain⟨l1,l2⟩:=fs_len f;have l3:=cut_many f cf.nd hk hg;have l4:(cutN ks).length=(ks.filter (cutP ks)).length:=by unfold cutN;rw[QG]
 have l5:=paired_len hp;have inK:∀s,s∈cutN ks↔tO s∈ks/\fR s∉ks:=fun s=>by unfold cutN;rw[Qh];constructor;rintro⟨y,hy,e⟩;obtain⟨h1,h2⟩:=Qm.mp hy;obtain⟨n,e2,h3⟩:=cut_iff.mp h2;subst e2;have e:n=s:=e;subst e;exact⟨h1,h3⟩;rintro⟨h1,h2⟩;exact⟨tO s,Qm.mpr ⟨h1,cut_iff.mpr ⟨s,rfl,h2⟩⟩,rfl⟩
 have ndc:(cutN ks).Nodup:=by unfold cutN;refine WR _ (fun a b h=>h) (WH (fun {a b} ha hb ne z=>?_) (cf.nd.sublist (qB (p:=cutP ks))));obtain⟨n,e1,_⟩:=cut_iff.mp (Qm.mp ha).2;obtain⟨m,e2,_⟩:=cut_iff.mp (Qm.mp hb).2;subst e1 e2;have z:n=m:=z;exact ne (by rw[z])
 have pl:=pc.length_eq;refine⟨fun c hc=>?_,apart_perm pd a1,by rw[pd.length_eq,pl];omega,by omega,pc.nodup_iff.mpr ndc,sc,fun z=>hg ((inK g).mp (pc.mem_iff.mp z)).1,?_,fun s hs=>?_⟩;obtain⟨s,hs,rn⟩:=a2 c (pd.mem_iff.mp hc);have hf:=fs_fst f s hs;exact⟨rn.chn f hf,(rn.nd f hf).1,rn.ng⟩;exact cut_led f hk hg fun n h1 h2=>pc.mem_iff.mpr ((inK n).mpr ⟨h1,h2⟩);have h1:=((inK s).mp (pc.mem_iff.mp hs)).1;have h2:=key_iff.mp (rch_key f.toBase.dom f.toBase.bg ((hk _).mp h1));rw[f.keys]at h2;have h3:=(key_ok hn h2).1;simp only[pr,tO,qw,Q9,Qb]at h3;exact h3.1
end
theorem L_own{xs:List (T×Bool)}{C:List T->Prop}{ts:List T}:lstV ((.lst ts,true)::xs) C=lstV xs fun us=>C (.lst ts::us):=by show((esc (.lst ts) true&&escB xs)=true/\C (.lst ts::tsOf xs))=(escB xs=true/\C (.lst ts::tsOf xs));rw[show esc (.lst ts) true=true from rfl,QAE]
def apS(es:LSS)(st:List Str)(g:Str)(r:Rm)(kd:List (D×D))(o5 o6:Option Sl):kA:=[some (.nk (.d (.list (es.map pr)))),some (.nk (.d (.list (st.map PyData.str)))),some (.nk (.d (.str g))),some (.own (eA r)),some (.nk (.d (.dict kd))),o5,o6]
section
variable{Ψ:PEv}{Z:PEnds}{es:LSS}{st:List Str}{g:Str}{r:Rm}
section
variable{q:PT}{kd:List (D×D)}{o6:Option Sl}
theorem ap_0(h1:Ψ.sp "rooms_of"=sp_rooms)(h2:Ψ.sp "points_reached"=sp_reach)(l1:es.length<=126)(l2:st.length<=11)(k:∀ks vs,CF (jA es st g) ks vs->(∀p,p∈ks↔Rch (jA es st g) p)->uA Ψ (fun _=>False) q Z (apS es st g (jA es st g) (camD ks vs) none none)) :
  uA Ψ (fun _=>False) (.seq (.own 3 (.call "rooms_of" (.nh (.var 0) (.nh (.var 1) (.nh (.var 2) .nj))))) (.seq (.set 4 (.call "points_reached" (.nh (.var 3) .nj))) q)) Z [some (.nk (.d (.list (es.map pr)))),some (.nk (.d (.list (st.map PyData.str)))),some (.nk (.d (.str g))),none,none,none,none]:=by
 have ok:=ok_rooms (g:=g) l1 l2;delta apS at k;simp?[↓ZA (md:=[]) h1 rfl rfl,↓ZA (md:=[.nk]) h2 rfl rfl];refine run_rooms l1 l2 ?_;simp?[↓J_room,↓ZA (md:=[.nk]) h2 rfl rfl];refine run_reach (.inl rfl) ok.dom ok.bg ok.sz.1 fun ks vs hc hk=>?_;simp?[↓K_cam];exact k ks vs hc hk
theorem ap_1(h2:Ψ.sp "points_reached"=sp_reach)(h3:Ψ.sp "lay_chain"=sp_lay){ks:List Pt}{vs:List D}(hs:(jA es st g).length<=1000)(hn:NmOk es st)(f:Flow es st g r)(cf:CF r ks vs)(hg:tO g∈ks)
  (k:∀r' ks' vs',Flow es st g r'->out es st g r' sA=out es st g r sA+1->CF r' ks' vs'->(∀p,p∈ks'↔Rch r' p)->Z.nx (apS es st g r' (camD ks' vs') none none)) :
  uA Ψ (fun _=>False) b_apart_chains_1 Z (apS es st g r (camD ks vs) none none):=by
 have hz:sizeLine=16777216:=QZ;delta apS at k ⊢;delta b_apart_chains_1;simp?[pr_to,↓E_callc (md:=[]) h3 rfl rfl,↓ZA (md:=[.nk]) h2 rfl rfl];refine⟨by omega,run_lay hs hn f cf hg fun r' f' e=>⟨_,rfl,?_⟩⟩;simp?[↓J_room,↓ZA (md:=[.nk]) h2 rfl rfl];refine run_reach (.inl rfl) f'.toBase.dom f'.toBase.bg (by rw[f'.toBase.len];exact hs) fun ks' vs' hc hk=>?_;simp?[↓K_cam];exact k r' ks' vs' f' e hc hk
theorem ap_2(hB:Ψ.va "BEGIN"=some (pr sA)){o5:Option Sl}(hs:(jA es st g).length<=1000)(f:Flow es st g r)(k:uA Ψ (fun _=>False) q Z (apS es st g r kd (some (.nk (.d (.list ((fsN r).map PyData.str))))) o6)) :
  uA Ψ (fun _=>False) (.seq (.set 5 (.comp [] ["point"] (.nm 0) .val (.nh (.idx (.var 3) (.glo "BEGIN")) .nj) (.cmp .Gt (.idx (.idx (.var 4) (.var 0)) (.glo "BEGIN")) (.int 0)) (.idx (.var 0) (.int 0)))) q) Z (apS es st g r kd o5 o6):=by
 have hz:sizeLine=16777216:=QZ;have hi:=f.toBase.inn sA;delta apS at k ⊢;simp?[↓Q_room,↓E_glo hB];refine x_roomT f.toBase.bg ?_;simp?[↓J_inn,↓w_keyT];have e0:((lk r sA).map fun e=>pr e.1).map T.d=((lk r sA).map fun e=>e.1).map fun p=>T.d (pr p):=by rw[Qp,Qp];rfl
 rw[e0];refine compV_filter (fun p=>T.d (pr p)) (fun(p:Pt)=>T.d (.str p.1)) (fun y=>decide (0<rm r y sA)) ((lk r sA).map fun e=>e.1) [] _ (fun x hx R hR=>?_) (by show 0+((lk r sA).map fun e=>e.1).length<=_;rw[QG];omega) ?_;obtain⟨e,he,ee⟩:=Qh.mp hx;have ax:Adj r sA x:=adj_ent.mpr ⟨e.2,by rw[<- ee];exact he⟩;have ax':Adj r x sA:=(f.adj _ _).mpr (adj_sym ((f.adj _ _).mp ax));have kx:Key r x:=by rw[key_iff,f.keys];exact adj_key ((f.adj _ _).mp ax')
 obtain⟨v,hv⟩:=ax';have ev:rm r x sA=v:=by unfold rm;rw[hv];rfl
 rw[ev]at hR;simp?[↓Q_room,↓E_glo hB];refine x_roomT kx ?_;simp?[↓Q_inn,↓E_glo hB];refine x_innT hv ?_;simp?[↓x_pr0];by_cases d:0<v;rw[dT d]at hR ⊢;exact hR;rw[dF d]at hR ⊢;exact hR;rw[qa,map_d (fun p:Pt=>PyData.str p.1)];have e1:((((lk r sA).map fun e=>e.1).filter fun y=>decide (0<rm r y sA)).map fun p=>PyData.str p.1)=(fsN r).map PyData.str:=by unfold fsN fsP;rw[Qp];rfl
 rw[e1];simp?[↓cA];exact k
theorem ap_3(h4:Ψ.sp "chain_from"=sp_chain)(hs:(jA es st g).length<=1000)(h11:st.length<=11)(f:Flow es st g r)(k:∀cs,Paired (fun s c=>Run r g s c g) (fsN r) cs->uA Ψ (fun _=>False) q Z (apS es st g r kd (some (.nk (.d (.list ((fsN r).map PyData.str))))) (some (.own (.lst (cs.map chT)))))) :
  uA Ψ (fun _=>False) (.seq (.own 6 (.comp [] ["first"] (.nm 0) .val (.nh (.var 5) .nj) .nop (.call "chain_from" (.nh (.var 4) (.nh (.var 0) (.nh (.var 3) .nj)))))) q) Z (apS es st g r kd (some (.nk (.d (.list ((fsN r).map PyData.str))))) o6):=by
 have hz:sizeLine=16777216:=QZ;have hl:=(fs_len f).2;delta apS at k ⊢;simp?[↓cA];rw[<- map_d PyData.str (fsN r)];refine compV_rel (fun s c=>Run r g s c g) (fun s=>T.d (.str s)) chT (fsN r) [] _ (fun x hx R hR=>?_) (by show 0+(fsN r).length<=_;omega) fun cs hp=>?_;simp?[↓J_room,↓ZA (md:=[.nk]) h4 rfl rfl];refine run_chain hs f (fs_fst f x hx) fun c rn=>?_;simp?[↓cA];exact hR c rn;rw[qa];exact k cs hp
end
end
section
variable{es:LSS}{st:List Str}{g:Str}
def sp_apart:PSp where
 md:=[]
 run:=fun ds Q _=>∃(es:LSS) (st:List Str) (g:Str),ds=[.d (.list (es.map pr)),.d (.list (st.map PyData.str)),.d (.str g)]/\(es.length<=126/\st.length<=11/\NmOk es st)/\∀cs cut,Good es st g cs cut->cs.Pairwise leL->Q (.tup [.lst (cs.map chT),.lst ((cut.map PyData.str).map T.d)]) []
 mono:=fun h _ z=>by obtain⟨es,st,g,e,l,q⟩:=z;exact⟨es,st,g,e,l,fun cs cut a b=>h _ _ (q cs cut a b)⟩
theorem run_apart{K:T->List T->Prop}{E:XE}(h1:es.length<=126)(h2:st.length<=11)(h3:NmOk es st)(q:∀cs cut,Good es st g cs cut->cs.Pairwise leL->K (.tup [.lst (cs.map chT),.lst ((cut.map PyData.str).map T.d)]) []):runP sp_apart [.d (.list (es.map pr)),.d (.list (st.map PyData.str)),.d (.str g)] K E:=⟨es,st,g,rfl,⟨h1,h2,h3⟩,q⟩
theorem ok_apart{Ψ:PEv}(h1:Ψ.sp "rooms_of"=sp_rooms)(h2:Ψ.sp "points_reached"=sp_reach)(h3:Ψ.sp "lay_chain"=sp_lay)(h4:Ψ.sp "chain_from"=sp_chain)(h5:Ψ.sp "full_names"=sp_full)(hB:Ψ.va "BEGIN"=some (pr sA))(ds Q E)(h:sp_apart.run ds Q E):ds.length=ps_apart_chains.length/\uA Ψ (fun _=>False) b_apart_chains (endsP sp_apart ps_apart_chains.length Q) (nA N_apart_chains sp_apart.md ds):=by
 obtain⟨es,st,g,rfl,⟨l1,l2,hn⟩,q⟩:=h;have hz:sizeLine=16777216:=QZ;have hs:(jA es st g).length<=1000:=(ok_rooms (g:=g) l1 l2).sz.1;refine begin_ok [some (.nk (.d (.list (es.map pr)))),some (.nk (.d (.list (st.map PyData.str)))),some (.nk (.d (.str g))),none,none,none,none] rfl rfl rfl ?_;refine ap_0 h1 h2 l1 l2 fun ks0 vs0' c0 k0=>?_;have b0:=fs_len (flow0 (es:=es) (st:=st) (g:=g));delta apS;simp?[↓cA];refine whl_inv (fun m ρ=>∃r ks vs,(m:Int)+out es st g r sA=12/\Flow es st g r/\CF r ks vs/\(∀p,p∈ks↔Rch r p)/\ρ=apS es st g r (camD ks vs) none none) (12 - out es st g (jA es st g) sA).toNat ⟨jA es st g,ks0,vs0',by omega,flow0,c0,k0,rfl⟩ ?_;rintro m ρ ⟨r,ks,vs,em,f,cf,hk,rfl⟩;have bd:=fs_len f;by_cases hg:tO g∈ks;have hp:=fun(Z:PEnds) hz=>ap_1 (Ψ:=Ψ) (Z:=Z) h2 h3 hs hn f cf hg hz;unfold apS at hp;delta apS;simp?[pr_to,↓c_inK cf.len cf.hb];refine⟨by omega,?_⟩;rw[dT hg];refine hp _ fun r' ks' vs' f' e c' k'=>⟨m - 1,?_,r',ks',vs',?_,f',c',k',rfl⟩
 have:=fs_len f';omega;have:=fs_len f';omega;have hr:uA Ψ (fun _=>False) (.seq (.set 5 (.comp [] ["point"] (.nm 0) .val (.nh (.idx (.var 3) (.glo "BEGIN")) .nj) (.cmp .Gt (.idx (.idx (.var 4) (.var 0)) (.glo "BEGIN")) (.int 0)) (.idx (.var 0) (.int 0)))) (.seq (.own 6 (.comp [] ["first"] (.nm 0) .val (.nh (.var 5) .nj) .nop (.call "chain_from" (.nh (.var 4) (.nh (.var 0) (.nh (.var 3) .nj)))))) (.seq (.ret (.tup (.nh (.hx (.bi .sorted (.nh (.var 6) .nj))) (.nh (.call "full_names" (.nh (.var 4) .nj)) .nj)))) .nil))) (eZ Q) (apS es st g r (camD ks vs) none none):=by refine ap_2 hB hs f (ap_3 h4 hs l2 f fun cs hp=>?_);have lc:=paired_len hp;have l3:=cut_many f cf.nd hk hg;delta apS;simp?[↓E_hx,↓ZA (md:=[]) h5 rfl rfl];refine⟨6,cs,rfl,rfl,by omega,fun ds pd so=>?_⟩;simp?[↓ZA (md:=[]) h5 rfl rfl];refine run_full cf.len cf.hb (QX (cf.le f.toBase.dom f.toBase.bg) (by rw[f.toBase.len];exact hs)) (by omega) fun cut pc sc=>?_;simp?[↓L_own,mk_ll];exact⟨by omega,q ds cut (good_of f hn l2 cf hk hg hp pd pc sc) so⟩
 unfold apS at hr;delta apS;simp?[pr_to,↓c_inK cf.len cf.hb];refine⟨by omega,?_⟩;rw[dF hg];exact hr
theorem ok_of{s:Str}(h:okT s):qY s=true:=by unfold qY;rw[Array.all_eq_true_iff_forall_mem];intro c hc;have:=h.2 c (QAi.mpr hc);exact dT (by omega)
theorem web_nm{ns:List Str}(w:WebOk ns es st g):NmOk es st:=by obtain⟨w1,w2,w3,w4,w5,w6,w7⟩:=w;exact⟨fun s hs=>ok_of (w2 s (w6 s hs)),fun e he=>⟨ok_of (w2 _ (w4 e he).1),ok_of (w2 _ (w4 e he).2)⟩⟩
end
section
variable{Ψ:PEv}{E:XE}{ρ:kA}{a b:PX}{K:T->Bool->kA->Prop}{n m:Bool}{Q:T->Bool->Prop}{L:Bool->Prop}{ds:List D}{Z:PEnds}{r:PT}{i:Nat}
section
variable{ss:List Str}{x:Str}{ts:List T}
theorem E_lset:peE Ψ (.lset a) E ρ K=peE Ψ a E ρ fun x n ρ1=>lsetT (fA x n).vw fun z k=>K z k ρ1:=rfl
theorem E_m1:peE Ψ (.neg (.int 1)) E ρ K=K (.d (.int (-1))) false ρ:=propext ⟨fun⟨_,e,q⟩=>by cases e;exact q,fun q=>⟨1,rfl,q⟩⟩
theorem V_dl{t:T}:binV .Add (.d (.list ds)) n t m Q=binV .Add (.lst (ds.map T.d)) false t m Q:=by unfold binV;rw[rA];rfl
theorem K_nil:setK Ψ E r Z i (.lst []) true ρ=uA Ψ E r Z (ρ.set i (some (.nk (.d (.list []))))):=K_l (ds:=[])
theorem n_allT{α:Type}{l:List α}(q:Q (.d (.bool true)) false):biV .all [(.lst ((l.map fun _=>PyData.bool true).map T.d),n)] Q:=by unfold biV vwOf;rw[lst_vw];refine⟨_,l.map fun _=>true,rfl,by rw[iA,Qp];rfl,?_⟩;rw[QBV];show Q (.d (.bool (l.all fun _=>true))) false;rw[qE.mpr fun _ _=>rfl];exact q
theorem lset_ndl(h:ss.length<4000)(nd:ss.Nodup)(q:Q (.d (.int ss.length)) false):lsetT (fA (.lst ((ss.map PyData.str).map T.d)) n).vw Q:=by rw[lst_vw];refine⟨_,ss,rfl,iA _,h,fun zs hz hm=>?_⟩;rw[QBr (nd_len hz fun s=>(hm s).mp) (nd_len nd fun s=>(hm s).mpr)];exact q
theorem i_ll:isiV (.bty x "list") (.lst ts) L=L true:=propext ⟨fun⟨_,e,_,q⟩=>by cases e;exact q,fun q=>⟨_,rfl,rfl,q⟩⟩
theorem i_tt:isiV (.bty x "tuple") (.tup ts) L=L true:=propext ⟨fun⟨_,e,_,q⟩=>by cases e;exact q,fun q=>⟨_,rfl,rfl,q⟩⟩
theorem n_lt:biV .len [(.tup ts,false)] Q=Q (.d (.int ts.length)) false:=biT_3 ts
theorem n_lo:biV .len [(.lst ts,false)] Q=Q (.d (.int ts.length)) false:=biT_2 ts
theorem lset_nd(h:ss.length<4000)(nd:ss.Nodup)(q:Q (.d (.int ss.length)) false):lsetT (fA (.d (.list (ss.map PyData.str))) n).vw Q:=by rw[rA];refine⟨_,ss,rfl,iA _,h,fun zs hz hm=>?_⟩;rw[QBr (nd_len hz fun s=>(hm s).mp) (nd_len nd fun s=>(hm s).mpr)];exact q
end
end
section
variable{es:LSS}{st:List Str}{a b:Str}{L:Bool->Prop}
theorem lay_all:∀{l:List D},(∀x∈l,x.canLay0=true/\x.depth<=1)->Q9 l=true/\qP l<=1
 |[],_=>by simp[Q9,qP]
 |x::l,h=>by obtain⟨h1,h2⟩:=h x QF;obtain⟨i1,i2⟩:=lay_all (l:=l) fun y hy=>h y (QE _ hy);simp only[Q9,qP,h1,i1,QBC,true_and];omega
theorem ok_lst{l:List D}(h:∀x∈l,x.canLay0=true/\x.depth<=1):okD (.list l):=by obtain⟨h1,h2⟩:=lay_all h;refine⟨?_,?_⟩;simp only[qw];exact h1;simp only[wt];omega
theorem ok_prs(h:NmOk es st):okD (.list (es.map pr)):=ok_lst fun x hx=>by obtain⟨e,he,rfl⟩:=Qh.mp hx;obtain⟨h1,h2⟩:=h.2 e he;simp only[pr,qw,wt,Q9,qP,h1,h2];decide
theorem any_pr(es:LSS)(e:Str×Str):((es.map pr).any fun y=>Qw y (pr e))=decide (e∈es):=by rw[List.any_map,qO,We,decide_eq_true_iff];constructor;rintro⟨x,hx,z⟩;have z:Qw (pr x) (pr e)=true:=z;rw[eqv_pr,decide_eq_true_iff]at z;exact z▸hx;intro h;exact⟨e,h,by show Qw (pr e) (pr e)=true;rw[eqv_pr];exact dT rfl⟩
theorem in_prs(h:NmOk es st)(m:(a,b)∈es)(l:L true):cmpV .In (.d (.tuple [.str a,.str b])) (.d (.list (es.map pr))) L:=by obtain⟨h1,h2⟩:=h.2 _ m;refine⟨.inr ⟨ok_pt h1 h2,ok_prs h⟩,?_⟩;have:=any_pr es (a,b);rw[dT m]at this;show L ((es.map pr).any fun y=>Qw y (pr (a,b)));rw[this];exact l
theorem nin_prs(h:NmOk es st)(m:(a,b)∈es)(l:L false):cmpV .NotIn (.d (.tuple [.str a,.str b])) (.d (.list (es.map pr))) L:=in_prs (L:=fun k=>L (!k)) h m l
end
section
variable{es:LSS}{st:List Str}{g:Str}
section
variable{c:List Str}{n:Str}
theorem chn_ne(h:Chn es st g c g):c≠[]:=fun e=>by
 cases h with
 |st _ h=>exact h rfl
 |go=>exact List.append_ne_nil_of_right_ne_nil _ (List.cons_ne_nil _ _) e
theorem chn_fst(h:Chn es st g c n):∃x∈st,(c++[n])[0]?=some x:=by
 induction h with
 |st h _=>exact⟨_,h,rfl⟩
 |go _ _ _ ih=>obtain⟨x,hx,e⟩:=ih;exact⟨x,hx,by rw[Qq (by rw[QM,Qn];omega)];exact e⟩
theorem chn_edge(h:Chn es st g c n):∀k,k<c.length->∃x y,(c++[n])[k]?=some x/\(c++[n])[k+1]?=some y/\(x,y)∈es:=by
 induction h with
 |st h _=>exact fun k hk=>(nomatch hk)
 |@go c n m _ _ he ih =>
  intro k hk;rw[QM,Qn]at hk;have e:∀j,j<c.length+1->(c++[n]++[m])[j]?=(c++[n])[j]?:=fun j hj=>Qq (by rw[QM,Qn];exact hj);rw[e k hk];by_cases z:k<c.length;rw[e (k+1) (by omega)];exact ih k z;have e2:k=c.length:=by omega
  subst e2;refine⟨n,m,?_,?_,he⟩;rw[Qk (QR _),Wa];rfl;rw[Qk (by rw[QM,Qn];omega),QM,Qn,Wa];rfl
theorem chn_mem(h:Chn es st g c n){ns:List Str}(h1:∀s∈st,s∈ns)(h2:∀e∈es,e.2∈ns):∀x∈c++[n],x∈ns:=by
 induction h with
 |st h _=>exact fun x hx=>QJ.mp hx▸h1 _ h
 |go _ _ he ih=>intro x hx;rcases Qd.mp hx with z|z;exact ih x z;exact QJ.mp z▸h2 _ he
end
end
theorem apart_nd:∀{cs:List (List Str)},Apart cs->(∀c∈cs,c.Nodup)->cs.flatten.Nodup
 |[],_,_=>.nil
 |c::cs,h,hn=>by rw[qi];refine qk.mpr ⟨hn c QF,apart_nd h.2 fun d hd=>hn d (QE _ hd),fun a ha b hb e=>?_⟩;subst e;obtain⟨d,hd,hm⟩:=QBj.mp hb;exact h.1 d hd a ha hm
def sp_texts:PSp where
 md:=[.nr]
 run:=fun ds Q _=>∃ss:List Str,ds=[.lst ((ss.map PyData.str).map T.d)]/\ss.length<=1000/\Q (.d (.bool true)) []
 mono:=fun h _ z=>by obtain⟨ss,e,l,q⟩:=z;exact⟨ss,e,l,h _ _ q⟩
theorem run_texts{ss:List Str}{K:T->List T->Prop}{E:XE}(h:ss.length<=1000)(q:K (.d (.bool true)) []):runP sp_texts [.lst ((ss.map PyData.str).map T.d)] K E:=⟨ss,rfl,h,q⟩
theorem ok_texts{Ψ:PEv}(ds Q E)(h:sp_texts.run ds Q E):ds.length=ps_l_texts.length/\uA Ψ (fun _=>False) b_l_texts (endsP sp_texts ps_l_texts.length Q) (nA N_l_texts sp_texts.md ds):=by obtain⟨ss,rfl,hl,q⟩:=h;have hz:sizeLine=16777216:=QZ;refine begin_ok [some (.nk (.lst ((ss.map PyData.str).map T.d)))] rfl rfl rfl ?_;delta b_l_texts;simp?[↓T_isi,↓i_ll];rw[<- map_d];refine compV_map (fun(s:Str)=>T.d (.str s)) (fun _=>T.d (.bool true)) ss _ _ (fun x _ R hR=>?_) (by rw[Qu];omega) ?_;simp?[↓E_isi,↓T_isi,↓i_ss];exact hR;rw[qa,map_d];refine n_allT ?_;simp?[↓cA];exact q
def lcS(c:List Str)(es:LSS)(st:List Str)(g:Str):kA:=[some (.nk (.lst ((c.map PyData.str).map T.d))),some (.nk (.d (.list (es.map pr)))),some (.nk (.d (.list (st.map PyData.str)))),some (.nk (.d (.str g)))]
section
variable{Ψ:PEv}{Z:PEnds}{c:List Str}{es:LSS}{st:List Str}{g:Str}{q:PT}
theorem lc_1(h1:Ψ.sp "_law_texts"=sp_texts){x:Str}(hl:c.length<=1000)(hx:c[0]?=some x)(hs:x∈st)(hg:g∉c)(k:uA Ψ (fun _=>False) q Z (lcS c es st g)) :
  uA Ψ (fun _=>False) (.seq (.ife (.or (.not (.call "_law_texts" (.nh (.var 0) .nj))) (.or (.cmp .Eq (.bi .len (.nh (.var 0) .nj)) (.int 0)) (.or (.cmp .NotIn (.idx (.var 0) (.int 0)) (.var 2)) (.cmp .In (.var 3) (.var 0))))) (.seq (.ret (.bl false)) .nil) .nil) q) Z (lcS c es st g):=by
 have e0:atI (c.map PyData.str) 0=some (.str x):=atI_nat (j:=0) (by rw[QY,hx];rfl);have e1:¬ (c.length:Int)=0:=by have:=(QT.mp hx).1;omega
 delta lcS at k ⊢;simp?[↓T_or,↓ZA (md:=[.nr]) h1 rfl rfl];refine run_texts hl ?_;simp?[↓T_or,↓optP_e e0,any_str,flat_str,flatD,true_or,QG,dF e1,dT hs,dF hg];exact k
theorem lc_2(hn:NmOk es st){x:Str}(hl:c.length<=1000)(hx:c[c.length - 1]?=some x)(he:(x,g)∈es)(nd:c.Nodup)(k:uA Ψ (fun _=>False) q Z (lcS c es st g)) :
  uA Ψ (fun _=>False) (.seq (.ife (.or (.cmp .NotEq (.lset (.var 0)) (.bi .len (.nh (.var 0) .nj))) (.cmp .NotIn (.tup (.nh (.idx (.var 0) (.neg (.int 1))) (.nh (.var 3) .nj))) (.var 1))) (.seq (.ret (.bl false)) .nil) .nil) q) Z (lcS c es st g):=by
 have hz:sizeLine=16777216:=QZ;have e0:atI (c.map PyData.str) (-1)=some (.str x):=by have:=(QT.mp hx).1;unfold atI ixN;rw[QG,if_neg (by decide),if_pos (by omega),Option.bind_some,show(-1+(c.length:Int)).toNat=c.length - 1 by omega,QY,hx];rfl
 delta lcS at k ⊢;simp?[↓T_or,↓E_lset];refine lset_ndl (by omega) nd ?_;simp?[↓T_or,↓E_m1,↓optP_e e0,QG];refine⟨by omega,nin_prs hn he ?_⟩;simp?[↓cA];exact k
theorem lc_3{Q:T->List T->Prop}(hn:NmOk es st)(hl:c.length<=1000)(he:∀k,k+1<c.length->∃x y,c[k]?=some x/\c[k+1]?=some y/\(x,y)∈es)(k:Q (.d (.bool true)) []) :
  uA Ψ (fun _=>False) (.seq (.ret (.bi .all (.nh (.comp [] ["_law_k"] (.nm 0) .rng1 (.nh (.bin .Sub (.bi .len (.nh (.var 0) .nj)) (.int 1)) .nj) .nop (.cmp .In (.tup (.nh (.idx (.var 1) (.var 0)) (.nh (.idx (.var 1) (.bin .Add (.var 0) (.int 1))) .nj))) (.var 2))) .nj))) .nil) (eZ Q) (lcS c es st g):=by
 have hz:sizeLine=16777216:=QZ;delta lcS;simp?[QG];refine⟨by omega,by omega,?_⟩;refine compV_map (fun(i:Nat)=>T.d (.int (i:Int))) (fun _=>T.d (.bool true)) _ _ _ (fun i hi R hR=>?_) (by rw[Qu,wB];omega) ?_;have hi:=Ww.mp hi;obtain⟨x,y,hx,hy,hm⟩:=he i (by omega);have e0:atI (c.map PyData.str) (i:Int)=some (.str x):=atI_nat (by rw[QY,hx];rfl);have e1:atI (c.map PyData.str) ((i:Int)+1)=some (.str y):=atI_nat (j:=i+1) (by rw[QY,hy];rfl);simp?[↓optP_e e0,↓optP_e e1];exact⟨by omega,in_prs hn hm hR⟩;rw[qa,map_d];refine n_allT ?_;simp?[↓cA];exact k
end
section
variable{K:T->List T->Prop}{Ψ:PEv}
def sp_lch:PSp where
 md:=[.nr]
 run:=fun ds Q _=>∃(c:List Str) (es:LSS) (st:List Str) (g:Str),ds=[.lst ((c.map PyData.str).map T.d),.d (.list (es.map pr)),.d (.list (st.map PyData.str)),.d (.str g)]/\(NmOk es st/\c.length<=1000/\Chn es st g c g/\c.Nodup/\∀x∈c,x≠g)/\Q (.d (.bool true)) []
 mono:=fun h _ z=>by obtain⟨c,es,st,g,e,l,q⟩:=z;exact⟨c,es,st,g,e,l,h _ _ q⟩
theorem run_lch{c:List Str}{es:LSS}{st:List Str}{g:Str}{E:XE}(h:NmOk es st/\c.length<=1000/\Chn es st g c g/\c.Nodup/\∀x∈c,x≠g)(q:K (.d (.bool true)) []):runP sp_lch [.lst ((c.map PyData.str).map T.d),.d (.list (es.map pr)),.d (.list (st.map PyData.str)),.d (.str g)] K E:=⟨c,es,st,g,rfl,h,q⟩
theorem ok_lch(h1:Ψ.sp "_law_texts"=sp_texts)(ds Q E)(h:sp_lch.run ds Q E):ds.length=ps_l_chain.length/\uA Ψ (fun _=>False) b_l_chain (endsP sp_lch ps_l_chain.length Q) (nA N_l_chain sp_lch.md ds):=by obtain⟨c,es,st,g,rfl,⟨hn,hl,ch,nd,ng⟩,q⟩:=h;have hp:=List.length_pos_iff.mpr (chn_ne ch);obtain⟨x,hs,hx⟩:=chn_fst ch;obtain⟨y,z,hy,hz,he⟩:=chn_edge ch (c.length - 1) (by omega);rw[Qq hp]at hx;rw[Qq (by omega)]at hy;rw[show c.length - 1+1=c.length by omega,Qk (QR _),Wa]at hz;cases hz;refine begin_ok (lcS c es st g) rfl rfl rfl ?_;delta b_l_chain;refine lc_1 h1 hl hx hs (fun z=>ng g z rfl) (lc_2 hn hl hy he nd (lc_3 hn hl (fun k hk=>?_) q));obtain⟨u,v,hu,hv,hm⟩:=chn_edge ch k (by omega);rw[Qq (by omega)]at hu hv;exact⟨u,v,hu,hv,hm⟩
def sp_lap:PSp where
 md:=[.nk]
 run:=fun ds Q _=>∃cs:List (List Str),ds=[.lst (cs.map chT)]/\(cs.flatten.Nodup/\cs.flatten.length<=1000)/\Q (.d (.bool true)) []
 mono:=fun h _ z=>by obtain⟨cs,e,l,q⟩:=z;exact⟨cs,e,l,h _ _ q⟩
theorem run_lap{cs:List (List Str)}{E:XE}(h1:cs.flatten.Nodup)(h2:cs.flatten.length<=1000)(q:K (.d (.bool true)) []):runP sp_lap [.lst (cs.map chT)] K E:=⟨cs,rfl,⟨h1,h2⟩,q⟩
theorem w_lT{ts:List T}{W:List T->Prop}:itV .val [(.lst ts,false)] W=W ts:=by unfold itV vwOf;exact itemsT_2 ts
theorem ok_lap(ds Q E)(h:sp_lap.run ds Q E):ds.length=ps_l_apart.length/\uA Ψ (fun _=>False) b_l_apart (endsP sp_lap ps_l_apart.length Q) (nA N_l_apart sp_lap.md ds):=by
 obtain⟨cs,rfl,⟨nd,hl⟩,q⟩:=h;have hz:sizeLine=16777216:=QZ;refine begin_ok [some (.nk (.lst (cs.map chT))),none,none] rfl rfl rfl ?_;delta b_l_apart;simp?[↓K_nil,↓w_lT];refine⟨by omega,?_⟩;refine for_inv chT (fun l ρ=>∃(ms:List Str) (o2:Option Sl),ms++l.flatten=cs.flatten/\ρ=[some (.nk (.lst (cs.map chT))),some (.nk (.d (.list (ms.map PyData.str)))),o2]) ?_ ?_ _ _ ⟨[],_,rfl,rfl⟩;rintro ρ ⟨ms,o2,e,rfl⟩;rw[List.flatten_nil,wC]at e;subst e;simp?[↓E_lset];refine lset_nd (by omega) nd ?_;simp?[QG];exact q;rintro c l ρ N hN ⟨ms,o2,e,rfl⟩;rw[qi,<- qj]at e;have hm:ms.length+c.length<=1000:=by have:=congrArg qq e;rw[QM,QM]at this;omega
 show uA Ψ (fun _=>False) b_l_apart_1 _ [some (.nk (.lst (cs.map chT))),some (.nk (.d (.list (ms.map PyData.str)))),some (.nk (.lst ((c.map PyData.str).map T.d)))];delta b_l_apart_1;simp?[↓V_dl,QG];rw[<- Qc];exact⟨by omega,hN _ ⟨ms++c,_,e,rfl⟩⟩
def hdD(es:LSS)(st:List Str):D:=.list [.list (es.map pr),.list (st.map PyData.str)]
def fdT(cs:List (List Str))(cut:List Str):T:=.tup [.lst (cs.map chT),.lst ((cut.map PyData.str).map T.d)]
def lwS(sc:Sl)(ns:List Str)(es:LSS)(st:List Str)(g:Str)(o5 o6 o7 o8:Option Sl):kA:=[some sc,some (.nk (.d (.list (ns.map PyData.str)))),some (.nk (.d (.list (es.map pr)))),some (.nk (.d (.list (st.map PyData.str)))),some (.nk (.d (.str g))),o5,o6,o7,o8]
noncomputable abbrev oH(es:LSS)(st:List Str):Option Sl:=some (.nk (.d (hdD es st)))
noncomputable abbrev oF(cs:List (List Str))(cut:List Str):Option Sl:=some (.own (fdT cs cut))
end
section
variable{Ψ:PEv}{Z:PEnds}{sc:Sl}{ns:List Str}{es:LSS}{st:List Str}{g:Str}{cs:List (List Str)}{cut:List Str}{o7 o8:Option Sl}{q:PT}
section
variable{E:XE}{b as:PX}{ρ:kA}{K:TK}{md:List Md}{M:List (T×Bool)->kA->Prop}{ts:List T}
theorem Q_t:sqE (.tup ts) false Ψ b E ρ K=peE Ψ b E (lockA ρ) fun y m _=>K y m ρ:=rfl
theorem J_t:sqA (.tup ts) false Ψ as E md ρ M=peA Ψ as E md (lockA ρ) fun xs _=>M xs ρ:=rfl
end
theorem d_two:decide (((2:Nat):Int)=2)=true:=by decide
theorem x_tT{ts:List T}{i:Int}{m:Bool}{R:T->Prop}:idxV (.tup ts) false (.d (.int i)) m R=optP (atI ts i) R:=by unfold idxV;rw[rA];show(idxT (.tp ts) (.sc (.int i)) R∨dixT (.tp ts) (.int i) R)=_;rw[idxT_3,dix_tp,or_false];rfl
theorem lw_0(h4:Ψ.sp "_law_web"=sp_web){is:List Int}(k:∀ns es st g,WebOk ns es st g->uA Ψ (fun _=>False) q Z (lwS (.nk (.lst ((is.map PyData.int).map T.d))) ns es st g none none none none)) :
  uA Ψ (fun _=>False) (.seq (.tset [1,2,3,4] (.call "_law_web" (.nh (.var 0) (.nh (.int 10) .nj)))) q) Z [some (.nk (.lst ((is.map PyData.int).map T.d))),none,none,none,none,none,none,none,none]:=by
 simp?[↓ZA (md:=[.nr]) h4 rfl rfl];refine run_web fun ns es st g w=>?_;exact⟨rfl,_,rfl,k ns es st g w⟩
theorem lw_1(w:WebOk ns es st g)(k:uA Ψ (fun _=>False) q Z (lwS sc ns es st g (oH es st) none none none)) :
  uA Ψ (fun _=>False) (.seq (.set 5 (.lst (.nh (.bi .list (.nh (.var 2) .nj)) (.nh (.bi .list (.nh (.var 3) .nj)) .nj)))) q) Z (lwS sc ns es st g none none none none):=by
 have hz:sizeLine=16777216:=QZ;delta lwS at k ⊢;simp?[↓cA];refine⟨by omega,rfl,?_⟩;have e:(T.lst [.lst ((es.map pr).map T.d),.lst ((st.map PyData.str).map T.d)]).er=hdD es st:=by show PyData.list [.list (ersT ((es.map pr).map T.d)),.list (ersT ((st.map PyData.str).map T.d))]=_;rw[ersT_map,ersT_map];rfl
 rw[e];exact k
theorem lw_2(h5:Ψ.sp "apart_chains"=sp_apart)(w:WebOk ns es st g)(k:∀cs cut,Good es st g cs cut->cs.Pairwise leL->uA Ψ (fun _=>False) q Z (lwS sc ns es st g (oH es st) (oF cs cut) none none)) :
  uA Ψ (fun _=>False) (.seq (.own 6 (.call "apart_chains" (.nh (.idx (.var 5) (.int 0)) (.nh (.idx (.var 5) (.int 1)) (.nh (.var 4) .nj))))) q) Z (lwS sc ns es st g (oH es st) none none none):=by
 obtain⟨w1,w2,w3,w4,w5,w6,w7⟩:=id w;delta lwS oH hdD at k ⊢;simp?[↓at_0,↓at_1,↓ZA (md:=[]) h5 rfl rfl];refine run_apart w3 w5 (web_nm w) fun cs cut gd so=>?_;simp?[↓cA];exact k cs cut gd so
theorem lw_3(k:uA Ψ (fun _=>False) q Z (lwS sc ns es st g (oH es st) (oF cs cut) o7 o8)) :
  uA Ψ (fun _=>False) (.seq (.ife (.or (.not (.isi (.var 6) (.bty "tuple" "tuple"))) (.or (.cmp .NotEq (.bi .len (.nh (.var 6) .nj)) (.int 2)) (.not (.isi (.idx (.var 6) (.int 0)) (.bty "list" "list"))))) (.seq (.ret (.bl false)) .nil) .nil) q) Z (lwS sc ns es st g (oH es st) (oF cs cut) o7 o8):=by
 delta lwS oF fdT at k ⊢;simp?[↓T_or,↓T_isi,↓i_tt,↓n_lt,↓x_tT,↓Q_t,↓J_t,↓at_0,↓i_ll,QL,Qu,d_two];exact k
theorem lw_4b(h6:Ψ.sp "_law_chain"=sp_lch)(w:WebOk ns es st g){c:List Str}{o5 o6:Option Sl}(h:Chn es st g c g/\c.Nodup/\∀x∈c,x≠g)(k:Z.nx (lwS sc ns es st g o5 o6 (some (.nk (chT c))) o8)) :
  uA Ψ (fun _=>False) b_law_1 Z (lwS sc ns es st g o5 o6 (some (.nk (chT c))) o8):=by
 have hl:c.length<=10:=by obtain⟨w1,w2,w3,w4,w5,w6,w7⟩:=w;exact QX (nd_len h.2.1 fun x hx=>chn_mem h.1 w6 (fun e he=>(w4 e he).2) x (Qf _ hx)) w1
 delta lwS chT lsT at k ⊢;delta b_law_1;simp?[↓ZA (md:=[.nr]) h6 rfl rfl];refine run_lch ⟨web_nm w,by omega,h⟩ ?_;simp?[↓cA];exact k
theorem lw_4(h6:Ψ.sp "_law_chain"=sp_lch)(w:WebOk ns es st g)(gd:Good es st g cs cut)(k:uA Ψ (fun _=>False) q Z (lwS sc ns es st g (oH es st) (oF cs cut) none o8)) :
  uA Ψ (fun _=>False) (.seq (.for_ (.nm 7) .val (.nh (.idx (.var 6) (.int 0)) .nj) b_law_1) q) Z (lwS sc ns es st g (oH es st) (oF cs cut) none o8):=by
 delta lwS oF fdT at k ⊢;simp?[↓x_tT,↓Q_t,↓J_t,↓at_0,↓w_lT,vrs_idx];refine for_inv chT (fun l ρ=>∃o7,(∀c∈l,c∈cs)/\killS o7=none/\ρ=lwS sc ns es st g (oH es st) (some (.nk (fdT cs cut))) o7 o8) ?_ ?_ _ _ ⟨none,fun _ z=>z,rfl,rfl⟩;rintro ρ ⟨o7,_,ko,rfl⟩;refine⟨fun i hi=>?_,?_⟩;obtain rfl:=QJ.mp hi;exact⟨by decide,rfl⟩;show uA Ψ (fun _=>False) q Z (lwS sc ns es st g (oH es st) (oF cs cut) (killS o7) o8);rw[ko];exact k;rintro c l ρ N hN ⟨p7,m,_,rfl⟩;exact lw_4b (c:=c) h6 w (gd.chn c (m c QF)) (hN _ ⟨some (.nk (chT c)),fun d hd=>m d (QE _ hd),rfl,rfl⟩)
theorem lay_strs:∀{l:List Str},(∀s∈l,qY s=true)->Q9 (l.map PyData.str)=true/\qP (l.map PyData.str)=0
 |[],_=>by simp[Q9,qP]
 |x::l,h=>by obtain⟨i1,i2⟩:=lay_strs (l:=l) fun y hy=>h y (QE _ hy);rw[QN];simp only[Q9,qP,qw,wt,h x QF,i1,i2,QBC,true_and];rfl
theorem ok_lls{cs:List (List Str)}(h:∀c∈cs,∀s∈c,qY s=true):okD (.list (cs.map strsD)):=ok_lst fun x hx=>by obtain⟨c,hc,rfl⟩:=Qh.mp hx;obtain⟨i1,i2⟩:=lay_strs (h c hc);unfold strsD;simp only[qw,wt,i1,i2];decide
theorem lw_5(h7:Ψ.sp "_law_apart"=sp_lap)(h8:Ψ.sp "_law_texts"=sp_texts)(w:WebOk ns es st g)(gd:Good es st g cs cut)(so:cs.Pairwise leL)(k:uA Ψ (fun _=>False) q Z (lwS sc ns es st g (oH es st) (oF cs cut) o7 o8)) :
  uA Ψ (fun _=>False) (.seq (.ife (.or (.hx (.cmp .NotEq (.idx (.var 6) (.int 0)) (.bi .sorted (.nh (.idx (.var 6) (.int 0)) .nj)))) (.or (.not (.call "_law_apart" (.nh (.idx (.var 6) (.int 0)) .nj))) (.not (.call "_law_texts" (.nh (.idx (.var 6) (.int 1)) .nj))))) (.seq (.ret (.bl false)) .nil) .nil) q) Z (lwS sc ns es st g (oH es st) (oF cs cut) o7 o8):=by
 have hf:=gd.few;have gl:=gd.len;have nd:=apart_nd gd.apart fun c hc=>(gd.chn c hc).2.1;obtain⟨w1,w2,w3,w4,w5,w6,w7⟩:=w;have inn:∀c∈cs,∀x∈c,x∈ns:=fun c hc x hx=>chn_mem (gd.chn c hc).1 w6 (fun e he=>(w4 e he).2) x (Qf _ hx);have hl:cs.flatten.length<=10:=QX (nd_len nd fun x hx=>by obtain⟨c,hc,hx⟩:=QBj.mp hx;exact inn c hc x hx) w1;delta lwS oF fdT at k ⊢;simp?[↓T_or,↓T_hx];refine⟨6,_,cs,rfl,rfl,rfl,by omega,so,ok_lls fun c hc s hs=>ok_of (w2 s (inn c hc s hs)),?_⟩;simp?[↓T_or,↓x_tT,↓Q_t,↓J_t,↓at_0,↓at_1,↓ZA (md:=[.nk]) h7 rfl rfl];refine run_lap nd (by omega) ?_;simp?[↓T_or,↓x_tT,↓Q_t,↓J_t,↓at_0,↓at_1,↓ZA (md:=[.nr]) h8 rfl rfl];refine run_texts (by omega) ?_;simp?[↓cA];exact k
theorem lw_6(k:uA Ψ (fun _=>False) q Z (lwS sc ns es st g (oH es st) (oF cs cut) o7 (some (.nk (.d (.int (cs.length:Int))))))) :
  uA Ψ (fun _=>False) (.seq (.set 8 (.bi .len (.nh (.idx (.var 6) (.int 0)) .nj))) q) Z (lwS sc ns es st g (oH es st) (oF cs cut) o7 o8):=by
 delta lwS oF fdT at k ⊢;simp?[↓x_tT,↓Q_t,↓J_t,↓at_0,↓n_lo,QG];exact k
end
section
variable{Ψ:PEv}{Z:PEnds}{sc:Sl}{ns:List Str}{es:LSS}{st:List Str}{g:Str}{cs:List (List Str)}{cut:List Str}{o5 o7 o8:Option Sl}{q:PT}
section
variable{ts:List T}{o6:Option Sl}
theorem S_hs{E:XE}{s:PT}{ρ:kA}:uA Ψ E (.seq (.hs s) q) Z ρ=hsP s (fun ρ'=>uA Ψ E q Z ρ') ρ:=rfl
theorem lw_7(hl:∀c∈cs,c.length<=1000)(k:∀ts:List T,ts.length=cs.length->uA Ψ (fun _=>False) q Z (lwS sc ns es st g o5 (some (.own (.tup [.lst ts,.lst ((cut.map PyData.str).map T.d)]))) none o8)) :
  uA Ψ (fun _=>False) (.seq (.hs (.for_ (.nm 7) .val (.nh (.idx (.var 6) (.int 0)) .nj) b_law_2)) q) Z (lwS sc ns es st g o5 (oF cs cut) o7 o8):=by
 have hz:sizeLine=16777216:=QZ;rw[S_hs];exact .inl ⟨6,7,"more",_,cs,rfl,by decide,by show 7<9;decide,rfl,rfl,fun c hc=>by have:=hl c hc;omega,k _ (QG _)⟩
theorem lw_8(hl:ts.length<=1000)(k:∀ts:List T,uA Ψ (fun _=>False) q Z (lwS sc ns es st g o5 (some (.own (.tup [.lst ts,.lst ((cut.map PyData.str).map T.d)]))) o7 o8)) :
  uA Ψ (fun _=>False) (.seq (.hs (.expr (.mt .append (.idx (.var 6) (.int 0)) (.nh (.lst (.nh (.str "more") .nj)) .nj)))) q) Z (lwS sc ns es st g o5 (some (.own (.tup [.lst ts,.lst ((cut.map PyData.str).map T.d)]))) o7 o8):=by
 have hz:sizeLine=16777216:=QZ;rw[S_hs];exact .inr ⟨6,0,_,"more",_,_,ts,rfl,.inr ⟨rfl,rfl⟩,rfl,rfl,by omega,k _⟩
theorem lw_9(hl:cut.length<=1000)(k:∀o6,uA Ψ (fun _=>False) q Z (lwS sc ns es st g o5 o6 o7 o8)) :
  uA Ψ (fun _=>False) (.seq (.hs (.expr (.mt .append (.idx (.var 6) (.int 1)) (.nh (.str "more") .nj)))) q) Z (lwS sc ns es st g o5 (some (.own (.tup [.lst ts,.lst ((cut.map PyData.str).map T.d)]))) o7 o8):=by
 have hz:sizeLine=16777216:=QZ;rw[S_hs];exact .inr ⟨6,1,_,"more",_,_,_,rfl,.inl ⟨rfl,rfl⟩,rfl,rfl,by rw[QG,QG];omega,k _⟩
theorem ok_hd(h:NmOk es st):okD (hdD es st):=by
 obtain⟨a1,a2⟩:=lay_all (l:=es.map pr) fun x hx=>by obtain⟨e,he,rfl⟩:=Qh.mp hx;obtain⟨h1,h2⟩:=h.2 e he;simp only[pr,qw,wt,Q9,qP,h1,h2];decide
 obtain⟨b1,b2⟩:=lay_strs h.1;refine⟨?_,?_⟩;simp only[hdD,qw,Q9,a1,b1];decide;simp only[hdD,wt,qP,b2];omega
theorem lw_10(w:WebOk ns es st g)(k:uA Ψ (fun _=>False) q Z (lwS sc ns es st g (oH es st) o6 o7 o8)) :
  uA Ψ (fun _=>False) (.seq (.ife (.cmp .NotEq (.var 5) (.lst (.nh (.var 2) (.nh (.var 3) .nj)))) (.seq (.ret (.bl false)) .nil) .nil) q) Z (lwS sc ns es st g (oH es st) o6 o7 o8):=by
 have hz:sizeLine=16777216:=QZ;have ok:=ok_hd (web_nm w);delta lwS oH at k ⊢;simp?[↓cA];refine⟨by omega,ok,ok,?_⟩;rw[show Qw (T.d (hdD es st)).er (T.lst [.d (.list (es.map pr)),.d (.list (st.map PyData.str))]).er=true from QAl _ ok.1];exact k
theorem er_fd:(fdT cs cut).er=.tuple [.list (cs.map strsD),.list (cut.map PyData.str)]:=by show PyData.tuple [.list (ersT (cs.map chT)),.list (ersT ((cut.map PyData.str).map T.d))]=_;rw[chT_er,ersT_map]
theorem x_fd{R:T->Prop}{m:Bool}:idxV (fdT cs cut) true (.d (.int 0)) m R=R (.d (.list (cs.map strsD))):=by have:idxV (fdT cs cut) true (.d (.int 0)) m R=idxV (.d (fdT cs cut).er) false (.d (.int 0)) m R:=rfl;rw[this,er_fd,x_td,at_0];exact optP_s
theorem good_same{cs':List (List Str)}{cut':List Str}(a:Good es st g cs cut)(b:Good es st g cs' cut'):cs'.length=cs.length:=by have h1:=chains_le b.apart (fun c hc=>(b.chn c hc).1) a.led;have h2:=chains_le a.apart (fun c hc=>(a.chn c hc).1) b.led;have h3:=a.len;have h4:=b.len;omega
theorem lw_11(h5:Ψ.sp "apart_chains"=sp_apart){Q:T->List T->Prop}(w:WebOk ns es st g)(gd:Good es st g cs cut)(k:Q (.d (.bool true)) []) :
  uA Ψ (fun _=>False) (.seq (.ret (.cmp .Eq (.bi .len (.nh (.idx (.call "apart_chains" (.nh (.idx (.var 5) (.int 0)) (.nh (.idx (.var 5) (.int 1)) (.nh (.var 4) .nj)))) (.int 0)) .nj)) (.var 8))) .nil) (eZ Q) (lwS sc ns es st g (oH es st) o6 o7 (some (.nk (.d (.int (cs.length:Int)))))):=by
 obtain⟨w1,w2,w3,w4,w5,w6,w7⟩:=id w;delta lwS oH hdD;simp?[↓at_0,↓at_1,↓ZA (md:=[]) h5 rfl rfl];refine run_apart w3 w5 (web_nm w) fun cs' cut' gd' so=>?_;have e:=good_same gd gd';refine⟨rfl,?_⟩;show idxV (fdT cs' cut') true _ _ _;simp?[↓x_fd,QG,e];exact k
end
end
theorem ok_law{Ψ:PEv}(h4:Ψ.sp "_law_web"=sp_web)(h5:Ψ.sp "apart_chains"=sp_apart)(h6:Ψ.sp "_law_chain"=sp_lch)(h7:Ψ.sp "_law_apart"=sp_lap)(h8:Ψ.sp "_law_texts"=sp_texts)(ds Q E)(h:pLaw.run ds Q E):ds.length=ps_law.length/\uA Ψ (fun _=>False) b_law (endsP pLaw ps_law.length Q) (nA N_law pLaw.md ds):=by obtain⟨is,hl,hb,rfl,q⟩:=h;refine begin_ok [some (.nk (.lst ((is.map PyData.int).map T.d))),none,none,none,none,none,none,none,none] rfl rfl rfl ?_;refine lw_0 h4 fun ns es st g w=>lw_1 w (lw_2 h5 w fun cs cut gd so=>lw_3 (lw_4 h6 w gd (lw_5 h7 h8 w gd so (lw_6 (lw_7 (fun c hc=>?_) fun ts ht=>lw_8 ?_ fun ts=>lw_9 ?_ fun o6=>lw_10 w (lw_11 h5 w gd q))))));obtain⟨w1,w2,w3,w4,w5,w6,w7⟩:=w;have h:=gd.chn c hc;exact QX (QX (nd_len h.2.1 fun x hx=>chn_mem h.1 w6 (fun e he=>(w4 e he).2) x (Qf _ hx)) w1) (by decide);have:=gd.len;have:=gd.few;omega;have:=gd.few;omega
end L2.L3.K11
namespace L2.L3
open PySem PySem.Spec PyProof.Rows
section
variable{K:QA}{x:Str}
def frA(as:List Addr)(h:Heap):QA:=as.filterMap fun a=>(h.get? a).map fun o=>(a,o)
theorem frA_in{h:Heap}:∀(as:List Addr),(frA as h).In h
 |[],a,o,e=>nomatch e
 |b::as,a,o,e=>by
  unfold frA at e;rw[WF]at e;cases c:h.get? b with
  |none=>rw[c]at e;exact frA_in as a o e
  |some o' =>
   rw[c]at e;have e:List.lookup a ((b,o')::frA as h)=some o:=e;rw[WC]at e;cases d:a==b with
   |true=>rw[d]at e;cases e;rw[beq_iff_eq.mp d];exact c
   |false=>rw[d]at e;exact frA_in as a o e
noncomputable abbrev FnV:=(Str×Str×Arguments×FuncBody×Scope)×(Addr×List (Str×Addr)×Value×Addr)×Bool
def fnV(fd:FuncData)(b:Bool):FnV:=((fd.name,fd.qualname,fd.params,fd.body,fd.scope),(fd.globals,fd.closure,fd.defaults,fd.builtins),b)
def fnSeen(K:QA)(x:Str):Option FnV:=match Q3 K mainGlobals x with
 |some (some (.ref f))=>(match K.lookup f with
  |some ⟨_,_,.func fd,_⟩=>some (fnV fd (Wx K fd.code x&&wk K (.ref f)))
  |_=>none)
 |_=>none
def fnDue(x:Str)(st:Stmt):Option FnV:=some (fnV (wK x x (defArgs st) (defBody st) (LA st) .none .none .none .none none .none .none) true)
theorem seen_def{st:Stmt}(h:fnSeen K x=fnDue x st):DefAt K x st:=by unfold fnSeen at h;split at h;rename_i f hf;split at h;rename_i oc od fd osl hl;unfold fnDue at h;injection h with h;obtain⟨a1,a2,a3,a4,a5,a6,a7,a8,a9,a10,a11,a12,a13,a14,a15⟩:=fd;unfold fnV at h;injection h with h1 h2;injection h2 with h2 h3;injection h1 with b1 h1;injection h1 with b2 h1;injection h1 with b3 h1;injection h1 with b4 b5;injection h2 with c1 h2;injection h2 with c2 h2;injection h2 with c3 c4;obtain⟨d1,d2⟩:=Wi.mp h3;simp only at b1 b2 b3 b4 b5 c1 c2 c3 c4 d1;subst b1 b2 b3 b4 b5 c1 c2 c3 c4;exact⟨f,_,hf,fun_mk hl d1 d2⟩;cases h;cases h
def tupSeen(K:QA)(x:Str):Option (List (Option V)):=match Q3 K mainGlobals x with
 |some (some (.ref f))=>(match K.lookup f with
  |some ⟨.type t,_,.seq its _,_⟩=>if t="tuple" then some (its.toList.map absV) else none
  |_=>none)
 |_=>none
def valSeen(K:QA)(x:Str):Option V:=match Q3 K mainGlobals x with
 |some (some u)=>absV u
 |_=>none
def noSeen(K:QA)(x:Str):Bool:=match Q3 K mainGlobals x with
 |some none=>true
 |_=>false
theorem seen_no(h:noSeen K x=true):Q3 K mainGlobals x=some none:=by unfold noSeen at h;split at h;assumption;cases h
theorem seen_int{i:Int}(h:valSeen K x=some (.int i)):ValAt K x (.int i):=by unfold valSeen at h;split at h;rename_i u hu;exact⟨u,_,hu,h,fun _=>.int i⟩;cases h
theorem seen_strs{xs:List Str}(h:tupSeen K x=some (xs.map fun y=>some (.str y)))(hz:xs.length<=sizeLine):ValAt K x (.tuple (xs.map PyData.str)):=by unfold tupSeen at h;split at h;rename_i f hf;split at h;rename_i t od its n osl hl;split at h;rename_i et;subst et;injection h with h;exact val_strs (its:=its.toList) hf (by simpa using hl) h hz;cases h;cases h;cases h
theorem walk_seen{l:PySem.W.OpenLaw}{k:Nat}{q:Program}{loose:List Str}{XP:(Str->Option Value)->Heap->Prop}{YP:World->Heap->Prop}{d:DefRec}{Fs:QA->Prop}
  (hn:l.most=some 63) (hdf:d.params.defaults=[]) (hr:Room k callerA) (hY:∀(w:World) (h:Heap),YP w h->∃K:QA,K.In h/\Fs K)
  (F:∀(w:World) (mg:Str->Option Value) (fa:Addr) (h:Heap) (K:QA),K.In h->Fs K->h.Ns mainGlobals mg->mg d.name=some (.ref fa) ->
   ∃fd:FuncData,(∀(s:Shared) (u:Value),BindsTo s fd ⟨[u],[]⟩ [(x,u)]) /\
    ∀base:Heap,K.In base->base.Ns mainGlobals mg->FnOk l.prog w K mg base CX0 k fa fd [x] (lift K pLaw)) :
  PySem.W.WalkO q loose XP YP l.row.toRowW d [] (fun f vs=>PySem.call f vs):=by
 intro w s₀ s₁ mg mb G Y fa o pm cd doc dV kV ho hd hcd hD hmg hg args vals as hpre hlay hrd hwl hlo;obtain rfl:dV=.none:=PySem.W.Dflts.none hD hdf;obtain rfl:kV=.none:=PySem.W.Dflts.noKw hD;obtain⟨a,vs,ns,rfl,rfl,hobj,hints,hlen⟩:=Att.script_of hn hpre hwl;obtain⟨K,KX,fs⟩:=hY w _ Y;obtain⟨fd,hb,hF⟩:=F w mg fa _ K KX fs G.T.g hmg;refine PySem.W.enter_call (Wu (law_call KX G.T.g G.T.b G.T.builtins G.T.nolimit hg hobj hints (QX hlen (by decide)) hr hF hb (fun H hO hS=>law_sp _ H a ns hlen (bits_of hlay) hS) fun H e s'=>fun z=>z) fun r s' hq=>?_);obtain⟨rfl,h2,h3,h4⟩:=hq;exact⟨.inl ⟨.bool true,.bool true,[],rfl,fun _=>rfl,.bool true,Att.post_true l _,fun _=>⟨List.Pairwise.nil,fun _ hm=>(nomatch hm)⟩⟩,h2,h3,h4⟩
end
end L2.L3
namespace L2.L3.K11
open PySem PySem.Spec PyProof.Rows L2 L2.L3
def spT:List (Str×PSp):=[("_law_fold",sp_fold),("_law_mixed",sp_mixed),("_law_names",sp_names),("_law_web",sp_web),("add_way",sp_addw),("add_name",sp_addn),("rooms_of",sp_rooms),("points_reached",sp_reach),("lay_chain",sp_lay),("name_behind",sp_behind),("chain_from",sp_chain),("full_names",sp_full),("apart_chains",sp_apart),("_law_texts",sp_texts),("_law_chain",sp_lch),("_law_apart",sp_lap),("law",pLaw)]
def vaT:List (Str×D):=[("BEGIN",.tuple ((["","begin"]:List Str).map PyData.str)),("WIDE",.int 2)]
def Ψ:PEv:=tblEv spT vaT
theorem e_l_fold:Ψ.sp "_law_fold"=sp_fold:=by kernel_rfl
theorem e_l_mixed:Ψ.sp "_law_mixed"=sp_mixed:=by kernel_rfl
theorem e_l_names:Ψ.sp "_law_names"=sp_names:=by kernel_rfl
theorem e_l_web:Ψ.sp "_law_web"=sp_web:=by kernel_rfl
theorem e_add_way:Ψ.sp "add_way"=sp_addw:=by kernel_rfl
theorem e_add_name:Ψ.sp "add_name"=sp_addn:=by kernel_rfl
theorem e_rooms_of:Ψ.sp "rooms_of"=sp_rooms:=by kernel_rfl
theorem e_points_reached:Ψ.sp "points_reached"=sp_reach:=by kernel_rfl
theorem e_lay_chain:Ψ.sp "lay_chain"=sp_lay:=by kernel_rfl
theorem e_name_behind:Ψ.sp "name_behind"=sp_behind:=by kernel_rfl
theorem e_chain_from:Ψ.sp "chain_from"=sp_chain:=by kernel_rfl
theorem e_full_names:Ψ.sp "full_names"=sp_full:=by kernel_rfl
theorem e_apart_chains:Ψ.sp "apart_chains"=sp_apart:=by kernel_rfl
theorem e_l_texts:Ψ.sp "_law_texts"=sp_texts:=by kernel_rfl
theorem e_l_chain:Ψ.sp "_law_chain"=sp_lch:=by kernel_rfl
theorem e_l_apart:Ψ.sp "_law_apart"=sp_lap:=by kernel_rfl
theorem e_law:Ψ.sp "law"=pLaw:=by kernel_rfl
theorem v_BEGIN:Ψ.va "BEGIN"=some (pr sA):=by kernel_rfl
theorem v_WIDE:Ψ.va "WIDE"=some (.int 2):=by kernel_rfl
theorem len0{α:Type}{us:List α}(h:us.length=0):us=[]:=QAO.mp h
theorem len1{α:Type}{us:List α}(h:us.length=1):∃a0,us=[a0]:=by
 cases us with
 |nil=>cases h
 |cons x r=>obtain rfl:=len0 (QAf h);exact⟨x,rfl⟩
theorem len2{α:Type}{us:List α}(h:us.length=2):∃a0 a1,us=[a0,a1]:=by
 cases us with
 |nil=>cases h
 |cons x r=>obtain⟨b0,rfl⟩:=len1 (QAf h);exact⟨x,b0,rfl⟩
theorem len3{α:Type}{us:List α}(h:us.length=3):∃a0 a1 a2,us=[a0,a1,a2]:=by
 cases us with
 |nil=>cases h
 |cons x r=>obtain⟨b0,b1,rfl⟩:=len2 (QAf h);exact⟨x,b0,b1,rfl⟩
theorem len4{α:Type}{us:List α}(h:us.length=4):∃a0 a1 a2 a3,us=[a0,a1,a2,a3]:=by
 cases us with
 |nil=>cases h
 |cons x r=>obtain⟨b0,b1,b2,rfl⟩:=len3 (QAf h);exact⟨x,b0,b1,b2,rfl⟩
theorem all{P:Program}{w:World}{K:QA}{h:Heap}{mg:Str->Option Value}{fa:Addr}(X:K.In h)(G:h.Ns mainGlobals mg)(hfa:mg "law"=some (.ref fa))(d_l_fold:DefAt K "_law_fold" (top 16))(d_l_mixed:DefAt K "_law_mixed" (top 14))(d_l_names:DefAt K "_law_names" (top 15))(d_l_web:DefAt K "_law_web" (top 17))(d_add_way:DefAt K "add_way" (top 6))(d_add_name:DefAt K "add_name" (top 5))(d_rooms_of:DefAt K "rooms_of" (top 4))(d_points_reached:DefAt K "points_reached" (top 7))(d_lay_chain:DefAt K "lay_chain" (top 8))(d_name_behind:DefAt K "name_behind" (top 10))(d_chain_from:DefAt K "chain_from" (top 9))(d_full_names:DefAt K "full_names" (top 11))(d_apart_chains:DefAt K "apart_chains" (top 3))(d_l_texts:DefAt K "_law_texts" (top 18))(d_l_chain:DefAt K "_law_chain" (top 19))(d_l_apart:DefAt K "_law_apart" (top 20))(d_law:DefAt K "law" (top 21))(w_BEGIN:ValAt K "BEGIN" (.tuple ((["","begin"]:List Str).map PyData.str)))(w_WIDE:ValAt K "WIDE" (.int 2))(z_all:Q3 K mainGlobals "all"=some none)(z_enumerate:Q3 K mainGlobals "enumerate"=some none)(z_isinstance:Q3 K mainGlobals "isinstance"=some none)(z_len:Q3 K mainGlobals "len"=some none)(z_list:Q3 K mainGlobals "list"=some none)(z_range:Q3 K mainGlobals "range"=some none)(z_set:Q3 K mainGlobals "set"=some none)(z_sorted:Q3 K mainGlobals "sorted"=some none)(z_str:Q3 K mainGlobals "str"=some none)(z_tuple:Q3 K mainGlobals "tuple"=some none) :
  ∃fd:FuncData,(∀(s:Shared) (u:Value),BindsTo s fd ⟨[u],[]⟩ [("_law_script",u)])/\∀base:Heap,K.In base->base.Ns mainGlobals mg->FnOk P w K mg base CX0 17 fa fd ["_law_script"] (lift K pLaw):=by
 have VT:∀p∈vaT,ValAt K p.1 p.2:=by intro p hp;simp only[vaT,QK,Q2,or_false]at hp;rcases hp with rfl|rfl;exact w_BEGIN;exact w_WIDE
 have NT:∀y∈(["all","enumerate","isinstance","len","list","range","set","sorted","str","tuple"]:List Str),Q3 K mainGlobals y=some none:=by intro y hy;simp only[QK,Q2,or_false]at hy;rcases hy with rfl|rfl|rfl|rfl|rfl|rfl|rfl|rfl|rfl|rfl;exact z_all;exact z_enumerate;exact z_isinstance;exact z_len;exact z_list;exact z_range;exact z_set;exact z_sorted;exact z_str;exact z_tuple
 refine law_at X G d_law rfl hfa e_law (fun _ _ _ _ _ _ us hl=>by obtain⟨_,rfl⟩:=len1 hl;rfl) fun base kb nb f fd F hm=>?_;have H_l_fold:Have P w K mg base Ψ 1 "_law_fold":=have_at X G d_l_fold cb_l_fold (by kernel_rfl) (fun _ _ _ _ _ _ us hl=>by obtain⟨_,rfl⟩:=len1 hl;rfl) (fun g hg=>by cases hg) (vals_ok X G VT (by kernel_rfl)) (fun y hy=>NT y (sub_of (by kernel_rfl) y hy)) (by rw[e_l_fold];exact ok_fold );have H_l_mixed:Have P w K mg base Ψ 2 "_law_mixed":=have_at X G d_l_mixed cb_l_mixed (by kernel_rfl) (fun _ _ _ _ _ _ us hl=>by obtain⟨_,_,rfl⟩:=len2 hl;rfl) (fun g hg=>by cases hg) (vals_ok X G VT (by kernel_rfl)) (fun y hy=>NT y (sub_of (by kernel_rfl) y hy)) (by rw[e_l_mixed];exact ok_mixed );have H_l_names:Have P w K mg base Ψ 3 "_law_names":=have_at X G d_l_names cb_l_names (by kernel_rfl) (fun _ _ _ _ _ _ us hl=>by obtain⟨_,_,rfl⟩:=len2 hl;rfl) (fun g hg=>by simp only[n_l_names,QK,Q2,or_false]at hg;rcases hg with rfl<;>first|exact H_l_mixed.mono (by decide)) (vals_ok X G VT (by kernel_rfl)) (fun y hy=>NT y (sub_of (by kernel_rfl) y hy)) (by rw[e_l_names];exact ok_names e_l_mixed);have H_l_web:Have P w K mg base Ψ 4 "_law_web":=have_at X G d_l_web cb_l_web (by kernel_rfl) (fun _ _ _ _ _ _ us hl=>by obtain⟨_,_,rfl⟩:=len2 hl;rfl) (fun g hg=>by simp only[n_l_web,QK,Q2,or_false]at hg;rcases hg with rfl|rfl|rfl<;>first|exact H_l_fold.mono (by decide)|exact H_l_mixed.mono (by decide)|exact H_l_names.mono (by decide)) (vals_ok X G VT (by kernel_rfl)) (fun y hy=>NT y (sub_of (by kernel_rfl) y hy)) (by rw[e_l_web];exact ok_web e_l_fold e_l_mixed e_l_names);have H_add_way:Have P w K mg base Ψ 5 "add_way":=have_at X G d_add_way cb_add_way (by kernel_rfl) (fun _ _ _ _ _ _ us hl=>by obtain⟨_,_,_,_,rfl⟩:=len4 hl;rfl) (fun g hg=>by cases hg) (vals_ok X G VT (by kernel_rfl)) (fun y hy=>NT y (sub_of (by kernel_rfl) y hy)) (by rw[e_add_way];exact ok_addw );have H_add_name:Have P w K mg base Ψ 6 "add_name":=have_at X G d_add_name cb_add_name (by kernel_rfl) (fun _ _ _ _ _ _ us hl=>by obtain⟨_,_,rfl⟩:=len2 hl;rfl) (fun g hg=>by simp only[n_add_name,QK,Q2,or_false]at hg;rcases hg with rfl<;>first|exact H_add_way.mono (by decide)) (vals_ok X G VT (by kernel_rfl)) (fun y hy=>NT y (sub_of (by kernel_rfl) y hy)) (by rw[e_add_name];exact ok_addn e_add_way);have H_rooms_of:Have P w K mg base Ψ 7 "rooms_of":=have_at X G d_rooms_of cb_rooms_of (by kernel_rfl) (fun _ _ _ _ _ _ us hl=>by obtain⟨_,_,_,rfl⟩:=len3 hl;rfl) (fun g hg=>by simp only[n_rooms_of,QK,Q2,or_false]at hg;rcases hg with rfl|rfl<;>first|exact H_add_name.mono (by decide)|exact H_add_way.mono (by decide)) (vals_ok X G VT (by kernel_rfl)) (fun y hy=>NT y (sub_of (by kernel_rfl) y hy)) (by rw[e_rooms_of];exact ok_roomsD e_add_name e_add_way v_BEGIN v_WIDE);have H_points_reached:Have P w K mg base Ψ 8 "points_reached":=have_at X G d_points_reached cb_points_reached (by kernel_rfl) (fun _ _ _ _ _ _ us hl=>by obtain⟨_,rfl⟩:=len1 hl;rfl) (fun g hg=>by cases hg) (vals_ok X G VT (by kernel_rfl)) (fun y hy=>NT y (sub_of (by kernel_rfl) y hy)) (by rw[e_points_reached];exact ok_reach v_BEGIN);have H_lay_chain:Have P w K mg base Ψ 9 "lay_chain":=have_at X G d_lay_chain cb_lay_chain (by kernel_rfl) (fun _ _ _ _ _ _ us hl=>by obtain⟨_,_,_,rfl⟩:=len3 hl;rfl) (fun g hg=>by cases hg) (vals_ok X G VT (by kernel_rfl)) (fun y hy=>NT y (sub_of (by kernel_rfl) y hy)) (by rw[e_lay_chain];exact ok_lay v_BEGIN);have H_name_behind:Have P w K mg base Ψ 10 "name_behind":=have_at X G d_name_behind cb_name_behind (by kernel_rfl) (fun _ _ _ _ _ _ us hl=>by obtain⟨_,_,rfl⟩:=len2 hl;rfl) (fun g hg=>by cases hg) (vals_ok X G VT (by kernel_rfl)) (fun y hy=>NT y (sub_of (by kernel_rfl) y hy)) (by rw[e_name_behind];exact ok_behind );have H_chain_from:Have P w K mg base Ψ 11 "chain_from":=have_at X G d_chain_from cb_chain_from (by kernel_rfl) (fun _ _ _ _ _ _ us hl=>by obtain⟨_,_,_,rfl⟩:=len3 hl;rfl) (fun g hg=>by simp only[n_chain_from,QK,Q2,or_false]at hg;rcases hg with rfl<;>first|exact H_name_behind.mono (by decide)) (vals_ok X G VT (by kernel_rfl)) (fun y hy=>NT y (sub_of (by kernel_rfl) y hy)) (by rw[e_chain_from];exact ok_chain e_name_behind);have H_full_names:Have P w K mg base Ψ 12 "full_names":=have_at X G d_full_names cb_full_names (by kernel_rfl) (fun _ _ _ _ _ _ us hl=>by obtain⟨_,rfl⟩:=len1 hl;rfl) (fun g hg=>by cases hg) (vals_ok X G VT (by kernel_rfl)) (fun y hy=>NT y (sub_of (by kernel_rfl) y hy)) (by rw[e_full_names];exact ok_full );have H_apart_chains:Have P w K mg base Ψ 13 "apart_chains":=have_at X G d_apart_chains cb_apart_chains (by kernel_rfl) (fun _ _ _ _ _ _ us hl=>by obtain⟨_,_,_,rfl⟩:=len3 hl;rfl) (fun g hg=>by simp only[n_apart_chains,QK,Q2,or_false]at hg;rcases hg with rfl|rfl|rfl|rfl|rfl<;>first|exact H_rooms_of.mono (by decide)|exact H_points_reached.mono (by decide)|exact H_lay_chain.mono (by decide)|exact H_chain_from.mono (by decide)|exact H_full_names.mono (by decide)) (vals_ok X G VT (by kernel_rfl)) (fun y hy=>NT y (sub_of (by kernel_rfl) y hy)) (by rw[e_apart_chains];exact ok_apart e_rooms_of e_points_reached e_lay_chain e_chain_from e_full_names v_BEGIN);have H_l_texts:Have P w K mg base Ψ 14 "_law_texts":=have_at X G d_l_texts cb_l_texts (by kernel_rfl) (fun _ _ _ _ _ _ us hl=>by obtain⟨_,rfl⟩:=len1 hl;rfl) (fun g hg=>by cases hg) (vals_ok X G VT (by kernel_rfl)) (fun y hy=>NT y (sub_of (by kernel_rfl) y hy)) (by rw[e_l_texts];exact ok_texts );have H_l_chain:Have P w K mg base Ψ 15 "_law_chain":=have_at X G d_l_chain cb_l_chain (by kernel_rfl) (fun _ _ _ _ _ _ us hl=>by obtain⟨_,_,_,_,rfl⟩:=len4 hl;rfl) (fun g hg=>by simp only[n_l_chain,QK,Q2,or_false]at hg;rcases hg with rfl<;>first|exact H_l_texts.mono (by decide)) (vals_ok X G VT (by kernel_rfl)) (fun y hy=>NT y (sub_of (by kernel_rfl) y hy)) (by rw[e_l_chain];exact ok_lch e_l_texts);have H_l_apart:Have P w K mg base Ψ 16 "_law_apart":=have_at X G d_l_apart cb_l_apart (by kernel_rfl) (fun _ _ _ _ _ _ us hl=>by obtain⟨_,rfl⟩:=len1 hl;rfl) (fun g hg=>by cases hg) (vals_ok X G VT (by kernel_rfl)) (fun y hy=>NT y (sub_of (by kernel_rfl) y hy)) (by rw[e_l_apart];exact ok_lap );exact fn_def (R:=Ψ.sp "law") F cb_law (by kernel_rfl) (fun g hg=>by simp only[n_law,QK,Q2,or_false]at hg;rcases hg with rfl|rfl|rfl|rfl|rfl<;>first|exact H_l_web.mono (by decide)|exact H_apart_chains.mono (by decide)|exact H_l_chain.mono (by decide)|exact H_l_texts.mono (by decide)|exact H_l_apart.mono (by decide)) (vals_ok X G VT (by kernel_rfl)) (fun y hy=>QBA X G (NT y (sub_of (by kernel_rfl) y hy))) (by rw[e_law];exact ok_law e_l_web e_apart_chains e_l_chain e_l_apart e_l_texts)
def qv:Program:={ qR with main:={ qR.main with body:=[top 1,top 2,top 3,top 4,top 5,top 6,top 7,top 8,top 9,top 10,top 11,top 13,top 14,top 15,top 16,top 17,top 18,top 19,top 20,top 21] } }
noncomputable abbrev SeenT:=List (Option FnV)×List (Option (List (Option V)))×List (Option V)×List Bool
def seen(K:QA):SeenT:=([fnSeen K "_law_fold",fnSeen K "_law_mixed",fnSeen K "_law_names",fnSeen K "_law_web",fnSeen K "add_way",fnSeen K "add_name",fnSeen K "rooms_of",fnSeen K "points_reached",fnSeen K "lay_chain",fnSeen K "name_behind",fnSeen K "chain_from",fnSeen K "full_names",fnSeen K "apart_chains",fnSeen K "_law_texts",fnSeen K "_law_chain",fnSeen K "_law_apart",fnSeen K "law"],[tupSeen K "BEGIN"],[valSeen K "WIDE"],[noSeen K "all",noSeen K "enumerate",noSeen K "isinstance",noSeen K "len",noSeen K "list",noSeen K "range",noSeen K "set",noSeen K "sorted",noSeen K "str",noSeen K "tuple"])
def due:SeenT:=([fnDue "_law_fold" (top 16),fnDue "_law_mixed" (top 14),fnDue "_law_names" (top 15),fnDue "_law_web" (top 17),fnDue "add_way" (top 6),fnDue "add_name" (top 5),fnDue "rooms_of" (top 4),fnDue "points_reached" (top 7),fnDue "lay_chain" (top 8),fnDue "name_behind" (top 10),fnDue "chain_from" (top 9),fnDue "full_names" (top 11),fnDue "apart_chains" (top 3),fnDue "_law_texts" (top 18),fnDue "_law_chain" (top 19),fnDue "_law_apart" (top 20),fnDue "law" (top 21)],[some ((["","begin"]:List Str).map fun y=>some (.str y))],[some (.int 2)],[true,true,true,true,true,true,true,true,true,true])
def hk:PySem.W.Hook:=⟨SeenT,fun s=>seen (frA (Qz 400) s.heap),fun _=>due,fun _ h=>∃K:QA,K.In h/\seen K=due,fun _ _ e=>⟨_,frA_in _,e⟩,fun _ _ _ ⟨K,X,e⟩ k=>⟨K,X.keeps k,e⟩⟩
end L2.L3.K11
open PySem PySem.W PyProof.Rows
set_option maxRecDepth 100000 in
set_option maxHeartbeats 0 in
theorem PySem.Challenge.cw_quoteweave_k11_chains_walked_holds : PySem.Challenge.rw_quoteweave_k11_chains_walked.Holds := by
 refine holds_law (by kernel_rfl) fun said=>?_;refine holds_open (q:=L2.L3.K11.qv) (loose:=[]) (Xt:=fun s=>xlAt L2.L3.K11.qv [] s&&recOk (RowW.records qS.row.toRowW) s) (XP:=XL L2.L3.K11.qv []) (Yf:=Hook.obs L2.L3.K11.hk) (Ya:=Hook.val L2.L3.K11.hk) (YP:=Hook.says L2.L3.K11.hk) (N:=1314) ?hl (Hook.of L2.L3.K11.hk) (Hook.keeps L2.L3.K11.hk) (fun s e=>xl_of s (Wi.mp e).1) XL.keeps (by rfl) (by rfl) (by rfl) (fun s e=>recFacts_of (Wi.mp e).2) (by rfl) (by first|assumption|decide +kernel) (by decide +kernel) ⟨rfl,rfl,rfl,rfl,rfl,by decide +kernel⟩ ?hw ?hc
 case hl=>intro w;kernel_rfl
 case hw=>w_witness2
 case hc =>
  refine L2.L3.walk_seen (l:=qS) (k:=17) (x:="_law_script") (Fs:=fun K=>L2.L3.K11.seen K=L2.L3.K11.due) rfl rfl ⟨rfl,by decide,by decide⟩ (fun w h Y=>Y) ?F
  case F =>
  intro w mg fa h K KX fs G hmg;injection fs with f1 fs;injection fs with f2 fs;injection fs with f3 f4
  injection f1 with d0 f1
  injection f1 with d1 f1
  injection f1 with d2 f1
  injection f1 with d3 f1
  injection f1 with d4 f1
  injection f1 with d5 f1
  injection f1 with d6 f1
  injection f1 with d7 f1
  injection f1 with d8 f1
  injection f1 with d9 f1
  injection f1 with d10 f1
  injection f1 with d11 f1
  injection f1 with d12 f1
  injection f1 with d13 f1
  injection f1 with d14 f1
  injection f1 with d15 f1
  injection f1 with d16 f1
  injection f2 with t0 f2
  injection f3 with i0 f3
  injection f4 with z0 f4
  injection f4 with z1 f4
  injection f4 with z2 f4
  injection f4 with z3 f4
  injection f4 with z4 f4
  injection f4 with z5 f4
  injection f4 with z6 f4
  injection f4 with z7 f4
  injection f4 with z8 f4
  injection f4 with z9 f4
  exact L2.L3.K11.all KX G hmg (L2.L3.seen_def d0) (L2.L3.seen_def d1) (L2.L3.seen_def d2) (L2.L3.seen_def d3) (L2.L3.seen_def d4) (L2.L3.seen_def d5) (L2.L3.seen_def d6) (L2.L3.seen_def d7) (L2.L3.seen_def d8) (L2.L3.seen_def d9) (L2.L3.seen_def d10) (L2.L3.seen_def d11) (L2.L3.seen_def d12) (L2.L3.seen_def d13) (L2.L3.seen_def d14) (L2.L3.seen_def d15) (L2.L3.seen_def d16) (L2.L3.seen_strs (xs:=["","begin"]) t0 (by decide)) (L2.L3.seen_int i0) (L2.L3.seen_no z0) (L2.L3.seen_no z1) (L2.L3.seen_no z2) (L2.L3.seen_no z3) (L2.L3.seen_no z4) (L2.L3.seen_no z5) (L2.L3.seen_no z6) (L2.L3.seen_no z7) (L2.L3.seen_no z8) (L2.L3.seen_no z9)
