import PyProof.Rows.All
import Wide.All
import OpenK.AllK
import Wide.FinOn
import Lean
import PyProof.EqAt
import PyProof.EqKinds
import PyProof.TupleCall
import PySem.Challenge.RW_quoteweave_k23_seers_alone
noncomputable section
set_option Elab.async false
set_option linter.all false
set_option genInjectivity false
set_option genSizeOf false
set_option maxRecDepth 100000
set_option maxHeartbeats 4000000
open PySem renaming wpAny_bind->QA,wpAny_pure->QJ,sizeLine_eq->QV,wpAny_newObj_type->Qr,wpAny_call_entry->Qz,wpAny_callSpecial?_slot->qB,wpAny_loadPart'->qG,mem_of_lookup->qQ,wpAny_holding->qS,wpAny_setField->qw,wpAny_typeNameOfWhole_itemiter->wB,wpAny_typeNameOfWhole_keyiter->wC,wpAny_dictEntries->wI,codeAny_builtin->wM,wpAny_mono->wN,wpAny_Call_Name_kw->wO,wpAny_setField_rec->wQ,wpAny_field->wT,wpAny_truthy_bool->wZ,wpAny_passesOwn->wa,wpAny_setState_of->wj,wpAny_askSetting->wv,Spec->ww,tupleKind_room_in1->WA,wpAny_dictEpoch->WE,wpAny_fieldsOf->WN,wpAny_of_eq->WV,wpAny_attempt->WZ,plainId_quiet->Wa,wpAny_isOneOf_itemiter->Wh,wpAny_pyIter_list->Wk,wpAny_pyIter_slot->Wm,wpAny_notOrdered_dict->Wt,wpAny_isInstance->W6,wpAny_execs_nil->QAE,wpAny_setEntries_of->QAG,codeAny_mono->QAP,wpAny_typeOf->QAQ,call_meets->QAZ,wpAny_rule->QAb,wpAny_Call_method0_late->QAj,wpAny_handled->QAl,wpAny_isOneOf_keyiter->QAy,builtinLookup_eq_fast->QA1,wpAny_seqItems->QA9,wpAny_newTuple->QBA,isSubtype_type->QBB,evalArgs_none->QBD,wpAny_setItem_pairs->QBE,wpAny_throw->QBF,wpAny_standAt->QBO,wpAny_pyIter_tuple->QBQ,wpAny_newList->QBR,wpAny_assign_Name->QBX,slot_list_getitem->QBY,wpAny_pyIter_enum->QBd,wpAny_storeSet_of->QBh,concat_meets->QBl,seqIndex_neg->QBm,wpAny_execs_cons->QBq,noFill_tuple_add->QBr,wpAny_pyIter_zip->QBv,seqIndex_of->QBz,storedH_new->QB2,wpAny_Name->QB7,typeIs_str->QB8,typeIs_int->QB9,Fin->QCF
open Bool renaming false_ne_true->QC,and_eq_true->Qe,not_eq_true'->Q7,false_eq_true->qT,eq_iff_iff->qz,or_eq_true->WG,not_false->QA7,true_and->QBJ,false_or->QBK
open List renaming length_map->QD,mem_cons_self->QE,mem_cons_of_mem->QG,mem_singleton->QI,mem_cons->QK,length_cons->QL,length_append->QM,map_cons->QN,size_toArray->QU,mem_map->QW,mem_append_right->QX,map_map->QY,map_append->Qa,getElem?_map->Qc,mem_append->Qf,getElem?_eq_some_iff->Qi,mem_filter->Qj,nodup_cons->Qk,not_mem_nil->Ql,nil_append->Qn,mem_append_left->Qp,isEmpty_iff->Qt,replicate->Qu,nodup_nil->Qw,getElem?_eq_getElem->Qx,length_singleton->Q1,contains_iff_mem->Q4,range->Q5,length_nil->qA,filter_sublist->qC,mem_of_getElem?->qD,all_eq_true->qF,getElem?_eq_none->qH,getElem?_append_right->qI,getElem?_set_ne->qN,map_nil->qR,getElem?_set_self->qU,getElem?_append_left->qV,length_replicate->qZ,nodup_append->qb,length_range->qe,length->qg,length_eq_zero_iff->qi,replicate_succ->qq,append_assoc->qr,map_congr_left->qu,all_cons->qv,length_set->wA,getElem?_set->wJ,append_nil->wK,find?_cons->wL,flatten_cons->we,ext_getElem?->wg,toArray->wn,getElem?_cons_succ->wo,getElem?_replicate->wr,drop_eq_nil_of_le->w9,zip_cons_cons->WB,foldl_cons->WC,length_filter_le->WH,any_cons->WI,perm_ext_iff_of_nodup->WK,drop_eq_getElem_cons->WO,length_take->WQ,filter_cons->WS,set->WT,filterMap_cons->WU,pairwise_cons->Wb,length_pos_of_mem->Wi,reverse_cons->Wj,mem_range->Wo,mem_iff_getElem?->Ww,length_drop->Wx,lookup_cons->Wz,map_fst_zip->W4,map_snd_zip->W5,getElem?_modify->W9,length_eraseIdx_of_lt->QAL,getD_eq_getElem?_getD->QAM,getElem?_inj->QAc,length_erase_of_mem->QAe,flatMap_cons->QAf,foldl_append->QAg,getElem?_cons_zero->QAh,not_lt->QAm,mem_flatMap->QAp,of_mem_zip->QAv,forIn_cons->QAw,take_append_drop->QA0,length_zip->QA2,mem_erase_of_ne->QA6,forIn_nil->QA8,getElem?_range->QBG,map_eq_nil_iff->QBI,mem_filterMap->QBP,length_zipIdx->QBW,mapM_toArray->QBb,pairwise_map->QBe,all_map->QBn,map_set->QBp,getElem_mem->QBu,drop_length->QBx,map_id->QB5,foldl->QCA,getD->QCD
open PySem.W renaming Frag->QF,nsIn->qO,fnOf->wP,keepIn->wx,WData->QAD,codeIn->QAT,methodObj->QAW,cellsFrom_some->QAq,mg_of->QBU,mg_none_of->QBV
open PySem.Heap renaming get?_push_of_some->QH,get?_push_size->QO,lt_size->QR,get?_update_self->Q0,get?_update_other->Q8,SameBut->qP,size_push->wV,get?_push_cases->W8,ExtBut->QAk,IsList->QB1
open Nat renaming le_refl->QS,le_trans->QZ,ne_of_lt->Qd,lt_of_lt_of_le->Qo,zero_le->Qy,lt_succ_of_lt->qt,lt_irrefl->wF,ne_of_gt->wG,le_succ->wU,lt_succ_self->WP,le_add_right->WR,le_of_eq->Wr,le_of_lt->QAN,zero_add->QAu,lt_or_ge->QAx,lt_of_le_of_lt->QBL
open Array renaming length_toList->QT,getElem?_toList->qa,perm_iff_toList_perm->ql,getElem?_eq_getElem->wW,toList_inj->W0,getD_eq_getD_getElem?->QAF,getElem?_eq_none->QAt,toList_append->QBH,getD->QBa,toList_push->QBg,toList->QBk
open False renaming elim->Qb
open Int renaming emod_lt_of_pos->Qg,emod_nonneg->Qm,toNat_natCast->wf,lt_irrefl->wu,le_trans->QA4,le_refl->QB6
open PySem.Str renaming ofString->Qh,join->QBy
open Option.some renaming injEq->Qq,inj->qL
open PySem.PyData renaming strOk->Qs,eqv->Q6,canLayAll0->wH,depthAll->WD,canLay0->WM,depth->QAR
open Ne renaming symm->Q2
open PySem.Obj renaming data_mapFields->Q3,mapSeq->qM,mapFields->qY,isFreed_of_fields->qd,cls_mapFields->WJ,data_mapDictKeys->QA5,putSet->QBf
open Option renaming map_some->Q9,map_none->wk,isSome_map->QAa,getD_none->QBs,getD_some->QBt
open Prod renaming fst->qE,snd->Wp,ext->QCC
open PySem.Paired renaming length->qJ
open PySem.Heap.SameBut renaming update->qK,refl->QBZ
open PySem.Builtin.SmallTypes renaming nextOf->qW
open PySem.F renaming slot_dict_itemiterator_next->qX,slot_dict_keyiterator_next->qf,slot_tuple_iterator_next->qk,called_set->WF,args_tuple_iterator_next_1->WX,entry_tuple_iterator_next->WY,plainAttrs_list->We,args_dict_itemiterator_next_1->Wl,entry_dict_itemiterator_next->Ws,args_dict_keyiterator_next_1->Wv,entry_dict_keyiterator_next->W7,slot_dict_getitem->QAU,args_tuple_add_2->QAY,entry_tuple_add->QAi,plainAttrs_dict->QAo,slot_tuple_add->QAr,slot_dict_items_iter->QAs,plain_list_iadd->QBj,slot_dict_iter->QBw,slot_int_rmul->QB0,plain_set_new->QB3,slot_set_iter->QB4
open PyProof.Rows renaming callWith_type1->qh,slot_tuple_getitem->wb,subscriptTail_builtinR->w8,callWith_builtin1->Wq,boot_sorted->QAd,sortedAll_old->QBT,sortedAll_at->QBo
open PySem.Around renaming under_plainId->qj
open LawfulBEq renaming eq_of_beq->qm
open PySem.SeqAt renaming EqAt->qp,eqv_refl->wD
open Classical renaming byContradiction->qy
open Lean.Parser.Tactic renaming tacticSeq->wE
open PySem.Builtin.Slice renaming slicePlaces->wR,sliceAdjust->WL,sliceApplied->QAK
open PySem.Builtin.Dict_items renaming addrOf->wX,ownsTuple->QAB
open PySem.SetTable renaming below->wY,grown->wy,orStandIn->QBS
open PySem.Builtin.Tuple renaming tupleExact->wc
open List.Pairwise renaming imp_of_mem->wl,map->Wn
open PySem.Challenge renaming rw_quoteweave_k23_seers_alone->wm
open PySem.Builtin.Str renaming occurrences->wq
open PySem.W.WData renaming weightAll->wt,weight->QAA
open List.Perm renaming refl->wz
open PySem.Builtin.List renaming listTooLong->WW,listExtendWith->QAH
open PyProof.Rows.F renaming plain_set_update_loop->Wc,entry_set_update_loop->QAn
open Iff renaming rfl->Wd
open List.cons renaming injEq->Wf
open PySem.Calls renaming callWith_builtin->Wg,Name_function_global->QAJ,spliced_cons->QAO,call_function_entry->QAV,spliced_nil->QAX
open PySem.Builtin.Dict renaming showsAll->Wu
open PySem.Txt renaming join->QAC,slice->QCE
open PySem.Builtin.Int renaming intBits->QAI
open Nat.succ renaming inj->QAS
open Array.Perm renaming refl->QAz
open PySem.StrLaws renaming glued_eq_join->QA3
open PySem.Value renaming isStrOf_shape->QBC
open PySem.SeqAt.EqAt renaming int_str->QBM,str_int->QBN
open PyProof.Rows.SortSt renaming mk'->QBc
open PySem.SetTable.below renaming go->QBi
open Eq renaming mpr->QCB
theorem dF{p:Prop}[Decidable p](h:¬p):decide p=false:=_root_.decide_eq_false h
theorem dT{p:Prop}[Decidable p](h:p):decide p=true:=_root_.decide_eq_true h
abbrev FB:=List (PySem.Addr×PySem.Obj)
abbrev OB:=PySem.Value -> PySem.Shared -> Prop
abbrev gB:=PySem.Addr -> Prop
abbrev LB:=List (PySem.Str×PySem.Str)
set_option hygiene false in
local macro_rules | `(tactic| omega)=>do
 let f:=fun(s:String)=>(s.splitOn " ").toArray.map fun x=>Lean.mkIdent x.toName
 let a<-(f "L2.szA L2.szB L2.szC L2.unA Nat.le_trans Nat.lt_of_le_of_lt").mapM fun x=>`(wE| exact $x (by assumption) (by decide))
 let b<-(f "Nat.lt_of_lt_of_le Nat.lt_of_le_of_lt Nat.le_trans").mapM fun x=>`(wE| exact $x (by assumption) (by assumption))
 let c<-(f "Nat.le_of_lt Nat.ne_of_lt Nat.ne_of_gt Nat.lt_succ_of_lt Nat.le_of_lt_succ L2.prA").mapM fun x=>`(wE| exact $x (by assumption))
 let d<-(f "Nat.le_refl Nat.le_succ Nat.zero_le Nat.succ_pos").mapM fun x=>`(wE| exact $x _)
 `(tactic| first|decide|assumption|exact L2.szL (by decide) $[| $a]* $[| $b]* $[| $c]* $[| $d]*|omega (config:={}))
set_option hygiene false in
local macro_rules | `(tactic| simp? [$ls,*])=>do
 let a<-("zA Jf Kf Ea Zf Vf Uf af Aa Yf Ta Xf tf Rf mf zg Tf Sj jg ug rf xg N6 sf uU Ra Tj bb Ef nZ cb vg kg lZ yg Sf db Te Na oj xZ fg Jb sZ tZ Bf Yj jb Ff Gf Zj Df Cf Ia jm vm ym km zm Rj Al Il El ul yl xl Tl Ol Pl Hl Nl Ml Jl um xm v3 ai Ji Fl Dl Cl Bl Ul Xl Vl Kl Zl Yl Dj Cj Bj Hf ml gk il Kj Nf Ll Jk dg Aj Ii df yf xf zf bf uf rj Hh Gh Fe De Ue Li Mi Ri Ce da Be ca yU AY Fk jl Ch Bh Gd Ck Cg T6 Fg Dg Bk Rk uh Mh Lh Dk Hg Gg Lg Ab lf fe kC reduceIte".splitOn " ").toArray.mapM fun x=>`(Lean.Parser.Tactic.simpLemma| ↓ $(Lean.mkIdent x.toName):ident)
 let b<-("kH LE fF ZQ T.isD lockA YG lock kill ZG Tg.ix fC XZ oU IV isMut gY frzAt tV S9 VD.eq_1 VD.eq_2 bR.eq_1 bR.eq_2 bR.eq_3 bR.eq_4 j9 E8 II.eq_1 List.modify_succ_cons List.modify_zero_cons Option.map_some List.length_cons List.length_nil List.getElem?_cons_zero List.getElem?_cons_succ List.cons_append List.nil_append List.set_cons_zero List.set_cons_succ Nat.reduceAdd Nat.reduceSub Nat.zero_add Bool.and_true Bool.true_and Bool.not_true Bool.not_false Bool.or_true Bool.true_or Bool.or_false Bool.false_or Bool.and_false Bool.false_and if_true if_false Bool.false_eq_true true_and and_true false_implies ne_eq reduceCtorEq not_false_eq_true not_true_eq_false implies_true forall_const Int.reduceLT Int.reduceLE Int.reducePow Int.reduceNeg Nat.reducePow and_self eq_self Option.some.injEq Sl.own.injEq Sl.nv.injEq and_assoc decide_true decide_false".splitOn " ").toArray.mapM fun x=>`(Lean.Parser.Tactic.simpLemma| $(Lean.mkIdent x.toName):ident)
 `(tactic| simp -implicitDefEqProofs only [$ls,*,$a,*,$b,*])
namespace L2
open PySem PySem.Spec PyProof.Rows
section
variable{n m:Nat}{H:Hp}{a b:Addr}{o:HO}
theorem szL(h:n<=16777216):n<=sizeLine:=by rw[QV];exact h
theorem Mk(h:n<16777216):n<sizeLine:=by rw[QV];exact h
theorem Nk(h:n<=m)(k:m<=16777216):n<=sizeLine:=szL (QZ h k)
theorem om(h:n<=m)(k:m<16777216):n<sizeLine:=Mk (QBL h k)
theorem cm(h:n<=m)(k:m<=16777216):0+n<=sizeLine:=by rw[QAu];exact Nk h k
theorem bm{k c:Nat}(h:n+k<c)(l:m<=k):n+m<c:=QBL (Nat.add_le_add_left l n) h
theorem am(h:m<n):n - 1<n:=by cases n with|zero=>exact(nomatch h)|succ n=>exact WP n
noncomputable abbrev Key:=Sum Int Str
def gM:Key->Value->Bool
 | .inl k,v=>Value.isInt k v
 | .inr x,v=>Value.isStrOf x v
def vi(w:World):Key->Int
 | .inl k=>hashInt k
 | .inr x=>hashStr w x
theorem GA:∀{k:Key}{v:Value},gM k v=true->(∃i t,k=Sum.inl i/\v=Value.int i t)∨(∃x t,k=Sum.inr x/\v=Value.str x t)
 | .inl i,v,h=>by obtain⟨t,e⟩:=Value.isInt_shape (k:=i) (v:=v) h;exact .inl ⟨i,t,rfl,e⟩
 | .inr x,v,h=>by obtain⟨t,e⟩:=QBC (x:=x) (v:=v) h;exact .inr ⟨x,t,rfl,e⟩
theorem mV(i:Int)(t:Tok):gM (.inl i) (.int i t)=true:=by simp[gM,Value.isInt]
theorem lV(x:Str)(t:Tok):gM (.inr x) (.str x t)=true:=by simp[gM,Value.isStrOf]
theorem i9(a b:Int):decide ((Sum.inl a:Key)=Sum.inl b)=(a==b):=by by_cases e:a=b;subst e;simp;have h:¬ (Sum.inl a:Key)=Sum.inl b:=fun q=>e (Sum.inl.inj q);rw[dF h];exact(beq_eq_false_iff_ne.mpr e).symm
theorem n9(a b:Str):decide ((Sum.inr a:Key)=Sum.inr b)=decide (a=b):=by by_cases e:a=b;subst e;simp;have h:¬ (Sum.inr a:Key)=Sum.inr b:=fun q=>e (Sum.inr.inj q);rw[dF h,dF e]
theorem e9(a:Int)(b:Str):decide ((Sum.inl a:Key)=Sum.inr b)=false:=dF (fun q=>nomatch q)
theorem t9(a:Str)(b:Int):decide ((Sum.inr a:Key)=Sum.inl b)=false:=dF (fun q=>nomatch q)
def kB(prog:Program)(w:World):PySem.KeyKind prog w Key where
 is:=gM
 hash:=vi w
 inj:=fun v a b ha hb=>by
  rcases GA ha with⟨i,t,rfl,rfl⟩| ⟨x,t,rfl,rfl⟩
  rcases GA hb with⟨j,u,rfl,e⟩| ⟨y,u,rfl,e⟩
  ·injection e with e1 _;rw[e1]
  exact nomatch e;rcases GA hb with⟨j,u,rfl,e⟩| ⟨y,u,rfl,e⟩
  ·exact nomatch e
  injection e with e1 _;rw[e1]
 byValue:=fun k v h=>by rcases GA h with⟨i,t,rfl,rfl⟩| ⟨x,t,rfl,rfl⟩<;>rfl
 pyHash:=fun hv h=>by
  rcases GA hv with⟨i,t,rfl,rfl⟩| ⟨x,t,rfl,rfl⟩
  exact wpAny_pyHash_int h;exact wpAny_pyHash_str h
 eqBool:=fun hu hv h=>by
  rcases GA hu with⟨i,t,rfl,rfl⟩| ⟨x,t,rfl,rfl⟩
  rcases GA hv with⟨j,u,rfl,rfl⟩| ⟨y,u,rfl,rfl⟩
  ·rw[i9]at h;exact wpAny_eqBool_int h
  rw[e9]at h;exact QBM i t y u _ _ _ _ h;rcases GA hv with⟨j,u,rfl,rfl⟩| ⟨y,u,rfl,rfl⟩
  ·rw[t9]at h;exact QBN x t j u _ _ _ _ h
  rw[n9]at h;exact wpAny_eqBool_str h
 «strs»:=fun k x t v h=>by
  rcases GA h with⟨i,u,rfl,e⟩| ⟨y,u,rfl,e⟩
  exact nomatch e;injection e with e1 _;subst e1;cases v<;>rfl
theorem tP(prog:Program)(w:World)(i:Int)(t:Tok):(kB prog w).is (.inl i) (.int i t)=true:=mV i t
theorem sP(prog:Program)(w:World)(x:Str)(t:Tok):(kB prog w).is (.inr x) (.str x t)=true:=lV x t
set_option genInjectivity true in
inductive V where
 |non|bl (b:Bool)|int (i:Int)|str (x:Str)|byt (b:Array UInt8)|flt (b:UInt64)|ref (a:Addr)|ty (n:String)
 deriving DecidableEq
def rA:V->Value->Prop
 | .non,u=>u=Value.none
 | .bl b,u=>u=Value.bool b
 | .int i,u=>∃t,u=Value.int i t
 | .str x,u=>∃t,u=Value.str x t
 | .byt b,u=>∃t,u=Value.bytes b t
 | .flt b,u=>∃t,u=Value.float b t
 | .ref a,u=>u=Value.ref a
 | .ty n,u=>u=Value.type n
noncomputable abbrev bA:List V->List Value->Prop:=Paired rA
theorem bA.length{xs:List V}{us:List Value}(r:bA xs us):xs.length=us.length:=qJ r
theorem bA.get:∀{xs:List V}{us:List Value}{i:Nat}{x:V},bA xs us->xs[i]?=some x->∃u,us[i]?=some u/\rA x u
 |_,_,_,_,.nil,e=>by simp at e
 |_,_,0,_,.cons r _,e=>by simp at e;subst e;exact⟨_,rfl,r⟩
 |_,_,i+1,x,.cons _ t,e=>by obtain⟨u,h1,h2⟩:=bA.get (i:=i) (x:=x) t (by simpa using e);exact⟨u,by simpa using h1,h2⟩
theorem bA.set{x:V}{u:Value}(r:rA x u):∀{xs:List V}{us:List Value}(i:Nat),bA xs us->bA (xs.set i x) (us.set i u)
 |_,_,_,.nil=>.nil
 |_,_,0,.cons _ t=>.cons r t
 |_,_,i+1,.cons q t=>.cons q (bA.set r i t)
theorem bA.append:∀{xs ys:List V}{us ws:List Value},bA xs us->bA ys ws->bA (xs++ys) (us++ws)
 |_,_,_,_,.nil,s=>s
 |_,_,_,_,.cons r t,s=>.cons r (bA.append t s)
theorem bA.take:∀{xs:List V}{us:List Value}(n:Nat),bA xs us->bA (xs.take n) (us.take n)
 |_,_,0,_=>.nil
 |_,_,_+1,.nil=>.nil
 |_,_,n+1,.cons r t=>.cons r (bA.take n t)
theorem bA.drop:∀{xs:List V}{us:List Value}(n:Nat),bA xs us->bA (xs.drop n) (us.drop n)
 |_,_,0,r=>r
 |_,_,_+1,.nil=>.nil
 |_,_,n+1,.cons _ t=>bA.drop n t
def pS:Option V->Option Value->Prop
 |some v,some u=>rA v u
 |none,none=>True
 |_,_=>False
def KV{κ:Type}:List (κ×V)->List (κ×Value)->Prop:=Paired fun(p:κ×V) (q:κ×Value)=>p.1=q.1/\rA p.2 q.2
def kV:Key->V
 | .inl i=>.int i
 | .inr x=>.str x
inductive HO where
 |lst (xs:List V)
 |tup (xs:List V)
 |dK (kvs:List (Key×V))|dT (ep:Nat) (kvs:List (List Key×Addr×V))
 |set (S:Int->Bool) (n:Nat)
 |ins (C dx:Addr) (fs:List (Str×V))
 |own (x:Addr)
 |xd (fs:List (Str×V))
 |met (f x:Addr)
 |rng (lo hi:Int)
 |frz (o:Obj) (u:HO)
 |tbl (ps:Array Value)
 |ext (φ:Heap->Prop)
noncomputable abbrev Hp:=Addr->Option HO
def UA(H:Hp)(a:Addr)(o:HO):Hp:=fun b=>if b=a then some o else H b
theorem ZA:UA H a o a=some o:=by unfold UA;rw[if_pos rfl]
theorem vA(h:b≠a):UA H a o b=H b:=by unfold UA;rw[if_neg h]
theorem GZ{u:HO}:UA (UA H a o) a u=UA H a u:=by funext b;unfold UA;split<;>rfl
theorem iA(h:H a=some o)(h':H b=none):a≠b:=by intro e;subst e;rw[h]at h';cases h'
end
section
variable(P:Program)(w:World)
def xB(H:Hp)(h:Heap)(a:Addr):HO->Prop
 | .lst xs=>xs.length<=sizeLine/\∃(its:List Value) (n:Nat),bA xs its/\h.get? a=some { cls:=.type "list",data:=.seq its.toArray n }
 | .tup xs=>xs.length<=sizeLine/\∃its:List Value,bA xs its/\IsTup h a its.toArray
 | .dK kvs=>kvs.length<=sizeLine/\(a==sysModules)=false/\∃vs,KV kvs vs/\h.DictOf (kB P w) a vs
 | .dT ep kvs=>kvs.length<=sizeLine/\(a==sysModules)=false/\∃xs:List (List Key×Addr×Value),
   Paired (fun(p:List Key×Addr×V) (q:List Key×Addr×Value)=>p.1=q.1/\p.2.1=q.2.1/\rA p.2.2 q.2.2) kvs xs /\
   ∃o es,h.get? a=some o/\o.ExactDict/\o.data=.dict es ep/\es.toList=xs.map (entryOfKey (tupleKind (kB P w)))/\(xs.map (·.1)).Nodup
 | .set S n=>h.SetOf (intKind P w) a S n
 | .ins C dx fs=>H dx=some (.own a)/\fs.length<=1000/\dx≠a/\h.get? a=some (PySem.W.instObj C dx) /\
   ∃mA,h.Ns1 dx mA/\(∀f,pS (fs.lookup f) (mA f))/\PySem.Within mA (fs.map (·.1))
 | .own _=>∃o,h.get? a=some o
 | .xd fs=>∃mA,h.Ns1 a mA/\∀f,pS (fs.lookup f) (mA f)
 | .rng lo hi=>∃t u v,h.get? a=some { cls:=.type "range",data:=.fields #[.int lo t,.int hi u,.int 1 v] }
 | .frz o u=>h.get? a=some o/\xB H h a u
 | .tbl ps=>h.get? a=some { cls:=.none,data:=.fields ps }
 | .met f x=>h.get? a=some (QAW (.ref f) (.ref x))
 | .ext φ=>φ h/\(∃o,h.get? a=some o)/\∀h1 h2:Heap,φ h1->(∀o,h1.get? a=some o->h2.get? a=some o)->φ h2
def rL(H:Hp)(h:Heap):Prop:=∀a o,H a=some o->xB P w H h a o
end
section
variable{P:Program}{w:World}{H H':Hp}{h h':Heap}{a:Addr}{o:HO}
theorem xB.lt(x:xB P w H h a o):a<h.objs.size:=by
 cases o with
 |lst xs=>obtain⟨_,_,_,_,e⟩:=x;exact QR e
 |tup xs=>obtain⟨_,_,_,p⟩:=x;exact p.lt
 |dK kvs=>obtain⟨_,_,_,_,o,_,_,e,_⟩:=x;exact QR e
 |dT ep kvs=>obtain⟨_,_,_,_,o,_,e,_⟩:=x;exact QR e
 |set S n=>obtain⟨o,_,_,_,e,_⟩:=x;exact QR e
 |ins C dx fs=>obtain⟨_,_,_,e,_⟩:=x;exact QR e
 |own y=>obtain⟨_,e⟩:=x;exact QR e
 |xd fs=>obtain⟨_,⟨_,_,_,e,_⟩,_⟩:=x;exact QR e
 |rng lo hi=>obtain⟨_,_,_,e⟩:=x;exact QR e
 |frz ob u=>obtain⟨e,_⟩:=x;exact QR e
 |tbl ps=>exact QR (show h.get? a=some _ from x)
 |met f y=>exact QR (show h.get? a=some _ from x)
 |ext φ=>obtain⟨_,⟨_,e⟩,_⟩:=x;exact QR e
theorem Paired.mapP{α β:Type}{F G:α->β->Prop}:∀{l₁:List α}{l₂:List β},Paired F l₁ l₂->(∀a b,F a b->G a b)->Paired G l₁ l₂
 |_,_,.nil,_=>.nil
 |_,_,.cons r t,f=>.cons (f _ _ r) (Paired.mapP t f)
theorem xB.stay(x:xB P w H h a o)(k:∀b u,(b=a∨H b=some (.own a))->h.get? b=some u->h'.get? b=some u)
  (ho:∀b,H b=some (.own a)->H' b=some (.own a)) (ht:∀b xs,H b=some (.tup xs)->H' b=some (.tup xs)):xB P w H' h' a o:=by
 induction o with
 |lst xs=>obtain⟨z,its,n,r,e⟩:=x;exact⟨z,its,n,r,k _ _ (.inl rfl) e⟩
 |tup xs=>obtain⟨z,its,r,ob,e,c⟩:=x;exact⟨z,its,r,ob,k _ _ (.inl rfl) e,c⟩
 |dK kvs=>obtain⟨z,y,vs,r,ob,es,ep,e,c⟩:=x;exact⟨z,y,vs,r,ob,es,ep,k _ _ (.inl rfl) e,c⟩
 |dT ep kvs=>obtain⟨z,y,xs,r,ob,es,e,c⟩:=x;exact⟨z,y,xs,r,ob,es,k _ _ (.inl rfl) e,c⟩
 |set S n=>obtain⟨ob,es,ep,t,e,c⟩:=x;exact⟨ob,es,ep,t,k _ _ (.inl rfl) e,c⟩
 |ins C dx fs=>obtain⟨d,z,ne,e,mA,⟨od,es,ep,e2,c⟩,r⟩:=x;exact⟨ho _ d,z,ne,k _ _ (.inl rfl) e,mA,⟨od,es,ep,k _ _ (.inr d) e2,c⟩,r⟩
 |own y=>obtain⟨ob,e⟩:=x;exact⟨ob,k _ _ (.inl rfl) e⟩
 |xd fs=>obtain⟨mA,⟨od,es,ep,e,c⟩,r⟩:=x;exact⟨mA,⟨od,es,ep,k _ _ (.inl rfl) e,c⟩,r⟩
 |rng lo hi=>obtain⟨t,u,v,e⟩:=x;exact⟨t,u,v,k _ _ (.inl rfl) e⟩
 |frz ob u ih=>obtain⟨e,q⟩:=x;exact⟨k _ _ (.inl rfl) e,ih q⟩
 |tbl ps=>have e:h.get? a=some { cls:=.none,data:=.fields ps }:=x;show h'.get? a=some { cls:=.none,data:=.fields ps };exact k a _ (.inl rfl) e
 |met f y=>have e:h.get? a=some (QAW (.ref f) (.ref y)):=x;show h'.get? a=some (QAW (.ref f) (.ref y));exact k a _ (.inl rfl) e
 |ext φ=>obtain⟨p,⟨o,e⟩,st⟩:=x;exact⟨st _ _ p fun o q=>k _ _ (.inl rfl) q,⟨o,k _ _ (.inl rfl) e⟩,st⟩
theorem rL.lt(x:rL P w H h)(e:H a=some o):a<h.objs.size:=(x a o e).lt
theorem rL.fresh(x:rL P w H h)(e:h.objs.size<=a):H a=none:=by
 cases q:H a with
 |none=>rfl
 |some u=>exact absurd (Qo (x.lt q) e) (wF _)
theorem rL.kept(x:rL P w H h)(k:∀b u,h.get? b=some u->h'.get? b=some u):rL P w H h':=fun a o e =>
 (x a o e).stay (fun b u _ q=>k b u q) (fun _ q=>q) fun _ _ q=>q
theorem rL.laid(x:rL P w H h)(k:∀b u,h.get? b=some u->h'.get? b=some u)(hp:h.objs.size<=a)(new:xB P w (UA H a o) h' a o):rL P w (UA H a o) h':=fun b u e=>by have hn:=x.fresh hp;by_cases hb:b=a;subst hb;rw[ZA]at e;cases e;exact new;rw[vA hb]at e;exact(x b u e).stay (fun c v _ q=>k c v q) (fun c q=>by rw[vA (iA q hn)];exact q) fun c xs q=>by rw[vA (iA q hn)];exact q
end
def Rd(H:Hp)(a:Addr)(u:HO):Prop:=H a=some u∨∃o,H a=some (.frz o u)
theorem Rd.ok{P:Program}{w:World}{H:Hp}{h:Heap}{a:Addr}{u:HO}(r:Rd H a u)(x:rL P w H h):xB P w H h a u:=by
 rcases r with r|⟨o,r⟩
 exact x a u r;obtain⟨_,q⟩:=x a _ r;exact q
def Xb:Option HO->Prop
 |some (.lst _)=>True
 |some (.dK _)=>True
 |some (.dT _ _)=>True
 |some (.set _ _)=>True
 |some (.ins _ _ _)=>True
 |some (.ext _)=>True
 |_=>False
section
variable{P:Program}{w:World}{H:Hp}{h h':Heap}{x e:Addr}{o':HO}
theorem rL.write(ok:rL P w H h)(mu:Xb (H x))(he:e=x∨H e=some (.own x))(k:∀b u,b≠e->h.get? b=some u->h'.get? b=some u)(heo:∃u,h'.get? e=some u)
  (new:xB P w (UA H x o') h' x o'):rL P w (UA H x o') h':=fun b u q=>by
 have nown:∀c y,H c=some (.own y)->c≠x:=fun c y r z=>by subst z;rw[r]at mu;exact mu
 have ntup:∀c xs,H c=some (.tup xs)->c≠x:=fun c xs r z=>by subst z;rw[r]at mu;exact mu
 by_cases hb:b=x;subst hb;rw[ZA]at q;cases q;exact new;rw[vA hb]at q;by_cases hbe:b=e;have q':H b=some (.own x):=by rcases he with z|z;exact absurd (hbe.trans z) hb;rw[hbe];exact z
 rw[q]at q';cases q';obtain⟨v,hv⟩:=heo;exact⟨v,by rw[hbe];exact hv⟩;refine(ok b u q).stay (fun c v hc r=>k c v ?_ r) (fun c r=>by rw[vA (nown c b r)];exact r) fun c xs r=>by rw[vA (ntup c xs r)];exact r
 rcases hc with rfl|hc;exact hbe;rintro rfl;rcases he with z|z;exact nown c b hc z;rw[hc]at z;cases z;exact hb rfl
end
structure Un(fs ex:List Addr)(H H':Hp)(h h':Heap):Prop where
 keep:∀b o,h.get? b=some o->H b=none->b∉fs->b∉ex->h'.get? b=some o
 slot:∀b o,h.get? b=some o->H b=none->b∈fs->b∉ex->∃sl,h'.get? b=some { o with slots:=sl }
 free:∀b o,h.get? b=some o->H b=none->b∉ex->H' b=none
 there:∀b o,h.get? b=some o->b∉ex->∃o',h'.get? b=some o'
 tups:∀b xs,H b=some (.tup xs)->H' b=some (.tup xs)
 frzs:∀b o u,H b=some (.frz o u)->H' b=some (.frz o u)
 tbls:∀b ps,H b=some (.tbl ps)->∃more,H' b=some (.tbl (ps++more))
section
variable{fs fs' ex ex':List Addr}{H H1 H2:Hp}{h h1 h2 h':Heap}{a x e:Addr}{o:HO}
theorem Un.any(u:Un fs ex H H1 h h1){b:Addr}{ob:Obj}(q:h.get? b=some ob)(n:H b=none)(hx:b∉ex):∃sl,h1.get? b=some { ob with slots:=sl }:=by by_cases hb:b∈fs;exact u.slot b ob q n hb hx;exact⟨ob.slots,u.keep b ob q n hb hx⟩
theorem Un.kept(k:∀b u,h.get? b=some u->h'.get? b=some u):Un fs ex H H h h' :=
 ⟨fun b ob q _ _ _=>k b ob q,fun b ob q _ _ _=>⟨ob.slots,k b ob q⟩,fun _ _ _ n _=>n,fun b ob q _=>⟨ob,k b ob q⟩,fun _ _ q=>q,fun _ _ _ q=>q,fun _ ps q=>⟨#[],by rw[q];simp⟩⟩
theorem Un.refl:Un fs ex H H h h:=Un.kept fun _ _ q=>q
theorem Un.laid(k:∀b u,h.get? b=some u->h'.get? b=some u)(hp:h.objs.size<=a)(hn:H a=none):Un fs ex H (UA H a o) h h' where
 keep:=fun b u q _ _ _=>k b u q
 slot:=fun b u q _ _ _=>⟨u.slots,k b u q⟩
 free:=fun b u q n _=>by rw[vA (Qd (Qo (QR q) hp))];exact n
 there:=fun b u q _=>⟨u,k b u q⟩
 tups:=fun b xs q=>by rw[vA (iA q hn)];exact q
 frzs:=fun b u xs q=>by rw[vA (iA q hn)];exact q
 tbls:=fun b ps q=>⟨#[],by rw[vA (iA q hn),q];simp⟩
theorem Un.write(mu:Xb (H x))(he:e=x∨H e=some (.own x))(k:∀b u,b≠e->h.get? b=some u->h'.get? b=some u)(heo:∃u,h'.get? e=some u):Un fs ex H (UA H x o) h h':=by
 have hx:∀b,H b=none->b≠x:=fun b n z=>by subst z;rw[n]at mu;exact mu
 have hb:∀b,H b=none->b≠e:=fun b n z=>by subst z;rcases he with r|r;exact hx b n r;rw[n]at r;cases r
 have hm:∀b u,H b=some u->¬ Xb (some u)->b≠x:=fun b u q nm z=>by subst z;rw[q]at mu;exact nm mu
 refine⟨fun b u q n _ _=>k b u (hb b n) q,fun b u q n _ _=>⟨u.slots,k b u (hb b n) q⟩,fun b u q n _=>by rw[vA (hx b n)];exact n,fun b u q _=>?_,
  fun b xs q=>by rw[vA (hm b _ q fun z=>z)];exact q,fun b u xs q=>by rw[vA (hm b _ q fun z=>z)];exact q,fun b ps q=>⟨#[],by rw[vA (hm b _ q fun z=>z),q];simp⟩⟩
 by_cases hbe:b=e;subst hbe;exact heo;exact⟨u,k b u hbe q⟩
end
section
variable{h:Heap}{b:Addr}{o:Obj}
def lg(h:Heap)(H:Hp):List Addr:=(Q5 h.objs.size).filter fun a=>(H a).isSome
def FN(h:Heap)(H:Hp):Heap:=PySem.W.hideAll h (lg h H)
theorem pV(h:Heap)(H:Hp):(FN h H).objs.size=h.objs.size:=PySem.W.hideAll_size _ _
theorem nY{H:Hp}(e:h.get? b=some o)(n:H b=none):(FN h H).get? b=some o :=
 PySem.W.hideAll_get _ e fun hm=>by have q:(H b).isSome=true:=(Qj.mp hm).2;rw[n]at q;simp at q
theorem O2{H:Hp}(e:(FN h H).get? b=some o):h.get? b=some o/\H b=none:=by
 have e':h.get? b=some o:=PySem.W.of_hideAll (lg h H) e;refine⟨e',?_⟩;cases q:H b with
 |none=>rfl
 |some x=>have hm:b∈lg h H:=Qj.mpr ⟨Wo.mpr (QR e'),by simp[q]⟩;have z:(FN h H).get? b=none:=PySem.W.hideAll_none (lg h H) hm;rw[z]at e;cases e
structure Mod(K:QF)(mg:Str->Option Value)(base:Heap):Prop where
 kin:K.In base
 glob:base.Ns mainGlobals mg
 blt:∃mb,base.Ns builtinsNs mb/\∀x:Str,x≠"__name__"->mb x=bootBuiltins x
 nolimit:base.NoLimit
structure Cx where
 prog:Program
 w:World
 K:QF
 mg:Str->Option Value
 base:Heap
 A:Around
 N:List Str
 s₀:Shared
 H₀:Hp
 env:Env
 outer:List Env
 stack:List Env
 ex:List Addr
 fn:Str->Bool
 calm:Bool
 pn:FB
 xe:Value->Shared->Prop
def aV(l:List Env):List Addr:=l.filterMap (·.frame)
noncomputable abbrev Cx.fs(X:Cx):List Addr:=aV X.outer
def jf(sc:Scope)(x:Str):Prop:=sc.names.lookup x=some .local∨sc.names.lookup x=some .cell∨sc.names.lookup x=some .free
def Bb(sc:Scope)(x:Str):Prop:=sc.names.lookup x=some .local∨sc.names.lookup x=some .cell
def Gj(env:Env)(h:Heap)(m:Str->Option Value)(x:Str)(u:Value):Prop :=
 (env.kindOf x=some .local/\m x=some u)∨((env.kindOf x=some .cell∨env.kindOf x=some .free)/\∃c,env.cells.lookup x=some c/\h.IsCell c (some u))
structure Cx.Ok(X:Cx):Prop where
 mod:Mod X.K X.mg X.base
 kind:X.env.scope.kind=.function
 glob:X.env.globals=mainGlobals
 blt:X.env.builtins=builtinsNs
 above:X.s₀.heap.objs.size<=X.env.locals
 inj:∀x y c,X.env.cells.lookup x=some c->X.env.cells.lookup y=some c->x=y
 has:∀x,(X.env.kindOf x=some .cell∨X.env.kindOf x=some .free)->∃c,X.env.cells.lookup x=some c
 cab:∀x c,X.fn x=true->X.env.cells.lookup x=some c->X.s₀.heap.objs.size<=c
 hd:X.calm=true->X.A.handled=none
 frames:X.A.frames=some X.stack
 stk:X.stack=X.outer∨(X.stack=X.env::X.outer/\X.env.frame=some X.env.locals)
 exf:∀b∈X.ex,b≠X.env.locals/\∀x c,X.env.cells.lookup x=some c->c≠b
 bs:∀b o,X.base.get? b=some o->X.s₀.heap.get? b=some o/\X.H₀ b=none
 bsz:X.base.objs.size<=X.s₀.heap.objs.size
 noex:∀b o,X.base.get? b=some o->b∉X.ex
 exfs:∀b∈X.ex,b∉X.fs
 funs:X.s₀.heap.FunFrames X.base X.outer
 frf:∀b∈X.fs,X.H₀ b=none
structure Inv(X:Cx)(pins:FB)(σ:List (Option V))(H:Hp)(s:Shared):Prop where
 ok:X.Ok
 os:s.os=X.s₀.os
 bare:AllBare s.gens
 base:Un X.fs X.ex X.H₀ H X.s₀.heap s.heap
 loc:∃m,s.heap.Ns X.env.locals m/\∀(i:Nat) (x:Str) (v:V),X.N[i]?=some x->σ[i]?=some (some v)->jf X.env.scope x->∃u,rA v u/\Gj X.env s.heap m x u
 cell:∀x c,X.env.cells.lookup x=some c->∃v,s.heap.IsCell c v
 free:H X.env.locals=none
 freeC:∀x c,X.env.cells.lookup x=some c->H c=none
 pin:∀p∈X.pn++pins,s.heap.get? p.1=some p.2/\H p.1=none/\p.1≠X.env.locals/\p.1∉X.fs/\∀v,p.2.data≠.cell v
 hok:rL X.prog X.w H s.heap
 len:σ.length=X.N.length
end
section
variable{X:Cx}{pins:FB}{σ:List (Option V)}{H H':Hp}{s:Shared}{h':Heap}
section
variable{a:Addr}{g':Array GenState}{ch:List Addr}{i:Nat}{x:Str}{M:Model}{A:Around}{E:OB}{u:Value}{Q:Unit->Shared->Prop}
theorem Cx.Ok.nofr(ok:X.Ok){b:Addr}{o:Obj}(e:X.base.get? b=some o):b∉X.fs:=fun hb=>by have:=(ok.funs.mem hb).1;rw[e]at this;cases this
theorem Inv.bs(I:Inv X pins σ H s):∀b o,X.base.get? b=some o->s.heap.get? b=some o/\H b=none:=fun b o e =>
 ⟨I.base.keep b o (I.ok.bs b o e).1 (I.ok.bs b o e).2 (I.ok.nofr e) (I.ok.noex b o e),I.base.free b o (I.ok.bs b o e).1 (I.ok.bs b o e).2 (I.ok.noex b o e)⟩
theorem Inv.bk(I:Inv X pins σ H s):∀b o,X.base.get? b=some o->s.heap.get? b=some o:=fun b o e=>(I.bs b o e).1
theorem Inv.mod(I:Inv X pins σ H s):Mod X.K X.mg X.base:=I.ok.mod
theorem Inv.kIn(I:Inv X pins σ H s):X.K.In s.heap:=I.ok.mod.kin.keeps I.bk
theorem Inv.lt(I:Inv X pins σ H s):X.env.locals<s.heap.objs.size:=let⟨_,hn,_⟩:=I.loc;hn.lt
theorem Inv.sz(I:Inv X pins σ H s):X.s₀.heap.objs.size<=s.heap.objs.size:=QZ I.ok.above (QAN I.lt)
theorem Inv.nofs(I:Inv X pins σ H s)(h:s.heap.objs.size<=a):a∉X.fs:=fun hb=>by obtain⟨_,o,ho,_⟩:=I.ok.funs.mem hb;exact absurd (Qo (QR ho) (QZ I.sz h)) (wF _)
theorem Inv.cne(I:Inv X pins σ H s):∀x c,X.env.cells.lookup x=some c->c≠X.env.locals:=fun x c e z=>by obtain⟨v,o,ho,hd⟩:=I.cell x c e;obtain⟨m,⟨o',es,ep,ho',hd',_⟩,_⟩:=I.loc;rw[z,ho']at ho;cases ho;rw[hd']at hd;cases hd
theorem Inv.funs(I:Inv X pins σ H s):s.heap.FunFrames X.base X.outer:=by
 have all:∀(l:List Env),(∀b∈aV l,b∈X.fs)->X.s₀.heap.FunFrames X.base l->s.heap.FunFrames X.base l:=by
  intro l;induction l with
  |nil=>intro _ _;trivial
  |cons env r ih=>intro hs hl;obtain⟨hk,⟨L,o,hf,hn,ho,hd⟩,hr⟩:=hl;have hL:L∈X.fs:=hs L (by unfold aV;rw[WU,hf];exact QE);obtain⟨sl,e⟩:=I.base.slot L o ho (I.ok.frf L hL) hL fun z=>I.ok.exfs L z hL;exact⟨hk,⟨L,_,hf,hn,e,hd⟩,ih (fun b hb=>hs b (by unfold aV;rw[WU,hf];exact QG _ hb)) hr⟩
 exact all X.outer (fun _ hb=>hb) I.ok.funs
theorem Inv.stack(I:Inv X pins σ H s):s.heap.FunFrames X.base X.stack:=by
 rcases I.ok.stk with e|⟨e,hf⟩
 rw[e];exact I.funs;rw[e];obtain⟨m,hn,_⟩:=I.loc;refine .cons (by rw[I.ok.kind];decide) hf hn ?_ I.funs;exact Heap.get?_none_of_le (QZ I.ok.bsz I.ok.above)
theorem Inv.stkSub(I:Inv X pins σ H s):∀b∈aV X.stack,b∈X.env.locals::X.fs:=fun b hb=>by
 rcases I.ok.stk with e|⟨e,hf⟩
 rw[e]at hb;exact QG _ hb;rw[e]at hb;unfold aV at hb;rw[WU,hf]at hb;exact hb
theorem Inv.stkFree(I:Inv X pins σ H s):∀b∈aV X.stack,H b=none:=fun b hb=>by rcases QK.mp (I.stkSub b hb) with e|hb;rw[e];exact I.free;obtain⟨_,o,ho,_⟩:=I.ok.funs.mem hb;exact I.base.free b o ho (I.ok.frf b hb) fun z=>I.ok.exfs b z hb
theorem Inv.step{t':Nat}{d':Drawn}(I:Inv X pins σ H s)
  (hch:∀b∈ch,(b∈X.ex∨X.s₀.heap.objs.size<=b)/\b≠X.env.locals/\(∀x c,X.env.cells.lookup x=some c->c≠b)/\∀p∈X.pn++pins,p.1≠b)
  (keep:∀b o,b≠X.env.locals->b∉X.fs->b∉ch->s.heap.get? b=some o->H b=none->h'.get? b=some o)
  (slot:∀b o,b≠X.env.locals->b∈X.fs->b∉ch->s.heap.get? b=some o->H b=none->∃sl,h'.get? b=some { o with slots:=sl }) (free:∀b o,b∉ch->s.heap.get? b=some o->H b=none->H' b=none)
  (there:∀b o,b∉ch->s.heap.get? b=some o->∃o',h'.get? b=some o')
  (tups:∀b xs,H b=some (.tup xs)->H' b=some (.tup xs)) (frzs:∀b o u,H b=some (.frz o u)->H' b=some (.frz o u)) (tbls:∀b ps,H b=some (.tbl ps)->∃more,H' b=some (.tbl (ps++more)))
  (ns:∀m,s.heap.Ns X.env.locals m->h'.Ns X.env.locals m) (hok:rL X.prog X.w H' h') (hg:AllBare g') :
  Inv X pins σ H' { s with heap:=h',gens:=g',drawn:=d',toks:=t' }:=by
 have neL:∀b o,X.s₀.heap.get? b=some o->b≠X.env.locals:=fun b o e=>Qd (Qo (QR e) I.ok.above);have neC:∀b o,X.s₀.heap.get? b=some o->b∉X.ex->b∉ch:=fun b o e hx hb=>by rcases(hch b hb).1 with z|z;exact hx z;exact absurd (Qo (QR e) z) (wF _)
 have cellK:∀x c,X.env.cells.lookup x=some c->∀v,s.heap.IsCell c v->h'.IsCell c v:=fun x c e v ⟨o,ho,hd⟩=>by have nch:c∉ch:=fun z=>(hch c z).2.2.1 x c e rfl;by_cases hc:c∈X.fs;obtain⟨sl,q⟩:=slot c o (I.cne x c e) hc nch ho (I.freeC x c e);exact⟨_,q,hd⟩;exact⟨o,keep c o (I.cne x c e) hc nch ho (I.freeC x c e),hd⟩
 refine⟨I.ok,I.os,hg,⟨fun b o e n hb hx=>?_,fun b o e n hb hx=>?_,fun b o e n hx=>?_,fun b o e hx=>?_,fun b xs e=>tups b xs (I.base.tups b xs e),fun b o xs e=>frzs b o xs (I.base.frzs b o xs e),fun b ps e=>?_⟩,?_,fun x c e=>?_,?_,fun x c e=>?_,fun p hp=>?_,hok,I.len⟩;exact keep b o (neL b o e) hb (neC b o e hx) (I.base.keep b o e n hb hx) (I.base.free b o e n hx);obtain⟨sl,e1⟩:=I.base.slot b o e n hb hx;obtain⟨sl',e2⟩:=slot b _ (neL b o e) hb (neC b o e hx) e1 (I.base.free b o e n hx);exact⟨sl',e2⟩;obtain⟨o',e1⟩:=I.base.there b o e hx;exact free b o' (neC b o e hx) e1 (I.base.free b o e n hx);obtain⟨o',e1⟩:=I.base.there b o e hx;exact there b o' (neC b o e hx) e1;obtain⟨m1,e1⟩:=I.base.tbls b ps e;obtain⟨m2,e2⟩:=tbls b _ e1;exact⟨m1++m2,by rw[e2,Array.append_assoc]⟩;obtain⟨m,hn,hl⟩:=I.loc;refine⟨m,ns m hn,fun i x v e1 e2 e3=>?_⟩;obtain⟨u,r,l⟩:=hl i x v e1 e2 e3;refine⟨u,r,?_⟩;rcases l with l|⟨k,c,e,z⟩
 exact .inl l;exact .inr ⟨k,c,e,cellK x c e _ z⟩;obtain⟨v,z⟩:=I.cell x c e;exact⟨v,cellK x c e v z⟩;obtain⟨m,⟨o,_,_,ho,_⟩,_⟩:=I.loc;exact free _ o (fun z=>(hch _ z).2.1 rfl) ho I.free;obtain⟨v,o,ho,hd⟩:=I.cell x c e;exact free c o (fun z=>(hch c z).2.2.1 x c e rfl) ho (I.freeC x c e);obtain⟨e,n,ne,nf,d⟩:=I.pin p hp;have nch:p.1∉ch:=fun z=>(hch p.1 z).2.2.2 p hp rfl;exact⟨keep p.1 p.2 ne nf nch e n,free p.1 p.2 nch e n,ne,nf,d⟩
theorem Inv.un{t':Nat}(I:Inv X pins σ H s)(u:Un X.fs [] H H' s.heap h')(hok:rL X.prog X.w H' h'):Inv X pins σ H' { s with heap:=h',toks:=t' }:=by obtain⟨m,⟨o,es,ep,ho,r⟩,_⟩:=id I.loc;obtain⟨sl,hL⟩:=u.any ho I.free (by simp);exact I.step (g':=s.gens) (d':=s.drawn) (ch:=[]) (fun _ z=>nomatch z) (fun b o _ hb _ e n=>u.keep b o e n hb (by simp)) (fun b o _ hb _ e n=>u.slot b o e n hb (by simp)) (fun b o _ e n=>u.free b o e n (by simp)) (fun b o _ e=>u.there b o e (by simp)) u.tups u.frzs u.tbls (fun m' hm=>by obtain⟨o',es',ep',ho',r'⟩:=hm;rw[ho]at ho';cases ho';exact⟨_,es',ep',hL,r'⟩) hok I.bare
theorem Inv.call{t':Nat}{d':Drawn}(I:Inv X pins σ H s)(u:Un (aV X.stack) ch H H' s.heap h')(hok:rL X.prog X.w H' h')(hg:AllBare g')
  (hch:∀b∈ch,(b∈X.ex∨X.s₀.heap.objs.size<=b)/\b≠X.env.locals/\(∀x c,X.env.cells.lookup x=some c->c≠b)/\∀p∈X.pn++pins,p.1≠b) :
  Inv X pins σ H' { s with heap:=h',gens:=g',drawn:=d',toks:=t' }:=by
 obtain⟨m,⟨o,es,ep,ho,r⟩,_⟩:=id I.loc;obtain⟨sl,hL⟩:=u.any ho I.free fun z=>(hch _ z).2.1 rfl;exact I.step (ch:=ch) hch (fun b o hL hb hc e n=>u.keep b o e n (fun z=>(QK.mp (I.stkSub b z)).elim hL hb) hc) (fun b o _ _ hc e n=>u.any e n hc) (fun b o hc e n=>u.free b o e n hc) (fun b o hc e=>u.there b o e hc) u.tups u.frzs u.tbls (fun m' hm=>by obtain⟨o',es',ep',ho',r'⟩:=hm;rw[ho]at ho';cases ho';exact⟨_,es',ep',hL,r'⟩) hok hg
theorem Inv.turned{t':Nat}{it:Addr}(I:Inv X pins σ H s)(k:∀b o,b≠it->s.heap.get? b=some o->h'.get? b=some o)(hn:H it=none)(hL:it≠X.env.locals)
  (h1:it∈X.ex∨X.s₀.heap.objs.size<=it) (h2:∀x c,X.env.cells.lookup x=some c->c≠it) (h3:∀p∈X.pn++pins,p.1≠it):Inv X pins σ H { s with heap:=h',toks:=t' }:=by
 have nit:∀b u,H b=some u->b≠it:=fun b u e z=>by rw[z,hn]at e;cases e
 refine I.step (g':=s.gens) (d':=s.drawn) (ch:=[it]) (fun b hb=>?_) (fun b o _ _ hc e _=>k b o (fun z=>hc (by simp[z])) e) (fun b o _ _ hc e _=>⟨o.slots,k b o (fun z=>hc (by simp[z])) e⟩) (fun _ _ _ _ n=>n)
  (fun b o hc e=>⟨o,k b o (fun z=>hc (by simp[z])) e⟩) (fun _ _ e=>e) (fun _ _ _ e=>e) (fun b ps e=>⟨#[],by rw[e];simp⟩) (fun m hm=>?_) (fun b u e=>?_) I.bare
 have e:b=it:=by simpa using hb
 subst e;exact⟨h1,hL,h2,h3⟩;obtain⟨o,es,ep,ho,r⟩:=hm;exact⟨o,es,ep,k _ o (Q2 hL) ho,r⟩;refine(I.hok b u e).stay (fun c v hc q=>k c v ?_ q) (fun _ q=>q) fun _ _ q=>q;rcases hc with z|z;rw[z];exact nit b u e;exact nit c _ z
theorem Inv.tok(I:Inv X pins σ H s)(t:Nat):Inv X pins σ H { s with toks:=t }:=I.un (h':=s.heap) (t':=t) Un.refl I.hok
theorem Inv.kept{t':Nat}(I:Inv X pins σ H s)(k:∀b u,s.heap.get? b=some u->h'.get? b=some u):Inv X pins σ H { s with heap:=h',toks:=t' }:=I.un (Un.kept k) (I.hok.kept k)
theorem Inv.laid{o:HO}{t':Nat}(I:Inv X pins σ H s)(k:∀b u,s.heap.get? b=some u->h'.get? b=some u)(hp:s.heap.objs.size<=a)(new:xB X.prog X.w (UA H a o) h' a o) :
  Inv X pins σ (UA H a o) { s with heap:=h',toks:=t' }:=I.un (Un.laid k hp (I.hok.fresh hp)) (I.hok.laid k hp new)
theorem Inv.write{x e:Addr}{o:HO}{t':Nat}(I:Inv X pins σ H s)(mu:Xb (H x))(he:e=x∨H e=some (.own x))(k:∀b u,b≠e->s.heap.get? b=some u->h'.get? b=some u)(heo:∃u,h'.get? e=some u)
  (new:xB X.prog X.w (UA H x o) h' x o):Inv X pins σ (UA H x o) { s with heap:=h',toks:=t' }:=I.un (Un.write mu he k heo) (I.hok.write mu he k heo new)
theorem Inv.pins_of{pins':FB}(I:Inv X pins σ H s)(h:∀p∈pins',s.heap.get? p.1=some p.2/\H p.1=none/\p.1≠X.env.locals/\p.1∉X.fs/\∀v,p.2.data≠.cell v):Inv X pins' σ H s :=
 ⟨I.ok,I.os,I.bare,I.base,I.loc,I.cell,I.free,I.freeC,fun p hp=>(Qf.mp hp).elim (fun z=>I.pin p (Qp _ z)) (h p),I.hok,I.len⟩
theorem oP{N:List Str}(hN:N.Nodup){j:Nat}(a:N[i]?=some x)(b:N[j]?=some x):i=j:=by obtain⟨h1,e1⟩:=Qi.mp a;obtain⟨h2,e2⟩:=Qi.mp b;exact(List.getElem_inj hN).mp (e1.trans e2.symm)
theorem ML{v:V}(I:Inv X pins σ H s)(hN:X.N.Nodup)(hi:X.N[i]?=some x)(hx:Bb X.env.scope x)(r:rA v u)
  (h:∀s',Inv X pins (σ.set i (some v)) H s'->(∃a,qP a s.heap s'.heap/\(a=X.env.locals∨X.env.cells.lookup x=some a))->Q () s') (hf:X.fn x=true∨X.env.scope.names.lookup x=some .local):wpAny M A (storeName X.env x u) Q E s:=by
 obtain⟨m,hn,hl⟩:=id I.loc;have hcls:(X.env.scope.kind==.class||(X.env.scope.kind==.module&&X.env.locals != X.env.globals))=false:=by rw[I.ok.kind];rfl
 have hiσ:i<σ.length:=by rw[I.len];exact(Qi.mp hi).1
 have cne:=I.cne;have tracked:∀{a:Addr}{h':Heap},(∃o,s.heap.get? a=some o/\H a=none)->qP a s.heap h'->rL X.prog X.w H h':=fun {a h'} ha hs b ob e=>by obtain⟨_,_,hfree⟩:=ha;refine(I.hok b ob e).stay (fun c w' hc q=>(hs.2 c ?_).trans q) (fun _ q=>q) fun _ _ q=>q;rintro rfl;rcases hc with rfl|hc;rw[hfree]at e;cases e;rw[hfree]at hc;cases hc
 rcases hx with hk|hk;refine wpAny_storeName_local hk hn (fun h' hn' hs=>?_) hcls;obtain⟨oL,_,_,hoL,_⟩:=id hn;refine h _ ⟨I.ok,I.os,I.bare,⟨fun b o e n hb hx=>?_,fun b o e n hb hx=>?_,I.base.free,fun b o e hx=>?_,I.base.tups,I.base.frzs,I.base.tbls⟩,⟨_,hn',fun j y v' e1 e2 e3=>?_⟩,fun y c e=>?_,I.free,I.freeC,fun p hp=>?_,tracked ⟨oL,hoL,I.free⟩ hs,by simpa using I.len⟩ ⟨_,hs,.inl rfl⟩;exact(hs.2 b (Qd (Qo (QR e) I.ok.above))).trans (I.base.keep b o e n hb hx);obtain⟨sl,e1⟩:=I.base.slot b o e n hb hx;exact⟨sl,(hs.2 b (Qd (Qo (QR e) I.ok.above))).trans e1⟩;obtain⟨o',e1⟩:=I.base.there b o e hx;exact⟨o',(hs.2 b (Qd (Qo (QR e) I.ok.above))).trans e1⟩;by_cases hj:j=i
 ·subst hj
  rw[hi]at e1;cases e1;rw[qU hiσ]at e2;cases e2;exact⟨u,r,.inl ⟨hk,by simp⟩⟩
 rw[qN (Q2 hj)]at e2;obtain⟨u',r',q⟩:=hl j y v' e1 e2 e3;refine⟨u',r',?_⟩;rcases q with⟨k,e⟩| ⟨k,c,e,z⟩
 refine .inl ⟨k,?_⟩;have:y≠x:=fun e=>hj (oP hN e1 (e▸hi));simp[this,e];exact .inr ⟨k,c,e,z.sameBut hs (cne y c e)⟩;obtain⟨w',z⟩:=I.cell y c e;exact⟨w',z.sameBut hs (cne y c e)⟩;obtain⟨e,n,ne,nf,d⟩:=I.pin p hp;exact⟨(hs.2 p.1 ne).trans e,n,ne,nf,d⟩;have hfn:X.fn x=true:=by rcases hf with z|z;exact z;rw[z]at hk;cases hk
 obtain⟨c,hc⟩:=I.ok.has x (.inl hk);obtain⟨w',z⟩:=I.cell x c hc;refine wpAny_storeName_cell I.ok.kind hk hc z (fun h' hc' hs=>?_);obtain⟨oc,hoc,hocd⟩:=id z;refine h { s with heap:=h' } ⟨I.ok,I.os,I.bare,⟨fun b o e n hb hx=>?_,fun b o e n hb hx=>?_,I.base.free,fun b o e hx=>?_,I.base.tups,I.base.frzs,I.base.tbls⟩,⟨m,hn.sameBut hs (Q2 (cne x c hc)),fun j y v' e1 e2 e3=>?_⟩,fun y c' e=>?_,I.free,I.freeC,fun p hp=>?_,tracked ⟨oc,hoc,I.freeC x c hc⟩ hs,by simpa using I.len⟩ ⟨c,hs,.inr hc⟩;exact(hs.2 b (Qd (Qo (QR e) (I.ok.cab x c hfn hc)))).trans (I.base.keep b o e n hb hx);obtain⟨sl,e1⟩:=I.base.slot b o e n hb hx;exact⟨sl,(hs.2 b (Qd (Qo (QR e) (I.ok.cab x c hfn hc)))).trans e1⟩;obtain⟨o',e1⟩:=I.base.there b o e hx;exact⟨o',(hs.2 b (Qd (Qo (QR e) (I.ok.cab x c hfn hc)))).trans e1⟩;by_cases hj:j=i
 ·subst hj
  rw[hi]at e1;cases e1;rw[qU hiσ]at e2;cases e2;exact⟨u,r,.inr ⟨.inl hk,c,hc,hc'⟩⟩
 rw[qN (Q2 hj)]at e2;obtain⟨u',r',q⟩:=hl j y v' e1 e2 e3;refine⟨u',r',?_⟩;rcases q with q|⟨k,c',e,z'⟩
 exact .inl q;refine .inr ⟨k,c',e,z'.sameBut hs ?_⟩;rintro rfl;exact hj (oP hN e1 (I.ok.inj _ _ _ e hc▸hi));by_cases hcc:c'=c
 ·subst hcc;exact⟨_,hc'⟩
 obtain⟨w2,z2⟩:=I.cell y c' e;exact⟨w2,z2.sameBut hs hcc⟩;obtain⟨e,n,ne,nf,d⟩:=I.pin p hp;refine⟨(hs.2 p.1 ?_).trans e,n,ne,nf,d⟩;intro q;rw[q,hoc]at e;have q':oc=p.2:=qL e;exact d w' (by rw[<- q'];exact hocd)
theorem CO{v:V}(I:Inv X pins σ H s)(hN:X.N.Nodup)(hi:X.N[i]?=some x)(hx:Bb X.env.scope x)(r:rA v u)
  (h:∀s',Inv X pins (σ.set i (some v)) H s'->Q () s') (hf:X.fn x=true∨X.env.scope.names.lookup x=some .local):wpAny M A (storeName X.env x u) Q E s :=
 ML I hN hi hx r (fun s' I' _=>h s' I') hf
theorem Inv.call'{s':Shared}(I:Inv X pins σ H s)(ho:s'.os=s.os)(u:Un (aV X.stack) ch H H' s.heap s'.heap)(hok:rL X.prog X.w H' s'.heap)(hg:AllBare s'.gens)
  (hch:∀b∈ch,(b∈X.ex∨X.s₀.heap.objs.size<=b)/\b≠X.env.locals/\(∀x c,X.env.cells.lookup x=some c->c≠b)/\∀p∈X.pn++pins,p.1≠b):Inv X pins σ H' s':=by
 obtain⟨h',g',d',t',o'⟩:=s';have e:o'=s.os:=ho;subst e;exact I.call (g':=g') (t':=t') (d':=d') u hok hg hch
end
end
noncomputable abbrev XK:=Value->Option Addr->Hp->Prop
noncomputable abbrev St:=List (Option V)
noncomputable abbrev VK:=V->Hp->Prop
noncomputable abbrev TE:=St->Hp->VK->Prop
noncomputable abbrev TT:=St->Hp->(Bool->Hp->Prop)->Prop
noncomputable abbrev TA:=St->Hp->(List V->Hp->Prop)->Prop
structure Ends where
 nx:St->Hp->Prop
 rt:VK
 bk:St->Hp->Prop:=fun _ _=>False
 ct:St->Hp->Prop:=fun _ _=>False
noncomputable abbrev TS:=Ends->St->Hp->Prop
def EP(X:Cx)(pins:FB)(σ:St)(Q:VK)(u:Value)(s':Shared):Prop:=∃v H',Inv X pins σ H' s'/\rA v u/\Q v H'
def TP(X:Cx)(pins:FB)(σ:St)(Q:Bool->Hp->Prop)(b:Bool)(s':Shared):Prop:=∃H',Inv X pins σ H' s'/\Q b H'
def AP(X:Cx)(pins:FB)(σ:St)(Q:List V->Hp->Prop)(us:List Value)(s':Shared):Prop:=∃vs H',Inv X pins σ H' s'/\bA vs us/\Q vs H'
def SP(X:Cx)(pins:FB)(D:Ends)(f:Flow)(s':Shared):Prop :=
 match f with
 | .next=>∃σ' H',Inv X pins σ' H' s'/\D.nx σ' H'
 | .brk=>∃σ' H',Inv X pins σ' H' s'/\D.bk σ' H'
 | .cont=>∃σ' H',Inv X pins σ' H' s'/\D.ct σ' H'
 | .ret u=>∃v σ' H',Inv X pins σ' H' s'/\rA v u/\D.rt v H'
def PE(X:Cx)(e:Expr)(t:TE):Prop :=
 ∀(pins:FB) (s:Shared) (σ:St) (H:Hp) (Q:VK),Inv X pins σ H s->t σ H Q->wpAny (model X.prog X.w) X.A (eval e X.env) (EP X pins σ Q) X.xe s
def PT(X:Cx)(e:Expr)(t:TT):Prop :=
 ∀(pins:FB) (s:Shared) (σ:St) (H:Hp) (Q:Bool->Hp->Prop),Inv X pins σ H s->t σ H Q->wpAny (model X.prog X.w) X.A (isTrue e X.env (eval e X.env)) (TP X pins σ Q) X.xe s
def PW(X:Cx)(e:Expr)(t:TT):Prop :=
 ∀(whole:Sem Value) (pins:FB) (s:Shared) (σ:St) (H:Hp) (Q:Bool->Hp->Prop),Inv X pins σ H s->t σ H Q->wpAny (model X.prog X.w) X.A (isTrue e X.env whole) (TP X pins σ Q) X.xe s
theorem PW.pt{X:Cx}{e:Expr}{t:TT}(h:PW X e t):PT X e t:=h _
def PA(X:Cx)(es:List Expr)(t:TA):Prop :=
 ∀(pos:Pos) (pins:FB) (s:Shared) (σ:St) (H:Hp) (Q:List V->Hp->Prop),Inv X pins σ H s->t σ H Q->wpAny (model X.prog X.w) X.A (spliced (backTo pos (starEach es X.env))) (AP X pins σ Q) X.xe s
def PS(X:Cx)(st:Stmt)(t:TS):Prop :=
 ∀(pins:FB) (s:Shared) (σ:St) (H:Hp) (D:Ends),Inv X pins σ H s->t D σ H->wpAny (model X.prog X.w) X.A (exec st X.env) (SP X pins D) X.xe s
def rS(X:Cx)(st:List Stmt)(t:TS):Prop :=
 ∀(pins:FB) (s:Shared) (σ:St) (H:Hp) (D:Ends),Inv X pins σ H s->t D σ H->wpAny (model X.prog X.w) X.A (execs st X.env) (SP X pins D) X.xe s
theorem BB{α:Type}{t:Sem α}{Q Q':α->Shared->Prop}{M:Model}{A:Around}{E:OB}{s:Shared}(h:wpAny M A t Q E s)(hQ:∀a s,Q a s->Q' a s):wpAny M A t Q' E s:=wN h hQ fun _ _ x=>x
section
variable{X:Cx}
section
variable{pins:FB}{s:Shared}{σ:St}{H:Hp}{x:Str}{pos:Pos}{E Q:OB}{u:Value}
theorem bin{a b:Expr}{ta tb:TE}(ha:PE X a ta)(hb:PE X b tb){R:V->V->Hp->Prop}(I:Inv X pins σ H s)(h:ta σ H fun x H1=>tb σ H1 fun y H2=>R x y H2)
  {α:Type}{Q:α->Shared->Prop}{f:Value->Value->Sem α}
  (hf:∀v u s2 x y H2,Inv X pins σ H2 s2->rA x v->rA y u->R x y H2->wpAny (model X.prog X.w) X.A (f v u) Q X.xe s2) :
  wpAny (model X.prog X.w) X.A (eval a X.env) (fun v s₁=>wpAny (model X.prog X.w) X.A (eval b X.env) (fun u s₂=>wpAny (model X.prog X.w) X.A (f v u) Q X.xe s₂) X.xe s₁) X.xe s:=by
 refine BB (ha pins s σ H _ I h) fun v s1 ⟨x,H1,I1,r1,q1⟩=>?_;refine BB (hb pins s1 σ H1 _ I1 q1) fun u s2 ⟨y,H2,I2,r2,q2⟩=>?_;exact hf v u s2 x y H2 I2 r1 r2 q2
def Ng(i:Nat):TE:=fun σ H Q=>∃v,σ[i]?=some (some v)/\Q v H
def tC(v:V):TE:=fun _ H Q=>Q v H
theorem f8{i:Nat}(hN:X.N[i]?=some x)(hv:jf X.env.scope x)(hd:(x==("__debug__":Str))=false:=by decide)(hcd:(x==("__classdict__":Str))=false:=by decide):PE X (.Name x pos) (Ng i):=by
 intro pins s σ H Q I h;obtain⟨v,e,h⟩:=h;obtain⟨m,hn,hl⟩:=I.loc;obtain⟨u,r,l⟩:=hl i x v hN e hv;have fin:EP X pins σ Q u s:=⟨v,H,I,r,h⟩
 rcases l with⟨hk,hm⟩| ⟨hk,c,hc,hcell⟩
 exact QB7 (wpAny_loadName_local I.ok.kind hk hn hm fin) hd;rcases hk with hk|hk
 ·exact QB7 (wpAny_loadName_cell I.ok.kind hk hc hcell fin) hd
 exact QB7 (wpAny_loadName_free I.ok.kind hk hc hcell fin hcd) hd
theorem yX{i j pos}:PE X (.Constant (.int i) j pos) (tC (.int i)):=fun _ _ _ H _ I h=>wpAny_Constant_int ⟨.int i,H,I.tok _,⟨_,rfl⟩,h⟩
theorem O5{b j pos}:PE X (.Constant (.bool b) j pos) (tC (.bl b)):=fun _ _ _ H _ I h=>Constant_bool ⟨.bl b,H,I,rfl,h⟩
theorem IW{j pos}:PE X (.Constant .none j pos) (tC .non):=fun _ _ _ H _ I h=>Constant_none ⟨.non,H,I,rfl,h⟩
theorem m8{x j pos}:PE X (.Constant (.str x) j pos) (tC (.str x)):=fun _ _ _ H _ I h=>Calls.Constant_str ⟨.str x,H,I.tok _,⟨_,rfl⟩,h⟩
def Gl(X:Cx)(x:Str):Prop:=X.env.kindOf x=some .globalImplicit
theorem KN(I:Inv X pins σ H s)(hg:Gl X x)(hm:X.mg x=some u)(h:Q u s)
  (hd:(x==("__debug__":Str))=false:=by decide):wpAny (model X.prog X.w) X.A (eval (.Name x pos) X.env) Q E s :=
 QAJ I.ok.kind hg (Calls.loadGlobal_global (by rw[I.ok.glob];exact I.mod.glob.keeps I.bk) hm h) hd
theorem IG(I:Inv X pins σ H s)(hg:Gl X x)(hm:X.mg x=none)(hv:bootBuiltins x=some u)(h:Q u s)
  (hn:x≠"__name__":=by decide) (hd:(x==("__debug__":Str))=false:=by decide):wpAny (model X.prog X.w) X.A (eval (.Name x pos) X.env) Q E s:=by
 obtain⟨mb,h1,h2⟩:=I.mod.blt;exact QAJ I.ok.kind hg (Calls.loadGlobal_builtin (by rw[I.ok.glob];exact I.mod.glob.keeps I.bk) hm (by rw[I.ok.blt];exact h1.keeps I.bk) ((h2 x hn).trans hv) h) hd
theorem u1{v:V}(hg:Gl X x)(hm:X.mg x=some u)(r:rA v u)(hd:(x==("__debug__":Str))=false:=by decide):PE X (.Name x pos) (tC v) :=
 fun _ _ _ H _ I h=>KN I hg hm ⟨v,H,I,r,h⟩ hd
end
variable{a b:Expr}{ta tb:TE}{pos:Pos}
variable{tA tB':TT}{rest:List Expr}
def zh(t u:TT):TT:=fun σ H Q=>t σ H fun c H1=>if c=true then u σ H1 Q else Q false H1
def Hk(t u:TT):TT:=fun σ H Q=>t σ H fun c H1=>if c=true then Q true H1 else u σ H1 Q
def Ag(t:TT):TT:=fun σ H Q=>t σ H fun c H1=>Q (!c) H1
theorem Y0(ha:PT X a tA):PW X (.BoolOp .And [a] pos) tA:=by
 intro wh pins s σ H Q I h;refine isTrue_and (BB (ha pins s σ H Q I h) fun c s1 e=>?_);cases c with
 |true=>exact isTrue_and_nil e
 |false=>exact e
theorem R7(ha:PT X a tA):PW X (.BoolOp .Or [a] pos) tA:=by
 intro wh pins s σ H Q I h;refine isTrue_or (BB (ha pins s σ H Q I h) fun c s1 e=>?_);cases c with
 |false=>exact isTrue_or_nil e
 |true=>exact e
theorem GW(ha:PT X a tA)(hb:PW X (.BoolOp .And (b::rest) pos) tB'):PW X (.BoolOp .And (a::b::rest) pos) (zh tA tB'):=by
 intro wh pins s σ H Q I h;refine isTrue_and (BB (ha pins s σ H _ I h) fun c s1 ⟨H1,I1,q1⟩=>?_);cases c with
 |true=>exact hb wh pins s1 σ H1 Q I1 q1
 |false=>exact⟨H1,I1,q1⟩
theorem L5(ha:PT X a tA)(hb:PW X (.BoolOp .Or (b::rest) pos) tB'):PW X (.BoolOp .Or (a::b::rest) pos) (Hk tA tB'):=by
 intro wh pins s σ H Q I h;refine isTrue_or (BB (ha pins s σ H _ I h) fun c s1 ⟨H1,I1,q1⟩=>?_);cases c with
 |true=>exact⟨H1,I1,q1⟩
 |false=>exact hb wh pins s1 σ H1 Q I1 q1
theorem S7(ha:PT X a tA):PT X (.UnaryOp .Not a pos) (Ag tA):=by intro pins s σ H Q I h;exact isTrue_not (ha pins s σ H (fun c H1=>Q (!c) H1) I h)
def fc(ta tb:TE):TE:=fun σ H Q=>ta σ H fun x H1=>∃c,x=.bl c/\if c=true then tb σ H1 Q else Q (.bl false) H1
def Sg(ta tb:TE):TE:=fun σ H Q=>ta σ H fun x H1=>∃c,x=.bl c/\if c=true then Q (.bl true) H1 else tb σ H1 Q
theorem EW{op}{t:TE}(h:PE X a t):PE X (.BoolOp op [a] pos) t:=fun pins s σ H Q I hw=>BoolOp_one (h pins s σ H Q I hw)
theorem vX(ha:PE X a ta)(hb:PE X (.BoolOp .And (b::rest) pos) tb):PE X (.BoolOp .And (a::b::rest) pos) (fc ta tb):=by
 intro pins s σ H Q I h;refine BoolOp_and (BB (ha pins s σ H _ I h) fun v s1 ⟨x,H1,I1,r1,q1⟩=>?_);obtain⟨c,rfl,q1⟩:=q1;cases r1;refine wZ ?_;cases c with
 |true=>exact hb pins s1 σ H1 Q I1 q1
 |false=>exact⟨.bl false,H1,I1,rfl,q1⟩
theorem N5(ha:PE X a ta)(hb:PE X (.BoolOp .Or (b::rest) pos) tb):PE X (.BoolOp .Or (a::b::rest) pos) (Sg ta tb):=by
 intro pins s σ H Q I h;refine BoolOp_or (BB (ha pins s σ H _ I h) fun v s1 ⟨x,H1,I1,r1,q1⟩=>?_);obtain⟨c,rfl,q1⟩:=q1;cases r1;refine wZ ?_;cases c with
 |false=>exact hb pins s1 σ H1 Q I1 q1
 |true=>exact⟨.bl true,H1,I1,rfl,q1⟩
end
def HC(K:QF)(H:Hp)(a:Addr)(xs:List V):Prop :=
 Rd H a (.lst xs) ∨
  ∃(o:Obj) (its:Array Value) (n:Nat),K.lookup a=some o/\o.cls=.type "list"/\o.dict=none/\o.data=.seq its n/\its.size<=sizeLine/\bA xs its.toList
def TC(K:QF)(H:Hp)(a:Addr)(xs:List V):Prop :=
 Rd H a (.tup xs) ∨
  ∃(o:Obj) (its:Array Value) (n:Nat),K.lookup a=some o/\o.cls=.type "tuple"/\o.data=.seq its n/\its.size<=sizeLine/\bA xs its.toList
def FL:Value->Option V
 | .none=>some .non
 | .bool b=>some (.bl b)
 | .int i _=>some (.int i)
 | .str x _=>some (.str x)
 | .bytes b _=>some (.byt b)
 | .float b _=>some (.flt b)
 | .ref a=>some (.ref a)
 | .type n=>some (.ty n)
 |_=>none
theorem rA.abs{x:V}{u:Value}(r:rA x u):FL u=some x:=by
 cases x with
 |non=>cases r;rfl
 |bl _=>cases r;rfl
 |int _=>obtain⟨t,rfl⟩:=r;rfl
 |str _=>obtain⟨t,rfl⟩:=r;rfl
 |byt _=>obtain⟨t,rfl⟩:=r;rfl
 |flt _=>obtain⟨t,rfl⟩:=r;rfl
 |ref _=>cases r;rfl
 |ty _=>cases r;rfl
theorem rA.inj{x y:V}{u:Value}(r:rA x u)(q:rA y u):x=y:=qL (r.abs.symm.trans q.abs)
theorem bA.inj:∀{xs ys:List V}{us:List Value},bA xs us->bA ys us->xs=ys
 |_,_,_,.nil,.nil=>rfl
 |_,_,_,.cons r t,.cons r' t'=>by rw[r.inj r',bA.inj t t']
section
variable{X:Cx}{pins:FB}{σ:St}{H:Hp}{s:Shared}{a:Addr}{xs ys:List V}
theorem HC.of{K:QF}(h:H a=some (.lst xs)):HC K H a xs:=.inl (.inl h)
theorem TC.of{K:QF}(h:H a=some (.tup xs)):TC K H a xs:=.inl (.inl h)
theorem Inv.list(I:Inv X pins σ H s)(h:HC X.K H a xs):∃its:List Value,bA xs its/\PlainL s.heap a its.toArray/\xs.length<=sizeLine:=by
 rcases h with h|⟨o,its,n,hk,hc,hd,hs,hz,r⟩
 obtain⟨z,its,n,r,e⟩:=h.ok I.hok;exact⟨its,r,⟨_,n,e,rfl,rfl,rfl⟩,z⟩;refine⟨its.toList,r,⟨o,n,I.kIn a o hk,hc,hd,by simpa using hs⟩,?_⟩;have e:=r.length;simp only[QT]at e;omega
theorem Inv.tuple(I:Inv X pins σ H s)(h:TC X.K H a xs):∃its:List Value,bA xs its/\IsTup s.heap a its.toArray/\xs.length<=sizeLine:=by
 rcases h with h|⟨o,its,n,hk,hc,hs,hz,r⟩
 obtain⟨z,its,r,p⟩:=h.ok I.hok;exact⟨its,r,p,z⟩;refine⟨its.toList,r,⟨o,I.kIn a o hk,hc,n,by simpa using hs⟩,?_⟩;have e:=r.length;simp only[QT]at e;omega
theorem Inv.list_inj(I:Inv X pins σ H s)(h:HC X.K H a xs)(h':HC X.K H a ys):xs=ys:=by
 obtain⟨its,r,⟨o,n,e,_,_,d⟩,_⟩:=I.list h;obtain⟨its',r',⟨o',n',e',_,_,d'⟩,_⟩:=I.list h';rw[e]at e';cases e';rw[d]at d';injection d' with d1 _;have:its=its':=by simpa using congrArg QBk d1
 subst this;exact r.inj r'
theorem Inv.tuple_inj(I:Inv X pins σ H s)(h:TC X.K H a xs)(h':TC X.K H a ys):xs=ys:=by
 obtain⟨its,r,⟨o,e,_,n,d⟩,_⟩:=I.tuple h;obtain⟨its',r',⟨o',e',_,n',d'⟩,_⟩:=I.tuple h';rw[e]at e';cases e';rw[d]at d';injection d' with d1 _;have:its=its':=by simpa using congrArg QBk d1
 subst this;exact r.inj r'
end
noncomputable abbrev Cx.wish(X:Cx)(E:OB):Cx:={ X with xe:=E }
noncomputable abbrev Cx.nox(X:Cx):Cx:=X.wish fun _ _=>False
theorem Cx.Ok.wish{X:Cx}(ok:X.Ok)(E:OB):(X.wish E).Ok :=
 ⟨ok.mod,ok.kind,ok.glob,ok.blt,ok.above,ok.inj,ok.has,ok.cab,ok.hd,ok.frames,ok.stk,ok.exf,ok.bs,ok.bsz,ok.noex,ok.exfs,ok.funs,ok.frf⟩
theorem Cx.Ok.unwish{X:Cx}{E:OB}(ok:(X.wish E).Ok):X.Ok :=
 ⟨ok.mod,ok.kind,ok.glob,ok.blt,ok.above,ok.inj,ok.has,ok.cab,ok.hd,ok.frames,ok.stk,ok.exf,ok.bs,ok.bsz,ok.noex,ok.exfs,ok.funs,ok.frf⟩
section
variable{X:Cx}{pins:FB}{σ:St}{H:Hp}{s:Shared}{E:OB}
theorem Inv.wish(I:Inv X pins σ H s)(E:OB):Inv (X.wish E) pins σ H s:=⟨I.ok.wish E,I.os,I.bare,I.base,I.loc,I.cell,I.free,I.freeC,I.pin,I.hok,I.len⟩
theorem Inv.unwish(I:Inv (X.wish E) pins σ H s):Inv X pins σ H s:=⟨I.ok.unwish,I.os,I.bare,I.base,I.loc,I.cell,I.free,I.freeC,I.pin,I.hok,I.len⟩
theorem SP.unwish{D:Ends}{f:Flow}{s':Shared}(h:SP (X.wish E) pins D f s'):SP X pins D f s':=by
 cases f with
 |next=>obtain⟨σ',H',I,q⟩:=h;exact⟨σ',H',I.unwish,q⟩
 |brk=>obtain⟨σ',H',I,q⟩:=h;exact⟨σ',H',I.unwish,q⟩
 |cont=>obtain⟨σ',H',I,q⟩:=h;exact⟨σ',H',I.unwish,q⟩
 |ret u=>obtain⟨v,σ',H',I,r,q⟩:=h;exact⟨v,σ',H',I.unwish,r,q⟩
theorem rS.nox{st:List Stmt}{t:TS}(h:rS X.nox st t):rS X st t:=fun pins s σ H D I hw =>
 wN (h pins s σ H D (I.wish _) hw) (fun _ _ q=>q.unwish) fun _ _ z=>Qb z
end
section
variable{X:Cx}{st:Stmt}{rest:List Stmt}{t u:TS}{e:Expr}{te:TE}{pos:Pos}
def uc:TS:=fun D σ H=>D.nx σ H
def Pg(t u:TS):TS:=fun D σ H=>t { D with nx:=u D } σ H
theorem V0:rS X [] uc:=fun _ _ σ H _ I h=>QAE ⟨σ,H,I,h⟩
theorem LW(h1:PS X st t)(h2:rS X rest u):rS X (st::rest) (Pg t u):=by
 intro pins s σ H D I h;refine QBq (BB (h1 pins s σ H { D with nx:=u D } I h) fun f s1 q=>?_);cases f with
 |next=>obtain⟨σ',H',I',q⟩:=q;exact h2 pins s1 σ' H' D I' q
 |ret v=>exact q
 |brk=>exact q
 |cont=>exact q
theorem K0(h1:PS X st t):rS X [st] t:=by
 intro pins s σ H D I h;refine QBq (BB (h1 pins s σ H D I h) fun f s1 q=>?_);cases f with
 |next=>exact QAE q
 |ret v=>exact q
 |brk=>exact q
 |cont=>exact q
theorem Inv.quiet{pins:FB}{σ:St}{H:Hp}{s:Shared}(I:Inv X pins σ H s):interactive X.env=false:=by simp[interactive,I.ok.kind]
def bc(te:TE):TS:=fun D σ H=>te σ H fun _ H1=>D.nx σ H1
theorem yT(he:PE X e te)(hs:swapsWith e none pos.line X.env=pure false:=by rfl):PS X (.Expr e pos) (bc te):=by intro pins s σ H D I h;exact wpAny_Expr_any (BB (he pins s σ H _ I h) fun v s1 ⟨x,H1,I1,r1,q1⟩=>⟨σ,H1,I1,q1⟩) I.quiet hs
def Rg(te:TE):TS:=fun D σ H=>te σ H D.rt
theorem A7(he:PE X e te):PS X (.Return (some e) pos) (Rg te):=by intro pins s σ H D I h;exact wpAny_Return_some (BB (he pins s σ H _ I h) fun v s1 ⟨x,H1,I1,r1,q1⟩=>⟨x,σ,H1,I1,r1,q1⟩)
def Ig(c:TT)(t u:TS):TS:=fun D σ H=>c σ H fun b H1=>if b=true then t D σ H1 else u D σ H1
theorem Ic{c:Expr}{a b:List Stmt}{tc:TT}(hc:PT X c tc)(ha:rS X a t)(hb:rS X b u):PS X (.If c a b pos) (Ig tc t u):=by
 intro pins s σ H D I h;refine wpAny_If (BB (hc pins s σ H _ I h) fun d s1 ⟨H1,I1,q1⟩=>?_);cases d with
 |true=>exact ha pins s1 σ H1 D I1 q1
 |false=>exact hb pins s1 σ H1 D I1 q1
end
noncomputable abbrev TG:=V->St->Hp->(St->Hp->Prop)->Prop
noncomputable abbrev Jj:=List V->St->Hp->(St->Hp->Prop)->Prop
def PG(X:Cx)(target:Expr)(t:TG):Prop :=
 ∀(pins:FB) (s:Shared) (σ:St) (H:Hp) (v:V) (u:Value) (Q:St->Hp->Prop),Inv X pins σ H s->rA v u->t v σ H Q ->
  wpAny (model X.prog X.w) X.A (assign target X.env u) (fun _ s'=>∃σ' H',Inv X pins σ' H' s'/\Q σ' H') X.xe s
def ak(X:Cx)(ts:List Expr)(t:Jj):Prop :=
 ∀(pins:FB) (s:Shared) (σ:St) (H:Hp) (vs:List V) (us:List Value) (Q:St->Hp->Prop),Inv X pins σ H s->bA vs us->t vs σ H Q ->
  wpAny (model X.prog X.w) X.A (assignInOrder ((assignEach ts X.env).map (·.2)) us) (fun _ s'=>∃σ' H',Inv X pins σ' H' s'/\Q σ' H') X.xe s
noncomputable abbrev Sa:=V->V->V->Hp->(Hp->Prop)->Prop
def u5(X:Cx)(t:Sa):Prop :=
 ∀(pins:FB) (s:Shared) (σ:St) (H:Hp) (o i v:V) (ov iv u:Value) (Q:Hp->Prop),Inv X pins σ H s->rA o ov->rA i iv->rA v u->t o i v H Q ->
  wpAny (model X.prog X.w) X.A (setItem ov iv u) (fun _ s'=>∃H',Inv X pins σ H' s'/\Q H') X.xe s
section
variable{X:Cx}{pos:Pos}
section
variable{i:Nat}{x:Str}{e:Expr}{te:TE}
def XT(i:Nat):TG:=fun v σ H Q=>Q (σ.set i (some v)) H
theorem xT(hN:X.N.Nodup)(hi:X.N[i]?=some x)(hx:Bb X.env.scope x)(hf:X.fn x=true∨X.env.scope.names.lookup x=some .local):PG X (.Name x pos) (XT i):=by intro pins s σ H v u Q I r h;exact QBX (CO I hN hi hx r (fun s' I'=>⟨_,H,I',h⟩) hf)
def Ui(K:QF)(n:Nat)(t:Jj):TG:=fun v σ H Q=>∃a xs,v=.ref a/\TC K H a xs/\xs.length=n/\t xs σ H Q
theorem u8{es:List Expr}{k:Nat}{t:Jj}{n:Nat}(hc:X.calm=true)(h:ak X es t)
  (hn:(assignEach es X.env).length=n:=by rfl) (hst:(assignEach es X.env).findIdx? (·.1)=none:=by rfl):PG X (.Tuple es k pos) (Ui X.K n t):=by
 intro pins s σ H v u Q I r hw;obtain⟨a,xs,e1,hq,hl,hw⟩:=hw;subst e1;cases r;obtain⟨its,rv,ht,hz⟩:=I.tuple hq;refine assign_Tuple_tuple (I.ok.hd hc) ht (by simp[hn,<- hl,rv.length]) hst fun h' hx=>?_;have I1:Inv X pins σ H { s with heap:=h' }:=I.kept (t':=s.toks) fun b o e=>hx b o (Qd (QR e)) e;exact h pins _ σ H xs _ Q I1 (by simpa using rv) hw
def Ci(to ti:TE)(t:Sa):TG:=fun v σ H Q=>to σ H fun o H1=>ti σ H1 fun i H2=>t o i v H2 fun H3=>Q σ H3
theorem b8{o i:Expr}{to ti:TE}{t:Sa}(ho:PE X o to)(hi:PE X i ti)(hs:u5 X t)
  (ha:∀v,assign (.Subscript o i pos) X.env v=(do
   let ov <- holding [v] (eval o X.env)
   let iv <- holding [v,ov] (eval i X.env)
   standAt pos
   holding [v,ov,iv] (setItem ov iv v)
   release [v,ov,iv] []):=by intro _;rfl):PG X (.Subscript o i pos) (Ci to ti t):=by
 intro pins s σ H v u Q I r h;rw[ha];refine QA (qS (BB (ho pins s σ H _ I h) fun ov s1 ⟨x,H1,I1,r1,q1⟩=>?_));refine QA (qS (BB (hi pins s1 σ H1 _ I1 q1) fun iv s2 ⟨y,H2,I2,r2,q2⟩=>?_));refine QA (QBO (QA (qS (BB (hs pins s2 σ H2 x y v ov iv u _ I2 r1 r2 r q2) fun _ s3 ⟨H3,I3,q3⟩=>?_))));exact wpAny_release ⟨σ,H3,I3,q3⟩
def J7(te:TE)(g:TG):TS:=fun D σ H=>te σ H fun x H1=>g x σ H1 D.nx
theorem NW{tg:Expr}{g:TG}(he:PE X e te)(hg:PG X tg g)(hs:swapsWithSole [tg] e pos.line X.env=pure false:=by rfl)(hw:swappedStores [tg] e X.env=pure none:=by rfl)
  (h1:(assignEach [tg] X.env).map (·.2)=[assign tg X.env]:=by rfl):PS X (.Assign [tg] e pos) (J7 te g):=by
 intro pins s σ H D I h;refine wpAny_Assign_stores (BB (he pins s σ H _ I h) fun v s1 ⟨x,H1,I1,r1,q1⟩=>?_) hs hw;rw[h1];exact BB (hg pins s1 σ H1 x v _ I1 r1 q1) fun _ s2 q=>q
theorem T7{pos':Pos}(hN:X.N.Nodup)(hi:X.N[i]?=some x)(hx:Bb X.env.scope x)(he:PE X e te)(hs:swapsWith e (some (.Name x pos')) pos.line X.env=pure false:=by rfl)(hf:X.fn x=true∨X.env.scope.names.lookup x=some .local) :
  PS X (.Assign [.Name x pos'] e pos) (J7 te (XT i)):=by
 intro pins s σ H D I h;refine wpAny_Assign_Name (BB (he pins s σ H _ I h) fun v s1 ⟨y,H1,I1,r1,q1⟩=>?_) hs;exact CO I1 hN hi hx r1 (fun s2 I2=>⟨_,H1,I2,q1⟩) hf
end
end
section
variable{X:Cx}{pos:Pos}
def cW(c:TT)(tb:TS):TS:=fun D σ H=>∃W:Nat->St->Hp->Prop,(∃m,W m σ H)/\∀m σ H,W m σ H ->
 c σ H fun b H1=>if b=true then ∃N:St->Hp->Prop,(∀σ' H',N σ' H'->∃m',m' < m/\W m' σ' H')/\tb { D with nx:=N,ct:=N,bk:=D.nx } σ H1 else D.nx σ H1
theorem MW{c:Expr}{body:List Stmt}{tc:TT}{tb:TS}(hp:PassesOwn (model X.prog X.w) X.A X.env X.xe)(hc:PT X c tc)(hb:rS X body tb):PS X (.While c body [] pos) (cW tc tb):=by
 intro pins s σ H D I h;obtain⟨W,⟨m0,w0⟩,turn⟩:=h;refine wpAny_While (codeAny_whileLoop (fun n s'=>∃σ' H',Inv X pins σ' H' s'/\W n σ' H') ?_ m0 ⟨σ,H,I,w0⟩);rintro n s1 ⟨σ1,H1,I1,w1⟩;refine wa hp (BB (hc pins s1 σ1 H1 _ I1 (turn n σ1 H1 w1)) fun b s2 ⟨H2,I2,q2⟩=>?_);cases b with
 |true =>
  obtain⟨N,hN,q2⟩:=q2;rw[if_pos rfl];refine wa hp (BB (hb pins s2 σ1 H2 _ I2 q2) fun f s3 q3=>?_);cases f with
  |next=>obtain⟨σ3,H3,I3,n3⟩:=q3;obtain⟨m',hm,w3⟩:=hN σ3 H3 n3;exact⟨m',hm,σ3,H3,I3,w3⟩
  |cont=>obtain⟨σ3,H3,I3,n3⟩:=q3;obtain⟨m',hm,w3⟩:=hN σ3 H3 n3;exact⟨m',hm,σ3,H3,I3,w3⟩
  |brk=>exact q3
  |ret v=>exact q3
 |false=>rw[if_neg QC];exact QAE ⟨σ1,H2,I2,q2⟩
end
section
variable{s:Shared}{tg:Expr}{P:Program}{w:World}{K:QF}
structure It where
 go:Nat->Hp->Prop
 yld:Nat->Hp->V->Hp->Prop
 stop:Nat->Hp->Prop
def kI(X:Cx)(pins:FB)(H:Hp)(b:Addr):Prop :=
 H b=none/\b≠X.env.locals/\b∉X.fs/\(b∈X.ex∨X.s₀.heap.objs.size<=b)/\(∀x c,X.env.cells.lookup x=some c->c≠b)/\∀p∈X.pn++pins,p.1≠b
theorem Inv.fpOk{X:Cx}{pins:FB}{σ:St}{H H':Hp}{b:Addr}(I:Inv X pins σ H s)(hb:s.heap.objs.size<=b)(hn:H' b=none):kI X pins H' b:=by refine⟨hn,wG (Qo I.lt hb),I.nofs hb,.inr (QZ I.sz hb),fun x c e z=>?_,fun p hp z=>?_⟩;obtain⟨v,q⟩:=I.cell x c e;exact absurd (Qo q.lt (by rw[z];exact hb)) (wF _);exact absurd (Qo (QR (I.pin p hp).1) (by rw[z];exact hb)) (wF _)
structure Turn0(P:Program)(w:World)(K:QF)(tg:Expr)(J:It)(fp:List Addr)(it:Addr)(tn:Nat->Heap->Prop):Prop where
 mem:it∈fp
 obj:∀i h,tn i h->∀b∈fp,∃o,h.get? b=some o/\∀v,o.data≠.cell v
 keep:∀i h h',tn i h->(∀b∈fp,∀o,h.get? b=some o->h'.get? b=some o)->tn i h'
 item:∀(X:Cx),X.prog=P->X.w=w->X.K=K->X.calm=true->∀(i:Nat) (pins:FB) (s:Shared) (σ:St) (H:Hp) (E:OB),Inv X pins σ H s->(∀b∈fp,kI X pins H b)->tn i s.heap->J.go i H ->
  wpAny (model P w) X.A (pyNext (.ref it)) (fun r s1=>∃u,r=some u /\
   wpAny (model P w) X.A (letOwnedTupleGo tg (.ref it) u) (fun _ s2=>∃x H',Inv X pins σ H' s2/\rA x u/\J.yld i H x H'/\tn (i+1) s2.heap/\∀b∈fp,H' b=none) E s1) E s
 done:∀(X:Cx),X.prog=P->X.w=w->X.K=K->X.calm=true->∀(i:Nat) (pins:FB) (s:Shared) (σ:St) (H:Hp) (E:OB),Inv X pins σ H s->(∀b∈fp,kI X pins H b)->tn i s.heap->J.stop i H ->
  wpAny (model P w) X.A (pyNext (.ref it)) (fun r s1=>r=none/\Inv X pins σ H s1) E s
structure Turn(P:Program)(w:World)(K:QF)(tg:Expr)(J:It)(fp:List Addr)(it:Addr)(tn:Nat->Heap->Prop):Prop extends Turn0 P w K tg J fp it tn where
 self:∀(A:Around) (i:Nat) (s:Shared) (Q:OB) (E:OB),tn i s.heap->Q (.ref it) s->wpAny (model P w) A (pyIter (.ref it)) Q E s
noncomputable abbrev TI:=St->Hp->(It->Hp->Prop)->Prop
def Uj(X:Cx)(pins:FB)(σ:St)(tg:Expr)(R:It->Hp->Prop)(itv:Value)(s2:Shared):Prop :=
 ∃(it:Addr) (fp:List Addr) (tn:Nat->Heap->Prop) (J:It) (H':Hp),itv=.ref it/\Inv X pins σ H' s2/\Turn X.prog X.w X.K tg J fp it tn/\tn 0 s2.heap/\(∀b∈fp,kI X pins H' b)/\R J H'
def PI(X:Cx)(tg iter:Expr)(wi:TI):Prop :=
 ∀(pins:FB) (s:Shared) (σ:St) (H:Hp) (R:It->Hp->Prop),Inv X pins σ H s->wi σ H R ->
  wpAny (model X.prog X.w) X.A (eval iter X.env) (fun v s1=>wpAny (model X.prog X.w) X.A (pyIter v) (Uj X pins σ tg R) X.xe s1) X.xe s
def Xj(X:Cx)(pins:FB)(σ:St)(tg:Expr)(R:It->Hp->Prop)(itv:Value)(s2:Shared):Prop :=
 ∃(it:Addr) (fp:List Addr) (tn:Nat->Heap->Prop) (J:It) (H':Hp),itv=.ref it/\Inv X pins σ H' s2/\Turn0 X.prog X.w X.K tg J fp it tn/\tn 0 s2.heap/\(∀b∈fp,kI X pins H' b)/\R J H'
def Xg(X:Cx)(tg iter:Expr)(wi:TI):Prop :=
 ∀(pins:FB) (s:Shared) (σ:St) (H:Hp) (R:It->Hp->Prop),Inv X pins σ H s->wi σ H R ->
  wpAny (model X.prog X.w) X.A (eval iter X.env) (fun v s1=>wpAny (model X.prog X.w) X.A (pyIter v) (Xj X pins σ tg R) X.xe s1) X.xe s
theorem PI.to0{X:Cx}{iter:Expr}{wi:TI}(h:PI X tg iter wi):Xg X tg iter wi:=fun pins s σ H R I q =>
 wN (h pins s σ H R I q) (fun v s1 h1=>wN h1 (fun itv s2 ⟨it,fp,tn,J,H2,e,I2,T,r⟩=>⟨it,fp,tn,J,H2,e,I2,T.toTurn0,r⟩) fun _ _ x=>x) fun _ _ x=>x
theorem PP{M:Model}{A:Around}{E:OB}{it:Addr}{u:Value}{o:Obj}{n:String}{vs:Array Value}{Q:Unit->Shared->Prop}(ho:s.heap.get? it=some o)(hc:o.cls=.type n)(hd:o.data=.fields vs)
    (hn:["enumerate","zip","dict_itemiterator","dict_reverseitemiterator","odict_iterator","itertools.zip_longest","itertools.pairwise"].contains n=false) (hQ:Q () s):wpAny M A (letOwnedTupleGo tg (.ref it) u) Q E s:=by
  unfold letOwnedTupleGo;cases tg<;>first
    |exact QJ hQ
    | (cases u<;>first
        |exact QJ hQ
        | (refine QA (wpAny_load ho ?_)
           rw[hc,hd];show wpAny M A (if(["enumerate","zip","dict_itemiterator","dict_reverseitemiterator","odict_iterator","itertools.zip_longest","itertools.pairwise"].contains n&&vs[0]?==some (rawInt _))=true then _ else _) Q E s;rw[if_neg (by intro h;rw[hn,Bool.false_and]at h;cases h)];exact QJ hQ))
def Vk(K:QF)(a:Addr):It :=
 ⟨fun i H=>∃xs x,HC K H a xs/\xs[i]?=some x,fun i H x H'=>H'=H/\∀xs,HC K H a xs->xs[i]?=some x,fun i H=>∃xs,HC K H a xs/\xs.length<=i⟩
def Zk(K:QF)(a:Addr):It :=
 ⟨fun i H=>∃xs x,TC K H a xs/\xs[i]?=some x,fun i H x H'=>H'=H/\∀xs,TC K H a xs->xs[i]?=some x,fun i H=>∃xs,TC K H a xs/\xs.length<=i⟩
def Nj(lo:Int)(n:Nat):It:=⟨fun i _=>i<n,fun i H x H'=>H'=H/\x=.int (lo+i),fun i _=>n<=i⟩
theorem sU(a it:Addr):Turn P w K tg (Vk K a) [it] it (fun i h=>h.IsListIter it a i) where
 mem:=by simp
 obj:=fun i h st b hb=>by
  have e:b=it:=by simpa using hb
  subst e;obtain⟨o,e,c,d⟩:=st;exact⟨o,e,fun v z=>by rw[d]at z;cases z⟩
 keep:=fun i h h' st k=>st.at fun o e=>k it (by simp) o e
 item:=by intro X hP hw hK hc i pins s σ H E I hf st hg;subst hP hw hK;obtain⟨xs,x,hq,hx⟩:=hg;obtain⟨its,rv,p,hz⟩:=I.list hq;obtain⟨u,hu,ru⟩:=rv.get hx;obtain⟨f0,f1,f2,f3,f4,f5⟩:=hf it (by simp);refine wpAny_pyNext_list_item st p.isList (x:=u) (by simpa using hu) fun h' st' sb=>?_;have I1:Inv X pins σ H { s with heap:=h' }:=I.turned (t':=s.toks) (fun b o hb e=>(sb.2 b hb).trans e) f0 f1 f3 f4 f5;obtain⟨o,e,c,d⟩:=id st';exact⟨u,rfl,PP (s:={ s with heap:=h' }) e c d (by decide) ⟨x,H,I1,ru,⟨rfl,fun ys hy=>by rw[I.list_inj hy hq];exact hx⟩,st',fun b hb=>(hf b hb).1⟩⟩
 done:=by intro X hP hw hK hc i pins s σ H E I hf st hg;subst hP hw hK;obtain⟨xs,hq,hx⟩:=hg;obtain⟨its,rv,p,hz⟩:=I.list hq;obtain⟨f0,f1,f2,f3,f4,f5⟩:=hf it (by simp);have hl:=rv.length;exact wpAny_pyNext_list_end (I.ok.hd hc) st p.isList (by simp;omega) fun h' eb=>⟨rfl,I.turned (t':=s.toks) (fun b o hb e=>eb b o hb e) f0 f1 f3 f4 f5⟩
 self:=fun _ _ _ _ _ st h=>wpAny_pyIter_listiter st h
theorem NQ(a it:Addr):Turn P w K tg (Zk K a) [it] it (fun i h=>h.IsTupleIter it a i) where
 mem:=by simp
 obj:=fun i h st b hb=>by
  have e:b=it:=by simpa using hb
  subst e;obtain⟨o,e,c,d⟩:=st;exact⟨o,e,fun v z=>by rw[d]at z;cases z⟩
 keep:=fun i h h' st k=>st.at fun o e=>k it (by simp) o e
 item:=by intro X hP hw hK hc i pins s σ H E I hf st hg;subst hP hw hK;obtain⟨xs,x,hq,hx⟩:=hg;obtain⟨its,rv,p,hz⟩:=I.tuple hq;obtain⟨u,hu,ru⟩:=rv.get hx;obtain⟨f0,f1,f2,f3,f4,f5⟩:=hf it (by simp);refine wpAny_pyNext_tuple_item st (show s.heap.IsTuple a its.toArray from p) (x:=u) (by simpa using hu) fun h' st' sb=>?_;have I1:Inv X pins σ H { s with heap:=h' }:=I.turned (t':=s.toks) (fun b o hb e=>(sb.2 b hb).trans e) f0 f1 f3 f4 f5;obtain⟨o,e,c,d⟩:=id st';exact⟨u,rfl,PP (s:={ s with heap:=h' }) e c d (by decide) ⟨x,H,I1,ru,⟨rfl,fun ys hy=>by rw[I.tuple_inj hy hq];exact hx⟩,st',fun b hb=>(hf b hb).1⟩⟩
 done:=by intro X hP hw hK hc i pins s σ H E I hf st hg;subst hP hw hK;obtain⟨xs,hq,hx⟩:=hg;obtain⟨its,rv,p,hz⟩:=I.tuple hq;obtain⟨f0,f1,f2,f3,f4,f5⟩:=hf it (by simp);have hl:=rv.length;exact wpAny_pyNext_tuple_end (I.ok.hd hc) st (show s.heap.IsTuple a its.toArray from p) (by simp;omega) fun h' eb=>⟨rfl,I.turned (t':=s.toks) (fun b o hb e=>eb b o hb e) f0 f1 f3 f4 f5⟩
 self:=fun _ _ _ _ _ st h=>wpAny_pyIter_tupleiter st h
theorem OQ(it:Addr)(lo:Int)(n:Nat):Turn P w K tg (Nj lo n) [it] it (fun i h=>IsRangeIter h it (lo+(i:Nat) * 1) ((n:Int) - (i:Nat)) 1) where
 mem:=by simp
 obj:=fun i h st b hb=>by
  have e:b=it:=by simpa using hb
  subst e;exact⟨_,st,fun v z=>by have z':Data.fields _=Data.cell v:=z;cases z'⟩
 keep:=fun i h h' st k=>k it (by simp) _ st
 item:=by intro X hP hw hK hc i pins s σ H E I hf st hg;subst hP hw hK;obtain⟨f0,f1,f2,f3,f4,f5⟩:=hf it (by simp);have W:=Walks.range (prog:=X.prog) (w:=X.w) (I.ok.hd hc) it lo 1 n;refine W.item i s _ _ hg st fun v h' tk hv st' kk=>?_;obtain⟨t,rfl⟩:=hv;have I1:Inv X pins σ H { s with heap:=h',toks:=tk }:=I.turned (fun b o hb e=>kk b o (by simpa using hb) e) f0 f1 f3 f4 f5;refine⟨_,rfl,PP (s:={ s with heap:=h',toks:=tk }) (n:="range_iterator") st' rfl rfl (by decide) ⟨.int (lo+i),H,I1,⟨t,?_⟩,⟨rfl,rfl⟩,st',fun b hb=>(hf b hb).1⟩⟩;rw[Int.mul_one]
 done:=by intro X hP hw hK hc i pins s σ H E I hf st hg;subst hP hw hK;obtain⟨f0,f1,f2,f3,f4,f5⟩:=hf it (by simp);exact wpAny_pyNext_range_end (I.ok.hd hc) st (by have:n<=i:=hg;omega) fun h' eb=>⟨rfl,I.turned (t':=s.toks) (fun b o hb e=>eb b o hb e) f0 f1 f3 f4 f5⟩
 self:=fun _ _ _ _ _ st h=>wpAny_pyIter_rangeiter st h
end
section
variable{X:Cx}{tg:Expr}
section
variable{pins:FB}{σ:St}{H:Hp}{s:Shared}{fp:List Addr}{h:Heap}
theorem DW{R:It->Hp->Prop}{E:OB}{lo hi:Int}{t u v:Tok}{tk:Nat}(I:Inv X pins σ H s)(h1:-(2 ^ 62)<=lo)(h2:lo<2 ^ 62)(h3:-(2 ^ 62)<=hi)(h4:hi<2 ^ 62)
  (q:R (Nj lo (hi - lo).toNat) H):wpAny (model X.prog X.w) X.A (pyIter (.ref s.heap.objs.size)) (Uj X pins σ tg R) E { s with heap:=s.heap.push { cls:=.type "range",data:=.fields #[.int lo t,.int hi u,.int 1 v] },toks:=tk }:=by
 refine wpAny_pyIter_range (IsRange.new ..) (small_one h1 h2 h3 h4) ?_;have I1:Inv X pins σ H { s with heap:=s.heap.push { cls:=.type "range",data:=.fields #[.int lo t,.int hi u,.int 1 v] },toks:=tk }:=I.kept fun b o e=>QH _ e;refine⟨(s.heap.push { cls:=.type "range",data:=.fields #[.int lo t,.int hi u,.int 1 v] }).objs.size,[(s.heap.push { cls:=.type "range",data:=.fields #[.int lo t,.int hi u,.int 1 v] }).objs.size],_,_,H,rfl,
  I1.kept (t':=tk) fun b o e=>QH _ e,OQ _ lo (hi - lo).toNat,?_,fun b hb=>?_,q⟩
 have e1:lo+((0:Nat):Int) * 1=lo:=by simp
 have e2:(((hi - lo).toNat:Nat):Int) - ((0:Nat):Int)=Builtin.Range.rangeSize lo hi 1:=by rw[rangeSize_one];split<;>omega
 show IsRangeIter _ _ (lo+((0:Nat):Int) * 1) ((((hi - lo).toNat:Nat):Int) - ((0:Nat):Int)) 1;rw[e1,e2];exact QO _ rfl;have e:b=(s.heap.push { cls:=.type "range",data:=.fields #[.int lo t,.int hi u,.int 1 v] }).objs.size:=by simpa using hb
 subst e;exact I1.fpOk (QS _) (I1.hok.fresh (QS _))
def jh(wi:TI)(g:TG)(tb:TS):TS:=fun D σ H=>wi σ H fun J H1=>∃W:Nat->Nat->St->Hp->Prop,(∃m,W 0 m σ H1)/\∀i m σ H,W i m σ H ->
 (J.stop i H/\D.nx σ H)∨(J.go i H/\∃N:St->Hp->Prop,(∀σ' H',N σ' H'->∃m',m' < m/\W (i+1) m' σ' H')/\∀x H',J.yld i H x H'->g x σ H' fun σ2 H2=>tb { D with nx:=N,ct:=N,bk:=D.nx } σ2 H2)
def lK(fp:List Addr)(h:Heap):FB:=fp.filterMap fun b=>(h.get? b).map fun o=>(b,o)
theorem DE{b:Addr}{o:Obj}(hb:b∈fp)(e:h.get? b=some o):(b,o)∈lK fp h:=QBP.mpr ⟨b,hb,by rw[e];rfl⟩
theorem EU{p:Addr×Obj}(hp:p∈lK fp h):p.1∈fp/\h.get? p.1=some p.2:=by
 obtain⟨b,hb,e⟩:=QBP.mp hp;cases q:h.get? b with
 |none=>rw[q]at e;cases e
 |some o=>rw[q]at e;have e':(b,o)=p:=qL e;subst e';exact⟨hb,q⟩
theorem Inv.pinned(I:Inv X pins σ H s)(hf:∀b∈fp,kI X pins H b)(ho:∀b∈fp,∃o,s.heap.get? b=some o/\∀v,o.data≠.cell v):Inv X (pins++lK fp s.heap) σ H s :=
 I.pins_of fun p hp=>(Qf.mp hp).elim (fun z=>I.pin p (QX _ z)) fun z=>by obtain⟨hb,e⟩:=EU z;obtain⟨f0,f1,f2,_⟩:=hf p.1 hb;obtain⟨o,e',d⟩:=ho p.1 hb;rw[e]at e';cases e';exact⟨e,f0,f1,f2,d⟩
theorem Inv.unpinned{pl:FB}(I:Inv X (pins++pl) σ H s):Inv X pins σ H s:=I.pins_of fun p hp=>I.pin p (QX _ (Qp _ hp))
theorem E7{iter:Expr}{body:List Stmt}{wi:TI}{g:TG}{tb:TS}{pos:Pos}(hp:PassesOwn (model X.prog X.w) X.A X.env X.xe)(hc:X.calm=true)(hi:Xg X tg iter wi)(hg:PG X tg g)(hb:rS X body tb)
  (hs:∀x,foldedSetIterable iter X.env x=pure x:=by intro _;rfl):PS X (.For tg iter body [] pos) (jh wi g tb):=by
 intro pins s σ H D I h;refine wpAny_For (BB (hi pins s σ H _ I h) fun v s1 h1=>BB h1 fun itv s2 h2=>?_) hs;obtain⟨it,fp,tn,J,H2,e,I2,T,st2,f2,W,⟨m0,w0⟩,turn⟩:=h2;subst e;have stat:∀{H':Hp},(∀b∈fp,H' b=none)->∀b∈fp,kI X pins H' b:=fun hn b hb=>⟨hn b hb,(f2 b hb).2⟩
 refine codeAny_forLoop_any (fun n s'=>∃i σ' H',Inv X pins σ' H' s'/\tn i s'.heap/\(∀b∈fp,H' b=none)/\W i n σ' H') ?_ m0 ⟨0,σ,H2,I2,st2,fun b hb=>(f2 b hb).1,w0⟩;rintro n s3 ⟨i,σ3,H3,I3,st3,fr3,w3⟩;rcases turn i n σ3 H3 w3 with⟨stop,qn⟩| ⟨go,N,hN,step⟩
 refine wa hp (BB (T.done X rfl rfl rfl hc i pins s3 σ3 H3 X.xe I3 (stat fr3) st3 stop) fun r s4 ⟨hr,I4⟩=>?_);subst hr;exact QAE ⟨σ3,H3,I4,qn⟩;refine wa hp (BB (T.item X rfl rfl rfl hc i pins s3 σ3 H3 X.xe I3 (stat fr3) st3 go) fun r s4 ⟨u,hr,h4⟩=>?_);subst hr;refine wa hp (BB h4 fun _ s5 ⟨x,H5,I5,r5,y5,st5,fr5⟩=>?_);have I5':=I5.pinned (stat fr5) (T.obj _ _ st5);refine wa hp (BB (hg _ s5 σ3 H5 x u _ I5' r5 (step x H5 y5)) fun _ s6 ⟨σ6,H6,I6,q6⟩=>?_);refine wa hp (BB (hb _ s6 σ6 H6 _ I6 q6) fun f s7 q7=>?_);have again:∀{σ7:St}{H7:Hp},Inv X (pins++lK fp s5.heap) σ7 H7 s7->N σ7 H7->∃m,m<n/\∃i σ' H',Inv X pins σ' H' s7/\tn i s7.heap/\(∀b∈fp,H' b=none)/\W i m σ' H':=fun {σ7 H7} I7 n7=>by obtain⟨m',hm,w7⟩:=hN σ7 H7 n7;refine⟨m',hm,i+1,σ7,H7,I7.unpinned,T.keep _ _ _ st5 fun b hb o e=>(I7.pin (b,o) (QX _ (QX _ (DE hb e)))).1,fun b hb=>?_,w7⟩;obtain⟨o,e,d⟩:=T.obj _ _ st5 b hb;exact(I7.pin (b,o) (QX _ (QX _ (DE hb e)))).2.1
 cases f with
 |next=>obtain⟨σ7,H7,I7,n7⟩:=q7;exact again I7 n7
 |cont=>obtain⟨σ7,H7,I7,n7⟩:=q7;exact again I7 n7
 |brk=>obtain⟨σ7,H7,I7,q7⟩:=q7;exact⟨σ7,H7,I7.unpinned,q7⟩
 |ret v=>obtain⟨x7,σ7,H7,I7,r7,q7⟩:=q7;exact⟨x7,σ7,H7,I7.unpinned,r7,q7⟩
end
end
noncomputable abbrev R2:=V->V->Hp->VK->Prop
def bF(X:Cx)(f:Value->Value->Sem Value)(r:R2):Prop :=
 ∀(pins:FB) (s:Shared) (σ:St) (H:Hp) (x y:V) (v u:Value) (Q:VK),Inv X pins σ H s->rA x v->rA y u->r x y H Q ->
  wpAny (model X.prog X.w) X.A (f v u) (EP X pins σ Q) X.xe s
def BG(X:Cx)(f:Value)(r:List V->Hp->VK->Prop):Prop :=
 ∀(pins:FB) (s:Shared) (σ:St) (H:Hp) (xs:List V) (us:List Value) (Q:VK),Inv X pins σ H s->bA xs us->r xs H Q ->
  wpAny (model X.prog X.w) X.A (call f us) (EP X pins σ Q) X.xe s
def sj(X:Cx)(r:V->Hp->(Bool->Hp->Prop)->Prop):Prop :=
 ∀(pins:FB) (s:Shared) (σ:St) (H:Hp) (x:V) (v:Value) (Q:Bool->Hp->Prop),Inv X pins σ H s->rA x v->r x H Q ->
  wpAny (model X.prog X.w) X.A (truthy v) (TP X pins σ Q) X.xe s
def vc(r:R2)(ta tb:TE):TE:=fun σ H Q=>ta σ H fun x H1=>tb σ H1 fun y H2=>r x y H2 Q
def rI(C:Int->Int->Prop)(g:Int->Int->V):R2:=fun x y H Q=>∃i j,x=.int i/\y=.int j/\C i j/\Q (g i j) H
def i0(g:Int->Int->V):R2:=fun x y H Q=>∃i j,x=.int i/\y=.int j/\Q (g i j) H
section
variable{X:Cx}{a b c:Expr}{ta tb tc:TE}{pos:Pos}
section
variable{f:Value->Value->Sem Value}{g:Int->Int->Int}
theorem binT(ha:PE X a ta)(hb:PE X b tb){pins:FB}{s:Shared}{σ:St}{H:Hp}{R:V->V->Hp->Prop}(I:Inv X pins σ H s)
  (h:ta σ H fun x H1=>tb σ H1 fun y H2=>R x y H2) {Q:OB}
  (hf:∀v u s2 x y H2,Inv X pins σ H2 s2->rA x v->rA y u->R x y H2->wpAny (model X.prog X.w) X.A (f v u) Q X.xe s2) :
  wpAny (model X.prog X.w) X.A (eval a X.env) (fun v s₁=>wpAny (model X.prog X.w) X.A (eval b X.env) (fun u s₂=>wpAny (model X.prog X.w) X.A (f v u) Q X.xe s₂) X.xe s₁) X.xe s:=by
 refine BB (ha pins s σ H _ I h) fun v s1 ⟨x,H1,I1,r1,q1⟩=>?_;refine BB (hb pins s1 σ H1 _ I1 q1) fun u s2 ⟨y,H2,I2,r2,q2⟩=>?_;exact hf v u s2 x y H2 I2 r1 r2 q2
theorem jd{op:Operator}{r:R2}(ho:bF X (binaryOp op) r)(ha:PE X a ta)(hb:PE X b tb):PE X (.BinOp a op b pos) (vc r ta tb):=by intro pins s σ H Q I h;exact wpAny_BinOp (binT ha hb I h fun v u s2 x y H2 I2 rx ry q=>ho pins s2 σ H2 x y v u Q I2 rx ry q)
theorem Ek{C:Int->Int->Prop}
  (rule:∀(i j:Int) (t u:Tok) (s:Shared) (Q:OB) (E:OB),C i j->Q (.int (g i j) s.toks) { s with toks:=s.toks+1 }->wpAny (model X.prog X.w) X.A (f (.int i t) (.int j u)) Q E s) :
  bF X f (rI C fun i j=>.int (g i j)):=by
 intro pins s σ H x y v u Q I rx ry h;obtain⟨i,j,rfl,rfl,hc,q⟩:=h;obtain⟨t,rfl⟩:=rx;obtain⟨t',rfl⟩:=ry;exact rule i j t t' s _ _ hc ⟨.int (g i j),H,I.tok _,⟨_,rfl⟩,q⟩
theorem ad
  (rule:∀(i j:Int) (t u:Tok) (s:Shared) (Q:OB) (E:OB),Q (.int (g i j) s.toks) { s with toks:=s.toks+1 }->wpAny (model X.prog X.w) X.A (f (.int i t) (.int j u)) Q E s) :
  bF X f (i0 fun i j=>.int (g i j)):=by
 intro pins s σ H x y v u Q I rx ry h;obtain⟨i,j,rfl,rfl,q⟩:=h;obtain⟨t,rfl⟩:=rx;obtain⟨t',rfl⟩:=ry;exact rule i j t t' s _ _ ⟨.int (g i j),H,I.tok _,⟨_,rfl⟩,q⟩
theorem M1{g:Int->Int->Bool}
  (rule:∀(i j:Int) (t u:Tok) (s:Shared) (Q:OB) (E:OB),Q (.bool (g i j)) s->wpAny (model X.prog X.w) X.A (f (.int i t) (.int j u)) Q E s) :
  bF X f (i0 fun i j=>.bl (g i j)):=by
 intro pins s σ H x y v u Q I rx ry h;obtain⟨i,j,rfl,rfl,q⟩:=h;obtain⟨t,rfl⟩:=rx;obtain⟨t',rfl⟩:=ry;exact rule i j t t' s _ _ ⟨.bl (g i j),H,I,rfl,q⟩
def GL(i j:Int):Prop:=(-(2 ^ 64)<i/\i<2 ^ 64)∨(-(2 ^ 64)<j/\j<2 ^ 64)
theorem GL.ok{i j:Int}(h:GL i j):IntMulOk i j:=by
 rcases h with⟨h1,h2⟩| ⟨h1,h2⟩
 exact .of_left (intBits_le_64 h1 h2);exact .of_right (intBits_le_64 h1 h2)
theorem op_add:bF X (binaryOp .Add) (i0 fun i j=>.int (i+j)):=ad fun _ _ _ _ _ _ _ q=>add_int q
theorem op_sub:bF X (binaryOp .Sub) (i0 fun i j=>.int (i - j)):=ad fun _ _ _ _ _ _ _ q=>sub_int q
theorem op_mod:bF X (binaryOp .Mod) (rI (fun _ j=>0<j) fun i j=>.int (i % j)):=Ek fun i j _ _ _ _ _ hc q=>by have h1:(0:Int)<j:=hc;exact mod_int' (by omega) (by rw[Int.fmod_eq_emod_of_nonneg i (by omega)];exact q)
end
end
def IZ:V->V->Bool
 | .non,.non=>true | .non,.int _=>true | .int _,.non=>true | .non,.bl _=>true | .bl _,.non=>true | .non,.str _=>true | .str _,.non=>true
 | .int _,.int _=>true | .bl _,.bl _=>true | .str _,.str _=>true | .byt _,.byt _=>true
 | .int _,.str _=>true | .str _,.int _=>true | .bl _,.str _=>true | .str _,.bl _=>true
 |_,_=>false
def rEq:R2:=fun x y H Q=>IZ x y=true/\Q (.bl (decide (x=y))) H
def Sk:R2:=fun x y H Q=>IZ x y=true/\Q (.bl (!decide (x=y))) H
theorem AT{i j:Int}:decide (V.int i=V.int j)=(i==j):=by rw[qz];simp
theorem BY{i j:Bool}:decide (V.bl i=V.bl j)=(i==j):=by rw[qz];simp
theorem ST{i j:Str}:decide (V.str i=V.str j)=(i==j):=by rw[qz];simp
theorem ET{i j:Array UInt8}:decide (V.byt i=V.byt j)=(i.toList==j.toList):=by rw[qz];cases i;cases j;simp
section
variable{X:Cx}{a b c:Expr}{ta tb tc:TE}{pos:Pos}
section
variable{op:CmpOp}{us:List Value}
theorem sA{pins:FB}{σ:St}{H:Hp}{s:Shared}{Q:VK}{k k':Bool}(I:Inv X pins σ H s)(q:Q (.bl k) H)(e:k=k'):EP X pins σ Q (.bool k') s:=by subst e;exact⟨.bl k,H,I,rfl,q⟩
theorem op_eq:bF X (compareOp .Eq) rEq:=by
 intro pins s σ H x y v u Q I rx ry h;obtain⟨hs,q⟩:=h;cases x with
 |non =>
  cases rx;cases y with
  |non=>cases ry;exact PySem.EqNone.eq_none_none (sA I q (by simp))
  |bl j=>cases ry;exact PySem.EqNone.eq_none_bool (sA I q (by simp))
  |int j=>obtain⟨t',rfl⟩:=ry;exact PySem.EqNone.eq_none_int (sA I q (by simp))
  |str j=>obtain⟨t',rfl⟩:=ry;exact PySem.EqNone.eq_none_str (sA I q (by simp))
  |_=>exact absurd (show false=true from hs) QC
 |bl i =>
  cases rx;cases y with
  |non=>cases ry;exact PySem.EqNone.eq_bool_none (sA I q (by simp))
  |bl j=>cases ry;exact eq_bool (sA I q BY)
  |str j=>obtain⟨t',rfl⟩:=ry;exact PySem.EqMixed.eq_bool_str (sA I q (by simp))
  |_=>exact absurd (show false=true from hs) QC
 |int i =>
  obtain⟨t,rfl⟩:=rx;cases y with
  |non=>cases ry;exact PySem.EqNone.eq_int_none (sA I q (by simp))
  |int j=>obtain⟨t',rfl⟩:=ry;exact eq_int (sA I q AT)
  |str j=>obtain⟨t',rfl⟩:=ry;exact PySem.EqMixed.eq_int_str (sA I q (by simp))
  |_=>exact absurd (show false=true from hs) QC
 |str i =>
  obtain⟨t,rfl⟩:=rx;cases y with
  |non=>cases ry;exact PySem.EqNone.eq_str_none (sA I q (by simp))
  |bl j=>cases ry;exact PySem.EqMixed.eq_str_bool (sA I q (by simp))
  |int j=>obtain⟨t',rfl⟩:=ry;exact PySem.EqMixed.eq_str_int (sA I q (by simp))
  |str j=>obtain⟨t',rfl⟩:=ry;exact eq_str (sA I q ST)
  |_=>exact absurd (show false=true from hs) QC
 |byt i =>
  obtain⟨t,rfl⟩:=rx;cases y with
  |byt j=>obtain⟨t',rfl⟩:=ry;exact PySem.W.eq_bytes (sA I q ET)
  |_=>exact absurd (show false=true from hs) QC
 |_=>cases y<;>exact absurd (show false=true from hs) QC
theorem op_ne:bF X (compareOp .NotEq) Sk:=by
 intro pins s σ H x y v u Q I rx ry h;obtain⟨hs,q⟩:=h;cases x with
 |non =>
  cases rx;cases y with
  |non=>cases ry;exact PySem.EqNone.ne_none_none (sA I q (by simp))
  |bl j=>cases ry;exact PySem.EqNone.ne_none_bool (sA I q (by simp))
  |int j=>obtain⟨t',rfl⟩:=ry;exact PySem.EqNone.ne_none_int (sA I q (by simp))
  |str j=>obtain⟨t',rfl⟩:=ry;exact PySem.EqNone.ne_none_str (sA I q (by simp))
  |_=>exact absurd (show false=true from hs) QC
 |bl i =>
  cases rx;cases y with
  |non=>cases ry;exact PySem.EqNone.ne_bool_none (sA I q (by simp))
  |bl j=>cases ry;exact ne_bool (sA I q (congrArg not BY))
  |str j=>obtain⟨t',rfl⟩:=ry;exact PySem.EqMixed.ne_bool_str (sA I q (by simp))
  |_=>exact absurd (show false=true from hs) QC
 |int i =>
  obtain⟨t,rfl⟩:=rx;cases y with
  |non=>cases ry;exact PySem.EqNone.ne_int_none (sA I q (by simp))
  |int j=>obtain⟨t',rfl⟩:=ry;exact ne_int (sA I q (congrArg not AT))
  |str j=>obtain⟨t',rfl⟩:=ry;exact PySem.EqMixed.ne_int_str (sA I q (by simp))
  |_=>exact absurd (show false=true from hs) QC
 |str i =>
  obtain⟨t,rfl⟩:=rx;cases y with
  |non=>cases ry;exact PySem.EqNone.ne_str_none (sA I q (by simp))
  |bl j=>cases ry;exact PySem.EqMixed.ne_str_bool (sA I q (by simp))
  |int j=>obtain⟨t',rfl⟩:=ry;exact PySem.EqMixed.ne_str_int (sA I q (by simp))
  |str j=>obtain⟨t',rfl⟩:=ry;exact ne_str (sA I q (congrArg not ST))
  |_=>exact absurd (show false=true from hs) QC
 |byt i =>
  obtain⟨t,rfl⟩:=rx;cases y with
  |byt j=>obtain⟨t',rfl⟩:=ry;exact PySem.W.ne_bytes (sA I q (congrArg not ET))
  |_=>exact absurd (show false=true from hs) QC
 |_=>cases y<;>exact absurd (show false=true from hs) QC
theorem op_lt:bF X (compareOp .Lt) (i0 fun i j=>.bl (decide (i<j))):=M1 fun _ _ _ _ _ _ _ q=>lt_int q
theorem op_le:bF X (compareOp .LtE) (i0 fun i j=>.bl (decide (i<=j))):=M1 fun _ _ _ _ _ _ _ q=>le_int q
theorem op_gt:bF X (compareOp .Gt) (i0 fun i j=>.bl (decide (j<i))):=M1 fun _ _ _ _ _ _ _ q=>gt_int q
theorem op_ge:bF X (compareOp .GtE) (i0 fun i j=>.bl (decide (j<=i))):=M1 fun _ _ _ _ _ _ _ q=>ge_int q
theorem PU:bF X (compareOp .In) (fun x y H Q=>∃i j,x=.str i/\y=.str j/\Q (.bl (!(wq j i 0 j.length 1).isEmpty)) H):=by intro pins s σ H x y v u Q I rx ry h;obtain⟨i,j,rfl,rfl,q⟩:=h;obtain⟨t,rfl⟩:=rx;obtain⟨t',rfl⟩:=ry;exact in_str (sA I q rfl)
theorem fN:bF X (compareOp .NotIn) (fun x y H Q=>∃i j,x=.str i/\y=.str j/\Q (.bl (!(!(wq j i 0 j.length 1).isEmpty))) H):=by intro pins s σ H x y v u Q I rx ry h;obtain⟨i,j,rfl,rfl,q⟩:=h;obtain⟨t,rfl⟩:=rx;obtain⟨t',rfl⟩:=ry;exact notIn_str (sA I q rfl)
theorem V1{r:R2}(ho:bF X (compareOp op) r)(ha:PE X a ta)(hb:PE X b tb)(hm:behindInMarks op b=false):PE X (.Compare a [op] [b] pos) (vc r ta tb):=by intro pins s σ H Q I h;exact wpAny_Compare1 (binT ha hb I h fun v u s2 x y H2 I2 rx ry q=>ho pins s2 σ H2 x y v u Q I2 rx ry q) hm
def zc(t:TE):TT:=fun σ H Q=>t σ H fun x H'=>∃k,x=.bl k/\Q k H'
theorem Z0{r:R2}(ho:bF X (compareOp op) r)(ha:PE X a ta)(hb:PE X b tb)(hm:behindInMarks op b=false):PT X (.Compare a [op] [b] pos) (zc (vc r ta tb)):=by
 intro pins s σ H Q I h;refine wpAny_isTrue_Compare1 (BB (ha pins s σ H _ I h) fun v s1 ⟨x,H1,I1,r1,q1⟩=>BB (hb pins s1 σ H1 _ I1 q1) fun u s2 ⟨y,H2,I2,r2,q2⟩ =>
  BB (ho pins s2 σ H2 x y v u _ I2 r1 r2 q2) fun c s3 ⟨z,H3,I3,r3,k,e,q3⟩=>?_) hm
 subst e;cases r3;exact wZ ⟨H3,I3,q3⟩
def Pa(K:QF)(x:V)(H:Hp)(k:Bool):Prop :=
 match x with
 | .non=>k=false
 | .bl b=>k=b
 | .int i=>k=(i != 0)
 | .str y=>y.length<=sizeLine/\k=((y.length:Int) != 0)
 | .byt y=>y.size<=sizeLine/\k=((y.size:Int) != 0)
 | .ref p=>(∃xs,HC K H p xs/\k=!xs.isEmpty)∨(∃xs,TC K H p xs/\k=!xs.isEmpty)∨∃kvs,H p=some (.dK kvs)/\k=!kvs.isEmpty
 |_=>False
theorem BR{κ:Type}{kvs:List (κ×V)}{vs:List (κ×Value)}(r:KV kvs vs):(!vs.isEmpty)=!kvs.isEmpty:=by cases r<;>rfl
theorem LK{xs:List V}{its:List Value}(r:bA xs its):(!its.toArray.isEmpty)=!xs.isEmpty:=by cases r<;>simp
theorem EG:(sizeLine:Nat)<2 ^ 63:=by rw[QV];decide
theorem bW:sj X (fun x H Q=>∃k,Pa X.K x H k/\Q k H):=by
 intro pins s σ H x v Q I rx h;obtain⟨k,e,q⟩:=h;have hl:=EG;have hs:sizeLine=16777216:=QV;cases x with
 |non=>cases rx;have e':k=false:=e;subst e';exact truthy_none ⟨H,I,q⟩
 |bl b=>cases rx;have e':k=b:=e;subst e';exact wZ ⟨H,I,q⟩
 |int i=>obtain⟨t,rfl⟩:=rx;have e':k=(i != 0):=e;subst e';exact PySem.P.truthy_int ⟨H,I,q⟩
 |str y=>obtain⟨t,rfl⟩:=rx;obtain⟨hy,e'⟩:y.length<=sizeLine/\k=((y.length:Int) != 0):=e;subst e';exact PySem.P.truthy_str (by omega) ⟨H,I.tok _,q⟩
 |byt y=>obtain⟨t,rfl⟩:=rx;obtain⟨hy,e'⟩:y.size<=sizeLine/\k=((y.size:Int) != 0):=e;subst e';exact PySem.W.truthy_bytes (by omega) ⟨H,I.tok _,q⟩
 |ref p =>
  cases rx;have e':(∃xs,HC X.K H p xs/\k=!xs.isEmpty)∨(∃xs,TC X.K H p xs/\k=!xs.isEmpty)∨∃kvs,H p=some (.dK kvs)/\k=!kvs.isEmpty:=e;rcases e' with⟨xs,hx,e'⟩| ⟨xs,hx,e'⟩| ⟨kvs,hx,e'⟩
  subst e';obtain⟨its,r,pl,hz⟩:=I.list hx;have hlen:=r.length;exact wpAny_truthy_list pl.isList (by simp only[QU];omega) ⟨H,I.tok _,by rw[LK r];exact q⟩;subst e';obtain⟨its,r,pl,hz⟩:=I.tuple hx;have hlen:=r.length;exact truthy_tuple pl (by simp only[QU];omega) ⟨H,I.tok _,by rw[LK r];exact q⟩;subst e';obtain⟨hz,hS,vs,r,m⟩:kvs.length<=sizeLine/\(p==sysModules)=false/\∃vs,KV kvs vs/\s.heap.DictOf (kB X.prog X.w) p vs:=I.hok p _ hx;have hlen:kvs.length=vs.length:=qJ r;exact wpAny_truthy_dict hS m (by omega) ⟨H,I.tok _,by rw[BR r];exact q⟩
 |_=>exact(show False from e).elim
theorem cR:bF X (binaryOp .Add) (fun x y H Q=>∃i j,x=.str i/\y=.str j/\i.length+j.length<=sizeLine/\Q (.str (i++j)) H):=by intro pins s σ H x y v u Q I rx ry h;obtain⟨i,j,rfl,rfl,hz,q⟩:=h;obtain⟨t,rfl⟩:=rx;obtain⟨t',rfl⟩:=ry;exact add_str (fun t' tk=>⟨.str (i++j),H,I.tok _,⟨_,rfl⟩,q⟩) hz
theorem RI{x:V}(r:bA [x] us):∃u,us=[u]/\rA x u:=by
 cases r with
 |cons r1 r2=>cases r2;exact⟨_,rfl,r1⟩
theorem Ib{x y:V}(r:bA [x,y] us):∃u w',us=[u,w']/\rA x u/\rA y w':=by
 cases r with
 |cons r1 r2 =>
  cases r2 with
  |cons r3 r4=>cases r4;exact⟨_,_,rfl,r1,r3⟩
end
end
section
variable{prog:Program}{w:World}{A:Around}{E:OB}{s:Shared}{K:QF}{x dx C f:Addr}{mA:Str->Option Value}{name:Str}{v:Value}
end
section
variable{P:Program}{w:World}{H H':Hp}{h h':Heap}{a C dx:Addr}{fs fs':List (Str×V)}
end
section
variable{X:Cx}{pins:FB}{σ:St}{H:Hp}{s:Shared}{a C dx:Addr}{fs:List (Str×V)}{f:Str}{v:V}{A:Around}{E:OB}
end
section
variable{X:Cx}{o e value:Expr}{f:Str}{pos pos' tpos:Pos}{ta tv:TE}
end
section
variable{X:Cx}{pins:FB}{σ:St}{H:Hp}{s:Shared}{A:Around}{E:OB}{Q:OB}{c:Value}{b:Bool}
end
section
variable{k:Nat}{A:Around}
structure Room(k:Nat)(A:Around):Prop where
 hd:A.handled=none
 dp:A.depth+3 * k+5<recursionLimit
 un:A.units+16 * k+200<cLine
theorem Room.mono{j:Nat}(r:Room k A)(h:j<=k):Room j A:=⟨r.hd,by have:=r.dp;omega,by have:=r.un;omega⟩
theorem Room.deeper(r:Room (k+1) A)(env:Env):Room k (A.deeper env) :=
 ⟨r.hd,by have:=r.dp;show A.depth+1+3 * k+5<_;omega,by have:=r.un;show A.units+3+16 * k+200<_;omega⟩
theorem Room.depth(r:Room k A):A.depth<recursionLimit:=by have:=r.dp;omega
def xc:TA:=fun _ H Q=>Q [] H
def cc(ta:TE)(tr:TA):TA:=fun σ H Q=>ta σ H fun x H1=>tr σ H1 fun xs H2=>Q (x::xs) H2
end
section
variable{X:Cx}{e:Expr}{es:List Expr}{te:TE}{t:TA}{pos:Pos}
theorem J8:PA X [] xc:=fun _ _ _ _ H Q I h=>QAX ⟨[],H,I,.nil,h⟩
theorem C1(ha:PE X e te)(hr:PA X es t)(hs:starEach (e::es) X.env=(false,eval e X.env)::starEach es X.env:=by rfl):PA X (e::es) (cc te t):=by intro pos pins s σ H Q I h;rw[hs];show wpAny _ _ (spliced ((false,eval e X.env)::backTo pos (starEach es X.env))) _ _ s;refine QAO (BB (ha pins s σ H _ I h) fun u s1 ⟨x,H1,I1,r1,q1⟩=>?_);exact BB (hr pos pins s1 σ H1 _ I1 q1) fun us s2 ⟨xs,H2,I2,r2,q2⟩=>⟨x::xs,H2,I2,.cons r1 r2,q2⟩
def Og(t:TA):TE:=fun σ H Q=>t σ H fun xs H1=>xs.length<=sizeLine/\∀p,H1 p=none->Q (.ref p) (UA H1 p (.tup xs))
def Eg(t:TA):TE:=fun σ H Q=>t σ H fun xs H1=>xs.length<=sizeLine/\∀p,H1 p=none->Q (.ref p) (UA H1 p (.lst xs))
theorem g8{x1}(h:PA X es t):PE X (.Tuple es x1 pos) (Og t):=by intro pins s σ H Q I hq;refine wpAny_Tuple_spliced (BB (h pos pins s σ H _ I hq) fun us s1 ⟨xs,H1,I1,r,z,q⟩=>⟨by rw[<- r.length];exact z,?_⟩);have hf:H1 s1.heap.objs.size=none:=I1.hok.fresh (QS _);refine⟨.ref s1.heap.objs.size,UA H1 s1.heap.objs.size (.tup xs),I1.laid (t':=s1.toks) (fun b u e=>QH _ e) (QS _) ?_,rfl,q _ hf⟩;exact⟨z,us,r,⟨_,QO _ rfl,rfl,_,rfl⟩⟩
theorem n8(h:PA X es t):PE X (.List es pos) (Eg t):=by intro pins s σ H Q I hq;refine wpAny_List_spliced (BB (h pos pins s σ H _ I hq) fun us s1 ⟨xs,H1,I1,r,z,q⟩=>⟨by rw[<- r.length];exact z,?_⟩);have hf:H1 s1.heap.objs.size=none:=I1.hok.fresh (QS _);refine⟨.ref s1.heap.objs.size,UA H1 s1.heap.objs.size (.lst xs),I1.laid (t':=s1.toks) (fun b u e=>QH _ e) (QS _) ?_,rfl,q _ hf⟩;exact⟨z,us,0,r,QO _ rfl⟩
end
noncomputable abbrev Sp:=List V->Hp->VK->XK->Prop
noncomputable abbrev pZ:=List Env->Hp->Shared->XK->Value->Shared->Prop
structure Env0(P:Program)(w:World)(K:QF)(mg:Str->Option Value)(base:Heap)(A:Around)(outer:List Env)(s:Shared)(H:Hp):Prop where
 frames:A.frames=some outer
 mod:Mod K mg base
 bs:∀b o,base.get? b=some o->s.heap.get? b=some o/\H b=none
 bsz:base.objs.size<=s.heap.objs.size
 funs:s.heap.FunFrames base outer
 frf:∀b∈aV outer,H b=none
 hok:rL P w H s.heap
 bare:AllBare s.gens
def CE(outer:List Env)(P:Program)(w:World)(H:Hp)(s:Shared)(Q:VK)(u:Value)(s':Shared):Prop :=
 ∃v H',s'.os=s.os/\AllBare s'.gens/\Un (aV outer) [] H H' s.heap s'.heap/\rL P w H' s'.heap/\rA v u/\Q v H'
def CR(CX:pZ)(outer:List Env)(P:Program)(w:World)(H:Hp)(s:Shared)(Q:VK)(E:XK)(r:Result)(s':Shared):Prop :=
 match r with
 | .ok (.ret u)=>CE outer P w H s Q u s'
 | .ok _=>False
 | .error e=>CX outer H s E e s'
structure FnOk(P:Program)(w:World)(K:QF)(mg:Str->Option Value)(base:Heap)(CX:pZ)(k:Nat)(f:Addr)(fd:FuncData)(ps:List Str)(sp:Sp):Prop where
 len:∀vs H Q E,sp vs H Q E->vs.length=ps.length
 run:∀(A:Around) (outer:List Env) (s:Shared) (H:Hp) (args:Args) (us:List Value) (vs:List V) (Q:VK) (E:XK),Room k A->Env0 P w K mg base A outer s H->BindsTo s fd args (ps.zip us)->bA vs us->sp vs H Q E ->
  codeAny (model P w) A (.call (.ref f) args) (CR CX outer P w H s Q E) s
theorem FnOk.mono{P:Program}{w:World}{K:QF}{mg:Str->Option Value}{base:Heap}{CX:pZ}{j k:Nat}{f:Addr}{fd:FuncData}{ps:List Str}{sp:Sp}(F:FnOk P w K mg base CX j f fd ps sp)(h:j<=k) :
  FnOk P w K mg base CX k f fd ps sp:=⟨F.len,fun A outer s H args us vs Q E hr=>F.run A outer s H args us vs Q E (hr.mono h)⟩
section
variable{X:Cx}{pins:FB}{σ:St}{H:Hp}{s s':Shared}
theorem Inv.env0(I:Inv X pins σ H s):Env0 X.prog X.w X.K X.mg X.base X.A X.stack s H :=
 ⟨I.ok.frames,I.ok.mod,I.bs,QZ I.ok.bsz I.sz,I.stack,I.stkFree,I.hok,I.bare⟩
theorem Inv.after{Q:VK}{u:Value}(I:Inv X pins σ H s)(h:CE X.stack X.prog X.w H s Q u s'):EP X pins σ Q u s':=by obtain⟨v,H',os,bare,un,hok,r,q⟩:=h;obtain⟨hh,g,d,t,os'⟩:=s';obtain rfl:os'=s.os:=os;exact⟨v,H',I.call (h':=hh) (g':=g) (d':=d) (t':=t) (ch:=[]) un hok bare (fun b z=>absurd z (by simp)),r,q⟩
end
def K5(sp:Sp)(dvs:List V)(E:XK)(t:TA):TE:=fun σ H Q=>t σ H fun vs H1=>sp (vs++dvs) H1 Q E
def vI(K:QF)(fd:FuncData)(ps:List Str)(ds:List Value):Prop :=
 ∀(s:Shared) (us:List Value),K.In s.heap->(us++ds).length=ps.length->BindsTo s fd ⟨us,[]⟩ (ps.zip (us++ds))
theorem vI.all{K:QF}{fd:FuncData}{ps:List Str}(h:∀us:List Value,us.length=ps.length->bindArgs fd ⟨us,[]⟩=pure (ps.zip us)):vI K fd ps []:=fun s us _ hl=>by rw[wK]at hl ⊢;exact .of_eq (h us hl)
def lL(CX:pZ)(X:Cx)(E:XK):Prop:=∀(pins:FB) (σ:St) (H:Hp) (s:Shared) (e:Value) (s':Shared),Inv X pins σ H s->CX X.stack H s E e s'->X.xe e s'
section
variable{X:Cx}{CX:pZ}{k:Nat}{f C:Addr}{fd:FuncData}{ps:List Str}{sp:Sp}{dvs:List V}{ds:List Value}{E:XK}{x m:Str}{p pos apos:Pos}{e o:Expr}{es:List Expr}{ta:TE}{t:TA}
theorem KW{pins:FB}{σ:St}{H:Hp}{s:Shared}{Q:VK}{us:List Value}{vs:List V}(F:FnOk X.prog X.w X.K X.mg X.base CX k f fd ps sp)(hr:Room k X.A)(hb:vI X.K fd ps ds)(hd:bA dvs ds)(hx:lL CX X E)
  (I:Inv X pins σ H s) (r:bA vs us) (h:sp (vs++dvs) H Q E):wpAny (model X.prog X.w) X.A (call (.ref f) us) (EP X pins σ Q) X.xe s:=by
 have r2:bA (vs++dvs) (us++ds):=r.append hd;have hl:(us++ds).length=ps.length:=by rw[<- r2.length];exact F.len _ _ _ _ h
 refine wpAny_call (QAP (F.run X.A X.stack s H ⟨us,[]⟩ (us++ds) (vs++dvs) Q E hr I.env0 (hb s us I.kIn hl) r2 h) fun r s' hq=>?_);cases r with
 |error e=>exact hx pins σ H s e s' I hq
 |ok fl =>
  cases fl with
  |ret u=>exact I.after hq
  |next=>exact Qb hq
  |brk=>exact Qb hq
  |cont=>exact Qb hq
theorem U1(F:FnOk X.prog X.w X.K X.mg X.base CX k f fd ps sp)(hr:Room k X.A)(hg:Gl X x)(hm:X.mg x=some (.ref f))(hk:wx X.K (.ref f)=true)(hb:vI X.K fd ps ds)(hd:bA dvs ds)(hx:lL CX X E)
  (ha:PA X (e::es) t) (hdb:(x==("__debug__":Str))=false:=by decide) (he:starEach (e::es) X.env=(false,eval e X.env)::starEach es X.env:=by rfl) (hpl:(backTo pos (starEach es X.env)).any (·.1)=false:=by rfl) :
  PE X (.Call (.Name x p) (e::es) [] pos) (K5 sp dvs E t):=by
 intro pins s σ H Q I h;refine wO (KN I hg hm ?_ hdb);refine PySem.W.callWith_K (h₀:=X.base) I.ok.mod.kin hk (BB (ha pos pins s σ H _ I h) fun us s1 ⟨vs,H1,I1,r,q⟩=>⟨I1.kIn,?_⟩) he hpl;exact KW F hr hb hd hx I1 r q
theorem kX(F:FnOk X.prog X.w X.K X.mg X.base CX k f fd ps sp)(hr:Room k X.A)(hg:Gl X x)(hm:X.mg x=some (.ref f))(hk:wx X.K (.ref f)=true)(hb:vI X.K fd ps ds)(hd:bA dvs ds)(hx:lL CX X E)
  (hdb:(x==("__debug__":Str))=false:=by decide):PE X (.Call (.Name x p) [] [] pos) (K5 sp dvs E xc):=by
 intro pins s σ H Q I h;refine wO (KN I hg hm ?_ hdb);exact PySem.W.callWith_K0 I.kIn hk (KW (us:=[]) F hr hb hd hx I .nil h)
end
section
variable{X:Cx}{CX:pZ}{k:Nat}{f C:Addr}{fd:FuncData}{ps ks:List Str}{sp:Sp}{E:XK}{x m:Str}{p pos apos kpos:Pos}{e o:Expr}{es:List Expr}{kws:List Keyword}{te ta:TE}{t tk:TA}{nm:Option Str}
variable{g:List Value->List Value->List Value}{gV:List V->List V->List V}
end
section
variable{CX:pZ}{P:Program}{w:World}{mg:Str->Option Value}{base:Heap}{N ps:List Str}{qual:Str}{scope:Scope}{f:Addr}
structure FnScope(N P:List Str)(sc:Scope):Prop where
 kind:sc.kind=.function
 co:sc.isCoroutine=false
 gen:sc.isGenerator=false
 nd:N.Nodup
 pre:N.take P.length=P
 par:∀x∈P,sc.names.lookup x=some .local∨sc.names.lookup x=some .cell
 nofree:∀y∈sc.names,y.2≠.free
theorem iM{kindOf:Str->Option NameKind}{x:Str}:∀{binds:List (Str×Value)}{m:Str->Option Value},(∀v,(x,v)∉binds)->bindL kindOf binds m x=m x
 |[],_,_=>rfl
 | (n,v)::r,m,h=>by
  unfold bindL;rw[iM fun w hw=>h w (QG _ hw)];split;have:x≠n:=by rintro rfl;exact h v QE
  simp[this];rfl
theorem YM{kindOf:Str->Option NameKind}{x:Str}:∀{binds:List (Str×Value)}{m:Str->Option Value},(∀v,(x,v)∉binds)->bindC kindOf binds m x=m x
 |[],_,_=>rfl
 | (n,v)::r,m,h=>by
  unfold bindC;rw[YM fun w hw=>h w (QG _ hw)];split;rfl;have:x≠n:=by rintro rfl;exact h v QE
  simp[this]
theorem JM{kindOf:Str->Option NameKind}{x:Str}{v:Value}:∀{P:List Str}{vs:List Value}{i:Nat}{m:Str->Option Value},P.Nodup->P[i]?=some x->vs[i]?=some v->kindOf x=some .local ->
  bindL kindOf (P.zip vs) m x=some v
 |[],_,_,_,_,h,_,_=>by simp at h
 |_::_,[],_,_,_,_,h,_=>by simp at h
 |p::P,w::vs,0,m,nd,h1,h2,hk=>by simp at h1 h2;subst h1;subst h2;show bindL kindOf ((p,w)::P.zip vs) m p=_;unfold bindL;rw[iM fun v hv=>(Qk.mp nd).1 (QAv hv).1,if_pos hk];simp
 |p::P,w::vs,i+1,m,nd,h1,h2,hk=>by show bindL kindOf ((p,w)::P.zip vs) m x=_;unfold bindL;exact JM (i:=i) (Qk.mp nd).2 (by simpa using h1) (by simpa using h2) hk
theorem ZM{kindOf:Str->Option NameKind}{x:Str}{v:Value}:∀{P:List Str}{vs:List Value}{i:Nat}{m:Str->Option Value},P.Nodup->P[i]?=some x->vs[i]?=some v->kindOf x≠some .local ->
  bindC kindOf (P.zip vs) m x=some v
 |[],_,_,_,_,h,_,_=>by simp at h
 |_::_,[],_,_,_,_,h,_=>by simp at h
 |p::P,w::vs,0,m,nd,h1,h2,hk=>by simp at h1 h2;subst h1;subst h2;show bindC kindOf ((p,w)::P.zip vs) m p=_;unfold bindC;rw[YM fun v hv=>(Qk.mp nd).1 (QAv hv).1,if_neg hk];simp
 |p::P,w::vs,i+1,m,nd,h1,h2,hk=>by show bindC kindOf ((p,w)::P.zip vs) m x=_;unfold bindC;exact ZM (i:=i) (Qk.mp nd).2 (by simpa using h1) (by simpa using h2) hk
def CD(N:List Str)(vs:List V):St:=vs.map some++Qu (N.length - vs.length) none
def TR(CX:pZ)(P:Program)(w:World)(K:QF)(mg:Str->Option Value)(base:Heap)(N:List Str)(qual:Str)(scope:Scope)(f:Addr)(cd:Value)(A:Around)(outer:List Env)(s:Shared)(H:Hp)(E:XK):Cx where
 prog:=P
 w:=w
 K:=K
 mg:=mg
 base:=base
 A:=A.deeper (envOfC qual scope s.heap.objs.size f cd)
 N:=N
 s₀:=s
 H₀:=H
 env:=envOfC qual scope s.heap.objs.size f cd
 outer:=outer
 stack:=envOfC qual scope s.heap.objs.size f cd::outer
 ex:=[]
 calm:=true
 fn:=fun _=>true
 pn:=[]
 xe:=fun e s'=>wpAny (model P w) (A.deeper (envOfC qual scope s.heap.objs.size f cd)) (leaving (envOfC qual scope s.heap.objs.size f cd) e) (fun _ s''=>CX outer H s E e s'') (fun e' s''=>CX outer H s E e' s'') s'
theorem mQ{sc:Scope}{n:Nat}{x:Str}(h:sc.names.lookup x=some .cell):∃c,(cellsFrom n sc.names []).lookup x=some c:=by have q:=QAq sc.names n [] (.inl h);exact Option.isSome_iff_exists.mp q
theorem oV{K:QF}{cd:Value}{A:Around}{outer:List Env}{s s1:Shared}{H:Hp}{E:XK}{us:List Value}{vs:List V}
  (S:FnScope N ps scope) (hd:A.handled=none) (e0:Env0 P w K mg base A outer s H) (hl:vs.length=ps.length) (r:bA vs us)
  (x:InCallC s s.heap.objs.size (bindL (envOfC qual scope s.heap.objs.size f cd).kindOf (ps.zip us) fun _=>none) (cellsFrom (s.heap.objs.size+1) scope.names []) (bindC (envOfC qual scope s.heap.objs.size f cd).kindOf (ps.zip us) fun _=>none) s1) :
  Inv (TR CX P w K mg base N qual scope f cd A outer s H E) [] (CD N vs) H s1:=by
 have hpl:ps.length<=N.length:=by have:=congrArg qg S.pre;rw[WQ]at this;omega
 obtain⟨h1,tk,rfl,hk⟩:=x.done;have noA:∀b:Addr,b∉(TR CX P w K mg base N qual scope f cd A outer s H E).ex:=fun b z=>absurd (show b∈([]:List Addr) from z) (by simp);refine⟨⟨e0.mod,S.kind,rfl,rfl,QS _,fun y z c h1 h2=>?_,fun y hy=>?_,fun y c _ h=>?_,fun _=>hd,Around.frames_deeper e0.frames,.inr ⟨rfl,rfl⟩,fun b z=>absurd z (noA b),e0.bs,e0.bsz,fun b _ _=>noA b,fun b z=>absurd z (noA b),e0.funs,e0.frf⟩,
  rfl,e0.bare,Un.kept hk,⟨_,x.toInCall.ns,fun i y v h1 h2 h3=>?_⟩,fun y c h=>⟨_,x.cell y c h⟩,e0.hok.fresh (QS _),fun y c h=>?_,fun p hp=>absurd (show p∈([]:FB) from hp) (by simp),e0.hok.kept hk,?_⟩
 exact name_of_addr x.apart (qQ h1) (qQ h2);have hy:scope.names.lookup y=some .cell∨scope.names.lookup y=some .free:=hy;rcases hy with hy|hy;exact mQ hy;exact absurd rfl (S.nofree _ (qQ hy));exact QAN (x.above y c (qQ h));have hi:i<vs.length:=by unfold CD at h2;by_cases hi:i<vs.length;exact hi;rw[qI (by simpa using hi)]at h2;rw[wr]at h2;split at h2<;>cases h2
 have ha:vs[i]?=some v:=by
  unfold CD at h2;rw[qV (by simpa using hi),Qc]at h2;cases e:vs[i]? with
  |none=>rw[e]at h2;cases h2
  |some a=>rw[e]at h2;cases h2;rfl
 obtain⟨u,hu,rv⟩:=r.get ha;have hp:ps[i]?=some y:=by rw[<- S.pre,List.getElem?_take_of_lt (by omega)];exact h1
 have ndP:ps.Nodup:=by rw[<- S.pre];exact S.nd.sublist (List.take_sublist _ _)
 refine⟨u,rv,?_⟩;rcases S.par y (qD hp) with k|k;exact .inl ⟨k,JM ndP hp hu k⟩;obtain⟨c,e⟩:=mQ (n:=s.heap.objs.size+1) k;refine .inr ⟨.inl k,c,e,?_⟩;have q:=x.cell y c e;rw[ZM ndP hp hu (by show scope.names.lookup y≠_;rw[k];decide)]at q;exact q;exact e0.hok.fresh (QAN (x.above y c (qQ h)));unfold CD;show _=N.length;rw[QM,QD,qZ];omega
theorem ce{K:QF}{k:Nat}{name:Str}{params:Arguments}{body:List Stmt}{dV kV doc pm cdv ct oc:Value}{an od:Option Addr}
  {osl:Array (Option Value)}{sp:Sp}(lk:K.lookup f=some ⟨oc,od,.func (wP name qual params body scope dV kV doc pm an cdv ct),osl⟩) (hcd:QAT K cdv qual=true) (S:FnScope N ps scope)
  (len:∀vs H Q E,sp vs H Q E->vs.length=ps.length)
  (hbody:∀(A:Around) (outer:List Env) (s:Shared) (H:Hp) (vs:List V) (Q:VK) (E:XK),Room k (A.deeper (envOfC qual scope s.heap.objs.size f cdv))->sp vs H Q E ->
   ∃t,rS (TR CX P w K mg base N qual scope f cdv A outer s H E) body t/\t { nx:=fun _ H'=>Q .non H',rt:=Q } (CD N vs) H) :
  FnOk P w K mg base CX (k+1) f (wP name qual params body scope dV kV doc pm an cdv ct) ps sp:=by
 refine⟨len,fun A outer s H args us vs Q E hr e0 hb r hsp=>?_⟩;have hl:=len _ _ _ _ hsp;have KX:K.In s.heap:=e0.mod.kin.keeps fun b o e=>(e0.bs b o e).1;have lim:s.heap.NoLimit:=e0.mod.nolimit.keeps fun b o e=>(e0.bs b o e).1;have hkind:∀y∈ps.zip us,scope.names.lookup y.1=some .local∨(scope.names.lookup y.1=some .cell/\((cellsFrom (s.heap.objs.size+1) scope.names []).lookup y.1).isSome=true):=fun⟨n,v⟩ hy=>by rcases S.par n (QAv hy).1 with q|q;exact .inl q;exact .inr ⟨q,QAq _ _ _ (.inl q)⟩
 refine codeAny_call_function hr.depth (KX _ _ lk) rfl S.co S.gen rfl (PySem.W.codeRec_of KX hcd) (hb _ _ _ _ ?_);refine wpAny_newFunctionEnv_cells S.kind hkind fun env he s1 x=>?_;subst he;refine⟨lim.keeps x.toInCall.keep,codeAny_func ?_⟩;obtain⟨t,ht,hq⟩:=hbody A outer s H vs Q E (hr.deeper _) hsp;have I:Inv (TR CX P w K mg base N qual scope f cdv A outer s H E) [] (CD N vs) H s1:=oV S hr.hd e0 hl r x;refine wN (ht [] s1 (CD N vs) H _ I hq) (fun fl s' hs=>?_) fun e s' hs=>hs;have fin:∀{σ':St}{H':Hp}{v:V}{u:Value},Inv (TR CX P w K mg base N qual scope f cdv A outer s H E) [] σ' H' s'->rA v u->Q v H'->CE outer P w H s Q u s' :=
  fun {σ' H' v u} J rv q=>⟨v,H',J.os,J.bare,J.base,J.hok,rv,q⟩
 cases fl with
 |ret u=>obtain⟨v,σ',H',J,rv,q⟩:=hs;exact fin J rv q
 |next=>obtain⟨σ',H',J,q⟩:=hs;exact fin (v:=V.non) (u:=Value.none) J rfl q
 |brk=>obtain⟨_,_,_,q⟩:=hs;exact Qb q
 |cont=>obtain⟨_,_,_,q⟩:=hs;exact Qb q
end
section
variable{X:Cx}{x:Str}{p pos:Pos}{e:Expr}{es:List Expr}{t:TA}{id T:String}{r:List V->Hp->VK->Prop}
def Ij(r:List V->Hp->VK->Prop)(t:TA):TE:=fun σ H Q=>t σ H fun vs H1=>r vs H1 Q
theorem zX(hc:BG X (.builtin id) r)(hg:Gl X x)(hm:X.mg x=none)(hv:bootBuiltins x=some (.builtin id))(ha:PA X (e::es) t)(hn:x≠"__name__":=by decide)(hdb:(x==("__debug__":Str))=false:=by decide)
  (he:starEach (e::es) X.env=(false,eval e X.env)::starEach es X.env:=by rfl) (hpl:(backTo pos (starEach es X.env)).any (·.1)=false:=by rfl):PE X (.Call (.Name x p) (e::es) [] pos) (Ij r t):=by
 intro pins s σ H Q I h;refine wO (IG I hg hm hv ?_ hn hdb);exact Wq (BB (ha pos pins s σ H _ I h) fun us s1 ⟨vs,H1,I1,r1,q1⟩=>hc pins s1 σ H1 vs us Q I1 r1 q1) he hpl
theorem NU(hc:BG X (.type T) r)(hg:Gl X x)(hm:X.mg x=none)(hv:bootBuiltins x=some (.type T))(ha:PA X (e::es) t)(hn:x≠"__name__":=by decide)(hdb:(x==("__debug__":Str))=false:=by decide)
  (he:starEach (e::es) X.env=(false,eval e X.env)::starEach es X.env:=by rfl) (hpl:(backTo pos (starEach es X.env)).any (·.1)=false:=by rfl):PE X (.Call (.Name x p) (e::es) [] pos) (Ij r t):=by
 intro pins s σ H Q I h;refine wO (IG I hg hm hv ?_ hn hdb);exact qh (BB (ha pos pins s σ H _ I h) fun us s1 ⟨vs,H1,I1,r1,q1⟩=>hc pins s1 σ H1 vs us Q I1 r1 q1) he hpl
end
end L2
namespace HT
open PySem PyProof.Rows
section
open PySem.SeqAt
open PySem.AutoSeq1 (wpAny_loadPart')
open PySem.MeetsSeq PySem.MeetsSeq2 PySem.MeetsSeq3
end
section
variable{prog:Program}{w:World}{A:Around}{E:OB}{s:Shared}
section
variable{t sl:Addr}{Q:OB}{vl vu:Value}{lo hi:Option Int}
theorem cat_tup{b:Addr}{vs ws:List Value}(ht:IsTup s.heap t vs.toArray)(hb:IsTup s.heap b ws.toArray)(hv:vs≠[])
  (h1:ws=[]->Q (.ref t) s) (h2:ws≠[]->Q (.ref s.heap.objs.size) { s with heap:=s.heap.push { cls:=.type "tuple",data:=.seq (vs++ws).toArray } })
  (hsz:vs.length+ws.length<=sizeLine):wpAny (model prog w) A (binaryOp .Add (.ref t) (.ref b)) Q E s:=by
 obtain⟨⟨cls,dd,data,sl⟩,ho,hc,n,hd⟩:=id ht;obtain⟨⟨cls2,dd2,data2,sl2⟩,ho2,hc2,n2,hd2⟩:=id hb;simp only at hc hd hc2 hd2;subst hc hd hc2 hd2;have e:vs.toArray++ws.toArray=(vs++ws).toArray:=by simp
 by_cases hw:ws=[];exact QBl ⟨_,ho,rfl⟩ ⟨_,ho2,rfl⟩ QBr seq_tuple_add QAr QAi (QAY _ _)
  (tuple_addW1 t b vs.toArray ws.toArray n n2 dd dd2 sl sl2 (by simpa using hv) (by simp[hw])) ⟨ho,ho2,h1 hw⟩
 refine QBl ⟨_,ho,rfl⟩ ⟨_,ho2,rfl⟩ QBr seq_tuple_add QAr QAi (QAY _ _)
  (tuple_addW2 t b vs.toArray ws.toArray n n2 dd dd2 sl sl2 (by simpa using hv) (by simpa using hw) (by rw[QU,QU];exact hsz)) ⟨ho,ho2,?_⟩
 rw[e];exact h2 hw
def sIx(n d:Nat):Option Int->Nat
 |none=>d
 |some v=>if v<0 then(v+(n:Int)).toNat else min v.toNat n
theorem L7(n d:Nat)(hd:d<=n)(o:Option Int):sIx n d o<=n:=by
 cases o with
 |none=>exact hd
 |some v=>show(if v<0 then(v+(n:Int)).toNat else min v.toNat n)<=n;by_cases hv:v<0;rw[if_pos hv];omega;rw[if_neg hv];exact Nat.min_le_right _ _
theorem jU(v:Int)(n d:Nat):(if v<0 then max (v+(n:Int)) 0 else min v (n:Int))=((sIx n d (some v):Nat):Int):=by show(if v<0 then max (v+(n:Int)) 0 else min v (n:Int))=(((if v<0 then(v+(n:Int)).toNat else min v.toNat n):Nat):Int);by_cases hv:v<0;simp only[if_pos hv];omega;simp only[if_neg hv];omega
theorem oS(lo hi:Option Int)(n:Nat):WL lo hi 1 (n:Int)=(((sIx n 0 lo:Nat):Int),((sIx n n hi:Nat):Int)):=by
 have h1:¬ ((1:Int)<0):=by omega
 unfold WL;simp only[h1,if_false];refine QCC ?_ ?_;cases lo with
 |none=>rfl
 |some v=>exact jU v n 0
 cases hi with
 |none=>rfl
 |some v=>exact jU v n n
theorem xR(i j:Nat):wR (i:Int) (j:Int) 1=j - i:=by
 unfold wR;have h1:(1:Int) > 0:=by omega
 simp only[h1,if_true,Int.ediv_one];split<;>omega
theorem AJ{v:Value}{o:Option Int}{Q:Option Int->Shared->Prop}(p:IsPart v o)(h:Q o s):wpAny (model prog w) A (Builtin.Slice.slicePartIndex v) Q E s:=by
 cases p with
 |none=>exact slicePart_none h
 |int i t=>exact slicePart_int h
theorem gI{n:Nat}{Q:Int×Int×Nat->Shared->Prop}(hs:s.heap.IsSliceOf sl vl vu .none)(pl:IsPart vl lo)(pu:IsPart vu hi)
  (h:Q (((sIx n 0 lo:Nat):Int),1,sIx n n hi - sIx n 0 lo) s):wpAny (model prog w) A (QAK (.ref sl) (pure (n:Int))) Q E s:=by
 obtain⟨os,hos,hcs,hds⟩:=id hs;unfold QAK Builtin.Slice.sliceFields;refine QA (QA (wT hos hds (x:=vl) rfl (QA (wT hos hds (x:=vu) rfl (QA (wT hos hds (x:=.none) rfl (QJ ?_)))))));refine QA (slicePart_none ?_);show wpAny _ _ (if((1:Int)==0)=true then _ else _) _ _ s;rw[if_neg (by decide)];refine QA (AJ pl (QA (AJ pu (QA (QJ ?_)))));show wpAny _ _ (match WL lo hi 1 (n:Int) with | (lo,hi)=>pure (lo,(1:Int),wR lo hi 1)) _ _ s;rw[oS lo hi n];show wpAny _ _ (pure (((sIx n 0 lo:Nat):Int),(1:Int),wR ((sIx n 0 lo:Nat):Int) ((sIx n n hi:Nat):Int) 1)) _ _ s;rw[xR];exact QJ h
theorem TW(xs:Array Value)(i k:Nat):((Q5 k).filterMap fun(m:Nat)=>xs[((i:Int)+(m:Int) * 1).toNat]?).toArray=((xs.toList.drop i).take k).toArray:=by
 have e:(fun(m:Nat)=>xs[((i:Int)+(m:Int) * 1).toNat]?)=fun m=>xs[i+m]?:=by
  funext m;have:((i:Int)+(m:Int) * 1).toNat=i+m:=by omega
  rw[this]
 rw[e];have:=pick_run xs i k;rw[List.filterMap_map]at this;have e2:((fun x=>xs[x]?)∘fun x=>i+x)=fun m=>xs[i+m]?:=rfl;rw[e2]at this;rw[this]
theorem getItem_tuple_cut{items:Array Value}(ht:IsTup s.heap t items)(hs:s.heap.IsSliceOf sl vl vu .none)(pl:IsPart vl lo)(pu:IsPart vu hi)
  (hw:¬ (sIx items.size 0 lo=0/\sIx items.size items.size hi=items.size))
  (h:Q (.ref s.heap.objs.size) { s with heap:=s.heap.push { cls:=.type "tuple",data:=.seq ((items.toList.drop (sIx items.size 0 lo)).take (sIx items.size items.size hi - sIx items.size 0 lo)).toArray } })
  (hsz:items.size<=sizeLine):wpAny (model prog w) A (getItem (.ref t) (.ref sl)) Q E s:=by
 have htake:sizeOk (.seq ((items.toList.drop (sIx items.size 0 lo)).take (sIx items.size items.size hi - sIx items.size 0 lo)).toArray):=by show((items.toList.drop (sIx items.size 0 lo)).take (sIx items.size items.size hi - sIx items.size 0 lo)).toArray.size<=sizeLine;rw[QU,WQ,Wx,QT];omega
 have hj:sIx items.size items.size hi<=items.size:=L7 _ _ (QS _) hi;obtain⟨os,hos,hcs,hds⟩:=id hs;have hTs:s.TypeIs (.ref sl) "slice":=⟨os,hos,hcs⟩
 unfold getItem
 try with_reducible refine qS ?_
 first|refine QA (QJ ?_)|skip
 refine QA (wpAny_sequenceKey ht.typeIs (by decide) ?_);refine QA (qB (name:=Qh "__getitem__") ht.typeIs wb
  (Qz wb ht.typeIs entry_tuple_getitem ?_ (args_tuple_getitem _ _)))
 show wpAny _ _ (Builtin.Tuple.tupleItemsOf (.ref t) >>= _) _ _ s;refine QA (tupleItemsOf_ ht ?_);refine QA (QAQ hTs ?_);rw[if_pos (by decide)];refine QA (gI hs pl pu ?_);have hno:¬ ((((sIx items.size 0 lo:Nat):Int)==0&&(1:Int)==1&&(sIx items.size items.size hi - sIx items.size 0 lo)==items.size)=true):=by intro q;rw[Qe,Qe]at q;have q1:((sIx items.size 0 lo:Nat):Int)=0:=qm q.1.1;have q2:sIx items.size items.size hi - sIx items.size 0 lo=items.size:=qm q.2;exact hw ⟨by omega,by omega⟩
 show wpAny _ _ (if(((sIx items.size 0 lo:Nat):Int)==0&&(1:Int)==1&&(sIx items.size items.size hi - sIx items.size 0 lo)==items.size)=true then _ else _) _ _ s;rw[if_neg hno,TW];first
  |exact QA (m:=wc _) (Qr (QJ ⟨_,rfl,QJ h⟩) htake)
  |exact QA (m:=wc _) (Qr (QA (QJ (QJ ⟨_,rfl,QJ h⟩))) htake)
  |exact QA (QA (m:=wc _) (Qr (QJ (QJ ⟨_,rfl,QJ h⟩)) htake))
  |exact QA (QA (m:=wc _) (Qr (QJ ⟨_,rfl,QJ h⟩) htake))
end
end
end HT
namespace L2
open PySem PySem.Spec PyProof.Rows
noncomputable abbrev TO:=St->Hp->(Option Int->Hp->Prop)->Prop
def PO(X:Cx)(e:Option Expr)(t:TO):Prop :=
 ∀(pins:FB) (s:Shared) (σ:St) (H:Hp) (Q:Option Int->Hp->Prop),Inv X pins σ H s->t σ H Q ->
  wpAny (model X.prog X.w) X.A (evalPart e X.env) (fun u s'=>∃o H',Inv X pins σ H' s'/\IsPart u o/\Q o H') X.xe s
def MZ:TO:=fun _ H Q=>Q none H
def kc(t:TE):TO:=fun σ H Q=>t σ H fun x H1=>∃i,x=.int i/\Q (some i) H1
section
variable{X:Cx}{e:Expr}{te:TE}{lo hi:Option Expr}{tl th:TO}{pos p2:Pos}
theorem C0:PO X none MZ:=by intro pins s σ H Q I h;rw[evalPart_none];exact QJ ⟨none,H,I,.none,h⟩
theorem B0(h:PE X e te):PO X (some e) (kc te):=by intro pins s σ H Q I hw;rw[evalPart_some];refine BB (h pins s σ H _ I hw) fun u s1 ⟨x,H1,I1,r1,q1⟩=>?_;obtain⟨i,rfl,q⟩:=q1;obtain⟨t,rfl⟩:=r1;exact⟨some i,H1,I1,.int i t,q⟩
def Vg(X:Cx)(r:V->Option Int->Option Int->Hp->VK->Prop):Prop :=
 ∀(pins:FB) (s:Shared) (σ:St) (H:Hp) (x:V) (v vl vu:Value) (lo hi:Option Int) (sl:Addr) (Q:VK),Inv X pins σ H s->rA x v->s.heap.IsSliceOf sl vl vu .none->IsPart vl lo->IsPart vu hi->r x lo hi H Q ->
  ∃T id,typeLookup (.type T) "__getitem__"=pure (some (.builtin id))/\s.TypeIs v T/\wpAny (model X.prog X.w) X.A (getItem v (.ref sl)) (EP X pins σ Q) X.xe s
def Gk(r:V->Option Int->Option Int->Hp->VK->Prop)(te:TE)(tl th:TO):TE:=fun σ H Q=>te σ H fun x H1=>tl σ H1 fun l H2=>th σ H2 fun u H3=>r x l u H3 Q
theorem AW{r:V->Option Int->Option Int->Hp->VK->Prop}(hr:Vg X r)(he:PE X e te)(hl:PO X lo tl)(hu:PO X hi th):PE X (.Subscript e (.Slice lo hi none p2) pos) (Gk r te tl th):=by intro pins s σ H Q I h;refine Subscript_ (BB (he pins s σ H _ I h) fun v s1 ⟨x,H1,I1,r1,q1⟩=>?_);refine wpAny_Slice (BB (hl pins s1 σ H1 _ I1 q1) fun vl s2 ⟨l,H2,I2,pl,q2⟩=>BB (hu pins s2 σ H2 _ I2 q2) fun vu s3 ⟨u,H3,I3,pu,q3⟩=>?_);rw[evalPart_none];refine QJ ?_;have I4:Inv X pins σ H3 { s3 with heap:=s3.heap.push { cls:=.type "slice",data:=.fields #[vl,vu,.none] } }:=I3.kept (t':=s3.toks) fun b ob q=>QH _ q;obtain⟨T,id,hT,ht,hg⟩:=hr pins { s3 with heap:=s3.heap.push { cls:=.type "slice",data:=.fields #[vl,vu,.none] } } σ H3 x v vl vu l u s3.heap.objs.size Q I4 r1 (Heap.IsSliceOf.new ..) pl pu q3;show wpAny (model X.prog X.w) X.A (subscriptTail e (.Slice lo hi none p2) v (.ref s3.heap.objs.size)) (EP X pins σ Q) X.xe { s3 with heap:=s3.heap.push { cls:=.type "slice",data:=.fields #[vl,vu,.none] } };exact tail_any (ops:=[.ref s3.heap.objs.size,v]) ht hT hg (by with_unfolding_all rfl)
def cQ(xs:List V)(lo hi:Option Int):List V:=(xs.drop (HT.sIx xs.length 0 lo)).take (HT.sIx xs.length xs.length hi - HT.sIx xs.length 0 lo)
theorem xJ(xs:List V)(lo hi:Option Int):(cQ xs lo hi).length<=xs.length:=by unfold cQ;rw[WQ,Wx];omega
def Fc(K:QF):V->Option Int->Option Int->Hp->VK->Prop:=fun x lo hi H Q=>∃a xs,x=.ref a/\TC K H a xs /\
 ¬ (HT.sIx xs.length 0 lo=0/\HT.sIx xs.length xs.length hi=xs.length)/\∀p,H p=none->Q (.ref p) (UA H p (.tup (cQ xs lo hi)))
theorem X7:Vg X (Fc X.K):=by
 intro pins s σ H x v vl vu lo hi sl Q I rx hs pl pu h;obtain⟨a,xs,rfl,hx,hw,q⟩:=h;cases rx;obtain⟨its,r,ht,hz⟩:=I.tuple hx;have hlen:its.toArray.size=xs.length:=by rw[QU];exact r.length.symm
 refine⟨"tuple",_,wb.lookup,ht.typeIs,?_⟩;refine HT.getItem_tuple_cut ht hs pl pu (by rw[hlen];exact hw) ?_ (by rw[hlen];exact hz);rw[hlen];refine⟨.ref s.heap.objs.size,_,I.laid (t':=s.toks) (o:=.tup (cQ xs lo hi)) (fun b ob q=>QH _ q) (QS _) ?_,rfl,q _ (I.hok.fresh (QS _))⟩;exact⟨QZ (xJ xs lo hi) hz,_,(r.drop (HT.sIx xs.length 0 lo)).take (HT.sIx xs.length xs.length hi - HT.sIx xs.length 0 lo),IsTup.new _ _⟩
def G5(K:QF):R2:=fun x y H Q=>∃a b xs ys,x=.ref a/\y=.ref b/\TC K H a xs/\TC K H b ys/\xs≠[]/\xs.length+ys.length<=sizeLine /\
 (ys=[]->Q (.ref a) H)/\(ys≠[]->∀p,H p=none->Q (.ref p) (UA H p (.tup (xs++ys))))
theorem bA.nil_iff{xs:List V}{us:List Value}(r:bA xs us):us=[]↔xs=[]:=by
 cases r with
 |nil=>simp
 |cons _ _=>simp
theorem L1:bF X (binaryOp .Add) (G5 X.K):=by intro pins s σ H x y v u Q I rx ry h;obtain⟨a,b,xs,ys,rfl,rfl,ha,hb,hx,hz,q1,q2⟩:=h;cases rx;cases ry;obtain⟨its,r1,p1,_⟩:=I.tuple ha;obtain⟨its2,r2,p2,_⟩:=I.tuple hb;refine HT.cat_tup p1 p2 (fun z=>hx (r1.nil_iff.mp z)) (fun z=>⟨.ref a,H,I,rfl,q1 (r2.nil_iff.mp z)⟩) (fun z=>?_) (by rw[<- r1.length,<- r2.length];exact hz);refine⟨.ref s.heap.objs.size,_,I.laid (t':=s.toks) (o:=.tup (xs++ys)) (fun b ob q=>QH _ q) (QS _) ?_,rfl,q2 (fun w=>z (r2.nil_iff.mpr w)) _ (I.hok.fresh (QS _))⟩;exact⟨by rw[QM];exact hz,_,r1.append r2,IsTup.new _ _⟩
end
def DQ(n:Nat)(i:Int):Option Nat:=if 0<=i then(if i<n then some i.toNat else none) else if -(n:Int)<=i then some (i+n).toNat else none
def kF{α:Type}(xs:List α)(i:Int):Option α:=(DQ xs.length i).bind fun j=>xs[j]?
theorem XN{n:Nat}{i:Int}{j:Nat}(h:DQ n i=some j):seqIndex? i n=some j/\j<n/\-(n:Int)<=i/\i<n:=by unfold DQ at h;by_cases h0:0<=i;rw[if_pos h0]at h;by_cases h1:i<n;rw[if_pos h1]at h;have e:i.toNat=j:=qL h;exact⟨by rw[QBz h0 h1,e],by omega,by omega,h1⟩;rw[if_neg h1]at h;cases h;rw[if_neg h0]at h;by_cases h1:-(n:Int)<=i;rw[if_pos h1]at h;have e:(i+n).toNat=j:=qL h;exact⟨by rw[QBm (by omega) h1,e],by omega,h1,by omega⟩;rw[if_neg h1]at h;cases h
theorem dO{α:Type}{xs:List α}{i:Int}{v:α}(h:kF xs i=some v):∃j,seqIndex? i xs.length=some j/\xs[j]?=some v/\j<xs.length/\-(xs.length:Int)<=i/\i<xs.length:=by
 unfold kF at h;cases e:DQ xs.length i with
 |none=>rw[e]at h;cases h
 |some j=>rw[e]at h;obtain⟨h1,h2,h3,h4⟩:=XN e;exact⟨j,h1,h,h2,h3,h4⟩
theorem bO{α:Type}{xs:List α}{j:Nat}{v:α}(h:xs[j]?=some v):kF xs (j:Int)=some v:=by
 have hj:j<xs.length:=(Qi.mp h).1;have e:DQ xs.length (j:Int)=some j:=by unfold DQ;rw[if_pos (by omega),if_pos (by omega)];simp
 unfold kF;rw[e];exact h
def cU(b:Expr):Prop:=∀o i,subscripted b false o i=operate [o,i] (getItem o i)
def fZ(X:Cx)(r:R2):Prop :=
 ∀(value slice:Expr) (pins:FB) (s:Shared) (σ:St) (H:Hp) (x y:V) (v u:Value) (Q:VK),Inv X pins σ H s->rA x v->rA y u->r x y H Q ->
  subscripted slice false v u=operate [v,u] (getItem v u)->wpAny (model X.prog X.w) X.A (subscriptTail value slice v u) (EP X pins σ Q) X.xe s
def Ub(X:Cx)(id:String)(r:V->List V->Hp->VK->Prop):Prop :=
 ∀(pins:FB) (s:Shared) (σ:St) (H:Hp) (x:V) (xs:List V) (v:Value) (us:List Value) (Q:VK),Inv X pins σ H s->rA x v->bA xs us->r x xs H Q ->
  wpAny (model X.prog X.w) X.A (call (.builtin id) (v::us)) (EP X pins σ Q) X.xe s
section
variable{X:Cx}{a b:Expr}{ta tb:TE}{pos:Pos}
section
variable{pins:FB}{s:Shared}{x:V}{u v:Value}
theorem fZ.or{r r':R2}(h:fZ X r)(h':fZ X r'):fZ X (fun x y H Q=>r x y H Q∨r' x y H Q):=by intro value slice pins s σ H x y v u Q I rx ry q hs;rcases q with q|q;exact h value slice pins s σ H x y v u Q I rx ry q hs;exact h' value slice pins s σ H x y v u Q I rx ry q hs
theorem yd{r:R2}(hr:fZ X r)(ha:PE X a ta)(hb:PE X b tb)(hs:cU b):PE X (.Subscript a b pos) (vc r ta tb):=by intro pins s σ H Q I h;exact Subscript_ (binT ha hb I h fun v u s2 x y H2 I2 rx ry q=>hr a b pins s2 σ H2 x y v u Q I2 rx ry q (hs _ _))
def Sc(K:QF):R2:=fun x y H Q=>∃p xs i v,x=.ref p/\y=.int i/\HC K H p xs/\kF xs i=some v/\Q v H
def Pc(K:QF):R2:=fun x y H Q=>∃p xs i v,x=.ref p/\y=.int i/\TC K H p xs/\kF xs i=some v/\Q v H
def Rc:R2:=fun x y H Q=>∃z i c,x=.str z/\y=.int i/\z.length<=sizeLine/\kF z.cps.toList i=some c/\Q (.str ⟨#[c]⟩) H
theorem E3:fZ X (Sc X.K):=by
 intro value slice pins s σ H x y v u Q I rx ry h hs;obtain⟨p,xs,i,z,rfl,rfl,hq,he,q⟩:=h;cases rx;obtain⟨t,rfl⟩:=ry;obtain⟨its,r,pl,hz⟩:=I.list hq;obtain⟨j,h1,h2,h3,h4,h5⟩:=dO he;obtain⟨w,ew,rw'⟩:=r.get h2;have hl:=r.length;have hn:=EG;have fin:EP X pins σ Q w s:=⟨z,H,I,rw',q⟩
 by_cases h0:0<=i;have hj:i.toNat=j:=by rw[QBz h0 h5]at h1;exact qL h1
 exact item_listR pl.isList h0 (by omega) (by rw[hj];simpa using ew) fin hs;have hj:(i+(its.toArray.size:Int)).toNat=j:=by rw[QBm (by omega) h4]at h1;rw[QU,<- hl];exact qL h1
 exact w8 (x:=w) pl.isList.typeIs QBY.lookup
  (wpAny_getItem_list_neg (Q:=fun r s'=>r=w/\EP X pins σ Q r s') pl.isList (by omega) (by rw[QU]<;>omega) (by omega) (by rw[hj];simpa using ew) ⟨rfl,fin⟩) hs
theorem J9:fZ X (Pc X.K):=by
 intro value slice pins s σ H x y v u Q I rx ry h hs;obtain⟨p,xs,i,z,rfl,rfl,hq,he,q⟩:=h;cases rx;obtain⟨t,rfl⟩:=ry;obtain⟨its,r,pl,hz⟩:=I.tuple hq;obtain⟨j,h1,h2,h3,h4,h5⟩:=dO he;obtain⟨w,ew,rw'⟩:=r.get h2;have hl:=r.length;have hn:=EG;have fin:EP X pins σ Q w s:=⟨z,H,I,rw',q⟩
 exact w8 (x:=w) pl.typeIs slot_tuple_getitem.lookup
  (getItem_tuple (j:=j) (Q:=fun r s'=>r=w/\EP X pins σ Q r s') pl (by omega) (by omega) (by rw[QU,<- hl];exact h1) (by simpa using ew) ⟨rfl,fin⟩) hs
theorem Y9:fZ X Rc:=by
 intro value slice pins s σ H x y v u Q I rx ry h hs;obtain⟨z,i,c,rfl,rfl,hz,he,q⟩:=h;obtain⟨t,rfl⟩:=rx;obtain⟨t',rfl⟩:=ry;obtain⟨j,h1,h2,h3,h4,h5⟩:=dO he;have hl:z.cps.toList.length=z.length:=by simp[Str.length]
 rw[hl]at h1 h4 h5;have hn:=EG;exact tail_any (QB8 s z t) slot_str_getitem.lookup (getItem_str (c:=c) (by have e1:decide (i < -(2 ^ 63:Int))=false:=dF (by omega);have e2:decide (i ≥ 2 ^ 63)=false:=dF (by omega);rw[e1,e2,Bool.or_false]) (by rw[h1];simpa using h2) ⟨.str ⟨#[c]⟩,H,I.tok _,⟨_,rfl⟩,q⟩) hs
def Tk(K:QF):R2:=fun x y H Q=>Sc K x y H Q∨Pc K x y H Q∨Rc x y H Q
theorem Z9:fZ X (Tk X.K):=E3.or (J9.or Y9)
theorem YR(its:List Value)(n j:Nat)(u:Value):qM (·.setIfInBounds j u) { cls:=.type "list",data:=.seq its.toArray n }={ cls:=.type "list",data:=.seq (its.set j u).toArray n }:=by simp[qM]
theorem Inv.lst{pins:FB}{σ:St}{H:Hp}{s:Shared}{p:Addr}{xs:List V}(I:Inv X pins σ H s)(h:H p=some (.lst xs)) :
  ∃(its:List Value) (n:Nat),bA xs its/\s.heap.get? p=some { cls:=.type "list",data:=.seq its.toArray n }/\xs.length<=sizeLine:=by
 obtain⟨z,its,n,r,e⟩:=I.hok p _ h;exact⟨its,n,r,e,z⟩
theorem Inv.lstUpd{σ:St}{H:Hp}{p:Addr}{xs ys:List V}{its its':List Value}{n n':Nat}{f:Obj->Obj}(I:Inv X pins σ H s)(h:H p=some (.lst xs))
  (ho:s.heap.get? p=some { cls:=.type "list",data:=.seq its.toArray n }) (hf:f { cls:=.type "list",data:=.seq its.toArray n }={ cls:=.type "list",data:=.seq its'.toArray n' }) (r:bA ys its') (hz:ys.length<=sizeLine) (t:Nat) :
  Inv X pins σ (UA H p (.lst ys)) { s with heap:=s.heap.update p f,toks:=t }:=by
 have e:(s.heap.update p f).get? p=some { cls:=.type "list",data:=.seq its'.toArray n' }:=by rw[Q0 f ho (by rw[hf]<;>rfl),hf]
 refine I.write (x:=p) (e:=p) (by rw[h];trivial) (.inl rfl) (fun b u hb q=>(Q8 _ _ (Q2 hb)).trans q) ⟨_,e⟩ ?_;exact⟨hz,its',n',r,e⟩
def Hc:V->V->V->Hp->(Hp->Prop)->Prop:=fun o i v H Q=>∃p xs k j,o=.ref p/\i=.int k/\H p=some (.lst xs)/\DQ xs.length k=some j/\Q (UA H p (.lst (xs.set j v)))
theorem YW:u5 X Hc:=by
 intro pins s σ H o i v ov iv u Q I ro ri rv h;obtain⟨p,xs,k,j,rfl,rfl,hp,hj,q⟩:=h;cases ro;obtain⟨t,rfl⟩:=ri;obtain⟨its,n,r,ho,hz⟩:=I.lst hp;obtain⟨h1,h2,h3,h4⟩:=XN hj;have hl:=r.length;have hn:=EG;have I':Inv X pins σ (UA H p (.lst (xs.set j v))) { s with heap:=s.heap.update p (qM (·.setIfInBounds j u)) } :=
  I.lstUpd hp ho (YR its n j u) (r.set rv j) (by rw[wA];exact hz) s.toks
 by_cases h0:0<=k;have hk:k.toNat=j:=by rw[QBz h0 h4]at h1;exact qL h1
 exact PySem.W.ki_setAt ho h0 (by omega) (by rw[QU,<- hl];exact h4) (by rw[hk];exact⟨_,I',q⟩);have hk:(k+(its.toArray.size:Int)).toNat=j:=by rw[QBm (by omega) h3]at h1;rw[QU,<- hl];exact qL h1
 exact PySem.W.ki_setBack ho (by omega) (by rw[QU,<- hl];exact h3) (by omega) (by rw[hk];exact⟨_,I',q⟩)
theorem AM(lo hi:Option Int)(n:Nat):(sliceBounds lo hi none n).1=((HT.sIx n 0 lo:Nat):Int)/\(sliceBounds lo hi none n).2.1=((HT.sIx n n hi:Nat):Int)/\(sliceBounds lo hi none n).2.2=1:=by
 refine⟨?_,?_,rfl⟩;cases lo with
 |none=>simp[sliceBounds,HT.sIx]
 |some i=>simp only[sliceBounds,HT.sIx,QBs,show(1:Int) > 0 by decide,if_true];by_cases h:i<0;simp only[h,if_true]<;>omega;simp only[h,if_false]<;>omega
 cases hi with
 |none=>simp[sliceBounds,HT.sIx]
 |some i=>simp only[sliceBounds,HT.sIx,QBs,show(1:Int) > 0 by decide,if_true];by_cases h:i<0;simp only[h,if_true]<;>omega;simp only[h,if_false]<;>omega
theorem iL(its:List Value)(lo hi:Option Int):slicePick its.toArray lo hi none=((its.drop (HT.sIx its.length 0 lo)).take (HT.sIx its.length its.length hi - HT.sIx its.length 0 lo)).toArray:=by obtain⟨h1,h2,h3⟩:=AM lo hi its.toArray.size;unfold slicePick;rw[h1,h2,h3];simp only[sliceRange_one,pick_run,QU]<;>rfl
def Gc(K:QF):V->Option Int->Option Int->Hp->VK->Prop:=fun x lo hi H Q=>∃a xs,x=.ref a/\HC K H a xs/\∀p,H p=none->Q (.ref p) (UA H p (.lst (cQ xs lo hi)))
theorem AZ:Vg X (Gc X.K):=by intro pins s σ H x v vl vu lo hi sl Q I rx hs pl pu h;obtain⟨a,xs,rfl,hx,q⟩:=h;cases rx;obtain⟨its,r,ht,hz⟩:=I.list hx;have hlen:=r.length;refine⟨"list",_,QBY.lookup,ht.isList.typeIs,?_⟩;refine wpAny_getItem_list_slice ht.isList hs pl pu .none (by simp) ?_ (by rw[QU]<;>omega);rw[iL,<- hlen];refine⟨.ref s.heap.objs.size,_,I.laid (t':=s.toks) (o:=.lst (cQ xs lo hi)) (fun b ob q=>QH _ q) (QS _) ?_,rfl,q _ (I.hok.fresh (QS _))⟩;exact⟨QZ (xJ xs lo hi) hz,_,0,(r.drop (HT.sIx xs.length 0 lo)).take (HT.sIx xs.length xs.length hi - HT.sIx xs.length 0 lo),QO _ rfl⟩
def UF:V->Bool
 | .non=>true
 | .bl _=>true
 | .int _=>true
 | .str _=>true
 |_=>false
def V4:V->V->Bool
 | .non,.non=>true
 | .bl a,.bl b=>a==b
 | .bl a,.int b=>(if a then 1 else 0)==b
 | .int a,.bl b=>a==(if b then 1 else 0)
 | .int a,.int b=>a==b
 | .str a,.str b=>a==b
 |_,_=>false
theorem L9{A:Around}{y:V}(ry:rA y u)(rx:rA x v)(fy:UF y=true)(fx:UF x=true):qp A s u v (V4 y x):=by
 cases y with
 |non =>
  cases ry;cases x with
  |non=>cases rx;exact qp.same _
  |bl b=>cases rx;exact qp.none_bool b
  |int b=>obtain⟨t,rfl⟩:=rx;exact qp.none_int b t
  |str b=>obtain⟨t,rfl⟩:=rx;exact qp.none_str b t
  |_=>exact absurd (show false=true from fx) QC
 |bl a =>
  cases ry;cases x with
  |non=>cases rx;exact qp.bool_none a
  |bl b=>cases rx;exact qp.bool_bool a b
  |int b=>obtain⟨t,rfl⟩:=rx;exact qp.bool_int a b t
  |str b=>obtain⟨t,rfl⟩:=rx;exact qp.bool_str a b t
  |_=>exact absurd (show false=true from fx) QC
 |int a =>
  obtain⟨t',rfl⟩:=ry;cases x with
  |non=>cases rx;exact qp.int_none a t'
  |bl b=>cases rx;exact qp.int_bool a t' b
  |int b=>obtain⟨t,rfl⟩:=rx;exact qp.int_int a t' b t
  |str b=>obtain⟨t,rfl⟩:=rx;exact QBM a t' b t
  |_=>exact absurd (show false=true from fx) QC
 |str a =>
  obtain⟨t',rfl⟩:=ry;cases x with
  |non=>cases rx;exact qp.str_none a t'
  |bl b=>cases rx;exact qp.str_bool a t' b
  |int b=>obtain⟨t,rfl⟩:=rx;exact QBN a t' b t
  |str b=>obtain⟨t,rfl⟩:=rx;exact qp.str_str a t' b t
  |_=>exact absurd (show false=true from fx) QC
 |_=>exact absurd (show false=true from fy) QC
def OR(x:V)(u:Value):Bool:=match u with
 | .none=>V4 .non x
 | .bool b=>V4 (.bl b) x
 | .int i _=>V4 (.int i) x
 | .str z _=>V4 (.str z) x
 |_=>false
theorem YY{y:V}(r:rA y u)(f:UF y=true):OR x u=V4 y x:=by
 cases y with
 |non=>cases r;rfl
 |bl b=>cases r;rfl
 |int i=>obtain⟨t,rfl⟩:=r;rfl
 |str z=>obtain⟨t,rfl⟩:=r;rfl
 |_=>exact absurd (show false=true from f) QC
theorem SH{x:V}:∀{xs:List V}{us:List Value},bA xs us->xs.all UF=true->us.any (OR x)=xs.any fun y=>V4 y x
 |_,_,.nil,_=>rfl
 |y::xs,u::us,.cons r t,f=>by rw[qv,Qe]at f;rw[WI,WI,YY r f.1,SH t f.2]
theorem ZF{A:Around}{s:Shared}{x:V}{v:Value}(rx:rA x v)(fx:UF x=true):∀{xs:List V}{us:List Value},bA xs us->xs.all UF=true->∀u∈us,qp A s u v (OR x u)
 |_,_,.nil,_=>fun u hu=>by cases hu
 |y::xs,u::us,.cons r t,f=>fun u' hu=>by rw[qv,Qe]at f;rcases QK.mp hu with rfl|hu;rw[YY r f.1];exact L9 r rx f.1 fx;exact ZF rx fx t f.2 u' hu
def inV(x:V)(xs:List V):Bool:=xs.any fun y=>V4 y x
def ph(K:QF)(neg:Bool):R2:=fun x y H Q=>∃p xs,y=.ref p/\(HC K H p xs∨TC K H p xs)/\UF x=true/\xs.all UF=true/\Q (.bl (if neg then !inV x xs else inV x xs)) H
theorem RU:bF X (compareOp .In) (ph X.K false):=by intro pins s σ H x y v u Q I rx ry h;obtain⟨p,xs,rfl,hq,fx,fs,q⟩:=h;cases ry;rcases hq with hq|hq;obtain⟨its,r,pl,hz⟩:=I.list hq;refine SeqAt.in_listAt (OR x) pl.isList (fun w hw=>ZF rx fx r fs w (by simpa using hw)) ⟨.bl _,H,I,rfl,?_⟩;rw[show its.toArray.any (OR x)=its.any (OR x) by simp,SH r fs];exact q;obtain⟨its,r,pl,hz⟩:=I.tuple hq;refine SeqAt.in_tupleAt (OR x) pl (fun w hw=>ZF rx fx r fs w (by simpa using hw)) ⟨.bl _,H,I,rfl,?_⟩;rw[show its.toArray.any (OR x)=its.any (OR x) by simp,SH r fs];exact q
theorem lN:bF X (compareOp .NotIn) (ph X.K true):=by intro pins s σ H x y v u Q I rx ry h;obtain⟨p,xs,rfl,hq,fx,fs,q⟩:=h;cases ry;rcases hq with hq|hq;obtain⟨its,r,pl,hz⟩:=I.list hq;refine SeqAt.notIn_listAt (OR x) pl.isList (fun w hw=>ZF rx fx r fs w (by simpa using hw)) ⟨.bl _,H,I,rfl,?_⟩;rw[show its.toArray.any (OR x)=its.any (OR x) by simp,SH r fs];exact q;obtain⟨its,r,pl,hz⟩:=I.tuple hq;refine SeqAt.notIn_tupleAt (OR x) pl (fun w hw=>ZF rx fx r fs w (by simpa using hw)) ⟨.bl _,H,I,rfl,?_⟩;rw[show its.toArray.any (OR x)=its.any (OR x) by simp,SH r fs];exact q
theorem kO:BG X (.builtin "len") (fun xs H Q=>∃p ys,xs=[.ref p]/\(HC X.K H p ys∨TC X.K H p ys)/\Q (.int ys.length) H):=by intro pins s σ H xs us Q I r h;obtain⟨p,ys,rfl,hq,q⟩:=h;obtain⟨u,rfl,rx⟩:=RI r;cases rx;have hn:=EG;rcases hq with hq|hq;obtain⟨its,r',pl,hz⟩:=I.list hq;have hlen:=r'.length;exact Calls.call_len_list pl.isList (by simp only[QU]<;>omega) ⟨.int ys.length,H,I.tok _,⟨s.toks+1,by rw[QU,hlen]⟩,q⟩;obtain⟨its,r',pl,hz⟩:=I.tuple hq;have hlen:=r'.length;exact len_tuple pl (by simp only[QU]<;>omega) ⟨.int ys.length,H,I.tok _,⟨s.toks+1,by rw[QU,hlen]⟩,q⟩
theorem zO:BG X (.builtin "len") (fun xs H Q=>∃z,xs=[.str z]/\z.length<=sizeLine/\Q (.int z.length) H):=by intro pins s σ H xs us Q I r h;obtain⟨z,rfl,hz,q⟩:=h;obtain⟨u,rfl,t,rfl⟩:=RI r;have hn:=EG;exact len_str (by omega) ⟨.int z.length,H,I.tok _,⟨_,rfl⟩,q⟩
theorem yO:BG X (.type "list") (fun xs H Q=>∃p ys,xs=[.ref p]/\(HC X.K H p ys∨TC X.K H p ys)/\∀l,H l=none->Q (.ref l) (UA H l (.lst ys))):=by
 intro pins s σ H xs us Q I r h;obtain⟨p,ys,rfl,hq,q⟩:=h;obtain⟨u,rfl,rx⟩:=RI r;cases rx;have fin:∀(its:List Value),bA ys its->ys.length<=sizeLine->∀(h':Heap) (c':Nat),(∀b o',s.heap.get? b=some o'->h'.get? b=some o') ->
   h'.get? s.heap.objs.size=some { cls:=.type "list",dict:=none,data:=.seq its.toArray c',slots:=#[] }->EP X pins σ Q (.ref s.heap.objs.size) { s with heap:=h' }:=fun its r' hz h' c' kp e =>
  ⟨.ref s.heap.objs.size,_,I.laid (t':=s.toks) kp (QS _) (show xB X.prog X.w _ h' _ (.lst ys) from⟨hz,its,c',r',e⟩),rfl,q _ (I.hok.fresh (QS _))⟩
 rcases hq with hq|hq;obtain⟨its,r',pl,hz⟩:=I.list hq;have hlen:=r'.length;obtain⟨o,ho,hc,n,hd⟩:=pl.isList;exact call_list_seq p (.inl rfl) ho hc hd (fun h' c' kp e=>fin its r' hz h' c' kp e) (by simp only[QU]<;>omega);obtain⟨its,r',pl,hz⟩:=I.tuple hq;have hlen:=r'.length;obtain⟨o,ho,hc,n,hd⟩:=pl;exact call_list_seq p (.inr rfl) ho hc hd (fun h' c' kp e=>fin its r' hz h' c' kp e) (by simp only[QU]<;>omega)
def MV(K:QF)(T:String)(x:V)(H:Hp):Prop:=match x with
 | .str _=>T="str"
 | .int _=>T="int"
 | .ref p=>(T="list"/\∃xs,HC K H p xs)∨(T="tuple"/\∃o,K.lookup p=some o/\o.cls=.type "tuple"/\o.dict=none) ∨
   (T="dict"/\((∃kvs,H p=some (.dK kvs))∨∃ep kvs,H p=some (.dT ep kvs)))∨(T="set"/\∃S n,H p=some (.set S n))
 |_=>False
theorem zW{σ:St}{H:Hp}{T:String}(I:Inv X pins σ H s)(r:rA x v)(ty:MV X.K T x H) :
  s.TypeIs v T/\∀a,v=.ref a->∃ob,s.heap.get? a=some ob/\ob.dict=none:=by
 cases x with
 |str z=>obtain⟨t,rfl⟩:=r;cases(show T="str" from ty);exact⟨QB8 s z t,fun _ e=>nomatch e⟩
 |int i=>obtain⟨t,rfl⟩:=r;cases(show T="int" from ty);exact⟨QB9 s i t,fun _ e=>nomatch e⟩
 |ref p =>
  cases r;rcases ty with⟨rfl,xs,hq⟩| ⟨rfl,o,hk,hc,hd⟩| ⟨rfl,hk⟩| ⟨rfl,S,n,hk⟩
  obtain⟨its,_,pl,_⟩:=I.list hq;refine⟨pl.isList.typeIs,fun a e=>?_⟩;cases e;obtain⟨o,n,e,c,hd,_⟩:=pl;exact⟨o,e,hd⟩;refine⟨⟨o,I.kIn p o hk,hc⟩,fun a e=>?_⟩;cases e;exact⟨o,I.kIn _ o hk,hd⟩;have z:∃o,s.heap.get? p=some o/\o.ExactDict:=by
   rcases hk with⟨kvs,hk⟩| ⟨ep,kvs,hk⟩
   obtain⟨_,_,_,_,o,_,_,e,ex,_⟩:=I.hok p _ hk;exact⟨o,e,ex⟩;obtain⟨_,_,_,_,o,_,e,ex,_⟩:=I.hok p _ hk;exact⟨o,e,ex⟩
  obtain⟨o,e,ex⟩:=z;refine⟨⟨o,e,ex.1⟩,fun a e2=>?_⟩;cases e2;exact⟨o,e,ex.2.1⟩;obtain⟨o,_,_,_,e,ex,_⟩:=I.hok p _ hk;refine⟨⟨o,e,ex.1⟩,fun a e2=>?_⟩;cases e2;exact⟨o,e,ex.2.1⟩
 |_=>exact Qb ty
def yh(K:QF)(T:String)(r:V->List V->Hp->VK->Prop)(to:TE):TE:=fun σ H Q=>to σ H fun x H1=>MV K T x H1/\r x [] H1 Q
def Lk(K:QF)(T:String)(r:V->List V->Hp->VK->Prop)(to:TE)(t:TA):TE:=fun σ H Q=>to σ H fun x H1=>MV K T x H1/\t σ H1 fun xs H2=>r x xs H2 Q
end
variable{o e:Expr}{es:List Expr}{to:TE}{t:TA}{name:Str}{apos cpos:Pos}{T id:String}{r:V->List V->Hp->VK->Prop}
theorem e8(pa:PlainAttrs T)(slot:Slot T name id)(hty:typeOf (.builtin id)=pure (.type "method_descriptor"))(hm:Ub X id r)(ho:PE X o to)
  (hbase:attributeBase o name X.env (eval o X.env)=eval o X.env:=by rfl) (hline:(apos.endLine==cpos.line)=true:=by rfl):PE X (.Call (.Attribute o name apos) [] [] cpos) (yh X.K T r to):=by
 intro pins s σ H Q I h;refine QAj hbase hline (BB (ho pins s σ H _ I h) fun v s1 ⟨x,H1,I1,r1,ty,q1⟩=>?_);obtain⟨h1,h2⟩:=zW I1 r1 ty;exact⟨T,id,pa,slot,hty,h1,h2,Wg rfl (QBD (hm pins s1 σ H1 x [] v [] Q I1 r1 .nil q1))⟩
theorem zd(pa:PlainAttrs T)(slot:Slot T name id)(hty:typeOf (.builtin id)=pure (.type "method_descriptor"))(hm:Ub X id r)(ho:PE X o to)(ha:PA X (e::es) t)
  (hbase:attributeBase o name X.env (eval o X.env)=eval o X.env:=by rfl)
  (hfew:((backTo cpos (starEach (e::es) X.env)).all (fun x=>!x.1)&&(backToKw cpos (keywordEach [] X.env)).all (fun x=>x.1.isSome)
   && decide ((e::es).length+([]:List Keyword).length+(if([]:List Keyword).isEmpty then 0 else 1)<30))=true:=by rfl)
  (hline:(apos.endLine==cpos.line)=true:=by rfl) (hs:starEach (e::es) X.env=(false,eval e X.env)::starEach es X.env:=by rfl) (hplain:(backTo cpos (starEach es X.env)).any (·.1)=false:=by rfl) :
  PE X (.Call (.Attribute o name apos) (e::es) [] cpos) (Lk X.K T r to t):=by
 intro pins s σ H Q I h;refine wpAny_Call_method_late hbase hfew hline rfl (BB (ho pins s σ H _ I h) fun v s1 ⟨x,H1,I1,r1,ty,q1⟩=>?_);obtain⟨h1,h2⟩:=zW I1 r1 ty;refine⟨T,id,pa,slot,hty,h1,h2,?_⟩;have hA:=ha cpos pins s1 σ H1 _ I1 q1;rw[hs]at hA ⊢;refine Wg (by show(false||(backTo cpos (starEach es X.env)).any (·.1))=false;rw[hplain]<;>rfl) (Calls.evalArgs_plain ?_);exact BB hA fun us s2 ⟨vs,H2,I2,r2,q2⟩=>hm pins s2 σ H2 x vs v us Q I2 r1 r2 q2
end
def Fj(X:Cx)(id:String)(r:V->List V->Hp->VK->Prop):Prop :=
 ∀(pins:FB) (s:Shared) (σ:St) (H:Hp) (x:V) (xs:List V) (v:Value) (us:List Value) (Q:VK),Inv X pins σ H s->rA x v->bA xs us->r x xs H Q ->
  wpAny (model X.prog X.w) X.A (call (.builtin id) (v::us)) (EP X pins σ Q) X.xe s
theorem bA.one:∀{x:V}{us:List Value},bA [x] us->∃u,us=[u]/\rA x u
 |_,_,.cons r .nil=>⟨_,rfl,r⟩
theorem bA.zero:∀{us:List Value},bA [] us->us=[]
 |_,.nil=>rfl
theorem bA.eraseIdx:∀{xs:List V}{us:List Value}(i:Nat),bA xs us->bA (xs.eraseIdx i) (us.eraseIdx i)
 |_,_,_,.nil=>.nil
 |_,_,0,.cons _ t=>t
 |_,_,i+1,.cons r t=>.cons r (bA.eraseIdx i t)
theorem bA.reverse{xs:List V}{us:List Value}(h:bA xs us):bA xs.reverse us.reverse:=by
 induction h with
 |nil=>exact .nil
 |cons r t ih=>rw[Wj,Wj];exact bA.append ih (.cons r .nil)
theorem bA.rep{xs:List V}{us:List Value}(h:bA xs us):∀k:Nat,bA (Qu k xs).flatten (Qu k us).flatten
 |0=>.nil
 |k+1=>by rw[qq,qq,we,we];exact bA.append h (bA.rep h k)
theorem F9{α:Type}(l:List α):l.eraseIdx (l.length - 1)=l.dropLast:=by
 induction l with
 |nil=>rfl
 |cons a r ih =>
  cases r with
  |nil=>rfl
  |cons b r =>
   have e:(a::b::r).length - 1=((b::r).length - 1)+1:=by have h1:(a::b::r).length=r.length+2:=rfl;have h2:(b::r).length=r.length+1:=rfl;omega
   rw[e,List.eraseIdx_cons_succ,ih]
   all_goals rfl
theorem fM{α:Type}:∀(l:List α) (i:Nat),(l.eraseIdx i).length<=l.length
 |[],_=>QS _
 |_::_,0=>wU _
 |_::r,i+1=>Nat.succ_le_succ (fM r i)
theorem pM(its:List Value):∀(k:Nat) (acc:List Value),
  QCA (fun x1 x2=>x1++x2) acc.toArray (Qu k its.toArray)=(acc++(Qu k its).flatten).toArray
 |0,acc=>by simp
 |k+1,acc=>by
  have e:acc.toArray++its.toArray=(acc++its).toArray:=by simp
  have e2:(acc++its)++(Qu k its).flatten=acc++(Qu (k+1) its).flatten:=by rw[qq,we,qr]
  rw[<- e2,<- pM its k (acc++its),<- e,qq,WC]
section
variable{X:Cx}{pins:FB}{σ:St}{H:Hp}{s:Shared}{l b:Addr}{xs ys zs:List V}
theorem Inv.lset{its its':List Value}{n:Nat}{f:Array Value->Array Value}{t':Nat}(I:Inv X pins σ H s)(hH:H l=some (.lst xs))
  (e:s.heap.get? l=some { cls:=.type "list",data:=.seq its.toArray n }) (hf:f its.toArray=its'.toArray) (hv:bA ys its') (hz:ys.length<=sizeLine) :
  Inv X pins σ (UA H l (.lst ys)) { s with heap:=s.heap.update l (qM f),toks:=t' }:=by
 have q:=PySem.IsL.update e f;rw[hf]at q;refine I.write (x:=l) (e:=l) (by rw[hH];exact trivial) (.inl rfl) (fun b' u hb hu=>(Q8 s.heap (qM f) (Q2 hb)).trans hu) ⟨_,q⟩ ?_;exact⟨hz,its',_,hv,q⟩
theorem Inv.lnew{its:List Value}{t':Nat}(I:Inv X pins σ H s)(hv:bA ys its)(hz:ys.length<=sizeLine) :
  Inv X pins σ (UA H s.heap.objs.size (.lst ys)) { s with heap:=s.heap.push { cls:=.type "list",data:=.seq its.toArray },toks:=t' } :=
 I.laid (fun _ _ q=>QH _ q) (QS _) ⟨hz,its,0,hv,QO _ rfl⟩
theorem Inv.fresh(I:Inv X pins σ H s):H s.heap.objs.size=none:=I.hok.fresh (QS _)
theorem Inv.lstM(I:Inv X pins σ H s)(hH:H l=some (.lst xs)):xs.length<=sizeLine/\∃(its:List Value) (n:Nat),bA xs its/\xs.length=its.length/\s.heap.get? l=some { cls:=.type "list",data:=.seq its.toArray n }:=by obtain⟨z,its,n,r,e⟩:=I.hok l _ hH;exact⟨z,its,n,r,r.length,e⟩
theorem YX{n:Nat}(h:n<=sizeLine):WW n=false:=by unfold WW;exact dF (by omega)
end
section
variable{X:Cx}
def IS:V->List V->Hp->VK->Prop:=fun x vs H Q=>∃l xs y,x=.ref l/\vs=[y]/\H l=some (.lst xs)/\xs.length<sizeLine/\Q .non (UA H l (.lst (xs++[y])))
theorem xV:Fj X "list.append" IS:=by intro pins s σ H x vs v us Q I rx rv h;obtain⟨l,xs,y,rfl,rfl,hH,hz,q⟩:=h;cases rx;obtain⟨u,rfl,ru⟩:=rv.one;obtain⟨z,its,n,r,hl,e⟩:=I.lstM hH;refine QAZ F.slot_list_append ⟨_,e,rfl⟩ F.entry_list_append (F.args_list_append_2 _ _) (PySem.list_append l its.toArray n u (by rw[QU];omega)) ⟨e,?_⟩;refine⟨.non,_,I.lset (its':=its++[u]) hH e (by simp) (r.append (.cons ru .nil)) ?_,rfl,q⟩;rw[QM,Q1];omega
def P7:V->List V->Hp->VK->Prop:=fun x vs H Q=>∃l xs i k y,x=.ref l/\vs=[.int i]/\H l=some (.lst xs)/\-(2 ^ 63)<=i/\i<2 ^ 63/\seqIndex? i xs.length=some k/\xs[k]?=some y/\Q y (UA H l (.lst (xs.eraseIdx k)))
theorem NX:Fj X "list.pop" P7:=by
 intro pins s σ H x vs v us Q I rx rv h;obtain⟨l,xs,i,k,y,rfl,rfl,hH,h1,h2,hk,hy,q⟩:=h;cases rx;obtain⟨u,rfl,ru⟩:=rv.one;obtain⟨t,rfl⟩:=ru;obtain⟨z,its,n,r,hl,e⟩:=I.lstM hH;obtain⟨w,hw,rw'⟩:=r.get hy;refine QAZ F.slot_list_pop ⟨_,e,rfl⟩ F.entry_list_pop (F.args_list_pop_2 _ _)
  (MeetsSeq.list_pop_at l its.toArray n i t k w (fitsIndex_both h1 h2) (by rw[QU,<- hl];exact hk) (by rw[<- qa];exact hw) (by rw[QU];omega)) ⟨e,?_⟩
 refine⟨y,_,I.lset (its':=its.eraseIdx k) hH e ?_ (r.eraseIdx k) ?_,rw',q⟩;show its.toArray.eraseIdxIfInBounds k=(its.eraseIdx k).toArray;rw[List.eraseIdxIfInBounds_toArray];have:=fM xs k;omega
def zP:V->List V->Hp->VK->Prop:=fun x vs H Q=>∃l xs,x=.ref l/\vs=[]/\H l=some (.lst xs)/\Q .non (UA H l (.lst xs.reverse))
theorem iR:Fj X "list.reverse" zP:=by intro pins s σ H x vs v us Q I rx rv h;obtain⟨l,xs,rfl,rfl,hH,q⟩:=h;cases rx;have hus:=rv.zero;subst hus;obtain⟨z,its,n,r,hl,e⟩:=I.lstM hH;refine QAZ F.slot_list_reverse ⟨_,e,rfl⟩ F.entry_list_reverse (F.args_list_reverse_1 _) (AutoSeq1.list_reverse_list_0 l its.toArray n (by rw[QU];omega)) ⟨e,?_⟩;refine⟨.non,_,I.lset (its':=its.reverse) hH e (by simp) r.reverse ?_,rfl,q⟩;rw[List.length_reverse];omega
def Lc:R2:=fun x y H Q=>∃l k xs,x=.ref l/\y=.int k/\H l=some (.lst xs)/\-(2 ^ 63)<=k/\k<2 ^ 63/\xs.length * k.toNat<=sizeLine /\
 ∀p,H p=none->Q (.ref p) (UA H p (.lst (Qu k.toNat xs).flatten))
theorem O3{α:Type}(xs:List α)(k:Nat):(Qu k xs).flatten.length=k * xs.length:=by
 induction k with
 |zero=>simp
 |succ k ih=>rw[qq,we,QM,ih,Nat.succ_mul,Nat.add_comm]
theorem Z8:bF X (binaryOp .Mult) Lc:=by
 intro pins s σ H x y v u Q I rx ry h;obtain⟨l,k,xs,rfl,rfl,hH,h1,h2,hz,q⟩:=h;cases rx;obtain⟨t,rfl⟩:=ry;obtain⟨z,its,n,r,hl,e⟩:=I.lstM hH;have hlen:its.toArray.size * k.toNat<=sizeLine:=by rw[QU,<- hl];exact hz
 have hcap:¬ its.toArray.size * k.toNat > (2 ^ 63 - 1) / 8:=by
  have:(sizeLine:Nat)<=(2 ^ 63 - 1) / 8:=by decide
  omega
 have hfit:¬ (!Builtin.List.listFitsIndex k)=true:=by rw[fitsIndex_both h1 h2];exact QC
 have hlong:¬ WW (its.toArray.size * k.toNat)=true:=by rw[YX hlen];exact QC
 have hnew:QCA (fun x1 x2=>x1++x2) #[] (Qu (if its.toArray.isEmpty=true then 0 else k.toNat) its.toArray)=(Qu k.toNat its).flatten.toArray:=by
  have f0:∀m:Nat,QCA (fun x1 x2=>x1++x2) #[] (Qu m its.toArray)=(Qu m its).flatten.toArray:=fun m=>by have:=pM its m [];rw[Qn]at this;exact this
  rw[f0];cases its with
  |nil=>simp
  |cons a r'=>rw[if_neg (by simp)]
 refine wpAny_binaryOp_repeat_ref (T:="list") (U:="int") (by decide) ⟨_,e,rfl⟩ (fun s'=>QB9 s' k t) noFill_list_mul F.fills_int_mul QB0 repeat_list F.slot_int_index.lookup
  (QAZ QB0 (QB9 s k t) F.entry_int_rmul (F.args_int_rmul_2 _ _) (int___rmul___int_list k t l its.toArray n)
   ⟨e,rfl,⟨_,e,rfl⟩,QAZ F.slot_list_mul ⟨_,e,rfl⟩ F.entry_list_mul (F.args_list_mul_2 _ _) (AutoListH.list___mul___list_int_3 l its.toArray n k t hfit hcap hlong) ⟨e,?_⟩⟩)
 rw[hnew];exact⟨.ref _,_,I.lnew (t':=s.toks) (r.rep k.toNat) (by rw[O3,Nat.mul_comm];exact hz),rfl,q _ I.fresh⟩
end
section
variable{prog:Program}{w:World}{A:Around}{E:OB}{s:Shared}
end
section
variable{X:Cx}
end
end L2
namespace Att
open PySem PySem.W PySem.Calls PyProof.Rows
theorem oJ{P:Params}{h:Heap}:∀(ns:List Int) (vs:List Value),WellAll P h vs (ns.map WData.int)->IntsAre vs ns:=by
 intro ns;induction ns with
 |nil=>intro vs w;rw[qR]at w;cases w;exact .nil
 |cons n ns ih =>
  intro vs w;rw[QN]at w;cases w with
  |cons a b=>cases a;exact .cons _ _ (ih _ b)
theorem script_of{l:OpenLaw}{n:Nat}(hn:l.most=some n){P:Params}{h:Heap}{args:List WData}{vals:List Value}
  (hpre:l.row.toRowW.claim.pre args=true) (hwl:WellAll P h vals args) :
  ∃a vs ns,vals=[Value.ref a]/\args=[WData.list (ns.map WData.int)]/\h.get? a=some { cls:=.type "list",data:=.seq vs.toArray }/\IntsAre vs ns/\ns.length<=n:=by
 have hsh:WShape.hasAll [] args [.list .int]=true:=(pre_splitW hpre).1;have hc:l.pre.holds [] { args:=args }=true:=(pre_splitW hpre).2;obtain⟨d,r,rfl,h1,h2⟩:=hasAllW_cons hsh;obtain rfl:=hasAllW_nil h2;obtain⟨xs,rfl,h3⟩:=hasW_list h1;obtain⟨ns,rfl⟩:=items_int h3;have hlen:ns.length<=n:=by
  unfold OpenLaw.pre at hc;have h4:(WTm.not (.lt (.lit (.int (n:Int))) (.len (.arg 0)))).holds [] { args:=[.list (ns.map .int)] }=true:=by have h4:=(holds_andW hc).1;rw[hn]at h4;exact h4
  have h5:=condW_of h4 (w_not (w_lt w_lit (w_len_list (w_arg rfl))));rw[QD]at h5;refine Nat.le_of_not_lt fun q=>?_;have q':(n:Int)<((ns.length:Nat):Int):=by omega
  first
   | (rw[dT q']at h5;exact absurd h5 (by decide))
   | (simp at h5;omega)
 cases hwl with
 |cons w1 w2 =>
  cases w2;cases w1 with
  |list ho hall=>exact⟨_,_,ns,rfl,rfl,ho,oJ ns _ hall,hlen⟩
theorem post_true(l:OpenLaw)(args:List WData):l.row.toRowW.claim.post args (.bool true) args=true :=
 postW_of (r:=l.row.toRowW) (X:=(true==true))
  (show WShape.has [] (.bool true) .bool=true by first|rfl|decide|simp[WShape.has,WShape.arms,WShape.armsAll])
  (show(WTm.eq .res (.lit (.bool true))).value [] { args:=args,res:=some (.bool true),after:=args }=some (.bool (true==true)) from w_eq_bool (w_res rfl) w_lit) rfl
section
variable{prog:Program}{w:World}{A:Around}{E:OB}{s:Shared}{K:Frag}
end
end Att
namespace L2
open PySem PySem.Spec PyProof.Rows
theorem LL:∀{vs:List Value}{ns:List Int},IntsAre vs ns->bA (ns.map V.int) vs
 |_,_,.nil=>.nil
 |_,_,.cons n t h=>.cons ⟨t,rfl⟩ (LL h)
def Mf(H:Hp):Prop:=∀b,H b=none∨∃o xs,H b=some (.frz o (.lst xs))
theorem jY{P:Program}{w:World}{K:QF}{mg mb:Str->Option Value}{CX:pZ}{k:Nat}{fa a:Addr}{fd:FuncData}{x:Str}{sp:Sp}{s₁:Shared}{vs:List Value}{ns:List Int}
  (KX:K.In s₁.heap) (hns:s₁.heap.Ns mainGlobals mg) (hb:s₁.heap.Ns builtinsNs mb) (hbb:∀x:Str,x≠"__name__"->mb x=bootBuiltins x) (hlim:s₁.heap.NoLimit) (hg:s₁.gens=#[])
  (ha:s₁.heap.get? a=some { cls:=.type "list",data:=.seq vs.toArray }) (hi:IntsAre vs ns) (hl:ns.length<=sizeLine) (hr:Room k callerA)
  (F:∀base:Heap,K.In base->base.Ns mainGlobals mg->FnOk P w K mg base CX k fa fd [x] sp) (hbind:∀(s:Shared) (u:Value),BindsTo s fd ⟨[u],[]⟩ [(x,u)])
  (hsp:∀H:Hp,Mf H->HC K H a (ns.map V.int)->sp [.ref a] H (fun v _=>v=.bl true) fun _ _ _=>False)
  (hCX:∀H e s',CX [] H s₁ (fun _ _ _=>False) e s'->False) :
  codeAny (model P w) callerA (.call (.ref fa) ⟨[.ref a],[]⟩) (fun r s'=>r=.ok (.ret (.bool true))/\OldK s₁.heap s'.heap/\s'.os=s₁.os/\AllBare s'.gens) s₁:=by
 have rv:=LL hi;have lenV:=hi.length;have core:∀H:Hp,Mf H->HC K H a (ns.map V.int)->rL P w H s₁.heap->(∀b,H b≠none->b=a)->(H a≠none->K.lookup a=none) ->
   codeAny (model P w) callerA (.call (.ref fa) ⟨[.ref a],[]⟩) (fun r s'=>r=.ok (.ret (.bool true))/\OldK s₁.heap s'.heap/\s'.os=s₁.os/\AllBare s'.gens) s₁:=by
  intro H hO hS hok hA hK;have base_of:∀{b:Addr}{o:Obj},s₁.heap.get? b=some o->H b=none->(FN s₁.heap H).get? b=some o:=fun e n=>nY e n;have noA:∀{b:Addr}{o:Obj}{es:Array DictEntry}{ep:Nat},s₁.heap.get? b=some o->o.data=.dict es ep->H b=none:=fun {b o es ep} e d=>by
   cases q:H b with
   |none=>rfl
   |some u=>have e':b=a:=hA b (by rw[q];simp);subst e';rw[ha]at e;cases e;have d':Data.seq vs.toArray _=Data.dict es ep:=d;cases d'
  have nsK:∀{b:Addr}{m:Str->Option Value},s₁.heap.Ns b m->(FN s₁.heap H).Ns b m:=fun {b m} ⟨o,es,ep,e,d,r⟩=>⟨o,es,ep,base_of e (noA e d),d,r⟩
  have hKb:K.In (FN s₁.heap H):=fun b o e=>base_of (KX b o e) (by
   cases q:H b with
   |none=>rfl
   |some u=>have e':b=a:=hA b (by rw[q];simp);subst e';rw[hK (by rw[q];simp)]at e;cases e)
  have hM:Mod K mg (FN s₁.heap H):=⟨hKb,nsK hns,⟨mb,nsK hb,hbb⟩,let⟨mc,h1,h2⟩:=hlim;⟨mc,nsK h1,h2⟩⟩
  have e0:Env0 P w K mg (FN s₁.heap H) callerA [] s₁ H:=⟨rfl,hM,fun b o e=>O2 e,Wr (pV _ _),trivial,fun b hb=>absurd (show b∈([]:List Addr) from hb) (by simp),hok,.of_eq hg⟩
  refine QAP ((F _ hKb (nsK hns)).run callerA [] s₁ H ⟨[.ref a],[]⟩ [.ref a] [.ref a] _ _ hr e0 (hbind s₁ (.ref a)) (.cons rfl .nil) (hsp H hO hS)) fun r s' h=>?_;cases r with
  |error e=>exact(hCX H e s' h).elim
  |ok fl =>
   cases fl with
   |next=>exact Qb h
   |brk=>exact Qb h
   |cont=>exact Qb h
   |ret u =>
    obtain⟨v,H',os,bare,un,hok',r',q⟩:=h;have q':v=.bl true:=q;subst q';obtain rfl:u=Value.bool true:=r';refine⟨rfl,OldK.of_keep fun b o e=>?_,os,bare⟩;cases q:H b with
    |none=>exact un.keep b o e q (by intro z;exact absurd (show b∈([]:List Addr) from z) (by simp)) (by simp)
    |some u =>
     rcases hO b with z|⟨ob,xs,z⟩
     rw[q]at z;cases z;have z2:=un.frzs b ob _ z;obtain⟨e1,_⟩:=hok b _ z;obtain⟨e2,_⟩:=hok' b _ z2;rw[e]at e1;cases e1;exact e2
 cases hk:K.lookup a with
 |some o=>have e:=KX a o hk;rw[ha]at e;cases e;refine core (fun _=>none) (fun _=>.inl rfl) (.inr ⟨_,vs.toArray,_,hk,rfl,rfl,rfl,by rw[QU,lenV];exact hl,by simpa using rv⟩) (fun b u z=>by have z':(none:Option HO)=some u:=z;cases z') (fun b z=>absurd rfl z) fun z=>absurd rfl z
 |none =>
  refine core (fun b=>if b=a then some (.frz { cls:=.type "list",data:=.seq vs.toArray } (.lst (ns.map V.int))) else none) (fun b=>?_) (.inl (.inr ⟨{ cls:=.type "list",data:=.seq vs.toArray },if_pos rfl⟩)) (fun b u z=>?_) (fun b z=>?_) fun _=>hk;by_cases hb:b=a
  ·exact .inr ⟨_,_,if_pos hb⟩
  exact .inl (if_neg hb);by_cases hb:b=a
  ·have z':=(if_pos hb).symm.trans z
   cases z';subst hb;exact⟨ha,by rw[QD];exact hl,vs,_,rv,ha⟩
  have z':=(if_neg hb).symm.trans z;cases z';by_cases hb:b=a
  ·exact hb
  exact absurd (if_neg hb) z
def GD(s:Stmt):Arguments:=match s with
 | .FunctionDef _ a _ _ _ _ _ _ _ _=>a
 |_=>{ posonlyargs:=[],args:=[],vararg:=none,kwonlyargs:=[],kw_defaults:=[],kwarg:=none,defaults:=[] }
def YC(s:Stmt):List Stmt:=match s with
 | .FunctionDef _ _ b _ _ _ _ _ _ _=>b
 |_=>[]
def RA(s:Stmt):Scope:=match s with
 | .FunctionDef _ _ _ _ _ _ sc _ _ _=>sc
 |_=>{ kind:=.function,names:=[],isGenerator:=false,isCoroutine:=false }
noncomputable abbrev rZ:pZ:=fun _ _ _ _ _ _=>False
noncomputable abbrev E0:XK:=fun _ _ _=>False
theorem vd{X:Cx}:lL rZ X E0:=fun _ _ _ _ _ _ _ h=>h.elim
structure Fun(K:QF)(x qual:Str)(st:Stmt)(f:Addr)(fd:FuncData):Prop where
 ex:∃(oc:Value) (od:Option Addr) (kV doc pm:Value) (an:Option Addr) (cdv ct:Value) (osl:Array (Option Value)),
  fd=wP x qual (GD st) (YC st) (RA st) .none kV doc pm an cdv ct/\K.lookup f=some ⟨oc,od,.func fd,osl⟩/\QAT K cdv qual=true
 kp:wx K (.ref f)=true
section
variable{P:Program}{w:World}{K:QF}{mg:Str->Option Value}{base:Heap}
section
variable{x qual:Str}{st:Stmt}{f:Addr}{fd:FuncData}{ps:List Str}
theorem Fun.ok{N:List Str}{k:Nat}{sp:Sp}(F:Fun K x qual st f fd)(S:FnScope N ps (RA st))(len:∀vs H Q E,sp vs H Q E->vs.length=ps.length)
  (hbody:∀(cdv:Value) (A:Around) (outer:List Env) (s:Shared) (H:Hp) (vs:List V) (Q:VK) (E:XK),Room k (A.deeper (envOfC qual (RA st) s.heap.objs.size f cdv))->sp vs H Q E ->
   ∃t,rS (TR rZ P w K mg base N qual (RA st) f cdv A outer s H E).nox (YC st) t/\t { nx:=fun _ H'=>Q .non H',rt:=Q } (CD N vs) H):FnOk P w K mg base rZ (k+1) f fd ps sp:=by
 obtain⟨oc,od,kV,doc,pm,an,cdv,ct,osl,rfl,lk,hcd⟩:=F.ex;refine ce lk hcd S len fun A outer s H vs Q E hr hsp=>?_;obtain⟨t,h,q⟩:=hbody cdv A outer s H vs Q E hr hsp;exact⟨t,h.nox,q⟩
theorem Fun.binds(F:Fun K x qual st f fd)
  (h:∀(kV doc pm:Value) (an:Option Addr) (cdv ct:Value) (us:List Value),us.length=ps.length->bindArgs (wP x qual (GD st) (YC st) (RA st) .none kV doc pm an cdv ct) ⟨us,[]⟩=pure (ps.zip us)):vI K fd ps []:=by
 obtain⟨oc,od,kV,doc,pm,an,cdv,ct,osl,rfl,lk,hcd⟩:=F.ex;exact .all (h kV doc pm an cdv ct)
theorem C9{oc:Value}{od an:Option Addr}{osl:Array (Option Value)}{kV doc pm cdv ct:Value}(l:K.lookup f=some ⟨oc,od,.func (wP x qual (GD st) (YC st) (RA st) .none kV doc pm an cdv ct),osl⟩)
  (c:QAT K cdv qual=true) (k:wx K (.ref f)=true):Fun K x qual st f (wP x qual (GD st) (YC st) (RA st) .none kV doc pm an cdv ct):=⟨⟨oc,od,kV,doc,pm,an,cdv,ct,osl,rfl,l,c⟩,k⟩
end
end
section
variable{X:Cx}
end
def Same(H H':Hp):Prop:=∀b o,H b=some o->H' b=some o
theorem Same.refl(H:Hp):Same H H:=fun _ _ h=>h
theorem Same.trans{H H1 H2:Hp}(a:Same H H1)(b:Same H1 H2):Same H H2:=fun c o h=>b c o (a c o h)
theorem Same.free{H H':Hp}(e:Same H H'){l:Addr}(h:H' l=Option.none):H l=Option.none:=by
 cases q:H l with
 |none=>rfl
 |some o=>rw[e l o q]at h;cases h
theorem Same.seq{K:QF}{H H':Hp}{a:Addr}{xs:List V}(e:Same H H')(h:HC K H a xs):HC K H' a xs:=by rcases h with(h|⟨o,h⟩)|h;exact .inl (.inl (e _ _ h));exact .inl (.inr ⟨o,e _ _ h⟩);exact .inr h
def VL(env:Env):List (Str×NameKind)->List (Str×Addr)->List (Str×Addr)
 |[],cs=>cs
 | (n,k)::r,cs=>VL env r (if k==.free then(n,(env.cells.lookup n).getD 0)::cs else cs)
theorem zS{scope:Scope}{env:Env}(h:∀y∈scope.names,y.2=.free->∃c,env.cells.lookup y.1=some c):closureFor scope env=pure (VL env scope.names []):=by
 have key:∀(l:List (Str×NameKind)) (cs:List (Str×Addr)),(∀y∈l,y.2=.free->∃c,env.cells.lookup y.1=some c) ->
   (forIn l cs fun(x:Str×NameKind) (r:List (Str×Addr))=>(if(x.2==NameKind.free)=true then(do let c <- cellOf env x.1;pure (ForInStep.yield ((x.1,c)::r))) else pure (ForInStep.yield r):Sem (ForInStep (List (Str×Addr)))))=pure (VL env l cs):=by
  intro l;induction l with
  |nil=>intro cs _;rfl
  |cons y l ih =>
   intro cs hl;obtain⟨n,k⟩:=y;rw[QAw];by_cases hk:k=.free;subst hk;obtain⟨c,hc⟩:=hl (n,.free) QE rfl;have hc:env.cells.lookup n=some c:=hc;simp only[beq_self_eq_true,if_true,cellOf,hc,pure_bind,VL,QBt];exact ih _ fun z hz=>hl z (QG _ hz);have hb:(k==NameKind.free)=false:=by simpa using hk
   simp only[hb,qT,if_false,pure_bind,VL];exact ih _ fun z hz=>hl z (QG _ hz)
 have e:=key scope.names [] h;unfold closureFor;exact(congrArg (· >>= pure) e).trans (pure_bind _ _)
theorem aM{env:Env}{x:Str}{c:Addr}:∀(l:List (Str×NameKind)) (cs:List (Str×Addr)),(∀y∈l,y.2=.free->∃c,env.cells.lookup y.1=some c)->(∀c,cs.lookup x=some c->env.cells.lookup x=some c) ->
  (VL env l cs).lookup x=some c->env.cells.lookup x=some c
 |[],cs,_,hc,h=>hc c h
 | (n,k)::r,cs,hl,hc,h=>by
  refine aM r _ (fun z hz=>hl z (QG _ hz)) (fun d hd=>?_) h;by_cases hk:k=.free;subst hk;obtain⟨e,he⟩:=hl (n,.free) QE rfl;have he:env.cells.lookup n=some e:=he;simp only[beq_self_eq_true,if_true,he,QBt,Wz]at hd;cases hx:x==n with
  |true=>rw[hx]at hd;cases hd;rw[qm hx];exact he
  |false=>rw[hx]at hd;exact hc d hd
  have hb:(k==NameKind.free)=false:=by simpa using hk
  simp only[hb,qT,if_false]at hd;exact hc d hd
theorem kL{env:Env}{x:Str}:∀(l:List (Str×NameKind)) (cs:List (Str×Addr)),((∃c,cs.lookup x=some c)∨(x,NameKind.free)∈l)->∃c,(VL env l cs).lookup x=some c
 |[],cs,h=>by rcases h with h|h;exact h;cases h
 | (n,k)::r,cs,h=>by
  refine kL r _ ?_;rcases h with⟨c,h⟩| h;refine .inl ?_;split;rw[Wz];split;exact⟨_,rfl⟩;exact⟨c,h⟩;exact⟨c,h⟩;rcases QK.mp h with h|h
  ·cases h
   refine .inl ?_;simp
  exact .inr h
def aB:List Bool->Nat->List Str->List Str
 |b::m,j,x::N=>(if b then⟨#[46,j]⟩ else x)::aB m (j+1) N
 |_,_,N=>N
def CC:List Bool->St->St
 |b::m,v::σ=>(if b then none else v)::CC m σ
 |_,σ=>σ
theorem eI:∀(m:List Bool) (σ:St),(CC m σ).length=σ.length
 |[],σ=>by unfold CC;rfl
 |_::_,[]=>by unfold CC;rfl
 |b::m,v::σ=>by unfold CC;rw[QL,QL,eI m σ]
theorem mM:∀(m:List Bool) (j:Nat) (N:List Str),(aB m j N).length=N.length
 |[],_,N=>by unfold aB;rfl
 |_::_,_,[]=>by unfold aB;rfl
 |b::m,j,x::N=>by unfold aB;rw[QL,QL,mM m (j+1) N]
theorem UK:∀(m:List Bool) (j:Nat) (N:List Str) (σ:St) (i:Nat) (v:V),(CC m σ)[i]?=some (some v)->σ[i]?=some (some v)/\(aB m j N)[i]?=N[i]?
 |[],_,N,σ,i,v,h=>by unfold CC at h;unfold aB;exact⟨h,rfl⟩
 |_::_,_,N,[],i,v,h=>by unfold CC at h;simp at h
 |b::m,j,[],w::σ,i,v,h=>by
  unfold CC at h;cases i with
  |zero =>
   cases b with
   |true=>simp at h
   |false=>simp at h;subst h;exact⟨by simp,by unfold aB;rfl⟩
  |succ i=>have q:=(UK m (j+1) [] σ i v (by simpa using h)).1;exact⟨by simpa using q,by unfold aB;rfl⟩
 |b::m,j,x::N,w::σ,0,v,h=>by
  unfold CC at h;cases b with
  |true=>simp at h
  |false=>simp at h;subst h;exact⟨by simp,by unfold aB;simp⟩
 |b::m,j,x::N,w::σ,i+1,v,h=>by unfold CC at h;have q:=UK m (j+1) N σ i v (by simpa using h);unfold aB;exact⟨by simpa using q.1,by simpa using q.2⟩
def vK(scope sc:Scope):Scope :=
  { scope with names:=scope.names.map fun(n,k)=>if(k==.free&&sc.kind==.function&&sc.names.lookup n==some .cell) then(n,.cell) else(n,k) }
theorem JC(sc:Scope)(x:Str):∀(l:List (Str×NameKind)),
  (l.map fun(n,k)=>if(k==NameKind.free&&sc.kind==.function&&sc.names.lookup n==some .cell) then(n,NameKind.cell) else(n,k)).lookup x =
   (l.lookup x).map fun k=>if(k==NameKind.free&&sc.kind==.function&&sc.names.lookup x==some .cell) then NameKind.cell else k
 |[]=>rfl
 | (n,k)::r=>by
  rw[QN];have e:(if(k==NameKind.free&&sc.kind==.function&&sc.names.lookup n==some .cell)=true then(n,NameKind.cell) else(n,k)) =
    (n,if(k==NameKind.free&&sc.kind==.function&&sc.names.lookup n==some .cell)=true then NameKind.cell else k):=by split<;>rfl
  show List.lookup x ((if(k==NameKind.free&&sc.kind==.function&&sc.names.lookup n==some .cell)=true then(n,NameKind.cell) else(n,k))::_)=_;rw[e,Wz,Wz];cases hx:x==n with
  |true=>rw[qm hx];simp
  |false=>exact JC sc x r
structure CompSt(N:List Str)(sc scope:Scope)(tgs:List Str)(mask:List Bool):Prop where
 kind:scope.kind=.function
 nocell:∀y∈scope.names,y.2≠.cell
 names:∀y∈scope.names,y.2=.local->scope.names.lookup y.1=some .local
 free:∀y∈scope.names,y.2=.free->sc.names.lookup y.1=some .cell∨sc.names.lookup y.1=some .free
 loc:∀y∈scope.names,y.2=.local->y.1∈tgs∨y.1=(".0":Str)
 nd:(tgs++aB mask 0 N).Nodup
 no0:(".0":Str)∉tgs++aB mask 0 N
def FA(X:Cx)(scope:Scope)(tgs:List Str)(mask:List Bool)(s:Shared)(H:Hp)(ex:List Addr):Cx :=
  { X with N:=tgs++aB mask 0 X.N,s₀:=s,H₀:=H,env:=compEnvC scope (VL X.env scope.names []) s.heap.objs.size X.env,outer:=X.stack,stack:=X.stack,ex:=ex,fn:=fun _=>false,pn:=[],xe:=fun _ _=>False }
def GH(k:Nat)(mask:List Bool)(σ:St):St:=Qu k none++CC mask σ
section
variable{X:Cx}{pins:FB}{σ:St}{H:Hp}{s:Shared}{scope:Scope}{tgs:List Str}{mask:List Bool}{ex:List Addr}
theorem CompSt.cells(C:CompSt X.N X.env.scope scope tgs mask)(ok:X.Ok):∀y∈scope.names,y.2=.free->∃c,X.env.cells.lookup y.1=some c:=fun y hy hf =>
 ok.has y.1 (C.free y hy hf)
theorem CompSt.kindCF(C:CompSt X.N X.env.scope scope tgs mask){x:Str}(h:(relabel scope X.env).names.lookup x=some .cell∨(relabel scope X.env).names.lookup x=some .free):(x,NameKind.free)∈scope.names:=by
 have e:=JC X.env.scope x scope.names;have e':(relabel scope X.env).names.lookup x=(scope.names.lookup x).map fun k=>if(k==NameKind.free&&X.env.scope.kind==.function&&X.env.scope.names.lookup x==some .cell) then NameKind.cell else k:=e
 rw[e']at h;cases q:scope.names.lookup x with
 |none=>rw[q]at h;simp at h
 |some k =>
  have hm:=qQ q;have nc:=C.nocell _ hm;cases k with
  |free=>exact hm
  |cell=>exact absurd rfl nc
  | «local»=>rw[q]at h;simp at h
  |_=>rw[q]at h;simp at h
theorem IR(I:Inv X pins σ H s)(C:CompSt X.N X.env.scope scope tgs mask)(hex:∀b∈ex,kI X pins H b/\b<s.heap.objs.size){h':Heap}{t':Nat}
  (hn:h'.Ns s.heap.objs.size (fun _=>none)) (hs:qP s.heap.objs.size (s.heap.push { cls:=.type "dict",data:=.dict #[] }) h') :
  Inv (FA X scope tgs mask s H ex) [] (GH tgs.length mask σ) H { s with heap:=h',toks:=t' }:=by
 have kept:∀b u,s.heap.get? b=some u->h'.get? b=some u:=fun b u e=>hs.extBut b u (Qd (QR e)) (QH _ e);have look:∀x c,(VL X.env scope.names []).lookup x=some c->X.env.cells.lookup x=some c:=fun x c e=>aM scope.names [] (C.cells I.ok) (fun c z=>by simp at z) e;have nofs:∀b∈ex,b∉aV X.stack:=fun b hb z=>by obtain⟨⟨_,f1,f2,_⟩,_⟩:=hex b hb;rcases QK.mp (I.stkSub b z) with e|e;exact f1 e;exact f2 e
 refine⟨⟨I.ok.mod,C.kind,I.ok.glob,I.ok.blt,QS _,fun x y c h1 h2=>I.ok.inj x y c (look x c h1) (look y c h2),fun x hx=>?_,fun x c hf _=>absurd (show false=true from hf) QC,I.ok.hd,I.ok.frames,.inl rfl,fun b hb=>?_,I.bs,QZ I.ok.bsz I.sz,fun b o e hb=>?_,nofs,I.stack,I.stkFree⟩,
  rfl,I.bare,Un.kept kept,⟨_,hn,fun i x v h1 h2 h3=>?_⟩,fun x c h=>?_,I.hok.fresh (QS _),fun x c h=>I.freeC x c (look x c h),fun p hp=>absurd (show p∈([]:FB) from hp) (by simp),I.hok.kept kept,?_⟩
 exact kL scope.names [] (.inr (C.kindCF hx));obtain⟨⟨_,_,_,_,f4,_⟩,lt⟩:=hex b hb;exact⟨Qd lt,fun x c e=>f4 x c (look x c e)⟩;obtain⟨⟨_,_,_,f3,_⟩,_⟩:=hex b hb;rcases f3 with z|z;exact I.ok.noex b o e z;exact absurd (Qo (QR (I.ok.bs b o e).1) z) (wF _)
 ·
  have hi:tgs.length<=i:=by rcases QAx i tgs.length with z|z;unfold GH at h2;rw[qV (by simpa using z),wr]at h2;split at h2<;>cases h2;exact z
  have h1':(aB mask 0 X.N)[i - tgs.length]?=some x:=by have:(tgs++aB mask 0 X.N)[i]?=some x:=h1;rw[qI hi]at this;exact this
  have h2':(CC mask σ)[i - tgs.length]?=some (some v):=by unfold GH at h2;rw[qI (by simpa using hi)]at h2;simpa using h2
  obtain⟨g1,g2⟩:=UK mask 0 X.N σ _ v h2';rw[g2]at h1';have hxm:x∈tgs++aB mask 0 X.N:=qD (show(tgs++aB mask 0 X.N)[i]?=some x from h1);have hxt:x∉tgs:=fun z=>by have nd:=C.nd;rw[qb]at nd;exact nd.2.2 x z x (qD (by rw[g2];exact h1')) rfl
  have hfree:(x,NameKind.free)∈scope.names:=by
   rcases h3 with z|z|z;exfalso;have e:(relabel scope X.env).names.lookup x=some .local:=z;have e2:=JC X.env.scope x scope.names;have e3:(relabel scope X.env).names.lookup x=(scope.names.lookup x).map fun k=>if(k==NameKind.free&&X.env.scope.kind==.function&&X.env.scope.names.lookup x==some .cell) then NameKind.cell else k:=e2
   rw[e3]at e;cases q:scope.names.lookup x with
   |none=>rw[q]at e;cases e
   |some k =>
    rw[q]at e;have hm:=qQ q;have kl:k=.local:=by
     cases k with
     | «local»=>rfl
     |free=>simp at e;split at e<;>cases e
     |_=>simp at e
    subst kl;rcases C.loc _ hm rfl with z|z;exact hxt z;exact C.no0 (z▸hxm)
   exact C.kindCF (.inl z);exact C.kindCF (.inr z)
  obtain⟨m,hnm,hl⟩:=I.loc;have vis:jf X.env.scope x:=.inr (C.free _ hfree rfl);obtain⟨u,r,l⟩:=hl _ x v h1' g1 vis;refine⟨u,r,?_⟩;rcases l with⟨k,_⟩| ⟨_,c,hc,hcell⟩
  exfalso;have k':X.env.scope.names.lookup x=some .local:=k;rcases C.free _ hfree rfl with z|z;have z':X.env.scope.names.lookup x=some .cell:=z;rw[k']at z';cases z';have z':X.env.scope.names.lookup x=some .free:=z;rw[k']at z';cases z';obtain⟨c',hc'⟩:=kL (env:=X.env) scope.names [] (.inr hfree);have:c'=c:=by have:=look x c' hc';rw[hc]at this;exact(qL this).symm
  subst this;refine .inr ⟨?_,c',hc',?_⟩;rcases h3 with z|z|z
  ·exfalso
   have e:(relabel scope X.env).names.lookup x=some .local:=z;have e2:=JC X.env.scope x scope.names;have e3:(relabel scope X.env).names.lookup x=(scope.names.lookup x).map fun k=>if(k==NameKind.free&&X.env.scope.kind==.function&&X.env.scope.names.lookup x==some .cell) then NameKind.cell else k:=e2
   rw[e3]at e;cases q:scope.names.lookup x with
   |none=>rw[q]at e;cases e
   |some k =>
    rw[q]at e;have hm:=qQ q;have kl:k=.local:=by
     cases k with
     | «local»=>rfl
     |free=>simp at e;split at e<;>cases e
     |_=>simp at e
    subst kl;rcases C.loc _ hm rfl with z|z;exact hxt z;exact C.no0 (z▸hxm)
  exact .inl z;exact .inr z;obtain⟨o,ho,hd⟩:=hcell;exact⟨o,kept _ _ ho,hd⟩
 obtain⟨v,o,ho,hd⟩:=I.cell x c (look x c h);exact⟨v,o,kept _ _ ho,hd⟩;show(GH tgs.length mask σ).length=(tgs++aB mask 0 X.N).length;unfold GH;rw[QM,QM,qZ,eI,mM,I.len]
end
section
variable{X:Cx}{pins:FB}{σ σ':St}{H H':Hp}{s s':Shared}{scope:Scope}{tgs:List Str}{mask:List Bool}{ex:List Addr}{D:Addr}{acc:List V}{its:List Value}
theorem jS(I:Inv X pins σ H s)(hex:∀b∈ex,kI X pins H b/\b<s.heap.objs.size)(hD:D∈ex)(J:Inv (FA X scope tgs mask s H ex) [] σ' H' s')(hD':H' D=none)(hv:bA acc its)(hz:acc.length<=sizeLine)
  (hl:s'.heap.PlainList D its.toArray) {h'':Heap}(hs:qP s.heap.objs.size s'.heap h''):Inv X pins σ (UA H' D (.lst acc)) { s' with heap:=h'' }:=by
 have un:Un (aV X.stack) ex H H' s.heap s'.heap:=J.base;have neC:∀b o,s.heap.get? b=some o->b≠s.heap.objs.size:=fun b o e=>Qd (QR e);have fD:=hex D hD;have lC:H' s.heap.objs.size=none:=J.free;have DC:D≠s.heap.objs.size:=Qd fD.2;have go:∀b u,b≠s.heap.objs.size->s'.heap.get? b=some u->h''.get? b=some u:=fun b u nb e=>hs.extBut b u nb e;refine I.call' (s':={ s' with heap:=h'' }) (ch:=ex) J.os ⟨fun b o e n hb hx=>?_,fun b o e n hb hx=>?_,fun b o e n hx=>?_,fun b o e hx=>?_,fun b xs e=>?_,fun b o u e=>?_,fun b ps e=>?_⟩ ?_ J.bare fun b hb=>?_;exact go b o (neC b o e) (un.keep b o e n hb hx);obtain⟨sl,q⟩:=un.slot b o e n hb hx;exact⟨sl,go b _ (neC b o e) q⟩;have q:=un.free b o e n hx;rw[vA (fun(z:b=D)=>hx (by rw[z];exact hD))];exact q;obtain⟨o',q⟩:=un.there b o e hx;exact⟨o',go b o' (neC b o e) q⟩;rw[vA (iA (un.tups b xs e) hD')];exact un.tups b xs e;rw[vA (iA (un.frzs b o u e) hD')];exact un.frzs b o u e;obtain⟨more,q⟩:=un.tbls b ps e;exact⟨more,by rw[vA (iA q hD')];exact q⟩;intro b u e;by_cases hb:b=D;subst hb;rw[ZA]at e;cases e;obtain⟨n,q⟩:=hl;exact⟨hz,its,n,hv,go _ _ DC q⟩;rw[vA hb]at e;refine(J.hok b u e).stay (fun c v hc q=>go c v ?_ q) (fun c q=>?_) fun c xs q=>?_;rintro rfl;rcases hc with z|z;subst z;rw[lC]at e;cases e;rw[lC]at z;cases z;rw[vA (iA q hD')];exact q;rw[vA (iA q hD')];exact q;obtain⟨⟨f0,f1,f2,f3,f4,f5⟩,_⟩:=hex b hb;exact⟨f3,f1,f4,f5⟩
end
section
variable{X:Cx}{s:Shared}{elt iter tg:Expr}{ifs:List Expr}{scope:Scope}{pos:Pos}{wi:TI}{g:TG}{tc:TT}{te:TE}{tgs:List Str}{mask:List Bool}{pins:FB}
def Lf(X:Cx)(ifs:List Expr)(t:TT):Prop:=∀(pins:FB) (s:Shared) (σ:St) (H:Hp) (Q:Bool->Hp->Prop),Inv X pins σ H s->t σ H Q ->
 wpAny (model X.prog X.w) X.A (forIn ifs true fun c r=>if r=true then do let ok <- isTrue c X.env (eval c X.env);pure (ForInStep.yield ok) else pure (ForInStep.yield r)) (TP X pins σ Q) X.xe s
theorem kT:Lf X [] (fun _ H Q=>Q true H):=fun pins s σ H Q I h=>by rw[QA8];exact QJ ⟨H,I,h⟩
theorem zT{c:Expr}{t:TT}(hc:PT X c t):Lf X [c] t:=fun pins s σ H Q I h=>by rw[QAw];simp only[if_true];refine QA (QA (BB (hc pins s σ H Q I h) fun b s1 q=>QJ ?_));dsimp only;rw[QA8];exact QJ q
theorem iG{prog:Program}{w:World}{A:Around}{R:Result->Shared->Prop}{target:Expr}{it acc:Value}{env:Env}(I:Nat->Shared->Prop)
  (turn:∀n s,I n s->wpAny (model prog w) A (pyNext it) (fun r s₁=>match r with
   |none=>R (.ok .next) s₁
   |some v=>wpAny (model prog w) A (letOwnedTupleGo target it v) (fun _ s₁'=>wpAny (model prog w) A (assign target env v) (fun _ s₂ =>
     wpAny (model prog w) A (forIn ifs true fun c r=>if r=true then do let ok <- isTrue c env (eval c env);pure (ForInStep.yield ok) else pure (ForInStep.yield r)) (fun ok s₃ =>
      if ok=true then wpAny (model prog w) A (eval elt env) (fun x s₄ =>
       wpAny (model prog w) A (call (.builtin "list.append") [acc,x]) (fun _ s₅=>∃m,m<n/\I m s₅) (fun _ _=>False) s₄) (fun _ _=>False) s₃
      else ∃m,m<n/\I m s₃) (fun _ _=>False) s₂) (fun _ _=>False) s₁') (fun _ _=>False) s₁) (fun _ _=>False) s)
  (n:Nat) (h:I n s) :
  codeAny (model prog w) A (.compLoop (.ListComp elt [⟨target,iter,ifs,0⟩] scope pos) 0 it acc env) R s:=by
 refine codeAny_loop rfl I (fun n s hI=>?_) n h;show wpAny _ A ((compTurn (.ListComp elt [⟨target,iter,ifs,0⟩] scope pos) 0 it acc env).onRaise (fun x=>do noteFrame x env;theTreesLotGoes x)) _ _ s;refine wpAny_noted ?_;rw[compTurn_list];refine QA (QBO (QA (wN (turn n s hI) (fun r s₁ h₁=>?_) fun _ _ h'=>h'.elim)));cases r with
 |none=>exact QJ h₁
 |some v =>
  refine QA (wN h₁ (fun _ s₁' h₁'=>?_) fun _ _ h'=>h'.elim);refine QA (wN h₁' (fun _ s₂ h₂=>QA (wN h₂ (fun ok s₃ h₃=>?_) fun _ _ h'=>h'.elim)) fun _ _ h'=>h'.elim);cases ok with
  |false=>exact QJ ⟨rfl,h₃⟩
  |true=>exact QA (QA (wN h₃ (fun x s₄ h₄=>QA (wN h₄ (fun _ s₅ h₅=>QJ (QJ ⟨rfl,h₅⟩)) fun _ _ h'=>h'.elim)) fun _ _ h'=>h'.elim))
def fW(wi:TI)(g:TG)(tc:TT)(te:TE)(k:Nat)(mask:List Bool):TE:=fun σ H Q=>wi σ H fun J H1=>∃W:Nat->Nat->List V->St->Hp->Prop,(∃m,W 0 m [] (GH k mask σ) H1) /\
 ∀i m acc σ' H',W i m acc σ' H'->(J.stop i H'/\acc.length<=sizeLine/\∀p,H' p=none->Q (.ref p) (UA H' p (.lst acc))) ∨
  (J.go i H'/\∀x H2,J.yld i H' x H2->g x σ' H2 fun σ3 H3=>tc σ3 H3 fun b H4=>if b=true then te σ3 H4 fun y H5=>acc.length<sizeLine/\∃m',m' < m/\W (i+1) m' (acc++[y]) σ3 H5 else ∃m',m' < m/\W (i+1) m' acc σ3 H4)
def Pf(X:Cx)(pins:FB)(H:Hp)(s:Shared)(C:Addr):Prop :=
 H C=none/\C≠X.env.locals/\X.s₀.heap.objs.size<=C/\(∀x c,X.env.cells.lookup x=some c->c≠C)/\(∀p∈X.pn++pins,p.1≠C)/\∃m,s.heap.Ns C m
theorem dQ{pos':Pos}{use:Option (Value->Sem Unit)}(hc:X.calm=true)(hi:PI X tg iter wi)(C:CompSt X.N X.env.scope scope tgs mask)
  (inner:∀s H ex,PG (FA X scope tgs mask s H ex) tg g/\Lf (FA X scope tgs mask s H ex) ifs tc/\PE (FA X scope tgs mask s H ex) elt te)
  (hs:∀x,foldedSetIterable iter X.env x=pure x) {σ:St}{H:Hp}{Q:VK}{QQ:OB}(I:Inv X pins σ H s) (h:fW wi g tc te tgs.length mask σ H Q)
  (fin:∀(D:Addr) (H':Hp) (s6:Shared) (F:Addr),Inv X pins σ H' s6->Pf X pins H' s6 F->Q (.ref D) H'->compPost (model X.prog X.w) X.A X.xe use QQ (.ref D) F (.ok .next) s6) :
  wpAny (model X.prog X.w) X.A (comprehension (.ListComp elt [⟨tg,iter,ifs,0⟩] scope pos) scope X.env pos' (newList []) false (eval iter X.env) use) QQ X.xe s:=by
 refine wpAny_comprehension_free (use:=use) rfl hs (zS (C.cells I.ok)) C.kind C.names (BB (hi pins s σ H _ I h) fun v s1 h1=>BB h1 fun itv s2 h2=>?_);obtain⟨it,fp,tn,J,H2,e,I2,T,st2,f2,W,⟨m0,w0⟩,turn⟩:=h2;subst e;refine Qr ?_;have I3:Inv X pins σ H2 { s2 with heap:=s2.heap.push { cls:=.type "list",data:=.seq ([]:List Value).toArray } }:=I2.kept (t':=s2.toks) fun b o e=>QH _ e;generalize hS:({ s2 with heap:=s2.heap.push { cls:=.type "list",data:=.seq ([]:List Value).toArray } }:Shared)=s3 at I3;have sz3:s3.heap.objs.size=s2.heap.objs.size+1:=by rw[<- hS];exact wV ..
 have lst3:s3.heap.PlainList s2.heap.objs.size ([]:List Value).toArray:=⟨0,by rw[<- hS];exact QO _ rfl⟩
 have old3:∀b o,s2.heap.get? b=some o->s3.heap.get? b=some o:=fun b o e=>by rw[<- hS];exact QH _ e
 generalize hDd:s2.heap.objs.size=D at sz3 lst3;have fD:kI X pins H2 D:=by rw[<- hDd];exact I2.fpOk (QS _) (I2.hok.fresh (QS _))
 have fpl:∀b∈fp,b<D:=fun b hb=>by obtain⟨o,e,_⟩:=T.obj _ _ st2 b hb;rw[<- hDd];exact QR e
 have hex:∀b∈D::fp,kI X pins H2 b/\b<s3.heap.objs.size:=fun b hb=>by rcases QK.mp hb with z|z;subst z;exact⟨fD,by rw[sz3];exact WP _⟩;exact⟨f2 b z,by rw[sz3];exact qt (fpl b z)⟩
 refine wpAny_newFunctionEnv C.nocell (by intro y hy;simp at hy) (fun h' hn hsb=>?_) C.kind;have J0:Inv (FA X scope tgs mask s3 H2 (D::fp)) [] (GH tgs.length mask σ) H2 { s3 with heap:=h',toks:=s3.toks+([]:List (Str×Value)).length }:=IR I3 C hex hn hsb;have kept:∀b u,s3.heap.get? b=some u->h'.get? b=some u:=fun b u e=>hsb.extBut b u (Qd (QR e)) (QH _ e);obtain⟨pg,pf,pl⟩:=inner s3 H2 (D::fp);have loop:∀s4:Shared,s4={ s3 with heap:=h',toks:=s3.toks+([]:List (Str×Value)).length } ->
   codeAny (model X.prog X.w) X.A (.compLoop (.ListComp elt [⟨tg,iter,ifs,0⟩] scope pos) 0 (.ref it) (.ref D) (compEnvC scope (VL X.env scope.names []) s3.heap.objs.size X.env))
    (compPost (model X.prog X.w) X.A X.xe use QQ (.ref D) s3.heap.objs.size) s4:=by
  rintro s4 rfl;have exok:∀{H':Hp},(∀b∈D::fp,H' b=none)->∀(pp:FB),(∀p∈pp,p.1∉fp)->∀b∈fp,kI (FA X scope tgs mask s3 H2 (D::fp)) pp H' b:=fun {H'} hn pp hpp b hb=>by have g:=J0.ok.exf b (QG _ hb);exact⟨hn b (QG _ hb),g.1,J0.ok.exfs b (QG _ hb),.inl (QG _ hb),g.2,fun p hp z=>hpp p (by simpa[FA]using hp) (z▸hb)⟩
  have DX:=J0.ok.exf D QE;have Dfp:D∉fp:=fun z=>wF _ (fpl D z);refine iG (fun n s'=>∃i σ' H' acc its,Inv (FA X scope tgs mask s3 H2 (D::fp)) [] σ' H' s'/\tn i s'.heap/\(∀b∈D::fp,H' b=none)/\bA acc its/\s'.heap.PlainList D its.toArray/\W i n acc σ' H') ?_ m0
   ⟨0,_,H2,[],[],J0,T.keep _ _ _ (T.keep _ _ _ st2 fun b hb o e=>old3 b o e) fun b hb o e=>kept b o e,fun b hb=>((hex b hb).1).1,.nil,lst3.at fun o e=>kept _ _ e,w0⟩
  rintro n s5 ⟨i,σ5,H5,acc,its,I5,st5,fr5,va5,ls5,w5⟩;obtain⟨nL,lo⟩:=id ls5;have pinD:∀{σ':St}{H':Hp}{s':Shared},Inv (FA X scope tgs mask s3 H2 (D::fp)) [] σ' H' s'->(∀b∈D::fp,H' b=none)->s'.heap.get? D=some { cls:=.type "list",dict:=none,data:=.seq its.toArray nL } ->
    Inv (FA X scope tgs mask s3 H2 (D::fp)) [(D,{ cls:=.type "list",dict:=none,data:=.seq its.toArray nL })] σ' H' s':=fun {σ' H' s'} I' fr' e' =>
   I'.pins_of fun p hp=>by
    have e:p=(D,{ cls:=.type "list",dict:=none,data:=.seq its.toArray nL }):=by simpa using hp
    subst e;exact⟨e',fr' D QE,DX.1,J0.ok.exfs D QE,fun v z=>by cases z⟩
  have hppD:∀p∈[(D,({ cls:=.type "list",dict:=none,data:=.seq its.toArray nL }:Obj))],p.1∉fp:=fun p hp=>by
   have e:p=(D,{ cls:=.type "list",dict:=none,data:=.seq its.toArray nL }):=by simpa using hp
   subst e;exact Dfp
  have I5':=pinD I5 fr5 lo;rcases turn i n acc σ5 H5 w5 with⟨stop,hz,qn⟩| ⟨go,step⟩
  refine BB (T.done (FA X scope tgs mask s3 H2 (D::fp)) rfl rfl rfl hc i _ s5 σ5 H5 (fun _ _=>False) I5' (exok fr5 _ hppD) st5 stop) fun r s6 ⟨hr,I6⟩=>?_;subst hr;obtain⟨m6,hn6,_⟩:=I6.loc;have l6:s6.heap.PlainList D its.toArray:=⟨nL,(I6.pin _ (QX _ (QI.mpr rfl))).1⟩
  have I6':Inv (FA X scope tgs mask s3 H2 (D::fp)) [] σ5 H5 s6:=I6.pins_of fun p hp=>by simp at hp
  have Iout:Inv X pins σ (UA H5 D (.lst acc)) s6:=jS I3 hex QE I6' (fr5 D QE) va5 hz l6 (QBZ _ _);have lC:H5 s3.heap.objs.size=none:=I6'.free;refine fin D _ s6 s3.heap.objs.size Iout ⟨?_,wG I3.lt,I3.sz,fun x c e z=>?_,fun p hp z=>?_,m6,hn6⟩ (qn D (fr5 D QE));rw[vA (fun(z:s3.heap.objs.size=D)=>absurd (hex D QE).2 (by rw[z];exact wF _))];exact lC;obtain⟨v,q⟩:=I3.cell x c e;exact absurd q.lt (by rw[z];exact wF _);exact absurd (QR (I3.pin p hp).1) (by rw[z];exact wF _);refine BB (T.item (FA X scope tgs mask s3 H2 (D::fp)) rfl rfl rfl hc i _ s5 σ5 H5 (fun _ _=>False) I5' (exok fr5 _ hppD) st5 go) fun r s6 ⟨u,hr,h6⟩=>?_;subst hr;refine BB h6 fun _ s7 ⟨x,H7,I7,r7,y7,st7,fr7⟩=>?_;have hD7:=(I7.pin _ (QX _ (QI.mpr rfl)))
  have fr7':∀b∈D::fp,H7 b=none:=fun b hb=>by rcases QK.mp hb with z|z;subst z;exact hD7.2.1;exact fr7 b z
  have I7':=I7.pinned (exok fr7' _ hppD) (T.obj _ _ st7);have bk:∀{σ':St}{H':Hp}{s':Shared},Inv (FA X scope tgs mask s3 H2 (D::fp)) ([(D,{ cls:=.type "list",dict:=none,data:=.seq its.toArray nL })]++lK fp s7.heap) σ' H' s' ->
    s'.heap.get? D=some { cls:=.type "list",dict:=none,data:=.seq its.toArray nL }/\tn (i+1) s'.heap/\(∀b∈D::fp,H' b=none):=fun {σ' H' s'} I'=>by
   have hD:=I'.pin (D,{ cls:=.type "list",dict:=none,data:=.seq its.toArray nL }) (QX _ (Qp _ (QI.mpr rfl)));refine⟨hD.1,T.keep _ _ _ st7 fun b hb o e=>(I'.pin (b,o) (QX _ (QX _ (DE hb e)))).1,fun b hb=>?_⟩;rcases QK.mp hb with z|z;subst z;exact hD.2.1;obtain⟨o,e,_⟩:=T.obj _ _ st7 b z;exact(I'.pin (b,o) (QX _ (QX _ (DE z e)))).2.1
  refine BB (pg _ s7 σ5 H7 x u _ I7' r7 (step x H7 y7)) fun _ s8 ⟨σ8,H8,I8,q8⟩=>?_;refine BB (pf _ s8 σ8 H8 _ I8 q8) fun ok s9 ⟨H9,I9,q9⟩=>?_;cases ok with
  |false=>obtain⟨m',hm,w'⟩:=q9;obtain⟨b1,b2,b3⟩:=bk I9;exact⟨m',hm,i+1,σ8,H9,acc,its,I9.pins_of fun p hp=>by simp at hp,b2,b3,va5,⟨nL,b1⟩,w'⟩
  |true =>
   refine BB (pl _ s9 σ8 H9 _ I9 q9) fun y s10 ⟨yv,H10,I10,r10,hz,m',hm,w'⟩=>?_;obtain⟨b1,b2,b3⟩:=bk I10;have hlen:=va5.length;refine wpAny_list_append_plain (hsz:=by rw[QU];omega) (show s10.heap.PlainList D its.toArray from⟨nL,b1⟩) fun h11 hl11 hs11=>?_;refine⟨m',hm,i+1,σ8,H10,acc++[yv],its++[y],?_,T.keep _ _ _ b2 fun b hb o e=>(hs11.2 b (fun z=>Dfp (z▸hb))).trans e,b3,va5.append (.cons r10 .nil),by simpa using hl11,w'⟩;have I10':Inv (FA X scope tgs mask s3 H2 (D::fp)) [] σ8 H10 s10:=I10.pins_of fun p hp=>by simp at hp
   exact I10'.turned (t':=s10.toks) (fun b o hb e=>(hs11.2 b hb).trans e) (b3 D QE) DX.1 (.inl QE) DX.2 fun p hp=>by simp[FA]at hp
 refine codeAny_compStart_list (loop _ rfl) (T.self X.A 0 _ _ _ (T.keep _ _ _ (T.keep _ _ _ st2 fun b hb o e=>old3 b o e) fun b hb o e=>kept b o e) (loop _ rfl))
theorem NK{σ:St}{H:Hp}{F:Addr}(I:Inv X pins σ H s)(f:Pf X pins H s F){h':Heap}(hs:qP F s.heap h'):Inv X pins σ H { s with heap:=h' }:=by obtain⟨f0,f1,f2,f3,f4,_⟩:=f;exact I.turned (t':=s.toks) (fun b o hb e=>(hs.2 b hb).trans e) f0 f1 (.inr f2) f3 f4
theorem K1(hc:X.calm=true)(hi:PI X tg iter wi)(C:CompSt X.N X.env.scope scope tgs mask)
  (inner:∀s H ex,PG (FA X scope tgs mask s H ex) tg g/\Lf (FA X scope tgs mask s H ex) ifs tc/\PE (FA X scope tgs mask s H ex) elt te)
  (hs:∀x,foldedSetIterable iter X.env x=pure x:=by intro _;rfl):PE X (.ListComp elt [⟨tg,iter,ifs,0⟩] scope pos) (fW wi g tc te tgs.length mask):=by
 intro pins s σ H Q I h;rw[eval_ListComp];refine dQ hc hi C inner hs I h fun D H' s6 F I6 f q=>?_;obtain⟨m,hn⟩:=f.2.2.2.2.2;exact⟨m,hn,fun h' hs'=>⟨.ref D,H',NK I6 f hs',rfl,q⟩⟩
theorem U0{cpos px:Pos}{i:Nat}{x:Str}(hc:X.calm=true)(hN:X.N.Nodup)(hi0:X.N[i]?=some x)(hx:X.env.scope.names.lookup x=some .local)
  (hi:PI X tg iter wi) (C:CompSt X.N X.env.scope scope tgs mask)
  (inner:∀s H ex,PG (FA X scope tgs mask s H ex) tg g/\Lf (FA X scope tgs mask s H ex) ifs tc/\PE (FA X scope tgs mask s H ex) elt te)
  (hs:∀x,foldedSetIterable iter X.env x=pure x) (hsw:swapsWith (.ListComp elt [⟨tg,iter,ifs,0⟩] scope cpos) (some (.Name x px)) pos.line X.env=pure true) :
  PS X (.Assign [.Name x px] (.ListComp elt [⟨tg,iter,ifs,0⟩] scope cpos) pos) (J7 (fW wi g tc te tgs.length mask) (XT i)):=by
 intro pins s σ H D0 I h;rw[exec_Assign_Name_used _ _ _ _ hsw];refine QA (QBO (QA ?_));show wpAny _ X.A (do let _ <- comprehension (.ListComp elt [⟨tg,iter,ifs,0⟩] scope cpos) scope X.env _ (newList []) false (eval iter X.env) (some (assign (.Name x px) X.env))) _ _ s;refine QA (wN (dQ (use:=some (assign (.Name x px) X.env)) (QQ:=fun _ s'=>SP X pins D0 .next s') hc hi C inner hs I h fun D H' s6 F I6 f q=>?_) (fun _ s' hq=>QJ (QJ hq)) fun _ _ e=>e);show wpAny _ X.A (assign (.Name x px) X.env (.ref D)) _ _ s6;refine QBX (ML I6 hN hi0 (.inl hx) (v:=.ref D) rfl (fun s7 I7 ⟨a,sb,ha⟩=>?_) (.inr hx));obtain⟨f0,f1,f2,f3,f4,m,hn⟩:=f;have ne:F≠a:=by rcases ha with z|z;rw[z];exact f1;exact fun e=>f3 x a z e.symm
 have hn7:s7.heap.Ns F m:=hn.sameBut sb ne;exact⟨m,hn7,fun h' hs'=>⟨_,H',NK I7 ⟨f0,f1,f2,f3,f4,m,hn7⟩ hs',q⟩⟩
end
end L2
namespace L2.L3
open PySem PySem.Spec PyProof.Rows
def Ac(K:QF):R2:=fun x y H Q=>match x,y with
 | .int i,.int j=>Q (.int (i+j)) H
 | .str a,.str b=>a.length+b.length<=sizeLine/\Q (.str (a++b)) H
 | .ref a,.ref b=>(∃xs ys,HC K H a xs/\HC K H b ys/\xs.length+ys.length<=sizeLine/\∀p,H p=none->Q (.ref p) (UA H p (.lst (xs++ys))))∨G5 K (.ref a) (.ref b) H Q
 |_,_=>False
def Dc:R2:=fun x y H Q=>match x,y with
 | .int i,.int j=>Q (.int (i - j)) H
 |_,_=>False
def eG(x:Str)(n:Int):Str:=Txt.mul x n
def Mc(K:QF):R2:=fun x y H Q=>match x,y with
 | .int i,.int j=>IntMulOk i j/\Q (.int (i * j)) H
 | .str a,.int k=>(-(2 ^ 31)<=k/\k<2 ^ 31/\a.length * k.toNat<=sizeLine)/\Q (.str (eG a k)) H
 | .ref a,.int k=>Lc (.ref a) (.int k) H Q
 |_,_=>False
def F5:R2:=fun x y H Q=>match x,y with
 | .int i,.int j=>(0<j/\j<2 ^ 200)/\Q (.int (i / j)) H
 |_,_=>False
def Nc:R2:=fun x y H Q=>match x,y with
 | .int i,.int j=>0<j/\Q (.int (i % j)) H
 |_,_=>False
section
variable{X:Cx}
theorem op_add:bF X (binaryOp .Add) (Ac X.K):=by
 intro pins s σ H x y v u Q I rx ry h;cases x with
 |int i =>
  cases y with
  |int j=>exact _root_.L2.op_add pins s σ H _ _ v u Q I rx ry ⟨i,j,rfl,rfl,h⟩
  |_=>exact Qb h
 |str a =>
  cases y with
  |str b=>exact cR pins s σ H _ _ v u Q I rx ry ⟨a,b,rfl,rfl,h.1,h.2⟩
  |_=>exact Qb h
 |ref a =>
  cases y with
  |ref b =>
   rcases h with⟨xs,ys,hx,hy,hz,q⟩| h;cases rx;cases ry;obtain⟨its,r,⟨⟨cls,dd,data,sl⟩,n1,e1,c1,d1,s1⟩,z1⟩:=I.list hx;obtain⟨its2,r2,⟨⟨cls2,dd2,data2,sl2⟩,n2,e2,c2,d2,s2⟩,z2⟩:=I.list hy;simp only at c1 s1 c2 s2;subst c1 s1 c2 s2;have hl:=r.length;have hl2:=r2.length;refine QBl ⟨_,e1,rfl⟩ ⟨_,e2,rfl⟩ noFill_list_add seq_list_add PySem.F.slot_list_add PySem.F.entry_list_add (PySem.F.args_list_add_2 _ _) (list_addW a b its.toArray its2.toArray n1 n2 dd dd2 sl sl2 (by simp;omega)) ⟨e1,e2,?_⟩;have ea:its.toArray++its2.toArray=(its++its2).toArray:=by simp
   rw[ea];exact⟨.ref _,_,I.lnew (t':=s.toks) (r.append r2) (by rw[QM];omega),rfl,q _ I.fresh⟩;exact L1 pins s σ H _ _ v u Q I rx ry h
  |_=>exact Qb h
 |_=>exact Qb h
theorem op_sub:bF X (binaryOp .Sub) Dc:=by
 intro pins s σ H x y v u Q I rx ry h;cases x with
 |int i =>
  cases y with
  |int j=>exact _root_.L2.op_sub pins s σ H _ _ v u Q I rx ry ⟨i,j,rfl,rfl,h⟩
  |_=>exact Qb h
 |_=>exact Qb h
theorem G1:bF X (binaryOp .FloorDiv) F5:=by
 intro pins s σ H x y v u Q I rx ry h;cases x with
 |int i =>
  cases y with
  |int j =>
   obtain⟨t,rfl⟩:=rx;obtain⟨t',rfl⟩:=ry;obtain⟨⟨h1,h2⟩,q⟩:=h;refine floordiv_int (by omega) ?_ (.inl (PyProof.noPylong_of_log2 ?_));rw[Int.fdiv_eq_ediv_of_nonneg i (by omega)];exact⟨.int _,H,I.tok _,⟨_,rfl⟩,q⟩;have:j.natAbs<2 ^ 200:=by omega
   have:=(Nat.log2_lt (show j.natAbs≠0 by omega)).mpr this;omega
  |_=>exact Qb h
 |_=>exact Qb h
theorem op_mod:bF X (binaryOp .Mod) Nc:=by
 intro pins s σ H x y v u Q I rx ry h;cases x with
 |int i =>
  cases y with
  |int j=>exact _root_.L2.op_mod pins s σ H _ _ v u Q I rx ry ⟨i,j,rfl,rfl,h.1,h.2⟩
  |_=>exact Qb h
 |_=>exact Qb h
theorem K8:bF X (binaryOp .Mult) (Mc X.K):=by
 intro pins s σ H x y v u Q I rx ry h;cases x with
 |int i =>
  cases y with
  |int j=>obtain⟨t,rfl⟩:=rx;obtain⟨t',rfl⟩:=ry;exact mul_int ⟨.int _,H,I.tok _,⟨_,rfl⟩,h.2⟩ h.1
  |_=>exact Qb h
 |str a =>
  cases y with
  |int k =>
   obtain⟨t,rfl⟩:=rx;obtain⟨t',rfl⟩:=ry;obtain⟨⟨h1,h2,h3⟩,q⟩:=h;refine SB.mul ⟨?_,fun _ _=>?_,fun _ _=>?_⟩ fun t' kk=>⟨.str (eG a k),H,I.tok _,⟨_,rfl⟩,q⟩
   have e1:decide (k < -(2 ^ 63:Int))=false:=dF (by omega);have e2:decide (k ≥ 2 ^ 63)=false:=dF (by omega);rw[e1,e2];rfl;have e:(a.length:Int) * k=((a.length * k.toNat:Nat):Int):=by rw[Int.natCast_mul,Int.toNat_of_nonneg (by omega)]
   have hz:sizeLine=16777216:=QV;have:=Int.le_ediv_of_mul_le (a:=(a.length:Int)) (b:=2 ^ 63 - 1) (c:=k) (by omega) (by rw[e];omega);omega;unfold Builtin.Str.tooLong;exact dF (by omega)
  |_=>exact Qb h
 |ref a =>
  cases y with
  |int k=>exact Z8 pins s σ H _ _ v u Q I rx ry h
  |_=>exact Qb h
 |_=>exact Qb h
end
end L2.L3
namespace L2
open PySem PySem.Spec PyProof.Rows
section
variable{κ:Type}[DecidableEq κ]
section
variable{p:κ×V}{r kvs:List (κ×V)}{vs:List (κ×Value)}{u:Value}
def NJ(kvs:List (κ×V))(k:κ):Option V:=(kvs.find? fun kv=>decide (kv.1=k)).map (·.2)
def zR(kvs:List (κ×V))(k:κ)(v:V):List (κ×V) :=
 if(kvs.any fun kv=>decide (kv.1=k))=true then kvs.map (fun kv=>if kv.1=k then(kv.1,v) else kv) else kvs++[(k,v)]
theorem LJ{k:κ}(e:p.1=k):NJ (p::r) k=some p.2:=by simp[NJ,wL,e]
theorem MJ{k:κ}(e:¬ p.1=k):NJ (p::r) k=NJ r k:=by simp[NJ,wL,e]
theorem KO(k:κ):∀kvs:List (κ×V),(kvs.any fun kv=>decide (kv.1=k))=(NJ kvs k).isSome
 |[]=>rfl
 |p::r=>by rw[WI];by_cases e:p.1=k;simp only[LJ e,dT e,Bool.true_or,Option.isSome_some];rw[MJ e,dF e,QBK];exact KO k r
theorem VP(kvs:List (κ×V))(k:κ)(v:V):(zR kvs k v).length<=kvs.length+1:=by unfold zR;split;rw[QD];omega;rw[QM,QL,qA];omega
theorem pS.isSome_eq{o:Option V}{u:Option Value}(r:pS o u):o.isSome=u.isSome:=by
 cases o with
 |none=>cases u with
  |none=>rfl
  |some _=>exact(show False from r).elim
 |some _=>cases u with
  |none=>exact(show False from r).elim
  |some _=>rfl
theorem KV.val(r:KV kvs vs)(k:κ):pS (NJ kvs k) (valueAt vs k):=by
 unfold KV at r;induction r with
 |nil=>exact True.intro
 |@cons p q ps qs h t ih =>
  obtain⟨h1,h2⟩:=h;by_cases e:p.1=k;have e':q.1=k:=h1.symm.trans e;have b:valueAt (q::qs) k=some q.2:=by simp[valueAt,wL,e']
  rw[LJ e,b];exact h2;have e':¬ q.1=k:=fun z=>e (h1.trans z);have b:valueAt (q::qs) k=valueAt qs k:=by simp[valueAt,wL,e']
  rw[MJ e,b];exact ih
theorem KV.any(r:KV kvs vs)(k:κ):(kvs.any fun kv=>decide (kv.1=k))=vs.any fun kv=>decide (kv.1=k):=by
 unfold KV at r;induction r with
 |nil=>rfl
 |cons h t ih=>rw[WI,WI,ih,h.1]
theorem KV.repl(r:KV kvs vs)(k:κ){y:V}(ry:rA y u) :
  KV (kvs.map fun kv=>if kv.1=k then(kv.1,y) else kv) (vs.map fun kv=>if kv.1=k then(kv.1,u) else kv):=by
 unfold KV at r ⊢;induction r with
 |nil=>exact .nil
 |@cons p q ps qs h t ih=>rw[QN,QN];refine .cons ?_ ih;obtain⟨h1,h2⟩:=h;by_cases e:p.1=k;rw[if_pos e,if_pos (h1.symm.trans e)];exact⟨h1,ry⟩;rw[if_neg e,if_neg (fun z=>e (h1.trans z))];exact⟨h1,h2⟩
theorem KV.put(r:KV kvs vs)(k:κ){y:V}(ry:rA y u):KV (zR kvs k y) (stored vs k u):=by unfold zR stored;rw[r.any k];by_cases e:(vs.any fun kv=>decide (kv.1=k))=true;rw[if_pos e,if_pos e];exact r.repl k ry;rw[if_neg e,if_neg e];exact Paired.snoc r ⟨rfl,ry⟩
theorem KV.length(r:KV kvs vs):kvs.length=vs.length:=qJ r
end
end
theorem yJ{P:Program}{w:World}{k:Key}{u:Value}(r:rA (kV k) u):(kB P w).is k u=true:=by
 cases k with
 |inl i=>obtain⟨t,e⟩:=(show ∃t,u=Value.int i t from r);subst e;exact tP P w i t
 |inr x=>obtain⟨t,e⟩:=(show ∃t,u=Value.str x t from r);subst e;exact sP P w x t
theorem lM{P:Program}{w:World}:∀{ks:List Key}{us:List Value},bA (ks.map kV) us->ItemsAre (kB P w) ks us
 |[],_,r=>by rw[qR]at r;cases r;exact .nil
 |k::ks,_,r=>by
  rw[QN]at r;cases r with
  |cons h t=>exact .cons (yJ h) (lM t)
end L2
namespace L2.L3
open PySem PySem.Spec PyProof.Rows
section
variable{r kvs:List KE}{k:List Key}{xs:List (List Key×Addr×Value)}
noncomputable abbrev KE:=List Key×Addr×V
def sG(kvs:List KE)(k:List Key):Option V:=(kvs.find? fun p=>decide (p.1=k)).map (·.2.2)
def uK(kvs:List KE)(k:List Key)(b:Addr)(v:V):List KE :=
 if(sG kvs k).isSome=true then kvs.map (fun p=>if p.1=k then(p.1,p.2.1,v) else p) else kvs++[(k,b,v)]
noncomputable abbrev KD:List KE->List (List Key×Addr×Value)->Prop:=Paired fun(p:List Key×Addr×V) (q:List Key×Addr×Value)=>p.1=q.1/\p.2.1=q.2.1/\rA p.2.2 q.2.2
theorem VO{p:KE}(e:p.1=k):sG (p::r) k=some p.2.2:=by simp[sG,wL,e]
theorem XO{p:KE}(e:¬ p.1=k):sG (p::r) k=sG r k:=by simp[sG,wL,e]
theorem KD.val(r:KD kvs xs)(k:List Key):pS (sG kvs k) ((atKey xs k).map (·.2)):=by
 induction r with
 |nil=>exact True.intro
 |@cons p q ps qs h t ih =>
  obtain⟨h1,_,h2⟩:=h;by_cases e:p.1=k;have e':q.1=k:=h1.symm.trans e;have b:atKey (q::qs) k=some q.2:=by simp[atKey,wL,e']
  rw[VO e,b];exact h2;have e':¬ q.1=k:=fun z=>e (h1.trans z);have b:atKey (q::qs) k=atKey qs k:=by simp[atKey,wL,e']
  rw[XO e,b];exact ih
theorem KD.put(r:KD kvs xs)(k:List Key)(b:Addr){y:V}{u:Value}(ry:rA y u):KD (uK kvs k b y) (storedH xs k b u):=by
 have e:(sG kvs k).isSome=(atKey xs k).isSome:=by rw[(r.val k).isSome_eq,QAa]
 unfold uK storedH;rw[e];by_cases q:(atKey xs k).isSome=true;rw[if_pos q,if_pos q];clear e q;induction r with
 |nil=>exact .nil
 |@cons p q ps qs h t ih=>rw[QN,QN];refine .cons ?_ ih;obtain⟨h1,h2,h3⟩:=h;unfold putAt;by_cases e:p.1=k;rw[if_pos e,if_pos (h1.symm.trans e)];exact⟨h1,h2,ry⟩;rw[if_neg e,if_neg (fun z=>e (h1.trans z))];exact⟨h1,h2,h3⟩
 rw[if_neg q,if_neg q];exact Paired.snoc r ⟨rfl,rfl,ry⟩
theorem UP(kvs:List KE)(k:List Key)(b:Addr)(v:V):(uK kvs k b v).length<=kvs.length+1:=by unfold uK;split;rw[QD];omega;rw[QM,QL,qA];omega
def EF(K:QF)(H:Hp)(kvs:List KE):Prop:=∀p∈kvs,TC K H p.2.1 (p.1.map kV)
theorem Inv.big{X:Cx}{pins:FB}{σ:St}{H:Hp}{s:Shared}(I:Inv X pins σ H s):sysModules<s.heap.objs.size:=by have h:mainGlobals<s.heap.objs.size:=(I.mod.glob.keeps I.bk).lt;exact Nat.lt_trans (by decide) h
end
section
variable{X:Cx}{pins:FB}{σ:St}{H:Hp}{s:Shared}{a b:Addr}
theorem XR{k:List Key}(I:Inv X pins σ H s)(h:TC X.K H b (k.map kV)):(tupleKind (kB X.prog X.w)).is s.heap k b:=by obtain⟨its,r,⟨o,h1,h2,n,h3⟩,_⟩:=I.tuple h;exact⟨o,its.toArray,n,h1,h2,h3,by simpa using lM r⟩
theorem vJ{ep:Nat}{kvs:List KE}(I:Inv X pins σ H s)(e:H a=some (.dT ep kvs))(hk:EF X.K H kvs):kvs.length<=sizeLine/\(a==sysModules)=false/\∃xs,KD kvs xs/\s.heap.DictOfH (tupleKind (kB X.prog X.w)) a xs:=by
 obtain⟨z,y,xs,r,o,es,h1,h2,h3,h4,h5⟩:=(show xB X.prog X.w H s.heap a (.dT ep kvs) from I.hok a _ e)
 refine⟨z,y,xs,r,o,es,ep,h1,h2,h3,h4,?_,h5⟩;clear h4 h5 z e;induction r with
 |nil=>intro x hx;exact nomatch hx
 |@cons p q ps qs hq t ih=>intro x hx;rcases QK.mp hx with e|hx;subst e;rw[<- hq.1,<- hq.2.1];exact XR I (hk p QE);exact ih (fun p hp=>hk p (QG _ hp)) x hx
theorem uQ{kvs:List (Key×V)}(I:Inv X pins σ H s)(e:H a=some (.dK kvs)):kvs.length<=sizeLine/\(a==sysModules)=false/\∃vs,KV kvs vs/\s.heap.DictOf (kB X.prog X.w) a vs :=
 show xB X.prog X.w H s.heap a (.dK kvs) from I.hok a _ e
end
theorem CY{X:Cx}{pins:FB}{σ:St}{H:Hp}{s:Shared}{a:Addr}{ep:Nat}(I:Inv X pins σ H s)(e:H a=some (.dT ep [])):(a==sysModules)=false/\s.heap.DictOf (kB X.prog X.w) a []:=by
 obtain⟨z,y,xs,r,o,es,h1,h2,h3,h4,h5⟩:=(show xB X.prog X.w H s.heap a (.dT ep []) from I.hok a _ e)
 cases r;have he:es=#[]:=by apply W0.mp;simpa using h4
 subst he;exact⟨y,o,#[],ep,h1,h2,h3,fun e he=>by simp at he,.nil,Qw⟩
def kD:Key->PyData
 | .inl i=>.int i
 | .inr x=>.str x
def tD(k:List Key):PyData:=.tuple (k.map kD)
theorem UR{a b:Key}(e:kD a=kD b):a=b:=by
 cases a with
 |inl i=>cases b with
  |inl j=>injection e with e;rw[e]
  |inr y=>exact nomatch (show PyData.int i=PyData.str y from e)
 |inr x=>cases b with
  |inl j=>exact nomatch (show PyData.str x=PyData.int j from e)
  |inr y=>injection e with e;rw[e]
theorem tT:∀{a b:List Key},a.map kD=b.map kD->a=b
 |[],[],_=>rfl
 |[],_::_,e=>by simp at e
 |_::_,[],e=>by simp at e
 |x::xs,y::ys,e=>by rw[QN,QN]at e;injection e with e1 e2;rw[UR e1,tT e2]
theorem dW{a b:List Key}(e:tD a=tD b):a=b:=by injection e with e;exact tT e
def OI(K:QF)(H:Hp)(b:Bool)(o:HO)(ks:List PyData)(vs:List V):Prop:=match b with
 |true=>∃ep,∃kvs:List KE,o=.dT ep kvs/\ks=kvs.map (fun p=>tD p.1)/\vs=kvs.map (·.2.2)/\EF K H kvs/\(kvs.map (·.1)).Nodup
 |false=>(∃kvs:List (Key×V),kvs≠[]/\o=.dK kvs/\ks=kvs.map (fun p=>kD p.1)/\vs=kvs.map (·.2)/\(kvs.map (·.1)).Nodup)∨∃ep,o=.dT ep []/\ks=[]/\vs=[]
theorem OI.len{K:QF}{H:Hp}{b:Bool}{o:HO}{ks:List PyData}{vs:List V}(h:OI K H b o ks vs):ks.length=vs.length:=by
 cases b with
 |true=>obtain⟨ep,kvs,_,rfl,rfl,_⟩:=h;simp
 |false=>rcases h with⟨kvs,_,_,rfl,rfl,_⟩| ⟨_,_,rfl,rfl⟩<;>simp
def oO(K:QF)(H:Hp)(a:Addr)(y:V)(r:Option V):Prop:=match y with
 | .str z=>(∃kvs,H a=some (.dK kvs)/\r=NJ kvs (.inr z))∨∃ep,H a=some (.dT ep [])/\r=none
 | .ref b=>∃ep kvs k,H a=some (.dT ep kvs)/\EF K H kvs/\TC K H b (k.map kV)/\r=sG kvs k
 |_=>False
def gb(K:QF)(H:Hp)(a:Addr)(y v:V)(Q:Hp->Prop):Prop:=match y with
 | .str z=>(∃kvs,H a=some (.dK kvs)/\kvs.length<sizeLine/\Q (UA H a (.dK (zR kvs (.inr z) v))))∨∃ep,H a=some (.dT ep [])/\Q (UA H a (.dK [(.inr z,v)]))
 | .ref b=>∃ep kvs k,H a=some (.dT ep kvs)/\EF K H kvs/\TC K H b (k.map kV)/\kvs.length<sizeLine/\∀ep',Q (UA H a (.dT ep' (uK kvs k b v)))
 |_=>False
theorem EL{v:V}{o:Option Value}(r:pS (some v) o):∃w,o=some w/\rA v w:=by
 cases o with
 |none=>exact(show False from r).elim
 |some w=>exact⟨w,rfl,r⟩
section
variable{X:Cx}
section
variable{pins:FB}{s:Shared}{σ:St}{H:Hp}{a:Addr}{u:Value}{o:Option V}{h':Heap}{pos:Pos}
theorem j4(hu:X.A.units+66<cLine):fZ X (fun x y H Q=>∃a v,x=.ref a/\oO X.K H a y (some v)/\Q v H):=by
 intro value slice pins s σ H x y v u Q I rx ry h hs;obtain⟨a,r,rfl,g,q⟩:=h;cases rx;cases y with
 |str z =>
  rcases g with⟨kvs,e,l⟩| ⟨ep,e,l⟩
  rotate_left
  cases l;obtain⟨_,hd,vs,rel,dd⟩:=uQ I e;obtain⟨w',hw,rw'⟩:=EL (v:=r) (o:=valueAt vs (.inr z)) (by rw[l];exact rel.val _);exact w8 (x:=w') dd.typeIs QAU.lookup
   (wpAny_getItem_of (Q:=fun r s'=>r=w'/\EP X pins σ Q r s') (yJ (k:=.inr z) ry) dd.mapOf hw ⟨rfl,r,H,I.tok _,rw',q⟩) hs
 |ref b =>
  obtain⟨ep,kvs,k,e,hk,eb,l⟩:=g;cases ry;obtain⟨_,hd,xs,rel,dd⟩:=vJ I e hk;obtain⟨w',hw,rw'⟩:=EL (v:=r) (o:=(atKey xs k).map (·.2)) (by rw[l];exact rel.val _);obtain⟨p,hp,hp2⟩:=Option.map_eq_some_iff.mp hw;refine w8 (x:=w') dd.typeIs QAU.lookup
   (wpAny_getItem_heap (Q:=fun r s'=>r=w'/\EP X pins σ Q r s') (WA (by omega)) (XR I eb) dd hp ?_) hs
  exact⟨hp2,r,H,I.tok _,by rw[hp2];exact rw',q⟩
 |_=>exact Qb g
theorem u4(hu:X.A.units+66<cLine){y:V}{Q:VK}(I:Inv X pins σ H s)(ry:rA y u)(g:oO X.K H a y o)(q:Q (.bl o.isSome) H) :
  wpAny (model X.prog X.w) X.A (compareOp .In u (.ref a)) (EP X pins σ Q) X.xe s:=by
 cases y with
 |str z =>
  rcases g with⟨kvs,e,l⟩| ⟨ep,e,l⟩
  rotate_left
  subst l;obtain⟨hd,dd⟩:=CY I e;exact wpAny_in_of (yJ (k:=.inr z) ry) hd dd.mapOf ⟨.bl false,H,I.tok _,rfl,q⟩;obtain⟨_,hd,vs,rel,dd⟩:=uQ I e;refine wpAny_in_of (yJ (k:=.inr z) ry) hd dd.mapOf ⟨.bl o.isSome,H,I.tok _,?_,q⟩;rw[<- (rel.val (.inr z)).isSome_eq,<- l];rfl
 |ref b=>obtain⟨ep,kvs,k,e,hk,eb,l⟩:=g;cases ry;obtain⟨_,hd,xs,rel,dd⟩:=vJ I e hk;refine wpAny_in_heap (WA (by omega)) (XR I eb) hd dd ⟨.bl o.isSome,H,I.tok _,?_,q⟩;have q:=(rel.val k).isSome_eq;rw[QAa]at q;rw[<- q,<- l];rfl
 |_=>exact Qb g
theorem aR(hu:X.A.units+66<cLine){y:V}{Q:VK}(I:Inv X pins σ H s)(ry:rA y u)(g:oO X.K H a y o)(q:Q (.bl (!o.isSome)) H) :
  wpAny (model X.prog X.w) X.A (compareOp .NotIn u (.ref a)) (EP X pins σ Q) X.xe s:=by
 cases y with
 |str z =>
  rcases g with⟨kvs,e,l⟩| ⟨ep,e,l⟩
  rotate_left
  subst l;obtain⟨hd,dd⟩:=CY I e;exact wpAny_notIn_of (yJ (k:=.inr z) ry) hd dd.mapOf ⟨.bl true,H,I.tok _,rfl,q⟩;obtain⟨_,hd,vs,rel,dd⟩:=uQ I e;refine wpAny_notIn_of (yJ (k:=.inr z) ry) hd dd.mapOf ⟨.bl (!o.isSome),H,I.tok _,?_,q⟩;rw[<- (rel.val (.inr z)).isSome_eq,<- l];rfl
 |ref b=>obtain⟨ep,kvs,k,e,hk,eb,l⟩:=g;cases ry;obtain⟨_,hd,xs,rel,dd⟩:=vJ I e hk;refine wpAny_notIn_heap (WA (by omega)) (XR I eb) hd dd ⟨.bl (!o.isSome),H,I.tok _,?_,q⟩;have q:=(rel.val k).isSome_eq;rw[QAa]at q;rw[<- q,<- l];rfl
 |_=>exact Qb g
theorem RN{t':Nat}{ob:HO}(I:Inv X pins σ H s)(mu:Xb (H a))(hs:qP a s.heap h')(he:∃q,h'.get? a=some q)(new:xB X.prog X.w (UA H a ob) h' a ob) :
  Inv X pins σ (UA H a ob) { s with heap:=h',toks:=t' } :=
 I.write (x:=a) (e:=a) mu (.inl rfl) (fun b q hb z=>(hs.2 b hb).trans z) he new
theorem zL{t':Nat}{kvs:List KE}{xs:List (List Key×Addr×Value)}(I:Inv X pins σ H s)(mu:Xb (H a))(hd:(a==sysModules)=false)(hz:kvs.length<=sizeLine)(rel:KD kvs xs)
  (dd:h'.DictOfH (tupleKind (kB X.prog X.w)) a xs) (hs:qP a s.heap h'):∃ep,Inv X pins σ (UA H a (.dT ep kvs)) { s with heap:=h',toks:=t' }:=by
 obtain⟨q,es,ep,hq,h2,h3,h4,_,h5⟩:=dd;exact⟨ep,RN I mu hs ⟨q,hq⟩ ⟨hz,hd,xs,rel,q,es,hq,h2,h3,h4,h5⟩⟩
def setD(K:QF)(o y v:V)(H:Hp)(Q:Hp->Prop):Prop:=match o with
 | .ref a=>gb K H a y v Q
 |_=>False
theorem OO(hu:X.A.units+66<cLine):u5 X (setD X.K):=by
 intro pins s σ H o y v ov iv u Q I ro ri rv h;cases o with
 |ref a =>
  cases ro;cases y with
  |str z =>
   rcases h with⟨kvs,e,l,q⟩| ⟨ep,e,q⟩
   rotate_left
   obtain⟨hd,dd⟩:=CY I e;refine QBE (hsz:=Qy _) (yJ (k:=.inr z) ri) dd fun h' dd' hs=>⟨_,?_,q⟩
   have he:∃q,h'.get? a=some q:=let⟨q,_,_,hq,_⟩:=dd';⟨q,hq⟩
   exact RN I (by rw[e];exact True.intro) hs he ⟨by simp;decide,hd,_,.cons ⟨rfl,rv⟩ .nil,dd'⟩;obtain⟨hz,hd,vs,rel,dd⟩:=uQ I e;have hl:(zR kvs (.inr z) v).length<=sizeLine:=by have:=VP kvs (.inr z) v;omega
   refine QBE (hsz:=by rw[<- rel.length];exact hz) (yJ (k:=.inr z) ri) dd fun h' dd' hs=>⟨_,?_,q⟩
   have he:∃q,h'.get? a=some q:=let⟨q,_,_,hq,_⟩:=dd';⟨q,hq⟩
   exact RN I (by rw[e];exact True.intro) hs he ⟨hl,hd,_,rel.put _ rv,dd'⟩
  |ref b =>
   obtain⟨ep,kvs,k,e,hk,eb,l,q⟩:=h;cases ri;obtain⟨hz,hd,xs,rel,dd⟩:=vJ I e hk;have hl:(uK kvs k b v).length<=sizeLine:=by have:=UP kvs k b v;omega
   refine wpAny_setItem_heap (hsz:=by rw[<- qJ rel];exact hz) (WA (by omega)) (XR I eb) dd fun h' dd' hs=>?_;obtain⟨ep',I'⟩:=zL (t':=_) I (by rw[e];exact True.intro) hd hl (rel.put k b rv) dd' hs;exact⟨_,I',q ep'⟩
  |_=>exact Qb h
 |_=>exact Qb h
theorem Z6{P:Program}{w:World}(h:Heap)(hb:sysModules<h.objs.size):xB P w H (h.push { cls:=.type "dict",data:=.dict #[] }) h.objs.size (.dT 0 []) :=
 ⟨Qy _,beq_eq_false_iff_ne.mpr (Q2 (Qd hb)),[],.nil,_,#[],QO _ rfl,⟨rfl,rfl,rfl⟩,rfl,rfl,Qw⟩
theorem Y1:PE X (.Dict [] [] pos) (fun _ H Q=>∀p,H p=none->Q (.ref p) (UA H p (.dT 0 []))):=fun pins s σ H Q I h =>
 wpAny_Dict_empty ⟨.ref s.heap.objs.size,_,I.laid (a:=s.heap.objs.size) (o:=.dT 0 []) (t':=s.toks) (fun _ _ q=>QH _ q) (QS _) (Z6 s.heap (Inv.big I)),rfl,h _ (I.hok.fresh (QS _))⟩
theorem J1(hu:X.A.units+66<cLine){k v:Expr}{tk tv:TE}(hk:PE X k tk)(hv:PE X v tv) :
  PE X (.Dict [some k] [v] pos) (fun σ H Q=>∀p,H p=none->tk σ (UA H p (.dT 0 [])) fun y H1=>tv σ H1 fun v H2=>H2 p=some (.dT 0 [])/\∃b ks,y=.ref b/\TC X.K H2 b (ks.map kV)/\∀ep,Q (.ref p) (UA H2 p (.dT ep [(ks,b,v)]))):=by
 intro pins s σ H Q I q;have hn:=I.hok.fresh (QS s.heap.objs.size);have I1:=I.laid (a:=s.heap.objs.size) (o:=.dT 0 []) (h':=s.heap.push { cls:=.type "dict",data:=.dict #[] }) (t':=s.toks) (fun _ _ q=>QH _ q) (QS _) (Z6 s.heap (Inv.big I));refine wpAny_Dict_any rfl rfl (by simp) (by simp) (pairTrees_cons_walk (BB (hk pins _ σ _ _ I1 (q _ hn)) fun u s2 ⟨y,H1,I2,r1,q1⟩=>BB (hv pins s2 σ H1 _ I2 q1) fun w2 s3 ⟨z,H2,I3,r2,e,b,ks,ey,eb,q2⟩=>pairTrees_nil_walk ?_));subst ey;cases r1;obtain⟨hz,hd,xs,rel,dd⟩:=vJ I3 e (fun p hp=>nomatch hp);cases rel;show wpAny _ _ (forIn [(Value.ref b,w2)] PUnit.unit _) _ _ _;rw[QAw];refine QA (QA (wpAny_dictSet_heap (hsz:=Qy _) (show X.A.units<cLine by omega) (XR I3 eb) dd fun h' dd' hs=>QJ ?_));show wpAny _ _ (forIn ([]:List (Value×Value)) _ _) _ _ _;rw[QA8];obtain⟨ep',I'⟩:=zL (t':=_) (kvs:=[(ks,b,z)]) I3 (by rw[e];exact True.intro) hd (by simp;decide) (.cons ⟨rfl,rfl,r2⟩ .nil) dd' hs;exact QJ ⟨.ref _,_,I',rfl,q2 ep'⟩
end
end
mutual
inductive Rep(K:QF)(H:Hp):V->PyData->Prop where
 |non:Rep K H .non .none
 |bl (b:Bool):Rep K H (.bl b) (.bool b)
 |int (i:Int):Rep K H (.int i) (.int i)
 |str (x:Str):Rep K H (.str x) (.str x)
 |lst {a:Addr}{xs:List V}{ds:List PyData}:HC K H a xs->Reps K H xs ds->Rep K H (.ref a) (.list ds)
 |tup {a:Addr}{xs:List V}{ds:List PyData}:TC K H a xs->Reps K H xs ds->Rep K H (.ref a) (.tuple ds)
 |dct {b:Bool}{a:Addr}{o:HO}{ks:List PyData}{xs:List V}{ds:List PyData}:H a=some o->OI K H b o ks xs->Reps K H xs ds->Rep K H (.ref a) (.dict (ks.zip ds))
inductive Reps(K:QF)(H:Hp):List V->List PyData->Prop where
 |nil:Reps K H [] []
 |cons {x:V}{d:PyData}{xs:List V}{ds:List PyData}:Rep K H x d->Reps K H xs ds->Reps K H (x::xs) (d::ds)
end
section
variable{K:QF}{H:Hp}{R:List V->List PyData->Prop}{xs:List V}{ds:List PyData}
theorem Rep.both{P:V->PyData->Prop}(non:P .non .none)(bl:∀b,P (.bl b) (.bool b))(int:∀i,P (.int i) (.int i))(str:∀x,P (.str x) (.str x))
    (lst:∀{a:Addr}{xs:List V}{ds:List PyData},HC K H a xs->Reps K H xs ds->R xs ds->P (.ref a) (.list ds))
    (tup:∀{a:Addr}{xs:List V}{ds:List PyData},TC K H a xs->Reps K H xs ds->R xs ds->P (.ref a) (.tuple ds))
    (dct:∀{b:Bool}{a:Addr}{o:HO}{ks:List PyData}{xs:List V}{ds:List PyData},H a=some o->OI K H b o ks xs->Reps K H xs ds->R xs ds->P (.ref a) (.dict (ks.zip ds)))
    (nil:R [] []) (cons:∀{x:V}{d:PyData}{xs:List V}{ds:List PyData},Rep K H x d->Reps K H xs ds->P x d->R xs ds->R (x::xs) (d::ds)) :
    (∀{x:V}{d:PyData},Rep K H x d->P x d)/\∀{xs:List V}{ds:List PyData},Reps K H xs ds->R xs ds :=
  ⟨fun h=>Rep.rec (motive_1:=fun x d _=>P x d) (motive_2:=fun x d _=>R x d) non bl int str @lst @tup @dct nil @cons h,
   fun h=>Reps.rec (motive_1:=fun x d _=>P x d) (motive_2:=fun x d _=>R x d) non bl int str @lst @tup @dct nil @cons h⟩
theorem Reps.ind(nil:R [] [])(cons:∀{x:V}{d:PyData}{xs:List V}{ds:List PyData},Rep K H x d->R xs ds->R (x::xs) (d::ds))(h:Reps K H xs ds):R xs ds :=
 (Rep.both (P:=fun _ _=>True) trivial (fun _=>trivial) (fun _=>trivial) (fun _=>trivial) (fun _ _ _=>trivial) (fun _ _ _=>trivial) (fun _ _ _ _=>trivial) nil fun h _ _ r=>cons h r).2 h
theorem Reps.length(h:Reps K H xs ds):xs.length=ds.length:=Reps.ind (R:=fun xs ds=>xs.length=ds.length) rfl (fun _ e=>congrArg Nat.succ e) h
end
section
variable{X:Cx}{pins:FB}{σ:St}{H:Hp}{s:Shared}
section
variable{kvs:List (Key×V)}{xs:List (List Key×Addr×Value)}{vs:List (Key×Value)}
theorem yR{k:List Key}:∀{us:List Value},bA (k.map kV) us->∃as,ReadsAll s.heap us (k.map kD) as:=by
 induction k with
 |nil=>intro us h;cases h;exact⟨_,.nil⟩
 |cons x k ih =>
  intro us h;cases h with
  |cons e r =>
   obtain⟨as,q⟩:=ih r;cases x with
   |inl i=>obtain⟨t,rfl⟩:=e;exact⟨_,.cons (.int i t) q⟩
   |inr x=>obtain⟨t,rfl⟩:=e;exact⟨_,.cons (.str x t) q⟩
theorem CW(I:Inv X pins σ H s){kvs:List KE}(r:KD kvs xs)(hk:EF X.K H kvs):∃as,ReadsAll s.heap (xs.map fun x=>.ref x.2.1) (kvs.map fun p=>tD p.1) as:=by
 induction r with
 |nil=>exact⟨_,.nil⟩
 |@cons p x _ _ h t ih=>obtain⟨as,q⟩:=ih fun p hp=>hk p (QG _ hp);obtain⟨its,rv,⟨o,e,c,n,d⟩,_⟩:=I.tuple (hk p QE);obtain⟨bs,rb⟩:=yR (s:=s) rv;rw[h.2.1]at e;exact⟨_,.cons (.tuple e c d (by simpa using rb)) q⟩
theorem yP{P:Program}{w:World}{es:List DictEntry}(hk:KV kvs vs)(hp:Pairs (kB P w) es vs):(∃as,ReadsAll s.heap (es.map (·.key)) (kvs.map fun p=>kD p.1) as)/\es.map (·.val)=vs.map (·.2):=by
 unfold KV at hk;induction hk generalizing es with
 |nil=>cases hp;exact⟨⟨_,.nil⟩,rfl⟩
 |cons h t ih =>
  cases hp with
  |cons a b c =>
   obtain⟨⟨as,q⟩,q2⟩:=ih c;refine⟨?_,by rw[QN,QN,q2,b]⟩;rw[QN,QN];rw[<- h.1]at a;rcases GA a with⟨i,t,e1,e2⟩| ⟨x,t,e1,e2⟩
   rw[e1,e2];exact⟨_,.cons (.int i t) q⟩;rw[e1,e2];exact⟨_,.cons (.str x t) q⟩
theorem DZ{kvs:List KE}(r:KD kvs xs):bA (kvs.map (·.2.2)) (xs.map (·.2.2)):=by
 induction r with
 |nil=>exact .nil
 |cons h _ ih=>exact .cons h.2.2 ih
theorem CZ(r:KV kvs vs):bA (kvs.map (·.2)) (vs.map (·.2)):=by
 induction r with
 |nil=>exact .nil
 |cons h _ ih=>exact .cons h.2 ih
theorem YV(I:Inv X pins σ H s){b:Bool}{a:Addr}{o:HO}{ks:List PyData}{xs:List V}(h:H a=some o)(q:OI X.K H b o ks xs):∃ob es ep us,s.heap.get? a=some ob/\ob.cls=.type "dict"/\ob.dict=none/\ob.data=.dict es ep/\(a==sysModules)=false /\
  (∃as,ReadsAll s.heap (es.toList.map (·.key)) ks as)/\bA xs us/\es.toList.map (·.val)=us:=by
 cases b with
 |true=>obtain⟨ep0,kvs,rfl,rfl,rfl,hk,_⟩:=q;obtain⟨_,hd,ys,rel,ob,es,ep,h1,h2,h3,h4,_⟩:=vJ I h hk;refine⟨ob,es,ep,_,h1,h2.1,h2.2.1,h3,hd,?_,DZ rel,?_⟩;rw[h4,QY];exact CW I rel hk;rw[h4,QY];rfl
 |false =>
  rcases q with⟨kvs,_,rfl,rfl,rfl,_⟩| ⟨ep0,rfl,rfl,rfl⟩
  rotate_left
  obtain⟨_,hd,ys,rel,ob,es,ep,h1,h2,h3,h4,_⟩:=vJ I h fun _ z=>nomatch z;cases rel;exact⟨ob,es,ep,[],h1,h2.1,h2.2.1,h3,hd,⟨_,by rw[h4];exact .nil⟩,.nil,by rw[h4];rfl⟩;obtain⟨_,hd,vs,rel,ob,es,ep,h1,h2,h3,_,h4,_⟩:=uQ I h;obtain⟨q1,q2⟩:=yP (s:=s) rel h4;exact⟨ob,es,ep,_,h1,h2.1,h2.2.1,h3,hd,q1,CZ rel,q2⟩
theorem Rep.reads2(I:Inv X pins σ H s):(∀{x:V}{d:PyData},Rep X.K H x d->∀u,rA x u->∃as,Reads s.heap u d as)/\∀{xs:List V}{ds:List PyData},Reps X.K H xs ds->∀us,bA xs us->∃as,ReadsAll s.heap us ds as:=by
 refine Rep.both (P:=fun x d=>∀u,rA x u->∃as,Reads s.heap u d as) (R:=fun xs ds=>∀us,bA xs us->∃as,ReadsAll s.heap us ds as) (fun u r=>?_) (fun b u r=>?_) (fun i u r=>?_) (fun x u r=>?_) (fun h q ih u r=>?_) (fun h q ih u r=>?_) (fun {b a o ks xs ds} h q r ih u rr=>?_) (fun us r=>?_) fun _ _ i1 i2 us r=>?_;cases r;exact⟨_,.none⟩;cases r;exact⟨_,.bool b⟩;obtain⟨t,rfl⟩:=r;exact⟨_,.int i t⟩;obtain⟨t,rfl⟩:=r;exact⟨_,.str x t⟩;cases r;obtain⟨its,rv,⟨o,n,e,c,_,d⟩,_⟩:=I.list h;obtain⟨as,ra⟩:=ih _ rv;exact⟨_,.list e c d (by simpa using ra)⟩;cases r;obtain⟨its,rv,⟨o,e,c,n,d⟩,_⟩:=I.tuple h;obtain⟨as,ra⟩:=ih _ rv;exact⟨_,.tuple e c d (by simpa using ra)⟩;cases rr;obtain⟨ob,es,ep,us,h1,h2,h3,h4,h5,⟨as,h6⟩,h7,h8⟩:=YV I h q;obtain⟨bs,rb⟩:=ih _ h7;have hl:ks.length=ds.length:=by rw[q.len,Reps.length r]
 have e1:(ks.zip ds).map (fun x=>x.1)=ks:=W4 (Wr hl);have e2:(ks.zip ds).map (fun x=>x.2)=ds:=W5 (Wr hl.symm);exact⟨_,.dict h1 h2 h4 (by rw[e1];exact h6) (by rw[e2,h8];exact rb)⟩;cases r;exact⟨_,.nil⟩;cases r with
 |cons r rs=>obtain⟨as,ra⟩:=i1 _ r;obtain⟨bs,rb⟩:=i2 _ rs;exact⟨_,.cons ra rb⟩
theorem Rep.reads(I:Inv X pins σ H s){x:V}{d:PyData}{u:Value}(h:Rep X.K H x d)(r:rA x u):∃as,Reads s.heap u d as:=(Rep.reads2 I).1 h u r
def ZE(d:PyData):Prop:=d.canLay0=true/\d.depth<=64
def rEq(K:QF)(neg:Bool):R2:=fun x y H Q=>match x,y with
 | .int i,.int j=>Q (.bl (if neg then !decide (i=j) else decide (i=j))) H
 | .str a,.str b=>Q (.bl (if neg then !decide (a=b) else decide (a=b))) H
 | .bl a,.bl b=>Q (.bl (if neg then !decide (a=b) else decide (a=b))) H
 |x,y=>∃dx dy,Rep K H x dx/\Rep K H y dy/\ZE dx/\ZE dy/\Q (.bl (if neg then !PyData.eqv dx dy else Q6 dx dy)) H
theorem op_eq(hu:X.A.units+64<cLine):bF X (compareOp .Eq) (rEq X.K false):=by
 intro pins s σ H x y v u Q I rx ry h;have gen:(∃dx dy,Rep X.K H x dx/\Rep X.K H y dy/\ZE dx/\ZE dy/\Q (.bl (if false=true then !PyData.eqv dx dy else Q6 dx dy)) H)->wpAny (model X.prog X.w) X.A (compareOp .Eq v u) (EP X pins σ Q) X.xe s:=by rintro⟨dx,dy,h1,h2,⟨o1,o2⟩,⟨o3,o4⟩,q⟩;obtain⟨as,ra⟩:=h1.reads I rx;obtain⟨bs,rb⟩:=h2.reads I ry;exact SeqAt.compareEq_reads ra rb o1 o3 (by omega) ⟨.bl _,H,I,rfl,q⟩
 have sc:IZ x y=true->Q (.bl (decide (x=y))) H->wpAny (model X.prog X.w) X.A (compareOp .Eq v u) (EP X pins σ Q) X.xe s:=fun h1 h2=>_root_.L2.op_eq pins s σ H x y v u Q I rx ry ⟨h1,h2⟩;cases x with
 |int i =>
  cases y with
  |int j=>exact sc rfl (by simpa[rEq]using h)
  |_=>exact gen h
 |str a =>
  cases y with
  |str b=>exact sc rfl (by simpa[rEq]using h)
  |_=>exact gen h
 |bl a =>
  cases y with
  |bl b=>exact sc rfl (by simpa[rEq]using h)
  |_=>exact gen h
 |_=>exact gen h
theorem op_ne(hu:X.A.units+64<cLine):bF X (compareOp .NotEq) (rEq X.K true):=by
 intro pins s σ H x y v u Q I rx ry h;have gen:(∃dx dy,Rep X.K H x dx/\Rep X.K H y dy/\ZE dx/\ZE dy/\Q (.bl (if true=true then !PyData.eqv dx dy else Q6 dx dy)) H)->wpAny (model X.prog X.w) X.A (compareOp .NotEq v u) (EP X pins σ Q) X.xe s:=by rintro⟨dx,dy,h1,h2,⟨o1,o2⟩,⟨o3,o4⟩,q⟩;obtain⟨as,ra⟩:=h1.reads I rx;obtain⟨bs,rb⟩:=h2.reads I ry;exact SeqAt.compareNe_reads ra rb o1 o3 (by omega) ⟨.bl _,H,I,rfl,q⟩
 have sc:IZ x y=true->Q (.bl (!decide (x=y))) H->wpAny (model X.prog X.w) X.A (compareOp .NotEq v u) (EP X pins σ Q) X.xe s:=fun h1 h2=>_root_.L2.op_ne pins s σ H x y v u Q I rx ry ⟨h1,h2⟩;cases x with
 |int i =>
  cases y with
  |int j=>exact sc rfl (by simpa[rEq]using h)
  |_=>exact gen h
 |str a =>
  cases y with
  |str b=>exact sc rfl (by simpa[rEq]using h)
  |_=>exact gen h
 |bl a =>
  cases y with
  |bl b=>exact sc rfl (by simpa[rEq]using h)
  |_=>exact gen h
 |_=>exact gen h
def FU(f:Int->Int->Bool):R2:=fun x y H Q=>match x,y with
 | .int i,.int j=>Q (.bl (f i j)) H
 |_,_=>False
theorem dN{op:CmpOp}{f:Int->Int->Bool}(h0:bF X (compareOp op) (i0 fun i j=>.bl (f i j))):bF X (compareOp op) (FU f):=by
 intro pins s σ H x y v u Q I rx ry h;cases x with
 |int i =>
  cases y with
  |int j=>exact h0 pins s σ H _ _ v u Q I rx ry ⟨i,j,rfl,rfl,h⟩
  |_=>exact Qb h
 |_=>exact Qb h
def inStr(b a:Str):Bool:=match a.cps.toList with
 |[c]=>decide (c∈b.cps.toList)
 |_=>!(wq b a 0 b.length 1).isEmpty
theorem NP(b a:Str):inStr b a=!(wq b a 0 b.length 1).isEmpty:=by
 unfold inStr;split;rename_i c e;have ea:a=⟨#[c]⟩:=by
  obtain⟨cps⟩:=a;have:cps=#[c]:=by apply W0.mp;simpa using e
  rw[this]
 rw[ea];exact(StrLaws.found_one b c).symm;rfl
def kP(K:QF)(neg:Bool):R2:=fun x y H Q=>match y with
 | .str b=>match x with
  | .str a=>Q (.bl (if neg then !inStr b a else inStr b a)) H
  |_=>False
 | .ref p=>ph K neg x (.ref p) H Q∨(∃d ds,Rep K H x d/\(Rep K H (.ref p) (.list ds)∨Rep K H (.ref p) (.tuple ds))/\ZE d/\ZE (.list ds)/\Q (.bl (if neg then !(ds.any fun y=>Q6 y d) else ds.any fun y=>Q6 y d)) H)∨(∃o,oO K H p x o/\Q (.bl (if neg then !o.isSome else o.isSome)) H)
 |_=>False
theorem kM{ds:List PyData}(h:ZE (.list ds)):wH ds=true/\WD ds<=63:=by obtain⟨h1,h2⟩:=h;simp only[WM]at h1;simp only[QAR]at h2;exact⟨h1,by omega⟩
theorem td(hu:X.A.units+66<cLine):bF X (compareOp .In) (kP X.K false):=by
 intro pins s σ H x y v u Q I rx ry h;cases y with
 |str b =>
  cases x with
  |str a=>refine PU pins s σ H _ _ v u Q I rx ry ⟨a,b,rfl,rfl,?_⟩;rw[<- NP];simpa[kP]using h
  |_=>exact Qb h
 |ref p =>
  rcases h with h|⟨d,ds,hx,hp,o1,o2,q⟩| ⟨o,g,q⟩
  rotate_left 2
  cases ry;exact u4 hu I rx g q;exact RU pins s σ H _ _ v u Q I rx ry h;obtain⟨as,ra⟩:=hx.reads I rx;obtain⟨c1,c2⟩:=kM o2;rcases hp with hp|hp;obtain⟨bs,rb⟩:=hp.reads I ry;exact SeqAt.in_list_reads rb ra c1 o1.1 (by omega) ⟨.bl _,H,I,rfl,q⟩;obtain⟨bs,rb⟩:=hp.reads I ry;exact SeqAt.in_tuple_reads rb ra c1 o1.1 (by omega) ⟨.bl _,H,I,rfl,q⟩
 |_=>exact Qb h
theorem cX(hu:X.A.units+66<cLine):bF X (compareOp .NotIn) (kP X.K true):=by
 intro pins s σ H x y v u Q I rx ry h;cases y with
 |str b =>
  cases x with
  |str a=>refine fN pins s σ H _ _ v u Q I rx ry ⟨a,b,rfl,rfl,?_⟩;rw[<- NP];simpa[kP]using h
  |_=>exact Qb h
 |ref p =>
  rcases h with h|⟨d,ds,hx,hp,o1,o2,q⟩| ⟨o,g,q⟩
  rotate_left 2
  cases ry;exact aR hu I rx g q;exact lN pins s σ H _ _ v u Q I rx ry h;obtain⟨as,ra⟩:=hx.reads I rx;obtain⟨c1,c2⟩:=kM o2;rcases hp with hp|hp;obtain⟨bs,rb⟩:=hp.reads I ry;exact SeqAt.notIn_list_reads rb ra c1 o1.1 (by omega) ⟨.bl _,H,I,rfl,q⟩;obtain⟨bs,rb⟩:=hp.reads I ry;exact SeqAt.notIn_tuple_reads rb ra c1 o1.1 (by omega) ⟨.bl _,H,I,rfl,q⟩
 |_=>exact Qb h
end
end
def Mj(z:Str):It:=⟨fun i _=>i<z.cps.size,fun i H x H'=>H'=H/\∃c,z.cps[i]?=some c/\x=.str ⟨#[c]⟩,fun i _=>z.cps.size<=i⟩
theorem uW{P:Program}{w:World}{K:QF}{tg:Expr}(it:Addr)(z:Str)(t:Tok):Turn P w K tg (Mj z) [it] it (fun i h=>h.IsStrIter it (strIterType z) z t i) where
 mem:=by simp
 obj:=fun i h st b hb=>by
  have e:b=it:=by simpa using hb
  subst e;obtain⟨o,e,c,d⟩:=st;exact⟨o,e,fun v z=>by rw[d]at z;cases z⟩
 keep:=fun i h h' st k=>by obtain⟨o,e,r⟩:=st;exact⟨o,k it (by simp) o e,r⟩
 item:=by
  intro X hP hw hK hc i pins s σ H E I hf st hg;subst hP hw hK;obtain⟨f0,f1,f2,f3,f4,f5⟩:=hf it (by simp);have hg':i<z.cps.size:=hg;obtain⟨ch,hx⟩:∃ch,z.cps[i]?=some ch:=⟨_,wW hg'⟩
  have key:∀h',h'.IsStrIter it (strIterType z) z t (i+1)->qP it s.heap h'->∃u,some (Value.str ⟨#[ch]⟩ s.toks)=some u /\
    wpAny (model X.prog X.w) X.A (letOwnedTupleGo tg (.ref it) u) (fun _ s2=>∃x H',Inv X pins σ H' s2/\rA x u/\(Mj z).yld i H x H'/\s2.heap.IsStrIter it (strIterType z) z t (i+1)/\∀b∈[it],H' b=none) E { s with heap:=h',toks:=s.toks+1 }:=fun h' st' sb=>by
   have I1:Inv X pins σ H { s with heap:=h',toks:=s.toks+1 }:=I.turned (fun b o hb e=>(sb.2 b hb).trans e) f0 f1 f3 f4 f5;obtain⟨o,e,c,d⟩:=id st';refine⟨_,rfl,PP (s:={ s with heap:=h',toks:=s.toks+1 }) (n:=strIterType z) e c d ?_ ⟨.str ⟨#[ch]⟩,H,I1,⟨_,rfl⟩,⟨rfl,_,hx,rfl⟩,st',fun b hb=>(hf b hb).1⟩⟩;unfold strIterType;split<;>decide
  cases ha:z.cps.all (· < 128) with
  |false =>
   have e1:strIterType z="str_iterator":=by simp[strIterType,ha]
   exact wpAny_pyNext_wide_item (by rw[<- e1];exact st) hx fun h' st' sb=>key h' (by rw[e1];exact st') sb
  |true =>
   have e1:strIterType z="str_ascii_iterator":=by simp[strIterType,ha]
   exact wpAny_pyNext_ascii_item (by rw[<- e1];exact st) hx fun h' st' sb=>key h' (by rw[e1];exact st') sb
 done:=by
  intro X hP hw hK hc i pins s σ H E I hf st hg;subst hP hw hK;obtain⟨f0,f1,f2,f3,f4,f5⟩:=hf it (by simp);have hx:z.cps[i]?=none:=by rw[Array.getElem?_eq_none_iff];exact hg
  cases ha:z.cps.all (· < 128) with
  |false =>
   have e1:strIterType z="str_iterator":=by simp[strIterType,ha]
   rw[e1]at st;exact wpAny_pyNext_wide_end (I.ok.hd hc) st hx fun h' eb=>⟨rfl,I.turned (t':=s.toks) (fun b o hb e=>eb b o hb e) f0 f1 f3 f4 f5⟩
  |true =>
   have e1:strIterType z="str_ascii_iterator":=by simp[strIterType,ha]
   rw[e1]at st;exact wpAny_pyNext_ascii_end (I.ok.hd hc) st hx fun h' eb=>⟨rfl,I.turned (t':=s.toks) (fun b o hb e=>eb b o hb e) f0 f1 f3 f4 f5⟩
 self:=by
  intro A i s Q E st h;cases ha:z.cps.all (· < 128) with
  |false =>
   have e1:strIterType z="str_iterator":=by simp[strIterType,ha]
   rw[e1]at st;exact wpAny_pyIter_striter_wide st h
  |true =>
   have e1:strIterType z="str_ascii_iterator":=by simp[strIterType,ha]
   rw[e1]at st;exact wpAny_pyIter_striter_ascii st h
section
variable{X:Cx}
theorem sQ:∀{bs:List Bool}{us:List Value},bA (bs.map V.bl) us->∀(i:Nat) (v:Value),us[i]?=some v->∃b,bs[i]?=some b/\v=Value.bool b
 |[],_,.nil,i,v,h=>by simp at h
 |b::bs,_,.cons r t,0,v,h=>by simp at h;subst h;exact⟨b,by simp,r⟩
 |b::bs,_,.cons r t,i+1,v,h=>by obtain⟨c,h1,h2⟩:=sQ (bs:=bs) t i v (by simpa using h);exact⟨c,by simpa using h1,h2⟩
theorem DU(bs:List Bool):(Q5 bs.length).all (fun i=>bs.getD i true)=bs.all id:=by
 rw[qz,qF,qF];constructor;intro h b hb;obtain⟨i,hi,e⟩:=List.getElem_of_mem hb;have:=h i (by simpa using hi);simp[QCD,hi,e]at this;simpa using this;intro h i hi;have hi':i<bs.length:=by simpa using hi
 have:=h bs[i] (QBu hi');simpa[QCD,hi']using this
def Tc(K:QF):List V->Hp->VK->Prop:=fun vs H Q=>match vs with
 |[.ref a]=>∃bs:List Bool,HC K H a (bs.map V.bl)/\Q (.bl (bs.all id)) H
 |_=>False
theorem TY(hh:X.calm=true):BG X (.builtin "all") (Tc X.K):=by
 intro pins s σ H xs us Q I r h
 match xs,h with
 |[.ref a],⟨bs,hq,q⟩ =>
  obtain⟨u,rfl,ru⟩:=RI r;cases ru;obtain⟨its,rv,p,hz⟩:=I.list hq;have hl:=rv.length;rw[QD]at hl;refine call_all_walk (Wk p.isList ?_);have hlt:a<s.heap.objs.size:=by obtain⟨o,n,e,_⟩:=p;exact QR e
  refine⟨s.heap.objs.size,_,_,_,_,_,fun i=>bs.getD i true,rfl,Walks.list (A:=X.A.in1) (I.ok.hd hh) s.heap.objs.size a (Qd hlt) its.toArray,⟨⟨_,QO _ rfl,rfl,rfl⟩,?_⟩,?_,?_⟩;obtain⟨o,n,e,c,d,sq⟩:=p;exact⟨o,QH _ e,c,n,sq⟩;intro i v s' Q' E' hP hQ';obtain⟨b,hb,rfl⟩:=sQ rv i v (by simpa using hP);refine wZ ?_;have:bs.getD i true=b:=by simp[QCD,hb]
  rw[<- this];exact hQ';intro h' tk hk;have e1:(Q5 its.toArray.size).all (fun i=>bs.getD i true)=bs.all id:=by rw[QU,<- hl,DU]
  rw[e1];exact⟨.bl _,H,I.kept (t':=tk) (fun b o e=>hk b o (by simp;exact Qd (QR e)) (QH _ e)),rfl,q⟩
def Oc(K:QF):List V->Hp->VK->Prop:=fun vs H Q=>(∃z,vs=[.str z]/\z.length<=sizeLine/\Q (.int z.length) H)∨∃a xs,vs=[.ref a]/\(HC K H a xs∨TC K H a xs)/\Q (.int xs.length) H
theorem SY:BG X (.builtin "len") (Oc X.K):=fun pins s σ H xs us Q I r h=>h.elim (zO pins s σ H xs us Q I r) (kO pins s σ H xs us Q I r)
def oh(K:QF):V->Option Int->Option Int->Hp->VK->Prop:=fun x lo hi H Q=>match x with
 | .str z=>z.length<=sizeLine/\Q (.str (QCE z lo hi)) H
 | .ref a=>Gc K (.ref a) lo hi H Q∨Fc K (.ref a) lo hi H Q
 |_=>False
theorem U7:Vg X (oh X.K):=by
 intro pins s σ H x v vl vu lo hi sl Q I rx hs pl pu h;cases x with
 |str z =>
  obtain⟨t,rfl⟩:=rx;obtain⟨hz,q⟩:=h;refine⟨"str",_,F.slot_str_getitem.lookup,QB8 _ _ _,?_⟩;have fin:∀l u:Option (Int×Tok),l.map (·.1)=lo->u.map (·.1)=hi->s.heap.IsSlice sl l u none->wpAny (model X.prog X.w) X.A (getItem (.str z t) (.ref sl)) (EP X pins σ Q) X.xe s:=fun l u e1 e2 hsl=>by refine wpAny_getItem_str_slice hsl rfl ?_;subst e1 e2;exact post_val_or_str ⟨QZ (Txt.slice_le z _ _) hz,fun t' k=>⟨.str (QCE z _ _),H,I.tok k,⟨_,rfl⟩,q⟩⟩
  obtain⟨o,ho,hc,hd⟩:=hs;cases pl with
  |none =>
   cases pu with
   |none=>exact fin none none rfl rfl ⟨o,ho,hc,hd⟩
   |int j tj=>exact fin none (some (j,tj)) rfl rfl ⟨o,ho,hc,hd⟩
  |int i ti =>
   cases pu with
   |none=>exact fin (some (i,ti)) none rfl rfl ⟨o,ho,hc,hd⟩
   |int j tj=>exact fin (some (i,ti)) (some (j,tj)) rfl rfl ⟨o,ho,hc,hd⟩
 |ref a=>rcases h with h|h;exact AZ pins s σ H _ v vl vu lo hi sl Q I rx hs pl pu h;exact X7 pins s σ H _ v vl vu lo hi sl Q I rx hs pl pu h
 |_=>exact Qb h
end
section
variable{h h':Heap}{j:Addr}{z:Src}{k:Nat}{xs:Array Value}
inductive Src where
 |l (a:Addr)|t (a:Addr)
def Src.adr:Src->Addr
 | .l a=>a
 | .t a=>a
def dC(h:Heap)(j:Addr):Src->Nat->Prop
 | .l a,k=>h.IsListIter j a k
 | .t a,k=>h.IsTupleIter j a k
def rB(h:Heap):Src->Array Value->Prop
 | .l a,xs=>h.IsList a xs
 | .t a,xs=>h.IsTuple a xs
theorem dC.keep(x:dC h j z k)(e:∀o,h.get? j=some o->h'.get? j=some o):dC h' j z k:=by
 cases z with
 |l a=>obtain⟨o,g1,g2⟩:=x;exact⟨o,e o g1,g2⟩
 |t a=>obtain⟨o,g1,g2⟩:=x;exact⟨o,e o g1,g2⟩
theorem dC.obj(x:dC h j z k):∃o,h.get? j=some o/\∀v,o.data≠.cell v:=by
 cases z with
 |l a=>obtain⟨o,g1,g2,g3⟩:=x;exact⟨o,g1,fun v q=>by rw[g3]at q;cases q⟩
 |t a=>obtain⟨o,g1,g2,g3⟩:=x;exact⟨o,g1,fun v q=>by rw[g3]at q;cases q⟩
theorem rB.ext{b:Addr}(x:rB h z xs)(e:QAk b h h')(n:z.adr≠b):rB h' z xs:=by
 cases z with
 |l a=>exact QB1.extBut x e n
 |t a=>exact Heap.IsTuple.extBut x e n
theorem rB.lt(x:rB h z xs):z.adr<h.objs.size:=by
 cases z with
 |l a=>obtain⟨o,g1,_⟩:=x;exact QR g1
 |t a=>obtain⟨o,g1,_⟩:=x;exact QR g1
theorem dC.lt(x:dC h j z k):j<h.objs.size:=by obtain⟨o,g1,_⟩:=x.obj;exact QR g1
end
section
variable{prog:Program}{w:World}{A:Around}{E:OB}{s:Shared}
section
variable{j t:Addr}{k:Nat}{xs:Array Value}{x:Value}{Q:OB}{z:Src}
theorem O8(p:s.heap.IsTupleIter j t k)(pt:s.heap.IsTuple t xs)(px:xs[k]?=some x)
  (q:∀h',h'.IsTupleIter j t (k+1)->qP j s.heap h'->Q x { s with heap:=h' }):wpAny (model prog w) A (qW (.ref j)) Q E s:=by
 obtain⟨ob,g1,g2,g3⟩:=id p;obtain⟨ot,t1,_,nt,t3⟩:=pt;unfold qW;refine QA (qB (name:=Qh "__next__") p.typeIs qk (Qz qk p.typeIs WY ?_ (WX _)));show wpAny _ _ (field (.ref j) 0 >>= _) _ _ _;refine QA (wT g1 g3 (x:=.ref t) rfl ?_);show wpAny _ _ (if(Value.ref t==Value.none)=true then _ else _) _ _ _;rw[if_neg (show ¬ (Value.ref t==Value.none)=true from QC)];show wpAny _ _ (field (.ref j) 1 >>= _) _ _ _;refine QA (wT g1 g3 (x:=.int k 0) rfl ?_);show wpAny _ _ (seqItems? (.ref t) >>= _) _ _ _;refine QA (QA9 t1 t3 ?_);simp only[wf,px];refine QA (qw g1 g3 (by simp) (QJ ⟨x,rfl,QJ (q _ ?_ (qK ..))⟩));refine⟨_,Q0 _ g1 (qd (Q3 g3 _)),(WJ ..).trans g2,?_⟩;rw[Q3 g3];simp[rawInt]
theorem tR(ah:A.handled=none)(p:s.heap.IsTupleIter j t k)(pt:s.heap.IsTuple t xs)(px:xs[k]?=none)
  (q:∀h' e,QAk j s.heap h'->(∃o,h'.get? e=some o/\o.cls=.type "StopIteration")->E (.ref e) { s with heap:=h' }):wpAny (model prog w) A (qW (.ref j)) Q E s:=by
 obtain⟨ob,g1,g2,g3⟩:=id p;obtain⟨ot,t1,_,nt,t3⟩:=pt;unfold qW;refine QA (qB (name:=Qh "__next__") p.typeIs qk (Qz qk p.typeIs WY ?_ (WX _)));show wpAny _ _ (field (.ref j) 0 >>= _) _ _ _;refine QA (wT g1 g3 (x:=.ref t) rfl ?_);show wpAny _ _ (if(Value.ref t==Value.none)=true then _ else _) _ _ _;rw[if_neg (show ¬ (Value.ref t==Value.none)=true from QC)];show wpAny _ _ (field (.ref j) 1 >>= _) _ _ _;refine QA (wT g1 g3 (x:=.int k 0) rfl ?_);show wpAny _ _ (seqItems? (.ref t) >>= _) _ _ _;refine QA (QA9 t1 t3 ?_);simp only[wf,px];refine QA (QAb (QA (qw g1 g3 (by simp) ?_)));refine QA (m:=newExc (.type "StopIteration") []) ?_;simp only[newExc,newTuple];refine QA (Qr ?made (by size_fits));refine QA (m:=firstArgMember _ _) (WV (a:=Value.none) (by first|rfl | (rw[firstArgMember];rfl)) ?arg);refine Qr ?made2 (by size_fits);simp only[raiseNew];refine QA (QAl ?_);first|rw[show A.in1.handled=none from ah]|rw[ah]
 refine QA (QJ (QBF (q _ _ (((qK ..).extBut.push _).push _) ⟨_,QO _ rfl,rfl⟩)))
theorem j3(p:dC s.heap j z k)(pt:rB s.heap z xs)(px:xs[k]?=some x)
  (q:∀h',dC h' j z (k+1)->qP j s.heap h'->Q x { s with heap:=h' }):wpAny (model prog w) A (qW (.ref j)) Q E s:=by
 cases z with
 |l a=>exact wpAny_nextOf_list_item p pt px q
 |t a=>exact O8 p pt px q
theorem JX(ah:A.handled=none)(p:dC s.heap j z k)(pt:rB s.heap z xs)(px:xs[k]?=none)
  (q:∀h' e,QAk j s.heap h'->(∃o,h'.get? e=some o/\o.cls=.type "StopIteration")->E (.ref e) { s with heap:=h' }):wpAny (model prog w) A (qW (.ref j)) Q E s:=by
 cases z with
 |l a=>exact wpAny_nextOf_list_end ah p pt px q
 |t a=>exact tR ah p pt px q
def Src.it:Src->Obj
 | .l a=>{ cls:=.type "list_iterator",data:=.fields #[.ref a,.int 0 0] }
 | .t a=>{ cls:=.type "tuple_iterator",data:=.fields #[.ref a,.int 0 0] }
theorem FO(pt:rB s.heap z xs)(q:Q (.ref s.heap.objs.size) { s with heap:=s.heap.push z.it }):wpAny (model prog w) A (pyIter (.ref z.adr)) Q E s:=by
 cases z with
 |l a=>exact Wk pt q
 |t a=>exact QBQ pt q
theorem OZ(h:Heap)(z:Src):dC (h.push z.it) h.objs.size z 0:=by
 cases z with
 |l a=>exact⟨_,QO _ rfl,rfl,rfl⟩
 |t a=>exact⟨_,QO _ rfl,rfl,rfl⟩
end
end
section
variable{prog:Program}{w:World}{A:Around}{E:OB}{s:Shared}
theorem G7{h h':Heap}{b:Addr}{z:Src}{xs:Array Value}(x:rB h z xs)(e:qP b h h')(n:z.adr≠b):rB h' z xs:=x.ext e.extBut n
end
section
variable{X:Cx}{pins:FB}{σ:St}{H:Hp}{s:Shared}{h':Heap}
theorem _root_.L2.Inv.turnedL{t':Nat}{ch:List Addr}(I:Inv X pins σ H s)(k:∀b o,b∉ch->s.heap.get? b=some o->h'.get? b=some o)(f:∀b∈ch,kI X pins H b):Inv X pins σ H { s with heap:=h',toks:=t' }:=by
 have away:∀b u,H b=some u->b∉ch:=fun b u e z=>by rw[(f b z).1]at e;cases e
 have hL:X.env.locals∉ch:=fun z=>(f _ z).2.1 rfl;refine I.step (g':=s.gens) (d':=s.drawn) (ch:=ch) (fun b hb=>?_) (fun b o _ _ hc e _=>k b o hc e) (fun b o _ _ hc e _=>⟨o.slots,k b o hc e⟩) (fun _ _ _ _ n=>n)
  (fun b o hc e=>⟨o,k b o hc e⟩) (fun _ _ e=>e) (fun _ _ _ e=>e) (fun b ps e=>⟨#[],by rw[e];simp⟩) (fun m hm=>?_) (fun b u e=>?_) I.bare
 obtain⟨_,f1,_,f3,f4,f5⟩:=f b hb;exact⟨f3,f1,f4,f5⟩;obtain⟨o,es,ep,ho,r⟩:=hm;exact⟨o,es,ep,k _ o hL ho,r⟩;refine(I.hok b u e).stay (fun c v hc q=>k c v ?_ q) (fun _ q=>q) fun _ _ q=>q;rcases hc with z|z;rw[z];exact away b u e;exact away c _ z
def aL(K:QF)(H:Hp):Src->List V->Prop
 | .l a,xs=>HC K H a xs
 | .t a,xs=>TC K H a xs
theorem _root_.L2.Inv.src(I:Inv X pins σ H s){z:Src}{xs:List V}(h:aL X.K H z xs):∃its:List Value,bA xs its/\rB s.heap z its.toArray/\xs.length<=sizeLine:=by
 cases z with
 |l a=>obtain⟨its,rv,p,hz⟩:=I.list h;exact⟨its,rv,p.isList,hz⟩
 |t a=>obtain⟨its,rv,p,hz⟩:=I.tuple h;exact⟨its,rv,p,hz⟩
theorem _root_.L2.Inv.src_inj(I:Inv X pins σ H s){z:Src}{xs ys:List V}(h:aL X.K H z xs)(h':aL X.K H z ys):xs=ys:=by
 cases z with
 |l a=>exact I.list_inj h h'
 |t a=>exact I.tuple_inj h h'
theorem _root_.L2.Inv.pair{p:Addr}{a b:Value}{x y:V}{t':Nat}(I:Inv X pins σ H s)(k:∀b u,s.heap.get? b=some u->h'.get? b=some u)(hp:s.heap.objs.size<=p)(ho:h'.get? p=some { cls:=.type "tuple",data:=.seq #[a,b] })(ra:rA x a)(rb:rA y b) :
  Inv X pins σ (UA H p (.tup [x,y])) { s with heap:=h',toks:=t' } :=
 I.laid k hp ⟨by rw[QV];show 2<=_;decide,[a,b],.cons ra (.cons rb .nil),_,ho,rfl,_,rfl⟩
end
def Yk(K:QF)(z1 z2:Src):It :=
  ⟨fun i H=>∃xs ys x y,aL K H z1 xs/\aL K H z2 ys/\xs[i]?=some x/\ys[i]?=some y,
   fun i H v H'=>∃p x y,H p=none/\v=.ref p/\H'=UA H p (.tup [x,y])/\∀xs ys,aL K H z1 xs->aL K H z2 ys->xs[i]?=some x/\ys[i]?=some y,
   fun i H=>∃xs ys,aL K H z1 xs/\aL K H z2 ys/\(xs.length<=i∨ys.length<=i)⟩
def xU(z TI TO i1 i2:Addr)(z1 z2:Src)(f0:Value)(i:Nat)(h:Heap):Prop:=IsZip h z TI TO f0/\IsPair h TI (.ref i1) (.ref i2)/\(∃a b,IsPair h TO a b)/\dC h i1 z1 i/\dC h i2 z2 i
theorem xU.keep{z TI TO i1 i2:Addr}{z1 z2:Src}{f0:Value}{i:Nat}{h h':Heap}(st:xU z TI TO i1 i2 z1 z2 f0 i h)(k:∀b∈[z,TI,TO,i1,i2],∀o,h.get? b=some o->h'.get? b=some o):xU z TI TO i1 i2 z1 z2 f0 i h':=by obtain⟨a1,a2,⟨u,v,a3⟩,a4,a5⟩:=st;exact⟨k z (by simp) _ a1,k TI (by simp) _ a2,⟨u,v,k TO (by simp) _ a3⟩,a4.keep fun o e=>k i1 (by simp) o e,a5.keep fun o e=>k i2 (by simp) o e⟩
theorem xW{P:Program}{w:World}{K:QF}{es:List Expr}{kk:Nat}{pp:Pos}{z TI TO i1 i2:Addr}{l1 l2:Addr}(D:ZipApart z TI TO i1 i2 l1 l2) :
  Turn P w K (.Tuple es kk pp) (Yk K (.l l1) (.l l2)) [z,TI,TO,i1,i2] z (xU z TI TO i1 i2 (.l l1) (.l l2) .none) where
 mem:=by simp
 obj:=fun i h st b hb=>by obtain⟨a1,a2,⟨u,v,a3⟩,a4,a5⟩:=st;simp only[QK,Ql,or_false]at hb;rcases hb with rfl|rfl|rfl|rfl|rfl;exact⟨_,a1,fun v q=>by cases(show Data.fields _=Data.cell v from q)⟩;exact⟨_,a2,fun v q=>by cases(show Data.seq _ _=Data.cell v from q)⟩;exact⟨_,a3,fun v q=>by cases(show Data.seq _ _=Data.cell v from q)⟩;exact a4.obj;exact a5.obj
 keep:=fun i h h' st k=>st.keep k
 item:=by
  intro X hP hw hK hc i pins s σ H E I hf st hg;subst hP hw hK;obtain⟨xs,ys,x,y,h1,h2,ex,ey⟩:=hg;obtain⟨its,rv,sh1,_⟩:=I.src h1;obtain⟨jts,rw',sh2,_⟩:=I.src h2;obtain⟨u,hu,ru⟩:=rv.get ex;obtain⟨v,hv,rvv⟩:=rw'.get ey;obtain⟨a1,a2,⟨c,d,a3⟩,a4,a5⟩:=st;refine wpAny_pyNext_zip_item D a1 a2 a3 a4 a5 sh1 sh2 (x:=u) (y:=v) (by simpa using hu) (by simpa using hv) fun h' b1 b2 b3 b4 b5 b6 b7=>?_;refine⟨_,rfl,wpAny_letOwnedTupleGo_zip b1 fun h'' c1 sb=>?_⟩;have kept:∀b o,b∉[z,TI,TO,i1,i2]->s.heap.get? b=some o->h''.get? b=some o:=fun b o hb e=>by simp only[QK,Ql,or_false,not_or]at hb;exact(sb.2 b hb.1).trans (b7 b o hb.1 hb.2.2.1 hb.2.2.2.1 hb.2.2.2.2 e)
  have hp:=I.hok.fresh (QS s.heap.objs.size);have zlt:z<s.heap.objs.size:=QR a1;have pairAt:h''.get? s.heap.objs.size=some { cls:=.type "tuple",data:=.seq #[u,v] }:=(sb.2 _ (wG zlt)).trans b5;have old:∀b∈[z,TI,TO,i1,i2],b<s.heap.objs.size:=fun b hb=>by simp only[QK,Ql,or_false]at hb;rcases hb with rfl|rfl|rfl|rfl|rfl;exact zlt;exact QR a2;exact QR a3;exact a4.lt;exact a5.lt
  have I1:=I.pair (h':=s.heap.push { cls:=.type "tuple",data:=.seq #[u,v] }) (t':=s.toks) (fun b o e=>QH _ e) (QS _) (QO _ rfl) ru rvv;have I2:=I1.turnedL (h':=h'') (t':=s.toks) (ch:=[z,TI,TO,i1,i2]) (fun b o hb e=>by
   rcases W8 e with⟨q1,q2⟩| q;subst q1 q2;exact pairAt;exact kept b o hb q) fun b hb=>by
   obtain⟨f0,f1,f2,f3,f4,f5⟩:=hf b hb;exact⟨by rw[vA (Qd (old b hb))];exact f0,f1,f2,f3,f4,f5⟩
  refine⟨.ref s.heap.objs.size,_,I2,rfl,⟨s.heap.objs.size,x,y,hp,rfl,rfl,fun xs' ys' g1 g2=>?_⟩,⟨c1,?_,⟨_,_,(sb.2 _ D.TOz).trans b2⟩,dC.keep (z:=.l l1) b3 fun o e=>(sb.2 _ D.i1z).trans e,dC.keep (z:=.l l2) b4 fun o e=>(sb.2 _ D.i2z).trans e⟩,fun b hb=>?_⟩;rw[I.src_inj g1 h1,I.src_inj g2 h2];exact⟨ex,ey⟩;exact(sb.2 _ D.TIz).trans (b7 _ _ D.TIz D.TITO D.TIi1 D.TIi2 a2);rw[vA (Qd (old b hb))];exact(hf b hb).1
 done:=by
  intro X hP hw hK hc i pins s σ H E I hf st hg;subst hP hw hK;obtain⟨xs,ys,h1,h2,en⟩:=hg;obtain⟨its,rv,sh1,_⟩:=I.src h1;obtain⟨jts,rw',sh2,_⟩:=I.src h2;obtain⟨a1,a2,⟨c,d,a3⟩,a4,a5⟩:=st;have q1:=rv.length;have q2:=rw'.length;have en':its.toArray[i]?=none∨jts.toArray[i]?=none:=by rcases en with q|q;exact .inl (by simp;omega);exact .inr (by simp;omega)
  refine wpAny_pyNext_zip_end (I.ok.hd hc) D a1 a2 a3 a4 a5 sh1 sh2 en' fun h' kp=>⟨rfl,I.turnedL (t':=s.toks) (ch:=[z,TI,TO,i1,i2]) (fun b o hb e=>?_) hf⟩
  simp only[QK,Ql,or_false,not_or]at hb;exact kp b o hb.1 hb.2.2.1 hb.2.2.2.1 hb.2.2.2.2 e
 self:=fun _ _ _ _ _ st h=>QBv st.1 h
section
variable{prog:Program}{w:World}{A:Around}{E:OB}{s:Shared}
section
variable{it d:Addr}{od:Obj}{es:Array DictEntry}{i ep:Nat}{ok ov:Value}{Q:Option Value->Shared->Prop}
theorem oD:QAB "dict_itemiterator"=true:=by decide +kernel
theorem nI(l:List String)(h:(l.contains "dict_itemiterator" || l.contains "object")=false):(l.any fun t=>[Value.type "dict_itemiterator",Value.type "object"].contains (.type t))=false:=by
 rw[List.any_eq_false];intro t ht;rw[Bool.or_eq_false_iff]at h;have h1:t≠"dict_itemiterator":=fun e=>by subst e;rw[Q4.mpr ht]at h;cases h.1
 have h2:t≠"object":=fun e=>by subst e;rw[Q4.mpr ht]at h;cases h.2
 simp[h1,h2]
theorem iX{e:DictEntry}
  (hit:IsItemIter s.heap it d i es.size ep ok ov) (hod:s.heap.get? d=some od) (hdd:od.data=.dict es ep) (hx:es[i]?=some e)
  (q:∀h',IsItemIterOut h' it d (i+1) es.size ep e.key e.val s.heap.objs.size->h'.get? s.heap.objs.size=some { cls:=.type "tuple",data:=.seq #[e.key,e.val] } ->
   h'.objs.size=s.heap.objs.size+1->(∀b o,b≠it->s.heap.get? b=some o->h'.get? b=some o)->Q (some (.ref s.heap.objs.size)) { s with heap:=h' }) :
  wpAny (model prog w) A (pyNext (.ref it)) Q E s:=by
 have hT:s.TypeIs (.ref it) "dict_itemiterator":=⟨_,hit,rfl⟩
 show wpAny _ _ (bind _ _) _ _ _;refine QA (WZ (qB hT qX (Qz qX hT Ws ?_ (Wl _))));show wpAny _ _ (bind _ _) _ _ _;refine QA (QJ (QA (QA (QA (wB hT (QJ (QA (WN hit rfl ?_))))))));rw[oD];show wpAny _ _ (if(Value.ref d==Value.none)=true then _ else _) _ _ _;rw[if_neg (show ¬ (Value.ref d==Value.none)=true from QC)];show wpAny _ _ (wX (.ref d) >>= _) _ _ _;refine QA (QJ (QA (wI hod hdd ?_)));rw[if_neg (show ¬ (((es.size:Nat):Int) != ((es.size:Nat):Int))=true by simp)];refine QA (QJ (QA (WE hod hdd ?_)));rw[if_neg (show ¬ (((ep:Nat):Int) != ((ep:Nat):Int))=true by simp)];refine QJ ?_;have h0:(if((i:Nat):Int)<0 then none else es[((i:Nat):Int).toNat]?)=some e:=by rw[if_neg (by omega),wf];exact hx
 simp only[h0];refine QA ?_;show wpAny _ _ (typeNameOfWhole (.ref it) >>= _) _ _ _;refine QA (wB hT (QJ (QA (Wh hT ?_))));rw[oD,if_pos rfl];rw[show(List.any _ fun t=>[Value.type "dict_itemiterator",Value.type "object"].contains (.type t))=false from nI _ (by decide +kernel),if_neg QC];refine QA (wQ hit (by simp) fun h1 hit1 hs1=>?_);have hit1:IsItemIter h1 it d (i+1) es.size ep ok ov:=hit1;refine QA (qS ?_);have hT1:({ s with heap:=h1 }:Shared).TypeIs (.ref it) "dict_itemiterator":=⟨_,hit1,rfl⟩
 show wpAny _ _ (Builtin.Dict_items.isOneOf (.ref it) _ >>= _) _ _ _;refine QA (Wh hT1 ?_);rw[nI _ (by decide +kernel),if_neg QC];refine QA (Wh hT1 ?_);rw[nI _ (by decide +kernel),if_neg QC];show wpAny _ _ (newTuple [e.key,e.val] >>= _) _ _ _;refine QA (QBA ?_);have sz1:h1.objs.size=s.heap.objs.size:=hs1.1;have hit2:IsItemIter (h1.push { cls:=.type "tuple",data:=.seq #[e.key,e.val] }) it d (i+1) es.size ep ok ov:=QH _ hit1;show wpAny _ _ (Builtin.Dict_items.ownedTupleIsFree (.ref it) >>= _) _ _ _;refine QA ?_;show wpAny _ _ (field (.ref it) 0 >>= _) _ _ _;refine QA (wT hit2 rfl (x:=.none) rfl (QJ ?_));rw[if_pos rfl];show wpAny _ _ (field (.ref it) 6 >>= _) _ _ _;refine QA (wT hit2 rfl (x:=ok) rfl ?_);refine QA (wT hit2 rfl (x:=ov) rfl ?_);refine QA (wQ hit2 (by simp) fun h3 hit3 hs3=>?_);refine QA (wQ hit3 (by simp) fun h4 hit4 hs4=>?_);refine QA (wQ hit4 (by simp) fun h5 hit5 hs5=>?_);refine QA (wQ hit5 (by simp) fun h6 hit6 hs6=>?_);refine QA (wpAny_letGo (QJ ?_));refine QJ ⟨_,rfl,QJ ?_⟩;have ilt:it<h1.objs.size:=QR hit1;have pt:h6.get? h1.objs.size=some { cls:=.type "tuple",data:=.seq #[e.key,e.val] } :=
  hs6.extBut _ _ (wG ilt) (hs5.extBut _ _ (wG ilt) (hs4.extBut _ _ (wG ilt) (hs3.extBut _ _ (wG ilt) (QO _ rfl))))
 have sz6:h6.objs.size=h1.objs.size+1:=by rw[hs6.1,hs5.1,hs4.1,hs3.1,wV]
 have hit6':IsItemIterOut h6 it d (i+1) es.size ep e.key e.val h1.objs.size:=hit6;rw[sz1]at pt sz6 hit6';have:=q h6 hit6' pt sz6 fun b o hb x=>hs6.extBut _ _ hb (hs5.extBut _ _ hb (hs4.extBut _ _ hb (hs3.extBut _ _ hb (QH _ (hs1.extBut _ _ hb x)))));show Q (some (.ref h1.objs.size)) _;rw[sz1];exact this
theorem pN(ah:A.handled=none)
  (hit:IsItemIter s.heap it d i es.size ep ok ov) (hod:s.heap.get? d=some od) (hdd:od.data=.dict es ep) (hx:es[i]?=none)
  (q:∀h',QAk it s.heap h'->Q none { s with heap:=h' }) :
  wpAny (model prog w) A (pyNext (.ref it)) Q E s:=by
 have hT:s.TypeIs (.ref it) "dict_itemiterator":=⟨_,hit,rfl⟩
 show wpAny _ _ (bind _ _) _ _ _;refine QA (WZ (qB hT qX (Qz qX hT Ws ?_ (Wl _))));show wpAny _ _ (bind _ _) _ _ _;refine QA (QJ (QA (QA (QA (wB hT (QJ (QA (WN hit rfl ?_))))))));rw[oD];show wpAny _ _ (if(Value.ref d==Value.none)=true then _ else _) _ _ _;rw[if_neg (show ¬ (Value.ref d==Value.none)=true from QC)];show wpAny _ _ (wX (.ref d) >>= _) _ _ _;refine QA (QJ (QA (wI hod hdd ?_)));rw[if_neg (show ¬ (((es.size:Nat):Int) != ((es.size:Nat):Int))=true by simp)];refine QA (QJ (QA (WE hod hdd ?_)));rw[if_neg (show ¬ (((ep:Nat):Int) != ((ep:Nat):Int))=true by simp)];refine QJ ?_;have h0:(if((i:Nat):Int)<0 then none else es[((i:Nat):Int).toNat]?)=none:=by rw[if_neg (by omega),wf];exact hx
 simp only[h0];refine QA ?_;show wpAny _ _ (typeNameOfWhole (.ref it) >>= _) _ _ _;refine QA (wB hT (QJ ?_));rw[oD,if_pos rfl];refine QA (wQ hit (by simp) fun h1 hit1 hs1=>?_);refine QA (m:=newExc (.type "StopIteration") []) ?_;simp only[newExc,newTuple];refine QA (Qr ?made (by size_fits));refine QA (m:=firstArgMember _ _) (WV (a:=Value.none) (by first|rfl | (rw[firstArgMember];rfl)) ?arg);refine Qr ?made2 (by size_fits);simp only[raiseNew];refine QA (QAl ?_);first|rw[show A.in1.handled=none from ah]|rw[ah]
 refine QA (QJ (QBF ?_));refine QA (W6 (T:="StopIteration") (b:=true) ⟨_,QO _ rfl,rfl⟩ (by kernel_rfl) ?_);rw[if_pos rfl];exact QJ (q _ ((hs1.extBut.push _).push _))
theorem dY{v:Addr}{Q:OB}(hv:s.heap.IsItemsView v d)(hod:s.heap.get? d=some od)(hdd:od.data=.dict es ep)
  (q:Q (.ref s.heap.objs.size) { s with heap:=s.heap.push { cls:=.type "dict_itemiterator",data:=.fields #[.none,.bool false,.ref d,.int 0 0,.int es.size 0,.int ep 0,.none,.none] } }) :
  wpAny (model prog w) A (pyIter (.ref v)) Q E s:=by
 have hT:=Heap.IsItemsView.typeIs hv;obtain⟨ov,hov,hcv,hdv⟩:=id hv;refine Wm hT QAs (Qz QAs hT F.entry_dict_items_iter ?_ (F.args_dict_items_iter_1 _));show wpAny _ _ (bind _ _) _ _ _;refine QA (QJ (QA ?_));show wpAny _ _ (bind _ _) _ _ _;refine QA (wT hov hdv rfl (QJ (QA ?_)));show wpAny _ _ (bind _ _) _ _ _;refine QA (wI hod hdd (QA (WE hod hdd ?_)));simp only[oD,if_true];refine Qr (QJ ⟨_,rfl,"dict_itemiterator",_,⟨_,QO _ rfl,rfl⟩,qX.lookup,q⟩) (show _<=sizeLine+2 by simp[Builtin.Dict_items.ownedTupleFields,QV])
theorem bS{Q:OB}(hod:s.heap.get? d=some od)(hdd:od.cls=.type "dict")(hd:(d==sysModules)=false)
  (q:Q (.ref s.heap.objs.size) { s with heap:=s.heap.push { cls:=.type "dict_items",data:=.fields #[.ref d] } }):wpAny (model prog w) A (call (.builtin "dict.items") [.ref d]) Q E s:=by
 have hT:s.TypeIs (.ref d) "dict":=⟨_,hod,hdd⟩
 refine Qz F.slot_dict_items hT F.entry_dict_items ?_ (F.args_dict_items_1 _);show wpAny _ _ (bind _ _) _ _ _;refine QA ?_;show wpAny _ _ (bind _ _) _ _ _;refine QA (Wt hT ?_);refine QJ ?_;show wpAny _ _ ((if(d==sysModules)=true then _ else _) >>= _) _ _ _;rw[hd,if_neg QC];exact QA (QJ (QA (Qr (QJ ⟨_,rfl,q⟩) (show _<=sizeLine+2 by simp[QV]))))
theorem mU{κ:Type}[DecidableEq κ]{knd:HeapKind prog w κ}{d a:Addr}{xs:List (κ×Addr×Value)}{k:κ}{v:Value}{Q:OB}(hu:knd.room A)(hkey:knd.is s.heap k a)(hm:s.heap.DictOfH knd d xs)(hsz:xs.length<=sizeLine)
  (h1:∀p,atKey xs k=some p->Q p.2 { s with toks:=s.toks+knd.draws k })
  (h2:atKey xs k=none->∀h',h'.DictOfH knd d (storedH xs k a v)->qP d s.heap h'->Q v { s with heap:=h',toks:=s.toks+knd.draws k }) :
  wpAny (model prog w) A (dictSetDefault d (.ref a) v) Q E s:=by
 obtain⟨o,es,ep,ho,hc,hd,he,his,hn⟩:=id hm;have esz:es.size=xs.length:=by have:=congrArg qg he;simpa using this
 unfold dictSetDefault;refine qS (QA (knd.pyHash hu hkey (QA (wpAny_dictFind_heap hu hkey ho hd he his hn (fun hno=>?_) fun j p hj=>?_))));have hat:=atKey_none_of_get hno;have hnot:=not_mem_keys_of_get hno;refine QA (QAb (QA (wpAny_updateDictKeys ho hd (QJ (h2 hat _ ?_ (qK ..))) (by omega) (by simp))));refine⟨_,_,ep+1,Q0 _ ho (Obj.isFreed_of_dict (QA5 hd _)),Obj.ExactDict.mapDictKeys hc _,QA5 hd _,?_,?_,?_⟩;rw[QB2 hat];simp[he,entryOfKey];rw[QB2 hat];intro x hx;rcases Qf.mp hx with hx|hx;exact knd.keeps (his x hx) ho hd (qK ..);rw[QI.mp hx];exact knd.keeps hkey ho hd (qK ..);rw[QB2 hat,Qa];exact qb.mpr ⟨hn,by simp,fun x hx y hy e=>by rw[QN,qR,QI]at hy;rw[e,hy]at hx;exact hnot hx⟩;have hat:=atKey_of_get hn hj;have ej:es[j]?=some (entryOfKey knd (k,p)):=by
  have:es.toList[j]?=some (entryOfKey knd (k,p)):=by rw[he,Qc,hj];rfl
  simpa using this
 refine QA (wI ho hd ?_);rw[ej];exact QA (QAb (QJ (h1 p hat)))
theorem rQ{κ:Type}[DecidableEq κ]{knd:HeapKind prog w κ}{d a:Addr}{xs:List (κ×Addr×Value)}{k:κ}{v:Value}{Q:OB}(hu:knd.room A.in1)(hkey:knd.is s.heap k a)(hm:s.heap.DictOfH knd d xs)(hsz:xs.length<=sizeLine)(hd:(d==sysModules)=false)
  (h1:∀p,atKey xs k=some p->Q p.2 { s with toks:=s.toks+knd.draws k })
  (h2:atKey xs k=none->∀h',h'.DictOfH knd d (storedH xs k a v)->qP d s.heap h'->Q v { s with heap:=h',toks:=s.toks+knd.draws k }) :
  wpAny (model prog w) A (call (.builtin "dict.setdefault") [.ref d,.ref a,v]) Q E s:=by
 have hT:s.TypeIs (.ref d) "dict":=Heap.DictOfH.typeIs hm;refine Qz F.slot_dict_setdefault hT F.entry_dict_setdefault ?_ (F.args_dict_setdefault_3 _ _ _);show wpAny _ _ (bind _ _) _ _ _;refine QA ?_;show wpAny _ _ (bind _ _) _ _ _;refine QA (Wt hT ?_);refine QJ ?_;show wpAny _ _ (if(d==sysModules)=true then _ else _) _ _ _;rw[hd,if_neg QC];exact QA (mU hu hkey hm hsz (fun p hp=>QJ ⟨_,rfl,h1 p hp⟩) fun hn h' g1 g2=>QJ ⟨_,rfl,h2 hn h' g1 g2⟩)
end
end
def JJ(K:QF):V->List V->Hp->VK->Prop:=fun x vs H Q=>∃a b v ep kvs k,x=.ref a/\vs=[.ref b,v]/\H a=some (.dT ep kvs)/\EF K H kvs/\TC K H b (k.map kV)/\kvs.length<sizeLine /\
   (∀u,sG kvs k=some u->Q u H)/\(sG kvs k=none->∀ep',Q v (UA H a (.dT ep' (uK kvs k b v))))
theorem vV{X:Cx}(hu:X.A.units+66<cLine):Ub X "dict.setdefault" (JJ X.K):=by
 intro pins s σ H x xs v us Q I rx rs h;obtain⟨a,b,y,ep,kvs,k,rfl,rfl,e,hk,eb,l,q1,q2⟩:=h;cases rx;obtain⟨u,w',rfl,ru,rw'⟩:=Ib rs;cases ru;obtain⟨hz,hd,ys,rel,dd⟩:=vJ I e hk;have hl:(uK kvs k b y).length<=sizeLine:=by have:=UP kvs k b y;omega
 refine rQ (WA (by omega)) (XR I eb) dd (by rw[<- qJ rel];exact hz) hd (fun p hp=>?_) fun hn h' dd' hs=>?_;have rv:=rel.val k;rw[hp]at rv;cases ev:sG kvs k with
 |none=>rw[ev]at rv;exact(show False from rv).elim
 |some u=>rw[ev]at rv;exact⟨u,H,I.tok _,rv,q1 u ev⟩
 have rv:=rel.val k;rw[hn]at rv;cases ev:sG kvs k with
 |some u=>rw[ev]at rv;exact(show False from rv).elim
 |none=>obtain⟨ep',I'⟩:=zL (t':=_) I (by rw[e];exact True.intro) hd hl (rel.put k b rw') dd' hs;exact⟨y,_,I',rw',q2 ev ep'⟩
def Kk(ep n:Nat)(a:Addr):It :=
  ⟨fun i H=>∃kvs p,H a=some (.dT ep kvs)/\kvs.length=n/\kvs[i]?=some p,
   fun i H v H'=>∃q p,H q=none/\v=.ref q/\H'=UA H q (.tup [.ref p.2.1,p.2.2])/\∀kvs,H a=some (.dT ep kvs)->kvs[i]?=some p,
   fun i H=>∃kvs,H a=some (.dT ep kvs)/\kvs.length=n/\n<=i⟩
theorem OG{α β:Type}{R:α->β->Prop}:∀{l:List α}{m:List β}{i:Nat}{x:α},Paired R l m->l[i]?=some x->∃y,m[i]?=some y/\R x y
 |_,_,i,_,.nil,e=>by simp at e
 |_,_,0,_,.cons r _,e=>by simp at e;subst e;exact⟨_,rfl,r⟩
 |_,_,i+1,x,.cons _ t,e=>by obtain⟨y,h1,h2⟩:=OG (i:=i) (x:=x) t (by simpa using e);exact⟨y,by simpa using h1,h2⟩
theorem PQ{P:Program}{w:World}{K:QF}{es:List Expr}{kk:Nat}{pp:Pos}{a it:Addr}{n ep:Nat}:Turn0 P w K (.Tuple es kk pp) (Kk ep n a) [it] it (fun i h=>∃ok ov,IsItemIter h it a i n ep ok ov) where
 mem:=by simp
 obj:=fun i h st b hb=>by obtain⟨ok,ov,st⟩:=st;rw[QI]at hb;subst hb;exact⟨_,st,fun v q=>by cases(show Data.fields _=Data.cell v from q)⟩
 keep:=fun i h h' st k=>by obtain⟨ok,ov,st⟩:=st;exact⟨ok,ov,k it (by simp) _ st⟩
 item:=by
  intro X hP hw hK hc i pins s σ H E I hf st hg;subst hP hw hK;obtain⟨kvs,p,e,hn,ep⟩:=hg;obtain⟨ok,ov,st⟩:=st;obtain⟨z,y,xs,r,o,es',h1,h2,h3,h4,h5⟩:=(show xB X.prog X.w H s.heap a (.dT _ kvs) from I.hok a _ e)
  have hsz:es'.size=n:=by have:=congrArg qg h4;rw[QD,QT]at this;rw[this,<- qJ r,hn]
  obtain⟨q,hq,rq⟩:=OG r ep;have he:es'[i]?=some (entryOfKey (tupleKind (kB X.prog X.w)) q):=by
   have:es'.toList[i]?=some (entryOfKey (tupleKind (kB X.prog X.w)) q):=by rw[h4,Qc,hq];rfl
   simpa using this
  subst hsz;refine iX st h1 h3 he fun h' b1 b3 b4 b5=>⟨_,rfl,wpAny_letOwnedTupleGo_items b1 fun h'' c1 sb=>?_⟩
  have hp:=I.hok.fresh (QS s.heap.objs.size);have elt:it<s.heap.objs.size:=QR st;have old':∀b∈[it],b<s.heap.objs.size:=fun b hb=>by rw[QI]at hb;subst hb;exact elt
  have kept:∀b o,b∉[it]->s.heap.get? b=some o->h''.get? b=some o:=fun b o hb q=>by rw[QI]at hb;exact(sb.2 b hb).trans (b5 b o hb q)
  have pairAt:h''.get? s.heap.objs.size=some { cls:=.type "tuple",data:=.seq #[.ref q.2.1,q.2.2] }:=(sb.2 _ (wG elt)).trans b3;have I1:=I.pair (x:=.ref p.2.1) (y:=p.2.2) (h':=s.heap.push { cls:=.type "tuple",data:=.seq #[.ref q.2.1,q.2.2] }) (t':=s.toks) (fun b o e=>QH _ e) (QS _) (QO _ rfl) (show Value.ref q.2.1=Value.ref p.2.1 by rw[rq.2.1]) rq.2.2;have I2:=I1.turnedL (h':=h'') (t':=s.toks) (ch:=[it]) (fun b o hb e=>by
   rcases W8 e with⟨q1,q2⟩| q;subst q1 q2;exact pairAt;exact kept b o hb q) fun b hb=>by
   obtain⟨f0,f1,f2,f3,f4,f5⟩:=hf b hb;exact⟨by rw[vA (Qd (old' b hb))];exact f0,f1,f2,f3,f4,f5⟩
  refine⟨.ref s.heap.objs.size,_,I2,rfl,⟨s.heap.objs.size,p,hp,rfl,rfl,fun kvs' g1=>?_⟩,⟨_,_,c1⟩,fun b hb=>?_⟩;rw[e]at g1;cases g1;exact ep;rw[vA (Qd (old' b hb))];exact(hf b hb).1
 done:=by
  intro X hP hw hK hc i pins s σ H E I hf st hg;subst hP hw hK;obtain⟨kvs,e,hn,ep⟩:=hg;obtain⟨ok,ov,st⟩:=st;obtain⟨z,y,xs,r,o,es',h1,h2,h3,h4,h5⟩:=(show xB X.prog X.w H s.heap a (.dT _ kvs) from I.hok a _ e)
  have hsz:es'.size=n:=by have:=congrArg qg h4;rw[QD,QT]at this;rw[this,<- qJ r,hn]
  subst hsz;obtain⟨f0,f1,f2,f3,f4,f5⟩:=hf it (by simp);exact pN (I.ok.hd hc) st h1 h3 (QAt ep) fun h' eb=>⟨rfl,I.turned (t':=s.toks) (fun b o hb e=>eb b o hb e) f0 f1 f3 f4 f5⟩
section
variable{prog:Program}{w:World}{A:Around}{E:OB}{s:Shared}
section
variable{d it:Addr}{od:Obj}{es:Array DictEntry}{ep i:Nat}{Q:Option Value->Shared->Prop}
theorem uG:QAB "dict_keyiterator"=false:=by decide +kernel
theorem v4{Q:OB}(hz:(d==sysModules)=false)(hod:s.heap.get? d=some od)(hc:od.cls=.type "dict")(hdd:od.data=.dict es ep)
  (q:Q (.ref s.heap.objs.size) { s with heap:=s.heap.push { cls:=.type "dict_keyiterator",data:=.fields #[.ref d,.int 0 0,.int es.size 0,.int ep 0] } }) :
  wpAny (model prog w) A (pyIter (.ref d)) Q E s:=by
 have hT:s.TypeIs (.ref d) "dict":=⟨_,hod,hc⟩
 refine Wm hT QBw (Qz QBw hT F.entry_dict_iter ?body (F.args_dict_iter_1 _))
 case body =>
  show wpAny _ _ (bind _ _) _ _ _;refine QA ?sl
  case sl =>
   show wpAny _ _ (bind _ _) _ _ _;refine QA (Wt hT (QJ ?go))
   case go =>
    have e:Wu d=pure PUnit.unit:=by unfold Wu;rw[hz];rfl
    show wpAny _ _ (Wu d >>= _) _ _ _;rw[e];refine QA (QJ (QA (wI hod hdd (QA (WE hod hdd (QA (Qr (QJ ⟨_,rfl,"dict_keyiterator",_,⟨_,QO _ rfl,rfl⟩,qf.lookup,?_⟩))))))));simpa[rawInt]using q
theorem E2{e:DictEntry}
  (hit:s.heap.IsKeyIter it d i es.size ep) (hod:s.heap.get? d=some od) (hdd:od.data=.dict es ep) (hx:es[i]?=some e)
  (q:∀h',h'.IsKeyIter it d (i+1) es.size ep->qP it s.heap h'->Q (some e.key) { s with heap:=h' }) :
  wpAny (model prog w) A (pyNext (.ref it)) Q E s:=by
 have hT:=hit.typeIs;obtain⟨oi,hi,hci,hdi⟩:=id hit;show wpAny _ _ (bind _ _) _ _ _;refine QA (WZ (qB hT qf (Qz qf hT W7 ?_ (Wv _))));show wpAny _ _ (bind _ _) _ _ _;refine QA (QJ (QA (QA (QA (wC hT (QJ (QA (WN hi hdi ?_))))))));rw[uG];show wpAny _ _ (if(Value.ref d==Value.none)=true then _ else _) _ _ _;rw[if_neg (show ¬ (Value.ref d==Value.none)=true from QC)];show wpAny _ _ (wX (.ref d) >>= _) _ _ _;refine QA (QJ (QA (wI hod hdd ?_)));rw[if_neg (show ¬ (((es.size:Nat):Int) != ((es.size:Nat):Int))=true by simp)];refine QA (QJ (QA (WE hod hdd ?_)));rw[if_neg (show ¬ (((ep:Nat):Int) != ((ep:Nat):Int))=true by simp)];refine QJ ?_;have h0:(if((i:Nat):Int)<0 then none else es[((i:Nat):Int).toNat]?)=some e:=by rw[if_neg (by omega),wf];exact hx
 simp only[h0];refine QA ?_;show wpAny _ _ (typeNameOfWhole (.ref it) >>= _) _ _ _;refine QA (wC hT (QJ (QA (QAy hT ?_))));rw[uG];show wpAny _ _ (setField (.ref it) 1 _ >>= _) _ _ _;refine QA (qw hi hdi (by simp) ?_);have hit':(s.heap.update it (qY (·.setIfInBounds 1 (rawInt ((i:Int)+1))))).IsKeyIter it d (i+1) es.size ep :=
  ⟨_,Q0 _ hi (qd (Q3 hdi _)),(WJ ..).trans hci,by rw[Q3 hdi];simp[rawInt]⟩
 refine QA (qS (QA (QAy (s:={ s with heap:=s.heap.update it (qY (·.setIfInBounds 1 (rawInt ((i:Int)+1)))) }) hit'.typeIs ?_)));show wpAny _ _ (pure e.key) _ _ _;exact QJ (QJ ⟨_,rfl,QJ (q _ hit' (qK ..))⟩)
theorem mP(ah:A.handled=none)
  (hit:s.heap.IsKeyIter it d i es.size ep) (hod:s.heap.get? d=some od) (hdd:od.data=.dict es ep) (hx:es[i]?=none)
  (q:∀h',QAk it s.heap h'->Q none { s with heap:=h' }) :
  wpAny (model prog w) A (pyNext (.ref it)) Q E s:=by
 have hT:=hit.typeIs;obtain⟨oi,hi,hci,hdi⟩:=id hit;show wpAny _ _ (bind _ _) _ _ _;refine QA (WZ (qB hT qf (Qz qf hT W7 ?_ (Wv _))));show wpAny _ _ (bind _ _) _ _ _;refine QA (QJ (QA (QA (QA (wC hT (QJ (QA (WN hi hdi ?_))))))));rw[uG];show wpAny _ _ (if(Value.ref d==Value.none)=true then _ else _) _ _ _;rw[if_neg (show ¬ (Value.ref d==Value.none)=true from QC)];show wpAny _ _ (wX (.ref d) >>= _) _ _ _;refine QA (QJ (QA (wI hod hdd ?_)));rw[if_neg (show ¬ (((es.size:Nat):Int) != ((es.size:Nat):Int))=true by simp)];refine QA (QJ (QA (WE hod hdd ?_)));rw[if_neg (show ¬ (((ep:Nat):Int) != ((ep:Nat):Int))=true by simp)];refine QJ ?_;have h0:(if((i:Nat):Int)<0 then none else es[((i:Nat):Int).toNat]?)=none:=by rw[if_neg (by omega),wf];exact hx
 simp only[h0];refine QA ?_;show wpAny _ _ (typeNameOfWhole (.ref it) >>= _) _ _ _;refine QA (wC hT (QJ ?_));rw[uG];show wpAny _ _ (setField (.ref it) 0 .none >>= _) _ _ _;refine QA (qw hi hdi (by simp) ?_);refine QA (m:=newExc (.type "StopIteration") []) ?_;simp only[newExc,newTuple];refine QA (Qr ?made (by size_fits));refine QA (m:=firstArgMember _ _) (WV (a:=Value.none) (by first|rfl | (rw[firstArgMember];rfl)) ?arg);refine Qr ?made2 (by size_fits);simp only[raiseNew];refine QA (QAl ?_);first|rw[show A.in1.handled=none from ah]|rw[ah]
 refine QA (QJ (QBF ?_));refine QA (W6 (T:="StopIteration") (b:=true) ⟨_,QO _ rfl,rfl⟩ (by kernel_rfl) ?_);rw[if_pos rfl];exact QJ (q _ (((qK ..).extBut.push _).push _))
end
end
def Xk(ep n:Nat)(a:Addr):It :=
  ⟨fun i H=>∃kvs p,H a=some (.dT ep kvs)/\kvs.length=n/\kvs[i]?=some p,
   fun i H v H'=>H'=H/\∀kvs,H a=some (.dT ep kvs)->∃p,kvs[i]?=some p/\v=.ref p.2.1,
   fun i H=>∃kvs,H a=some (.dT ep kvs)/\kvs.length=n/\n<=i⟩
theorem tU{P:Program}{w:World}{K:QF}{tg:Expr}{a it:Addr}{n ep:Nat}:Turn P w K tg (Xk ep n a) [it] it (fun i h=>h.IsKeyIter it a i n ep) where
 mem:=by simp
 obj:=fun i h st b hb=>by obtain⟨o,e,c,d⟩:=st;rw[QI]at hb;subst hb;exact⟨o,e,fun v z=>by rw[d]at z;cases z⟩
 keep:=fun i h h' st k=>st.at fun o e=>k it (by simp) o e
 item:=by
  intro X hP hw hK hc i pins s σ H E I hf st hg;subst hP hw hK;obtain⟨kvs,p,e,hn,ep⟩:=hg;obtain⟨z,y,xs,r,o,es',h1,h2,h3,h4,h5⟩:=(show xB X.prog X.w H s.heap a (.dT _ kvs) from I.hok a _ e)
  have hsz:es'.size=n:=by have:=congrArg qg h4;rw[QD,QT]at this;rw[this,<- qJ r,hn]
  obtain⟨q,hq,rq⟩:=OG r ep;have he:es'[i]?=some (entryOfKey (tupleKind (kB X.prog X.w)) q):=by
   have:es'.toList[i]?=some (entryOfKey (tupleKind (kB X.prog X.w)) q):=by rw[h4,Qc,hq];rfl
   simpa using this
  subst hsz;obtain⟨f0,f1,f2,f3,f4,f5⟩:=hf it (by simp);refine E2 st h1 h3 he fun h' st' sb=>?_;have I1:Inv X pins σ H { s with heap:=h' }:=I.turned (t':=s.toks) (fun b o hb e=>(sb.2 b hb).trans e) f0 f1 f3 f4 f5;obtain⟨oi,ei,ci,di⟩:=id st';exact⟨_,rfl,PP (s:={ s with heap:=h' }) ei ci di (by decide) ⟨.ref p.2.1,H,I1,show Value.ref q.2.1=Value.ref p.2.1 by rw[rq.2.1],⟨rfl,fun ks hk=>by rw[e]at hk;cases hk;exact⟨p,ep,rfl⟩⟩,st',fun b hb=>(hf b hb).1⟩⟩
 done:=by
  intro X hP hw hK hc i pins s σ H E I hf st hg;subst hP hw hK;obtain⟨kvs,e,hn,ep⟩:=hg;obtain⟨z,y,xs,r,o,es',h1,h2,h3,h4,h5⟩:=(show xB X.prog X.w H s.heap a (.dT _ kvs) from I.hok a _ e)
  have hsz:es'.size=n:=by have:=congrArg qg h4;rw[QD,QT]at this;rw[this,<- qJ r,hn]
  subst hsz;obtain⟨f0,f1,f2,f3,f4,f5⟩:=hf it (by simp);exact mP (I.ok.hd hc) st h1 h3 (QAt ep) fun h' eb=>⟨rfl,I.turned (t':=s.toks) (fun b o hb e=>eb b o hb e) f0 f1 f3 f4 f5⟩
 self:=fun _ _ _ _ _ st h=>wpAny_pyIter_keyiter st h
open PySem.SeqAt
open AutoSeq1 (wpAny_loadPart')
open MeetsSeq MeetsSeq2 MeetsSeq3
def Kb:List Str->List Str->Bool
 |[],[]=>false
 |[],_::_=>true
 |_::_,[]=>false
 |x::a,y::b=>if(x==y)=true then Kb a b else decide (x.cps.toList<y.cps.toList)
theorem OM{vs:List Value}{ss:List Str}(h:StrsAre vs ss):vs.length=ss.length/\∀(i:Nat) (x:Str),ss[i]?=some x->∃t:Tok,vs[i]?=some (Value.str x t):=by
 induction h with
 |nil=>exact⟨rfl,fun i x e=>by simp at e⟩
 |cons y t _ ih =>
  refine⟨by rw[QL,QL,ih.1],fun i x e=>?_⟩;cases i with
  |zero=>simp at e;subst e;exact⟨t,rfl⟩
  |succ i=>simp at e;simpa using ih.2 i x e
theorem bV(l b:Addr)(items items2:Array Value)(n n2:Nat)(dd dd2:Option Addr)(sl sl2:Array (Option Value))(ss ts:List Str)(h1:StrsAre items.toList ss)(h2:StrsAre items2.toList ts)(k:Nat) :
  ∀i:Nat,items.size - i=k->i<=items.size->i<=items2.size->Meets (Builtin.«list.__eq__.loop» ⟨[.ref l,.ref b,rawInt i,rawInt 0],[]⟩)
   (fun A R s=>s.heap.get? l=some { cls:=.type "list",dict:=dd,data:=.seq items n,slots:=sl }/\s.heap.get? b=some { cls:=.type "list",dict:=dd2,data:=.seq items2 n2,slots:=sl2 } /\
    R (.ok (.ret (.bool (Kb (ss.drop i) (ts.drop i))))) s):=by
 obtain⟨a1,a2⟩:=OM h1;obtain⟨b1,b2⟩:=OM h2;rw[QT]at a1 b1;induction k with
 |zero =>
  intro i hk hi hi2 prog w A R s h;obtain⟨hp,g,d,tk,os⟩:=s;obtain⟨hl,hb,h⟩:=h;wp_walk using qG hl,qG hb;have e1:items[((i:Nat):Int).toNat]?=none:=by simp;omega
  rw[e1];wp_walk using qG hl,qG hb;have d1:ss.drop i=[]:=by simp;omega
  rw[d1]at h;have e2:Kb [] (ts.drop i)=decide (items.size<items2.size):=by
   cases z:ts.drop i with
   |nil =>
    have:ts.length<=i:=by simpa using z
    exact(dF (by omega)).symm
   |cons y r =>
    have:i<ts.length:=by by_cases c:i<ts.length;exact c;rw[w9 (by omega)]at z;cases z
    exact(dT (by omega)).symm
  rw[e2]at h;exact h
 |succ k ih =>
  intro i hk hi hi2 prog w A R s h;obtain⟨hp,g,d,tk,os⟩:=s;obtain⟨hl,hb,h⟩:=h;wp_walk using qG hl,qG hb;have hlt:i<ss.length:=by omega
  obtain⟨t,ev⟩:=a2 i ss[i] (Qx hlt);have e1:items[((i:Nat):Int).toNat]?=some (.str ss[i] t):=by simpa using ev
  rw[e1];have d1:ss.drop i=ss[i]::ss.drop (i+1):=WO hlt;rw[d1]at h;by_cases c:i<ts.length;obtain⟨u,eu⟩:=b2 i ts[i] (Qx c);have e2:items2[((i:Nat):Int).toNat]?=some (.str ts[i] u):=by simpa using eu
  have d2:ts.drop i=ts[i]::ts.drop (i+1):=WO c;rw[d2]at h;have h:R (.ok (.ret (.bool (if(ss[i]==ts[i])=true then Kb (ss.drop (i+1)) (ts.drop (i+1)) else decide (ss[i].cps.toList<ts[i].cps.toList))))) _:=h;rw[e2];refine QA (EqAt.str_str ss[i] t ts[i] u prog w _ _ ?_);have hc:((i:Int)+1)=((i+1:Nat):Int):=by push_cast;rfl
  cases q:(ss[i]==ts[i]) with
  |true=>rw[q,if_pos rfl]at h;wp_walk;rw[hc];exact⟨Wa plain_eq_loop _,wM entry_eq_loop (by rw[qj plain_eq_loop _];exact ih (i+1) (by omega) (by omega) (by omega) prog w A R _ ⟨hl,hb,h⟩)⟩
  |false=>rw[q,if_neg QC]at h;wp_walk using qG hl,qG hb;rw[e1,e2];show wpAny _ _ (compareOp .Lt (.str ss[i] t) (.str ts[i] u) >>= _) _ _ _;refine QA (PySem.P.lt_str ?_);exact QJ h
  have e2:items2[((i:Nat):Int).toNat]?=none:=by simp;omega
  rw[e2];wp_walk using qG hl,qG hb;rw[w9 (show ts.length<=i by omega)]at h;have:decide (items.size<items2.size)=false:=dF (by omega);have h:R (.ok (.ret (.bool false))) _:=h;rw[<- this]at h;exact h
theorem fV(l b:Addr)(items items2:Array Value)(n n2:Nat)(dd dd2:Option Addr)(sl sl2:Array (Option Value))(ss ts:List Str)(h1:StrsAre items.toList ss)(h2:StrsAre items2.toList ts) :
  Meets (Builtin.«list.__lt__» ⟨[.ref l,.ref b],[]⟩)
   (fun A R s=>s.heap.get? l=some { cls:=.type "list",dict:=dd,data:=.seq items n,slots:=sl }/\s.heap.get? b=some { cls:=.type "list",dict:=dd2,data:=.seq items2 n2,slots:=sl2 } /\
    R (.ok (.ret (.bool (Kb ss ts)))) s):=by
 intro prog w A R s h;obtain⟨hp,g,d,tk,os⟩:=s;obtain⟨hl,hb,h⟩:=h;have f3:=AutoSeq1.sub_list_list;wp_walk using qG hl,qG hb;exact⟨Wa plain_eq_loop _,wM entry_eq_loop (by rw[qj plain_eq_loop _];exact bV l b items items2 n n2 dd dd2 sl sl2 ss ts h1 h2 _ 0 rfl (Qy _) (Qy _) prog w A R _ ⟨hl,hb,h⟩)⟩
section
variable{prog:Program}{w:World}{A:Around}{E:OB}{s:Shared}
theorem dR{l b:Addr}{items items2:Array Value}{n n2:Nat}{dd dd2:Option Addr}{sl sl2:Array (Option Value)}{ss ts:List Str}{Q:Bool->Shared->Prop}(hu:A.units<cLine)(hl:s.heap.get? l=some { cls:=.type "list",dict:=dd,data:=.seq items n,slots:=sl })(hb:s.heap.get? b=some { cls:=.type "list",dict:=dd2,data:=.seq items2 n2,slots:=sl2 })
  (h1:StrsAre items.toList ss) (h2:StrsAre items2.toList ts) (h:Q (Kb ss ts) s):wpAny (model prog w) A (keyLt' oneType' (.ref l) (.ref b)) Q E s:=by
 rw[keyLt'_oneType,oneLt'_eq];simp only[if_true];refine QA (wpAny_cRoomFor hu (QA (wpAny_callSpecialIfBound?_slot (T:="list") ⟨_,hl,rfl⟩ F.slot_list_lt ?_)));refine QAZ F.slot_list_lt ⟨_,hl,rfl⟩ F.entry_list_lt (F.args_list_lt_2 _ _) (fV l b items items2 n n2 dd dd2 sl sl2 ss ts h1 h2) ⟨hl,hb,?_⟩;exact wZ h
end
end L2.L3
namespace L2.L3
open PySem PySem.Spec PyProof.Rows PySem.W
def AC{α:Type}(n:Nat)(P:α->Prop):KasT α->Prop
 | .ret a=>P a
 | .ask i j k=>i<n/\j<n/\∀b,AC n P (k b)
theorem AC.bnd{α β:Type}{n:Nat}{P:α->Prop}{R:β->Prop}{f:α->KasT β}(hf:∀a,P a->AC n R (f a)):∀{t:KasT α},AC n P t->AC n R (t.bind f)
 | .ret a,h=>hf a h
 | .ask i j k,⟨h1,h2,h⟩=>⟨h1,h2,fun b=>AC.bnd hf (h b)⟩
theorem AC.wp{α:Type}{n:Nat}{P:α->Prop}{cmp:Nat->Nat->(Bool->Shared->Prop)->Shared->Prop}{Q:α->Shared->Prop}{s:Shared}(ask:∀i j,i<n->j<n->∀C:Bool->Shared->Prop,(∀b,C b s)->cmp i j C s)(hQ:∀a,P a->Q a s):∀{t:KasT α},AC n P t->t.kasWp cmp Q s
 | .ret a,h=>hQ a h
 | .ask i j k,⟨h1,h2,h⟩=>ask i j h1 h2 _ fun b=>AC.wp ask hQ (h b)
def Pm(n:Nat)(p:Array Nat):Prop:=p.Perm (wn (Q5 n))
section
variable{n:Nat}
section
variable{p:Array Nat}
theorem Pm.lt(h:Pm n p)(h0:0<n)(i:Nat):p.getD i 0<n:=by
 by_cases c:i<p.size;have e:p.getD i 0=p[i]:=by simp[QBa,c]
 rw[e];have m:p[i]∈p.toList:=by simp
 have:=(ql.mp h).mem_iff.mp m;simpa using this;have e:p.getD i 0=0:=by simp[QBa,c]
 rw[e];exact h0
theorem Pm.rev(h:Pm n p)(i j:Nat):Pm n (kas_rev p i j):=(mirror_perm _ _ _ _).trans h
theorem lO{p:Array Nat}(h:Pm n p)(h0:0<n):∀(f m:Nat),AC n (fun _=>True) (kas_asc p f m)
 |0,m=>trivial
 |f+1,m=>⟨h.lt h0 _,h.lt h0 _,fun b=>by
  cases b with
  |true=>exact trivial
  |false=>exact lO h h0 f (m+1)⟩
theorem AH(h0:0<n):∀(f:Nat) {p:Array Nat}(h:Pm n p) (m q:Nat),AC n (fun r=>Pm n r.1) (kas_desc f p m q)
 |0,p,h,m,q=>h
 |f+1,p,h,m,q=>⟨h.lt h0 _,h.lt h0 _,fun b=>by
  cases b with
  |true=>show AC n _ (if q > 0 then _ else _);split;exact AH h0 f (h.rev _ _) _ _;exact AH h0 f h _ _
  |false =>
   refine⟨h.lt h0 _,h.lt h0 _,fun b=>?_⟩;cases b with
   |true=>exact h
   |false=>exact AH h0 f h _ _⟩
theorem XM(h0:0<n)(h:Pm n p)(a b:Nat):AC n (fun r=>Pm n r.2) (kas_tail3 a b p):=by refine AC.bnd (f:=fun m=>.ret (m,kas_rev p 0 a)) (fun m _=>?_) (lO (h.rev _ _) h0 _ _);exact h.rev _ _
theorem TH(h0:0<n)(h:Pm n p)(a b:Nat):AC n (fun r=>Pm n r.2) (kas_descPart a b p):=by refine AC.bnd (fun r hr=>?_) (AH h0 _ h _ _);split;exact XM h0 (Pm.rev hr _ _) _ _;exact XM h0 hr _ _
theorem GV(h0:0<n)(h:Pm n p)(b:Nat):AC n (fun r=>Pm n r.2) (kas_count b p):=by
 refine AC.bnd (fun m _=>?_) (lO h h0 _ _);split;exact h;split
 ·refine⟨h.lt h0 _,h.lt h0 _,fun c=>?_⟩
  cases c with
  |true=>exact h
  |false=>exact TH h0 (h.rev _ _) _ _
 exact TH h0 h _ _
theorem NI(h0:0<n){p:Array Nat}(h:Pm n p)(k:Nat):∀(f l r:Nat),AC n (fun _=>True) (kas_place p k f l r)
 |0,l,r=>trivial
 |f+1,l,r=>by
  show AC n _ (if l ≥ r then _ else _);split;exact trivial;refine⟨h.lt h0 _,h.lt h0 _,fun b=>?_⟩;cases b with
  |true=>exact NI h0 h k f _ _
  |false=>exact NI h0 h k f _ _
theorem kU(h0:0<n):∀(f:Nat) {p:Array Nat}(h:Pm n p) (k:Nat),AC n (Pm n) (kas_bin f p k)
 |0,p,h,k=>h
 |f+1,p,h,k=>AC.bnd (fun l _=>kU h0 f ((bubble_perm _ _ _).trans h) _) (NI h0 h _ _ _ _)
theorem kZ(h0:0<n):AC n (Pm n) (kas_sort n):=by refine AC.bnd (fun r hr=>?_) (GV h0 (QAz _) _);split;exact kU h0 _ hr _;exact hr
end
end
theorem lI{α:Type}(vs:List α)(d:α):(Q5 vs.length).map (fun i=>vs.getD i d)=vs:=by apply wg;intro i;rw[Qc];by_cases c:i<vs.length;rw[QBG c];simp[c];rw[qH (by simp;omega),qH (by omega)];rfl
section
variable{prog:Program}{w:World}{A:Around}{E:OB}{s:Shared}
section
variable{vs:List Value}{R:Array Nat->Prop}{l:Addr}{Q:OB}
theorem ye{M:Model}{Q:SortKind->Shared->Prop}(h2:2<=vs.length)(hT:∀v∈vs,s.TypeIs v "list")(h:Q oneType' s):wpAny M A (keyKind' vs.toArray) Q E s:=by
 cases vs with
 |nil=>simp at h2
 |cons v r =>
  rw[keyKind'_eq,QBb,map_eq_pure_bind];refine QA (QA (kas_mapM (r:=none) _ (fun u hu Q' q=>?_) (QJ ?_)));rw[kas_first_eq];exact QA (QAQ (hT u hu) (QJ q));rw[if_neg (by simp),if_neg (by simp),oneTypeOnly'_eq,QBb,map_eq_pure_bind];refine QA (QA (QA (kas_mapM (r:=.type "list") _ (fun u hu Q' q=>QAQ (hT u hu) q) (QJ ?_))));have e0:((v::r).map fun _=>Value.type "list").toArray[0]?=some (.type "list"):=by simp
  have e1:(((v::r).map fun _=>Value.type "list").toArray.all fun x=>x==Value.type "list")=true:=by simp only[List.all_toArray,QBn,qF];intro _ _;rfl
  rw[e0];simp only[e1,if_true];exact QJ (QJ h)
theorem x9{κ:SortKind}{a:Addr}{n:Nat}{P:QCF->Shared->Prop}(ho:s.heap.get? a=some (seqObj "list" vs.toArray n))(h64:vs.length<64)
  (kind:2<=vs.length->∀h3:Heap,(∀b o,b≠a->s.heap.get? b=some o->h3.get? b=some o)->∀Q:SortKind->Shared->Prop,Q κ { s with heap:=h3 }->wpAny (model prog w) A (keyKind' vs.toArray) Q E { s with heap:=h3 })
  (tree:2<=vs.length->∀h3:Heap,(∀b o,b≠a->s.heap.get? b=some o->h3.get? b=some o)->(kas_sort vs.length).kasWp (kas_ask prog w A κ vs) (fun p s'=>s'={ s with heap:=h3 }/\Pm vs.length p/\R p) { s with heap:=h3 })
  (few:vs.length<2->R (wn (Q5 vs.length)))
  (k:∀p:Array Nat,Pm vs.length p->R p->P (.done (.ret .none)) { s with heap:=sortedHeap s.heap a vs (p.toList.map fun i=>vs.getD i Value.none).toArray }):wpAny (model prog w) A (Builtin.«list.sort» ⟨[.ref a],[]⟩) P E s:=by
 have hz:sizeLine=16777216:=QV;have ha:a<s.heap.objs.size:=QR ho;have s1:=qK s.heap a (qM fun _=>(#[]:Array Value));obtain⟨e1,ho1⟩:∃e1,(s.heap.update a (qM fun _=>(#[]:Array Value))).get? a=some (seqObj "list" #[] e1):=⟨_,get?_update_seq ho fun _=>#[]⟩
 have ho6:(((s.heap.update a (qM fun _=>(#[]:Array Value))).push (seqObj "tuple" vs.toArray 0)).push (seqObj "list" #[] 0)).get? a=some (seqObj "list" #[] e1):=QH _ (QH _ ho1);have kept:∀b o,b≠a->s.heap.get? b=some o->(((s.heap.update a (qM fun _=>(#[]:Array Value))).push (seqObj "tuple" vs.toArray 0)).push (seqObj "list" #[] 0)).get? b=some o:=fun b o hb e=>QH _ (QH _ ((s1.2 b hb).trans e));rw[list_sort_plain];refine QA (listItems_at ho rfl (QA (listUpdate_at ho rfl ?_ (by rw[QU];omega) (Qy _))));refine QA (seqEpoch_at ho1 rfl (QA (QBA ?_ (by show vs.length<=_;omega))));refine QA (QBR (qS ?_) (Qy _));show wpAny (model prog w) A _ P E { s with heap:=((s.heap.update a (qM fun _=>(#[]:Array Value))).push (seqObj "tuple" vs.toArray 0)).push (seqObj "list" #[] 0) };dsimp only;have fin:∀p:Array Nat,Pm vs.length p->R p->wpAny (model prog w) A (do
   let touched:=(<- seqEpoch a) != e1
   Builtin.List.listUpdate (.ref a) fun _=>(p.toList.map fun i=>vs.getD i Value.none).toArray
   if touched then rule "list.sort.modified";raiseError "ValueError" "list modified during sort"
   ret .none) P E { s with heap:=((s.heap.update a (qM fun _=>(#[]:Array Value))).push (seqObj "tuple" vs.toArray 0)).push (seqObj "list" #[] 0) }:=fun p hp hR=>by
  have hl:p.toList.length=vs.length:=by have:=hp.size_eq;simpa using this
  refine QA (seqEpoch_at ho6 rfl (QA (listUpdate_at ho6 rfl ?_ (Qy _) (by rw[QU,QD];omega))));simp only[bne_self_eq_false,qT,if_false];exact QJ (k p hp hR)
 by_cases h2:vs.length<2;have h2':vs.toArray.size<2:=by rw[QU];exact h2
 rw[if_pos h2',if_pos h2'];refine QA (QJ ?_);rw[StateT.run_pure];refine QA (QJ ?_);have e:(arrOf (QBc general' (vs.toArray.zip vs.toArray) #[] 7 none)).map (·.2)=vs.toArray:=by show(vs.toArray.zip vs.toArray).map (·.2)=_;apply W0.mp;simp[W5]
 dsimp only;rw[e];have r:=fin (wn (Q5 vs.length)) (QAz _) (few h2);rw[show((wn (Q5 vs.length)).toList.map fun i=>vs.getD i Value.none)=vs from lI vs Value.none]at r;exact r;have h2':¬ vs.toArray.size<2:=by rw[QU];exact h2
 rw[if_neg h2',if_neg h2'];refine QA (kind (by omega) _ kept _ ?_);have est:QBc κ (vs.toArray.zip vs.toArray) #[] 7 none=kas_st κ (pairsOf vs) (wn (Q5 vs.length)):=by have e:=kas_range (pairsOf vs);rw[pairsOf_size]at e;show QBc κ (pairsOf vs) #[] 7 none=QBc κ ((wn (Q5 vs.length)).map (kas_item (pairsOf vs))) #[] 7 none;rw[e]
 have tree:=tree (by omega) _ kept;rw[kas_ask_eq]at tree;have run:=kas_runs (prog:=prog) (w:=w) (A:=A) (E:=E) (Q:=fun _ st' s'=>∃p:Array Nat,p.size=vs.length/\arrOf st'=p.map (kas_item (pairsOf vs))/\failedOf st'=none/\s'={ s with heap:=((s.heap.update a (qM fun _=>(#[]:Array Value))).push (seqObj "tuple" vs.toArray 0)).push (seqObj "list" #[] 0) }/\Pm vs.length p/\R p)
  (by omega) h64 (fun p' st' s' a1 a2 a3 a4=>⟨p',a1,a2,a3,a4⟩) tree
 rw[<- est]at run;refine QA (wN run ?_ fun _ _ e=>e);rintro⟨⟨⟩,st'⟩ s' ⟨p,hp,har,hf,rfl,pm,hR⟩;dsimp only;have hout:(arrOf st').map (·.2)=wn (p.toList.map fun i=>vs.getD i Value.none):=by apply W0.mp;rw[har,Array.map_map,Array.toList_map];exact qu fun i _=>by show(kas_item (pairsOf vs) i).2=_;rw[kas_item_eq]
 rw[hout,hf];exact fin p pm hR
theorem BS{κ:SortKind}(hl:s.heap.IsList l vs.toArray)(h64:vs.length<64)
  (kind:2<=vs.length->∀h3:Heap,(∀b o,s.heap.get? b=some o->h3.get? b=some o)->∀Q:SortKind->Shared->Prop,Q κ { s with heap:=h3 }->wpAny (model prog w) A.in1.in1 (keyKind' vs.toArray) Q E { s with heap:=h3 })
  (tree:2<=vs.length->∀h3:Heap,(∀b o,s.heap.get? b=some o->h3.get? b=some o)->(kas_sort vs.length).kasWp (kas_ask prog w A.in1.in1 κ vs) (fun p s'=>s'={ s with heap:=h3 }/\Pm vs.length p/\R p) { s with heap:=h3 })
  (few:vs.length<2->R (wn (Q5 vs.length)))
  (k:∀p:Array Nat,Pm vs.length p->R p->Q (.ref (s.heap.objs.size+1)) { s with heap:=sortedAll s.heap vs (p.toList.map fun i=>vs.getD i Value.none).toArray }):wpAny (model prog w) A (call (.builtin "sorted") [.ref l]) Q E s:=by
 have hz:sizeLine=16777216:=QV;refine QAV kind_sorted plain_sorted entry_sorted (args_sorted1 _) ?_;unfold Builtin.«sorted»;refine QA (m:=checkCount "sorted" 1 1 _) (QJ (QA (collect_list hl ?_ (by omega))));refine QA (QBR ?_ (by show vs.length<=_;omega));have hsz:((s.heap.push (seqObj "list" #[] 0)).update s.heap.objs.size (qM (·++vs.toArray))).objs.size=s.heap.objs.size+1:=by rw[Heap.size_update,size_push']
 have hoL:(((s.heap.push (seqObj "list" #[] 0)).update s.heap.objs.size (qM (·++vs.toArray))).push (seqObj "list" vs.toArray 0)).get? (s.heap.objs.size+1)=some (seqObj "list" vs.toArray 0):=by rw[<- hsz];exact QO _ rfl
 have old:∀b o,s.heap.get? b=some o->(((s.heap.push (seqObj "list" #[] 0)).update s.heap.objs.size (qM (·++vs.toArray))).push (seqObj "list" vs.toArray 0)).get? b=some o:=fun b o q=>by have hlt:b<s.heap.objs.size:=QR q;refine QH _ ?_;rw[Heap.get?_update_ne _ _ _ _ (Qd hlt)];exact QH _ q
 show wpAny _ _ _ _ _ { s with heap:=((s.heap.push (seqObj "list" #[] 0)).update s.heap.objs.size (qM (·++vs.toArray))).push (seqObj "list" vs.toArray 0) };rw[hsz];refine QA (qS (Qz slot_list_sort ⟨_,hoL,rfl⟩ entry_list_sort ?body (args_list_sort _)))
 case body=>have up:∀h3:Heap,(∀b o,b≠s.heap.objs.size+1->(((s.heap.push (seqObj "list" #[] 0)).update s.heap.objs.size (qM (·++vs.toArray))).push (seqObj "list" vs.toArray 0)).get? b=some o->h3.get? b=some o)->∀b o,s.heap.get? b=some o->h3.get? b=some o:=fun h3 kp b o q=>kp b o (Qd (qt (QR q))) (old b o q);exact x9 (s:={ s with heap:=((s.heap.push (seqObj "list" #[] 0)).update s.heap.objs.size (qM (·++vs.toArray))).push (seqObj "list" vs.toArray 0) }) hoL h64 (fun h2 h3 kp=>kind h2 h3 (up h3 kp)) (fun h2 h3 kp=>tree h2 h3 (up h3 kp)) few fun p hp hR=>⟨_,rfl,QJ ⟨_,rfl,k p hp hR⟩⟩
theorem G0{p:Array Nat}(h:Pm vs.length p):(p.toList.map fun i=>vs.getD i Value.none).Perm vs:=by refine((ql.mp h).map fun i=>vs.getD i Value.none).trans ?_;show((Q5 vs.length).map fun i=>vs.getD i Value.none).Perm vs;rw[lI]
theorem SZ(hl:s.heap.IsList l vs.toArray)(h64:vs.length<64)(hT:∀v∈vs,∃b o,v=.ref b/\s.heap.get? b=some o/\o.cls=.type "list")
  (ask:∀h3:Heap,(∀b o,s.heap.get? b=some o->h3.get? b=some o)->∀x∈vs,∀y∈vs,∀C:Bool->Shared->Prop,(∀k,C k { s with heap:=h3 })->wpAny (model prog w) A.in1.in1 (keyLt' oneType' x y) C (fun _ _=>False) { s with heap:=h3 })
  (k:∀out:List Value,out.Perm vs->Q (.ref (s.heap.objs.size+1)) { s with heap:=sortedAll s.heap vs out.toArray }):wpAny (model prog w) A (call (.builtin "sorted") [.ref l]) Q E s:=by
 refine BS (κ:=oneType') (R:=fun _=>True) hl h64 (fun h2 h3 kp Q q=>ye h2 (fun v hv=>?_) q) (fun h2 h3 kp=>?_) (fun _=>trivial) fun p hp _=>k _ (G0 hp);obtain⟨b,o,rfl,e,c⟩:=hT v hv;exact⟨o,kp b o e,c⟩;have gm:∀i,i<vs.length->vs.getD i Value.none∈vs:=fun i hi=>by
  have:vs.getD i Value.none=vs[i]:=by simp[hi]
  rw[this];exact QBu _
 exact AC.wp (fun i j hi hj C hC=>ask _ kp _ (gm i hi) _ (gm j hj) C hC) (fun p hp=>⟨rfl,hp,trivial⟩) (kZ (n:=vs.length) (by omega))
end
end
section
variable{prog:Program}{w:World}{A:Around}
theorem M9(ah:A.handled=none)(j:Addr)(z:Src)(ne:z.adr≠j)(items:Array Value)(c:Nat) :
  Draws prog w A j [j,z.adr] (c+items.size) (fun i v=>∃k,i=c+k/\items[k]?=some v) (fun i h=>∃k,i=c+k/\dC h j z k/\rB h z items) where
 live:=fun _ _ ⟨_,_,p,_⟩=>let⟨o,e,_⟩:=p.obj;⟨o,e⟩
 frame:=fun _ h h' ⟨k,e,p,q⟩ kp=>⟨k,e,p.keep fun o x=>kp j (by simp) o x,by
  cases z with
  |l a=>exact QB1.at q fun o x=>kp a (by simp[Src.adr]) o x
  |t a=>obtain⟨o,g1,g2⟩:=q;exact⟨o,kp a (by simp[Src.adr]) o g1,g2⟩⟩
 item:=fun i s Q E hi ⟨k,e,p,q⟩ hQ=>by
  have hk:k<items.size:=by omega
  exact j3 p q (x:=items[k]) (by simp[hk]) fun h' p' sb=>hQ _ h' s.toks ⟨k,e,by simp[hk]⟩ ⟨k+1,by omega,p',G7 q sb ne⟩ sb
 done:=fun s Q E ⟨k,e,p,q⟩ hE=>by
  have hk:k=items.size:=by omega
  exact JX ah p q (by simp[hk]) hE
theorem N9(ah:A.handled=none)(j:Addr)(z:Src)(items:Array Value)(n k:Nat)(hx:items[k]?=none) :
  Draws prog w A j [j,z.adr] n (fun _ _=>False) (fun i h=>i=n/\dC h j z k/\rB h z items) where
 live:=fun _ _ ⟨_,p,_⟩=>let⟨o,e,_⟩:=p.obj;⟨o,e⟩
 frame:=fun _ h h' ⟨e,p,q⟩ kp=>⟨e,p.keep fun o x=>kp j (by simp) o x,by
  cases z with
  |l a=>exact QB1.at q fun o x=>kp a (by simp[Src.adr]) o x
  |t a=>obtain⟨o,g1,g2⟩:=q;exact⟨o,kp a (by simp[Src.adr]) o g1,g2⟩⟩
 item:=fun i s Q E hi ⟨e,_,_⟩ hQ=>absurd hi (by omega)
 done:=fun s Q E ⟨_,p,q⟩ hE=>JX ah p q hx hE
def Uk(K:QF)(z:Src)(c:Nat):It :=
  ⟨fun i H=>∃xs x,aL K H z xs/\xs[i]?=some x,
   fun i H v H'=>∃p x,H p=none/\v=.ref p/\H'=UA H p (.tup [.int ((c+i:Nat):Int),x])/\∀xs,aL K H z xs->xs[i]?=some x,
   fun i H=>∃xs,aL K H z xs/\xs.length<=i⟩
def sS(e j:Addr)(z:Src)(c i:Nat)(h:Heap):Prop:=(∃old,IsEnum h e j ((c+i:Nat):Int) old)/\dC h j z i
theorem aU{P:Program}{K:QF}{es:List Expr}{kk:Nat}{pp:Pos}{e j:Addr}{z:Src}{c:Nat}(n1:e≠j)(n2:z.adr≠e)(n3:z.adr≠j) :
  Turn P w K (.Tuple es kk pp) (Uk K z c) [e,j] e (sS e j z c) where
 mem:=by simp
 obj:=fun i h st b hb=>by obtain⟨⟨old,a1⟩,a2⟩:=st;simp only[QK,Ql,or_false]at hb;rcases hb with rfl|rfl;exact⟨_,a1,fun v q=>by cases(show Data.fields _=Data.cell v from q)⟩;exact a2.obj
 keep:=fun i h h' st k=>by obtain⟨⟨old,a1⟩,a2⟩:=st;exact⟨⟨old,k e (by simp) _ a1⟩,a2.keep fun o x=>k j (by simp) o x⟩
 item:=by
  intro X hP hw hK hc i pins s σ H E I hf st hg;subst hP hw hK;obtain⟨xs,x,h1,ex⟩:=hg;obtain⟨its,rv,sh,_⟩:=I.src h1;obtain⟨u,hu,ru⟩:=rv.get ex;obtain⟨⟨old,a1⟩,a2⟩:=st;have hi:i<its.toArray.size:=by have:=(Qi.mp hu).1;simpa using this
  refine wpAny_pyNext_enum_itemD (M9 (show X.A.in1.handled=none from I.ok.hd hc) j z n3 its.toArray c) a1 ⟨i,rfl,a2,sh⟩ (by omega) n1 (by simp[n1,Q2 n2]) fun y h' tk ⟨k,ek,hy⟩ b1 b2 b3 b4 b5=>?_;have ek:k=i:=by omega
  subst ek;have ey:y=u:=by
   have:its.toArray[k]?=some u:=by simpa using hu
   rw[this]at hy;exact(qL hy).symm
  subst ey;refine⟨_,rfl,wpAny_letOwnedTupleGo_enum b1 fun h'' c1 sb=>?_⟩;obtain⟨k2,ek2,b2,b2'⟩:=b2;have ek2:k2=k+1:=by omega
  subst ek2;have hp:=I.hok.fresh (QS s.heap.objs.size);have elt:e<s.heap.objs.size:=QR a1;have old':∀b∈[e,j],b<s.heap.objs.size:=fun b hb=>by simp only[QK,Ql,or_false]at hb;rcases hb with rfl|rfl;exact elt;exact a2.lt
  have kept:∀b o,b∉[e,j]->s.heap.get? b=some o->h''.get? b=some o:=fun b o hb q=>by simp only[QK,Ql,or_false,not_or]at hb;exact(sb.2 b hb.1).trans (b5 b o hb.1 hb.2 q)
  have pairAt:h''.get? s.heap.objs.size=some { cls:=.type "tuple",data:=.seq #[.int ((c+k:Nat):Int) tk,y] }:=(sb.2 _ (wG elt)).trans b3;have I1:=I.pair (x:=.int ((c+k:Nat):Int)) (h':=s.heap.push { cls:=.type "tuple",data:=.seq #[.int ((c+k:Nat):Int) tk,y] }) (t':=tk+1) (fun b o e=>QH _ e) (QS _) (QO _ rfl) ⟨_,rfl⟩ ru;have I2:=I1.turnedL (h':=h'') (t':=tk+1) (ch:=[e,j]) (fun b o hb e=>by
   rcases W8 e with⟨q1,q2⟩| q;subst q1 q2;exact pairAt;exact kept b o hb q) fun b hb=>by
   obtain⟨f0,f1,f2,f3,f4,f5⟩:=hf b hb;exact⟨by rw[vA (Qd (old' b hb))];exact f0,f1,f2,f3,f4,f5⟩
  refine⟨.ref s.heap.objs.size,_,I2,rfl,⟨s.heap.objs.size,x,hp,rfl,rfl,fun xs' g1=>?_⟩,⟨⟨y,?_⟩,b2.keep fun o q=>(sb.2 _ (Q2 n1)).trans q⟩,fun b hb=>?_⟩;rw[I.src_inj g1 h1];exact ex;have:(((c+(k+1):Nat)):Int)=((c+k:Nat):Int)+1:=by omega
  rw[this];exact c1;rw[vA (Qd (old' b hb))];exact(hf b hb).1
 done:=by intro X hP hw hK hc i pins s σ H E I hf st hg;subst hP hw hK;obtain⟨xs,h1,en⟩:=hg;obtain⟨its,rv,sh,_⟩:=I.src h1;obtain⟨⟨old,a1⟩,a2⟩:=st;have l1:=rv.length;obtain⟨f0,f1,f2,f3,f4,f5⟩:=hf j (by simp);exact wpAny_pyNext_enum_endD (N9 (show X.A.in1.handled=none from I.ok.hd hc) j z its.toArray 0 i (by simp;omega)) a1 ⟨rfl,a2,sh⟩ fun h' eb=>⟨rfl,I.turned (t':=s.toks) (fun b o hb e=>eb b o hb e) f0 f1 f3 f4 f5⟩
 self:=fun _ _ _ _ _ st h=>by obtain⟨⟨old,a1⟩,_⟩:=st;exact QBd a1 h
end
section
variable{prog:Program}{w:World}{A:Around}{E:OB}{s:Shared}
end
theorem iV(z:Src)(xs:Array Value):Meets (Builtin.«enumerate.__new__» ⟨[.type "enumerate",.ref z.adr],[]⟩) (fun _ R s=>rB s.heap z xs /\
   R (.ok (.ret (.ref (s.heap.push z.it).objs.size))) { s with heap:=(s.heap.push z.it).push { cls:=.type "enumerate",data:=.fields #[.none,.bool false,.ref s.heap.objs.size,rawInt 0,.none,.none] } }) :=
 .of_wp fun prog w A R s h=>by
  obtain⟨hp,g,d,tk,os⟩:=s;obtain⟨q1,h⟩:=h;have hsub:=sub_enumerate;have hL1:rB (Shared.heap ⟨hp,g,d,tk,os⟩) z xs:=q1;wp_walk;refine wpAny_stack_any fun st=>QJ ?_;split;rename_i cl _ _ _ _ _;cases(cl==Value.type "enumerate")<;>(wp_walk using FO hL1;exact⟨_,rfl,h⟩)
  wp_walk using FO hL1;exact⟨_,rfl,h⟩
section
variable{prog:Program}{w:World}{A:Around}{E:OB}{s:Shared}
end
section
variable{prog:Program}{w:World}{A:Around}{E:OB}{s:Shared}
theorem FT{h:Heap}{z:Src}{n:Int}:IsEnum ((h.push z.it).push { cls:=.type "enumerate",data:=.fields #[.none,.bool false,.ref h.objs.size,rawInt n,.none,.none] }) (h.objs.size+1) h.objs.size n .none:=by have:=QO (h.push z.it) (o:={ cls:=.type "enumerate",data:=.fields #[.none,.bool false,.ref h.objs.size,rawInt n,.none,.none] }) rfl;rw[wV]at this;exact this
theorem cS{z:Src}{xs:Array Value}{Q:OB}(q1:rB s.heap z xs)
  (h:∀h',sS (s.heap.objs.size+1) s.heap.objs.size z 0 0 h'->(∀c o,s.heap.get? c=some o->h'.get? c=some o)->Q (.ref (s.heap.objs.size+1)) { s with heap:=h' }):wpAny (model prog w) A (call (.type "enumerate") [.ref z.adr]) Q E s:=by
 refine callType_new PySem.F.called_enumerate (by decide) (PySem.F.typeCall_enumerate_1 _) (PySem.F.newCall_enumerate_1 _) (fun obj=>PySem.F.args_object_init_2 obj _) PySem.F.entry_enumerate_new (iV z xs) ⟨q1,?_⟩;show _/\_;rw[wV];exact⟨⟨_,FT,rfl⟩,h _ ⟨⟨.none,FT⟩,(OZ s.heap z).keep fun o e=>QH _ e⟩ fun c o x=>QH _ (QH _ x)⟩
end
theorem vk{a b:Nat}(h:a≠b):((a:Addr)≠(b:Addr)):=h
theorem iO{n l1 l2:Nat}(h1:l1<n)(h2:l2<n):ZipApart ((n+4:Nat):Addr) ((n+2:Nat):Addr) ((n+3:Nat):Addr) (n:Addr) ((n+1:Nat):Addr) (l1:Addr) (l2:Addr):=by constructor<;>(apply vk;omega)
def cH{α:Type}(n:Nat)(lt:Nat->Nat->Bool)(P:α->Prop):KasT α->Prop
 | .ret a=>P a
 | .ask i j k=>(i<n/\j<n/\i≠j)/\cH n lt P (k (lt i j))
theorem cH.bnd{α β:Type}{n:Nat}{lt:Nat->Nat->Bool}{P:α->Prop}{R:β->Prop}{f:α->KasT β}(hf:∀a,P a->cH n lt R (f a)):∀{t:KasT α},cH n lt P t->cH n lt R (t.bind f)
 | .ret a,h=>hf a h
 | .ask _ _ _,⟨h1,h⟩=>⟨h1,cH.bnd hf h⟩
theorem cH.imp{α:Type}{n:Nat}{lt:Nat->Nat->Bool}{P R:α->Prop}(hf:∀a,P a->R a):∀{t:KasT α},cH n lt P t->cH n lt R t
 | .ret a,h=>hf a h
 | .ask _ _ _,⟨h1,h⟩=>⟨h1,cH.imp hf h⟩
theorem cH.wp{α:Type}{n:Nat}{lt:Nat->Nat->Bool}{P:α->Prop}{cmp:Nat->Nat->(Bool->Shared->Prop)->Shared->Prop}{Q:α->Shared->Prop}{s:Shared}(ask:∀i j,i<n->j<n->i≠j->∀C:Bool->Shared->Prop,C (lt i j) s->cmp i j C s)(hQ:∀a,P a->Q a s):∀{t:KasT α},cH n lt P t->t.kasWp cmp Q s
 | .ret a,h=>hQ a h
 | .ask i j _,⟨⟨h1,h2,h3⟩,h⟩=>ask i j h1 h2 h3 _ (cH.wp ask hQ h)
def uI(lt:Nat->Nat->Bool)(a b:Nat):Prop:=lt b a=false
structure Ord(lt:Nat->Nat->Bool):Prop where
 asy:∀a b,lt a b=true->lt b a=false
 tr:∀a b c,uI lt a b->uI lt b c->uI lt a c
def gD(p:Array Nat)(i:Nat):Nat:=p.getD i 0
theorem IP{p q:Array Nat}{i j:Nat}(h:p[i]?=q[j]?):gD p i=gD q j:=by unfold gD;rw[QAF,QAF,h]
def Up(lt:Nat->Nat->Bool)(p:Array Nat)(k:Nat):Prop:=∀i j,i<=j->j<k->uI lt (gD p i) (gD p j)
def Dn(lt:Nat->Nat->Bool)(p:Array Nat)(k:Nat):Prop:=∀i j,i<=j->j<k->uI lt (gD p j) (gD p i)
theorem Pm.two{n:Nat}{p:Array Nat}(h:Pm n p){a b:Nat}(ha:a<n)(hb:b<n)(ne:a≠b):p.getD a 0<n/\p.getD b 0<n/\p.getD a 0≠p.getD b 0:=by
 have hs:p.size=n:=by have:=h.size_eq;simpa using this
 have h0:0<n:=by omega
 refine⟨h.lt h0 a,h.lt h0 b,fun e=>?_⟩;have nd:p.toList.Nodup:=(ql.mp h).nodup_iff.mpr (by simpa using List.nodup_range);have e1:∀i,i<n->p.toList[i]?=some (p.getD i 0):=fun i hi=>by rw[qa,wW (by omega)];simp[QBa,hs,hi]
 exact ne ((QAc (by rw[QT];omega) nd).mp ((e1 a ha).trans ((congrArg some e).trans (e1 b hb).symm)))
section
variable{n:Nat}{lt:Nat->Nat->Bool}(o:Ord lt){p:Array Nat}
include o
section
variable{a b k:Nat}
theorem Ord.re(a:Nat):uI lt a a:=by
 unfold uI;cases h:lt a a with
 |false=>rfl
 |true=>exact(o.asy a a h).symm.trans h |>.symm▸rfl
theorem Ord.le(h:lt a b=true):uI lt a b:=o.asy a b h
theorem yW:Up lt p 1:=fun i j h1 h2=>by
 obtain rfl:i=j:=by omega
 exact o.re _
theorem HZ(h1:1<=k)(h:Up lt p k)(l:uI lt (gD p (k - 1)) (gD p k)):Up lt p (k+1):=fun i j hi hj=>by
 by_cases e:j<k;exact h i j hi e;obtain rfl:j=k:=by omega
 by_cases e:i=j;subst e;exact o.re _;exact o.tr _ _ _ (h i (j - 1) (by omega) (by omega)) l
theorem MH(h1:1<=k)(h:Dn lt p k)(l:uI lt (gD p k) (gD p (k - 1))):Dn lt p (k+1):=fun i j hi hj=>by
 by_cases e:j<k;exact h i j hi e;obtain rfl:j=k:=by omega
 by_cases e:i=j;subst e;exact o.re _;exact o.tr _ _ _ l (h i (j - 1) (by omega) (by omega))
theorem kN{i j:Nat}(hj:j<=p.size)(k:Nat):gD (kas_rev p i j) k=if i<=k/\k<j then gD p (i+j - 1 - k) else gD p k:=by have:=getElem?_mirror_all (xs:=p) (i:=i) hj k;split;rename_i c;rw[if_pos c]at this;exact IP this;rename_i c;rw[if_neg c]at this;exact IP this
theorem SR(hb:b<=p.size)(hk:Dn lt p k)(al:∀x y,a<=x->x<b->a<=y->y<b->uI lt (gD p x) (gD p y))(hbk:b<=k):Dn lt (kas_rev p a b) k:=fun i j hi hj=>by rw[kN o hb,kN o hb];by_cases c1:a<=i/\i<b;rw[if_pos c1];by_cases c2:a<=j/\j<b;rw[if_pos c2];exact al _ _ (by omega) (by omega) (by omega) (by omega);rw[if_neg c2];exact hk _ _ (by omega) hj;rw[if_neg c1];by_cases c2:a<=j/\j<b;rw[if_pos c2];exact hk _ _ (by omega) (by omega);rw[if_neg c2];exact hk _ _ hi hj
theorem e7(hk:k<=p.size)(h:Dn lt p k):Up lt (kas_rev p 0 k) k:=fun i j hi hj=>by rw[kN o hk,kN o hk,if_pos (by omega),if_pos (by omega)];exact h _ _ (by omega) (by omega)
theorem sR(h:Pm n p)(h0:0<n):∀(f m:Nat),1<=m->m+f<=n->Up lt p m->cH n lt (fun r=>m<=r/\r<=m+f/\Up lt p r/\(r<m+f->lt (gD p r) (gD p (r - 1))=true)) (kas_asc p f m)
 |0,m,h1,h2,u=>⟨QS _,QS _,u,fun z=>absurd z (by omega)⟩
 |f+1,m,h1,h2,u=>by
  refine⟨h.two (by omega) (by omega) (by omega),?_⟩;cases c:lt (p.getD m 0) (p.getD (m - 1) 0) with
  |true=>exact⟨QS _,by omega,u,fun _=>c⟩
  |false=>have ih:=sR h h0 f (m+1) (by omega) (by omega) (HZ o h1 u c);show cH n lt _ (kas_asc p f (m+1));rw[show m+1+f=m+(f+1) by omega]at ih;exact cH.imp (fun r hr=>⟨by omega,hr.2.1,hr.2.2.1,hr.2.2.2⟩) ih
theorem KJ(h0:0<n):∀(f:Nat) {p:Array Nat}(m q:Nat),Pm n p->q+1<=m->m+f<=n->Dn lt p m->(∀x y,m - (q+1)<=x->x<m->m - (q+1)<=y->y<m->uI lt (gD p x) (gD p y)) ->
  cH n lt (fun r=>Pm n r.1/\r.2.2+1<=r.2.1/\r.2.1<=n/\Dn lt r.1 r.2.1/\∀x y,r.2.1 - (r.2.2+1)<=x->x<r.2.1->r.2.1 - (r.2.2+1)<=y->y<r.2.1->uI lt (gD r.1 x) (gD r.1 y)) (kas_desc f p m q)
 |0,p,m,q,h,hq,hm,d,al=>⟨h,hq,by omega,d,al⟩
 |f+1,p,m,q,h,hq,hm,d,al=>by
  have hs:p.size=n:=by have:=h.size_eq;simpa using this
  refine⟨h.two (by omega) (by omega) (by omega),?_⟩;cases c:lt (p.getD m 0) (p.getD (m - 1) 0) with
  |true =>
   have l:uI lt (gD p m) (gD p (m - 1)):=o.le c;show cH n lt _ (if q > 0 then kas_desc f (kas_rev p (m - (q+1)) m) (m+1) 0 else kas_desc f p (m+1) 0);have one:∀{p:Array Nat}(x y:Nat),m+1 - (0+1)<=x->x<m+1->m+1 - (0+1)<=y->y<m+1->uI lt (gD p x) (gD p y):=fun x y a1 a2 a3 a4=>by
    obtain rfl:x=y:=by omega
    exact o.re _
   split;refine KJ h0 f (m+1) 0 (h.rev _ _) (by omega) (by omega) ?_ one;exact SR o (by omega) (MH o (by omega) d l) (fun x y a1 a2 a3 a4=>al x y a1 a2 a3 a4) (by omega);exact KJ h0 f (m+1) 0 h (by omega) (by omega) (MH o (by omega) d l) one
  |false =>
   refine⟨h.two (by omega) (by omega) (by omega),?_⟩;cases e:lt (p.getD (m - 1) 0) (p.getD m 0) with
   |true=>exact⟨h,hq,show m<=n by omega,d,al⟩
   |false =>
    have l1:uI lt (gD p (m - 1)) (gD p m):=c;have l2:uI lt (gD p m) (gD p (m - 1)):=e;refine KJ h0 f (m+1) (q+1) h (by omega) (by omega) (MH o (by omega) d l2) fun x y a1 a2 a3 a4=>?_;have up:∀x,m - (q+1)<=x->x<m+1->uI lt (gD p x) (gD p m)/\uI lt (gD p m) (gD p x):=fun x b1 b2=>by by_cases z:x=m;subst z;exact⟨o.re _,o.re _⟩;exact⟨o.tr _ _ _ (al x (m - 1) b1 (by omega) (by omega) (by omega)) l1,o.tr _ _ _ l2 (al (m - 1) x (by omega) (by omega) b1 (by omega))⟩
    exact o.tr _ _ _ (up x (by omega) a2).1 (up y (by omega) a4).2
theorem fP(h:Pm n p)(h0:0<n)(h1:1<=a)(ha:a<=n)(d:Dn lt p a):cH n lt (fun r=>Pm n r.2/\r.1<=n/\Up lt r.2 r.1) (kas_tail3 a n p):=by
 have hs:p.size=n:=by have:=h.size_eq;simpa using this
 refine cH.bnd (f:=fun m=>.ret (m,kas_rev p 0 a)) (fun m hm=>?_) (sR o (h.rev 0 a) h0 (n - a) a h1 (by omega) (e7 o (by omega) d));exact⟨h.rev _ _,by omega,hm.2.2.1⟩
theorem AI(h:Pm n p)(h0:0<n)(h1:1<=a)(ha:a+1<=n)(d:Dn lt p (a+1)):cH n lt (fun r=>Pm n r.2/\r.1<=n/\Up lt r.2 r.1) (kas_descPart a n p):=by
 refine cH.bnd (fun r hr=>?_) (KJ o h0 (n - (a+1)) (a+1) 0 h (by omega) (by omega) d fun x y a1 a2 a3 a4=>?_);obtain⟨b1,b2,b3,b4,b5⟩:=hr;have hs:r.1.size=n:=by have:=b1.size_eq;simpa using this
 split;exact fP o (b1.rev _ _) h0 (by omega) b3 (SR o (by omega) b4 b5 (QS _));exact fP o b1 h0 (by omega) b3 b4;obtain rfl:x=y:=by omega
 exact o.re _
theorem rX(h:Pm n p)(h0:0<n):cH n lt (fun r=>Pm n r.2/\r.1<=n/\Up lt r.2 r.1) (kas_count n p):=by
 have hs:p.size=n:=by have:=h.size_eq;simpa using this
 refine cH.bnd (fun m hm=>?_) (sR o h h0 (n - 1) 1 (QS _) (by omega) (yW o));obtain⟨m1,m2,u,st⟩:=hm;split;exact⟨h,by omega,u⟩;rename_i ne;have ne:m≠n:=fun e=>ne (by rw[e];exact beq_self_eq_true _);have st:=st (by omega);have l:uI lt (gD p m) (gD p (m - 1)):=o.le st;split;rename_i g1;refine⟨h.two (by omega) (by omega) (by omega),?_⟩;cases c:lt (p.getD 0 0) (p.getD (m - 1) 0) with
 |true=>exact⟨h,by omega,u⟩
 |false=>have c:uI lt (gD p (m - 1)) (gD p 0):=c;have al:∀x y,x<m->y<m->uI lt (gD p x) (gD p y):=fun x y hx hy=>o.tr _ _ _ (u x (m - 1) (by omega) (by omega)) (o.tr _ _ _ c (u 0 y (by omega) hy));refine AI o (h.rev _ _) h0 m1 (by omega) (SR o (by omega) (MH o m1 (fun i j _ hj=>al j i hj (by omega)) l) (fun x y _ a2 _ a4=>al x y a2 a4) (by omega))
 obtain rfl:m=1:=by omega
 refine AI o h h0 (QS _) (by omega) (MH o (QS _) (fun i j hi hj=>?_) l);obtain rfl:i=j:=by omega
 exact o.re _
theorem aK(h:Pm n p){k:Nat}(hk:k<n)(u:Up lt p k):∀(f l r:Nat),l<=r->r<=k->r - l<=f->(∀i,i<l->uI lt (gD p i) (gD p k))->(∀i,r<=i->i<k->uI lt (gD p k) (gD p i))->cH n lt (fun l=>l<=k/\(∀i,i<l->uI lt (gD p i) (gD p k))/\∀i,l<=i->i<k->uI lt (gD p k) (gD p i)) (kas_place p k f l r)
 |0,l,r,h1,h2,h3,h4,h5=>⟨by omega,h4,fun i hi hk=>h5 i (by omega) hk⟩
 |f+1,l,r,h1,h2,h3,h4,h5=>by
  show cH n lt _ (if l ≥ r then _ else _);split;exact⟨by omega,h4,fun i hi hk=>h5 i (by omega) hk⟩;refine⟨h.two hk (by omega) (by omega),?_⟩;cases c:lt (p.getD k 0) (p.getD ((l+r) / 2) 0) with
  |true=>exact aK h hk u f _ _ (by omega) (by omega) (by omega) h4 fun i hi hk=>o.tr _ _ _ (o.le c) (u _ _ hi hk)
  |false=>exact aK h hk u f _ _ (by omega) (by omega) (by omega) (fun i hi=>o.tr _ _ _ (u i ((l+r) / 2) (by omega) (by omega)) c) h5
theorem EY{d:Nat}(hs:k<p.size)(hd:d<=k)(i:Nat):gD (bubble p k d) i=if i=k - d then gD p k else if k - d<i/\i<=k then gD p (i - 1) else gD p i:=by have:=getElem?_bubble hs d hd i;split;rename_i c;rw[if_pos c]at this;exact IP this;rename_i c;rw[if_neg c]at this;split;rename_i c2;rw[if_pos c2]at this;exact IP this;rename_i c2;rw[if_neg c2]at this;exact IP this
theorem rR(h0:0<n):∀(f:Nat) {p:Array Nat}(k:Nat),Pm n p->k+f=n->Up lt p k->cH n lt (fun r=>Pm n r/\Up lt r n) (kas_bin f p k)
 |0,p,k,h,hk,u=>⟨h,by rw[<- hk];exact u⟩
 |f+1,p,k,h,hk,u=>by
  have hs:p.size=n:=by have:=h.size_eq;simpa using this
  refine cH.bnd (fun l hl=>?_) (aK o h (by omega) u k 0 k (Qy _) (QS _) (by omega) (fun i hi=>absurd hi (by omega)) fun i hi hk=>absurd hk (by omega));obtain⟨l1,l2,l3⟩:=hl;refine rR h0 f (k+1) ((bubble_perm _ _ _).trans h) (by omega) fun i j hi hj=>?_;rw[EY o (by omega) (by omega),EY o (by omega) (by omega),show k - (k - l)=l by omega];by_cases c1:i=l;rw[if_pos c1];by_cases c2:j=l;rw[if_pos c2];exact o.re _;rw[if_neg c2,if_pos (by omega)];exact l3 _ (by omega) (by omega);rw[if_neg c1];by_cases c2:j=l;rw[if_pos c2,if_neg (by omega)];exact l2 _ (by omega);rw[if_neg c2];by_cases c3:l<i/\i<=k;rw[if_pos c3,if_pos (by omega)];exact u _ _ (by omega) (by omega);rw[if_neg c3];by_cases c4:l<j/\j<=k;rw[if_pos c4];exact u _ _ (by omega) (by omega);rw[if_neg c4];exact u _ _ hi (by omega)
theorem U2(h0:0<n):cH n lt (fun r=>Pm n r/\Up lt r n) (kas_sort n):=by
 refine cH.bnd (fun r hr=>?_) (rX o (QAz _) h0);obtain⟨r1,r2,r3⟩:=hr;split;by_cases c:1<=r.1
 ·rw[Nat.max_eq_left c]
  exact rR o h0 _ _ r1 (by omega) r3
 rw[Nat.max_eq_right (by omega)];exact rR o h0 _ _ r1 (by omega) (yW o);rw[show r.1=n by omega]at r3;exact⟨r1,r3⟩
end
end
open PySem.SeqAt
def u6(ns:List Str)(i j:Nat):Bool:=decide ((ns.getD i ⟨#[]⟩).cps.toList<(ns.getD j ⟨#[]⟩).cps.toList)
theorem M3(ns:List Str):Ord (u6 ns):=by refine⟨fun a b h=>?_,fun a b c h1 h2=>?_⟩;unfold u6 at h ⊢;exact dF (QAm.mpr (List.le_of_lt (of_decide_eq_true h)));unfold uI u6 at *;have h1:=QAm.mp (of_decide_eq_false h1);have h2:=QAm.mp (of_decide_eq_false h2);exact dF (QAm.mpr (List.le_trans h1 h2))
def RF(h:Heap)(v:Value)(x:Str):Prop:=∃a o n t r,v=.ref a/\h.get? a=some o/\o.cls=.type "tuple"/\o.data=.seq (wn (Value.str x t::r)) n
section
variable{prog:Program}{w:World}{A:Around}{E:OB}{s:Shared}
section
variable{v:Value}{x:Str}{vs:List Value}{ns:List Str}
theorem v9{u:Value}{y:Str}{Q:Bool->Shared->Prop}(hv:RF s.heap v x)(hu:RF s.heap u y)(ne:x≠y)(q:Q (decide (x.cps.toList<y.cps.toList)) s):wpAny (model prog w) A (keyLt' (tuples' true) v u) Q E s:=by obtain⟨a,o,n,t,r,rfl,h1,_,d1⟩:=hv;obtain⟨b,o2,n2,t2,r2,rfl,h2,_,d2⟩:=hu;refine kat_lt h1 d1 h2 d2 (kat_cons (EqAt.str_str x t y t2 prog w _ _ ?_));rw[beq_false_of_ne ne];exact kat_no (oneLt_str q)
theorem zY{Q:SortKind->Shared->Prop}(hp:Paired (RF s.heap) vs ns)(h2:2<=vs.length)(q:Q (tuples' true) s):wpAny (model prog w) A (keyKind' vs.toArray) Q E s:=by
 have key:∀{vs:List Value}{ns:List Str},Paired (RF s.heap) vs ns->∃fs,KatTups s.heap vs fs/\fs.length=vs.length/\∀f∈fs,∃x t,f=.str x t:=by
  intro vs ns h;induction h with
  |nil=>exact⟨[],.nil,rfl,fun _ z=>(nomatch z)⟩
  |@cons v x l1 l2 h _ ih=>obtain⟨fs,i1,i2,i3⟩:=ih;obtain⟨a,o,n,t,r,rfl,h1,hc,d1⟩:=h;refine⟨.str x t::fs,.cons (f:=.str x t) h1 hc d1 (by simp) i1,by rw[QL,QL,i2],fun f hf=>?_⟩;rcases QK.mp hf with rfl|z;exact⟨_,_,rfl⟩;exact i3 f z
 obtain⟨fs,k1,k2,k3⟩:=key hp;exact kat_kind (T:=.type "str") k1 (by omega) (fun v hv=>by obtain⟨x,t,rfl⟩:=k3 v hv;exact .of_pure rfl) (by decide) q
theorem RF.keep{h h':Heap}(kp:∀b o,h.get? b=some o->h'.get? b=some o)(t:RF h v x):RF h' v x:=by obtain⟨a,o,n,t,r,e,h1,c,d⟩:=t;exact⟨a,o,n,t,r,e,kp _ _ h1,c,d⟩
theorem xG{α β:Type}{R:α->β->Prop}{d:α}{e:β}:∀{l:List α}{m:List β},Paired R l m->∀i,i<l.length->R (l.getD i d) (m.getD i e)
 |_,_,.nil,i,h=>absurd h (Nat.not_lt_zero _)
 |_,_,.cons r _,0,_=>r
 |_,_,.cons _ t,i+1,h=>xG t i (Nat.lt_of_succ_lt_succ h)
theorem RZ{l:Addr}{Q:OB}(hl:s.heap.IsList l vs.toArray)(h64:vs.length<64)(hp:Paired (RF s.heap) vs ns)(nd:ns.Nodup)
  (k:∀p:Array Nat,Pm vs.length p->Up (u6 ns) p vs.length->Q (.ref (s.heap.objs.size+1)) { s with heap:=sortedAll s.heap vs (p.toList.map fun i=>vs.getD i Value.none).toArray }):wpAny (model prog w) A (call (.builtin "sorted") [.ref l]) Q E s:=by
 have hn:=qJ hp;have o:=M3 ns;refine BS (κ:=tuples' true) (R:=fun p=>Up (u6 ns) p vs.length) hl h64 (fun h2 h3 kp Q q=>zY (s:={ s with heap:=h3 }) (L2.Paired.mapP hp fun _ _ t=>RF.keep kp t) h2 q) (fun h2 h3 kp=>?_) (fun h2 i j hi hj=>?_) k;refine cH.wp (lt:=u6 ns) (fun i j hi hj ne C hC=>?_) (fun p hp=>⟨rfl,hp⟩) (U2 o (by omega));refine v9 (s:={ s with heap:=h3 }) (x:=ns.getD i ⟨#[]⟩) (y:=ns.getD j ⟨#[]⟩) ((xG hp i hi).keep kp) ((xG hp j hj).keep kp) (fun e=>ne ?_) hC;have e1:∀i,i<ns.length->ns[i]?=some (ns.getD i ⟨#[]⟩):=fun i hi=>by simp[hi]
 exact(QAc (by omega) nd).mp ((e1 i (by omega)).trans ((congrArg some e).trans (e1 j (by omega)).symm));obtain rfl:i=j:=by omega
 exact o.re _
end
end
theorem SS:∀{l:List Str}{x:Str},(x::l).Pairwise (fun a b=>¬ b.cps.toList<a.cps.toList)->risingS x l=true
 |[],_,_=>rfl
 |y::r,x,h=>by obtain⟨h1,h2⟩:=Wb.mp h;show(!ltCps y.cps.toList x.cps.toList&&risingS y r)=true;rw[ltCps_eq,dF (h1 y QE),SS h2];rfl
theorem t7{ns:List Str}{p:Array Nat}{n:Nat}(hs:p.size=n)(u:Up (u6 ns) p n):sortedS (p.toList.map fun i=>ns.getD i ⟨#[]⟩)=true:=by
 have pw:(p.toList.map fun i=>ns.getD i ⟨#[]⟩).Pairwise (fun a b=>¬ b.cps.toList<a.cps.toList):=by
  refine QBe.mpr (List.pairwise_iff_getElem.mpr fun i j hi hj hij=>?_);rw[QT]at hi hj;have:=u i j (by omega) (by omega);unfold uI u6 at this;have this:=of_decide_eq_false this;have e:∀i (h:i<p.size),gD p i=p.toList[i]:=fun i h=>by unfold gD;simp[QBa,h]
  rw[e i hi,e j hj]at this;exact this
 revert pw;cases(p.toList.map fun i=>ns.getD i ⟨#[]⟩) with
 |nil=>intro _;rfl
 |cons x r=>exact fun pw=>SS pw
def NS:Value->Str
 | .str z _=>z
 |_=>⟨#[]⟩
def IH(pg:Program)(wd:World)(h:Heap)(a:Addr)(b:Bool)(zs:List Str):Prop :=
 ∃es ep t,h.get? a=some { cls:=.type "set",dict:=none,data:=.set es ep t,slots:=#[] }/\ElemsOf (strKind pg wd) es.toList/\es.toList.map (fun e=>NS e.2)=zs/\zs.Nodup/\t.fits es.size=true/\t.led=b/\(es.size=0∨t.plain=false)
theorem IH.at{pg:Program}{wd:World}{h h':Heap}{a:Addr}{b:Bool}{zs:List Str}(x:IH pg wd h a b zs)(k:∀o,h.get? a=some o->h'.get? a=some o):IH pg wd h' a b zs:=by obtain⟨es,ep,t,e,r⟩:=x;exact⟨es,ep,t,k _ e,r⟩
theorem R3(t:SetTable)(es:Array (Int×Value))(h:Int)(x:Value):(layNew t es h x).2.1.led=t.led:=by
 unfold layNew;cases t.freeSlot h with
 |none=>rfl
 |some p=>show(QBS _ _).led=_;unfold QBS;split<;>rfl
theorem yY{m f v:Nat}{l p:Bool}{hs:Array Int}{t:SetTable}{o:Array Nat}(e:SetTable.laid m f v l p hs=some (t,o)):t.led=l/\t.plain=p:=by
 unfold SetTable.laid at e;cases c:SetTable.layClean m hs with
 |none=>rw[c]at e;cases e
 |some w=>rw[c]at e;cases e;exact⟨rfl,rfl⟩
theorem CU(t:SetTable)(es:Array (Int×Value))(n:Nat)(hp:t.plain=false):(relayAll t es n).2.1.led=t.led/\(relayAll t es n).2.1.plain=false:=by unfold relayAll;split;rename_i t' o e;have:=yY e;show(if _ then _ else _:Array (Int×Value)×SetTable×Bool).2.1.led=_/\(if _ then _ else _:Array (Int×Value)×SetTable×Bool).2.1.plain=_;split;exact⟨this.1,this.2.trans hp⟩;exact⟨rfl,rfl⟩;exact⟨rfl,rfl⟩
section
variable{pg:Program}{wd:World}{Ar:Around}{Er:OB}{sh:Shared}
section
variable{es:Array (Int×Value)}{e:Int×Value}{zs:List Str}{z:Str}{b:Bool}{a:Addr}
theorem KY{es:List (Int×Value)}(el:ElemsOf (strKind pg wd) es)(he:e∈es):∃t,e.2=.str (NS e.2) t:=by obtain⟨⟨k,hk,_⟩,_⟩:=el e he;obtain⟨t,ht⟩:=QBC hk;exact⟨t,by rw[ht];rfl⟩
theorem J6{es:List (Int×Value)}(el:ElemsOf (strKind pg wd) es)(he:e∈es)(z:Str):(strKind pg wd).is z e.2=true↔NS e.2=z:=by obtain⟨t,ht⟩:=KY el he;rw[ht];generalize NS e.2=y;show(y==z)=true↔y=z;exact beq_iff_eq
theorem MT(el:ElemsOf (strKind pg wd) es.toList)(ez:es.toList.map (fun e=>NS e.2)=zs):(es.toList.findIdx? (fun e=>(strKind pg wd).is z e.2)=none)↔z∉zs:=by
 rw[List.findIdx?_eq_none_iff,<- ez,QW];constructor;rintro h ⟨e,he,rfl⟩;have:=h e he;rw[(J6 el he _).mpr rfl]at this;cases this;intro h e he;cases c:(strKind pg wd).is z e.2 with
 |false=>rfl
 |true=>exact(h ⟨e,he,(J6 el he z).mp c⟩).elim
theorem KT{Q:Unit->Shared->Prop}(h:Q () sh):wpAny (model pg wd) Ar (match b with|true=>rule "set.scan.the-table-gave-way"|false=>pure ()) Q Er sh:=by
 cases b with
 |false=>exact QJ h
 |true=>exact QAb h
theorem ZT{h:Heap}{es':Array (Int×Value)}{ep:Nat}{t t':SetTable}(e:h.get? a=some { cls:=.type "set",dict:=none,data:=.set es ep t,slots:=#[] }):(h.update a (QBf es' t')).get? a=some { cls:=.type "set",dict:=none,data:=.set es' (ep+1) t',slots:=#[] }:=Q0 (QBf es' t') e rfl
theorem EZ{tk:Tok}{Q:Bool->Shared->Prop}(S:IH pg wd sh.heap a b zs)(hr:zs.length+1<4096)
  (k:∀r h' zs',qP a sh.heap h'->IH pg wd h' a b zs'->(∀s,s∈zs'↔s∈zs∨s=z)->zs'.length<=zs.length+1->Q r { sh with heap:=h',toks:=sh.toks+1 }):wpAny (model pg wd) Ar (setAdd a (.str z tk)) Q Er sh:=by
 have hk:(strKind pg wd).is z (.str z tk)=true:=strKind_is _ _ _ _;unfold setAdd;refine qS (QA ((strKind pg wd).pyHash (k:=z) hk ?_));obtain⟨es,ep,t,e0,el,ez,nd,hf,hb,hp⟩:=id S;have sz:es.size=zs.length:=by rw[<- ez,QD,QT]
 have bd:es.size<scanBound:=by show es.size<4096;omega
 unfold setAddHashed setAddHashedIn;refine qS (QA (wj (s:={ sh with toks:=sh.toks+1 }) e0 rfl hf ?_));dsimp only;rw[byScan_of (knd:=strKind pg wd) (x:=.str z tk) rfl bd el,if_pos rfl];unfold setAddByScan;refine QA (QA (QAb (QA (wpAny_setScan_of hk (s:={ sh with toks:=sh.toks+1 }) e0 rfl hf el ?_))));cases fi:es.toList.findIdx? (fun e=>(strKind pg wd).is z e.2) with
 |some j =>
  have mz:z∈zs:=qy fun n=>by rw[(MT el ez).mpr n]at fi;cases fi
  dsimp only;exact QJ (QJ (k _ sh.heap zs (QBZ _ _) S (fun s=>⟨.inl,fun o=>o.elim id fun e=>e▸mz⟩) (wU _)))
 |none =>
  have nz:=(MT el ez).mp fi;dsimp only;have pm:=layNew_perm t es ((strKind pg wd).hash z) (.str z tk);have ft:=layNew_fits t es ((strKind pg wd).hash z) (.str z tk);have ld:=R3 t es ((strKind pg wd).hash z) (.str z tk);generalize layNew t es ((strKind pg wd).hash z) (.str z tk)=L at pm ft ld ⊢;obtain⟨e1,t1,wd1,gv⟩:=L;dsimp only at pm ft ld ⊢;rw[QBg]at pm;have el1:ElemsOf (strKind pg wd) e1.toList:=(el.push hk rfl).perm pm;have pz:(e1.toList.map fun e=>NS e.2).Perm (zs++[z]):=by have:=pm.map fun e:Int×Value=>NS e.2;rw[Qa,ez]at this;exact this
  have n1:e1.size=zs.length+1:=by rw[<- QT,<- QD (f:=fun e:Int×Value=>NS e.2),pz.length_eq,QM];rfl
  have nd1:(zs++[z]).Nodup:=qb.mpr ⟨nd,Qk.mpr ⟨Ql,Qw⟩,fun x hx y hy=>by rw[QI.mp hy];exact fun e=>nz (e▸hx)⟩;have b1:e1.size<=sizeLine:=by rw[QV];omega
  have fin:∀(e2:Array (Int×Value)) (t2:SetTable) (h':Heap) (ep':Nat),e2.toList.Perm e1.toList->t2.fits e2.size=true->t2.led=b->t2.plain=false->qP a sh.heap h'->h'.get? a=some { cls:=.type "set",dict:=none,data:=.set e2 ep' t2,slots:=#[] }->Q true { sh with heap:=h',toks:=sh.toks+1 }:=fun e2 t2 h' ep' p2 f2 l2 q2 sb g2=>by have pz2:=(p2.map fun e:Int×Value=>NS e.2).trans pz;refine k true h' _ sb ⟨e2,ep',t2,g2,el1.perm p2,rfl,pz2.nodup_iff.mpr nd1,f2,l2,.inr q2⟩ (fun s=>?_) ?_;rw[pz2.mem_iff,Qf,QI];rw[pz2.length_eq,QM];exact QS _
  have tail:∀t2:SetTable,t2.fits e1.size=true->t2.led=b->t2.plain=false->wpAny (model pg wd) Ar (do
    storeSet a e1 t2
    if(!wd1&&t2.tooFull)=true then do
      (match (relayAll t2 e1 (wy e1.size)).2.2 with|true=>rule "set.scan.the-table-gave-way"|false=>pure ())
      storeSet a (relayAll t2 e1 (wy e1.size)).1 (relayAll t2 e1 (wy e1.size)).2.1
      pure (some true)
     else pure (some true)) (fun x s'=>wpAny (model pg wd) Ar (match x with|some r=>pure r|none=>setAddHashedIn a (.str z tk) ((strKind pg wd).hash z) 99999) Q Er s') Er { sh with toks:=sh.toks+1 }:=fun t2 f2 l2 q2=>by
   refine QA (QBh (s:={ sh with toks:=sh.toks+1 }) e0 rfl ?_ b1);have g1:=ZT (es':=e1) (t':=t2) e0;have sb1:=qK sh.heap a (QBf e1 t2);split;have pr:=relayAll_perm t2 e1 (wy e1.size);have fr:=relayAll_fits t2 e1 (wy e1.size);have lr:=CU t2 e1 (wy e1.size) q2;generalize relayAll t2 e1 (wy e1.size)=R at pr fr lr ⊢;obtain⟨e2,t3,g3⟩:=R;dsimp only at pr fr lr ⊢;refine QA (KT (QA (QBh (s:={ sh with heap:=sh.heap.update a (QBf e1 t2),toks:=sh.toks+1 }) g1 rfl (QJ (QJ ?_)) ?_)));exact fin e2 t3 _ _ pr fr (lr.1.trans l2) lr.2 (sb1.trans (qK _ a _)) (ZT g1);rw[<- QT,pr.length_eq,QT];exact b1;exact QJ (QJ (fin e1 t2 _ _ (wz _) f2 l2 q2 sb1 g1))
  refine QA (KT ?_);cases hpl:t1.plain with
  |true=>rw[if_pos rfl];refine QA ?_;rw[hashByValue_scannable 8 (x:=.str z tk) rfl];exact QJ (tail { t1 with plain:=false } (SetTable.fits_plain_off ft) (ld.trans hb) rfl)
  |false=>rw[if_neg QC];exact QA (QJ (tail t1 ft (ld.trans hb) hpl))
end
end
theorem NM{vs:List Value}{ss:List Str}(h:StrsAre vs ss):vs.length=ss.length/\∀(i:Nat) (v:Value),vs[i]?=some v->∃z t,v=.str z t/\ss[i]?=some z:=by
 induction h with
 |nil=>exact⟨rfl,fun i v e=>by cases e⟩
 |cons y t _ ih =>
  refine⟨congrArg Nat.succ ih.1,fun i v e=>?_⟩;cases i with
  |zero=>cases e;exact⟨y,t,rfl,rfl⟩
  |succ i=>exact ih.2 i v e
section
variable{pg:Program}{wd:World}{Ar:Around}{Er:OB}{sh:Shared}
section
variable{l:Addr}{b:Bool}{xs:Array Value}{ss:List Str}{Q:OB}
theorem JW{S it:Addr}{R:Result->Shared->Prop}(hd:Ar.handled=none)(ne:l≠it)(nS:S∉[it,l])(hs:StrsAre xs.toList ss)(bd:xs.size+1<4096) :
  ∀(n i:Nat) (sh:Shared) (zs:List Str),xs.size - i=n->i<=xs.size->(sh.heap.IsListIter it l i/\sh.heap.IsList l xs)->IH pg wd sh.heap S b zs->(∀s,s∈zs↔s∈ss.take i)->zs.length<=i ->
   (∀s' zs',Moved [S,it] (fun a b=>b=a) sh s'->IH pg wd s'.heap S b zs'->(∀s,s∈zs'↔s∈ss)->zs'.length<=xs.size->R (.ok (.ret .none)) s') ->
   codeAny (model pg wd) Ar (.builtin "set.update.loop" ⟨[.ref S,.ref it],[]⟩) R sh:=by
 have W:=(Walks.list (prog:=pg) (w:=wd) (A:=Ar.in1) hd it l ne xs).toS;obtain⟨hl,hx⟩:=NM hs;rw[QT]at hl;have sub:∀c∈[it],c∈[S,it]:=fun c hc=>QG _ hc;have nw:S∉[it]:=fun z=>nS (QK.mpr (.inl (QI.mp z)));intro n;induction n with
 |zero =>
  intro i sh zs en li st0 st1 mem len k;obtain rfl:i=xs.size:=by omega
  refine wM QAn ?_;rw[qj Wc _];refine QA (m:=pyNext (.ref it)) (W.done sh _ _ st0 fun s' mv=>QJ (k s' zs (mv.mono sub) (st1.at fun o e=>mv.heap S o nw e) ?_ len));intro s;rw[mem,hl,List.take_length]
 |succ n ih =>
  intro i sh zs en li st0 st1 mem len k;have lt:i<xs.size:=by omega
  refine wM QAn ?_;rw[qj Wc _];refine QA (m:=pyNext (.ref it)) (W.item i sh _ _ lt st0 fun v s' pq st' mv=>?_);obtain⟨z,tk,rfl,ez⟩:=hx i v (by rw[qa];exact pq);have st2:IH pg wd s'.heap S b zs:=st1.at fun o e=>mv.heap S o nw e;refine QA (m:=holding [Value.str z tk] (setAdd S (.str z tk))) (qS (EZ st2 (by omega) fun r h' zs' sb st3 m3 l3=>QJ ⟨Wa Wc _,?_⟩));refine ih (i+1) _ zs' (by omega) lt (W.frame _ s' _ _ st' (wU _) fun c hc o e=>?_) st3 (fun s=>?_) (by omega) fun s'' zs'' mv2 st4 m4 l4=>k s'' zs'' (Moved.trans W.gtrans ((mv.mono sub).then_heap (wU _) fun c o hc e=>?_) mv2) st4 m4 l4;rw[sb.2 c fun q=>nS (q▸hc)];exact e;rw[m3,mem,List.take_succ,ez,Qf];simp;rw[sb.2 c fun q=>hc (q▸QE)];exact e
noncomputable abbrev iN(b:Bool):Obj:={ cls:=.type "set",dict:=none,data:=.set #[] 0 (.fresh 0 0 b) }
theorem x3{v:Value}(q:Q (.ref sh.heap.objs.size) { sh with heap:=sh.heap.push (iN (!wd.params.followText "set-order")) }):codeAny (model pg wd) Ar (.call (.builtin "set.__new__") ⟨[.type "set",v],[]⟩) (wants Q Er) sh:=by refine codeAny_of_tree ?_;show wpAny _ Ar.in1 (checkBuiltinCall "set.__new__" ⟨[.type "set",v],[]⟩ >>= fun _=>again (.builtin "set.__new__" ⟨[.type "set",v],[]⟩)) _ _ sh;refine QA (WV (F.newCall_set_1 v) (QJ ⟨Wa QB3 _,wM F.entry_set_new ?_⟩));rw[qj QB3 _];unfold Builtin.«set.__new__» Builtin.Frozenset.newClass;have sub:=sub_set_self;obtain⟨hp,gs,dr,tk,oo⟩:=sh;dsimp only;wp_walk;refine wv (QJ ?_);dsimp only;simp only[newObj];exact QA (wpAny_alloc (QJ (QJ q)))
theorem FX{h:Heap}{a:Addr}(e:h.get? a=some (iN b)):IH pg wd h a b []:=⟨#[],0,_,e,fun _ z=>(nomatch z),rfl,Qw,by cases b<;>decide,rfl,.inl rfl⟩
theorem CL(hd:Ar.handled=none)(hl:sh.heap.IsList l xs)(hs:StrsAre xs.toList ss)(bd:xs.size+1<4096)
  (k:∀(h':Heap) (tk:Nat) (zs:List Str),IH pg wd h' sh.heap.objs.size (!wd.params.followText "set-order") zs->(∀s,s∈zs↔s∈ss)->zs.length<=xs.size->(∀b o,sh.heap.get? b=some o->h'.get? b=some o)->Q (.ref sh.heap.objs.size) { sh with heap:=h',toks:=tk }) :
  wpAny (model pg wd) Ar (call (.type "set") [.ref l]) Q Er sh:=by
 generalize hb:(!wd.params.followText "set-order")=b at k;generalize hn:sh.heap.objs.size=n at k;obtain⟨c,tl,mr⟩:=WF.mro;have md:=WF.made;have sb:=WF.sub;have c1:=WF.notType;have c2:=WF.canCreate;have c3:=F.typeCall_set_1 (.ref l);refine wpAny_call (codeAny_of_tree ?_);show wpAny _ _ (callAny (.type "set") _) _ _ _;refine QJ ⟨Code.quiet_builtin _ (by decide +kernel),wM F.entry_type_call ?_⟩;rw[Around.under_plain (weight_type_call_type "set" [.ref l] []) rfl]
 repeat (any_goals (first|assumption|wp_step))
 refine QAP (x3 (v:=.ref l) (Er:=Er) (Q:=fun p q=>p=.ref n/\q={ sh with heap:=sh.heap.push (iN b) }) ⟨by rw[hn],by rw[hb]⟩) fun r q hr=>?_;cases r with
 |error e=>exact hr
 |ok fl =>
  cases fl with
  |ret obj =>
   obtain⟨rfl,rfl⟩:=hr;have e0:(sh.heap.push (iN b)).get? n=some (iN b):=hn▸QO _ rfl;have ty:Shared.TypeIs { sh with heap:=sh.heap.push (iN b) } (.ref n) "set":=⟨_,e0,rfl⟩
   have li:=WF.init.lookup;have bi:=WF.init.bind (.ref n)
   repeat (any_goals (first|assumption|wp_step))
   refine QAP (codeAny_call_builtin (R:=wants (fun r q=>r=.none/\∃h' tk zs,q={ sh with heap:=h',toks:=tk }/\IH pg wd h' n b zs/\(∀s,s∈zs↔s∈ss)/\zs.length<=xs.size/\∀c o,sh.heap.get? c=some o->h'.get? c=some o) Er) WF.init.plain F.entry_set_init (check_set_init_1 ty ?body)) ?after
   case after =>
    intro r q hr;cases r with
    |error e=>exact hr
    |ok fl =>
     cases fl with
     |ret r =>
      obtain⟨rfl,h',tk,zs,rfl,a1,a2,a3,a4⟩:=hr
      repeat (any_goals (first|assumption|wp_step))
      exact k h' tk zs a1 a2 a3 a4
     |_=>exact hr.elim
   case body =>
    obtain⟨ol,el,cl,nl,dl⟩:=hl;obtain⟨ocls,odict,odata,oslots⟩:=ol;cases cl;cases dl;have el1:(sh.heap.push (iN b)).get? l=some { cls:=.type "list",dict:=odict,data:=.seq xs nl,slots:=oslots }:=QH _ el;have t1:=F.sub_list_set;have t2:=F.sub_list_frozenset;have t3:(Value.type "list" == Value.type "dict")=false:=by decide
    have l1:(sh.heap.push (iN b)).IsList l xs:=⟨_,el1,rfl,nl,rfl⟩
    unfold Builtin.«set.__init__» noKeywords Builtin.Frozenset.updateFrom;generalize hi:pyIter=it;wp_walk;subst hi;refine Wk l1 (QA (wpAny_runValue ?_));have lt:l<sh.heap.objs.size:=QR el;have sz:(sh.heap.push (iN b)).objs.size=n+1:=by rw[wV,hn]
    rw[hn]at lt;refine JW (b:=b) (ss:=ss) (by simp[hd]) (show l≠_ by rw[sz];exact Qd (qt lt)) (fun z=>?_) hs bd xs.size 0 _ [] (Nat.sub_zero _) (Qy _) ⟨⟨_,QO _ rfl,rfl,rfl⟩,l1.push _⟩ (FX (QH _ e0)) (fun s=>?_) (QS _) fun s' zs' mv st m ln=>?_;rw[sz]at z;rcases QK.mp z with z|z;exact Qd (WP _) z;exact wG lt (QI.mp z);rw[List.take_zero];obtain⟨h',gs,dr,tk,oo⟩:=s';cases mv.gens;cases mv.drawn;cases mv.os;refine QJ ?_;refine QJ ⟨rfl,h',tk,zs',rfl,st,m,ln,fun c o e=>?_⟩;have lc:c<n:=hn▸QR e;refine mv.heap c o (fun z=>?_) (QH _ (QH _ e));rw[sz]at z;rcases QK.mp z with z|z;exact Qd lc z;exact Qd (qt lc) (QI.mp z)
  |_=>exact hr.elim
end
end
section
variable{pg:Program}{wd:World}{M:Model}{Ar:Around}{Er:OB}{sh:Shared}
theorem HM{src:Source}{n:Nat}{Q:Nat->Shared->Prop}(hn:n≠0)(h:∀i d,i<n->Q i { sh with drawn:=d }):wpAny M Ar (choose src n) Q Er sh:=fun _ _ _=>by unfold choose;rw[Sem.wp_choose];exact⟨hn,by rw[Sem.wp_pure];exact h _ _ (Nat.mod_lt _ (Nat.pos_of_ne_zero hn))⟩
theorem SK{α:Type}{xs:List α}{i:Nat}(h:i<xs.length):(xs[i]::xs.eraseIdx i).Perm xs:=by rw[List.eraseIdx_eq_take_drop_succ];refine List.perm_middle.symm.trans ?_;rw[<- WO h,QA0]
theorem VY{α:Type}:∀(n:Nat) (xs:List α) (sh:Shared) {Q:List α->Shared->Prop},xs.length=n->(∀L d,L.Perm xs->Q L { sh with drawn:=d })->wpAny M Ar (drawOrder n xs) Q Er sh:=by
 intro n;induction n with
 |zero=>intro xs sh Q hl k;obtain rfl:=qi.mp hl;exact QJ (k [] sh.drawn (wz _))
 |succ n ih =>
  intro xs sh Q hl k;cases xs with
  |nil=>cases hl
  |cons x r=>unfold drawOrder;refine QA (HM (by rw[hl];exact Nat.succ_ne_zero n) fun i d hi=>?_);rw[Qx hi];refine QA (ih ((x::r).eraseIdx i) _ (by rw[QAL hi,hl];rfl) fun L d' p=>QJ (k _ d' ((p.cons _).trans (SK hi))))
theorem MU{α:Type}(f:Nat->Nat):∀(n k:Nat) (xs:List α) (out:Array α),xs.length=n->(pickOrder.go f n k xs out).toList.Perm (out.toList++xs):=by
 intro n;induction n with
 |zero=>intro k xs out hl;obtain rfl:=qi.mp hl;rw[wK];exact wz _
 |succ n ih=>intro k xs out hl;have hi:f k % xs.length<xs.length:=Nat.mod_lt _ (by omega);unfold pickOrder.go;rw[Qx hi];refine(ih (k+1) _ _ (by rw[QAL hi,hl];rfl)).trans ?_;rw[QBg,qr];exact(SK hi).append_left _
end
namespace F
theorem xP:Manifest.owners.lookup (String.ofList ['r','o','t','a','r','e','t','i','_','t','e','s'].reverse)=some Manifest.sig_set_iterator:=by kernel_rfl
theorem slot_si:Slot "set_iterator" "__next__" "set_iterator.__next__":=.of (owner:="set_iterator") (n:="__next__") (by rw[typeLookup_type,QA1];kernel_rfl) (by decide +kernel) (by decide +kernel) (by decide +kernel) (by first|exact .inl (by decide +kernel)|exact .inr (by decide +kernel)) (by rw[QBB];kernel_rfl)
theorem entry_si:entryFor table "set_iterator.__next__"=some Builtin.«set_iterator.__next__»:=entryFor_of_tree (by kernel_rfl)
theorem args_si(a:Value):argsOk "set_iterator.__next__" ⟨[a],[]⟩:=by unfold argsOk;rw[signature?_of (id:="set_iterator.__next__") (n:=['_','_','t','x','e','n','_','_']) (o:=['r','o','t','a','r','e','t','i','_','t','e','s']) (by kernel_rfl) xP];kernel_rfl
theorem entry_set_iter:entryFor table "set.__iter__"=some Builtin.«frozenset.__iter__»:=entryFor_alias (id':="frozenset.__iter__") (by kernel_rfl) rfl (by decide +kernel) (by kernel_rfl)
end F
def UM(h:Heap)(j a:Addr)(f:Value)(i n ep:Nat):Prop:=∃o,h.get? j=some o/\o.cls=.type "set_iterator"/\o.data=.fields #[f,rawInt i,.ref a,rawInt n,rawInt ep]
theorem UM.ty{sh:Shared}{j a:Addr}{f:Value}{i n ep:Nat}(x:UM sh.heap j a f i n ep):sh.TypeIs (.ref j) "set_iterator":=let⟨o,e,c,_⟩:=x;⟨o,e,c⟩
noncomputable abbrev setO(es:Array (Int×Value))(ep:Nat)(t:SetTable):Obj:={ cls:=.type "set",dict:=none,data:=.set es ep t,slots:=#[] }
section
variable{pg:Program}{wd:World}{Ar:Around}{Er:OB}{sh:Shared}{j a:Addr}{es:Array (Int×Value)}{ep:Nat}{t:SetTable}
section
variable{Q:Option Value->Shared->Prop}{h:Heap}{f:Value}{i i' n s:Nat}
theorem XS{P:QCF->Shared->Prop}{Ee:OB}(hd:Ar.handled=none)(k:∀e h',Shared.TypeIs { sh with heap:=h' } e "StopIteration"->(∀b o,sh.heap.get? b=some o->h'.get? b=some o)->Ee e { sh with heap:=h' }) :
  wpAny (model pg wd) Ar.in1 (do raiseNew (<- newExc (.type "StopIteration") []):Sem QCF) P Ee sh:=by
 simp only[newExc,newTuple,raiseNew];refine QA (QA (Qr ?_ (by size_fits)));refine QA (m:=firstArgMember _ _) (WV (a:=Value.none) (by first|rfl | (rw[firstArgMember];rfl)) (Qr ?_ (by size_fits)));refine QA (QAl ?_);rw[show Ar.in1.handled=none from hd];refine QA (QJ (QBF (k _ _ ?_ ?_)));exact⟨_,QO _ rfl,rfl⟩;exact fun b o e=>QH _ (QH _ e)
theorem DO{e:Value}(ty:sh.TypeIs e "StopIteration")(q:Q none sh):wpAny (model pg wd) Ar (do if <- isInstance e (.type "StopIteration") then pure none else throw e) Q Er sh:=by refine QA (W6 (T:="StopIteration") (b:=true) ty (by kernel_rfl) ?_);rw[if_pos rfl];exact QJ q
theorem UM.put{f':Value}(it:UM h j a f i n ep):UM ((h.update j (qY (·.setIfInBounds 0 f'))).update j (qY (·.setIfInBounds 1 (rawInt i')))) j a f' i' n ep:=by obtain⟨o,ho,hc,hdt⟩:=it;have e1:=Q0 (qY (·.setIfInBounds 0 f')) ho (qd (Q3 hdt _));have d1:=Q3 hdt (·.setIfInBounds 0 f');refine⟨_,Q0 _ e1 (qd (Q3 d1 _)),(WJ ..).trans ((WJ ..).trans hc),?_⟩;rw[Q3 d1];simp
theorem UM.put1(it:UM h j a f i n ep):UM (h.update j (qY (·.setIfInBounds 1 (rawInt i')))) j a f i' n ep:=by obtain⟨o,ho,hc,hdt⟩:=it;refine⟨_,Q0 _ ho (qd (Q3 hdt _)),(WJ ..).trans hc,?_⟩;rw[Q3 hdt];simp
theorem eW{r:Option (Value×Nat)}(hd:Ar.handled=none)(it:UM sh.heap j a (rawInt s) i n ep)(e0:sh.heap.get? a=some (setO es ep t))(hf:t.fits es.size=true)(hn:n=es.size)
  (nx:∀{A:Around}{E:OB}{q:Option (Value×Nat)->Shared->Prop},q r sh->wpAny (model pg wd) A (setNext a s i ep) q E sh)
  (k1:∀x s' h',r=some (x,s')->UM h' j a (rawInt s') (i+1) n ep->(∀b o,b≠j->sh.heap.get? b=some o->h'.get? b=some o)->Q (some x) { sh with heap:=h' })
  (k2:r=none->∀h',(∀b o,b≠j->sh.heap.get? b=some o->h'.get? b=some o)->Q none { sh with heap:=h' }) :
  wpAny (model pg wd) Ar (pyNext (.ref j)) Q Er sh:=by
 have ty:=it.ty;obtain⟨o,ho,hc,hdt⟩:=id it;unfold pyNext;refine QA (WZ (qB (name:=Qh "__next__") ty F.slot_si (Qz F.slot_si ty F.entry_si ?_ (F.args_si _))));unfold Builtin.«set_iterator.__next__»;refine QA (WV (a:=(Value.ref j,[])) rfl (QA (WN ho hdt ?_)));show wpAny _ _ (setEntries a >>= _) _ _ _;refine QA (QAG e0 rfl hf ?_);rw[if_neg (show ¬ (((es.size:Nat):Int) != ((n:Nat):Int))=true by rw[hn];simp)];show wpAny _ _ (setNext a s i ep >>= _) _ _ _;refine QA (nx ?_);cases r with
 |some p=>obtain⟨x,s'⟩:=p;refine QA (qw ho hdt (by simp) ?_);have e1:=Q0 (qY (·.setIfInBounds 0 (rawInt s'))) ho (qd (Q3 hdt _));refine QA (qw (s:={ sh with heap:=sh.heap.update j (qY (·.setIfInBounds 0 (rawInt s'))) }) e1 (Q3 hdt _) (by simp) ?_);refine QJ ⟨x,rfl,QJ (k1 x s' _ rfl ?_ fun b o hb e=>?_)⟩;exact it.put (i':=i+1);rw[Q8 _ _ (Q2 hb),Q8 _ _ (Q2 hb)];exact e
 |none=>refine QA (qw ho hdt (by simp) ?_);exact XS (sh:={ sh with heap:=sh.heap.update j (qY (·.setIfInBounds 2 Value.none)) }) hd fun e h' ty kp=>DO (sh:={ sh with heap:=h' }) ty (k2 rfl h' fun b o hb e=>kp b o (by rw[Q8 _ _ (Q2 hb)];exact e))
theorem aW{p:Addr}{L:List Nat}{op:Obj}{c:Nat}(hd:Ar.handled=none)(it:UM sh.heap j a (.ref p) i n ep)(e0:sh.heap.get? a=some (setO es ep t))(hf:t.fits es.size=true)(hn:n=es.size)
  (eo:sh.heap.get? p=some op) (dp:op.data=.seq (L.map fun i=>rawInt (i:Nat)).toArray c) (hL:∀m∈L,m<es.size)
  (k1:∀m x h',L[i]?=some m->es[m]?=some x->UM h' j a (.ref p) (i+1) n ep->(∀b o,b≠j->sh.heap.get? b=some o->h'.get? b=some o)->Q (some x.2) { sh with heap:=h' })
  (k2:L[i]?=none->∀h',(∀b o,b≠j->sh.heap.get? b=some o->h'.get? b=some o)->Q none { sh with heap:=h' }) :
  wpAny (model pg wd) Ar (pyNext (.ref j)) Q Er sh:=by
 have ty:=it.ty;obtain⟨o,ho,hc,hdt⟩:=id it;unfold pyNext;refine QA (WZ (qB (name:=Qh "__next__") ty F.slot_si (Qz F.slot_si ty F.entry_si ?_ (F.args_si _))));unfold Builtin.«set_iterator.__next__»;refine QA (WV (a:=(Value.ref j,[])) rfl (QA (WN ho hdt ?_)));show wpAny _ _ (setEntries a >>= _) _ _ _;refine QA (QAG e0 rfl hf ?_);rw[if_neg (show ¬ (((es.size:Nat):Int) != ((n:Nat):Int))=true by rw[hn];simp)];show wpAny _ _ (seqItems? (.ref p) >>= _) _ _ _;refine QA (QA9 eo dp ?_);have gi:(L.map fun i=>rawInt (i:Nat)).toArray[i]?=(L[i]?).map fun i=>rawInt (i:Nat):=by rw[List.getElem?_toArray,Qc]
 show wpAny _ _ (match (L.map fun i=>rawInt (i:Nat)).toArray[i]? with|some (Value.int place _)=>_|some _=>_|none=>_) _ _ _;rw[gi];cases eL:L[i]? with
 |some m=>have lm:=hL m (qD eL);have ex:es[m]?=some es[m]:=wW lm;show wpAny _ _ (setNextDrawn a m ep >>= _) _ _ _;unfold setNextDrawn;refine QA (QA (wj e0 rfl hf ?_));show wpAny _ _ (if(ep != ep)=true then _ else _) _ _ _;rw[if_neg (by simp)];show wpAny _ _ (match es[m]? with|some (_,x)=>_|_=>_) _ _ _;rw[ex];refine QJ (QA (qw ho hdt (by simp) ?_));refine QJ ⟨_,rfl,QJ (k1 m _ _ eL ex ?_ fun b o hb e=>?_)⟩;exact it.put1 (i':=i+1);rw[Q8 _ _ (Q2 hb)];exact e
 |none=>show wpAny _ _ (setField (.ref j) 0 (rawInt 0) >>= _) _ _ _;refine QA (qw ho hdt (by simp) ?_);have e1:=Q0 (qY (·.setIfInBounds 0 (rawInt 0))) ho (qd (Q3 hdt _));refine QA (qw (s:={ sh with heap:=sh.heap.update j (qY (·.setIfInBounds 0 (rawInt 0))) }) e1 (Q3 hdt _) (by simp) ?_);exact XS (sh:={ sh with heap:=(sh.heap.update j (qY (·.setIfInBounds 0 (rawInt 0)))).update j (qY (·.setIfInBounds 2 Value.none)) }) hd fun e h' ty kp=>DO (sh:={ sh with heap:=h' }) ty (k2 eL h' fun b o hb e=>kp b o (by rw[Q8 _ _ (Q2 hb),Q8 _ _ (Q2 hb)];exact e))
theorem IU{Q:Option (Value×Nat)->Shared->Prop}(hb:wd.params.followText "set-order"=true)(e0:sh.heap.get? a=some (setO es ep t))(hf:t.fits es.size=true)(q:Q (((pickOrder (wd.params.setOrder a ep) es)[i]?).map fun e=>(e.2,0)) sh):wpAny (model pg wd) Ar (setNext a 0 i ep) Q Er sh:=by unfold setNext setWalk setsByText;refine QA (wj e0 rfl hf (QA (QA (wv (QJ ?_)))));rw[if_pos (by exact hb)];show wpAny _ _ (if(ep != ep)=true then _ else _) _ _ _;rw[if_neg (by simp)];refine QA (QA (wj e0 rfl hf (QA (QA (wv (QJ ?_))))));rw[if_pos (by exact hb)];exact QA (wv (QJ (QJ q)))
theorem BX{Q:Option (Value×Nat)->Shared->Prop}(hb:wd.params.followText "set-order"=false)(e0:sh.heap.get? a=some (setO es ep t))(hf:t.fits es.size=true)(h1:es.size<=1)(hl:t.led=true)
  (q:Q (match es[wY t.place s]?,t.place[wY t.place s]? with|some (_,x),some j=>some (x,j+1)|_,_=>none) sh):wpAny (model pg wd) Ar (setNext a s i ep) Q Er sh:=by
 unfold setNext setsByText;refine QA (wj e0 rfl hf (QA (QA (wv (QJ ?_)))));rw[if_neg (by show ¬ wd.params.followText "set-order"=true;rw[hb];exact QC)];show wpAny _ _ (if(!t.plain&&decide (es.size > 1))=true then _ else _) _ _ _;rw[if_neg (by rw[dF (by omega),Bool.and_false];exact QC)];refine QA (m:=if(!t.led&&!es.isEmpty)=true then unsupported "set:maker-not-led" else pure ()) ?_;rw[if_neg (by rw[hl];exact QC)];exact QJ (QJ q)
end
end
namespace F
theorem slot_sii:Slot "set_iterator" "__iter__" "set_iterator.__iter__":=.of (owner:="set_iterator") (n:="__iter__") (by rw[typeLookup_type,QA1];kernel_rfl) (by decide +kernel) (by decide +kernel) (by decide +kernel) (by first|exact .inl (by decide +kernel)|exact .inr (by decide +kernel)) (by rw[QBB];kernel_rfl)
theorem args_sii(a:Value):argsOk "set_iterator.__iter__" ⟨[a],[]⟩:=by unfold argsOk;rw[signature?_of (id:="set_iterator.__iter__") (n:=['_','_','r','e','t','i','_','_']) (o:=['r','o','t','a','r','e','t','i','_','t','e','s']) (by kernel_rfl) xP];kernel_rfl
theorem entry_sii:entryFor table "set_iterator.__iter__"=some Builtin.«dict_keyiterator.__iter__»:=entryFor_alias (id':="dict_keyiterator.__iter__") (by kernel_rfl) (by first|rfl|decide +kernel | (unfold String.splitOn;simp +decide [String.splitOnAux])) (by decide +kernel) (by kernel_rfl)
end F
section
variable{pg:Program}{wd:World}{Ar:Around}{Er:OB}{sh:Shared}{j a:Addr}{es:Array (Int×Value)}{ep:Nat}{t:SetTable}
section
variable{f:Value}{i n:Nat}{Q:OB}{ord:List Value}{L:List Nat}{acc:Array Value}
theorem FS(it:UM sh.heap j a f i n ep)(q:Q (.ref j) sh):wpAny (model pg wd) Ar (pyIter (.ref j)) Q Er sh:=by refine Wm it.ty F.slot_sii (Qz F.slot_sii it.ty F.entry_sii ?_ (F.args_sii _));show wpAny _ _ (ret (.ref j)) _ _ sh;exact QJ ⟨_,rfl,"set_iterator",_,it.ty,F.slot_si.lookup,q⟩
theorem UM.at{h h':Heap}(it:UM h j a f i n ep)(k:∀o,h.get? j=some o->h'.get? j=some o):UM h' j a f i n ep:=by obtain⟨o,e,r⟩:=it;exact⟨o,k o e,r⟩
theorem TV{g:Nat->Nat}(hd:Ar.handled=none)(na:a≠j)(hf:t.fits es.size=true)(hn:n=es.size)
  (nx:∀(i:Nat) (A:Around) (s:Shared) (E:OB) (q:Option (Value×Nat)->Shared->Prop),i<=ord.length->s.heap.get? a=some (setO es ep t)->q ((ord[i]?).map fun x=>(x,g (i+1))) s->wpAny (model pg wd) A (setNext a (g i) i ep) q E s) :
  Walks pg wd Ar j [j,a] [j] ord.length (fun i v=>ord[i]?=some v) (fun i h=>UM h j a (rawInt (g i)) i n ep/\h.get? a=some (setO es ep t)) where
 sub:=fun b hb=>QK.mpr (.inl (QI.mp hb))
 frame:=fun i h h' st k=>⟨st.1.at fun o e=>k j QE o e,k a (QG _ QE) _ st.2⟩
 item:=fun i s Q E hi st q=>eW (r:=(ord[i]?).map fun x=>(x,g (i+1))) hd st.1 st.2 hf hn (fun {A E' q'} h=>nx i A s E' q' (QAN hi) st.2 h)
  (fun x s' h' e it kp=>by rw[Qx hi]at e;cases e;exact q _ h' s.toks (Qx hi) ⟨it,kp a _ na st.2⟩ fun b o hb e=>kp b o (fun z=>hb (QI.mpr z)) e)
  fun e=>by rw[Qx hi]at e;cases e
 done:=fun s Q E st q=>eW (r:=(ord[ord.length]?).map fun x=>(x,g (ord.length+1))) hd st.1 st.2 hf hn (fun {A E' q'} h=>nx _ A s E' q' (QS _) st.2 h)
  (fun x s' h' e=>by rw[qH (QS _)]at e;cases e)
  fun _ h' kp=>q h' s.toks fun b o hb e=>kp b o (fun z=>hb (QI.mpr z)) e
 self:=fun i s Q E st q=>FS st.1 q
theorem SV{p:Addr}{op:Obj}{c:Nat}(hd:Ar.handled=none)(na:a≠j)(np:p≠j)(hf:t.fits es.size=true)(hn:n=es.size)(dp:op.data=.seq (L.map fun i=>rawInt (i:Nat)).toArray c)(hL:∀m∈L,m<es.size) :
  Walks pg wd Ar j [j,a,p] [j] L.length (fun i v=>∃m e,L[i]?=some m/\es[m]?=some e/\v=e.2) (fun i h=>UM h j a (.ref p) i n ep/\h.get? a=some (setO es ep t)/\h.get? p=some op) where
 sub:=fun b hb=>QK.mpr (.inl (QI.mp hb))
 frame:=fun i h h' st k=>⟨st.1.at fun o e=>k j QE o e,k a (QG _ QE) _ st.2.1,k p (QG _ (QG _ QE)) _ st.2.2⟩
 item:=fun i s Q E hi st q=>aW hd st.1 st.2.1 hf hn st.2.2 dp hL
  (fun m x h' e ex it kp=>q _ h' s.toks ⟨m,x,e,ex,rfl⟩ ⟨it,kp a _ na st.2.1,kp p _ np st.2.2⟩ fun b o hb e=>kp b o (fun z=>hb (QI.mpr z)) e)
  fun e=>by rw[Qx hi]at e;cases e
 done:=fun s Q E st q=>aW hd st.1 st.2.1 hf hn st.2.2 dp hL (fun m x h' e=>by rw[qH (QS _)]at e;cases e)
  fun _ h' kp=>q h' s.toks fun b o hb e=>kp b o (fun z=>hb (QI.mpr z)) e
 self:=fun i s Q E st q=>FS st.1 q
def gZ(pg:Program)(wd:World)(s:Shared)(j n:Addr)(es:List (Int×Value)):Prop :=
 ∃(fp:List Addr) (P:Nat->Value->Prop) (St:Nat->Heap->Prop),(∀A:Around,A.handled=none->Walks pg wd A j fp [j] es.length P St)/\St 0 s.heap/\(∀b∈fp,b<s.heap.objs.size)/\n∉fp/\∀acc:Array Value,ItemsOf P acc es.length->acc.toList.Perm (es.map (·.2))
theorem uY(hn:n=ord.length)(h:ItemsOf (fun i v=>ord[i]?=some v) acc n):acc.toList=ord:=by obtain⟨h1,h2⟩:=h;have h1:acc.toList.length=ord.length:=h1.trans hn;refine List.ext_getElem h1 fun i x y=>?_;have this:ord[i]?=some acc[i]:=h2 i acc[i] (wW x);rw[Qx y]at this;exact(qL this).symm
theorem nV(h:ItemsOf (fun i v=>∃m e,L[i]?=some m/\es[m]?=some e/\v=e.2) acc L.length):acc.toList=L.filterMap fun m=>(es[m]?).map (·.2):=by
 obtain⟨g1,h2⟩:=h;have h1:acc.toList.length=L.length:=g1;clear g1;generalize hv:acc.toList=vs at h1;have h3:∀(i:Nat) (v:Value),vs[i]?=some v->∃m e,L[i]?=some m/\es[m]?=some e/\v=e.2:=fun i v e=>h2 i v (by rw[<- hv,qa]at e;exact e);clear hv h2;induction vs generalizing L with
 |nil=>cases L with
  |nil=>rfl
  |cons _ _=>cases h1
 |cons v vs ih=>cases L with
  |nil=>cases h1
  |cons m L=>obtain⟨m',e,e1,e2,rfl⟩:=h3 0 v rfl;cases e1;rw[WU,e2];exact congrArg _ (ih (QAS h1) fun i v e=>h3 (i+1) v e)
noncomputable abbrev AQ(f:Value)(a n ep:Nat):Obj:={ cls:=.type "set_iterator",data:=.fields #[f,rawInt ((0:Nat):Int),.ref a,rawInt n,rawInt ep] }
noncomputable abbrev MM(L:List Nat):Obj:={ cls:=.type "tuple",data:=.seq (L.map fun i=>rawInt (i:Nat)).toArray }
theorem V9{n:Addr}(e0:sh.heap.get? a=some (setO es ep t))(hf:t.fits es.size=true)(hz:es.size<=4096)(led:wd.params.followText "set-order"=false->t.led=true)(pl:es.size=0∨t.plain=false)(na:n≠a)(ln:n<sh.heap.objs.size)
  (k:∀s' j,(∀b o,sh.heap.get? b=some o->s'.heap.get? b=some o)->s'.gens=sh.gens->s'.os=sh.os->s'.toks=sh.toks->(∀b o,sh.heap.get? b=some o->b≠j)->gZ pg wd s' j n es.toList->Q (.ref j) s'):wpAny (model pg wd) Ar (pyIter (.ref a)) Q Er sh:=by
 have ty:sh.TypeIs (.ref a) "set":=⟨_,e0,rfl⟩
 have hs:sizeLine=16777216:=QV;have la:=QR e0;refine Wm ty QB4 (Qz QB4 ty F.entry_set_iter ?_ (F.args_set_iter_1 _));unfold Builtin.«frozenset.__iter__» Builtin.Frozenset.slot0 Builtin.Frozenset.sizeOf setDrawn setsByText;refine QA (QA (WV (a:=(Value.ref a,[])) rfl (QJ ?_)));refine QA (QA (QAG e0 rfl hf (QJ ?_)));refine QA (QA (wj e0 rfl hf (QA (QA (wv (QJ (QJ ?_)))))));dsimp only;have fin:∀(s1:Shared) (f:Value),s1.gens=sh.gens->s1.os=sh.os->s1.toks=sh.toks->(∀b o,sh.heap.get? b=some o->s1.heap.get? b=some o)->gZ pg wd { s1 with heap:=s1.heap.push (AQ f a es.size ep) } s1.heap.objs.size n es.toList ->
   wpAny (model pg wd) Ar.in1 (do let e <- setEpoch a;let v <- newFields "set_iterator" [f,rawInt 0,.ref a,rawInt es.size,rawInt e];ret v) (fun fin s'=>∃v,fin=.done (.ret v)/\∃T' r,s'.TypeIs v T'/\typeLookup (.type T') (Qh "__next__")=pure (some r)/\Q v s') Er s1:=fun s1 f g1 g2 g3 kp gv=>by
  refine QA (wpAny_setEpoch_of (kp a _ e0) rfl hf (QA (Qr ?_)));refine QJ ⟨_,rfl,"set_iterator",_,⟨_,QO _ rfl,rfl⟩,F.slot_si.lookup,k _ _ (fun b o e=>QH _ (kp b o e)) g1 g2 g3 (fun b o e=>Qd (QR (kp b o e))) gv⟩
 have lt1:∀{s1:Heap}{o:Obj},∀b,b<s1.objs.size->b<(s1.push o).objs.size:=fun {s1 o} b h=>by rw[wV];exact qt h
 show wpAny _ _ (if(!wd.params.followText "set-order" && (!t.plain&&decide (es.size > 1)))=true then _ else _) _ _ _;by_cases c:(!wd.params.followText "set-order" && (!t.plain&&decide (es.size > 1)))=true;rw[if_pos c];refine QA (VY es.size _ sh qe fun L d p=>QA (QBA ?_ (by rw[QD,p.length_eq,qe];omega)));have lp:L.length=es.size:=by rw[p.length_eq,qe]
 have hL:∀m∈L,m<es.size:=fun m hm=>Wo.mp (p.mem_iff.mp hm);refine fin { sh with drawn:=d,heap:=sh.heap.push (MM L) } _ rfl rfl rfl (fun b o e=>QH _ e) ?_;have nj:∀{b},b<sh.heap.objs.size->b≠(sh.heap.push (MM L)).objs.size:=fun h=>by rw[wV];exact Qd (qt h)
 have gJ:=QO (o:=AQ (.ref sh.heap.objs.size) a es.size ep) (sh.heap.push (MM L)) rfl;have gP:((sh.heap.push (MM L)).push (AQ (.ref sh.heap.objs.size) a es.size ep)).get? sh.heap.objs.size=some (MM L):=QH _ (QO _ rfl);have gA:=QH (AQ (.ref sh.heap.objs.size) a es.size ep) (QH (MM L) e0);refine⟨[(sh.heap.push (MM L)).objs.size,a,sh.heap.objs.size],fun i v=>∃m e,L[i]?=some m/\es[m]?=some e/\v=e.2,fun i h=>UM h (sh.heap.push (MM L)).objs.size a (.ref sh.heap.objs.size) i es.size ep/\h.get? a=some (setO es ep t)/\h.get? sh.heap.objs.size=some (MM L),fun A hd=>?_,⟨⟨_,gJ,rfl,rfl⟩,gA,gP⟩,fun b hb=>?_,fun z=>?_,fun acc h=>?_⟩;rw[QT,<- lp];refine SV hd (nj la) (by rw[wV];exact Qd (WP _)) hf lp (c:=0) rfl hL;rcases QK.mp hb with z|z
 ·rw[z];exact QR gJ
 rcases QK.mp z with z|z
 ·rw[z];exact QR gA
 rw[QI.mp z];exact QR gP;rcases QK.mp z with z|z
 ·exact nj ln z
 rcases QK.mp z with z|z
 ·exact na z
 exact Qd ln (QI.mp z);rw[QT,<- lp]at h;rw[nV h];refine(p.filterMap _).trans ?_;rw[<- List.map_filterMap,filterMap_getElem?_range];rw[if_neg c];have nj:∀{b},b<sh.heap.objs.size->b≠sh.heap.objs.size:=fun h=>Qd h;refine fin sh _ rfl rfl rfl (fun _ _ e=>e) ?_;have bySlots:∀(g:Nat->Nat) (ord:List Value),g 0=0->ord.length=es.size->ord.Perm (es.toList.map (·.2))->(∀(i:Nat) (A:Around) (s:Shared) (E:OB) (q:Option (Value×Nat)->Shared->Prop),i<=ord.length->s.heap.get? a=some (setO es ep t)->q ((ord[i]?).map fun x=>(x,g (i+1))) s->wpAny (model pg wd) A (setNext a (g i) i ep) q E s) ->
   gZ pg wd { sh with heap:=sh.heap.push (AQ (rawInt 0) a es.size ep) } sh.heap.objs.size n es.toList:=fun g ord g0 lo po nx=>by
  have gJ:=QO (o:=AQ (rawInt 0) a es.size ep) sh.heap rfl;have gA:=QH (AQ (rawInt 0) a es.size ep) e0;refine⟨[sh.heap.objs.size,a],fun i v=>ord[i]?=some v,fun i h=>UM h sh.heap.objs.size a (rawInt (g i)) i es.size ep/\h.get? a=some (setO es ep t),fun A hd=>?_,⟨⟨_,gJ,rfl,by rw[g0];rfl⟩,gA⟩,fun b hb=>?_,fun z=>?_,fun acc h=>?_⟩;rw[QT,<- lo];exact TV hd (nj la) hf lo nx;rcases QK.mp hb with z|z
  ·rw[z];exact QR gJ
  rw[QI.mp z];exact QR gA;rcases QK.mp z with z|z
  ·exact nj ln z
  exact na (QI.mp z);rw[uY (by rw[QT,lo]) h];exact po
 cases hb:wd.params.followText "set-order" with
 |true =>
  have pp:(pickOrder (wd.params.setOrder a ep) es).toList.Perm es.toList:=by have:=MU (wd.params.setOrder a ep) es.size 0 es.toList #[] (QT ..);exact this
  refine bySlots (fun _=>0) ((pickOrder (wd.params.setOrder a ep) es).toList.map (·.2)) rfl ?_ (pp.map _) fun i A s E q hi e q'=>IU hb e hf ?_;rw[QD,pp.length_eq,QT];rw[Qc,qa,Option.map_map]at q';exact q'
 |false =>
  have sz:es.size<=1:=by rw[hb]at c;rcases pl with z|z;omega;rw[z]at c;simp at c;omega
  have ps:t.place.size=es.size:=by unfold SetTable.fits at hf;simp only[Qe,beq_iff_eq]at hf;exact hf.1
  refine bySlots (fun i=>if i=0 then 0 else t.place.getD 0 0+1) (es.toList.map (·.2)) rfl (by rw[QD,QT]) (wz _) fun i A s E q hi e q'=>BX hb e hf sz (led hb) ?_;have q1:(match es[wY t.place (if i=0 then 0 else t.place.getD 0 0+1)]?,t.place[wY t.place (if i=0 then 0 else t.place.getD 0 0+1)]? with|some (_,x),some j=>some (x,j+1)|_,_=>none)=((es.toList.map (·.2))[i]?).map fun x=>(x,if i+1=0 then 0 else t.place.getD 0 0+1):=by
   rw[QD,QT]at hi;rw[Qc,qa];generalize t.place=P at ps ⊢;obtain⟨P⟩:=P;obtain⟨el⟩:=es;have ps:P.length=el.length:=ps;have sz:el.length<=1:=sz;have hi:i<=el.length:=hi;have cs:(el=[]/\P=[])∨∃h x p,el=[(h,x)]/\P=[p]:=by
    cases el with
    |nil=>exact .inl ⟨rfl,qi.mp ps⟩
    |cons y r=>rw[QL]at sz ps;obtain rfl:r=[]:=qi.mp (by omega);obtain⟨p,hp⟩:=List.length_eq_one_iff.mp ps;exact .inr ⟨y.1,y.2,p,rfl,hp⟩
   rcases cs with⟨rfl,rfl⟩| ⟨h,x,p,rfl,rfl⟩
   obtain rfl:i=0:=Nat.le_zero.mp hi;rfl;rcases Nat.le_one_iff_eq_zero_or_eq_one.mp hi with rfl|rfl
   ·rfl
   have:wY #[p] (p+1)=1:=by unfold wY;show QBi #[p] (p+1) 1 0 1=1;unfold QBi;rw[if_pos (by decide)];show(if p<p+1 then _ else _)=1;rw[if_pos (WP p)];rfl
   show(match (#[(h,x)]:Array (Int×Value))[wY #[p] (p+1)]?,(#[p]:Array Nat)[wY #[p] (p+1)]? with|some (_,x),some j=>some (x,j+1)|_,_=>none)=none;rw[this];rfl
  rw[<- q1]at q';exact q'
end
end
section
noncomputable abbrev nL:Obj:={ cls:=.type "list",data:=.seq #[] }
variable{pg:Program}{wd:World}{Ar:Around}{Er:OB}{sh:Shared}{a:Addr}
theorem VS:∀{vs:List Value},(∀v∈vs,∃t,v=.str (NS v) t)->StrsAre vs (vs.map NS)
 |[],_=>.nil
 |v::vs,h=>by obtain⟨t,e⟩:=h v QE;have r:=VS (vs:=vs) fun w hw=>h w (QG _ hw);have:=StrsAre.cons (NS v) t r;rw[<- e]at this;exact this
theorem gQ{zs:List Str}{Q:List Value->Shared->Prop}(hd:Ar.handled=none)(S:IH pg wd sh.heap a (!wd.params.followText "set-order") zs)(bd:zs.length<=4000)
  (k:∀s' vs ys,StrsAre vs ys->ys.Perm zs->(∀b o,sh.heap.get? b=some o->s'.heap.get? b=some o)->s'.gens=sh.gens->s'.os=sh.os->sh.heap.objs.size<s'.heap.objs.size->Q vs s'):wpAny (model pg wd) Ar (collect (.ref a)) Q Er sh:=by
 obtain⟨es,ep,t,e0,el,ez,nd,hf,hb,hp⟩:=S;have sz:es.size=zs.length:=by rw[<- ez,QD,QT]
 have hs:sizeLine=16777216:=QV;have la:=QR e0;generalize hn:sh.heap.objs.size=n at la;have na:n≠a:=wG la;unfold collect;refine QA (wpAny_runValue (wM F.entry_proto_collect ?_));rw[qj F.plain_proto_collect _];refine QA (m:=newList []) (Qr ?_);rw[hn];refine QJ ⟨Wa QBj _,wM F.entry_list_iadd ?_⟩;rw[qj QBj _];show wpAny _ Ar.in1 (QAH (.ref n) (.ref a) (.ref n)) _ _ _;have gN:(sh.heap.push nL).get? n=some nL:=hn▸QO _ rfl;have gA:(sh.heap.push nL).get? a=some (setO es ep t):=QH _ e0;have ns:Builtin.List.listSameRef (.ref n) (.ref a)=false:=beq_eq_false_iff_ne.mpr na;unfold QAH Builtin.List.listLengthHint;refine QA (QAQ (T:="set") ⟨_,gA,rfl⟩ ?_);rw[if_neg (by simp only[ns];decide)];refine QA (V9 (sh:={ sh with heap:=sh.heap.push nL }) (n:=n) gA hf (by omega) (fun h=>by rw[hb,h];rfl) hp na (QR gN) fun s1 j kp g1 g2 g3 nj gv=>?_);have ty:s1.TypeIs (.ref a) "set":=⟨_,kp a _ gA,rfl⟩
 refine QA (qS (QA (wpAny_specialOf ty F.slot_set_len.lookup ?_)));generalize hx:("set.__len__":String)=x
 wp_delta
 rw[show splitId x=some ("set","__len__") by rw[<- hx];decide +kernel];subst hx;refine QA (W6 (b:=true) ty (by rw[QBB];kernel_rfl) ?_);show wpAny _ _ (typeOf (.ref a) >>= _) _ _ _;refine QA (QAQ ty (QJ ?_));rw[if_pos (by decide)];have sN:=kp n _ gN;refine QA (QAb (QA ?_));show wpAny _ Ar.in1 (updateSeq n (·.push .none) >>= fun _=>updateSeq n (·.pop)) _ _ _;refine QA (wpAny_updateSeq sN rfl ?_);have sN2:=Q0 (qM (·.push Value.none)) sN rfl;refine wpAny_updateSeq (hz:=by seq_fits) sN2 rfl ?_;have sN3:=Q0 (qM (·.pop)) sN2 rfl;have oth:∀b o,b≠n->s1.heap.get? b=some o->((s1.heap.update n (qM (·.push Value.none))).update n (qM (·.pop))).get? b=some o:=fun b o z e=>by rw[Q8 _ _ (Q2 z),Q8 _ _ (Q2 z)];exact e
 obtain⟨fp,P,St,W,st0,lt,nf,fin⟩:=gv;have W1:=(W Ar.in1 hd).toS;have lz:es.toList.length=es.size:=QT ..;refine QJ ⟨Wa F.plain_extend_loop _,codeAny_extend_loopS W1 (by omega) _ nf _ _ 0 _ _ _ rfl (Qy _) (W1.frame 0 s1 _ s1.toks st0 (QS _) fun b hb o e=>oth b o (fun z=>nf (z▸hb)) e) sN3 (ItemsOf.nil P) fun s' acc c mv gs it=>?_⟩;refine QA (m:=load n) (wpAny_load gs (QJ ?_));have pm:=fin acc it;have q1:=mv.gens;have q2:=mv.os;refine k s' acc.toList (acc.toList.map NS) (VS fun v hv=>?_) ?_ (fun b o e=>?_) (q1.trans g1) (q2.trans g2) (hn▸QR gs);obtain⟨e,he,rfl⟩:=QW.mp (pm.mem_iff.mp hv);exact KY el he;have:=pm.map NS;rw[QY]at this;rw[<- ez];exact this;have e1:(sh.heap.push nL).get? b=some o:=QH _ e;have lb:b<n:=hn▸QR e;exact mv.heap b o (fun m=>(QK.mp m).elim (Qd lb) fun y=>nj b o e1 (QI.mp y)) (oth b o (Qd lb) (kp b o e1))
end
section
variable{pg:Program}{wd:World}{Ar:Around}{Er:OB}{sh:Shared}{a:Addr}
theorem TQ{zs:List Str}{Q:OB}(hd:Ar.handled=none)(S:IH pg wd sh.heap a (!wd.params.followText "set-order") zs)(h64:zs.length<64)
  (k:∀s' l out ys e,StrsAre out ys->ys.Perm zs->sortedS ys=true->s'.heap.get? l=some (seqObj "list" out.toArray e)->sh.heap.objs.size<=l->(∀b o,sh.heap.get? b=some o->s'.heap.get? b=some o)->s'.gens=sh.gens->s'.os=sh.os->Q (.ref l) s') :
  wpAny (model pg wd) Ar (call (.builtin "sorted") [.ref a]) Q Er sh:=by
 have hz:sizeLine=16777216:=QV;refine QAV kind_sorted plain_sorted entry_sorted (args_sorted1 _) ?_;unfold Builtin.«sorted»;refine QA (m:=checkCount "sorted" 1 1 _) (QJ (QA (gQ hd S (by omega) fun s1 vs ys sv pq kp g1 g2 ls=>?_)));have lv:vs.length=zs.length:=(NM sv).1.trans pq.length_eq;refine QA (QBR ?_ (by omega));have gL:(s1.heap.push (seqObj "list" vs.toArray 0)).get? s1.heap.objs.size=some (seqObj "list" vs.toArray 0):=QO _ rfl;refine QA (qS (Qz slot_list_sort ⟨_,gL,rfl⟩ entry_list_sort ?body (args_list_sort _)));refine list_sort_treeK strKind_oneLt gL sv.keysOf (fun v₁ v₂ rest e=>keyKind_strs (by rw[<- e];exact sv)) (by omega) fun st' hp hs=>?_;obtain⟨ss',h1,h2,h3⟩:=sorted_out_str sv hp hs;obtain⟨e,ge⟩:=sortedHeap_at (out:=(arrOf st').map (·.2)) gL;refine⟨_,rfl,QJ ⟨_,rfl,k _ s1.heap.objs.size ((arrOf st').map (·.2)).toList ss' e h1 (h2.trans pq) h3 (by rw[Array.toArray_toList];exact ge) (QAN ls) (fun b o eb=>?_) g1 g2⟩⟩;have lb:=QR (kp b o eb);rw[sortedHeap_old (Qd lb) (by rw[size_push'];exact qt lb)];exact QH _ (kp b o eb)
end
def FW(K:QF)(x:V)(H:Hp)(Q:VK):Prop:=∃p,∃ss:List Str,x=.ref p/\HC K H p (ss.map V.str)/\ss.length<64/\∀(l:Addr) (zs:List Str),H l=none->zs.Nodup->(∀s,s∈zs↔s∈ss)->sortedS zs=true->Q (.ref l) (UA H l (.lst (zs.map V.str)))
theorem _root_.L2.Inv.anyd{X:Cx}{pins:FB}{σ:St}{H:Hp}{s:Shared}{d':Drawn}(I:Inv X pins σ H s):Inv X pins σ H { s with drawn:=d' }:=⟨I.ok,I.os,I.bare,I.base,I.loc,I.cell,I.free,I.freeC,I.pin,I.hok,I.len⟩
theorem V5:∀{ys:List Str}{its:List Value},bA (ys.map V.str) its->StrsAre its ys
 |[],[],_=>.nil
 |y::ys,u::its,h=>by
  rw[QN]at h;cases h with
  |cons h t=>obtain⟨k,rfl⟩:=h;exact .cons _ _ (V5 t)
 |_::_,[],h=>by cases h
 |[],_::_,h=>by cases h
theorem Eb{ss:List Str}{its:List Value}(h:StrsAre its ss):bA (ss.map V.str) its:=by
 induction h with
 |nil=>exact .nil
 |cons y t _ ih=>exact .cons ⟨t,rfl⟩ ih
section
variable{X:Cx}{a:Expr}{ta:TE}{p2 pos2:Pos}
theorem C7{pins:FB}{s:Shared}{σ:St}{H:Hp}{Qv:List Value->Shared->Prop}{R:V->Hp->Prop}(hc:X.calm=true)(g2:Gl X "set")(m2:X.mg "set"=none)(ha:PE X a ta)(st:starEach [a] X.env=(false,eval a X.env)::starEach [] X.env)(I:Inv X pins σ H s)(h:ta σ H R)
  (k:∀x H1 s1,R x H1->Inv X pins σ H1 s1->∃p,∃ss:List Str,x=.ref p/\HC X.K H1 p (ss.map V.str)/\ss.length<4000/\∀s2 zs,Inv X pins σ H1 s2->IH X.prog X.w s2.heap s1.heap.objs.size (!X.w.params.followText "set-order") zs->(∀z,z∈zs↔z∈ss)->zs.length<=ss.length->Qv [.ref s1.heap.objs.size] s2) (pos:Pos) :
  wpAny (model X.prog X.w) X.A (spliced (backTo pos (starEach [.Call (.Name "set" p2) [a] [] pos2] X.env))) Qv X.xe s:=by
 show wpAny _ _ (spliced ((false,eval (.Call (.Name "set" p2) [a] [] pos2) X.env)::[])) _ _ s;refine QAO (wO (IG I g2 m2 PyProof.Rows.boot_set (qh ?_ st rfl)));rw[st];show wpAny _ _ (spliced ((false,eval a X.env)::[])) _ _ s;refine QAO (BB (ha pins s σ H _ I h) fun u s1 ⟨x,H1,I1,rx,r⟩=>QAX ?_);obtain⟨p,ss,rfl,hq,lt,q⟩:=k x H1 s1 r I1;cases rx;obtain⟨its,r',pl,hz⟩:=I1.list hq;have hl:ss.length=its.length:=by rw[<- r'.length,QD]
 refine CL (I1.ok.hd hc) pl.isList (by simpa using V5 r') (by rw[QU];omega) fun h' tk zs S m l kp=>QAX (q _ zs (I1.kept (t':=tk) kp) S m (by rw[QU]at l;omega))
theorem A0{p1 pos:Pos}(hc:X.calm=true)(g1:Gl X "sorted")(g2:Gl X "set")(m1:X.mg "sorted"=none)(m2:X.mg "set"=none)(ha:PE X a ta)(st:starEach [a] X.env=(false,eval a X.env)::starEach [] X.env) :
  PE X (.Call (.Name "sorted" p1) [.Call (.Name "set" p2) [a] [] pos2] [] pos) fun σ H Q=>ta σ H fun x H1=>FW X.K x H1 Q:=by
 intro pins s σ H Q I h;refine wO (IG I g1 m1 QAd (Wq (C7 hc g2 m2 ha st I h (fun x H1 s1 ⟨p,ss,e,hq,lt,q⟩ I1=>⟨p,ss,e,hq,by omega,fun s2 zs I2 S m l=>?_⟩) pos) rfl rfl));have nd:=S;obtain⟨_,_,_,_,_,_,nd,_⟩:=nd;refine TQ (I2.ok.hd hc) S (by omega) fun s' l out ys e sv pq so ge le kp g1 g2=>?_;obtain⟨h',gs,dr,tk,oo⟩:=s';cases g1;cases g2;have lo:=(NM sv).1;have lp:=pq.length_eq;have hz:sizeLine=16777216:=QV;refine⟨.ref l,UA H1 l (.lst (ys.map V.str)),(I2.laid (t':=tk) (h':=h') kp le (show xB X.prog X.w _ h' _ (.lst (ys.map V.str)) from⟨by rw[QD];omega,out,e,Eb sv,ge⟩)).anyd,rfl,q l ys (I2.hok.fresh le) (pq.nodup_iff.mpr nd) (fun z=>(pq.mem_iff).trans (m z)) so⟩
end
inductive Bi where
 |len|all|list|sorted
 deriving DecidableEq
inductive Mt where
 |append|pop|join|setd|reverse
 deriving DecidableEq
inductive ItK where
 |val|rng1|enum|itm|zip2
 deriving DecidableEq
inductive Tg where
 |nm (i:Nat)|tp (is:List Nat)
 deriving DecidableEq
set_option genSizeOf false in
set_option genInjectivity false in
inductive PX where
 |var (i:Nat)|int (i:Int)|str (x:Str)|bl (b:Bool)|non
 |glo (x:Str)
 |bin (op:Operator) (a b:PX)
 |cmp (op:CmpOp) (a b:PX)
 |and (a b:PX)|or (a b:PX)|not (a:PX)
 |call (f:Str) (as:PX)
 |bi (f:Bi) (as:PX)
 |mt (m:Mt) (o as:PX)
 |idx (a b:PX)|slc (a lo hi:PX)|nop
 |lst (as:PX)|tup (as:PX)|dnew (b:Bool)|dsp (a b:PX)|sset (a:PX)
 |comp (mask:List Bool) (tgs:List Str) (tg:Tg) (ik:ItK) (its cond elt:PX)
 |nr|nq (a as:PX)
structure Ev where
 sp:Str->Sp
 va:Str->V
structure W3 where
 e:TE
 t:TT
 a:TA
def never:W3:=⟨fun _ _ _=>False,fun _ _ _=>False,fun _ _ _=>False⟩
def tG(K:QF)(x:V)(H:Hp)(Q:Bool->Hp->Prop):Prop:=match x with
 | .bl b=>Q b H
 | .int i=>Q (i != 0) H
 | .non=>Q false H
 | .str z=>z.length<=sizeLine/\Q ((z.length:Int) != 0) H
 |x=>∃k,Pa K x H k/\Q k H
def zZ(x:V)(H:Hp)(Q:Bool->Hp->Prop):Prop:=match x with
 | .bl b=>Q b H
 |_=>False
def E4(K:QF):Operator->R2
 | .Add=>Ac K
 | .Sub=>Dc
 | .Mult=>Mc K
 | .FloorDiv=>F5
 | .Mod=>Nc
 |_=>fun _ _ _ _=>False
def NY(K:QF):CmpOp->R2
 | .Eq=>rEq K false
 | .NotEq=>rEq K true
 | .Lt=>FU fun i j=>decide (i<j)
 | .LtE=>FU fun i j=>decide (i<=j)
 | .Gt=>FU fun i j=>decide (j<i)
 | .GtE=>FU fun i j=>decide (j<=i)
 | .In=>kP K false
 | .NotIn=>kP K true
 |_=>fun _ _ _ _=>False
def GU(K:QF):R2:=fun x y H Q=>match x,y with
 | .str z,.int i=>z.length<=sizeLine/\∃c,kF z.cps.toList i=some c/\Q (.str ⟨#[c]⟩) H
 | .ref a,.int i=>∃xs v,(HC K H a xs∨TC K H a xs)/\kF xs i=some v/\Q v H
 | .ref a,.str z=>∃v,oO K H a (.str z) (some v)/\Q v H
 | .ref a,.ref b=>∃v,oO K H a (.ref b) (some v)/\Q v H
 |_,_=>False
def p0(K:QF):List V->Hp->VK->Prop:=fun vs H Q=>∃p ys,vs=[.ref p]/\(HC K H p ys∨TC K H p ys)/\∀l,H l=none->Q (.ref l) (UA H l (.lst ys))
def ES(K:QF):List V->Hp->VK->Prop:=fun vs H Q=>∃p,vs=[.ref p]/\((∃ss:List Str,HC K H p (ss.map V.str)/\ss.length<64/\∀l ss',H l=none->ss'.Perm ss->sortedS ss'=true->Q (.ref l) (UA H l (.lst (ss'.map V.str)))) ∨
   (∃xs,HC K H p xs/\xs.length<64/\(∀x∈xs,∃a,∃ss:List Str,x=.ref a/\HC K H a (ss.map V.str))/\∀l ys,H l=none->ys.Perm xs->Q (.ref l) (UA H l (.lst ys))) ∨
   (∃zs:List (Str×V),HC K H p (zs.map Wp)/\zs.length<64/\(zs.map qE).Nodup/\(∀z∈zs,∃a r,z.2=.ref a/\TC K H a (.str z.1::r))/\∀l (zs':List (Str×V)),H l=none->zs'.Perm zs->sortedS (zs'.map qE)=true->Q (.ref l) (UA H l (.lst (zs'.map Wp)))))
def Pe(K:QF):Bi->List V->Hp->VK->Prop
 | .len=>Oc K
 | .all=>Tc K
 | .list=>p0 K
 | .sorted=>ES K
def C5:V->List V->Hp->VK->Prop:=fun x vs H Q=>∃l i xs k v,x=.ref l/\vs=[.int i]/\H l=some (.lst xs)/\DQ xs.length i=some k/\xs[k]?=some v/\Q v (UA H l (.lst (xs.eraseIdx k)))
def D5(K:QF):V->List V->Hp->VK->Prop:=fun x vs H Q=>∃z b,∃ys:List Str,x=.str z/\vs=[.ref b]/\HC K H b (ys.map V.str)/\(ys.map (·.length)).sum+ys.length * z.length<=16777216/\Q (.str (QAC z ys)) H
def C3(K:QF):Mt->V->List V->Hp->VK->Prop
 | .append=>IS
 | .pop=>C5
 | .join=>D5 K
 | .setd=>JJ K
 | .reverse=>zP
def Mt.ty:Mt->String
 | .append=>"list"
 | .pop=>"list"
 | .join=>"str"
 | .setd=>"dict"
 | .reverse=>"list"
def nK(x:V)(H:Hp)(Q:Option Int->Hp->Prop):Prop:=match x with
 | .int i=>Q (some i) H
 |_=>False
inductive Item where
 |one (v:V)|tup (vs:List V)
def vC(K:QF):ItK->List V->Hp->(List Item->(Hp->Prop)->Hp->Prop)->Prop
 | .val,[.str z],H,R=>R (z.cps.toList.map fun c=>.one (.str ⟨#[c]⟩)) (fun _=>True) H
 | .val,[.ref a],H,R=>(∃xs,HC K H a xs/\R (xs.map .one) (fun H=>HC K H a xs) H)∨(∃xs,TC K H a xs/\R (xs.map .one) (fun H=>TC K H a xs) H)∨(∃ep,∃kvs:List KE,H a=some (.dT ep kvs)/\R (kvs.map fun p=>.one (.ref p.2.1)) (fun H=>H a=some (.dT ep kvs)) H)
 | .rng1,[.int j],H,R=>(-(2 ^ 62)<=j/\j<2 ^ 62)/\R ((Q5 j.toNat).map fun(i:Nat)=>.one (.int (i:Int))) (fun _=>True) H
 | .zip2,[.ref a,.ref b],H,R=>∃xs ys,HC K H a xs/\HC K H b ys/\R ((xs.zip ys).map fun p=>.tup [p.1,p.2]) (fun H=>aL K H (.l a) xs/\aL K H (.l b) ys) H
 | .enum,[.ref a],H,R=>∃z xs,Src.adr z=a/\aL K H z xs/\R (xs.zipIdx.map fun p=>.tup [.int (p.2:Int),p.1]) (fun H=>aL K H z xs) H
 | .itm,[.ref a],H,R=>∃ep,∃kvs:List KE,H a=some (.dT ep kvs)/\R (kvs.map fun p=>.tup [.ref p.2.1,p.2.2]) (fun H=>H a=some (.dT ep kvs)) H
 |_,_,_,_=>False
def jB:List Nat->List V->St->Option St
 |[],[],σ=>some σ
 |i::is,v::vs,σ=>jB is vs (σ.set i (some v))
 |_,_,_=>none
def oE(K:QF):Tg->TG
 | .nm i=>fun v σ H Q=>Q (σ.set i (some v)) H
 | .tp is=>fun v σ H Q=>match v with
  | .ref p=>∃xs σ',TC K H p xs/\jB is xs σ=some σ'/\Q σ' H
  |_=>False
def bindI(K:QF)(tg:Tg):Item->St->Hp->(St->Hp->Prop)->Prop
 | .one v=>oE K tg v
 | .tup vs=>fun σ H Q=>match tg with
  | .tp is=>∀H',Same H H'->∃σ',jB is vs σ=some σ'/\Q σ' H'
  | .nm i=>∀p,H p=none->Q (σ.set i (some (.ref p))) (UA H p (.tup vs))
def ae(K:QF)(xs:List Item)(st:Hp->Prop)(bind:Item->St->Hp->(St->Hp->Prop)->Prop)(tc:TT)(te:TE)(σ:St)(H:Hp)(Q:VK):Prop :=
 ∃W:Nat->List V->Hp->Prop,W 0 [] H/\(∀i acc H,i<=xs.length->W i acc H->st H) /\
  (∀i x acc H,xs[i]?=some x->W i acc H->bind x σ H fun σ2 H2=>tc σ2 H2 fun b H3=>if b=true then te σ2 H3 fun y H4=>acc.length<sizeLine/\W (i+1) (acc++[y]) H4 else W (i+1) acc H3) /\
  ∀acc H2,W xs.length acc H2->acc.length<=sizeLine/\∀p,H2 p=none->Q (.ref p) (UA H2 p (.lst acc))
structure Yields(J:It)(xs:List Item)(st:Hp->Prop):Prop where
 go:∀i H,st H->i<xs.length->J.go i H
 yld:∀i H x H',st H->i<xs.length->J.yld i H x H'->∃it,xs[i]?=some it/\match it with
  | .one v=>x=v/\H'=H
  | .tup vs=>∃p,H p=none/\x=.ref p/\H'=UA H p (.tup vs)
 stop:∀i H,st H->xs.length<=i->J.stop i H
def Je(J:It)(g:TG)(tc:TT)(te:TE)(σ0:St)(H1:Hp)(Q:VK):Prop:=∃W:Nat->Nat->List V->St->Hp->Prop,(∃m,W 0 m [] σ0 H1) /\
 ∀i m acc σ' H',W i m acc σ' H'->(J.stop i H'/\acc.length<=sizeLine/\∀p,H' p=none->Q (.ref p) (UA H' p (.lst acc))) ∨
  (J.go i H'/\∀x H2,J.yld i H' x H2->g x σ' H2 fun σ3 H3=>tc σ3 H3 fun b H4=>if b=true then te σ3 H4 fun y H5=>acc.length<sizeLine/\∃m',m' < m/\W (i+1) m' (acc++[y]) σ3 H5 else ∃m',m' < m/\W (i+1) m' acc σ3 H4)
def lU(K:QF)(xs:List Item)(st:Hp->Prop)(tg:Tg)(tc:TT)(te:TE)(σ0:St)(H:Hp)(Q:VK):Prop:=∀J,Yields J xs st->Je J (oE K tg) tc te σ0 H Q
def isNop:PX->Bool
 | .nop=>true
 |_=>false
def wp(K:QF)(Γ:Ev):PX->XK->W3
 | .var i,E=>let e:TE:=fun σ H Q=>match σ[i]? with
   |some (some v)=>Q v H
   |_=>False
  ⟨e,fun σ H Q=>e σ H fun x H1=>tG K x H1 Q,never.a⟩
 | .int i,E=>⟨fun _ H Q=>Q (.int i) H,fun _ H Q=>Q (i != 0) H,never.a⟩
 | .str x,E=>⟨fun _ H Q=>Q (.str x) H,never.t,never.a⟩
 | .bl b,E=>⟨fun _ H Q=>Q (.bl b) H,fun _ H Q=>Q b H,never.a⟩
 | .non,E=>⟨fun _ H Q=>Q .non H,fun _ H Q=>Q false H,never.a⟩
 | .glo x,E=>⟨fun _ H Q=>Q (Γ.va x) H,fun _ H Q=>tG K (Γ.va x) H Q,never.a⟩
 | .bin op a b,E=>let e:TE:=fun σ H Q=>(wp K Γ a E).e σ H fun x H1=>(wp K Γ b E).e σ H1 fun y H2=>E4 K op x y H2 Q
  ⟨e,fun σ H Q=>e σ H fun x H1=>tG K x H1 Q,never.a⟩
 | .cmp op a b,E=>let e:TE:=fun σ H Q=>(wp K Γ a E).e σ H fun x H1=>(wp K Γ b E).e σ H1 fun y H2=>NY K op x y H2 Q
  ⟨e,fun σ H Q=>e σ H fun x H1=>zZ x H1 Q,never.a⟩
 | .and a b,E=>⟨fun σ H Q=>(wp K Γ a E).e σ H fun x H1=>zZ x H1 fun c H2=>if c=true then(wp K Γ b E).e σ H2 Q else Q (.bl false) H2,
   fun σ H Q=>(wp K Γ a E).t σ H fun c H1=>if c=true then(wp K Γ b E).t σ H1 Q else Q false H1,never.a⟩
 | .or a b,E=>⟨fun σ H Q=>(wp K Γ a E).e σ H fun x H1=>zZ x H1 fun c H2=>if c=true then Q (.bl true) H2 else(wp K Γ b E).e σ H2 Q,
   fun σ H Q=>(wp K Γ a E).t σ H fun c H1=>if c=true then Q true H1 else(wp K Γ b E).t σ H1 Q,never.a⟩
 | .not a,E=>⟨fun σ H Q=>(wp K Γ a E).e σ H fun x H1=>tG K x H1 fun c H2=>Q (.bl (!c)) H2,fun σ H Q=>(wp K Γ a E).t σ H fun c H1=>Q (!c) H1,never.a⟩
 | .call f as,E=>let e:TE:=fun σ H Q=>(wp K Γ as E).a σ H fun vs H1=>Γ.sp f vs H1 Q E
  ⟨e,fun σ H Q=>e σ H fun x H1=>tG K x H1 Q,never.a⟩
 | .bi f as,E=>let e:TE:=fun σ H Q=>(wp K Γ as E).a σ H fun vs H1=>Pe K f vs H1 Q
  ⟨e,fun σ H Q=>e σ H fun x H1=>tG K x H1 Q,never.a⟩
 | .mt m o as,E=>let e:TE:=fun σ H Q=>(wp K Γ o E).e σ H fun x H1=>MV K m.ty x H1/\(wp K Γ as E).a σ H1 fun vs H2=>C3 K m x vs H2 Q
  ⟨e,fun σ H Q=>e σ H fun x H1=>tG K x H1 Q,never.a⟩
 | .idx a b,E=>let e:TE:=fun σ H Q=>(wp K Γ a E).e σ H fun x H1=>(wp K Γ b E).e σ H1 fun y H2=>GU K x y H2 Q
  ⟨e,fun σ H Q=>e σ H fun x H1=>tG K x H1 Q,never.a⟩
 | .slc a lo hi,E=>⟨fun σ H Q=>(wp K Γ a E).e σ H fun x H1 =>
   (if isNop lo=true then fun(R:Option Int->Hp->Prop)=>R none H1 else fun R=>(wp K Γ lo E).e σ H1 fun l H2=>nK l H2 R) fun l H2 =>
   (if isNop hi=true then fun(R:Option Int->Hp->Prop)=>R none H2 else fun R=>(wp K Γ hi E).e σ H2 fun u H3=>nK u H3 R) fun u H3=>oh K x l u H3 Q,never.t,never.a⟩
 | .nop,E=>never
 | .lst as,E=>⟨fun σ H Q=>(wp K Γ as E).a σ H fun xs H1=>xs.length<=sizeLine/\∀p,H1 p=none->Q (.ref p) (UA H1 p (.lst xs)),never.t,never.a⟩
 | .tup as,E=>⟨fun σ H Q=>(wp K Γ as E).a σ H fun xs H1=>xs.length<=sizeLine/\∀p,H1 p=none->Q (.ref p) (UA H1 p (.tup xs)),never.t,never.a⟩
 | .comp mask tgs tg ik its cond elt,E=>⟨fun σ H Q=>(wp K Γ its E).a σ H fun vs H1=>vC K ik vs H1 fun xs st H2 =>
   lU K xs st tg (if isNop cond=true then fun _ H Q=>Q true H else(wp K Γ cond (fun _ _ _=>False)).t) (wp K Γ elt (fun _ _ _=>False)).e (GH tgs.length mask σ) H2 Q,never.t,never.a⟩
 | .dnew b,E=>⟨fun _ H Q=>∀p,H p=none->Q (.ref p) (UA H p (.dT 0 [])),never.t,never.a⟩
 | .dsp a b,E=>⟨fun σ H Q=>∀p,H p=none->(wp K Γ a E).e σ (UA H p (.dT 0 [])) fun y H1=>(wp K Γ b E).e σ H1 fun v H2=>H2 p=some (.dT 0 [])/\∃b ks,y=.ref b/\TC K H2 b (ks.map kV)/\∀ep,Q (.ref p) (UA H2 p (.dT ep [(ks,b,v)])),never.t,never.a⟩
 | .sset a,E=>⟨fun σ H Q=>(wp K Γ a E).e σ H fun x H1=>FW K x H1 Q,never.t,never.a⟩
 | .nr,E=>⟨never.e,never.t,fun _ H Q=>Q [] H⟩
 | .nq a as,E=>⟨never.e,never.t,fun σ H Q=>(wp K Γ a E).e σ H fun x H1=>(wp K Γ as E).a σ H1 fun xs H2=>Q (x::xs) H2⟩
structure Glob where
 ev:Ev
 fn:Str->Prop
 val:Str->Prop
 no:Str->Prop
def Bi.nm:Bi->Str
 | .len=>"len"
 | .all=>"all"
 | .list=>"list"
 | .sorted=>"sorted"
def Mt.nm:Mt->Str
 | .append=>"append"
 | .pop=>"pop"
 | .join=>"join"
 | .setd=>"setdefault"
 | .reverse=>"reverse"
def ue(G:Glob):ItK->Prop
 | .val=>True
 | .rng1=>G.no "range"
 | .enum=>G.no "enumerate"
 | .zip2=>G.no "zip"
 | .itm=>True
def IA(G:Glob):PX->Prop
 | .glo x=>G.val x
 | .bin _ a b | .cmp _ a b | .and a b | .or a b | .idx a b | .nq a b | .dsp a b=>IA G a/\IA G b
 | .not a | .lst a | .tup a=>IA G a
 | .slc a b c=>IA G a/\IA G b/\IA G c
 | .sset a=>G.no "sorted"/\G.no "set"/\IA G a
 | .call f as=>G.fn f/\IA G as
 | .bi f as=>G.no f.nm/\IA G as
 | .mt _ o as=>IA G o/\IA G as
 | .comp _ _ _ ik its cond elt=>ue G ik/\IA G its/\IA G cond/\IA G elt
 |_=>True
structure SC where
 N:List Str
 sc:Scope
def UB:Expr->Bool
 | .Starred _ _=>false
 |_=>true
def g7(S:SC)(i:Nat)(x:Str):Bool :=
 S.N[i]?==some x&&(S.sc.names.lookup x==some .local||S.sc.names.lookup x==some .cell||S.sc.names.lookup x==some .free)&&x != "__debug__" && x != "__classdict__"
def u9(S:SC)(i:Nat)(x:Str):Bool:=S.N[i]?==some x&&S.sc.names.lookup x==some .local
def HN(S:SC)(x:Str):Bool:=S.sc.names.lookup x==some .globalImplicit&&x != "__debug__" && x != "__name__"
def IT(S:SC)(scope:Scope)(tgs:List Str)(mask:List Bool):SC:=⟨tgs++aB mask 0 S.N,vK scope S.sc⟩
def eK:List Str->Bool
 |[]=>true
 |x::r=>!r.contains x&&eK r
def LY(S:SC)(scope:Scope)(tgs:List Str)(mask:List Bool):Bool :=
 scope.kind==.function&&scope.names.all (fun y=>y.2 != .cell&&(y.2 != .local||(scope.names.lookup y.1==some .local&&(tgs.contains y.1||y.1==(".0":Str)))) &&
  (y.2 != .free||S.sc.names.lookup y.1==some .cell||S.sc.names.lookup y.1==some .free))&&eK (tgs++aB mask 0 S.N)&&!(tgs++aB mask 0 S.N).contains (".0":Str)
def Vb(c:Bool)(S:SC)(i:Nat)(x:Str):Bool:=S.N[i]?==some x&&(S.sc.names.lookup x==some .local||(c&&S.sc.names.lookup x==some .cell))
def og(c:Bool)(S:SC):Tg->Expr->Bool
 | .nm i,.Name x _=>Vb c S i x
 | .tp is,.Tuple es _ _=>is.length==es.length&&(is.zip es).all fun p=>match p.2 with
  | .Name x _=>Vb c S p.1 x
  |_=>false
 |_,_=>false
def aN:Expr->Bool
 | .Call (.Name _ _) [] [] _=>false
 |_=>true
def pP:Expr->Bool
 | .Set _ _ _=>false
 |_=>true
def eN:Expr->Bool
 | .Slice _ _ _ _=>false
 |_=>true
def HE:PX->Bool
 | .nr=>true
 | .nq _ r=>HE r
 |_=>false
def HK:Expr->Bool
 | .Tuple _ _ _=>true
 |_=>false
section
variable{α:Type}
section
variable{e:Expr}{l:List α}
def oI(e:Expr)(f:Str->Pos->Bool):Bool:=match e with | .Name x p=>f x p|_=>false
def JH(e:Expr)(f:Const->Bool):Bool:=match e with | .Constant c _ _=>f c|_=>false
def E5(e:Expr)(f:Expr->Operator->Expr->Pos->Bool):Bool:=match e with | .BinOp l o r p=>f l o r p|_=>false
def Yd(e:Expr)(f:UnaryOp->Expr->Bool):Bool:=match e with | .UnaryOp o x _=>f o x|_=>false
def A5(e:Expr)(f:Expr->List CmpOp->List Expr->Bool):Bool:=match e with | .Compare l os rs _=>f l os rs|_=>false
def nR(e:Expr)(f:BoolOp->List Expr->Pos->Bool):Bool:=match e with | .BoolOp o es p=>f o es p|_=>false
def mR(e:Expr)(f:Expr->List Expr->List Keyword->Pos->Bool):Bool:=match e with | .Call g es ks p=>f g es ks p|_=>false
def lX(e:Expr)(f:Expr->Str->Pos->Bool):Bool:=match e with | .Attribute v n p=>f v n p|_=>false
def gT(e:Expr)(f:Expr->Expr->Pos->Bool):Bool:=match e with | .Subscript v i p=>f v i p|_=>false
def lT(e:Expr)(f:Option Expr->Option Expr->Option Expr->Bool):Bool:=match e with | .Slice l h s _=>f l h s|_=>false
def nN(e:Expr)(f:List Expr->Pos->Bool):Bool:=match e with | .List es p=>f es p|_=>false
def P5(e:Expr)(f:List Expr->Nat->Pos->Bool):Bool:=match e with | .Tuple es k p=>f es k p|_=>false
def B8(e:Expr)(f:Expr->List Comprehension->Scope->Pos->Bool):Bool:=match e with | .ListComp x gs sc p=>f x gs sc p|_=>false
def lR(e:Expr)(f:List (Option Expr)->List Expr->Bool):Bool:=match e with | .Dict ks vs _=>f ks vs|_=>false
def ZJ(l:List α)(f:α->Bool):Bool:=match l with | [x]=>f x|_=>false
def zk(l:List α)(f:α->α->Bool):Bool:=match l with | [x,y]=>f x y|_=>false
def u2(l:List α)(f:α->List α->Bool):Bool:=match l with|x::r=>f x r|_=>false
def Zd(o:Option α)(n:Bool)(f:α->Bool):Bool:=match o with|none=>n|some x=>f x
theorem sF{f:Str->Pos->Bool}(h:oI e f=true):∃x p,e=.Name x p/\f x p=true:=by
 cases e with
 |Name x p=>exact⟨x,p,rfl,h⟩
 |_=>exact(QC h).elim
theorem bG{f:Const->Bool}(h:JH e f=true):∃c k p,e=.Constant c k p/\f c=true:=by
 cases e with
 |Constant c k p=>exact⟨c,k,p,rfl,h⟩
 |_=>exact(QC h).elim
theorem Y2{f:Expr->Operator->Expr->Pos->Bool}(h:E5 e f=true):∃l o r p,e=.BinOp l o r p/\f l o r p=true:=by
 cases e with
 |BinOp l o r p=>exact⟨l,o,r,p,rfl,h⟩
 |_=>exact(QC h).elim
theorem U8{f:UnaryOp->Expr->Bool}(h:Yd e f=true):∃o x p,e=.UnaryOp o x p/\f o x=true:=by
 cases e with
 |UnaryOp o x p=>exact⟨o,x,p,rfl,h⟩
 |_=>exact(QC h).elim
theorem E1{f:Expr->List CmpOp->List Expr->Bool}(h:A5 e f=true):∃l os rs p,e=.Compare l os rs p/\f l os rs=true:=by
 cases e with
 |Compare l os rs p=>exact⟨l,os,rs,p,rfl,h⟩
 |_=>exact(QC h).elim
theorem cP{f:BoolOp->List Expr->Pos->Bool}(h:nR e f=true):∃o es p,e=.BoolOp o es p/\f o es p=true:=by
 cases e with
 |BoolOp o es p=>exact⟨o,es,p,rfl,h⟩
 |_=>exact(QC h).elim
theorem bP{f:Expr->List Expr->List Keyword->Pos->Bool}(h:mR e f=true):∃g es ks p,e=.Call g es ks p/\f g es ks p=true:=by
 cases e with
 |Call g es ks p=>exact⟨g,es,ks,p,rfl,h⟩
 |_=>exact(QC h).elim
theorem hX{f:Expr->Str->Pos->Bool}(h:lX e f=true):∃v n p,e=.Attribute v n p/\f v n p=true:=by
 cases e with
 |Attribute v n p=>exact⟨v,n,p,rfl,h⟩
 |_=>exact(QC h).elim
theorem mN{f:Expr->Expr->Pos->Bool}(h:gT e f=true):∃v i p,e=.Subscript v i p/\f v i p=true:=by
 cases e with
 |Subscript v i p=>exact⟨v,i,p,rfl,h⟩
 |_=>exact(QC h).elim
theorem SU{f:Option Expr->Option Expr->Option Expr->Bool}(h:lT e f=true):∃l u s p,e=.Slice l u s p/\f l u s=true:=by
 cases e with
 |Slice l u s p=>exact⟨l,u,s,p,rfl,h⟩
 |_=>exact(QC h).elim
theorem tK{f:List Expr->Pos->Bool}(h:nN e f=true):∃es p,e=.List es p/\f es p=true:=by
 cases e with
 |List es p=>exact⟨es,p,rfl,h⟩
 |_=>exact(QC h).elim
theorem N1{f:List Expr->Nat->Pos->Bool}(h:P5 e f=true):∃es k p,e=.Tuple es k p/\f es k p=true:=by
 cases e with
 |Tuple es k p=>exact⟨es,k,p,rfl,h⟩
 |_=>exact(QC h).elim
theorem gR{f:Expr->List Comprehension->Scope->Pos->Bool}(h:B8 e f=true):∃x gs sc p,e=.ListComp x gs sc p/\f x gs sc p=true:=by
 cases e with
 |ListComp x gs sc p=>exact⟨x,gs,sc,p,rfl,h⟩
 |_=>exact(QC h).elim
theorem uP{f:List (Option Expr)->List Expr->Bool}(h:lR e f=true):∃ks vs p,e=.Dict ks vs p/\f ks vs=true:=by
 cases e with
 |Dict ks vs p=>exact⟨ks,vs,p,rfl,h⟩
 |_=>exact(QC h).elim
theorem SI{f:α->List α->Bool}(h:u2 l f=true):∃x r,l=x::r/\f x r=true:=by
 cases l with
 |nil=>exact(QC h).elim
 |cons x r=>exact⟨x,r,rfl,h⟩
theorem sB{f:α->Bool}(h:ZJ l f=true):∃x,l=[x]/\f x=true:=by
 cases l with
 |nil=>exact(QC h).elim
 |cons x r =>
  cases r with
  |nil=>exact⟨x,rfl,h⟩
  |cons _ _=>exact(QC h).elim
theorem Kd{f:α->α->Bool}(h:zk l f=true):∃x y,l=[x,y]/\f x y=true:=by
 cases l with
 |nil=>exact(QC h).elim
 |cons x r =>
  obtain⟨y,e,h⟩:=sB (l:=r) (f:=f x) (by
   cases r with
   |nil=>exact h
   |cons y r=>cases r<;>exact h)
  exact⟨x,y,by rw[e],h⟩
end
end
section
variable{c:Const}{n:Str}{e:Expr}
def Le(c:Const)(f:Int->Bool):Bool:=match c with | .int i=>f i|_=>false
def He(c:Const)(f:Str->Bool):Bool:=match c with | .str i=>f i|_=>false
def U6(c:Const)(f:Bool->Bool):Bool:=match c with | .bool i=>f i|_=>false
def X6(c:Const):Bool:=match c with | .none=>true|_=>false
theorem Ja{f:Int->Bool}(h:Le c f=true):∃i,c=.int i/\f i=true:=by
 cases c with
 |int i=>exact⟨i,rfl,h⟩
 |_=>exact(QC h).elim
theorem aa{f:Str->Bool}(h:He c f=true):∃i,c=.str i/\f i=true:=by
 cases c with
 |str i=>exact⟨i,rfl,h⟩
 |_=>exact(QC h).elim
theorem T4{f:Bool->Bool}(h:U6 c f=true):∃i,c=.bool i/\f i=true:=by
 cases c with
 |bool i=>exact⟨i,rfl,h⟩
 |_=>exact(QC h).elim
theorem R4(h:X6 c=true):c=.none:=by
 cases c with
 |none=>rfl
 |_=>exact(QC h).elim
theorem yA{a b:Bool}(h:(a&&b)=true):a=true/\b=true:=by cases a<;>cases b<;>first|exact⟨rfl,rfl⟩| exact(QC h).elim
def uJ(S:SC)(n:Str)(e:Expr)(f:List Expr->List Keyword->Pos->Bool):Bool:=mR e fun g es ks p=>oI g fun x _=>n==x&&(HN S x&&f es ks p)
theorem ME{S:SC}{f:List Expr->List Keyword->Pos->Bool}(h:uJ S n e f=true):∃px es ks p,e=.Call (.Name n px) es ks p/\HN S n=true/\f es ks p=true:=by obtain⟨g,es,ks,p,rfl,q1⟩:=bP h;obtain⟨x,px,rfl,q2⟩:=sF q1;have q3:=yA q2;have q4:=yA q3.2;have e:=qm q3.1;exact⟨px,es,ks,p,by rw[e],by rw[e];exact q4.1,q4.2⟩
def RX(n:Str)(e:Expr)(f:Expr->List Expr->Pos->Pos->Bool):Bool:=mR e fun g es ks p=>lX g fun v x ap=>n==x&&(ks.isEmpty&&(ap.endLine==p.line&&f v es ap p))
theorem pT{f:Expr->List Expr->Pos->Pos->Bool}(h:RX n e f=true):∃v ap es p,e=.Call (.Attribute v n ap) es [] p/\(ap.endLine==p.line)=true/\f v es ap p=true:=by obtain⟨g,es,ks,p,rfl,q1⟩:=bP h;obtain⟨v,x,ap,rfl,q2⟩:=hX q1;have q3:=yA q2;have q4:=yA q3.2;have q5:=yA q4.2;have e:=qm q3.1;have e2:=Qt.mp q4.1;exact⟨v,ap,es,p,by rw[e,e2],q5.1,q5.2⟩
def x6(op:BoolOp)(r:Expr)(rest:List Expr)(pos:Pos):Expr:=match rest with
 |[]=>r
 |q::t=>.BoolOp op (r::q::t) pos
def ig(ia:Bool)(S:SC)(ik:ItK)(c:List Expr->Pos->Bool)(t it:Expr)(pos:Pos):Bool:=match ik with
 | .val=>ia&&c [it] pos
 | .rng1=>uJ S "range" it fun es ks p=>ks.isEmpty&&ZJ es fun a=>c [a] p
 | .zip2=>HK t&&uJ S "zip" it fun es ks p=>ks.isEmpty&&zk es fun a b=>c [a,b] p
 | .enum=>HK t&&uJ S "enumerate" it fun es ks p=>ks.isEmpty&&ZJ es fun a=>c [a] p
 | .itm=>HK t&&(ia&&RX "items" it fun v es _ p=>aN v&&(es.isEmpty&&c [v] p))
def si(ifs:List Expr)(n:Bool)(f:Expr->Bool):Bool:=match ifs with
 |[]=>n
 |c::r=>r.isEmpty&&(!n&&f c)
def j6(S:SC)(f g:Str)(e:Expr)(c:Expr->Bool):Bool:=uJ S f e fun es ks _=>ks.isEmpty&&ZJ es fun x=>uJ S g x fun es ks _=>ks.isEmpty&&ZJ es fun y=>UB y&&c y
theorem u3{S:SC}{f g:Str}{c:Expr->Bool}(h:j6 S f g e c=true):∃p1 p2 pos pos2 y,e=.Call (.Name f p1) [.Call (.Name g p2) [y] [] pos2] [] pos/\HN S f=true/\HN S g=true/\UB y=true/\c y=true:=by obtain⟨p1,es,ks,pos,rfl,hg,h⟩:=ME h;have h1:=yA h;cases Qt.mp h1.1;obtain⟨x,rfl,h3⟩:=sB h1.2;obtain⟨p2,es,ks,pos2,rfl,hg',h4⟩:=ME h3;have h2:=yA h4;cases Qt.mp h2.1;obtain⟨y,rfl,h5⟩:=sB h2.2;have h6:=yA h5;exact⟨p1,p2,pos,pos2,y,rfl,hg,hg',h6.1,h6.2⟩
def isItm:ItK->Bool
 | .itm=>true
 |_=>false
def EB:PX->SC->Expr->Bool
 | .var i,S,e=>oI e fun x _=>g7 S i x
 | .int i,_,e=>JH e fun c=>Le c fun j=>i==j
 | .str x,_,e=>JH e fun c=>He c fun y=>x==y
 | .bl b,_,e=>JH e fun c=>U6 c fun k=>b==k
 | .non,_,e=>JH e X6
 | .glo x,S,e=>oI e fun y _=>x==y&&HN S x
 | .bin op a b,S,e=>E5 e fun l o r _=>op==o&&(EB a S l&&EB b S r)
 | .cmp op a b,S,e=>A5 e fun l os rs=>ZJ os fun o=>ZJ rs fun r=>op==o&&(pP r&&(EB a S l&&EB b S r))
 | .and a b,S,e=>nR e fun o es p=>o==.And&&u2 es fun l t=>u2 t fun r t=>EB a S l&&EB b S (x6 .And r t p)
 | .or a b,S,e=>nR e fun o es p=>o==.Or&&u2 es fun l t=>u2 t fun r t=>EB a S l&&EB b S (x6 .Or r t p)
 | .not a,S,e=>Yd e fun o x=>o==.Not&&EB a S x
 | .call f as,S,e=>uJ S f e fun es ks p=>ks.isEmpty&&EB as S (.List es p)
 | .bi f as,S,e=>uJ S f.nm e fun es ks p=>ks.isEmpty&&u2 es fun x t=>EB as S (.List (x::t) p)
 | .mt m o as,S,e=>RX m.nm e fun v es _ p=>HE as&&(aN v&&(decide (es.length<20)&&(EB o S v&&EB as S (.List es p))))
 | .idx a b,S,e=>gT e fun v i _=>eN i&&(EB a S v&&EB b S i)
 | .slc a lo hi,S,e=>gT e fun v sl _=>lT sl fun l h s=>s.isNone&&(EB a S v&&(Zd l (isNop lo) (fun e=>!isNop lo&&EB lo S e)&&Zd h (isNop hi) fun e=>!isNop hi&&EB hi S e))
 | .nop,_,_=>false
 | .lst as,S,e=>nN e fun es p=>EB as S (.List es p)
 | .tup as,S,e=>P5 e fun es _ p=>EB as S (.List es p)
 | .comp mask tgs tg ik its cond elt,S,e=>B8 e fun el gs scope p=>ZJ gs fun g=>g.is_async==0&&(!isItm ik&&(LY S scope tgs mask&&(og false (IT S scope tgs mask) tg g.target&&(pP g.iter &&
   (ig (HE its) S ik (fun es p=>EB its S (.List es p)) g.target g.iter p&&(si g.ifs (isNop cond) (fun c=>EB cond (IT S scope tgs mask) c)&&EB elt (IT S scope tgs mask) el))))))
 | .dnew _,_,e=>lR e fun ks vs=>ks.isEmpty&&vs.isEmpty
 | .dsp a b,S,e=>lR e fun ks vs=>ZJ ks fun k=>ZJ vs fun v=>Zd k false (EB a S)&&EB b S v
 | .sset a,S,e=>j6 S "sorted" "set" e (EB a S)
 | .nr,_,e=>nN e fun es _=>es.isEmpty
 | .nq a as,S,e=>nN e fun es p=>u2 es fun x t=>UB x&&(EB a S x&&EB as S (.List t p))
end
variable{Γ:Ev}
theorem La(x:V)(H:Hp)(Q:Bool->Hp->Prop):zZ x H Q=∃k,x=.bl k/\Q k H:=by
 apply propext;cases x with
 |bl b=>exact⟨fun h=>⟨b,rfl,h⟩,fun⟨k,e,h⟩=>by cases e;exact h⟩
 |_=>exact⟨fun h=>Qb h,fun⟨k,e,h⟩=>by cases e⟩
theorem xX(x:V)(H:Hp)(Q:Option Int->Hp->Prop):nK x H Q=∃i,x=.int i/\Q (some i) H:=by
 apply propext;cases x with
 |int b=>exact⟨fun h=>⟨b,rfl,h⟩,fun⟨k,e,h⟩=>by cases e;exact h⟩
 |_=>exact⟨fun h=>Qb h,fun⟨k,e,h⟩=>by cases e⟩
theorem YS(K:QF)(x:V)(H:Hp)(Q:Bool->Hp->Prop):tG K x H Q=∃k,Pa K x H k/\Q k H:=by
 apply propext;cases x with
 |bl b=>exact⟨fun h=>⟨b,rfl,h⟩,fun⟨k,(e:k=b),h⟩=>by subst e;exact h⟩
 |int i=>exact⟨fun h=>⟨i != 0,rfl,h⟩,fun⟨k,(e:k=(i != 0)),h⟩=>by subst e;exact h⟩
 |non=>exact⟨fun h=>⟨false,rfl,h⟩,fun⟨k,(e:k=false),h⟩=>by subst e;exact h⟩
 |str z=>exact⟨fun h=>⟨_,⟨h.1,rfl⟩,h.2⟩,fun⟨k,⟨e1,e2⟩,h⟩=>by subst e2;exact⟨e1,h⟩⟩
 |_=>exact Wd
section
variable{X:Cx}
section
variable{e b:Expr}{es:List Expr}{env:Env}{its:List Value}
theorem jX:PE X e never.e:=fun _ _ _ _ _ _ h=>Qb h
theorem cK:PT X e never.t:=fun _ _ _ _ _ _ h=>Qb h
theorem vP:PA X es never.a:=fun _ _ _ _ _ _ _ h=>Qb h
theorem SD{a:Expr}{ta:TE}(ha:PE X a ta)(he:∀whole,isTrue a X.env whole=(do let v <- whole;standAt a.pos;holding [v] (truthy v))) :
  PT X a (fun σ H Q=>ta σ H fun x H'=>tG X.K x H' Q):=by
 intro pins s σ H Q I h;refine isTrue_plain (BB (ha pins s σ H _ I h) fun v s1 ⟨x,H1,I1,r1,q1⟩=>?_) (he _);have q1:tG X.K x H1 Q:=q1;rw[YS]at q1;exact bW pins s1 σ H1 x v Q I1 r1 q1
theorem dX{f:Value->Value->Sem Value}:bF X f (fun _ _ _ _=>False):=fun _ _ _ _ _ _ _ _ _ _ _ _ h=>h.elim
theorem V8(op:Operator):bF X (binaryOp op) (E4 X.K op):=by
 cases op with
 |Add=>exact op_add
 |Sub=>exact op_sub
 |Mult=>exact K8
 |FloorDiv=>exact G1
 |Mod=>exact op_mod
 |_=>exact dX
theorem fX(hu:X.A.units+66<cLine)(op:CmpOp):bF X (compareOp op) (NY X.K op):=by
 cases op with
 |Eq=>exact op_eq (by omega)
 |NotEq=>exact op_ne (by omega)
 |Lt=>exact dN _root_.L2.op_lt
 |LtE=>exact dN _root_.L2.op_le
 |Gt=>exact dN _root_.L2.op_gt
 |GtE=>exact dN _root_.L2.op_ge
 |In=>exact td hu
 |NotIn=>exact cX hu
 |Is=>exact fun _ _ _ _ _ _ _ _ _ _ _ _ h=>h.elim
 |IsNot=>exact fun _ _ _ _ _ _ _ _ _ _ _ _ h=>h.elim
theorem K9(hu:X.A.units+66<cLine):fZ X (GU X.K):=by
 intro value slice pins s σ H x y v u Q I rx ry h hs;have sq:=fun h=>Z9 (X:=X) value slice pins s σ H x y v u Q I rx ry h hs;have dc:=fun h=>j4 hu value slice pins s σ H x y v u Q I rx ry h hs;cases x with
 |str z =>
  cases y with
  |int i=>obtain⟨h1,c,h2,q⟩:=h;exact sq (.inr (.inr ⟨z,i,c,rfl,rfl,h1,h2,q⟩))
  |_=>exact Qb h
 |ref a =>
  cases y with
  |int i=>obtain⟨xs,w',hq,h2,q⟩:=h;rcases hq with hq|hq;exact sq (.inl ⟨a,xs,i,w',rfl,rfl,hq,h2,q⟩);exact sq (.inr (.inl ⟨a,xs,i,w',rfl,rfl,hq,h2,q⟩))
  |str z=>obtain⟨w',g,q⟩:=h;exact dc ⟨a,w',rfl,g,q⟩
  |ref b=>obtain⟨w',g,q⟩:=h;exact dc ⟨a,w',rfl,g,q⟩
  |_=>exact Qb h
 |_=>exact Qb h
theorem UX{op:CmpOp}(h:pP b=true):behindInMarks op b=false:=by cases b<;>first|rfl|cases h
theorem L0(h:eN b=true):cU b:=by intro o i;cases b<;>first|rfl|cases h
theorem yB(env:Env)(h:UB e=true):starEach (e::es) env=(false,eval e env)::starEach es env:=by cases e<;>first|rfl|cases h
theorem eR(h:pP e=true)(x:Value):foldedSetIterable e env x=pure x:=by cases e<;>first|rfl|cases h
theorem XX{o:Expr}{n:Str}(h:aN o=true):attributeBase o n env (eval o env)=eval o env:=by unfold attributeBase;split;cases h;rfl
theorem U3:Ub X "list.pop" C5:=by intro pins s σ H x xs v us Q I rx rs h;obtain⟨l,i,xs,k,y,rfl,rfl,hH,hk,hy,q⟩:=h;obtain⟨e1,e2,e3,e4⟩:=XN hk;have hl:xs.length<=sizeLine:=(show xB X.prog X.w H s.heap l (.lst xs) from I.hok l _ hH).1;rw[QV]at hl;exact NX pins s σ H _ _ v us Q I rx rs ⟨l,xs,i,k,y,rfl,rfl,hH,by omega,by omega,e1,hy,q⟩
theorem TJ{ys:List Str}(h:bA (ys.map V.str) its):StrsAre its ys:=by
 induction ys generalizing its with
 |nil=>cases h;exact .nil
 |cons y ys ih =>
  cases h with
  |cons h t=>obtain⟨k,rfl⟩:=h;exact .cons _ _ (ih t)
theorem B3:Ub X "str.join" (D5 X.K):=by intro pins s σ H x xs v us Q I rx rs h;obtain⟨z,b,ys,rfl,rfl,hq,hz,q⟩:=h;obtain⟨t,rfl⟩:=rx;obtain⟨u,rfl,ru⟩:=RI rs;cases ru;obtain⟨its,rv,p,_⟩:=I.list hq;exact join_list p.isList (by simpa using TJ rv) hz fun t' k=>⟨.str _,H,I.tok _,⟨_,rfl⟩,q⟩
theorem pU{ss:List Str}(h:StrsAre its ss):bA (ss.map V.str) its:=by
 induction h with
 |nil=>exact .nil
 |cons y t _ ih=>exact .cons ⟨t,rfl⟩ ih
theorem yM{α β:Type}{R:α->β->Prop}{its out:List β}(hp:its.Perm out):∀{xs:List α},Paired R xs its->∃ys,ys.Perm xs/\Paired R ys out:=by
 induction hp with
 |nil=>intro xs r;cases r;exact⟨[],wz _,.nil⟩
 |cons x _ ih =>
  intro xs r;cases r with
  |cons h t=>obtain⟨ys,p,v⟩:=ih t;exact⟨_::ys,p.cons _,.cons h v⟩
 |swap x y l =>
  intro xs r;cases r with
  |cons h t=>cases t with
   |cons h2 t=>exact⟨_::_::_,List.Perm.swap _ _ _,.cons h2 (.cons h t)⟩
 |trans _ _ i1 i2=>intro xs r;obtain⟨ys,p,v⟩:=i1 r;obtain⟨zs,q,u⟩:=i2 v;exact⟨zs,q.trans p,u⟩
theorem jW{xs:List V}{v:Value}(r:bA xs its)(h:v∈its):∃x∈xs,rA x v:=by
 induction r with
 |nil=>exact nomatch h
 |cons r t ih=>rcases QK.mp h with e|h;subst e;exact⟨_,QE,r⟩;obtain⟨x,hx,rx⟩:=ih h;exact⟨x,QG _ hx,rx⟩
theorem iS{h:Heap}:∀{zs:List (Str×V)}{its:List Value},bA (zs.map Wp) its->(∀z∈zs,∀u,rA z.2 u->RF h u z.1)->Paired (RF h) its (zs.map qE)
 |[],_,.nil,_=>.nil
 |z::_,_,.cons r t,k=>.cons (k z QE _ r) (iS t fun y hy=>k y (QG _ hy))
theorem oK{ι α β:Type}{R:α->β->Prop}{f:ι->α}{g:ι->β}:∀{l:List ι},(∀i∈l,R (f i) (g i))->Paired R (l.map f) (l.map g)
 |[],_=>.nil
 |i::_,h=>.cons (h i QE) (oK fun j hj=>h j (QG _ hj))
theorem oM{α β:Type}(f:α->β)(l:List α)(i:Nat)(d:α):(l.map f).getD i (f d)=f (l.getD i d):=by rw[QAM,QAM,Qc];cases l[i]?<;>rfl
theorem pQ(hu:X.A.units+66<cLine):BG X (.builtin "sorted") (ES X.K):=by
 intro pins s σ H xs us Q I r h;obtain⟨p,rfl,h⟩:=h;rcases h with⟨ss,hq,h64,q⟩| ⟨xs,hq,h64,hx,q⟩| ⟨zs,hq,h64,nd,hx,q⟩
 skip;obtain⟨u,rfl,rx⟩:=RI r;cases rx;obtain⟨its,rv,pl,hz⟩:=I.list hq;have hl:=rv.length;rw[QD]at hl;refine sorted_strs pl.isList (by simpa using TJ rv) (by omega) fun out ss' a1 a2 a3=>?_;obtain⟨e,he⟩:=QBo s.heap its out;have hlen:=(OM a1).1;have hp:=a2.length_eq;refine⟨.ref (s.heap.objs.size+1),_,I.laid (t':=s.toks) (fun b o z=>QBT z) (wU _) (show xB X.prog X.w _ _ _ (.lst (ss'.map V.str)) from⟨by rw[QD,QV];omega,out.toList,e,pU a1,by simpa using he⟩),rfl,q _ ss' (I.hok.fresh (wU _)) a2 a3⟩;skip;obtain⟨u,rfl,rx⟩:=RI r;cases rx;obtain⟨its,rv,pl,hz⟩:=I.list hq;have hl:=rv.length;have each:∀v∈its,∃b dd sl n items,∃ts:List Str,v=.ref b/\s.heap.get? b=some { cls:=.type "list",dict:=dd,data:=.seq items n,slots:=sl }/\StrsAre items.toList ts:=fun v hv=>by obtain⟨x,hx',rxv⟩:=jW rv hv;obtain⟨a,ts,rfl,sq⟩:=hx x hx';cases rxv;obtain⟨its2,rv2,⟨o,n,e,c,d,z⟩,_⟩:=I.list sq;obtain⟨oc,od,odt,osl⟩:=o;cases c;exact⟨a,od,osl,n,its2.toArray,ts,rfl,by rw[e,show odt=Data.seq its2.toArray n from z],by simpa using TJ rv2⟩
 refine SZ pl.isList (by omega) (fun v hv=>?_) (fun h3 kp x hx y hy C hC=>?_) fun out hp=>?_;obtain⟨b,dd,sl,n,items,ts,rfl,e,_⟩:=each v hv;exact⟨b,_,rfl,e,rfl⟩;obtain⟨b,dd,sl,n,items,ts,rfl,e,st⟩:=each x hx;obtain⟨b2,dd2,sl2,n2,items2,ts2,rfl,e2,st2⟩:=each y hy;exact dR (s:={ s with heap:=h3 }) (show X.A.units+1+1<cLine by omega) (kp _ _ e) (kp _ _ e2) st st2 (hC _);obtain⟨e,he⟩:=QBo s.heap its out.toArray;obtain⟨ys,py,vy⟩:=yM hp.symm rv;have hp2:=py.length_eq;refine⟨.ref (s.heap.objs.size+1),_,I.laid (t':=s.toks) (fun b o z=>QBT z) (wU _) (show xB X.prog X.w _ _ _ (.lst ys) from⟨by rw[QV];omega,out,e,vy,he⟩),rfl,q _ ys (I.hok.fresh (wU _)) py⟩;obtain⟨u,rfl,rx⟩:=RI r;cases rx;obtain⟨its,rv,pl,hz⟩:=I.list hq;have hl:=rv.length;rw[QD]at hl;refine RZ pl.isList (by omega) (iS rv fun z hz u ru=>?_) nd fun p hp hu=>?_;obtain⟨a,r,e,sq⟩:=hx z hz;rw[e]at ru;cases ru;obtain⟨its2,rv2,⟨o,e,c,n,d⟩,_⟩:=I.tuple sq;cases rv2 with
 |cons h t=>obtain⟨k,rfl⟩:=h;exact⟨a,o,n,k,_,rfl,e,c,d⟩
 have hs:p.size=its.length:=by have:=hp.size_eq;simpa using this
 have mem:∀i∈p.toList,i<its.length:=fun i hi=>by simpa using(ql.mp hp).mem_iff.mp hi
 obtain⟨e,he⟩:=QBo s.heap its (p.toList.map fun i=>its.getD i Value.none).toArray;have pz:(p.toList.map fun i=>zs.getD i ((⟨#[]⟩:Str),V.non)).Perm zs:=by refine((ql.mp hp).map _).trans ?_;show((Q5 its.length).map _).Perm zs;rw[<- hl,lI]
 have vz:bA ((p.toList.map fun i=>zs.getD i ((⟨#[]⟩:Str),V.non)).map Wp) (p.toList.map fun i=>its.getD i Value.none):=by rw[QY];refine oK fun i hi=>?_;have:=xG (d:=V.non) (e:=Value.none) rv i (by rw[QD];have:=mem i hi;omega);rw[show V.non=(((⟨#[]⟩:Str),V.non):Str×V).2 from rfl,oM Wp]at this;exact this
 have sz:=t7 hs hu;have se:((p.toList.map fun i=>zs.getD i ((⟨#[]⟩:Str),V.non)).map qE)=p.toList.map fun i=>(zs.map qE).getD i ⟨#[]⟩:=by rw[QY];exact qu fun i _=>(oM qE zs i ((⟨#[]⟩:Str),V.non)).symm
 rw[<- se]at sz;exact⟨.ref (s.heap.objs.size+1),_,I.laid (t':=s.toks) (fun b o z=>QBT z) (wU _) (show xB X.prog X.w _ _ _ (.lst ((p.toList.map fun i=>zs.getD i ((⟨#[]⟩:Str),V.non)).map Wp)) from⟨by rw[QV,QD,QD,QT];omega,_,e,vz,he⟩),rfl,q _ _ (I.hok.fresh (wU _)) pz sz⟩
theorem Me(hu:X.A.units+66<cLine)(hc:X.calm=true)(f:Bi):(∃id,bootBuiltins f.nm=some (.builtin id)/\BG X (.builtin id) (Pe X.K f))∨∃T,bootBuiltins f.nm=some (.type T)/\BG X (.type T) (Pe X.K f):=by
 cases f with
 |len=>exact .inl ⟨_,PySem.boot_len,SY⟩
 |all=>exact .inl ⟨_,PyProof.Rows.boot_all,TY hc⟩
 |list=>exact .inr ⟨_,PyProof.Rows.boot_list,yO⟩
 |sorted=>exact .inl ⟨_,QAd,pQ hu⟩
end
end
end L2.L3
namespace L2.L3
open PySem PySem.Spec PyProof.Rows
section
variable{S:SC}{i:Nat}{x:Str}
structure OkX(X:Cx)(S:SC)(G:Glob)(E:XK):Prop where
 N:X.N=S.N
 sc:X.env.scope=S.sc
 calm:X.calm=true
 un:X.A.units+66<cLine
 fn:∀f,G.fn f->∃(CX:pZ) (k:Nat) (a:Addr) (fd:FuncData) (ps:List Str),FnOk X.prog X.w X.K X.mg X.base CX k a fd ps (G.ev.sp f)/\Room k X.A/\X.mg f=some (.ref a)/\wx X.K (.ref a)=true/\vI X.K fd ps [] /\
  lL CX X E/\∀l H s e s',CX l H s (fun _ _ _=>False) e s'->False
 val:∀x,G.val x->∃u,X.mg x=some u/\rA (G.ev.va x) u
 no:∀x,G.no x->X.mg x=none
def pO(X:Cx)(Γ:Ev)(E:XK):PX->List Expr->Prop
 | .nq a as,e::es=>PE X e (wp X.K Γ a E).e/\pO X Γ E as es
 |_,_=>True
structure Snd(X:Cx)(Γ:Ev)(E:XK)(p:PX)(e:Expr):Prop where
 pe:PE X e (wp X.K Γ p E).e
 pt:PT X e (wp X.K Γ p E).t
 pw:∀op es pos,e=.BoolOp op es pos->PW X e (wp X.K Γ p E).t
 pa:∀es pos,e=.List es pos->PA X es (wp X.K Γ p E).a
 pas:∀es pos,e=.List es pos->pO X Γ E p es
theorem BZ(h:g7 S i x=true):S.N[i]?=some x/\jf S.sc x/\(x==("__debug__":Str))=false/\(x==("__classdict__":Str))=false:=by simp only[g7,Qe,WG,beq_iff_eq,bne_iff_ne,ne_eq]at h;obtain⟨⟨⟨h1,h2⟩,h3⟩,h4⟩:=h;refine⟨h1,?_,by simpa using h3,by simpa using h4⟩;rcases h2 with(h2|h2)|h2;exact .inl h2;exact .inr (.inl h2);exact .inr (.inr h2)
theorem N3(h:u9 S i x=true):S.N[i]?=some x/\S.sc.names.lookup x=some .local:=by simp only[u9,Qe,beq_iff_eq]at h;exact h
theorem fG(h:HN S x=true):S.sc.names.lookup x=some .globalImplicit/\(x==("__debug__":Str))=false/\x≠"__name__":=by simp only[HN,Qe,beq_iff_eq,bne_iff_ne,ne_eq]at h;exact⟨h.1.1,by simpa using h.1.2,h.2⟩
theorem sI:∀{l:List Str},eK l=true->l.Nodup
 |[],_=>Qw
 |x::r,h=>by simp only[eK,Qe,Q7]at h;exact Qk.mpr ⟨by simpa using h.1,sI h.2⟩
theorem fQ{scope:Scope}{tgs:List Str}{mask:List Bool}(h:LY S scope tgs mask=true):CompSt S.N S.sc scope tgs mask:=by simp only[LY,Qe,qF,beq_iff_eq,Q7]at h;obtain⟨⟨⟨h1,h2⟩,h3⟩,h4⟩:=h;refine⟨h1,fun y hy e=>?_,fun y hy e=>?_,fun y hy e=>?_,fun y hy e=>?_,sI h3,by simpa using h4⟩;have:=(h2 y hy).1.1;rw[e]at this;exact absurd this (by decide);have:=(h2 y hy).1.2;rw[e]at this;simp at this;exact this.1;have:=(h2 y hy).2;rw[e]at this;simp at this;exact this;have:=(h2 y hy).1.2;rw[e]at this;simp at this;exact this.2
theorem OkX.comp{X:Cx}{G:Glob}{E:XK}(ok:OkX X S G E)(scope:Scope)(tgs:List Str)(mask:List Bool)(s:Shared)(H:Hp)(ex:List Addr):OkX (FA X scope tgs mask s H ex) (IT S scope tgs mask) G (fun _ _ _=>False) where
 N:=by show tgs++aB mask 0 X.N=tgs++aB mask 0 S.N;rw[ok.N]
 sc:=by show vK scope X.env.scope=vK scope S.sc;rw[ok.sc]
 calm:=ok.calm
 un:=ok.un
 fn:=fun f h=>by obtain⟨CX,k,a,fd,ps,h1,h2,h3,h4,h5,h6,h7⟩:=ok.fn f h;exact⟨CX,k,a,fd,ps,h1,h2,h3,h4,h5,fun _ _ _ _ _ _ _ z=>(h7 _ _ _ _ _ z).elim,h7⟩
 val:=ok.val
 no:=ok.no
end
section
variable{X:Cx}
theorem IX{c:Bool}{S:SC}{i:Nat}{x:Str}(hN:X.N=S.N)(hsc:X.env.scope=S.sc)(cel:c=true->∀x,X.fn x=true)(h:Vb c S i x=true):X.N[i]?=some x/\Bb X.env.scope x/\(X.fn x=true∨X.env.scope.names.lookup x=some .local):=by
 simp only[Vb,Qe,WG,beq_iff_eq]at h;rw[hN,hsc];rcases h.2 with z|⟨z1,z2⟩
 exact⟨h.1,.inl z,.inr z⟩;exact⟨h.1,.inr z2,.inl (cel z1 x)⟩
theorem PL{c:Bool}{S:SC}(cel:c=true->∀x,X.fn x=true)(hN:X.N=S.N)(hsc:X.env.scope=S.sc)(nd:X.N.Nodup):∀(is:List Nat) (es:List Expr),is.length=es.length->((is.zip es).all fun p=>match p.2 with | .Name x _=>Vb c S p.1 x|_=>false)=true ->
  ak X es (fun vs σ H Q=>∃σ',jB is vs σ=some σ'/\Q σ' H)
 |[],[],_,_=>by
  intro pins s σ H vs us Q I r h;obtain⟨σ',e,q⟩:=h;cases vs with
  |nil=>cases r;simp only[jB]at e;cases e;exact assignInOrder_nil ⟨σ,H,I,q⟩
  |cons _ _=>simp[jB]at e
 |[],_::_,h,_=>by cases h
 |_::_,[],h,_=>by cases h
 |i::is,e::es,hl,hz=>by
  simp only[WB,qv,Qe]at hz;obtain⟨h1,h2⟩:=hz;cases e with
  |Name x pos =>
   obtain⟨g1',g2',g3'⟩:=IX hN hsc cel h1;have ih:=PL cel hN hsc nd is es (by simpa using hl) h2;intro pins s σ H vs us Q I r h;obtain⟨σ',e,q⟩:=h;cases vs with
   |nil=>simp[jB]at e
   |cons v vs =>
    simp only[jB]at e;cases r with
    |cons r rr=>show wpAny _ _ (assignInOrder (assign (.Name x pos) X.env::(assignEach es X.env).map (·.2)) _) _ _ _;refine assignInOrder_cons (BB (xT (pos:=pos) nd g1' g2' g3' pins s σ H v _ _ I r (show XT i v σ H (fun σ1 H1=>σ1=σ.set i (some v)/\H1=H) from⟨rfl,rfl⟩)) fun _ s1 ⟨σ1,H1,I1,e1,e2⟩=>?_);subst e1 e2;exact ih pins s1 _ _ vs _ Q I1 rr ⟨σ',e,q⟩
  |_=>simp at h1
theorem BP{c:Bool}:∀(is:List Nat) (es:List Expr) (S:SC),is.length=es.length->((is.zip es).all fun p=>match p.2 with | .Name x _=>Vb c S p.1 x|_=>false)=true->(assignEach es X.env).length=es.length/\(assignEach es X.env).findIdx? (·.1)=none
 |[],[],_,_,_=>⟨rfl,rfl⟩
 |[],_::_,_,h,_=>by cases h
 |_::_,[],_,h,_=>by cases h
 |i::is,e::es,S,hl,hz=>by
  simp only[WB,qv,Qe]at hz;obtain⟨h1,h2⟩:=hz;cases e with
  |Name x pos=>have ih:=BP is es S (by simpa using hl) h2;have e1:assignEach (.Name x pos::es) X.env=(false,assign (.Name x pos) X.env)::assignEach es X.env:=rfl;rw[e1];refine⟨by rw[QL,QL,ih.1],?_⟩;rw[List.findIdx?_cons];simp[ih.2]
  |_=>simp at h1
theorem EJ:∀{is:List Nat}{vs:List V}{σ σ':St},jB is vs σ=some σ'->vs.length=is.length
 |[],[],_,_,_=>rfl
 |[],_::_,_,_,h=>by simp[jB]at h
 |_::_,[],_,_,h=>by simp[jB]at h
 |_::is,_::vs,σ,σ',h=>by simp only[jB]at h;rw[QL,QL,EJ h]
theorem vT{c:Bool}{S:SC}{G:Glob}{E:XK}(ok:OkX X S G E)(cel:c=true->∀x,X.fn x=true)(nd:X.N.Nodup){tg:Tg}{e:Expr}(h:og c S tg e=true):PG X e (oE X.K tg):=by
 cases tg with
 |nm i =>
  cases e with
  |Name x pos=>obtain⟨g1',g2',g3'⟩:=IX ok.N ok.sc cel h;exact xT nd g1' g2' g3'
  |_=>cases h
 |tp is =>
  cases e with
  |Tuple es k pos =>
   obtain⟨h0,h2⟩:=yA h;have h1:=qm h0;obtain⟨l1,l2⟩:=BP (X:=X) is es S h1 h2;have base:=u8 (pos:=pos) (k:=k) (n:=es.length) ok.calm (PL cel ok.N ok.sc nd is es h1 h2) l1 l2;intro pins s σ H v u Q I r hw;refine base pins s σ H v u Q I r ?_;cases v with
   |ref p=>obtain⟨xs,σ',hq,e,q⟩:=hw;exact⟨p,xs,rfl,hq,by rw[EJ e,h1],σ',e,q⟩
   |_=>exact Qb hw
  |_=>cases h
end
variable{Γ:Ev}
theorem YZ(K:QF)(a:Addr)(xs:List V):Yields (Vk K a) (xs.map .one) (fun H=>HC K H a xs) :=
  { go:=fun i H h hi=>by
      have hi':i<xs.length:=by simpa using hi
      exact⟨xs,xs[i],h,by simp[hi']⟩
    yld:=fun i H x H' h _ ⟨e,y⟩=>⟨.one x,by rw[Qc,y xs h];rfl,rfl,e⟩
    stop:=fun i H h hi=>⟨xs,h,by simpa using hi⟩ }
theorem P6(K:QF)(a:Addr)(xs:List V):Yields (Zk K a) (xs.map .one) (fun H=>TC K H a xs) :=
  { go:=fun i H h hi=>by
      have hi':i<xs.length:=by simpa using hi
      exact⟨xs,xs[i],h,by simp[hi']⟩
    yld:=fun i H x H' h _ ⟨e,y⟩=>⟨.one x,by rw[Qc,y xs h];rfl,rfl,e⟩
    stop:=fun i H h hi=>⟨xs,h,by simpa using hi⟩ }
theorem R6(z:Str):Yields (Mj z) (z.cps.toList.map fun c=>.one (.str ⟨#[c]⟩)) (fun _=>True) :=
  { go:=fun i H h hi=>by
      have hi':i<z.cps.size:=by simpa using hi
      exact hi'
    yld:=fun i H x H' h _ ⟨e,c,hc,ex⟩=>⟨.one x,by rw[Qc,qa,hc,ex];rfl,rfl,e⟩
    stop:=fun i H h hi=>by
      have hi':z.cps.size<=i:=by simpa using hi
      exact hi' }
theorem S6(lo:Int)(n:Nat):Yields (Nj lo n) ((Q5 n).map fun(k:Nat)=>.one (.int (lo+(k:Int)))) (fun _=>True) :=
  { go:=fun i H h hi=>by
      have hi':i<n:=by simpa using hi
      exact hi'
    yld:=fun i H x H' h hi ⟨e,ex⟩=>by
      have hi':i<n:=by simpa using hi
      exact⟨.one x,by rw[Qc,QBG hi',ex];rfl,rfl,e⟩
    stop:=fun i H h hi=>by
      have hi':n<=i:=by simpa using hi
      exact hi' }
theorem O6(K:QF)(z1 z2:Src)(xs ys:List V):Yields (Yk K z1 z2) ((xs.zip ys).map fun p=>.tup [p.1,p.2]) (fun H=>aL K H z1 xs/\aL K H z2 ys) :=
  { go:=fun i H h hi=>by
      have hi':i<xs.length/\i<ys.length:=by simp only[QD,QA2]at hi;omega
      exact⟨xs,ys,xs[i],ys[i],h.1,h.2,by simp[hi'.1],by simp[hi'.2]⟩
    yld:=fun i H x H' h hi ⟨p,a,b,hp,e,eH,k⟩=>by obtain⟨e1,e2⟩:=k xs ys h.1 h.2;refine⟨.tup [a,b],?_,p,hp,e,eH⟩;rw[Qc,(List.getElem?_zip_eq_some (z:=(a,b))).mpr ⟨e1,e2⟩];rfl
    stop:=fun i H h hi=>⟨xs,ys,h.1,h.2,by simp only[QD,QA2]at hi;omega⟩ }
theorem KZ(K:QF)(z:Src)(c:Nat)(xs:List V):Yields (Uk K z c) (xs.zipIdx.map fun p=>.tup [.int ((c+p.2:Nat):Int),p.1]) (fun H=>aL K H z xs) :=
  { go:=fun i H h hi=>by
      have hi':i<xs.length:=by simpa using hi
      exact⟨xs,xs[i],h,by simp[hi']⟩
    yld:=fun i H x H' h hi ⟨p,a,hp,e,eH,k⟩=>by
      have hi':i<xs.length:=by simpa using hi
      have e1:=k xs h;refine⟨.tup [.int ((c+i:Nat):Int),a],?_,p,hp,e,eH⟩;have e2:xs.zipIdx[i]?=some (a,i):=by rw[List.getElem?_zipIdx,e1];simp
      rw[Qc,e2];rfl
    stop:=fun i H h hi=>⟨xs,h,by simpa using hi⟩ }
theorem RV(ep:Nat)(a:Addr)(kvs:List KE):Yields (Kk ep kvs.length a) (kvs.map fun p=>.tup [.ref p.2.1,p.2.2]) (fun H=>H a=some (.dT ep kvs)) :=
  { go:=fun i H h hi=>by
      have hi':i<kvs.length:=by simpa using hi
      exact⟨kvs,kvs[i],h,rfl,by simp[hi']⟩
    yld:=fun i H x H' h hi ⟨q,p,hq,e,eH,k⟩=>⟨.tup [.ref p.2.1,p.2.2],by rw[Qc,k kvs h];rfl,q,hq,e,eH⟩
    stop:=fun i H h hi=>⟨kvs,h,rfl,by simpa using hi⟩ }
theorem ZZ(ep:Nat)(a:Addr)(kvs:List KE):Yields (Xk ep kvs.length a) (kvs.map fun p=>.one (.ref p.2.1)) (fun H=>H a=some (.dT ep kvs)) :=
  { go:=fun i H h hi=>by
      have hi':i<kvs.length:=by simpa using hi
      exact⟨kvs,kvs[i],h,rfl,by simp[hi']⟩
    yld:=fun i H x H' h hi ⟨eH,k⟩=>by obtain⟨p,e1,e2⟩:=k kvs h;exact⟨.one (.ref p.2.1),by rw[Qc,e1];rfl,e2,eH⟩
    stop:=fun i H h hi=>⟨kvs,h,rfl,by simpa using hi⟩ }
def ZO(wi0:St->Hp->(List Item->(Hp->Prop)->Hp->Prop)->Prop):TI:=fun σ H R=>wi0 σ H fun xs st H'=>∀J,Yields J xs st->R J H'
section
variable{X:Cx}{tg:Expr}
section
variable{a:Expr}{ta:TA}{p pos pt:Pos}{x:Str}{es:List Expr}{kt:Nat}
theorem N0{l:Expr}{t:TE}(hl:PE X l t):PI X tg l (ZO fun σ H R=>t σ H fun v H1=>vC X.K .val [v] H1 R):=by
 intro pins s σ H R I h;refine BB (hl pins s σ H _ I h) fun v s1 ⟨x,H1,I1,r1,q1⟩=>?_;have fp1:∀b∈[s1.heap.objs.size],kI X pins H1 b:=fun b hb=>by
  have e:b=s1.heap.objs.size:=by simpa using hb
  subst e;exact I1.fpOk (QS _) (I1.hok.fresh (QS _))
 cases x with
 |str z=>obtain⟨t,rfl⟩:=r1;refine wpAny_pyIter_strU ?_;exact⟨s1.heap.objs.size,[s1.heap.objs.size],_,_,H1,rfl,I1.kept (t':=s1.toks) fun b o e=>QH _ e,uW _ z t,⟨_,QO _ rfl,rfl,rfl⟩,fp1,q1 _ (R6 z)⟩
 |ref a =>
  cases r1;rcases q1 with⟨xs,hq,q⟩| ⟨xs,hq,q⟩| ⟨ep,kvs,e,q⟩
  obtain⟨its,rv,p,hz⟩:=I1.list hq;refine Wk p.isList ?_;exact⟨s1.heap.objs.size,[s1.heap.objs.size],_,_,H1,rfl,I1.kept (t':=s1.toks) fun b o e=>QH _ e,sU a _,⟨_,QO _ rfl,rfl,rfl⟩,fp1,q _ (YZ _ a xs)⟩;obtain⟨its,rv,p,hz⟩:=I1.tuple hq;refine QBQ (show s1.heap.IsTuple a its.toArray from p) ?_;exact⟨s1.heap.objs.size,[s1.heap.objs.size],_,_,H1,rfl,I1.kept (t':=s1.toks) fun b o e=>QH _ e,NQ a _,⟨_,QO _ rfl,rfl,rfl⟩,fp1,q _ (P6 _ a xs)⟩;obtain⟨z,hd,xs,r,ob,es',g1,g2,g3,g4,g5⟩:=(show xB X.prog X.w H1 s1.heap a (.dT ep kvs) from I1.hok a _ e)
  have hsz:es'.size=kvs.length:=by have:=congrArg qg g4;rw[QD,QT]at this;rw[this,<- qJ r]
  refine v4 hd g1 g2.1 g3 ?_;exact⟨s1.heap.objs.size,[s1.heap.objs.size],_,_,H1,rfl,I1.kept (t':=s1.toks) fun b o e=>QH _ e,tU (a:=a) (n:=kvs.length) (ep:=ep),⟨_,QO _ rfl,rfl,by rw[<- hsz];rfl⟩,fp1,q _ (ZZ ep a kvs)⟩
 |_=>exact Qb q1
theorem O0(hx:x="range")(hg:Gl X x)(hm:X.mg x=none)(ha:PA X [a] ta)(hs:UB a=true) :
  PI X tg (.Call (.Name x p) [a] [] pos) (ZO fun σ H R=>ta σ H fun vs H1=>vC X.K .rng1 vs H1 R):=by
 subst hx;intro pins s σ H R I h;refine Call_ (IG I hg hm boot_range (qh (BB (ha pos pins s σ H _ I h) fun us s1 ⟨vs,H1,I1,r1,q1⟩=>?_) (yB _ hs) rfl))
 match vs,q1 with
 |[.int j],⟨⟨q1,q2⟩,q⟩ =>
  cases r1 with
  |cons r rr =>
   cases rr;obtain⟨t,rfl⟩:=r;refine call_range_1 (DW I1 (by omega) (by omega) q1 q2 ?_);have e:(j - 0).toNat=j.toNat:=by simp
   rw[e];have y:=S6 0 j.toNat;refine q _ ?_;simpa using y
theorem IY:bootBuiltins ("zip":Str)=some (.type "zip"):=by kernel_rfl
theorem v8{b:Expr}(hx:x="zip")(hg:Gl X x)(hm:X.mg x=none)(ha:PA X [a,b] ta)(hs:UB a=true)(hs2:UB b=true) :
  PI X (.Tuple es kt pt) (.Call (.Name x p) [a,b] [] pos) (ZO fun σ H R=>ta σ H fun vs H1=>vC X.K .zip2 vs H1 R):=by
 subst hx;intro pins s σ H R I h;refine Call_ (IG I hg hm IY (qh (BB (ha pos pins s σ H _ I h) fun us s1 ⟨vs,H1,I1,r1,q1⟩=>?_) (yB _ hs) (by rw[yB _ hs2];rfl)))
 match vs,q1 with
 |[.ref l1,.ref l2],⟨xs,ys,h1,h2,q⟩ =>
  cases r1 with
  |cons r rr =>
   cases rr with
   |cons r' rr =>
    cases rr;cases r;cases r';obtain⟨its,_,sh1,_⟩:=I1.src (z:=.l l1) h1;obtain⟨jts,_,sh2,_⟩:=I1.src (z:=.l l2) h2;refine call_zip_2 sh1 sh2 fun h' b1 b2 b3 b4 b5 _ kp=>QBv b1 ?_;have I2:=I1.kept (h':=h') (t':=s1.toks) kp;refine⟨_,[s1.heap.objs.size+4,s1.heap.objs.size+2,s1.heap.objs.size+3,s1.heap.objs.size,s1.heap.objs.size+1],_,_,H1,rfl,I2,xW (iO (rB.lt (z:=.l l1) sh1) (rB.lt (z:=.l l2) sh2)),⟨b1,b2,⟨_,_,b3⟩,b4,b5⟩,fun b hb=>?_,q _ (O6 _ (.l l1) (.l l2) xs ys)⟩;have hb':s1.heap.objs.size<=b:=by simp only[QK,Ql,or_false]at hb;rcases hb with rfl|rfl|rfl|rfl|rfl;exact WR _ _;exact WR _ _;exact WR _ _;exact QS _;exact WR _ _
    exact I1.fpOk hb' (I1.hok.fresh hb')
theorem BV:bootBuiltins ("enumerate":Str)=some (.type "enumerate"):=by kernel_rfl
theorem ZY{pins:FB}{σ:St}{H1:Hp}{s1:Shared}{R:It->Hp->Prop}{c:Nat}{z:Src}{xs:List V}{its:Array Value}{h':Heap}(I1:Inv X pins σ H1 s1)(sh:rB s1.heap z its)(st:sS (s1.heap.objs.size+1) s1.heap.objs.size z c 0 h')(kp:∀c o,s1.heap.get? c=some o->h'.get? c=some o)
  (q:∀J,Yields J (xs.zipIdx.map fun p=>.tup [.int ((c+p.2:Nat):Int),p.1]) (fun H=>aL X.K H z xs)->R J H1):wpAny (model X.prog X.w) X.A (pyIter (.ref (s1.heap.objs.size+1))) (Uj X pins σ (.Tuple es kt pt) R) X.xe { s1 with heap:=h' }:=by
 obtain⟨⟨old,a1⟩,_⟩:=id st;refine QBd a1 ?_;have I2:=I1.kept (h':=h') (t':=s1.toks) kp;have lt:=sh.lt;refine⟨_,[s1.heap.objs.size+1,s1.heap.objs.size],_,_,H1,rfl,I2,aU (vk (Nat.succ_ne_self _)) (Qd (qt lt)) (Qd lt),st,fun b hb=>?_,q _ (KZ _ z c xs)⟩;have hb':s1.heap.objs.size<=b:=by simp only[QK,Ql,or_false]at hb;rcases hb with rfl|rfl;exact WR _ _;exact QS _
 exact I1.fpOk hb' (I1.hok.fresh hb')
theorem T0(hx:x="enumerate")(hg:Gl X x)(hm:X.mg x=none)(ha:PA X [a] ta)(hs:UB a=true) :
  PI X (.Tuple es kt pt) (.Call (.Name x p) [a] [] pos) (ZO fun σ H R=>ta σ H fun vs H1=>vC X.K .enum vs H1 R):=by
 subst hx;intro pins s σ H R I h;refine Call_ (IG I hg hm BV (qh (BB (ha pos pins s σ H _ I h) fun us s1 ⟨vs,H1,I1,r1,q1⟩=>?_) (yB _ hs) rfl))
 match vs,q1 with
 |[.ref l1],⟨z,xs,e1,h1,q⟩ =>
  subst e1;cases r1 with
  |cons r rr=>cases rr;cases r;obtain⟨its,_,sh1,_⟩:=I1.src h1;refine cS sh1 fun h' st kp=>ZY (xs:=xs) I1 sh1 st kp ?_;simpa using q
theorem y4{K:QF}{u:V}{H:Hp}{R:List Item->(Hp->Prop)->Hp->Prop}(h:vC K .itm [u] H R):∃a ep kvs,u=.ref a/\H a=some (.dT ep kvs)/\R (kvs.map fun p=>.tup [.ref p.2.1,p.2.2]) (fun H=>H a=some (.dT ep kvs)) H:=by
 cases u with
 |ref a=>obtain⟨ep,kvs,e,q⟩:=h;exact⟨a,ep,kvs,rfl,e,q⟩
 |_=>exact Qb h
theorem x8{o:Expr}{to:TE}{apos cpos:Pos}(ho:PE X o to)(hbase:attributeBase o "items" X.env (eval o X.env)=eval o X.env)(hline:(apos.endLine==cpos.line)=true) :
  Xg X (.Tuple es kt pt) (.Call (.Attribute o "items" apos) [] [] cpos) (ZO fun σ H R=>to σ H fun v H1=>vC X.K .itm [v] H1 R):=by
 intro pins s σ H R I h;refine QAj hbase hline (BB (ho pins s σ H _ I h) fun v s1 ⟨x,H1,I1,r1,q1⟩=>?_);obtain⟨a,ep,kvs,rfl,e,q⟩:=y4 q1;cases r1;obtain⟨z,hd,xs,r,ob,es',h1,h2,h3,h4,h5⟩:=(show xB X.prog X.w H1 s1.heap a (.dT ep kvs) from I1.hok a _ e)
 refine⟨"dict",_,QAo,PySem.F.slot_dict_items,PySem.F.type_dict_items,⟨ob,h1,h2.1⟩,fun b eb=>?_,Wg rfl (QBD (bS h1 h2.1 hd ?_))⟩;cases eb;exact⟨ob,h1,h2.2.1⟩;have I2:Inv X pins σ H1 { s1 with heap:=s1.heap.push { cls:=.type "dict_items",data:=.fields #[.ref a] } }:=I1.kept (t':=s1.toks) fun b o e=>QH _ e;refine dY ⟨_,QO _ rfl,rfl,rfl⟩ (QH _ h1) h3 ?_;have hsz:es'.size=kvs.length:=by have:=congrArg qg h4;rw[QD,QT]at this;rw[this,<- qJ r]
 refine⟨_,[_],_,_,H1,rfl,I2.kept (t':=s1.toks) fun b o e=>QH _ e,PQ (a:=a) (n:=kvs.length) (ep:=ep),⟨.none,.none,?_⟩,fun b hb=>?_,q _ (RV ep a kvs)⟩;rw[<- hsz];exact QO _ rfl;have e:=QI.mp hb;subst e;exact I2.fpOk (QS _) (I2.hok.fresh (QS _))
end
end
section
variable{σ' σ:St}{K:QF}{tg:Tg}{H:Hp}{Q:St->Hp->Prop}
def Tg.at:Tg->List Nat
 | .nm i=>[i]
 | .tp is=>is
def XQ(tg:Tg)(σ' σ:St):Prop:=σ'.length=σ.length/\∀(j:Nat),j∉tg.at->σ'[j]?=σ[j]?
theorem JU{i:Nat}{v:Option V}(h:σ'.length=σ.length)(hj:∀j,j≠i->σ'[j]?=σ[j]?):σ'.set i v=σ.set i v:=by apply wg;intro j;by_cases e:j=i;subst e;by_cases hl:j<σ.length;rw[qU (by omega),qU hl];rw[qH (by rw[wA];omega),qH (by rw[wA];omega)];rw[qN (Q2 e),qN (Q2 e)];exact hj j e
theorem nH:∀(is:List Nat) (vs:List V) (σ' σ:St),σ'.length=σ.length->(∀j,j∉is->σ'[j]?=σ[j]?)->jB is vs σ'=jB is vs σ
 |[],[],σ',σ,hl,h=>by have:σ'=σ:=wg fun j=>h j (by simp);rw[this]
 |[],_::_,_,_,_,_=>rfl
 |_::_,[],_,_,_,_=>rfl
 |i::is,v::vs,σ',σ,hl,h=>by simp only[jB];refine nH is vs _ _ (by simp[hl]) fun j hj=>?_;by_cases e:j=i;subst e;by_cases hl':j<σ.length;rw[qU (by omega),qU hl'];rw[qH (by rw[wA];omega),qH (by rw[wA];omega)];rw[qN (Q2 e),qN (Q2 e)];exact h j (by simp[e,hj])
theorem iE:∀(is:List Nat) (vs:List V) (σ σ':St),jB is vs σ=some σ'->σ'.length=σ.length/\∀j,j∉is->σ'[j]?=σ[j]?
 |[],[],σ,σ',e=>by simp only[jB]at e;cases e;exact⟨rfl,fun _ _=>rfl⟩
 |[],_::_,_,_,e=>by simp[jB]at e
 |_::_,[],_,_,e=>by simp[jB]at e
 |i::is,v::vs,σ,σ',e=>by simp only[jB]at e;obtain⟨h1,h2⟩:=iE is vs _ _ e;refine⟨by rw[h1,wA],fun j hj=>?_⟩;rw[h2 j (fun z=>hj (QG _ z)),qN (fun z=>hj (by simp[z]))]
theorem tQ{v:V}(a:XQ tg σ' σ)(h:oE K tg v σ H Q):oE K tg v σ' H fun σ3 H3=>XQ tg σ3 σ/\Q σ3 H3:=by
 obtain⟨al,aj⟩:=a;cases tg with
 |nm i=>have e:σ'.set i (some v)=σ.set i (some v):=JU al fun j hj=>aj j (by simpa[Tg.at]using hj);show XQ (.nm i) (σ'.set i (some v)) σ/\Q (σ'.set i (some v)) H;rw[e];exact⟨⟨by simp,fun j hj=>qN (fun z=>hj (by simp[Tg.at,z]))⟩,h⟩
 |tp is =>
  cases v with
  |ref p=>obtain⟨xs,σ3,hq,e,q⟩:=h;exact⟨xs,σ3,hq,by rw[nH is xs σ' σ al fun j hj=>aj j hj];exact e,⟨(iE is xs σ σ3 e).1,fun j hj=>(iE is xs σ σ3 e).2 j hj⟩,q⟩
  |_=>exact Qb h
theorem dS{v:V}{Q':St->Hp->Prop}(m:∀σ H,Q σ H->Q' σ H)(h:oE K tg v σ H Q):oE K tg v σ H Q':=by
 cases tg with
 |nm i=>exact m _ _ h
 |tp is =>
  cases v with
  |ref p=>obtain⟨xs,σ3,hq,e,q⟩:=h;exact⟨xs,σ3,hq,e,m _ _ q⟩
  |_=>exact Qb h
theorem bL{it:Item}{x:V}{H':Hp}(hi:match it with | .one v=>x=v/\H'=H | .tup vs=>∃p,H p=none/\x=.ref p/\H'=UA H p (.tup vs))(h:bindI K tg it σ H Q):oE K tg x σ H' Q:=by
 cases it with
 |one v=>obtain⟨rfl,rfl⟩:=hi;exact h
 |tup vs =>
  obtain⟨p,hp,rfl,rfl⟩:=hi;cases tg with
  |nm i=>exact h p hp
  |tp is =>
   obtain⟨σ',e,q⟩:=h (UA H p (.tup vs)) fun b o e=>by rw[vA (iA e hp)];exact e
   exact⟨vs,σ',TC.of ZA,e,q⟩
theorem HY{xs:List Item}{st:Hp->Prop}{tc:TT}{te:TE}{σ0:St}{Q:VK}(h:ae K xs st (bindI K tg) tc te σ0 H Q):lU K xs st tg tc te σ0 H Q:=by
 obtain⟨W,w0,hst,turn,done⟩:=h;intro J Y;refine⟨fun i m acc σ' H'=>m=xs.length - i/\i<=xs.length/\XQ tg σ' σ0/\W i acc H',⟨xs.length,by simp,Qy _,⟨rfl,fun _ _=>rfl⟩,w0⟩,?_⟩;rintro i m acc σ' H' ⟨rfl,hi,ag,w⟩;have s':=hst i acc H' hi w;by_cases hlt:i<xs.length;refine .inr ⟨Y.go i H' s' hlt,fun x H2 y=>?_⟩;obtain⟨it,hit,hy⟩:=Y.yld i H' x H2 s' hlt y;have b:=tQ ag (bL hy (turn i it acc H' hit w));refine dS (fun σ3 H3 q=>?_) b;obtain⟨ag3,q⟩:=q;have e1:∀(acc':List V) (H5:Hp),(∃m',m' < xs.length - i/\m'=xs.length - (i+1)/\i+1<=xs.length/\XQ tg σ3 σ0/\W (i+1) acc' H5)=W (i+1) acc' H5:=fun acc' H5 =>
  propext ⟨fun⟨_,_,_,_,_,w⟩=>w,fun w=>⟨_,by omega,rfl,hlt,ag3,w⟩⟩
 simp only[e1];exact q
 ·have e:i=xs.length:=by omega
  subst e;obtain⟨hz,q⟩:=done acc H' w;exact .inl ⟨Y.stop _ H' s' (QS _),hz,q⟩
end
end L2.L3
namespace L2.L3
open PySem PySem.Spec PyProof.Rows
variable{Γ:Ev}
section
variable{X:Cx}{E:XK}{p its:PX}{es:List Expr}{e t it:Expr}{pos:Pos}{S:SC}{Q:List V->Hp->Prop}{G:Glob}{ik:ItK}
def tN:PX->Bool
 | .nq _ _=>false
 |_=>true
theorem iQ(h:tN p=true):pO X Γ E p es:=by cases p<;>first|trivial|cases h
theorem fO(Q:Bool->Hp->Prop):(fun(x:V) (H1:Hp)=>zZ x H1 Q)=fun(x:V) (H1:Hp)=>∃k,x=.bl k/\Q k H1:=by funext x H1;exact La x H1 Q
theorem Snd.of(pe:PE X e (wp X.K Γ p E).e)(pt:PT X e (wp X.K Γ p E).t)(hb:∀op es pos,e≠.BoolOp op es pos)(ha:(wp X.K Γ p E).a=never.a)(hn:tN p=true:=by rfl):Snd X Γ E p e :=
 ⟨pe,pt,fun op es pos z=>absurd z (hb op es pos),fun es pos z=>by rw[ha];exact vP,fun _ _ _=>iQ hn⟩
theorem Snd.lit(pe:PE X e (wp X.K Γ p E).e)(ht:(wp X.K Γ p E).t=never.t)(hb:∀op es pos,e≠.BoolOp op es pos)(ha:(wp X.K Γ p E).a=never.a)(hn:tN p=true:=by rfl):Snd X Γ E p e :=
 Snd.of pe (by rw[ht];exact cK) hb ha hn
theorem Snd.args(ha:PA X es (wp X.K Γ p E).a)(hp:pO X Γ E p es)(he:(wp X.K Γ p E).e=never.e)(ht:(wp X.K Γ p E).t=never.t):Snd X Γ E p (.List es pos) :=
 ⟨by rw[he];exact jX,by rw[ht];exact cK,fun _ _ _ z=>(by cases z),fun es' pos' z=>by cases z;exact ha,fun es' pos' z=>by cases z;exact hp⟩
theorem t8{x:Str}{v:V}{u:Value}(hsc:X.env.scope=S.sc)(h:HN S x=true)(hm:X.mg x=some u)(r:rA v u):PE X (.Name x pos) (fun _ H Q=>Q v H):=by obtain⟨h1,h2,h3⟩:=fG h;exact u1 (show X.env.scope.names.lookup x=some .globalImplicit by rw[hsc];exact h1) hm r h2
theorem dD:∀(p:PX) {es:List Expr},EB p S (.List es pos)=true->es.all UB=true:=by
 intro p;induction p with
 |nr=>intro es h;have h:es.isEmpty=true:=h;rw[Qt.mp h];rfl
 |nq a as _ ih=>intro es h;have h:u2 es _=true:=h;obtain⟨x,t,rfl,h⟩:=SI h;have h1:=yA h;rw[qv,h1.1,ih (yA h1.2).2];rfl
 |lst as ih=>exact fun h=>ih h
 |_=>exact fun h=>(QC h).elim
theorem eQ{K:QF}{σ:St}{H:Hp}:∀(p:PX),HE p=true->EB p S (.List [] pos)=true->((wp K Γ p E).a σ H Q↔Q [] H):=by
 intro p;cases p with
 |nr=>exact fun _ _=>Wd
 |nq _ _=>exact fun _ h=>(QC h).elim
 |_=>exact fun h=>(QC h).elim
theorem FV{K:QF}{σ:St}{H:Hp}(p:PX)(h:EB p S (.List [] pos)=true)(q:(wp K Γ p E).a σ H Q):Q [] H:=by
 cases hi:HE p with
 |true=>exact(eQ p hi h).mp q
 |false =>
  cases p with
  |nr=>exact q
  |nq _ _=>exact(QC h).elim
  |_=>exact q.elim
theorem aQ{a:Expr}(p:PX)(h0:HE p=true)(h:EB p S (.List [a] pos)=true):∃a1,p=.nq a1 .nr:=by
 cases p with
 |nq a1 r =>
  have h2:EB r S (.List [] pos)=true:=(yA (yA h).2).2;cases r with
  |nr=>exact⟨a1,rfl⟩
  |nq _ _=>exact(QC h2).elim
  |_=>exact(QC h0).elim
 |nr=>exact(QC h).elim
 |_=>exact(QC h0).elim
theorem Ld(hu:X.A.units+66<cLine)(m:Mt):∃id,PlainAttrs m.ty/\Slot m.ty m.nm id/\typeOf (.builtin id)=pure (.type "method_descriptor")/\Ub X id (C3 X.K m):=by
 cases m with
 |append=>exact⟨_,We,PySem.F.slot_list_append,PySem.F.type_list_append,xV⟩
 |pop=>exact⟨_,We,PySem.F.slot_list_pop,PySem.F.type_list_pop,U3⟩
 |join=>exact⟨_,PySem.F.plainAttrs_str,PySem.F.slot_str_join,PySem.F.type_str_join,B3⟩
 |setd=>exact⟨_,QAo,PySem.F.slot_dict_setdefault,PySem.F.type_dict_setdefault,vV hu⟩
 |reverse=>exact⟨_,We,PySem.F.slot_list_reverse,PySem.F.type_list_reverse,iR⟩
theorem PF{env:Env}{pos:Pos}:∀{es:List Expr},es.all UB=true->(backTo pos (starEach es env)).any (·.1)=false
 |[],_=>rfl
 |e::es,h=>by rw[qv]at h;obtain⟨h1,h2⟩:=yA h;rw[yB env h1];show(false||(backTo pos (starEach es env)).any (·.1))=false;rw[PF h2];rfl
theorem JQ{env:Env}{pos:Pos}:∀{es:List Expr},es.all UB=true->(backTo pos (starEach es env)).all (fun x=>!x.1)=true
 |[],_=>rfl
 |e::es,h=>by rw[qv]at h;obtain⟨h1,h2⟩:=yA h;rw[yB env h1];show(true&&(backTo pos (starEach es env)).all (fun x=>!x.1))=true;rw[JQ h2];rfl
theorem uR(ok:OkX X S G E)(hik:ig (HE its) S ik (fun es p=>EB its S (.List es p)) t it pos=true)(n1:ue G ik)(ni:isItm ik=false)
  (sn:∀es p,EB its S (.List es p)=true->Snd X G.ev E its (.List es p)):PI X t it (ZO fun σ H R=>(wp X.K G.ev its E).a σ H fun vs H1=>vC X.K ik vs H1 R):=by
 have glo:∀{x:Str},HN S x=true->Gl X x:=fun {x} h=>by show X.env.scope.names.lookup x=some .globalImplicit;rw[ok.sc];exact(fG h).1
 have tupT:HK t=true->∃es k p,t=.Tuple es k p:=fun h=>by
  cases t with
  |Tuple es k p=>exact⟨es,k,p,rfl⟩
  |_=>exact(QC h).elim
 cases ik with
 |val=>have i:=yA hik;have pas:=(sn _ pos i.2).pas _ pos rfl;obtain⟨a,rfl⟩:=aQ its i.1 i.2;exact N0 pas.1
 |rng1=>obtain⟨px,es,ks,p,rfl,hg,h⟩:=ME hik;have h1:=yA h;cases Qt.mp h1.1;obtain⟨a,rfl,h3⟩:=sB h1.2;exact O0 rfl (glo hg) (ok.no _ n1) ((sn _ p h3).pa _ p rfl) (by simpa using dD its h3)
 |zip2 =>
  have i:=yA hik;obtain⟨es,k,pt,rfl⟩:=tupT i.1;obtain⟨px,es,ks,p,rfl,hg,h⟩:=ME i.2;have h1:=yA h;cases Qt.mp h1.1;obtain⟨a,b,rfl,h3⟩:=Kd h1.2;have st:UB a=true/\UB b=true:=by simpa using dD its h3
  exact v8 rfl (glo hg) (ok.no _ n1) ((sn _ p h3).pa _ p rfl) st.1 st.2
 |enum=>have i:=yA hik;obtain⟨es,k,pt,rfl⟩:=tupT i.1;obtain⟨px,es,ks,p,rfl,hg,h⟩:=ME i.2;have h1:=yA h;cases Qt.mp h1.1;obtain⟨a,rfl,h3⟩:=sB h1.2;exact T0 rfl (glo hg) (ok.no _ n1) ((sn _ p h3).pa _ p rfl) (by simpa using dD its h3)
 |itm=>cases ni
theorem R0(ok:OkX X S G E)(hik:ig (HE its) S ik (fun es p=>EB its S (.List es p)) t it pos=true)(n1:ue G ik)
  (sn:∀es p,EB its S (.List es p)=true->Snd X G.ev E its (.List es p)):Xg X t it (ZO fun σ H R=>(wp X.K G.ev its E).a σ H fun vs H1=>vC X.K ik vs H1 R):=by
 cases hi:isItm ik with
 |false=>exact(uR ok hik n1 hi sn).to0
 |true =>
  cases ik with
  |itm =>
   have i:=yA hik;have i2:=yA i.2;cases t with
   |Tuple es k pt=>obtain⟨v,ap,es,p,rfl,hl,h⟩:=pT i2.2;have h1:=yA h;have h2:=yA h1.2;cases Qt.mp h2.1;have pas:=(sn _ p h2.2).pas _ p rfl;obtain⟨a,rfl⟩:=aQ its i2.1 h2.2;exact x8 pas.1 (XX h1.1) hl
   |_=>exact(QC i.1).elim
  |_=>cases hi
theorem vG{te te':TE}(h:PE X e te)(q:∀σ H Q,te' σ H Q->te σ H Q):PE X e te':=fun pins s σ H Q I z=>h pins s σ H Q I (q σ H Q z)
theorem snd:∀(p:PX) {X:Cx}{S:SC}{E:XK}(ok:OkX X S G E) {e:Expr},EB p S e=true->IA G p->Snd X G.ev E p e:=by
 intro p;induction p with
 |var i =>
  intro X S E ok e h _;obtain⟨x,pos,rfl,h⟩:=sF h;obtain⟨h1,h2,h3,h4⟩:=BZ h;have base:=f8 (pos:=pos) (show X.N[i]?=some x by rw[ok.N];exact h1) (show jf X.env.scope x by rw[ok.sc];exact h2) h3 h4;have pe:PE X (.Name x pos) (wp X.K G.ev (.var i) E).e:=vG base fun σ H Q q=>by
   have q:(match σ[i]? with|some (some v)=>Q v H|_=>False):=q;cases hs:σ[i]? with
   |none=>rw[hs]at q;exact q.elim
   |some o =>
    rw[hs]at q;cases o with
    |none=>exact q.elim
    |some v=>exact⟨v,hs,q⟩
  exact Snd.of pe (SD pe fun _=>rfl) (fun _ _ _ z=>by cases z) rfl
 |int i=>intro X S E ok e h _;obtain⟨c,k,pos,rfl,h⟩:=bG h;obtain⟨j,rfl,h⟩:=Ja h;cases qm h;exact Snd.of yX (SD (ta:=fun _ H Q=>Q (.int i) H) yX fun _=>rfl) (fun _ _ _ z=>by cases z) rfl
 |str x=>intro X S E ok e h _;obtain⟨c,k,pos,rfl,h⟩:=bG h;obtain⟨j,rfl,h⟩:=aa h;cases qm h;exact Snd.lit m8 rfl (fun _ _ _ z=>by cases z) rfl
 |bl b=>intro X S E ok e h _;obtain⟨c,k,pos,rfl,h⟩:=bG h;obtain⟨j,rfl,h⟩:=T4 h;cases qm h;exact Snd.of O5 (SD (ta:=fun _ H Q=>Q (.bl b) H) O5 fun _=>rfl) (fun _ _ _ z=>by cases z) rfl
 |non=>intro X S E ok e h _;obtain⟨c,k,pos,rfl,h⟩:=bG h;cases R4 h;exact Snd.of IW (SD (ta:=fun _ H Q=>Q .non H) IW fun _=>rfl) (fun _ _ _ z=>by cases z) rfl
 |glo x=>intro X S E ok e h nd;obtain⟨y,pos,rfl,h⟩:=sF h;have h:=yA h;cases qm h.1;obtain⟨u,hm,r⟩:=ok.val x nd;have pe:=t8 (pos:=pos) ok.sc h.2 hm r;exact Snd.of pe (SD pe fun _=>rfl) (fun _ _ _ z=>by cases z) rfl
 |bin op a b iha ihb=>intro X S E ok e h nd;obtain⟨l,o,r,pos,rfl,h⟩:=Y2 h;have h1:=yA h;have h2:=yA h1.2;cases qm h1.1;have pe:=jd (pos:=pos) (V8 op) (iha ok h2.1 nd.1).pe (ihb ok h2.2 nd.2).pe;exact Snd.of pe (SD pe fun _=>rfl) (fun _ _ _ z=>by cases z) rfl
 |cmp op a b iha ihb=>intro X S E ok e h nd;obtain⟨l,os,rs,pos,rfl,h⟩:=E1 h;obtain⟨o,rfl,h⟩:=sB h;obtain⟨r,rfl,h⟩:=sB h;have h1:=yA h;have h2:=yA h1.2;have h3:=yA h2.2;cases qm h1.1;have pa:=(iha ok h3.1 nd.1).pe;have pb:=(ihb ok h3.2 nd.2).pe;refine Snd.of (V1 (pos:=pos) (fX ok.un op) pa pb (UX h2.1)) (fun pins s σ H Q I q=>Z0 (pos:=pos) (fX ok.un op) pa pb (UX h2.1) pins s σ H Q I ?_) (fun _ _ _ z=>by cases z) rfl;show vc _ _ _ σ H (fun(x:V) (H1:Hp)=>∃k,x=.bl k/\Q k H1);rw[<- fO Q];exact q
 |and a b iha ihb =>
  intro X S E ok e h nd;obtain⟨o,es,pos,rfl,h⟩:=cP h;have h1:=yA h;cases qm h1.1;obtain⟨l,t,rfl,h2⟩:=SI h1.2;obtain⟨r,t,rfl,h3⟩:=SI h2;have h4:=yA h3;have sa:=iha ok h4.1 nd.1;have sb:=ihb ok h4.2 nd.2;have eqA:∀(σ:St) (Q:VK),(fun(x:V) (H1:Hp)=>∃c,x=.bl c/\if c=true then(wp X.K G.ev b E).e σ H1 Q else Q (.bl false) H1)=fun(x:V) (H1:Hp)=>zZ x H1 fun c H2=>if c=true then(wp X.K G.ev b E).e σ H2 Q else Q (.bl false) H2:=fun σ Q=>(fO _).symm
  have key:PW X (.BoolOp .And (l::r::t) pos) (wp X.K G.ev (.and a b) E).t/\PE X (.BoolOp .And (l::r::t) pos) (fun σ H Q=>(wp X.K G.ev a E).e σ H fun x H1=>∃c,x=.bl c/\if c=true then(wp X.K G.ev b E).e σ H1 Q else Q (.bl false) H1):=by
   cases t with
   |nil=>exact⟨GW sa.pt (Y0 sb.pt),vX (pos:=pos) sa.pe (EW sb.pe)⟩
   |cons q t=>exact⟨GW sa.pt (sb.pw _ _ _ rfl),vX (pos:=pos) sa.pe sb.pe⟩
  refine⟨vG key.2 fun σ H Q q=>?_,key.1.pt,fun _ _ _ _=>key.1,fun _ _ z=>(by cases z),fun _ _ z=>trivial⟩;rw[eqA];exact q
 |or a b iha ihb =>
  intro X S E ok e h nd;obtain⟨o,es,pos,rfl,h⟩:=cP h;have h1:=yA h;cases qm h1.1;obtain⟨l,t,rfl,h2⟩:=SI h1.2;obtain⟨r,t,rfl,h3⟩:=SI h2;have h4:=yA h3;have sa:=iha ok h4.1 nd.1;have sb:=ihb ok h4.2 nd.2;have eqA:∀(σ:St) (Q:VK),(fun(x:V) (H1:Hp)=>∃c,x=.bl c/\if c=true then Q (.bl true) H1 else(wp X.K G.ev b E).e σ H1 Q)=fun(x:V) (H1:Hp)=>zZ x H1 fun c H2=>if c=true then Q (.bl true) H2 else(wp X.K G.ev b E).e σ H2 Q:=fun σ Q=>(fO _).symm
  have key:PW X (.BoolOp .Or (l::r::t) pos) (wp X.K G.ev (.or a b) E).t/\PE X (.BoolOp .Or (l::r::t) pos) (fun σ H Q=>(wp X.K G.ev a E).e σ H fun x H1=>∃c,x=.bl c/\if c=true then Q (.bl true) H1 else(wp X.K G.ev b E).e σ H1 Q):=by
   cases t with
   |nil=>exact⟨L5 sa.pt (R7 sb.pt),N5 (pos:=pos) sa.pe (EW sb.pe)⟩
   |cons q t=>exact⟨L5 sa.pt (sb.pw _ _ _ rfl),N5 (pos:=pos) sa.pe sb.pe⟩
  refine⟨vG key.2 fun σ H Q q=>?_,key.1.pt,fun _ _ _ _=>key.1,fun _ _ z=>(by cases z),fun _ _ z=>trivial⟩;rw[eqA];exact q
 |not a iha=>intro X S E ok e h nd;obtain⟨o,x,pos,rfl,h⟩:=U8 h;have h1:=yA h;cases qm h1.1;have sa:=iha ok h1.2 nd;refine Snd.of (fun pins s σ H Q I q=>?_) (S7 sa.pt) (fun _ _ _ z=>by cases z) rfl;refine UnaryOp_ (BB (sa.pe pins s σ H _ I q) fun v s1 ⟨x,H1,I1,r1,q1⟩=>?_);have q1:tG X.K x H1 (fun c H2=>Q (.bl (!c)) H2):=q1;rw[YS]at q1;refine not_of (BB (bW pins s1 σ H1 x v _ I1 r1 q1) fun c s2 ⟨H2,I2,q2⟩=>?_);exact⟨.bl (!c),H2,I2,rfl,q2⟩
 |call f as ih =>
  intro X S E ok e h nd;obtain⟨p,es,ks,pos,rfl,hg,h⟩:=ME h;have h1:=yA h;cases Qt.mp h1.1;obtain⟨g1,g2,g3⟩:=fG hg;have hg:Gl X f:=show X.env.scope.names.lookup f=some .globalImplicit by rw[ok.sc];exact g1
  obtain⟨CX,k,a,fd,ps,F,hr,hm,hk,hb,hx,_⟩:=ok.fn f nd.1;have pa:=(ih ok h1.2 nd.2).pa es pos rfl;have st:=dD as h1.2;have pe:PE X (.Call (.Name f p) es [] pos) (wp X.K G.ev (.call f as) E).e:=by
   cases es with
   |nil=>exact vG (kX (pos:=pos) (p:=p) F hr hg hm hk hb .nil hx g2) fun σ H Q q=>FV as h1.2 q
   |cons e1 es1=>have st:=yA st;refine vG (U1 (pos:=pos) (p:=p) F hr hg hm hk hb .nil hx pa g2 (yB _ st.1) (PF st.2)) fun σ H Q q=>?_;show(wp X.K G.ev as E).a σ H fun vs H1=>G.ev.sp f (vs++[]) H1 Q E;simp only[wK];exact q
  exact Snd.of pe (SD pe fun _=>rfl) (fun _ _ _ z=>by cases z) rfl
 |idx a b iha ihb=>intro X S E ok e h nd;obtain⟨v,i,pos,rfl,h⟩:=mN h;have h1:=yA h;have h2:=yA h1.2;have pe:=yd (pos:=pos) (K9 ok.un) (iha ok h2.1 nd.1).pe (ihb ok h2.2 nd.2).pe (L0 h1.1);exact Snd.of pe (SD pe fun _=>rfl) (fun _ _ _ z=>by cases z) rfl
 |nop=>intro X S E ok e h nd;exact(QC h).elim
 |lst as ih=>intro X S E ok e h nd;obtain⟨es,pos,rfl,h⟩:=tK h;have pa:=(ih ok h nd).pa es pos rfl;exact⟨n8 pa,cK,fun _ _ _ z=>(by cases z),fun _ _ z=>vP,fun _ _ z=>trivial⟩
 |tup as ih=>intro X S E ok e h nd;obtain⟨es,k,pos,rfl,h⟩:=N1 h;exact Snd.lit (g8 ((ih ok h nd).pa es pos rfl)) rfl (fun _ _ _ z=>by cases z) rfl
 |dnew b=>intro X S E ok e h nd;obtain⟨ks,vs,pos,rfl,h⟩:=uP h;have h1:=yA h;cases Qt.mp h1.1;cases Qt.mp h1.2;exact Snd.lit Y1 rfl (fun _ _ _ z=>by cases z) rfl
 |dsp a b iha ihb =>
  intro X S E ok e h nd;obtain⟨ks,vs,pos,rfl,h⟩:=uP h;obtain⟨k,rfl,h⟩:=sB h;obtain⟨v,rfl,h⟩:=sB h;have h1:=yA h;cases k with
  |none=>exact(QC h1.1).elim
  |some k=>exact Snd.lit (J1 ok.un (iha ok h1.1 nd.1).pe (ihb ok h1.2 nd.2).pe) rfl (fun _ _ _ z=>by cases z) rfl
 |sset a iha=>intro X S E ok e h nd;obtain⟨p1,p2,pos,pos2,y,rfl,hg,hg',hy,h⟩:=u3 h;refine Snd.lit (A0 ok.calm (show X.env.scope.names.lookup _=some .globalImplicit by rw[ok.sc];exact(fG hg).1) (show X.env.scope.names.lookup _=some .globalImplicit by rw[ok.sc];exact(fG hg').1) (ok.no _ nd.1) (ok.no _ nd.2.1) (iha ok h nd.2.2).pe (yB _ hy)) rfl (fun _ _ _ z=>by cases z) rfl
 |nr=>intro X S E ok e h nd;obtain⟨es,pos,rfl,h⟩:=tK h;cases Qt.mp h;exact Snd.args J8 trivial rfl rfl
 |nq a as iha ih=>intro X S E ok e h nd;obtain⟨es,pos,rfl,h⟩:=tK h;obtain⟨e1,es1,rfl,h⟩:=SI h;have h1:=yA h;have h2:=yA h1.2;have sa:=(iha ok h2.1 nd.1).pe;have ss:=ih ok h2.2 nd.2;exact Snd.args (C1 sa (ss.pa es1 pos rfl) (yB _ h1.1)) ⟨sa,ss.pas es1 pos rfl⟩ rfl rfl
 |bi f as ih =>
  intro X S E ok e h nd;obtain⟨p,es,ks,pos,rfl,hg,h⟩:=ME h;have h1:=yA h;cases Qt.mp h1.1;obtain⟨e1,es1,rfl,h3⟩:=SI h1.2;obtain⟨g1,g2,g3⟩:=fG hg;have hg:Gl X f.nm:=show X.env.scope.names.lookup f.nm=some .globalImplicit by rw[ok.sc];exact g1
  have pa:=(ih ok h3 nd.2).pa _ pos rfl;have st:=yA (dD as h3);have pe:PE X (.Call (.Name f.nm p) (e1::es1) [] pos) (wp X.K G.ev (.bi f as) E).e:=by
   rcases Me ok.un ok.calm f with⟨id,hb,hc⟩| ⟨T,hb,hc⟩
   exact zX (pos:=pos) (p:=p) hc hg (ok.no _ nd.1) hb pa g3 g2 (yB _ st.1) (PF st.2);exact NU (pos:=pos) (p:=p) hc hg (ok.no _ nd.1) hb pa g3 g2 (yB _ st.1) (PF st.2)
  exact Snd.of pe (SD pe fun _=>rfl) (fun _ _ _ z=>by cases z) rfl
 |mt m o as iho ih =>
  intro X S E ok e h nd;obtain⟨v,ap,es,pos,rfl,h2,h⟩:=pT h;have h0:=yA h;have h1:=yA h0.2;have h3:=yA h1.2;have h4:=yA h3.2;have po:=(iho ok h4.1 nd.1).pe;have pa:=(ih ok h4.2 nd.2).pa _ pos rfl;have st:=dD as h4.2;obtain⟨id,pat,sl,ty,mr⟩:=Ld (X:=X) ok.un m;have pe:PE X (.Call (.Attribute v m.nm ap) es [] pos) (wp X.K G.ev (.mt m o as) E).e:=by
   cases es with
   |nil =>
    refine vG (e8 (apos:=ap) (cpos:=pos) pat sl ty mr po (XX h1.1) h2) fun σ H Q q=>?_;have e:(fun(x:V) (H1:Hp)=>MV X.K m.ty x H1/\C3 X.K m x [] H1 Q)=fun(x:V) (H1:Hp)=>MV X.K m.ty x H1/\(wp X.K G.ev as E).a σ H1 fun vs H2=>C3 X.K m x vs H2 Q:=by funext x H1;rw[propext (eQ as h0.1 h4.2)]
    show(wp X.K G.ev o E).e σ H (fun(x:V) (H1:Hp)=>MV X.K m.ty x H1/\C3 X.K m x [] H1 Q);rw[e];exact q
   |cons e1 es1=>have s2:=yA st;refine zd (apos:=ap) (cpos:=pos) pat sl ty mr po pa (XX h1.1) ?_ h2 (yB _ s2.1) (PF s2.2);rw[JQ st];have hl':(e1::es1).length<20:=of_decide_eq_true h3.1;show(true&&true&&decide ((e1::es1).length+0+0<30))=true;rw[dT (Qo hl' (by decide:20<=30):(e1::es1).length+0+0<30)];rfl
  exact Snd.of pe (SD pe fun _=>rfl) (fun _ _ _ z=>by cases z) rfl
 |slc a lo hi iha ihl ihh =>
  intro X S E ok e h nd;obtain⟨v,sl,pos,rfl,h⟩:=mN h;obtain⟨l,u,st,p2,rfl,h⟩:=SU h;have h1:=yA h;have h2:=yA h1.2;have h3:=yA h2.2;have part:∀(q:PX) (w:Option Expr),(∀{e:Expr},EB q S e=true->PE X e (wp X.K G.ev q E).e)->Zd w (isNop q) (fun e=>!isNop q&&EB q S e)=true ->
    PO X w (fun σ H R=>(if isNop q=true then fun(R:Option Int->Hp->Prop)=>R none H else fun R=>(wp X.K G.ev q E).e σ H fun l H2=>nK l H2 R) R):=by
   intro q w ihq hq;cases w with
   |none=>have e:isNop q=true:=hq;simp only[e,if_true];exact C0
   |some e' =>
    have q1:=yA hq;have e:isNop q=false:=(Q7 _).mp q1.1;simp only[e,qT,if_false];intro pins s σ H Q I w;refine B0 (ihq q1.2) pins s σ H Q I ?_;show(wp X.K G.ev q E).e σ H (fun(x:V) (H1:Hp)=>∃i,x=.int i/\Q (some i) H1);have e2:(fun(x:V) (H1:Hp)=>∃i,x=.int i/\Q (some i) H1)=fun(x:V) (H1:Hp)=>nK x H1 Q:=by funext x H1;exact(xX x H1 Q).symm
    rw[e2];exact w
  cases Option.isNone_iff_eq_none.mp h1.1;exact Snd.lit (AW (pos:=pos) (p2:=p2) U7 (iha ok h2.1 nd.1).pe (part lo l (fun hc=>(ihl ok hc nd.2.1).pe) h3.1) (part hi u (fun hc=>(ihh ok hc nd.2.2).pe) h3.2)) rfl (fun _ _ _ z=>by cases z) rfl
 |comp mask tgs tg ik its cond elt ihi ihc ihe =>
  intro X S E ok e h nd;obtain⟨e,gens,scope,pos,rfl,h⟩:=gR h;obtain⟨⟨t,it,ifs,asy⟩,rfl,h⟩:=sB h;have h0:=yA h;have hi:=yA h0.2;have h1:=yA hi.2;have h2:=yA h1.2;have h3:=yA h2.2;have h4:=yA h3.2;have h5:=yA h4.2;have ea:asy=0:=qm h0.1;cases ea;have C:CompSt X.N X.env.scope scope tgs mask:=by rw[ok.N,ok.sc];exact fQ h1.1
  obtain⟨n1,n2,n3,n4⟩:=nd;have pi:PI X t it (ZO fun σ H R=>(wp X.K G.ev its E).a σ H fun vs H1=>vC X.K ik vs H1 R):=uR ok h4.1 n1 ((Q7 _).mp hi.1) fun es p q=>ihi ok q n2;refine Snd.lit (K1 (pos:=pos) (g:=oE X.K tg) (tc:=if isNop cond=true then fun _ H Q=>Q true H else(wp X.K G.ev cond (fun _ _ _=>False)).t) (te:=(wp X.K G.ev elt (fun _ _ _=>False)).e) ok.calm pi C (fun s H ex=>?_) (fun x=>eR h3.1 x)) rfl (fun _ _ _ z=>by cases z) rfl;have okc:=ok.comp scope tgs mask s H ex;refine⟨vT okc (fun z=>(QC z).elim) C.nd h2.1,?_,(ihe okc h5.2 n4).pe⟩;have hif:=h5.1;cases ifs with
  |nil=>have e:isNop cond=true:=hif;simp only[e,if_true];exact kT
  |cons c r=>have q1:=yA hif;have q2:=yA q1.2;cases Qt.mp q1.1;have e:isNop cond=false:=(Q7 _).mp q2.1;simp only[e,qT,if_false];exact zT (ihc okc q2.2 n3).pt
end
end L2.L3
namespace L2.L3
open PySem PySem.Spec PyProof.Rows
section
variable{s:Stmt}{f:Expr->List Stmt->List Stmt->Bool}
set_option genSizeOf false in
set_option genInjectivity false in
inductive PT where
 |nil|seq (s r:PT)
 |set (i:Nat) (e:PX)
 |expr (e:PX)|ret (e:PX)
 |ife (c:PX) (a b:PT)
 |for_ (tg:Tg) (ik:ItK) (its:PX) (body:PT)
 |own (i:Nat) (e:PX)|tset (is:List Nat) (e:PX)|six (o i e:PX)|sdf (i:Nat) (k:PX)|whl (c:PX) (body:PT)|frz (is:List Nat) (s:PT)
def RO(K:QF):V->V->V->Hp->(Hp->Prop)->Prop:=fun o i v H Q=>match o,i with
 | .ref p,.int k=>∃xs j,H p=some (.lst xs)/\DQ xs.length k=some j/\Q (UA H p (.lst (xs.set j v)))
 | .ref p,.str z=>gb K H p (.str z) v Q
 | .ref p,.ref b=>gb K H p (.ref b) v Q
 |_,_=>False
def Bc(i:Nat)(k:PX):PX:=.mt .setd (.var i) (.nq k (.nq (.dnew true) .nr))
def Fi(J:It)(g:TG)(tb:TS)(D:Ends)(σ:St)(H1:Hp):Prop:=∃W:Nat->Nat->St->Hp->Prop,(∃m,W 0 m σ H1)/\∀i m σ H,W i m σ H ->
 (J.stop i H/\D.nx σ H)∨(J.go i H/\∃N:St->Hp->Prop,(∀σ' H',N σ' H'->∃m',m' < m/\W (i+1) m' σ' H')/\∀x H',J.yld i H x H'->g x σ H' fun σ2 H2=>tb { D with nx:=N,ct:=N,bk:=D.nx } σ2 H2)
def vb(K:QF)(xs:List Item)(st:Hp->Prop)(tg:Tg)(tb:TS)(D:Ends)(σ:St)(H:Hp):Prop:=∀J,Yields J xs st->Fi J (oE K tg) tb D σ H
def YO(K:QF)(Γ:Ev)(E:XK):PT->TS
 | .nil=>fun D σ H=>D.nx σ H
 | .seq s r=>fun D σ H=>YO K Γ E s { D with nx:=fun σ H=>YO K Γ E r D σ H } σ H
 | .set i e=>fun D σ H=>(wp K Γ e E).e σ H fun x H1=>D.nx (σ.set i (some x)) H1
 | .own i e=>fun D σ H=>(wp K Γ e E).e σ H fun x H1=>D.nx (σ.set i (some x)) H1
 | .expr e=>fun D σ H=>(wp K Γ e E).e σ H fun _ H1=>D.nx σ H1
 | .ret e=>fun D σ H=>(wp K Γ e E).e σ H D.rt
 | .ife c a b=>fun D σ H=>(wp K Γ c E).t σ H fun k H1=>if k=true then YO K Γ E a D σ H1 else YO K Γ E b D σ H1
 | .for_ tg ik its body=>fun D σ H=>(wp K Γ its E).a σ H fun vs H1=>vC K ik vs H1 fun xs st H2=>vb K xs st tg (YO K Γ E body) D σ H2
 | .tset is e=>fun D σ H=>(wp K Γ e E).e σ H fun x H1=>oE K (.tp is) x σ H1 D.nx
 | .six o i e=>fun D σ H=>(wp K Γ e E).e σ H fun v H1=>(wp K Γ o E).e σ H1 fun ov H2=>(wp K Γ i E).e σ H2 fun iv H3=>RO K ov iv v H3 fun H4=>D.nx σ H4
 | .sdf i k=>fun D σ H=>(wp K Γ (Bc i k) E).e σ H fun _ H1=>D.nx σ H1
 | .whl c body=>cW (wp K Γ c E).t (YO K Γ E body)
 | .frz _ s=>YO K Γ E s
def UE(G:Glob):PT->Prop
 | .nil=>True
 | .seq s r=>UE G s/\UE G r
 | .set _ e=>IA G e
 | .own _ e=>IA G e
 | .tset _ e=>IA G e
 | .six o i e=>IA G o/\IA G i/\IA G e
 | .sdf i k=>IA G (Bc i k)
 | .whl c body=>IA G c/\UE G body
 | .frz _ s=>UE G s
 | .expr e=>IA G e
 | .ret e=>IA G e
 | .ife c a b=>IA G c/\UE G a/\UE G b
 | .for_ _ ik its body=>ue G ik/\IA G its/\UE G body
def tF:Expr->Bool
 | .ListComp _ _ _ _ | .SetComp _ _ _ _ | .DictComp _ _ _ _ _=>false
 |_=>true
def PM(S:SC)(i:Nat)(x:Str):Bool:=S.N[i]?==some x&&(S.sc.names.lookup x==some .local||S.sc.names.lookup x==some .cell)
def JT:PT->Bool
 | .nil=>false
 | .seq _ _=>false
 | .frz _ s=>JT s
 |_=>true
def dP(s:Stmt)(f:List Expr->Expr->Bool):Bool:=match s with | .Assign ts v _=>f ts v|_=>false
def C8(s:Stmt)(f:Expr->Bool):Bool:=match s with | .Expr v _=>f v|_=>false
def R5(s:Stmt)(f:Option Expr->Bool):Bool:=match s with | .Return v _=>f v|_=>false
def S5(s:Stmt)(f:Expr->List Stmt->List Stmt->Bool):Bool:=match s with | .If t x y _=>f t x y|_=>false
def T5(s:Stmt)(f:Expr->Expr->List Stmt->List Stmt->Pos->Bool):Bool:=match s with | .For t it x y p=>f t it x y p|_=>false
def Jd(s:Stmt)(f:Expr->List Stmt->List Stmt->Bool):Bool:=match s with | .While t x y _=>f t x y|_=>false
def Ud:Expr->Bool
 | .Tuple _ _ _=>false
 | .List _ _=>false
 |_=>true
theorem YJ{f:List Expr->Expr->Bool}(h:dP s f=true):∃ts v p,s=.Assign ts v p/\f ts v=true:=by
 cases s with
 |Assign ts v p=>exact⟨ts,v,p,rfl,h⟩
 |_=>exact(QC h).elim
theorem gX{f:Expr->Bool}(h:C8 s f=true):∃v p,s=.Expr v p/\f v=true:=by
 cases s with
 |Expr v p=>exact⟨v,p,rfl,h⟩
 |_=>exact(QC h).elim
theorem O1{f:Option Expr->Bool}(h:R5 s f=true):∃v p,s=.Return v p/\f v=true:=by
 cases s with
 |Return v p=>exact⟨v,p,rfl,h⟩
 |_=>exact(QC h).elim
theorem T1(h:S5 s f=true):∃t x y p,s=.If t x y p/\f t x y=true:=by
 cases s with
 |If t x y p=>exact⟨t,x,y,p,rfl,h⟩
 |_=>exact(QC h).elim
theorem A1{f:Expr->Expr->List Stmt->List Stmt->Pos->Bool}(h:T5 s f=true):∃t it x y p,s=.For t it x y p/\f t it x y p=true:=by
 cases s with
 |For t it x y p=>exact⟨t,it,x,y,p,rfl,h⟩
 |_=>exact(QC h).elim
theorem X8(h:Jd s f=true):∃t x y p,s=.While t x y p/\f t x y=true:=by
 cases s with
 |While t x y p=>exact⟨t,x,y,p,rfl,h⟩
 |_=>exact(QC h).elim
def setB(S:SC)(i:Nat)(c:Expr->Bool)(l:List Stmt):Bool:=ZJ l fun st=>dP st fun ts v=>ZJ ts fun t=>oI t fun x _=>PM S i x&&((tF v||S.sc.names.lookup x==some .cell)&&c v)
def g6:PX->Bool
 | .comp _ _ _ _ _ _ _=>true
 |_=>false
def HS(S:SC)(i:Nat)(e:PX)(l:List Stmt):Bool:=ZJ l fun st=>dP st fun ts v=>ZJ ts fun t=>oI t fun x px=>B8 v fun el gs sc cp=>u9 S i x&&(S.sc.kind==.function&&(px.line==cp.line&&(!(sc.names.any fun(n,k)=>n==x&&(k==.local||k==.cell))&&(g6 e&&EB e S (.ListComp el gs sc cp)))))
def AN:PT->SC->List Stmt->Bool
 | .nil,_,l=>l.isEmpty
 | .seq s r,S,l=>u2 l fun st l=>JT s&&(AN s S [st]&&AN r S l)
 | .set i e,S,l=>setB S i (EB e S) l||HS S i e l
 | .own i e,S,l=>setB S i (EB e S) l||HS S i e l
 | .frz _ s,S,l=>AN s S l
 | .expr e,S,l=>ZJ l fun st=>C8 st fun v=>tF v&&EB e S v
 | .ret e,S,l=>ZJ l fun st=>R5 st fun v=>Zd v false (EB e S)
 | .ife c a b,S,l=>ZJ l fun st=>S5 st fun t x y=>EB c S t&&(AN a S x&&AN b S y)
 | .for_ tg ik its body,S,l=>ZJ l fun st=>T5 st fun t it x y pos=>y.isEmpty&&(og true S tg t&&(pP it&&(ig (HE its) S ik (fun es p=>EB its S (.List es p)) t it pos&&AN body S x)))
 | .tset is e,S,l=>ZJ l fun st=>dP st fun ts v=>ZJ ts fun t=>Ud v&&(tF v&&(HK t&&(og true S (.tp is) t&&EB e S v)))
 | .six o i e,S,l=>ZJ l fun st=>dP st fun ts v=>ZJ ts fun t=>gT t fun ov iv _=>eN iv&&(tF v&&(EB e S v&&(EB o S ov&&EB i S iv)))
 | .sdf i k,S,l=>ZJ l fun st=>C8 st fun v=>tF v&&EB (Bc i k) S v
 | .whl c body,S,l=>ZJ l fun st=>Jd st fun t x y=>y.isEmpty&&(EB c S t&&AN body S x)
structure OkS(X:Cx)(S:SC)(G:Glob)(E:XK):Prop extends OkX X S G E where
 po:PassesOwn (model X.prog X.w) X.A X.env X.xe
 nd:X.N.Nodup
 cel:∀x,X.fn x=true
end
section
variable{X:Cx}{S:SC}{G:Glob}{E:XK}
section
variable{i:Nat}{x:Str}{e:PX}
theorem iK{e:Expr}{t:Option Expr}{n:Nat}{env:Env}(h:tF e=true):swapsWith e t n env=pure false:=by cases e<;>first|rfl|cases h
theorem iW(hu:X.A.units+66<cLine):u5 X (RO X.K):=by
 intro pins s σ H o i v ov iv u Q I ro ri rv h;cases o with
 |ref p =>
  cases i with
  |int k=>obtain⟨xs,j,h1,h2,q⟩:=h;exact YW pins s σ H _ _ v ov iv u Q I ro ri rv ⟨p,xs,k,j,rfl,rfl,h1,h2,q⟩
  |str z=>exact OO hu pins s σ H _ _ v ov iv u Q I ro ri rv h
  |ref b=>exact OO hu pins s σ H _ _ v ov iv u Q I ro ri rv h
  |_=>exact Qb h
 |_=>exact Qb h
theorem iU(ok:OkX X S G E)(h:PM S i x=true):X.N[i]?=some x/\Bb X.env.scope x:=by simp only[PM,Qe,WG,beq_iff_eq]at h;rw[ok.N,ok.sc];exact⟨h.1,h.2⟩
theorem LU(ok:OkS X S G E){v:Expr}{px pos:Pos}(h1:PM S i x=true)(h2:(tF v||S.sc.names.lookup x==some .cell)=true)(pe:PE X v (wp X.K G.ev e E).e) :
  PS X (.Assign [.Name x px] v pos) (YO X.K G.ev E (.set i e)):=by
 obtain⟨g1,g2⟩:=iU ok.toOkX h1;refine T7 (pos':=px) ok.nd g1 g2 pe ?_ (.inl (ok.cel x));cases hn:tF v with
 |true=>exact iK hn
 |false =>
  rw[hn,QBK,beq_iff_eq,<- ok.sc]at h2;have hk:X.env.kindOf x=some .cell:=h2;have key:∀(b c:Bool) (p1 p2:Nat),(pure (b&&X.env.kindOf x==some .local&&p1==p2&&!c):Sem Bool)=pure false:=fun b c p1 p2=>by
   rw[hk];have:(b&&(some NameKind.cell==some NameKind.local)&&p1==p2&&!c)=false:=by cases b<;>rfl
   rw[this]
  cases v with
  |ListComp el gs sc cp=>exact key _ _ _ _
  |SetComp el gs sc cp=>exact key _ _ _ _
  |DictComp k v gs sc cp=>exact key _ _ _ _
  |_=>cases hn
theorem x4(h:g6 e=true):∃a b c d f g k,e=.comp a b c d f g k:=by
 cases e with
 |comp a b c d f g k=>exact⟨a,b,c,d,f,g,k,rfl⟩
 |_=>exact(QC h).elim
theorem j8(ok:OkS X S G E){l:List Stmt}(h:HS S i e l=true)(nd:IA G e):∃st,l=[st]/\PS X st (YO X.K G.ev E (.set i e)):=by
 obtain⟨st,e1,q1⟩:=sB h;obtain⟨ts,v,p,e2,q2⟩:=YJ q1;obtain⟨t,e3,q3⟩:=sB q2;obtain⟨x,px,e4,q4⟩:=sF q3;obtain⟨el,gs,sc,cp,e5,q5⟩:=gR q4;subst e1 e2 e3 e4 e5;have h1:=yA q5;have h2:=yA h1.2;have h3:=yA h2.2;have h4:=yA h3.2;have h5:=yA h4.2;obtain⟨mask,tgs,tg,ik,its,cond,elt,rfl⟩:=x4 h5.1;refine⟨_,rfl,?_⟩;have h6:=h5.2;obtain⟨el',gens,scope,pos,ee,g⟩:=gR h6;cases ee;obtain⟨⟨t,it,ifs,asy⟩,rfl,g⟩:=sB g;have g0:=yA g;have gi:=yA g0.2;have g1:=yA gi.2;have g2:=yA g1.2;have g3:=yA g2.2;have g4:=yA g3.2;have g5:=yA g4.2;have ea:asy=0:=qm g0.1;cases ea;have C:CompSt X.N X.env.scope sc tgs mask:=by rw[ok.N,ok.sc];exact fQ g1.1
 obtain⟨n1,n2,n3,n4⟩:=nd;obtain⟨l1,l2⟩:=N3 h1.1;have l2':X.env.scope.names.lookup x=some .local:=by rw[ok.sc];exact l2
 refine U0 (g:=oE X.K tg) (tc:=if isNop cond=true then fun _ H Q=>Q true H else(wp X.K G.ev cond (fun _ _ _=>False)).t) (te:=(wp X.K G.ev elt (fun _ _ _=>False)).e) ok.calm ok.nd (by rw[ok.N];exact l1) l2' (uR ok.toOkX (pos:=cp) g4.1 n1 ((Q7 _).mp gi.1) fun es p q=>snd its ok.toOkX q n2) C (fun s H ex=>?_) (fun x=>eR g3.1 x) ?_;have okc:=ok.toOkX.comp sc tgs mask s H ex;refine⟨vT okc (fun z=>(QC z).elim) C.nd g2.1,?_,(snd elt okc g5.2 n4).pe⟩;have hif:=g5.1;cases ifs with
 |nil=>have e:isNop cond=true:=hif;simp only[e,if_true];exact kT
 |cons c r=>have p1:=yA hif;have p2:=yA p1.2;cases Qt.mp p1.1;have e:isNop cond=false:=(Q7 _).mp p2.1;simp only[e,qT,if_false];exact zT (snd cond okc p2.2 n3).pt
 have k1:X.env.scope.kind=.function:=by rw[ok.sc];exact qm h2.1
 have k2:(X.env.blockKind==.function)=true:=by simp[Env.blockKind,k1,ScopeKind.isAnnotationScope]
 have k3:(X.env.kindOf x==some .local)=true:=by show(X.env.scope.names.lookup x==some .local)=true;rw[l2'];rfl
 show(pure (X.env.blockKind==.function&&X.env.kindOf x==some .local&&px.line==cp.line&&!(sc.names.any fun(n,k)=>n==x&&(k==.local||k==.cell))):Sem Bool)=pure true;rw[k2,k3,h3.1,h4.1];rfl
theorem kh:∀(p:PT) {l:List Stmt},OkS X S G E->AN p S l=true->UE G p->rS X l (YO X.K G.ev E p)/\(JT p=true->∀st,l=[st]->PS X st (YO X.K G.ev E p)):=by
 intro p;have one:∀{p:PT}{st:Stmt},PS X st (YO X.K G.ev E p)->rS X [st] (YO X.K G.ev E p)/\(JT p=true->∀st',[st]=[st']->PS X st' (YO X.K G.ev E p)):=fun h=>⟨K0 h,fun _ st' e=>by cases e;exact h⟩
 have stor:∀{i:Nat}{e:PX}{l:List Stmt},OkS X S G E->(setB S i (EB e S) l||HS S i e l)=true->IA G e->∃st,l=[st]/\PS X st (YO X.K G.ev E (.set i e)):=fun {i e l} ok h nd=>by
  rcases(WG _ _).mp h with h|h
  rotate_left
  exact j8 ok h nd;obtain⟨st,e1,q1⟩:=sB h;obtain⟨ts,v,p,e2,q2⟩:=YJ q1;obtain⟨t,e3,q3⟩:=sB q2;obtain⟨x,px,e4,q4⟩:=sF q3;subst e1 e2 e3 e4;have h1:=yA q4;have h2:=yA h1.2;exact⟨_,rfl,LU ok h1.1 h2.1 (snd e ok.toOkX h2.2 nd).pe⟩
 induction p with
 |nil=>intro l ok h nd;cases Qt.mp h;exact⟨V0,fun h=>(QC h).elim⟩
 |seq s r ihs ihr=>intro l ok h nd;obtain⟨st,l,rfl,h⟩:=SI h;have h1:=yA h;have h2:=yA h1.2;exact⟨LW ((ihs ok h2.1 nd.1).2 h1.1 st rfl) (ihr ok h2.2 nd.2).1,fun h=>(QC h).elim⟩
 |set i e=>intro l ok h nd;obtain⟨st,rfl,q⟩:=stor ok h nd;exact one q
 |own i e=>intro l ok h nd;obtain⟨st,rfl,q⟩:=stor ok h nd;exact one q
 |expr e=>intro l ok h nd;obtain⟨st,rfl,h⟩:=sB h;obtain⟨v,p,rfl,h⟩:=gX h;have h1:=yA h;exact one (yT (snd e ok.toOkX h1.2 nd).pe (iK h1.1))
 |ret e =>
  intro l ok h nd;obtain⟨st,rfl,h⟩:=sB h;obtain⟨v,p,rfl,h⟩:=O1 h;cases v with
  |none=>exact(QC h).elim
  |some v=>exact one (A7 (snd e ok.toOkX h nd).pe)
 |ife c a b iha ihb=>intro l ok h nd;obtain⟨st,rfl,h⟩:=sB h;obtain⟨t,x,y,p,rfl,h⟩:=T1 h;have h1:=yA h;have h2:=yA h1.2;exact one (Ic (snd c ok.toOkX h1.1 nd.1).pt (iha ok h2.1 nd.2.1).1 (ihb ok h2.2 nd.2.2).1)
 |for_ tg ik its body ih=>intro l ok h nd;obtain⟨st,rfl,h⟩:=sB h;obtain⟨t,it,x,y,p,rfl,h⟩:=A1 h;have h0:=yA h;have h1:=yA h0.2;have h2:=yA h1.2;have h3:=yA h2.2;cases Qt.mp h0.1;exact one (E7 ok.po ok.calm (R0 ok.toOkX h3.1 nd.1 fun es p q=>snd its ok.toOkX q nd.2.1) (vT ok.toOkX (fun _=>ok.cel) ok.nd h1.1) (ih ok h3.2 nd.2.2).1 fun x=>eR h2.1 x)
 |tset is e =>
  intro l ok h nd;obtain⟨st,e1,q1⟩:=sB h;obtain⟨ts,v,p,e2,q2⟩:=YJ q1;obtain⟨t,e3,h⟩:=sB q2;subst e1 e2 e3;have h1:=yA h;have h2:=yA h1.2;have h3:=yA h2.2;have h4:=yA h3.2;cases t with
  |Tuple es k pt =>
   refine one (NW (snd e ok.toOkX h4.2 nd).pe (vT ok.toOkX (fun _=>ok.cel) ok.nd h4.1) ?_ ?_ ?_);show swapsWith v (some (.Tuple es k pt)) p.line X.env=pure false;exact iK h2.1;cases v<;>first|rfl|exact(QC h1.1).elim
   rfl
  |_=>exact(QC h3.1).elim
 |six o i e =>
  intro l ok h nd;obtain⟨st,e1,q1⟩:=sB h;obtain⟨ts,v,p,e2,q2⟩:=YJ q1;obtain⟨t,e3,h⟩:=sB q2;subst e1 e2 e3;obtain⟨ov,iv,pp,e4,q4⟩:=mN h;subst e4;have h1:=yA q4;have h2:=yA h1.2;have h3:=yA h2.2;have h4:=yA h3.2;refine one (NW (snd e ok.toOkX h3.1 nd.2.2).pe (b8 (pos:=pp) (snd o ok.toOkX h4.1 nd.1).pe (snd i ok.toOkX h4.2 nd.2.1).pe (iW ok.un) ?_) ?_ ?_ ?_);intro w;cases iv<;>first|rfl|exact(QC h1.1).elim
  show swapsWith v (some (.Subscript ov iv pp)) p.line X.env=pure false;exact iK h2.1;cases v<;>rfl;rfl
 |sdf i k=>intro l ok h nd;obtain⟨st,rfl,h⟩:=sB h;obtain⟨v,p,rfl,h⟩:=gX h;have h1:=yA h;exact one (yT (snd (Bc i k) ok.toOkX h1.2 nd).pe (iK h1.1))
 |whl c body ih=>intro l ok h nd;obtain⟨st,rfl,h⟩:=sB h;obtain⟨t,x,y,p,rfl,h⟩:=X8 h;have h1:=yA h;have h2:=yA h1.2;cases Qt.mp h1.1;exact one (MW ok.po (snd c ok.toOkX h2.1 nd.1).pt (ih ok h2.2 nd.2).1)
 |frz is s ih=>intro l ok h nd;exact ih ok h nd
end
end
noncomputable abbrev D:=PyData
set_option genInjectivity true in
inductive T where
 |d (x:D)|lst (ts:List T)|tup (ts:List T)|dct (b:Bool) (ks:List D) (ts:List T)
mutual
def T.er:T->D
 | .d x=>x
 | .lst ts=>.list (ersT ts)
 | .tup ts=>.tuple (ersT ts)
 | .dct _ ks ts=>.dict (ks.zip (ersT ts))
def ersT:List T->List D
 |[]=>[]
 |t::r=>t.er::ersT r
end
theorem KA(ds:List D):ersT (ds.map T.d)=ds:=by
 induction ds with
 |nil=>rfl
 |cons d r ih=>simp only[QN,ersT,ih,T.er]
theorem JY:∀(ts:List T),(ersT ts).length=ts.length
 |[]=>rfl
 |t::r=>by simp only[ersT,QL,JY r]
theorem NN:∀(ts:List T),ersT ts=ts.map T.er
 |[]=>rfl
 |t::r=>by simp only[ersT,QN,NN r]
def T.isD:T->Bool
 | .d _=>true
 |_=>false
set_option genInjectivity true in
inductive Sl where
 |own (t:T)|nv (t:T)
noncomputable abbrev kA:=List (Option Sl)
def kH(t:T)(n:Bool):Bool:=n||t.isD
def dA(t:T):Bool->T
 |true=>.d t.er
 |false=>t
theorem oA(x:D)(n:Bool):dA (.d x) n=.d x:=by cases n<;>rfl
theorem BT(t:T)(n:Bool):(dA t n).er=t.er:=by cases n<;>rfl
def tE:List T->Option (List D)
 |[]=>some []
 | .d x::r=>(tE r).map (x::·)
 |_::_=>none
theorem pA(ds:List D):tE (ds.map T.d)=some ds:=by
 induction ds with
 |nil=>rfl
 |cons d r ih=>simp only[QN,tE,ih,Q9]
theorem RJ:∀{ts:List T}{ds:List D},tE ts=some ds->ts=ds.map T.d
 |[],ds,h=>by simp only[tE,Qq]at h;subst h;rfl
 | .d x::r,ds,h=>by
  simp only[tE]at h;cases e:tE r with
  |none=>rw[e]at h;cases h
  |some es=>rw[e]at h;cases h;rw[QN,RJ e]
 | .lst _::_,_,h=>by simp[tE]at h
 | .tup _::_,_,h=>by simp[tE]at h
 | .dct _ _ _::_,_,h=>by simp[tE]at h
def IC:List (D×D)->Option Bool
 | (.tuple _,_)::_=>some true
 | (.str _,_)::_=>some false
 |_=>none
def vF:Bool->D->Prop
 |true,k=>∃q,k=tD q
 |false,k=>∃z,k=.str z
open Classical in
def fA:List D->D->Option Nat
 |[],_=>none
 |x::r,k=>if x=k then some 0 else(fA r k).map (·+1)
def kR(b:Bool)(ks:List D)(ts:List T)(k:D)(t:T):T:=match fA ks k with
 |some n=>.dct b ks (ts.set n t)
 |none=>.dct b (ks++[k]) (ts++[t])
theorem lE:∀{ks:List D}{k:D}{n:Nat},fA ks k=some n->ks[n]?=some k
 |[],_,_,h=>by cases h
 |x::r,k,n,h=>by
  unfold fA at h;by_cases e:x=k;rw[if_pos e]at h;cases h;rw[e];rfl;rw[if_neg e]at h;cases q:fA r k with
  |none=>rw[q]at h;cases h
  |some m=>rw[q]at h;cases h;simpa using lE q
theorem oC:∀{ks:List D}{k:D},fA ks k=none↔k∉ks
 |[],_=>by simp[fA]
 |x::r,k=>by unfold fA;by_cases e:x=k;simp[e];rw[if_neg e,Option.map_eq_none_iff,oC];simp[Q2 e]
theorem NR{ks:List D}{k:D}:(fA ks k).isSome=true↔k∈ks:=by
 cases h:fA ks k with
 |none=>simp[oC.mp h]
 |some n=>simp[qD (lE h)]
set_option genInjectivity true in
inductive Vw where
 |sc (x:D)|ls (ts:List T)|tp (ts:List T)|dc (b:Bool) (ks:List D) (ts:List T)
def JB(kvs:List (D×D)):Vw:=match IC kvs with
 |some b=>.dc b (kvs.map (·.1)) (kvs.map fun p=>T.d p.2)
 |none=>.sc (.dict kvs)
def T.vw:T->Vw
 | .lst ts=>.ls ts
 | .tup ts=>.tp ts
 | .dct b ks ts=>.dc b ks ts
 | .d x=>match x with
  | .list ds=>.ls (ds.map T.d)
  | .tuple ds=>.tp (ds.map T.d)
  | .dict kvs=>JB kvs
  | .none=>.sc .none
  | .bool b=>.sc (.bool b)
  | .int i=>.sc (.int i)
  | .str s=>.sc (.str s)
def YF(ts:List T):T:=match tE ts with
 |some ds=>.d (.tuple ds)
 |none=>.tup ts
noncomputable abbrev XD:=Value×List (Str×D)
noncomputable abbrev XE:=XD->Prop
noncomputable abbrev TK:=T->Bool->kA->Prop
inductive Md where
 |ny|ko|nv|chg
 deriving DecidableEq
structure PSp where
 md:List Md
 run:List T->(T->List T->Prop)->XE->Prop
 mono:∀{ts:List T}{Q Q':T->List T->Prop}{E E':XE},(∀t os,Q t os->Q' t os)->(∀x,E x->E' x)->run ts Q E->run ts Q' E'
structure PEv where
 sp:Str->PSp
 va:Str->Option D
def binT(op:Operator)(x y:Vw)(Q:T->Bool->Prop):Prop:=match op with
 | .Add=>(∃i j,x=.sc (.int i)/\y=.sc (.int j)/\Q (.d (.int (i+j))) false)∨(∃a b,x=.sc (.str a)/\y=.sc (.str b)/\a.length+b.length<=sizeLine/\Q (.d (.str (a++b))) false) ∨
  (∃xs ys ds es,x=.ls xs/\y=.ls ys/\tE xs=some ds/\tE ys=some es/\ds.length+es.length<=sizeLine/\Q (.lst ((ds++es).map T.d)) true) ∨
  (∃xs ys ds es,x=.tp xs/\y=.tp ys/\tE xs=some ds/\tE ys=some es/\ds≠[]/\es≠[]/\ds.length+es.length<=sizeLine/\Q (.d (.tuple (ds++es))) false)
 | .Sub=>∃i j,x=.sc (.int i)/\y=.sc (.int j)/\Q (.d (.int (i - j))) false
 | .Mult=>(∃i j,x=.sc (.int i)/\y=.sc (.int j)/\IntMulOk i j/\Q (.d (.int (i * j))) false)∨(∃a k,x=.sc (.str a)/\y=.sc (.int k)/\(-(2 ^ 31)<=k/\k<2 ^ 31/\a.length * k.toNat<=sizeLine)/\Q (.d (.str (eG a k))) false)
 | .FloorDiv=>∃i j,x=.sc (.int i)/\y=.sc (.int j)/\(0<j/\j<2 ^ 200)/\Q (.d (.int (i / j))) false
 | .Mod=>∃i j,x=.sc (.int i)/\y=.sc (.int j)/\0<j/\Q (.d (.int (i % j))) false
 |_=>False
section
variable{Q:T->Bool->Prop}
theorem Da(i j:Int):binT .Add (.sc (.int i)) (.sc (.int j)) Q=Q (.d (.int (i+j))) false:=by simp[binT]
theorem Ca(xs ys:List T):binT .Add (.ls xs) (.ls ys) Q=∃ds es,tE xs=some ds/\tE ys=some es/\ds.length+es.length<=sizeLine/\Q (.lst ((ds++es).map T.d)) true:=by simp[binT]
theorem Ba(i j:Int):binT .Sub (.sc (.int i)) (.sc (.int j)) Q=Q (.d (.int (i - j))) false:=by simp[binT]
theorem Ua(i j:Int):binT .Mult (.sc (.int i)) (.sc (.int j)) Q=(IntMulOk i j/\Q (.d (.int (i * j))) false):=by simp[binT]
theorem Xa(a:Str)(k:Int):binT .Mult (.sc (.str a)) (.sc (.int k)) Q=((-(2 ^ 31)<=k/\k<2 ^ 31/\a.length * k.toNat<=sizeLine)/\Q (.d (.str (eG a k))) false):=by simp[binT]
theorem Va(i j:Int):binT .FloorDiv (.sc (.int i)) (.sc (.int j)) Q=((0<j/\j<2 ^ 200)/\Q (.d (.int (i / j))) false):=by simp[binT]
theorem Ka(i j:Int):binT .Mod (.sc (.int i)) (.sc (.int j)) Q=(0<j/\Q (.d (.int (i % j))) false):=by simp[binT]
end
section
variable{Q:T->Prop}
def Zg:D->D->(Bool->Prop)->Prop
 | .int i,.int j,Q=>Q (decide (i=j))
 | .str x,.str y,Q=>Q (decide (x=y))
 | .bool x,.bool y,Q=>Q (decide (x=y))
 |a,b,Q=>ZE a/\ZE b/\Q (Q6 a b)
def eB:D->Bool
 | .none | .bool _ | .int _ | .str _=>true
 |_=>false
def Jg:D->D->(Bool->Prop)->Prop
 | .str x,.str y,Q=>Q (inStr y x)
 |a,.list ds,Q|a,.tuple ds,Q=>((eB a=true/\ds.all eB=true)∨(ZE a/\ZE (.list ds)))/\Q (ds.any fun y=>Q6 y a)
 |a,.dict kvs,Q=>∃b,IC kvs=some b/\vF b a/\Q (fA (kvs.map (·.1)) a).isSome
 |_,_,_=>False
def OU(f:Int->Int->Bool):D->D->(Bool->Prop)->Prop
 | .int i,.int j,Q=>Q (f i j)
 |_,_,_=>False
def ZV:CmpOp->D->D->(Bool->Prop)->Prop
 | .Eq,a,b,Q=>Zg a b Q
 | .NotEq,a,b,Q=>Zg a b fun k=>Q (!k)
 | .Lt,a,b,Q=>OU (fun i j=>decide (i<j)) a b Q
 | .LtE,a,b,Q=>OU (fun i j=>decide (i<=j)) a b Q
 | .Gt,a,b,Q=>OU (fun i j=>decide (j<i)) a b Q
 | .GtE,a,b,Q=>OU (fun i j=>decide (j<=i)) a b Q
 | .In,a,b,Q=>Jg a b Q
 | .NotIn,a,b,Q=>Jg a b fun k=>Q (!k)
 |_,_,_,_=>False
def G4(op:CmpOp)(x:D)(y:T)(Q:Bool->Prop):Prop:=match y with
 | .dct b ks _=>vF b x/\((op=.In/\Q (fA ks x).isSome)∨(op=.NotIn/\Q (!(fA ks x).isSome)))
 | .d y=>ZV op x y Q
 | .lst ts=>ZV op x (.list (ersT ts)) Q
 | .tup ts=>ZV op x (.tuple (ersT ts)) Q
def gH:D->(Bool->Prop)->Prop
 | .bool b,Q=>Q b
 | .int i,Q=>Q (i != 0)
 | .none,Q=>Q false
 | .str z,Q=>z.length<=sizeLine/\Q ((z.length:Int) != 0)
 | .list ds,Q=>Q (!ds.isEmpty)
 | .tuple ds,Q=>Q (!ds.isEmpty)
 |_,_=>False
def Ha:D->(Bool->Prop)->Prop
 | .bool b,Q=>Q b
 |_,_=>False
def xQ(x:Vw)(k:D)(Q:T->Prop):Prop:=∃b ks ts n t,x=.dc b ks ts/\vF b k/\fA ks k=some n/\ts[n]?=some t/\Q t
def YL(x y:Vw)(Q:T->Prop):Prop:=(∃z i c,x=.sc (.str z)/\y=.sc (.int i)/\z.length<=sizeLine/\kF z.cps.toList i=some c/\Q (.d (.str ⟨#[c]⟩))) ∨
 (∃ts i t,x=.ls ts/\y=.sc (.int i)/\kF ts i=some t/\Q t)∨(∃ts i t,x=.tp ts/\y=.sc (.int i)/\kF ts i=some t/\Q t)
theorem B9(z:Str)(i:Int):YL (.sc (.str z)) (.sc (.int i)) Q=(z.length<=sizeLine/\∃c,kF z.cps.toList i=some c/\Q (.d (.str ⟨#[c]⟩))):=by simp[YL]
theorem mY(ts:List T)(i:Int):YL (.ls ts) (.sc (.int i)) Q=∃t,kF ts i=some t/\Q t:=by simp[YL]
theorem U9(ts:List T)(i:Int):YL (.tp ts) (.sc (.int i)) Q=∃t,kF ts i=some t/\Q t:=by simp[YL]
def UD{α:Type}(xs:List α)(lo hi:Option Int):List α:=(xs.drop (HT.sIx xs.length 0 lo)).take (HT.sIx xs.length xs.length hi - HT.sIx xs.length 0 lo)
def fJ(x:Vw)(lo hi:Option Int)(Q:T->Bool->Prop):Prop:=(∃z,x=.sc (.str z)/\z.length<=sizeLine/\Q (.d (.str (QCE z lo hi))) false)∨(∃ts ds,x=.ls ts/\tE ts=some ds/\Q (.lst ((UD ds lo hi).map T.d)) true) ∨
 (∃ts ds,x=.tp ts/\tE ts=some ds/\¬ (HT.sIx ds.length 0 lo=0/\HT.sIx ds.length ds.length hi=ds.length)/\Q (.d (.tuple (UD ds lo hi))) false)
end
section
variable{Q:T->Bool->Prop}{lo hi:Option Int}
theorem tW(ts:List T):fJ (.ls ts) lo hi Q=∃ds,tE ts=some ds/\Q (.lst ((UD ds lo hi).map T.d)) true:=by simp[fJ]
end
def pF:D->(Option Int->Prop)->Prop
 | .int i,Q=>Q (some i)
 |_,_=>False
def ZC(l:List Str):D:=.list (l.map PyData.str)
def eU(r:Str×D):D:=.tuple [.str r.1,r.2]
def j5(f:Bi)(vs:List Vw)(Q:T->Bool->Prop):Prop:=match f with
 | .all=>∃ts,∃bs:List Bool,vs=[.ls ts]/\tE ts=some (bs.map PyData.bool)/\Q (.d (.bool (bs.all id))) false
 | .len=>(∃z,vs=[.sc (.str z)]/\z.length<=sizeLine/\Q (.d (.int z.length)) false)∨(∃ts,vs=[.ls ts]/\Q (.d (.int ts.length)) false)∨(∃ts,vs=[.tp ts]/\Q (.d (.int ts.length)) false)
 | .list=>∃ts ds,vs=[.ls ts]/\tE ts=some ds/\Q (.lst (ds.map T.d)) true
 | .sorted=>(∃ts,∃ss:List Str,vs=[.ls ts]/\tE ts=some (ss.map PyData.str)/\ss.length<64/\∀ss':List Str,ss'.Perm ss->sortedS ss'=true->Q (.lst ((ss'.map PyData.str).map T.d)) true) ∨
  (∃ts,∃ls:List (List Str),vs=[.ls ts]/\tE ts=some (ls.map ZC)/\ls.length<64/\∀ls':List (List Str),ls'.Perm ls->Q (.lst ((ls'.map ZC).map T.d)) true) ∨
  (∃ts,∃rs:List (Str×D),vs=[.ls ts]/\tE ts=some (rs.map eU)/\rs.length<64/\(rs.map qE).Nodup/\∀rs':List (Str×D),rs'.Perm rs->sortedS (rs'.map qE)=true->Q (.lst ((rs'.map eU).map T.d)) true)
section
variable{Q:T->Bool->Prop}
theorem B6(ts:List T):j5 .len [.ls ts] Q=Q (.d (.int ts.length)) false:=by simp[j5]
theorem Oe(ts:List T):j5 .list [.ls ts] Q=∃ds,tE ts=some ds/\Q (.lst (ds.map T.d)) true:=by simp[j5]
end
def US(x:Vw)(Q:T->Bool->Prop):Prop:=∃ts,∃ss:List Str,x=.ls ts/\tE ts=some (ss.map PyData.str)/\ss.length<64/\∀zs:List Str,zs.Nodup->(∀s,s∈zs↔s∈ss)->sortedS zs=true->Q (.lst ((zs.map PyData.str).map T.d)) true
def Yb(m:Mt)(x:Vw)(vs:List Vw)(Q:T->Bool->Prop):Prop:=match m with
 | .join=>∃z ts,∃ys:List Str,x=.sc (.str z)/\vs=[.ls ts]/\tE ts=some (ys.map PyData.str)/\(ys.map (·.length)).sum+ys.length * z.length<=16777216/\Q (.d (.str (QAC z ys))) false
 |_=>False
theorem Nd{Q:T->Bool->Prop}(z:Str)(ts:List T):Yb .join (.sc (.str z)) [.ls ts] Q=∃ys:List Str,tE ts=some (ys.map PyData.str)/\(ys.map (·.length)).sum+ys.length * z.length<=16777216/\Q (.d (.str (QAC z ys))) false:=by simp[Yb]
def Vw.isS:Vw->Bool
 | .sc (.str _)=>true
 |_=>false
def isMut:Mt->Bool
 | .append=>true
 | .pop=>true
 | .setd=>true
 | .reverse=>true
 | .join=>false
def JR(m:Mt)(x:Vw):Bool:=x.isS&&!isMut m
def KK(m:Mt)(s:T)(us:List T)(N:T->T->Prop):Prop:=match m with
 | .append=>∃ts t,s=.lst ts/\us=[t]/\ts.length<sizeLine/\N (.d .none) (.lst (ts++[t]))
 | .pop=>∃ts i k t,s=.lst ts/\us=[.d (.int i)]/\DQ ts.length i=some k/\ts[k]?=some t/\N t (.lst (ts.eraseIdx k))
 | .reverse=>∃ds:List D,s=.lst (ds.map T.d)/\us=[]/\N (.d .none) (.lst (ds.reverse.map T.d))
 |_=>False
theorem j9{N:T->T->Prop}(ts:List T)(t:T):KK .append (.lst ts) [t] N=(ts.length<sizeLine/\N (.d .none) (.lst (ts++[t]))):=by simp[KK]
theorem E8{N:T->T->Prop}(ts:List T)(i:Int):KK .pop (.lst ts) [.d (.int i)] N=∃k t,DQ ts.length i=some k/\ts[k]?=some t/\N t (.lst (ts.eraseIdx k)):=by simp[KK]
def gY:Mt->Bool
 | .append=>true
 | .pop=>true
 | .setd=>false
 | .reverse=>true
 | .join=>false
def II(m:Mt):T->Bool
 | .lst _=>gY m
 |_=>false
def Vw.seq:Vw->Option (List T)
 | .ls ts=>some ts
 | .tp ts=>some ts
 |_=>none
def NB(ik:ItK)(vs:List Vw)(R:List T->Prop):Prop:=match ik with
 | .val=>(∃z,vs=[.sc (.str z)]/\R (z.cps.toList.map fun c=>.d (.str ⟨#[c]⟩)))∨(∃ts,vs=[.ls ts]/\R ts)∨(∃ts,vs=[.tp ts]/\R ts)∨(∃ks ts,vs=[.dc true ks ts]/\R (ks.map T.d))
 | .rng1=>∃j,vs=[.sc (.int j)]/\(-(2 ^ 62)<=j/\j<2 ^ 62)/\R ((Q5 j.toNat).map fun(i:Nat)=>.d (.int (i:Int)))
 | .zip2=>∃ts us ds es,vs=[.ls ts,.ls us]/\tE ts=some ds/\tE us=some es/\R ((ds.zip es).map fun p=>.d (.tuple [p.1,p.2]))
 | .enum=>∃x ts ds,vs=[x]/\x.seq=some ts/\tE ts=some ds/\R (ds.zipIdx.map fun p=>.d (.tuple [.int (p.2:Int),p.1]))
 | .itm=>(∃ks ts ds,vs=[.dc true ks ts]/\tE ts=some ds/\R ((ks.zip ds).map fun p=>.d (.tuple [p.1,p.2])))∨(vs=[.sc (.dict [])]/\R [])
section
variable{R:List T->Prop}
theorem FK(ts:List T):NB .val [.ls ts] R=R ts:=by simp[NB]
theorem cY(j:Int):NB .rng1 [.sc (.int j)] R=((-(2 ^ 62)<=j/\j<2 ^ 62)/\R ((Q5 j.toNat).map fun(i:Nat)=>.d (.int (i:Int)))):=by simp[NB]
theorem MP(x:Vw):NB .enum [x] R=∃ts ds,x.seq=some ts/\tE ts=some ds/\R (ds.zipIdx.map fun p=>.d (.tuple [.int (p.2:Int),p.1])):=by apply propext;constructor;rintro⟨_,ts,ds,⟨⟩,h⟩;exact⟨ts,ds,h⟩;rintro⟨ts,ds,h⟩;exact⟨_,ts,ds,rfl,h⟩
theorem LP(ks:List D)(ts:List T):NB .itm [.dc true ks ts] R=∃ds,tE ts=some ds/\R ((ks.zip ds).map fun p=>.d (.tuple [p.1,p.2])):=by apply propext;constructor;rintro(⟨_,_,ds,⟨⟩,h⟩| ⟨⟨⟩,_⟩);exact⟨ds,h⟩;rintro⟨ds,h⟩;exact .inl ⟨_,_,ds,rfl,h⟩
theorem HP(ks:List D)(ts:List T):NB .val [.dc true ks ts] R=R (ks.map T.d):=by simp[NB]
theorem bY:NB .itm [.sc (.dict [])] R=R []:=by apply propext;constructor;rintro(⟨_,_,ds,⟨⟩,h⟩| ⟨_,h⟩);exact h;exact fun h=>.inr ⟨rfl,h⟩
end
section
variable{K:QF}{H H':Hp}{vs:List V}{ds:List D}
def oB:List Nat->List T->kA->Option kA
 |[],[],ρ=>some ρ
 |i::is,t::ts,ρ=>oB is ts (ρ.set i (some (.nv t)))
 |_,_,_=>none
def bJ:Tg->T->kA->(kA->Prop)->Prop
 | .nm i,t,ρ,Q=>Q (ρ.set i (some (.nv t)))
 | .tp is,t,ρ,Q=>match t.vw with
  | .tp ts=>∃ρ',oB is ts ρ=some ρ'/\Q ρ'
  |_=>False
def Tg.ix:Tg->List Nat
 | .nm i=>[i]
 | .tp is=>is
def VW:PX->Option Nat
 | .var i=>some i
 |_=>none
def YG:Option Sl->Option Sl
 |some (.own t)=>some (.nv t)
 |s=>s
def lockA(ρ:kA):kA:=ρ.map YG
def lock:List Nat->kA->kA
 |[],ρ=>ρ
 |i::is,ρ=>lock is (ρ.modify i YG)
def tV:Option Sl->Option Sl
 |some (.own t)=>some (.nv (.d t.er))
 |s=>s
def frzAt:List Nat->kA->kA
 |[],ρ=>ρ
 |i::is,ρ=>frzAt is (ρ.modify i tV)
def ZG:Option Sl->Option Sl
 |some (.nv t)=>if t.isD=true then some (.nv t) else none
 |s=>s
def kill:List Nat->kA->kA
 |[],ρ=>ρ
 |i::is,ρ=>kill is (ρ.modify i ZG)
def clear:List Nat->kA->kA
 |[],ρ=>ρ
 |i::is,ρ=>clear is (ρ.set i none)
def OA:List Nat->kA->Option (List T)
 |[],_=>some []
 |i::is,ρ=>match ρ[i]? with
  |some (some (.own t))=>(OA is ρ).map (t::·)
  |_=>none
def yC:List Nat->List T->kA->Option kA
 |[],[],ρ=>some ρ
 |i::is,t::ts,ρ=>yC is ts (ρ.set i (some (.own t)))
 |_,_,_=>none
def EC:List Bool->kA->kA
 |b::m,v::ρ=>(if b then none else v)::EC m ρ
 |_,ρ=>ρ
def KL(k:Nat)(mask:List Bool)(ρ:kA):kA:=Qu k none++EC mask ρ
def sq{α:Type}(x:T)(ρ:kA)(b:kA->(α->kA->Prop)->Prop)(K:α->kA->Prop):Prop :=
 if x.isD=true then b ρ K else b (lockA ρ) fun y _=>K y ρ
def cu(f:kA->TK->Prop):kA->(T×Bool->kA->Prop)->Prop:=fun ρ K=>f ρ fun x n ρ'=>K (x,n) ρ'
def fF:List (T×Bool)->List T
 |[]=>[]
 |p::r=>p.1::fF r
def ZL:List (T×Bool)->List T
 |[]=>[]
 |p::r=>dA p.1 p.2::ZL r
def GB:List (T×Bool)->List Vw
 |[]=>[]
 |p::r=>(dA p.1 p.2).vw::GB r
def LE:List (T×Bool)->Bool
 |[]=>true
 |p::r=>kH p.1 p.2&&LE r
def ZQ:List (T×Bool)->Bool
 |[]=>true
 |p::r=>kH p.1 p.2&&ZQ r
def yF(t:T):Option T:=match t.vw with
 | .ls ts=>(tE ts).map fun ds=>.lst (ds.map T.d)
 |_=>if t.isD=true then some t else none
def YA:List Md->List (T×Bool)->List T->Option (List T)
 |_,[],[]=>some []
 |_,[],_::_=>none
 |md,(x,n)::xs,os=>match md.headD .ny with
  | .ny=>match dA x n with
   | .d d=>(YA md.tail xs os).map (.d d::·)
   |_=>none
  | .ko=>match yF (dA x n) with
   |some t=>(YA md.tail xs os).map (t::·)
   |none=>none
  | .nv=>(YA md.tail xs os).map (dA x n::·)
  | .chg=>match os with
   |o::os=>(YA md.tail xs os).map (o::·)
   |[]=>none
def KB:List Md->List T->List T
 |_,[]=>[]
 |md,t::ts=>match md.headD .ny with
  | .chg=>t::KB md.tail ts
  |_=>KB md.tail ts
def cA:List Md->PX->List Nat
 | .chg::md,.nq (.var j) as=>j::cA md as
 |_::md,.nq _ as=>cA md as
 |_,_=>[]
def Md.isMut:Md->Bool
 | .chg=>true
 |_=>false
structure D3 where
 e:kA->TK->Prop
 t:kA->(Bool->kA->Prop)->Prop
 a:List Md->kA->(List (T×Bool)->kA->Prop)->Prop
def VE:D3:=⟨fun _ _=>False,fun _ _=>False,fun _ _ _=>False⟩
def eD(body:T->(Option T->Prop)->Prop):List T->List T->(List T->Prop)->Prop
 |[],acc,Q=>acc.length<=sizeLine/\Q acc
 |x::xs,acc,Q=>body x fun
  |some y=>acc.length<sizeLine/\eD body xs (acc++[y]) Q
  |none=>eD body xs acc Q
def HF(tg:Tg)(ρ0:kA)(c:kA->(Bool->kA->Prop)->Prop)(e:kA->TK->Prop)(x:T)(R:Option T->Prop):Prop :=
 bJ tg x ρ0 fun ρ1=>c ρ1 fun b ρ2=>if b=true then e ρ2 fun y n _=>kH y n=true/\R (some y) else R none
def rg:Option (Option Sl)->(T->Prop)->Prop
 |some (some (.own t)),Q=>Q t
 |some (some (.nv t)),Q=>Q t
 |some none,_=>False
 |none,_=>False
def VD:Option (Option Sl)->(T->Prop)->Prop
 |some (some (.own t)),Q=>Q t
 |some (some (.nv _)),_=>False
 |some none,_=>False
 |none,_=>False
def B5:Option Nat->(Nat->Prop)->Prop
 |none,_=>False
 |some j,Q=>Q j
def fY:PX->Bool
 | .var _=>true
 |_=>false
def pe(Ψ:PEv):PX->XE->D3
 | .var i,_=>let e:kA->TK->Prop:=fun ρ Q=>rg ρ[i]? fun t=>Q t false ρ
  ⟨e,fun ρ Q=>e ρ fun t _ ρ1=>gH t.er fun b=>Q b ρ1,VE.a⟩
 | .int i,_=>⟨fun ρ Q=>Q (.d (.int i)) false ρ,fun ρ Q=>Q (i != 0) ρ,VE.a⟩
 | .str x,_=>⟨fun ρ Q=>Q (.d (.str x)) false ρ,VE.t,VE.a⟩
 | .bl b,_=>⟨fun ρ Q=>Q (.d (.bool b)) false ρ,fun ρ Q=>Q b ρ,VE.a⟩
 | .non,_=>⟨fun ρ Q=>Q (.d .none) false ρ,fun ρ Q=>Q false ρ,VE.a⟩
 | .glo x,_=>let e:kA->TK->Prop:=fun ρ Q=>match Ψ.va x with
   |some d=>Q (.d d) false ρ
   |none=>False
  ⟨e,fun ρ Q=>e ρ fun t _ ρ1=>gH t.er fun b=>Q b ρ1,VE.a⟩
 | .bin op a b,E=>let e:kA->TK->Prop:=fun ρ Q=>(pe Ψ a E).e ρ fun x n ρ1=>sq (dA x n) ρ1 (cu (pe Ψ b E).e) fun y ρ2=>binT op (dA x n).vw (dA y.1 y.2).vw fun z k=>Q z k ρ2
  ⟨e,fun ρ Q=>e ρ fun t _ ρ1=>gH t.er fun b=>Q b ρ1,VE.a⟩
 | .cmp op a b,E=>let t:kA->(Bool->kA->Prop)->Prop:=fun ρ Q=>(pe Ψ a E).e ρ fun x n ρ1=>sq (dA x n) ρ1 (cu (pe Ψ b E).e) fun y ρ2=>G4 op x.er (dA y.1 y.2) fun k=>Q k ρ2
  ⟨fun ρ Q=>t ρ fun k ρ1=>Q (.d (.bool k)) false ρ1,t,VE.a⟩
 | .and a b,E=>⟨fun ρ Q=>(pe Ψ a E).e ρ fun x _ ρ1=>Ha x.er fun c=>if c=true then(pe Ψ b E).e ρ1 Q else Q (.d (.bool false)) false ρ1,
   fun ρ Q=>(pe Ψ a E).t ρ fun c ρ1=>if c=true then(pe Ψ b E).t ρ1 Q else Q false ρ1,VE.a⟩
 | .or a b,E=>⟨fun ρ Q=>(pe Ψ a E).e ρ fun x _ ρ1=>Ha x.er fun c=>if c=true then Q (.d (.bool true)) false ρ1 else(pe Ψ b E).e ρ1 Q,
   fun ρ Q=>(pe Ψ a E).t ρ fun c ρ1=>if c=true then Q true ρ1 else(pe Ψ b E).t ρ1 Q,VE.a⟩
 | .not a,E=>⟨fun ρ Q=>(pe Ψ a E).e ρ fun x _ ρ1=>gH x.er fun c=>Q (.d (.bool (!c))) false ρ1,fun ρ Q=>(pe Ψ a E).t ρ fun c ρ1=>Q (!c) ρ1,VE.a⟩
 | .call f as,E=>let e:kA->TK->Prop:=fun ρ Q=>∃os,OA (cA (Ψ.sp f).md as) ρ=some os/\(cA (Ψ.sp f).md as).Nodup/\(pe Ψ as E).a (Ψ.sp f).md (clear (cA (Ψ.sp f).md as) ρ) fun xs ρ1=>∃ts,YA (Ψ.sp f).md xs os=some ts/\(Ψ.sp f).run ts (fun r os'=>∃ρ2,yC (cA (Ψ.sp f).md as) os' ρ1=some ρ2/\Q r true ρ2) E
  ⟨e,fun ρ Q=>e ρ fun t _ ρ1=>gH t.er fun b=>Q b ρ1,VE.a⟩
 | .bi f as,E=>let e:kA->TK->Prop:=fun ρ Q=>(pe Ψ as E).a [] ρ fun xs ρ1=>j5 f (GB xs) fun z k=>Q z k ρ1
  ⟨e,fun ρ Q=>e ρ fun t _ ρ1=>gH t.er fun b=>Q b ρ1,VE.a⟩
 | .mt m o as,E=>let e:kA->TK->Prop:=fun ρ Q=>if isMut m=true then B5 (VW o) fun j=>VD ρ[j]? fun t=>II m t=true/\(pe Ψ as E).a [] (ρ.set j (some (.nv t))) fun xs ρ2=>LE xs=true/\ρ2[j]?=some (some (.nv t))/\KK m t (fF xs) fun r s'=>Q r true (ρ2.set j (some (.own s'))) else(pe Ψ o E).e ρ fun x n ρ1=>JR m (dA x n).vw=true/\sq (dA x n) ρ1 ((pe Ψ as E).a []) fun xs ρ2=>Yb m (dA x n).vw (GB xs) fun z k=>Q z k ρ2
  ⟨e,fun ρ Q=>e ρ fun t _ ρ1=>gH t.er fun b=>Q b ρ1,VE.a⟩
 | .idx a b,E=>let e:kA->TK->Prop:=fun ρ Q=>(pe Ψ a E).e ρ fun x n ρ1=>sq (dA x n) ρ1 (cu (pe Ψ b E).e) fun y ρ2=>(YL (dA x n).vw (dA y.1 y.2).vw fun z=>Q z false ρ2)∨(xQ (dA x n).vw y.1.er fun z=>Q z false ρ2)
  ⟨e,fun ρ Q=>e ρ fun t _ ρ1=>gH t.er fun b=>Q b ρ1,VE.a⟩
 | .slc a lo hi,E=>⟨fun ρ Q=>(pe Ψ a E).e ρ fun x n ρ1 =>
   sq (α:=Option Int) (dA x n) ρ1 (if isNop lo=true then fun ρ (R:Option Int->kA->Prop)=>R none ρ else fun ρ R=>(pe Ψ lo E).e ρ fun l _ ρ2=>pF l.er fun o=>R o ρ2) fun l ρ2 =>
   sq (α:=Option Int) (dA x n) ρ2 (if isNop hi=true then fun ρ (R:Option Int->kA->Prop)=>R none ρ else fun ρ R=>(pe Ψ hi E).e ρ fun u _ ρ3=>pF u.er fun o=>R o ρ3) fun u ρ3=>fJ (dA x n).vw l u fun z k=>Q z k ρ3,VE.t,VE.a⟩
 | .nop,_=>VE
 | .lst as,E=>⟨fun ρ Q=>(pe Ψ as E).a [] ρ fun xs ρ1=>LE xs=true/\xs.length<=sizeLine/\Q (.lst (fF xs)) true ρ1,VE.t,VE.a⟩
 | .tup as,E=>⟨fun ρ Q=>(pe Ψ as E).a [] ρ fun xs ρ1=>LE xs=true/\xs.length<=sizeLine/\Q (YF (fF xs)) true ρ1,VE.t,VE.a⟩
 | .comp mask tgs tg ik its cond elt,E=>⟨fun ρ Q=>(pe Ψ its E).a [] ρ fun xs ρ1=>NB ik (GB xs) fun items =>
   eD (HF tg (KL tgs.length mask (lockA ρ1)) (if isNop cond=true then fun ρ R=>R true ρ else(pe Ψ cond (fun _=>False)).t) (pe Ψ elt (fun _=>False)).e) items [] fun ys=>Q (.lst ys) true ρ1,VE.t,VE.a⟩
 | .dnew b,_=>⟨fun ρ Q=>Q (.dct b [] []) true ρ,VE.t,VE.a⟩
 | .dsp a b,E=>⟨fun ρ Q=>(pe Ψ a E).e ρ fun y m ρ1=>kH y m=true/\(pe Ψ b E).e ρ1 fun x n ρ2=>kH x n=true/\vF true y.er/\Q (.dct true [y.er] [x]) true ρ2,VE.t,VE.a⟩
 | .sset a,E=>⟨fun ρ Q=>(pe Ψ a E).e ρ fun x n ρ1=>US (dA x n).vw fun z k=>Q z k ρ1,VE.t,VE.a⟩
 | .nr,_=>⟨VE.e,VE.t,fun _ ρ Q=>Q [] ρ⟩
 | .nq a as,E=>⟨VE.e,VE.t,fun md ρ Q=>if(md.headD .ny).isMut=true then fY a=true/\(pe Ψ as E).a md.tail ρ fun xs ρ1=>Q ((.d .none,true)::xs) ρ1
   else(pe Ψ a E).e ρ fun x n ρ1=>sq (α:=List (T×Bool)) (if n=true then .d .none else x) ρ1 ((pe Ψ as E).a md.tail) fun xs ρ2=>Q ((x,n)::xs) ρ2⟩
structure PEnds where
 nx:kA->Prop
 rt:T->kA->Prop
 bk:kA->Prop:=fun _=>False
 ct:kA->Prop:=fun _=>False
def rG:PX->List Nat
 | .var i=>[i]
 | .idx a _=>rG a
 | .and a b | .or a b=>rG a++rG b
 | .nq a as=>rG a++rG as
 |_=>[]
def bR:Option (Option Sl)->Bool
 |some (some (.own _))=>true
 |some (some (.nv _))=>false
 |some none=>false
 |none=>false
def fC(ρ:kA):List Nat->List Nat
 |[]=>[]
 |i::is=>if bR ρ[i]?=true then i::fC ρ is else fC ρ is
def aC:List Nat->kA->kA->kA
 |[],_,ρ=>ρ
 |i::L,ρ0,ρ=>aC L ρ0 (ρ.set i (ρ0[i]?.getD none))
def MQ(J L:List Nat)(ρ0:kA)(N:kA->Prop)(ρ:kA):Prop:=(∀i∈L,i∉J/\ρ[i]?=ρ0[i]?.map YG)/\N (aC L ρ0 ρ)
def zH(body:PEnds->kA->Prop)(tg:Tg)(Z:PEnds):List T->kA->Prop
 |[],ρ=>Z.nx ρ
 |x::xs,ρ=>bJ tg x ρ fun ρ1=>body { Z with nx:=fun ρ2=>zH body tg Z xs ρ2,ct:=fun ρ2=>zH body tg Z xs ρ2,bk:=Z.nx } ρ1
def nh(ρ:kA)(i:Nat)(R:T->kA->Prop):Option (Option Sl)->Prop
 |some (some (.own t))=>R t (ρ.set i none)
 |some (some (.nv t))=>t.isD=true/\R t ρ
 |some none=>False
 |none=>False
def mJ(Ψ:PEv)(E:XE)(Rt:T->kA->Prop):PX->kA->Prop
 | .var i,ρ=>nh ρ i Rt ρ[i]?
 |e,ρ=>(pe Ψ e E).e ρ fun x n ρ1=>kH x n=true/\Rt x ρ1
def Yc:T->D->D->(T->Prop)->Prop
 | .lst ts,.int i,x,Q=>∃n,DQ ts.length i=some n/\Q (.lst (ts.set n (.d x)))
 | .dct b ks ts,k,x,Q=>vF b k/\ks.length<sizeLine/\Q (kR b ks ts k (.d x))
 |_,_,_,_=>False
def vh:PX->Option (Nat×Option PX)
 | .var j=>some (j,none)
 | .idx (.var j) k=>some (j,some k)
 |_=>none
def D7(k:D)(t:T)(Q:T->Prop):Prop:=∃ks ts,t=.dct true ks ts/\vF true k/\ks.length<sizeLine/\((∃n,fA ks k=some n/\Q t)∨(fA ks k=none/\Q (.dct true (ks++[k]) (ts++[.dct true [] []]))))
def S9:T->Bool
 | .dct true _ _=>true
 |_=>false
def rc(z:D)(t:T)(Q:T->(T->T)->Prop):Prop:=∃b ks ts n s,t=.dct b ks ts/\vF b z/\fA ks z=some n/\ts[n]?=some s/\Q s fun s'=>.dct b ks (ts.set n s')
def xA(Ψ:PEv)(E:XE):PT->PEnds->kA->Prop
 | .nil,Z,ρ=>Z.nx ρ
 | .seq s r,Z,ρ=>xA Ψ E s { Z with nx:=fun ρ'=>xA Ψ E r Z ρ' } ρ
 | .set i e,Z,ρ=>(pe Ψ e E).e ρ fun x n ρ1=>kH x n=true/\Z.nx (ρ1.set i (some (.nv (.d x.er))))
 | .expr e,Z,ρ=>(pe Ψ e E).e ρ fun _ _ ρ1=>Z.nx ρ1
 | .ret e,Z,ρ=>mJ Ψ E Z.rt e ρ
 | .ife c a b,Z,ρ=>(pe Ψ c E).t ρ fun k ρ1=>if k=true then xA Ψ E a Z ρ1 else xA Ψ E b Z ρ1
 | .for_ tg ik its body,Z,ρ=>(pe Ψ its E).a [] ρ fun xs ρ1=>NB ik (GB xs) fun items =>
   if ZQ xs=true then zH (xA Ψ E body) tg { Z with nx:=fun ρ2=>Z.nx (kill tg.ix ρ2) } items ρ1
   else zH (xA Ψ E body) tg { Z with nx:=fun ρ2=>MQ tg.ix (fC ρ1 (rG its)) ρ1 Z.nx (kill tg.ix ρ2) } items (lock (fC ρ1 (rG its)) ρ1)
 | .own i e,Z,ρ=>(pe Ψ e E).e ρ fun x n ρ1=>kH x n=true/\Z.nx (ρ1.set i (some (.own x)))
 | .tset is e,Z,ρ=>(pe Ψ e E).e ρ fun x n ρ1=>kH x n=true/\bJ (.tp is) (.d x.er) ρ1 Z.nx
 | .six o i e,Z,ρ=>match vh o with
  |none=>False
  |some (j,none)=>VD ρ[j]? fun t=>(pe Ψ e E).e (ρ.set j (some (.nv t))) fun x n ρ1=>kH x n=true/\(pe Ψ i E).e ρ1 fun y m ρ2=>kH y m=true/\ρ2[j]?=some (some (.nv t))/\Yc t y.er x.er fun t'=>Z.nx (ρ2.set j (some (.own t')))
  |some (j,some k)=>VD ρ[j]? fun t=>(pe Ψ e E).e (ρ.set j (some (.nv t))) fun x n ρ1=>kH x n=true/\(pe Ψ k E).e ρ1 fun z l ρ2=>kH z l=true/\rc z.er t fun s put=>(pe Ψ i E).e ρ2 fun y m ρ3=>kH y m=true/\ρ3[j]?=some (some (.nv t))/\Yc s y.er x.er fun s'=>Z.nx (ρ3.set j (some (.own (put s'))))
 | .sdf j k,Z,ρ=>VD ρ[j]? fun t=>S9 t=true/\(pe Ψ k E).e (ρ.set j (some (.nv t))) fun y m ρ1=>kH y m=true/\ρ1[j]?=some (some (.nv t))/\D7 y.er t fun t'=>Z.nx (ρ1.set j (some (.own t')))
 | .whl c body,Z,ρ=>∃W:Nat->kA->Prop,(∃m,W m ρ)/\∀m ρ,W m ρ->(pe Ψ c E).t ρ fun b ρ1=>if b=true then
   xA Ψ E body { Z with nx:=fun ρ'=>∃m',m' < m/\W m' ρ',ct:=fun ρ'=>∃m',m' < m/\W m' ρ',bk:=Z.nx } ρ1 else Z.nx ρ1
 | .frz is s,Z,ρ=>xA Ψ E s Z (frzAt is ρ)
theorem _root_.L2.Same.rd{H H':Hp}(e:Same H H'){a:Addr}{u:HO}(h:Rd H a u):Rd H' a u:=by
 rcases h with h|⟨o,h⟩
 exact .inl (e _ _ h);exact .inr ⟨o,e _ _ h⟩
theorem _root_.L2.Same.tupl{a:Addr}{xs:List V}(e:Same H H')(h:TC K H a xs):TC K H' a xs:=by rcases h with h|h;exact .inl (e.rd h);exact .inr h
theorem OI.mono(e:Same H H'){b:Bool}{o:HO}{ks:List D}(h:OI K H b o ks vs):OI K H' b o ks vs:=by
 cases b with
 |true=>obtain⟨ep,kvs,h1,h2,h3,h4,h5⟩:=h;exact⟨ep,kvs,h1,h2,h3,fun p hp=>e.tupl (h4 p hp),h5⟩
 |false=>exact h
theorem Rep.mono2(e:Same H H'):(∀{v:V}{d:D},Rep K H v d->Rep K H' v d)/\∀{vs:List V}{ds:List D},Reps K H vs ds->Reps K H' vs ds :=
 Rep.both (P:=Rep K H') (R:=Reps K H') .non .bl .int .str (fun h _ r=>.lst (e.seq h) r) (fun h _ r=>.tup (e.tupl h) r) (fun h q _ r=>.dct (e _ _ h) (q.mono e) r) .nil fun _ _ h r=>.cons h r
theorem Rep.mono(e:Same H H'){v:V}{d:D}(h:Rep K H v d):Rep K H' v d:=(Rep.mono2 e).1 h
theorem Reps.mono(e:Same H H')(h:Reps K H vs ds):Reps K H' vs ds:=(Rep.mono2 e).2 h
theorem Reps.append{ws:List V}{es:List D}(h:Reps K H vs ds)(r:Reps K H ws es):Reps K H (vs++ws) (ds++es):=Reps.ind (R:=fun vs ds=>Reps K H (vs++ws) (ds++es)) r (fun h t=>.cons h t) h
theorem Reps.reverse(h:Reps K H vs ds):Reps K H vs.reverse ds.reverse:=Reps.ind (R:=fun vs ds=>Reps K H vs.reverse ds.reverse) .nil (fun r ih=>by rw[Wj,Wj];exact ih.append (.cons r .nil)) h
theorem Reps.drop{K:QF}{H:Hp}:∀{vs:List V}{ds:List D}(n:Nat),Reps K H vs ds->Reps K H (vs.drop n) (ds.drop n)
 |_,_,0,r=>r
 |_,_,_+1,.nil=>.nil
 |_,_,n+1,.cons _ t=>Reps.drop n t
theorem Reps.take{K:QF}{H:Hp}:∀{vs:List V}{ds:List D}(n:Nat),Reps K H vs ds->Reps K H (vs.take n) (ds.take n)
 |_,_,0,_=>.nil
 |_,_,_+1,.nil=>.nil
 |_,_,n+1,.cons h t=>.cons h (Reps.take n t)
theorem Reps.bools{K:QF}{H:Hp}:∀{vs:List V}{bs:List Bool},Reps K H vs (bs.map PyData.bool)->vs=bs.map V.bl
 |_,[],.nil=>rfl
 |_,b::bs,.cons h t=>by cases h;rw[QN,Reps.bools t]
theorem XB{p:Addr}{o:HO}(h:H p=none):Same H (UA H p o):=fun b u q=>by rw[vA (iA q h)];exact q
end
mutual
inductive Tr(K:QF)(F H:Hp):Bool->V->T->(Addr->Prop)->Prop where
 |d {st:Bool}{v:V}{x:D}{S:gB}:Rep K F v x->(∀b,¬ S b)->Tr K F H st v (.d x) S
 |lst {st:Bool}{a:Addr}{vs:List V}{ts:List T}{S S':gB}:H a=some (.lst vs)->F a=none->Trs K F H st vs ts S'->¬ S' a->(∀b,S b↔b=a∨S' b)->Tr K F H st (.ref a) (.lst ts) S
 |tup {st:Bool}{a:Addr}{vs:List V}{ts:List T}{S S':gB}:H a=some (.tup vs)->F a=none->Trs K F H st vs ts S'->¬ S' a->(∀b,S b↔b=a∨S' b)->Tr K F H st (.ref a) (.tup ts) S
 |lstF {a:Addr}{vs:List V}{ds:List D}{S:gB}:HC K F a vs->Reps K F vs ds->(∀b,¬ S b)->Tr K F H false (.ref a) (.lst (ds.map T.d)) S
 |dct {st b:Bool}{a:Addr}{o:HO}{ks:List D}{vs:List V}{ts:List T}{S S':gB}:H a=some o->OI K F b o ks vs->F a=none->Trs K F H st vs ts S'->¬ S' a->(∀b,S b↔b=a∨S' b)->Tr K F H st (.ref a) (.dct b ks ts) S
inductive Trs(K:QF)(F H:Hp):Bool->List V->List T->(Addr->Prop)->Prop where
 |nil {st:Bool}{S:gB}:(∀b,¬ S b)->Trs K F H st [] [] S
 |cons {st:Bool}{v:V}{t:T}{vs:List V}{ts:List T}{S S1 S2:gB}:Tr K F H st v t S1->Trs K F H st vs ts S2->(∀b,S1 b->¬ S2 b)->(∀b,S b↔S1 b∨S2 b)->Trs K F H st (v::vs) (t::ts) S
end
section
variable{K:QF}{F H F' H':Hp}
section
variable{R:Bool->List V->List T->(Addr->Prop)->Prop}{st b:Bool}{v:V}{t:T}{S:gB}{vs:List V}{ts:List T}{ds ks:List D}{i:Int}{kvs:List (D×D)}
theorem Tr.both{P:Bool->V->T->(Addr->Prop)->Prop}
    (d:∀{st:Bool}{v:V}{x:D}{S:gB},Rep K F v x->(∀b,¬ S b)->P st v (.d x) S)
    (lst:∀{st:Bool}{a:Addr}{vs:List V}{ts:List T}{S S':gB},H a=some (.lst vs)->F a=none->Trs K F H st vs ts S'->¬ S' a->(∀b,S b↔b=a∨S' b)->R st vs ts S'->P st (.ref a) (.lst ts) S)
    (tup:∀{st:Bool}{a:Addr}{vs:List V}{ts:List T}{S S':gB},H a=some (.tup vs)->F a=none->Trs K F H st vs ts S'->¬ S' a->(∀b,S b↔b=a∨S' b)->R st vs ts S'->P st (.ref a) (.tup ts) S)
    (lstF:∀{a:Addr}{vs:List V}{ds:List D}{S:gB},HC K F a vs->Reps K F vs ds->(∀b,¬ S b)->P false (.ref a) (.lst (ds.map T.d)) S)
    (dct:∀{st b:Bool}{a:Addr}{o:HO}{ks:List D}{vs:List V}{ts:List T}{S S':gB},H a=some o->OI K F b o ks vs->F a=none->Trs K F H st vs ts S'->¬ S' a->(∀b,S b↔b=a∨S' b)->R st vs ts S'->P st (.ref a) (.dct b ks ts) S)
    (nil:∀{st:Bool}{S:gB},(∀b,¬ S b)->R st [] [] S)
    (cons:∀{st:Bool}{v:V}{t:T}{vs:List V}{ts:List T}{S S1 S2:gB},Tr K F H st v t S1->Trs K F H st vs ts S2->(∀b,S1 b->¬ S2 b)->(∀b,S b↔S1 b∨S2 b)->P st v t S1->R st vs ts S2->R st (v::vs) (t::ts) S) :
    (∀{st:Bool}{v:V}{t:T}{S:gB},Tr K F H st v t S->P st v t S)/\∀{st:Bool}{vs:List V}{ts:List T}{S:gB},Trs K F H st vs ts S->R st vs ts S :=
  ⟨fun h=>Tr.rec (motive_1:=fun st v t S _=>P st v t S) (motive_2:=fun st vs ts S _=>R st vs ts S) @d @lst @tup @lstF @dct @nil @cons h,
   fun h=>Trs.rec (motive_1:=fun st v t S _=>P st v t S) (motive_2:=fun st vs ts S _=>R st vs ts S) @d @lst @tup @lstF @dct @nil @cons h⟩
theorem Tr.mono2(e:Same F F'):(∀{st:Bool}{v:V}{t:T}{S:gB},Tr K F H st v t S->(∀b,S b->H' b=H b/\F' b=none)->Tr K F' H' st v t S)/\∀{st:Bool}{vs:List V}{ts:List T}{S:gB},Trs K F H st vs ts S->(∀b,S b->H' b=H b/\F' b=none)->Trs K F' H' st vs ts S :=
 Tr.both (P:=fun st v t S=>(∀b,S b->H' b=H b/\F' b=none)->Tr K F' H' st v t S) (R:=fun st v t S=>(∀b,S b->H' b=H b/\F' b=none)->Trs K F' H' st v t S)
  (fun r n _=>.d (r.mono e) n)
  (fun {_ a _ _ _ _} h _ _ n q ih k=>.lst ((k a ((q a).mpr (.inl rfl))).1.trans h) (k a ((q a).mpr (.inl rfl))).2 (ih fun b hb=>k b ((q b).mpr (.inr hb))) n q)
  (fun {_ a _ _ _ _} h _ _ n q ih k=>.tup ((k a ((q a).mpr (.inl rfl))).1.trans h) (k a ((q a).mpr (.inl rfl))).2 (ih fun b hb=>k b ((q b).mpr (.inr hb))) n q)
  (fun h r n _=>.lstF (e.seq h) (r.mono e) n)
  (fun {_ _ a _ _ _ _ _ _} h dk _ _ n q ih k=>.dct ((k a ((q a).mpr (.inl rfl))).1.trans h) (dk.mono e) (k a ((q a).mpr (.inl rfl))).2 (ih fun b hb=>k b ((q b).mpr (.inr hb))) n q)
  (fun n _=>.nil n)
  (fun _ _ n q i1 i2 k=>.cons (i1 fun b hb=>k b ((q b).mpr (.inl hb))) (i2 fun b hb=>k b ((q b).mpr (.inr hb))) n q)
theorem Tr.mono(e:Same F F')(h:Tr K F H st v t S)(k:∀b,S b->H' b=H b/\F' b=none):Tr K F' H' st v t S:=(Tr.mono2 e).1 h k
theorem Trs.mono(e:Same F F')(h:Trs K F H st vs ts S)(k:∀b,S b->H' b=H b/\F' b=none):Trs K F' H' st vs ts S:=(Tr.mono2 e).2 h k
theorem Tr.weak2:(∀{st:Bool}{v:V}{t:T}{S:gB},Tr K F H st v t S->Tr K F H false v t S)/\∀{st:Bool}{vs:List V}{ts:List T}{S:gB},Trs K F H st vs ts S->Trs K F H false vs ts S :=
 Tr.both (P:=fun _ v t S=>Tr K F H false v t S) (R:=fun _ v t S=>Trs K F H false v t S) .d (fun h f _ n q ih=>.lst h f ih n q) (fun h f _ n q ih=>.tup h f ih n q) .lstF (fun h dk f _ n q ih=>.dct h dk f ih n q) .nil fun _ _ n q i1 i2=>.cons i1 i2 n q
theorem Tr.weak(h:Tr K F H st v t S):Tr K F H false v t S:=Tr.weak2.1 h
theorem Trs.weak(h:Trs K F H st vs ts S):Trs K F H false vs ts S:=Tr.weak2.2 h
theorem jZ{C:gB}{a:Addr}{S':gB}(q:∀b,S b↔b=a∨S' b)(h:C a)(k:∀b,S' b->C b)(b:Addr)(hb:S b):C b:=((q b).mp hb).elim (fun e=>e▸h) (k b)
theorem Tr.dom2:(∀{st:Bool}{v:V}{t:T}{S:gB},Tr K F H st v t S->∀b,S b->H b≠none/\F b=none)/\∀{st:Bool}{vs:List V}{ts:List T}{S:gB},Trs K F H st vs ts S->∀b,S b->H b≠none/\F b=none :=
 have nn:∀{a:Addr}{o:HO},H a=some o->H a≠none:=fun h z=>by rw[h]at z;cases z
 Tr.both (P:=fun _ _ _ S=>∀b,S b->H b≠none/\F b=none) (R:=fun _ _ _ S=>∀b,S b->H b≠none/\F b=none)
  (fun _ n b hb=>absurd hb (n b)) (fun h f _ _ q ih=>jZ q ⟨nn h,f⟩ ih) (fun h f _ _ q ih=>jZ q ⟨nn h,f⟩ ih) (fun _ _ n b hb=>absurd hb (n b)) (fun h _ f _ _ q ih=>jZ q ⟨nn h,f⟩ ih)
  (fun n b hb=>absurd hb (n b)) fun _ _ _ q i1 i2 b hb=>((q b).mp hb).elim (i1 b) (i2 b)
theorem Tr.dom(h:Tr K F H st v t S):∀b,S b->H b≠none/\F b=none:=Tr.dom2.1 h
theorem Trs.dom(h:Trs K F H st vs ts S):∀b,S b->H b≠none/\F b=none:=Tr.dom2.2 h
theorem Tr.kept2(e:Same F F'):(∀{st:Bool}{v:V}{t:T}{S:gB},Tr K F H st v t S->(∀b u,S b->H b=some u->F' b=some u)->Rep K F' v t.er)/\∀{st:Bool}{vs:List V}{ts:List T}{S:gB},Trs K F H st vs ts S->(∀b u,S b->H b=some u->F' b=some u)->Reps K F' vs (ersT ts) :=
 Tr.both (P:=fun _ v t S=>(∀b u,S b->H b=some u->F' b=some u)->Rep K F' v t.er) (R:=fun _ v t S=>(∀b u,S b->H b=some u->F' b=some u)->Reps K F' v (ersT t))
  (fun r _ _=>r.mono e)
  (fun {_ a _ _ _ _} h _ _ _ q ih k=>by unfold T.er;exact .lst (HC.of (k a _ ((q a).mpr (.inl rfl)) h)) (ih fun b u hb=>k b u ((q b).mpr (.inr hb))))
  (fun {_ a _ _ _ _} h _ _ _ q ih k=>by unfold T.er;exact .tup (TC.of (k a _ ((q a).mpr (.inl rfl)) h)) (ih fun b u hb=>k b u ((q b).mpr (.inr hb))))
  (fun h r _ _=>by unfold T.er;rw[KA];exact .lst (e.seq h) (r.mono e))
  (fun {_ _ a _ _ _ _ _ _} h dk _ _ _ q ih k=>by unfold T.er;exact .dct (k a _ ((q a).mpr (.inl rfl)) h) (dk.mono e) (ih fun b u hb=>k b u ((q b).mpr (.inr hb))))
  (fun _ _=>.nil)
  (fun _ _ _ q i1 i2 k=>.cons (i1 fun b u hb=>k b u ((q b).mpr (.inl hb))) (i2 fun b u hb=>k b u ((q b).mpr (.inr hb))))
theorem Tr.kept(e:Same F F')(h:Tr K F H st v t S)(k:∀b u,S b->H b=some u->F' b=some u):Rep K F' v t.er:=(Tr.kept2 e).1 h k
theorem Tr.rep(f:Same F H)(h:Tr K F H st v t S):Rep K H v t.er:=h.kept f fun _ _ _ e=>e
theorem Trs.ind(nil:∀{st:Bool}{S:gB},(∀b,¬ S b)->R st [] [] S)
  (cons:∀{st:Bool}{v:V}{t:T}{vs:List V}{ts:List T}{S S1 S2:gB},Tr K F H st v t S1->Trs K F H st vs ts S2->(∀b,S1 b->¬ S2 b)->(∀b,S b↔S1 b∨S2 b)->R st vs ts S2->R st (v::vs) (t::ts) S) (h:Trs K F H st vs ts S):R st vs ts S :=
 (Tr.both (P:=fun _ _ _ _=>True) (fun _ _=>trivial) (fun _ _ _ _ _ _=>trivial) (fun _ _ _ _ _ _=>trivial) (fun _ _ _=>trivial) (fun _ _ _ _ _ _ _=>trivial) nil fun h t n q _ r=>cons h t n q r).2 h
theorem Trs.length(h:Trs K F H st vs ts S):vs.length=ts.length:=Trs.ind (R:=fun _ vs ts _=>vs.length=ts.length) (fun _=>rfl) (fun _ _ _ _ e=>congrArg Nat.succ e) h
theorem Trs.of_reps(h:Reps K F vs ds):Trs K F H st vs (ds.map T.d) (fun _=>False) :=
 Reps.ind (R:=fun vs ds=>Trs K F H st vs (ds.map T.d) fun _=>False) (.nil fun _ z=>z) (fun h t=>.cons (.d h fun _ z=>z) t (fun _ z=>z.elim) fun b=>by simp) h
theorem Trs.un(h:Trs K F H st vs ts S)(e:tE ts=some ds):Reps K F vs ds/\∀b,¬ S b:=by
 have ed:=RJ e;clear e;revert ds;refine Trs.ind (R:=fun _ vs ts S=>∀{ds:List D},ts=ds.map T.d->Reps K F vs ds/\∀b,¬ S b) (fun n ds e=>?_) (fun h _ _ q ih ds e=>?_) h;cases ds with
 |nil=>exact⟨.nil,n⟩
 |cons d r=>cases e
 cases ds with
 |nil=>cases e
 |cons d r =>
  injection e with e1 e2;obtain⟨h1,h2⟩:=ih e2;subst e1;cases h with
  |d rep m=>exact⟨.cons rep h1,fun b hb=>((q b).mp hb).elim (m b) (h2 b)⟩
theorem Trs.get{i:Nat}(h:Trs K F H st vs ts S)(e:ts[i]?=some t):∃v S1,vs[i]?=some v/\Tr K F H st v t S1/\∀b,S1 b->S b:=by
 revert i;refine Trs.ind (R:=fun st vs ts S=>∀{i:Nat},ts[i]?=some t->∃v S1,vs[i]?=some v/\Tr K F H st v t S1/\∀b,S1 b->S b) (fun n i e=>by cases e) (fun h _ n q ih i e=>?_) h;cases i with
 |zero=>cases e;exact⟨_,_,rfl,h,fun b hb=>(q b).mpr (.inl hb)⟩
 |succ i=>obtain⟨v,S1,h1,h2,h3⟩:=ih (i:=i) e;exact⟨v,S1,h1,h2,fun b hb=>(q b).mpr (.inr (h3 b hb))⟩
theorem Trs.at(r:Trs K F H st vs ts S)(h:kF ts i=some t):∃v S1,kF vs i=some v/\Tr K F H st v t S1/\∀b,S1 b->S b:=by
 unfold kF at h ⊢;rw[r.length];cases e:DQ ts.length i with
 |none=>rw[e]at h;cases h
 |some j=>rw[e]at h;exact r.get h
theorem Trs.append{ws:List V}{us:List T}{S1 S2:gB}(h:Trs K F H st vs ts S1)(r:Trs K F H st ws us S2)(k:∀b,S1 b->¬ S2 b):Trs K F H st (vs++ws) (ts++us) (fun b=>S1 b∨S2 b) :=
 Trs.ind (R:=fun st vs ts S1=>Trs K F H st ws us S2->(∀b,S1 b->¬ S2 b)->Trs K F H st (vs++ws) (ts++us) fun b=>S1 b∨S2 b)
  (fun {_ S} n r _=>by have e:(fun b=>S b∨S2 b)=S2:=funext fun b=>propext ⟨fun z=>z.resolve_left (n b),.inr⟩;rw[e];exact r)
  (fun h _ n q ih r k=>.cons h (ih r fun b hb=>k b ((q b).mpr (.inr hb))) (fun b hb z=>z.elim (n b hb) (k b ((q b).mpr (.inl hb)))) fun b=>by rw[q b,or_assoc]) h r k
theorem Trs.one(h:Tr K F H st v t S):Trs K F H st [v] [t] S:=.cons h (.nil (S:=fun _=>False) fun _ z=>z) (fun _ _ z=>z) fun b=>by simp
theorem CG(e:(T.d (.dict kvs)).vw=.ls ts):False:=by
 have e:JB kvs=.ls ts:=e;unfold JB at e;cases ek:IC kvs with
 |none=>rw[ek]at e;cases e
 |some b=>rw[ek]at e;cases e
theorem HJ(e:(T.d (.dict kvs)).vw=.tp ts):False:=by
 have e:JB kvs=.tp ts:=e;unfold JB at e;cases ek:IC kvs with
 |none=>rw[ek]at e;cases e
 |some b=>rw[ek]at e;cases e
theorem Tr.ls(f:Same F H)(h:Tr K F H st v t S)(e:t.vw=.ls ts):∃a vs S',v=.ref a/\HC K H a vs/\Trs K F H false vs ts S'/\∀b,S' b->S b:=by
 cases h with
 |d r n =>
  cases r with
  |lst q r=>injection e with e;subst e;exact⟨_,_,_,rfl,f.seq q,Trs.of_reps r,fun b hb=>hb.elim⟩
  |dct _ _ _=>exact(CG e).elim
  |_=>cases e
 |lst h _ r n q=>injection e with e;subst e;exact⟨_,_,_,rfl,HC.of h,r.weak,fun b hb=>(q b).mpr (.inr hb)⟩
 |tup=>cases e
 |dct=>cases e
 |lstF h r n=>injection e with e;subst e;exact⟨_,_,_,rfl,f.seq h,Trs.of_reps r,fun b hb=>hb.elim⟩
theorem Tr.tp(f:Same F H)(h:Tr K F H st v t S)(e:t.vw=.tp ts):∃a vs S',v=.ref a/\TC K H a vs/\Trs K F H false vs ts S'/\∀b,S' b->S b:=by
 cases h with
 |d r n =>
  cases r with
  |tup q r=>injection e with e;subst e;exact⟨_,_,_,rfl,f.tupl q,Trs.of_reps r,fun b hb=>hb.elim⟩
  |dct _ _ _=>exact(HJ e).elim
  |_=>cases e
 |tup h _ r n q=>injection e with e;subst e;exact⟨_,_,_,rfl,TC.of h,r.weak,fun b hb=>(q b).mpr (.inr hb)⟩
 |lst=>cases e
 |lstF=>cases e
 |dct=>cases e
theorem sT{b':Bool}{o:HO}(h:OI K H b' o ks vs)(e:IC (ks.zip ds)=some b):b'=b:=by
 cases ks with
 |nil=>cases e
 |cons k ks =>
  cases ds with
  |nil=>cases e
  |cons d ds =>
   cases b' with
   |true =>
    obtain⟨ep,kvs,_,h2,_⟩:=h;cases kvs with
    |nil=>cases h2
    |cons p r=>rw[QN]at h2;injection h2 with h2 _;subst h2;injection e
   |false =>
    rcases h with⟨kvs,_,_,h2,_⟩| ⟨_,_,h2,_⟩
    rotate_left
    cases h2;cases kvs with
    |nil=>cases h2
    |cons p r =>
     rw[QN]at h2;injection h2 with h2 _;subst h2;obtain⟨k,v⟩:=p;cases k with
     |inl i=>cases e
     |inr z=>injection e
theorem Tr.dc(f:Same F H)(h:Tr K F H st v t S)(e:t.vw=.dc b ks ts):∃a o vs S',v=.ref a/\H a=some o/\OI K F b o ks vs/\Trs K F H false vs ts S'/\(∀b,S' b->S b)/\∀F' H',Same F F'->Same F' H'->(∀b,S b->H' b=H b)->H' a=some o:=by
 cases h with
 |d r n =>
  cases r with
  |@dct b' a o ks' vs' ds h q r =>
   have hl:ks'.length=ds.length:=by rw[q.len,Reps.length r]
   have e1:(ks'.zip ds).map (fun x=>x.1)=ks':=W4 (Wr hl);have e2:(ks'.zip ds).map (fun x=>x.2)=ds:=W5 (Wr hl.symm);have e:JB (ks'.zip ds)=.dc b ks ts:=e;unfold JB at e;cases ek:IC (ks'.zip ds) with
   |none=>rw[ek]at e;cases e
   |some b2 =>
    rw[ek]at e;injection e with z1 z2 z3;subst z1;rw[e1]at z2;subst z2;have e3:ts=ds.map T.d:=by have e4:=congrArg (List.map T.d) e2;rw[QY]at e4;rw[<- z3,<- e4];rfl
    subst e3;cases sT q ek;exact⟨_,_,_,_,rfl,f _ _ h,q,Trs.of_reps r,fun b hb=>hb.elim,fun F' H' e1 e2 _=>e2 _ _ (e1 _ _ h)⟩
  |_=>cases e
 |dct h q _ r n s=>injection e with z1 z2 z3;subst z1 z2 z3;exact⟨_,_,_,_,rfl,h,q,r.weak,fun b hb=>(s b).mpr (.inr hb),fun F' H' _ _ k=>(k _ ((s _).mpr (.inl rfl))).trans h⟩
 |lst=>cases e
 |tup=>cases e
 |lstF=>cases e
theorem Tr.sc{x:D}(h:Tr K F H st v t S)(e:t.vw=.sc x):t=.d x/\Rep K F v x:=by
 cases h with
 |@d _ _ y _ r n =>
  cases y with
  |list ds=>cases e
  |tuple ds=>cases e
  |dict ds =>
   have e:JB ds=.sc x:=e;unfold JB at e;cases ek:IC ds with
   |none=>rw[ek]at e;injection e with e;subst e;exact⟨rfl,r⟩
   |some b=>rw[ek]at e;cases e
  |_=>injection e with e;subst e;exact⟨rfl,r⟩
 |tup=>cases e
 |lst=>cases e
 |lstF=>cases e
 |dct=>cases e
theorem Tr.int(h:Tr K F H st v t S)(e:t.vw=.sc (.int i)):v=.int i:=by obtain⟨_,r⟩:=h.sc e;cases r;rfl
theorem Tr.str{i:Str}(h:Tr K F H st v t S)(e:t.vw=.sc (.str i)):v=.str i:=by obtain⟨_,r⟩:=h.sc e;cases r;rfl
end
end
def Sl.t:Sl->T
 | .own t=>t
 | .nv t=>t
def Sl.st:Sl->Bool
 | .own _=>true
 | .nv _=>false
noncomputable abbrev Ft:=Nat->Addr->Prop
structure Rl(K:QF)(F H:Hp)(S:Ft)(ρ:kA)(σ:St):Prop where
 fh:Same F H
 len:ρ.length=σ.length
 sl:∀(i:Nat) s,ρ[i]?=some (some s)->∃v,σ[i]?=some (some v)/\Tr K F H s.st v s.t (S i)
 dj:∀(i j:Nat) t s,i≠j->ρ[i]?=some (some (.own t))->ρ[j]?=some (some s)->∀b,S i b->¬ S j b
def U(ρ:kA)(S:Ft)(b:Addr):Prop:=∃(i:Nat) (t:T),ρ[i]?=some (some (.own t))/\S i b
structure Stp(F H:Hp)(S:Ft)(ρ:kA)(F' H':Hp)(S':Ft)(ρ':kA):Prop where
 ff:Same F F'
 hh:∀b u,H b=some u->¬ U ρ S b->H' b=some u
 dm:∀b,H' b=none->H b=none
 fn:∀b,F b=none->F' b≠none->U ρ S b∨H b=none
 uu:∀b,U ρ' S' b->U ρ S b∨H b=none
 bo:∀(j:Nat) t,ρ'[j]?=some (some (.nv t))->t.isD=false->ρ[j]?=some (some (.nv t))/\S' j=S j
structure Ste(F H:Hp)(S:Ft)(ρ:kA)(F' H':Hp)(S':Ft)(ρ':kA):Prop extends Stp F H S ρ F' H' S' ρ' where
 ow:∀(j:Nat) t,ρ'[j]?=some (some (.own t))->∃t0,ρ[j]?=some (some (.own t0))
section
variable{K:QF}{F H F1 H1 F2 H2:Hp}{S S1 S2:Ft}{ρ ρ1 ρ2:kA}{σ:St}
section
variable{v:V}{t:T}{Z W:gB}{i:Nat}{s:Sl}{b p:Addr}{vs:List Nat}{H0:Hp}{S0:Ft}{ρ0:kA}{n:Bool}
theorem Stp.refl:Stp F H S ρ F H S ρ:=⟨.refl _,fun _ _ h _=>h,fun _ h=>h,fun b h z=>absurd h z,fun _ h=>.inl h,fun _ _ h _=>⟨h,rfl⟩⟩
theorem Ste.refl:Ste F H S ρ F H S ρ:=⟨Stp.refl,fun _ t h=>⟨t,h⟩⟩
theorem Stp.trans(a:Stp F H S ρ F1 H1 S1 ρ1)(b:Stp F1 H1 S1 ρ1 F2 H2 S2 ρ2):Stp F H S ρ F2 H2 S2 ρ2 where
 ff:=a.ff.trans b.ff
 hh:=fun x u h n=>b.hh x u (a.hh x u h n) fun z=>by rcases a.uu x z with q|q;exact n q;rw[q]at h;cases h
 dm:=fun x h=>a.dm x (b.dm x h)
 fn:=fun x h z=>by
  by_cases q:F1 x=none;rcases b.fn x q z with w|w
  ·exact a.uu x w
  exact .inr (a.dm x w);exact a.fn x h q
 uu:=fun x h=>by rcases b.uu x h with w|w;exact a.uu x w;exact .inr (a.dm x w)
 bo:=fun j t h n=>by obtain⟨h1,h2⟩:=b.bo j t h n;obtain⟨h3,h4⟩:=a.bo j t h1 n;exact⟨h3,h2.trans h4⟩
theorem Ste.trans(a:Ste F H S ρ F1 H1 S1 ρ1)(b:Ste F1 H1 S1 ρ1 F2 H2 S2 ρ2):Ste F H S ρ F2 H2 S2 ρ2:=⟨a.toStp.trans b.toStp,fun j t h=>by obtain⟨t1,h1⟩:=b.ow j t h;exact a.ow j t1 h1⟩
theorem Stp.keep(s:Stp F H S ρ F1 H1 S1 ρ1){st:Bool}(h:Tr K F H st v t Z)(n:∀b,Z b->¬ U ρ S b):Tr K F1 H1 st v t Z :=
 h.mono s.ff fun b hb=>by
  obtain⟨h1,h2⟩:=h.dom b hb;refine⟨?_,?_⟩;cases e:H b with
  |none=>exact absurd e h1
  |some u=>exact s.hh b u e (n b hb)
  by_cases q:F1 b=none
  ·exact q
  rcases s.fn b h2 q with z|z
  ·exact absurd z (n b hb)
  exact absurd z h1
theorem Rl.dom(I:Rl K F H S ρ σ)(h:ρ[i]?=some (some s))(hb:S i b):H b≠none/\F b=none:=by obtain⟨v,_,r⟩:=I.sl i s h;exact r.dom b hb
theorem Rl.isD(I:Rl K F H S ρ σ)(h:ρ[i]?=some (some s))(hd:s.t.isD=true):¬ S i b:=by
 obtain⟨v,_,r⟩:=I.sl i s h;generalize s.t=t at r hd;generalize s.st=st at r;cases r with
 |d r n=>exact n b
 |_=>cases hd
structure Held(F H:Hp)(S:Ft)(ρ:kA)(Z:gB):Prop where
 dom:∀b,Z b->H b≠none/\F b=none
 nw:∀(i:Nat) s,ρ[i]?=some (some s)->∀b,Z b->¬ S i b
theorem Held.nu(h:Held F H S ρ Z):∀b,Z b->¬ U ρ S b:=fun b hb ⟨i,t,h1,h2⟩=>h.nw i _ h1 b hb h2
theorem Held.step(h:Held F H S ρ Z)(s:Stp F H S ρ F1 H1 S1 ρ1)(I1:Rl K F1 H1 S1 ρ1 σ):Held F1 H1 S1 ρ1 Z where
 dom:=fun b hb=>by
  obtain⟨h1,h2⟩:=h.dom b hb;refine⟨fun z=>h1 (s.dm b z),?_⟩;by_cases q:F1 b=none;exact q;rcases s.fn b h2 q with z|z
  ·exact absurd z (h.nu b hb)
  exact absurd z h1
 nw:=fun i sl e b hb z=>by
  cases sl with
  |own t=>rcases s.uu b ⟨i,t,e,z⟩ with q|q;exact h.nu b hb q;exact(h.dom b hb).1 q
  |nv t =>
   cases hd:t.isD with
   |true=>exact I1.isD e hd z
   |false=>obtain⟨e1,e2⟩:=s.bo i t e hd;rw[e2]at z;exact h.nw i _ e1 b hb z
theorem Held.none:Held F H S ρ fun _=>False:=⟨fun _ z=>z.elim,fun _ _ _ _ z=>z.elim⟩
def DH(F H:Hp)(W:gB):Hp:=open Classical in fun b=>if W b then H b else F b
theorem CH(h:W b):DH F H W b=H b:=if_pos h
theorem xC(h:¬ W b):DH F H W b=F b:=if_neg h
theorem gG(h:∀b,W b->F b=none):Same F (DH F H W):=fun b u e=>by rw[xC fun z=>by rw[h b z]at e;cases e];exact e
theorem Z4(f:Same F H):Same (DH F H W) H:=fun b u e=>by by_cases hb:W b;rw[CH hb]at e;exact e;rw[xC hb]at e;exact f b u e
theorem Rl.frz(I:Rl K F H S ρ σ)(hw:Held F H S ρ W):Rl K (DH F H W) H S ρ σ where
 fh:=Z4 I.fh
 len:=I.len
 sl:=fun i s e=>by obtain⟨v,h1,h2⟩:=I.sl i s e;refine⟨v,h1,h2.mono (gG fun b hb=>(hw.dom b hb).2) fun b hb=>⟨rfl,?_⟩⟩;rw[xC fun z=>hw.nw i s e b z hb];exact(h2.dom b hb).2
 dj:=I.dj
theorem Stp.frz(s:Stp F H S ρ F1 H1 S1 ρ1)(hw:∀b,W b->F1 b=none)(fr:∀b,W b->H b=none∨U ρ S b):Stp F H S ρ (DH F1 H1 W) H1 S1 ρ1 :=
 ⟨s.ff.trans (gG hw),s.hh,s.dm,fun b h z=>by by_cases q:W b;exact(fr b q).symm;rw[xC q]at z;exact s.fn b h z,s.uu,s.bo⟩
theorem Ste.frz(s:Ste F H S ρ F1 H1 S1 ρ1)(hw:∀b,W b->F1 b=none)(fr:∀b,W b->H b=none∨U ρ S b):Ste F H S ρ (DH F1 H1 W) H1 S1 ρ1:=⟨s.toStp.frz hw fr,s.ow⟩
theorem Stp.new(s:Stp F H S ρ F1 H1 S1 ρ1){p:Addr}(h:H1 p=none)(o:HO):Stp F H S ρ F1 (UA H1 p o) S1 ρ1 :=
 ⟨s.ff,fun b u e n=>XB h b u (s.hh b u e n),fun b e=>by by_cases hb:b=p;rw[hb,ZA]at e;cases e;rw[vA hb]at e;exact s.dm b e,s.fn,s.uu,s.bo⟩
theorem Ste.new(s:Ste F H S ρ F1 H1 S1 ρ1){p:Addr}(h:H1 p=none)(o:HO):Ste F H S ρ F1 (UA H1 p o) S1 ρ1:=⟨s.toStp.new h o,s.ow⟩
theorem Rl.same(I:Rl K F H S ρ σ)(h:Same H H1):Rl K F H1 S ρ σ where
 fh:=I.fh.trans h
 len:=I.len
 sl:=fun i s e=>by
  obtain⟨v,h1,h2⟩:=I.sl i s e;refine⟨v,h1,h2.mono (.refl _) fun b hb=>⟨?_,(h2.dom b hb).2⟩⟩;cases e:H b with
  |none=>exact absurd e (h2.dom b hb).1
  |some u=>exact h b u e
 dj:=I.dj
theorem Rl.new(I:Rl K F H S ρ σ){p:Addr}(h:H p=none)(o:HO):Rl K F (UA H p o) S ρ σ:=I.same (XB h)
theorem Stp.newT(s:Stp F H S ρ F1 H1 S1 ρ1)(h:H1 p=none)(hf:F1 p=none)(o:HO):Stp F H S ρ (UA F1 p o) (UA H1 p o) S1 ρ1 :=
 let s':=s.new h o
 ⟨s.ff.trans (XB hf),s'.hh,s'.dm,fun b e z=>by by_cases hb:b=p;rw[hb];exact .inr (s.dm p h);rw[vA hb]at z;exact s.fn b e z,s.uu,s.bo⟩
theorem Ste.newT(s:Ste F H S ρ F1 H1 S1 ρ1)(h:H1 p=none)(hf:F1 p=none)(o:HO):Ste F H S ρ (UA F1 p o) (UA H1 p o) S1 ρ1:=⟨s.toStp.newT h hf o,s.ow⟩
theorem Rl.newT(I:Rl K F H S ρ σ)(h:H p=none)(o:HO):Rl K (UA F p o) (UA H p o) S ρ σ where
 fh:=fun b u e=>by by_cases hb:b=p;rw[hb,ZA]at e ⊢;exact e;rw[vA hb]at e ⊢;exact I.fh b u e
 len:=I.len
 sl:=fun i s e=>by obtain⟨v,h1,h2⟩:=I.sl i s e;refine⟨v,h1,h2.mono (XB (I.fh.free h)) fun b hb=>?_⟩;have hn:b≠p:=fun z=>(h2.dom b hb).1 (by rw[z];exact h);rw[vA hn,vA hn];exact⟨rfl,(h2.dom b hb).2⟩
 dj:=I.dj
theorem cV(ρ:kA)(i:Nat):(lockA ρ)[i]?=ρ[i]?.map YG:=by unfold lockA;rw[Qc]
theorem pB{ρ:kA}(h:(lockA ρ)[i]?=some (some s)):∃s0,ρ[i]?=some (some s0)/\s=.nv s0.t:=by
 rw[cV]at h;cases e:ρ[i]? with
 |none=>rw[e]at h;cases h
 |some o =>
  rw[e]at h;cases o with
  |none=>cases h
  |some s0 =>
   cases s0 with
   |own t=>injection h with h;injection h with h;subst h;exact⟨_,rfl,rfl⟩
   |nv t=>injection h with h;injection h with h;subst h;exact⟨_,rfl,rfl⟩
theorem vD(b:Addr):¬ U (lockA ρ) S b:=fun⟨i,t,h,_⟩=>by obtain⟨s0,_,e⟩:=pB h;cases e
theorem Rl.lockA(I:Rl K F H S ρ σ):Rl K F H S (lockA ρ) σ where
 fh:=I.fh
 len:=by unfold L3.lockA;rw[QD];exact I.len
 sl:=fun i s e=>by obtain⟨s0,h,rfl⟩:=pB e;obtain⟨v,h1,h2⟩:=I.sl i s0 h;exact⟨v,h1,h2.weak⟩
 dj:=fun i j t s _ h=>by obtain⟨s0,_,e⟩:=pB h;cases e
theorem Stp.unlockA(s:Stp F H S (L3.lockA ρ) F1 H1 S1 ρ1):Stp F H S ρ F1 H1 S ρ :=
 ⟨s.ff,fun b u e _=>s.hh b u e (vD b),s.dm,fun b h z=>(s.fn b h z).elim (fun q=>absurd q (vD b)) .inr,fun _ h=>.inl h,fun _ _ h _=>⟨h,rfl⟩⟩
theorem Rl.unlockA(I:Rl K F H S ρ σ)(s:Stp F H S (L3.lockA ρ) F1 H1 S1 ρ1)(f:Same F1 H1):Rl K F1 H1 S ρ σ where
 fh:=f
 len:=I.len
 sl:=fun i sl e=>by obtain⟨v,h1,h2⟩:=I.sl i sl e;exact⟨v,h1,s.keep h2 fun b _=>vD b⟩
 dj:=I.dj
structure VR(K:QF)(vs:List Nat)(H0:Hp)(S0:Ft)(ρ0:kA)(F H:Hp)(S:Ft)(ρ:kA)(v:V)(t:T)(n:Bool)(Z:gB):Prop where
 tr:Tr K F H n v t Z
 fr:n=true->∀b,Z b->H0 b=none∨U ρ0 S0 b
 tm:n=false->∀b,Z b->∃(i:Nat) (s:Sl),i∈vs/\ρ[i]?=some (some s)/\S i b
 nw:n=true->∀(i:Nat) s,ρ[i]?=some (some s)->∀b,Z b->¬ S i b
theorem VR.d{vs:List Nat}{H0:Hp}{S0:Ft}{ρ0:kA}{v:V}{x:D}(n:Bool)(r:Rep K F v x):VR K vs H0 S0 ρ0 F H S ρ v (.d x) n (fun _=>False) :=
 ⟨.d r fun _ z=>z,fun _ _ z=>z.elim,fun _ _ z=>z.elim,fun _ _ _ _ _ z=>z.elim⟩
theorem VR.held(h:VR K vs H0 S0 ρ0 F H S ρ v t true Z):Held F H S ρ Z:=⟨fun b hb=>h.tr.dom b hb,h.nw rfl⟩
theorem VR.vars{ws:List Nat}(h:VR K vs H0 S0 ρ0 F H S ρ v t n Z)(k:∀i∈vs,i∈ws):VR K ws H0 S0 ρ0 F H S ρ v t n Z :=
 ⟨h.tr,h.fr,fun e b hb=>let⟨i,s,h1,h2⟩:=h.tm e b hb;⟨i,s,k i h1,h2⟩,h.nw⟩
theorem VR.from(s:Stp F H S ρ F1 H1 S1 ρ1)(h:VR K vs H1 S1 ρ1 F2 H2 S2 ρ2 v t n Z):VR K vs H S ρ F2 H2 S2 ρ2 v t n Z :=
 ⟨h.tr,fun e b hb=>by rcases h.fr e b hb with q|q;exact .inl (s.dm b q);exact(s.uu b q).symm,h.tm,h.nw⟩
theorem VR.frz(s:Ste F H S ρ F1 H1 S1 ρ1)(I:Rl K F1 H1 S1 ρ1 σ)(h:VR K vs H S ρ F1 H1 S1 ρ1 v t n Z) :
  ∃F2 Z2,Ste F H S ρ F2 H1 S1 ρ1/\Rl K F2 H1 S1 ρ1 σ/\Tr K F2 H1 false v (dA t n) Z2/\(kH t n=true->Rep K F2 v t.er)/\(∀b,Z2 b->∃(i:Nat) (s:Sl),i∈vs/\ρ1[i]?=some (some s)/\S1 i b) /\
   ∀st v' t' Z',Tr K F1 H1 st v' t' Z'->(∀b,Z' b->∃(i:Nat) (s:Sl),ρ1[i]?=some (some s)/\S1 i b)->Tr K F2 H1 st v' t' Z':=by
 cases n with
 |true =>
  have hw:=h.held;have ff:=gG (H:=H1) fun b hb=>(hw.dom b hb).2;have kp:=h.tr.kept ff fun b u hb e=>by rw[CH hb];exact e
  refine⟨DH F1 H1 Z,fun _=>False,s.frz (fun b hb=>(hw.dom b hb).2) (h.fr rfl),I.frz hw,.d kp fun _ z=>z,fun _=>kp,fun b z=>z.elim,fun st v' t' Z' r hz=>r.mono ff fun b hb=>⟨rfl,?_⟩⟩;obtain⟨i,sl,h1,h2⟩:=hz b hb;rw[xC fun z=>hw.nw i sl h1 b z h2];exact(r.dom b hb).2
 |false =>
  refine⟨F1,Z,s,I,h.tr,?_,h.tm rfl,fun _ _ _ _ r _=>r⟩;intro e;have tr:=h.tr;cases t with
  |d x=>cases tr with|d r n=>exact r
  |_=>cases e
end
end
noncomputable abbrev uB(K:QF)(vs:List Nat)(F H:Hp)(S:Ft)(ρ:kA)(σ:St)(Q:TK)(R:VK):Prop :=
 ∀v F' H' S' ρ' t n Z,Ste F H S ρ F' H' S' ρ'->Rl K F' H' S' ρ' σ->VR K vs H S ρ F' H' S' ρ' v t n Z->Q t n ρ'->R v H'
noncomputable abbrev zI(K:QF)(F H:Hp)(S:Ft)(ρ:kA)(σ:St)(Q:Bool->kA->Prop)(R:Bool->Hp->Prop):Prop :=
 ∀b F' H' S' ρ',Ste F H S ρ F' H' S' ρ'->Rl K F' H' S' ρ' σ->Q b ρ'->R b H'
section
variable{K:QF}{ws:List Nat}{F H F1 H1:Hp}{S S1:Ft}{ρ ρ1:kA}{σ:St}{v w:V}{a b:T}{Za Zb:gB}{Q:TK}{R:VK}{sa sb:Bool}
section
variable{F2 H2:Hp}{S2:Ft}{ρ2:kA}{p:Addr}{vs xs:List V}{ts:List T}{ds ks:List D}{x y:D}{QB:Bool->Prop}{o:HO}{op:CmpOp}{RB:Bool->Hp->Prop}{Y:gB}
theorem uB.from(k:uB K ws F H S ρ σ Q R)(s:Ste F H S ρ F2 H2 S2 ρ2):uB K ws F2 H2 S2 ρ2 σ Q R:=fun v F' H' S' ρ' t n Z s' I' r q=>k v F' H' S' ρ' t n Z (s.trans s') I' (r.from s.toStp) q
theorem zI.from{Q:Bool->kA->Prop}{R:Bool->Hp->Prop}(k:zI K F H S ρ σ Q R)(s:Ste F H S ρ F2 H2 S2 ρ2):zI K F2 H2 S2 ρ2 σ Q R:=fun b F' H' S' ρ' s' I' q=>k b F' H' S' ρ' (s.trans s') I' q
theorem uB.vars{us:List Nat}(k:uB K ws F H S ρ σ Q R)(h:∀i∈us,i∈ws):uB K us F H S ρ σ Q R:=fun v F' H' S' ρ' t n Z s I r q=>k v F' H' S' ρ' t n Z s I (r.vars h) q
theorem uB.d(k:uB K ws F H S ρ σ Q R)(s:Ste F H S ρ F1 H1 S1 ρ1)(I:Rl K F1 H1 S1 ρ1 σ){x:D}{n:Bool}(r:Rep K F1 v x)(q:Q (.d x) n ρ1):R v H1:=k v F1 H1 S1 ρ1 _ n _ s I (VR.d n r) q
theorem uB.list(k:uB K ws F H S ρ σ Q R)(s:Ste F H S ρ F1 H1 S1 ρ1)(I:Rl K F1 H1 S1 ρ1 σ)(hp:H1 p=none){W:gB}(r:Trs K F1 H1 true vs ts W)
  (fr:∀b,W b->H b=none∨U ρ S b) (hw:Held F1 H1 S1 ρ1 W) (q:Q (.lst ts) true ρ1):R (.ref p) (UA H1 p (.lst vs)):=by
 have np:∀b,H1 b≠none->b≠p:=fun b h z=>h (by rw[z];exact hp);refine k _ F1 _ S1 ρ1 _ true (fun b=>b=p∨W b) (s.new hp _) (I.new hp _) ⟨.lst ZA (I.fh.free hp) (r.mono (.refl _) fun b hb=>⟨?_,(hw.dom b hb).2⟩) (fun z=>(hw.dom p z).1 hp) (fun b=>Wd),fun _ b hb=>?_,fun z=>(by cases z),fun _ i sl e b hb z=>?_⟩ q;rw[vA (np b (hw.dom b hb).1)];rcases hb with rfl|hb
 ·exact .inl (s.dm _ hp)
 exact fr b hb;rcases hb with rfl|hb
 ·exact(I.dom e z).1 hp
 exact hw.nw i sl e b hb z
theorem uB.listD(k:uB K ws F H S ρ σ Q R)(s:Ste F H S ρ F1 H1 S1 ρ1)(I:Rl K F1 H1 S1 ρ1 σ)(hp:H1 p=none)(r:Reps K F1 vs ds)(q:Q (.lst (ds.map T.d)) true ρ1):R (.ref p) (UA H1 p (.lst vs)) :=
 k.list s I hp (Trs.of_reps r) (fun b z=>z.elim) .none q
theorem uB.tupD(k:uB K ws F H S ρ σ Q R)(s:Ste F H S ρ F1 H1 S1 ρ1)(I:Rl K F1 H1 S1 ρ1 σ)(hp:H1 p=none){n:Bool}(r:Reps K F1 vs ds)(q:Q (.d (.tuple ds)) n ρ1):R (.ref p) (UA H1 p (.tup vs)) :=
 uB.d k (s.newT hp (I.fh.free hp) _) (I.newT hp _) (.tup (TC.of ZA) (r.mono (XB (I.fh.free hp)))) q
theorem uB.tup(k:uB K ws F H S ρ σ Q R)(s:Ste F H S ρ F1 H1 S1 ρ1)(I:Rl K F1 H1 S1 ρ1 σ){p:Addr}(hp:H1 p=none){vs:List V}{ts:List T}{W:gB}(r:Trs K F1 H1 true vs ts W)
  (fr:∀b,W b->H b=none∨U ρ S b) (hw:Held F1 H1 S1 ρ1 W) (q:Q (YF ts) true ρ1):R (.ref p) (UA H1 p (.tup vs)):=by
 unfold YF at q;cases e:tE ts with
 |some ds=>rw[e]at q;exact k.tupD s I hp (r.un e).1 q
 |none =>
  rw[e]at q;have np:∀b,H1 b≠none->b≠p:=fun b h z=>h (by rw[z];exact hp);refine k _ F1 _ S1 ρ1 _ true (fun b=>b=p∨W b) (s.new hp _) (I.new hp _) ⟨.tup ZA (I.fh.free hp) (r.mono (.refl _) fun b hb=>⟨?_,(hw.dom b hb).2⟩) (fun z=>(hw.dom p z).1 hp) (fun b=>Wd),fun _ b hb=>?_,fun z=>(by cases z),fun _ i sl e b hb z=>?_⟩ q;rw[vA (np b (hw.dom b hb).1)];rcases hb with rfl|hb
  ·exact .inl (s.dm _ hp)
  exact fr b hb;rcases hb with rfl|hb
  ·exact(I.dom e z).1 hp
  exact hw.nw i sl e b hb z
theorem Ya{op:Operator}(s:Ste F H S ρ F1 H1 S1 ρ1)(I:Rl K F1 H1 S1 ρ1 σ)(ra:Tr K F1 H1 sa v a Za)(rb:Tr K F1 H1 sb w b Zb)(h:binT op a.vw b.vw fun z n=>Q z n ρ1)(k:uB K ws F H S ρ σ Q R):E4 K op v w H1 R:=by
 have ii:∀{i j:Int},a.vw=.sc (.int i)->b.vw=.sc (.int j)->v=.int i/\w=.int j:=fun ea eb=>⟨ra.int ea,rb.int eb⟩
 cases op with
 |Add =>
  rcases h with⟨i,j,ea,eb,h⟩| ⟨x,y,ea,eb,h⟩| ⟨xs0,ys0,ds,es,ea,eb,e1,e2,hl,q⟩| ⟨xs0,ys0,ds,es,ea,eb,e1,e2,hn,hn2,hl,q⟩
  obtain⟨rfl,rfl⟩:=ii ea eb;exact k.d s I (.int _) h;obtain rfl:=ra.str ea;obtain rfl:=rb.str eb;exact⟨h.1,k.d s I (.str _) h.2⟩;obtain⟨p,xs,_,rfl,hp,rp,_⟩:=ra.ls I.fh ea;obtain⟨p2,ys,_,rfl,hq,rq,_⟩:=rb.ls I.fh eb;have r1:=(rp.un e1).1;have r2:=(rq.un e2).1;exact .inl ⟨xs,ys,hp,hq,by rw[r1.length,r2.length];exact hl,fun l hl=>k.listD s I hl (r1.append r2) q⟩;obtain⟨p,xs,_,rfl,hp,rp,_⟩:=ra.tp I.fh ea;obtain⟨p2,ys,_,rfl,hq,rq,_⟩:=rb.tp I.fh eb;have r1:=(rp.un e1).1;have r2:=(rq.un e2).1;refine .inr ⟨p,p2,xs,ys,rfl,rfl,hp,hq,?_,by rw[r1.length,r2.length];exact hl,fun z=>?_,fun _ l hl=>?_⟩;intro z;subst z;cases r1;exact hn rfl;subst z;cases r2;exact absurd rfl hn2;exact k.tupD s I hl (r1.append r2) q
 |Sub=>obtain⟨i,j,ea,eb,h⟩:=h;obtain⟨rfl,rfl⟩:=ii ea eb;exact k.d s I (.int _) h
 |Mult =>
  rcases h with⟨i,j,ea,eb,h⟩| ⟨x,y,ea,eb,h⟩
  obtain⟨rfl,rfl⟩:=ii ea eb;exact⟨h.1,k.d s I (.int _) h.2⟩;obtain rfl:=ra.str ea;obtain rfl:=rb.int eb;exact⟨h.1,k.d s I (.str _) h.2⟩
 |FloorDiv=>obtain⟨i,j,ea,eb,h⟩:=h;obtain⟨rfl,rfl⟩:=ii ea eb;exact⟨h.1,k.d s I (.int _) h.2⟩
 |Mod=>obtain⟨i,j,ea,eb,h⟩:=h;obtain⟨rfl,rfl⟩:=ii ea eb;exact⟨h.1,k.d s I (.int _) h.2⟩
 |_=>exact h.elim
theorem i6(neg:Bool)(ra:Rep K H1 v x)(rb:Rep K H1 w y)(h:Zg x y fun k=>QB (if neg then !k else k))(k:∀c,QB c->R (.bl c) H1):rEq K neg v w H1 R:=by
 have gen:ZE x/\ZE y/\QB (if neg then !PyData.eqv x y else Q6 x y)->(∃dx dy,Rep K H1 v dx/\Rep K H1 w dy/\ZE dx/\ZE dy/\R (.bl (if neg then !PyData.eqv dx dy else Q6 dx dy)) H1):=fun⟨o1,o2,q⟩ =>
  ⟨x,y,ra,rb,o1,o2,k _ q⟩
 unfold Zg at h;split at h;cases ra;cases rb;exact k _ h;cases ra;cases rb;exact k _ h;cases ra;cases rb;exact k _ h;have g:=gen h;rename_i n1 n2 n3;cases ra with
 |int i =>
  cases rb with
  |int j=>exact absurd rfl (n1 i j rfl)
  |_=>exact g
 |str i =>
  cases rb with
  |str j=>exact absurd rfl (n2 i j rfl)
  |_=>exact g
 |bl i =>
  cases rb with
  |bl j=>exact absurd rfl (n3 i j rfl)
  |_=>exact g
 |_=>exact g
theorem eY{F:Hp}{v w:V}{a b:D}(ra:Rep K F v a)(rb:Rep K F w b)(fa:eB a=true)(fb:eB b=true):V4 v w=Q6 a b:=by cases ra<;>cases rb<;>first|exact absurd (show false=true from fa) QC|exact absurd (show false=true from fb) QC | (simp only[Q6];rfl) | (simp only[Q6])
theorem MR{F:Hp}{v:V}{a:D}(ra:Rep K F v a)(fa:eB a=true):UF v=true:=by cases ra<;>first|rfl|exact absurd (show false=true from fa) QC
theorem zQ{F:Hp}(h:Reps K F vs ds)(f:ds.all eB=true):vs.all UF=true :=
 Reps.ind (R:=fun vs ds=>ds.all eB=true->vs.all UF=true) (fun _=>rfl) (fun h ih f=>by rw[qv,Qe]at f ⊢;exact⟨MR h f.1,ih f.2⟩) h f
theorem RK{F:Hp}{v:V}{a:D}(ra:Rep K F v a)(fa:eB a=true):∀{vs:List V}{ds:List D},Reps K F vs ds->ds.all eB=true->inV v vs=ds.any fun y=>Q6 y a
 |_,_,.nil,_=>rfl
 |_,_,.cons h t,f=>by rw[qv,Qe]at f;have e:=RK ra fa t f.2;unfold inV at e ⊢;rw[WI,WI,eY h ra f.1 fa,e]
theorem zG{k:List Key}(h:Reps K F xs (k.map kD)):xs=k.map kV:=by
 induction k generalizing xs with
 |nil=>cases h;rfl
 |cons i k ih =>
  cases h with
  |cons h t=>rw[QN,ih t];cases i<;>(cases h;rfl)
theorem jG(q:List Key):∀(kvs:List KE),sG kvs q=(fA (kvs.map fun p=>tD p.1) (tD q)).bind fun n=>(kvs.map (·.2.2))[n]?
 |[]=>rfl
 |p::r=>by rw[QN,QN];unfold fA;by_cases e:p.1=q;rw[VO e,if_pos (by rw[e])];rfl;rw[XO e,if_neg fun z=>e (dW z),jG q r];cases fA (r.map fun p=>tD p.1) (tD q)<;>rfl
theorem bI(q:Key):∀(kvs:List (Key×V)),NJ kvs q=(fA (kvs.map fun p=>kD p.1) (kD q)).bind fun n=>(kvs.map (·.2))[n]?
 |[]=>rfl
 |p::r=>by rw[QN,QN];unfold fA;by_cases e:p.1=q;rw[LJ e,if_pos (by rw[e])];rfl;rw[MJ e,if_neg fun z=>e (UR z),bI q r];cases fA (r.map fun p=>kD p.1) (kD q)<;>rfl
theorem OI.get{a:Addr}{b:Bool}{k:D}(ha:H1 a=some o)(q:OI K H1 b o ks vs)(rk:Rep K H1 w k)(hk:vF b k):oO K H1 a w ((fA ks k).bind fun n=>vs[n]?):=by
 cases b with
 |true =>
  obtain⟨ep,kvs,rfl,rfl,rfl,h4,_⟩:=q;obtain⟨q,rfl⟩:=hk;cases rk with
  |tup hq rq=>cases zG rq;exact⟨ep,kvs,q,ha,h4,hq,(jG q kvs).symm⟩
 |false =>
  obtain⟨z,rfl⟩:=hk;cases rk;rcases q with⟨kvs,_,rfl,rfl,rfl,_⟩| ⟨ep,rfl,rfl,rfl⟩
  exact .inl ⟨kvs,ha,(bI (.inr z) kvs).symm⟩;exact .inr ⟨ep,ha,rfl⟩
theorem kQ{b:Bool}{k:D}(q:OI K H1 b o ks vs):((fA ks k).bind fun n=>vs[n]?).isSome=(fA ks k).isSome:=by
 cases e:fA ks k with
 |none=>rfl
 |some n =>
  have h1:=(Qi.mp (lE e)).1;have h2:n<vs.length:=by rw[<- q.len];exact h1
  simp[h2]
theorem FR{b neg:Bool}{a:Addr}(ha:H1 a=some o)(q:OI K H1 b o ks vs)(ra:Rep K H1 v x)(hk:vF b x)(h:R (.bl (if neg then !(fA ks x).isSome else(fA ks x).isSome)) H1):kP K neg v (.ref a) H1 R :=
 .inr (.inr ⟨_,q.get ha ra hk,by rw[kQ q];exact h⟩)
theorem n6(neg:Bool)(ra:Rep K H1 v x)(rb:Rep K H1 w y)(h:Jg x y fun k=>QB (if neg then !k else k))(k:∀c,QB c->R (.bl c) H1):kP K neg v w H1 R:=by
 unfold Jg at h;split at h;cases ra;cases rb;exact k _ h;rename_i ds;have rb':=rb;cases rb with
 |lst hp rp =>
  rcases h.1 with⟨fa,fs⟩| ⟨o1,o2⟩
  refine .inl ⟨_,_,rfl,.inl hp,MR ra fa,zQ rp fs,?_⟩;rw[RK ra fa rp fs];exact k _ h.2;exact .inr (.inl ⟨_,ds,ra,.inl rb',o1,o2,k _ h.2⟩)
 rename_i ds;have rb':=rb;cases rb with
 |tup hp rp =>
  rcases h.1 with⟨fa,fs⟩| ⟨o1,o2⟩
  refine .inl ⟨_,_,rfl,.inr hp,MR ra fa,zQ rp fs,?_⟩;rw[RK ra fa rp fs];exact k _ h.2;exact .inr (.inl ⟨_,ds,ra,.inr rb',o1,o2,k _ h.2⟩)
 obtain⟨b,ek,hk,q⟩:=h;cases rb with
 |@dct b' a o ks vs ds h dk r =>
  have hl:ks.length=ds.length:=by rw[dk.len,Reps.length r]
  rw[W4 (Wr hl)]at q;cases sT dk ek;exact FR h dk ra hk (k _ q)
 exact h.elim
theorem cN{g:Int->Int->Bool}(ra:Rep K H1 v x)(rb:Rep K H1 w y)(h:OU g x y QB)(k:∀c,QB c->R (.bl c) H1):FU g v w H1 R:=by unfold OU at h;split at h;cases ra;cases rb;exact k _ h;exact h.elim
theorem yS(ra:Rep K H1 v x)(rb:Rep K H1 w y)(h:ZV op x y QB)(k:∀c,QB c->R (.bl c) H1):NY K op v w H1 R:=by
 cases op with
 |Eq=>exact i6 false ra rb h k
 |NotEq=>exact i6 true ra rb h k
 |Lt=>exact cN ra rb h k
 |LtE=>exact cN ra rb h k
 |Gt=>exact cN ra rb h k
 |GtE=>exact cN ra rb h k
 |In=>exact n6 false ra rb h k
 |NotIn=>exact n6 true ra rb h k
 |Is=>exact h.elim
 |IsNot=>exact h.elim
theorem D4(f:Same F1 H1)(ra:Rep K H1 v x)(rb:Tr K F1 H1 sb w b Zb)(h:G4 op x b QB)(k:∀c,QB c->R (.bl c) H1):NY K op v w H1 R:=by
 cases b with
 |d y=>exact yS ra (rb.rep f) h k
 |lst ts=>exact yS ra (rb.rep f) h k
 |tup ts=>exact yS ra (rb.rep f) h k
 |dct b ks ts =>
  obtain⟨hk,h⟩:=h;cases rb with
  |dct ha dk _ _ _ _ =>
   rcases h with⟨rfl,q⟩| ⟨rfl,q⟩
   exact FR (neg:=false) ha (dk.mono f) ra hk (k _ q);exact FR (neg:=true) ha (dk.mono f) ra hk (k _ q)
theorem BH(r:Reps K F xs ds):(!ds.isEmpty)=!xs.isEmpty:=by cases r<;>rfl
theorem JS(ra:Rep K H1 v x)(h:gH x QB)(k:∀c,QB c->RB c H1):tG K v H1 RB:=by
 unfold gH at h;split at h;cases ra;exact k _ h;cases ra;exact k _ h;cases ra;exact k _ h;cases ra;exact⟨h.1,k _ h.2⟩;cases ra with
 |lst hp rp=>rw[BH rp]at h;exact⟨_,.inl ⟨_,hp,rfl⟩,k _ h⟩
 cases ra with
 |tup hp rp=>rw[BH rp]at h;exact⟨_,.inr (.inl ⟨_,hp,rfl⟩),k _ h⟩
 exact h.elim
theorem yZ(ra:Rep K H1 v x)(h:Ha x QB)(k:∀c,QB c->RB c H1):zZ v H1 RB:=by unfold Ha at h;split at h;cases ra;exact k _ h;exact h.elim
theorem X9(s:Ste F H S ρ F1 H1 S1 ρ1)(I:Rl K F1 H1 S1 ρ1 σ)(ra:Tr K F1 H1 sa v a Za)(za:∀b,Za b->∃(i:Nat) (s:Sl),i∈ws/\ρ1[i]?=some (some s)/\S1 i b)(rb:Tr K F1 H1 sb w b Zb)(h:YL a.vw b.vw fun z=>Q z false ρ1)(k:uB K ws F H S ρ σ Q R):GU K v w H1 R:=by
 rcases h with⟨z,i,c,ea,eb,h1,h2,q⟩| ⟨ts,i,d,ea,eb,h1,q⟩| ⟨ts,i,d,ea,eb,h1,q⟩
 obtain rfl:=ra.str ea;obtain rfl:=rb.int eb;exact⟨h1,c,h2,k.d s I (.str _) q⟩;obtain⟨p,xs,Z',rfl,hp,rp,hz⟩:=ra.ls I.fh ea;obtain rfl:=rb.int eb;obtain⟨x,Z,h2,r,hz2⟩:=rp.at h1;exact⟨xs,x,.inl hp,h2,k _ F1 H1 S1 ρ1 _ false Z s I ⟨r,fun z=>(by cases z),fun _ b hb=>za b (hz b (hz2 b hb)),fun z=>(by cases z)⟩ q⟩;obtain⟨p,xs,Z',rfl,hp,rp,hz⟩:=ra.tp I.fh ea;obtain rfl:=rb.int eb;obtain⟨x,Z,h2,r,hz2⟩:=rp.at h1;exact⟨xs,x,.inr hp,h2,k _ F1 H1 S1 ρ1 _ false Z s I ⟨r,fun z=>(by cases z),fun _ b hb=>za b (hz b (hz2 b hb)),fun z=>(by cases z)⟩ q⟩
theorem R9(s:Ste F H S ρ F1 H1 S1 ρ1)(I:Rl K F1 H1 S1 ρ1 σ)(ra:Tr K F1 H1 sa v a Za)(za:∀b,Za b->∃(i:Nat) (s:Sl),i∈ws/\ρ1[i]?=some (some s)/\S1 i b)(rb:Rep K H1 w y)(h:xQ a.vw y fun z=>Q z false ρ1)(k:uB K ws F H S ρ σ Q R):GU K v w H1 R:=by
 obtain⟨b,ks,ts,n,d,ea,hk,hf,ht,q⟩:=h;obtain⟨p,o,vs,Z',rfl,hp,dk,rp,hz,_⟩:=ra.dc I.fh ea;obtain⟨x,Z,h2,r,hz2⟩:=rp.get ht;have g:=(dk.mono I.fh).get hp rb hk;rw[hf]at g;have g:oO K H1 p w (vs[n]?):=g;rw[h2]at g;have fin:=k _ F1 H1 S1 ρ1 _ false Z s I ⟨r,fun z=>(by cases z),fun _ b hb=>za b (hz b (hz2 b hb)),fun z=>(by cases z)⟩ q;cases w with
 |str z=>exact⟨x,g,fin⟩
 |ref c=>exact⟨x,g,fin⟩
 |_=>exact g.elim
theorem Reps.cut(r:Reps K F xs ds)(lo hi:Option Int):Reps K F (cQ xs lo hi) (UD ds lo hi):=by unfold cQ UD;rw[r.length];exact(r.drop _).take _
theorem K7{lo hi:Option Int}(s:Ste F H S ρ F1 H1 S1 ρ1)(I:Rl K F1 H1 S1 ρ1 σ)(ra:Tr K F1 H1 sa v a Za)(h:fJ a.vw lo hi fun z n=>Q z n ρ1)(k:uB K ws F H S ρ σ Q R):oh K v lo hi H1 R:=by
 rcases h with⟨z,ea,h⟩| ⟨ts,ds,ea,e,q⟩| ⟨ts,ds,ea,e,n,q⟩
 obtain rfl:=ra.str ea;exact⟨h.1,k.d s I (.str _) h.2⟩;obtain⟨p,xs,_,rfl,hp,rp,_⟩:=ra.ls I.fh ea;exact .inl ⟨p,xs,rfl,hp,fun l hl=>k.listD s I hl ((rp.un e).1.cut _ _) q⟩;obtain⟨p,xs,_,rfl,hp,rp,_⟩:=ra.tp I.fh ea;refine .inr ⟨p,xs,rfl,hp,by rw[(rp.un e).1.length];exact n,fun l hl=>k.tupD s I hl ((rp.un e).1.cut _ _) q⟩
theorem B1{P:Option Int->Prop}{RP:Option Int->Hp->Prop}(ra:Rep K H1 v x)(h:pF x P)(k:∀o,P o->RP o H1):nK v H1 RP:=by unfold pF at h;split at h;cases ra;exact k _ h;exact h.elim
inductive Tn(K:QF)(F H:Hp)(Y:gB):List V->List T->Prop where
 |nil:Tn K F H Y [] []
 |cons {v:V}{t:T}{vs:List V}{ts:List T}{Z:gB}:Tr K F H false v t Z->(∀b,Z b->Y b)->Tn K F H Y vs ts->Tn K F H Y (v::vs) (t::ts)
theorem GJ(ts:List T):∀{xs:List (T×Bool)},ZL xs=ts->GB xs=ts.map T.vw
 |[],h=>by subst h;rfl
 |p::r,h=>by subst h;simp only[GB,ZL,QN,GJ _ rfl]
theorem Tn.one{x:Vw}(h:Tn K F H Y vs ts)(e:ts.map T.vw=[x]):∃v t Z,vs=[v]/\ts=[t]/\t.vw=x/\Tr K F H false v t Z/\∀b,Z b->Y b:=by
 cases h with
 |nil=>cases e
 |cons r z t =>
  simp only[QN,Wf]at e;cases t with
  |nil=>exact⟨_,_,_,rfl,rfl,e.1,r,z⟩
  |cons _ _ _=>simp at e
theorem Tn.two{x y:Vw}(h:Tn K F H Y vs ts)(e:ts.map T.vw=[x,y]):∃v w t u Z Z',vs=[v,w]/\ts=[t,u]/\t.vw=x/\u.vw=y/\Tr K F H false v t Z/\Tr K F H false w u Z'/\(∀b,Z b->Y b)/\(∀b,Z' b->Y b):=by
 cases h with
 |nil=>cases e
 |cons r z t=>simp only[QN,Wf]at e;obtain⟨v,u,Z',rfl,rfl,h1,h2,h3⟩:=t.one e.2;exact⟨_,_,_,_,_,_,rfl,rfl,e.1,h1,r,h2,z,h3⟩
theorem uE:∀{xs:List V}{ys:List Str},Reps K F xs (ys.map PyData.str)->xs=ys.map V.str
 |_,[],.nil=>rfl
 |_,y::ys,.cons h t=>by cases h;rw[QN,uE t]
theorem cI:∀(ys:List Str),Reps K F (ys.map V.str) (ys.map PyData.str)
 |[]=>.nil
 |y::ys=>.cons (.str y) (cI ys)
theorem BU{α:Type}{g:α->D}{ys:List V}(hp:xs.Perm ys):∀{l:List α},Reps K F xs (l.map g)->∃l':List α,l'.Perm l/\Reps K F ys (l'.map g):=by
 induction hp with
 |nil=>intro l r;exact⟨l,wz _,r⟩
 |cons x _ ih =>
  intro l r;cases l with
  |nil=>cases r
  |cons a l=>cases r with
   |cons h t=>obtain⟨l',p,v⟩:=ih t;exact⟨a::l',p.cons _,.cons h v⟩
 |swap x y l0 =>
  intro l r;cases l with
  |nil=>cases r
  |cons a l=>cases l with
   |nil=>cases r with
    |cons h t=>cases t
   |cons b l=>cases r with
    |cons h t=>cases t with
     |cons h2 t=>exact⟨b::a::l,List.Perm.swap _ _ _,.cons h2 (.cons h t)⟩
 |trans _ _ i1 i2=>intro l r;obtain⟨l1,p1,v1⟩:=i1 r;obtain⟨l2,p2,v2⟩:=i2 v1;exact⟨l2,p2.trans p1,v2⟩
theorem tupl{K:QF}{H H':Hp}{a:Addr}(e:Same H H')(h:TC K H a xs):TC K H' a xs:=by rcases h with(h|⟨o,h⟩)|h;exact .inl (.inl (e _ _ h));exact .inl (.inr ⟨o,e _ _ h⟩);exact .inr h
def Kg(K:QF)(F:Hp)(r:Str×D)(z:Str×V):Prop:=r.1=z.1/\Rep K F z.2 (eU r)
theorem TL:∀{rs:List (Str×D)}{xs:List V},Reps K F xs (rs.map eU)->∃zs:List (Str×V),xs=zs.map Wp/\Paired (Kg K F) rs zs
 |[],_,.nil=>⟨[],rfl,.nil⟩
 |r::rs,_,.cons h t=>by obtain⟨zs,rfl,p⟩:=TL t;exact⟨(r.1,_)::zs,rfl,.cons ⟨rfl,h⟩ p⟩
theorem LM:∀{rs:List (Str×D)}{zs:List (Str×V)},Paired (Kg K F) rs zs->rs.map qE=zs.map qE
 |_,_,.nil=>rfl
 |_,_,.cons ⟨e,_⟩ t=>by rw[QN,QN,LM t,e]
theorem UO:∀{rs:List (Str×D)}{zs:List (Str×V)},Paired (Kg K F) rs zs->Reps K F (zs.map Wp) (rs.map eU)
 |_,_,.nil=>.nil
 |_,_,.cons ⟨_,r⟩ t=>.cons r (UO t)
theorem BO:∀{rs:List (Str×D)}{zs:List (Str×V)},Paired (Kg K F) rs zs->∀z∈zs,∃a r,z.2=.ref a/\TC K F a (.str z.1::r)
 |_,_,.nil,_,h=>nomatch h
 |r::_,z'::_,.cons ⟨e,rp⟩ t,z,h=>by
  rcases QK.mp h with rfl|h;obtain⟨x,d⟩:=r;generalize ev:z.2=v at rp;have rp:Rep K F v (.tuple [.str x,d]):=rp;cases rp with
  |tup sq rs =>
   cases rs with
   |cons h t=>cases h;have e:x=z.1:=e;exact⟨_,_,rfl,e▸sq⟩
  exact BO t z h
theorem jR{ls:List (List Str)}(h:Reps K F xs (ls.map ZC)):∀x∈xs,∃a,∃ss:List Str,x=.ref a/\HC K F a (ss.map V.str):=by
 induction ls generalizing xs with
 |nil=>cases h;exact fun _ z=>nomatch z
 |cons l ls ih =>
  cases h with
  |cons r t =>
   intro x h;rcases QK.mp h with e|h;subst e;cases r with
   |lst q r=>exact⟨_,l,rfl,by rw[<- uE r];exact q⟩
   exact ih t x h
theorem Fa{bi:Bi}(s:Ste F H S ρ F1 H1 S1 ρ1)(I:Rl K F1 H1 S1 ρ1 σ)(ra:Tn K F1 H1 Y vs ts)(h:j5 bi (ts.map T.vw) fun z n=>Q z n ρ1)(k:uB K ws F H S ρ σ Q R):Pe K bi vs H1 R:=by
 cases bi with
 |len =>
  rcases h with⟨z,e,h⟩| ⟨us,e,h⟩| ⟨us,e,h⟩
  obtain⟨v,t,Z,rfl,rfl,e,r,_⟩:=ra.one e;obtain rfl:=r.str e;exact .inl ⟨_,rfl,h.1,k.d s I (.int _) h.2⟩;obtain⟨v,t,Z,rfl,rfl,e,r,_⟩:=ra.one e;obtain⟨p,xs,_,rfl,hp,rp,_⟩:=r.ls I.fh e;exact .inr ⟨_,xs,rfl,.inl hp,by rw[rp.length];exact k.d s I (.int _) h⟩;obtain⟨v,t,Z,rfl,rfl,e,r,_⟩:=ra.one e;obtain⟨p,xs,_,rfl,hp,rp,_⟩:=r.tp I.fh e;exact .inr ⟨_,xs,rfl,.inr hp,by rw[rp.length];exact k.d s I (.int _) h⟩
 |all=>obtain⟨us,bs,e,hb,q⟩:=h;obtain⟨v,t,Z,rfl,rfl,e,r,_⟩:=ra.one e;obtain⟨p,xs,_,rfl,hp,rp,_⟩:=r.ls I.fh e;obtain rfl:=(rp.un hb).1.bools;exact⟨bs,hp,k.d s I (.bl _) q⟩
 |list=>obtain⟨us,ds,e,hb,q⟩:=h;obtain⟨v,t,Z,rfl,rfl,e,r,_⟩:=ra.one e;obtain⟨p,xs,_,rfl,hp,rp,_⟩:=r.ls I.fh e;exact⟨_,xs,rfl,.inl hp,fun l hl=>k.listD s I hl (rp.un hb).1 q⟩
 |sorted =>
  rcases h with⟨us,ss,e,hb,h64,q⟩| ⟨us,ls,e,hb,h64,q⟩| ⟨us,rs,e,hb,h64,nd,q⟩
  obtain⟨v,t,Z,rfl,rfl,e,r,_⟩:=ra.one e;obtain⟨p,xs,_,rfl,hp,rp,_⟩:=r.ls I.fh e;obtain rfl:=uE (rp.un hb).1;exact⟨_,rfl,.inl ⟨ss,hp,h64,fun l ss' hl p1 p2=>k.listD s I hl (cI ss') (q ss' p1 p2)⟩⟩;obtain⟨v,t,Z,rfl,rfl,e,r,_⟩:=ra.one e;obtain⟨p,xs,_,rfl,hp,rp,_⟩:=r.ls I.fh e;have rr:=(rp.un hb).1;refine⟨_,rfl,.inr (.inl ⟨xs,hp,by rw[Reps.length rr,QD];exact h64,fun x hx=>?_,fun l ys hl hp=>?_⟩)⟩;obtain⟨a,ss,e,sq⟩:=jR rr x hx;exact⟨a,ss,e,I.fh.seq sq⟩;obtain⟨ls',p1,r1⟩:=BU hp.symm rr;exact k.listD s I hl r1 (q ls' p1);obtain⟨v,t,Z,rfl,rfl,e,r,_⟩:=ra.one e;obtain⟨p,xs,_,rfl,hp,rp,_⟩:=r.ls I.fh e;obtain⟨zs,rfl,pz⟩:=TL (rp.un hb).1;have ef:=LM pz;refine⟨_,rfl,.inr (.inr ⟨zs,hp,by rw[<- qJ pz];exact h64,by rw[<- ef];exact nd,fun z hz=>?_,fun l zs' hl p1 so=>?_⟩)⟩;obtain⟨a,r,e,sq⟩:=BO pz z hz;exact⟨a,r,e,tupl I.fh sq⟩;obtain⟨rs',p2,pz'⟩:=yM p1.symm pz;rw[<- LM pz']at so;exact k.listD s I hl (UO pz') (q rs' p2 so)
theorem z9{m:Mt}(s:Ste F H S ρ F1 H1 S1 ρ1)(I:Rl K F1 H1 S1 ρ1 σ)(rv:Tr K F1 H1 sa v a Za)(ra:Tn K F1 H1 Y vs ts)(h:Yb m a.vw (ts.map T.vw) fun z n=>Q z n ρ1)(k:uB K ws F H S ρ σ Q R):C3 K m v vs H1 R:=by
 cases m with
 |join=>obtain⟨z,us,ys,ea,e,hy,hl,q⟩:=h;obtain⟨w,t,Z,rfl,rfl,e,r,_⟩:=ra.one e;obtain rfl:=rv.str ea;obtain⟨p,xs,_,rfl,hp,rp,_⟩:=r.ls I.fh e;obtain rfl:=uE (rp.un hy).1;exact⟨z,p,ys,rfl,rfl,hp,hl,k.d s I (.str _) q⟩
 |_=>exact h.elim
theorem ze{x:Vw}(h:x.isS=true):∃z,x=.sc (.str z):=by
 cases x with
 |sc d=>cases d with
  |str z=>exact⟨z,rfl⟩
  |_=>exact(QC h).elim
 |_=>exact(QC h).elim
theorem Hd{m:Mt}(rv:Tr K F1 H1 sa v a Za)(h:JR m a.vw=true):MV K m.ty v H1:=by
 have h:=yA h;obtain⟨z,ea⟩:=ze h.1;obtain rfl:=rv.str ea;cases m with
 |join=>rfl
 |_=>exact(QC h.2).elim
end
end
inductive AV(K:QF)(F H:Hp):List Md->List V->List (T×Bool)->(Addr->Prop)->(Addr->Prop)->Prop where
 |nil {md:List Md}{W Y:gB}:(∀b,¬ W b)->AV K F H md [] [] W Y
 |chg {md:List Md}{v:V}{vs:List V}{x:T}{xs:List (T×Bool)}{W Y:gB}:(md.headD .ny).isMut=true->AV K F H md.tail vs xs W Y->AV K F H md (v::vs) ((x,true)::xs) W Y
 |new {md:List Md}{v:V}{vs:List V}{x:T}{xs:List (T×Bool)}{Z W W' Y:gB}:(md.headD .ny).isMut=false->Tr K F H true v x Z->AV K F H md.tail vs xs W' Y->(∀b,Z b->¬ W' b)->(∀b,W b↔Z b∨W' b) ->
   AV K F H md (v::vs) ((x,true)::xs) W Y
 |tmp {md:List Md}{v:V}{vs:List V}{x:T}{xs:List (T×Bool)}{Z W Y:gB}:(md.headD .ny).isMut=false->Tr K F H false v x Z->(∀b,Z b->Y b)->AV K F H md.tail vs xs W Y ->
   AV K F H md (v::vs) ((x,false)::xs) W Y
section
variable{K:QF}{F H F1 H1:Hp}{S S1:Ft}{ρ ρ1:kA}{σ:St}
section
variable{Y W:gB}{md:List Md}{vs:List V}{xs:List (T×Bool)}{ws:List Nat}{H0:Hp}{S0:Ft}{ρ0:kA}
theorem AV.sub{Y':gB}(h:AV K F H md vs xs W Y)(k:∀b,Y b->Y' b):AV K F H md vs xs W Y':=by
 induction h with
 |nil h=>exact .nil h
 |chg h t ih=>exact .chg h (ih k)
 |new h r t n q ih=>exact .new h r (ih k) n q
 |tmp h r z t ih=>exact .tmp h r (fun b hb=>k b (z b hb)) (ih k)
theorem AV.dom(h:AV K F H md vs xs W Y):∀b,W b->H b≠none/\F b=none:=by
 induction h with
 |nil h=>exact fun b hb=>absurd hb (h b)
 |chg h t ih=>exact ih
 |new h r t n q ih=>exact fun b hb=>((q b).mp hb).elim (r.dom b) (ih b)
 |tmp h r z t ih=>exact ih
theorem AV.length(h:AV K F H md vs xs W Y):vs.length=xs.length:=by
 induction h with
 |nil h=>rfl
 |chg h t ih=>simp[ih]
 |new h r t n q ih=>simp[ih]
 |tmp h r z t ih=>simp[ih]
theorem AV.trs(h:AV K F H md vs xs W Y):(∀(i:Nat),(md.getD i .ny).isMut=false)->LE xs=true->Trs K F H true vs (fF xs) W:=by
 induction h with
 |nil h=>exact fun _ _=>.nil h
 |@chg md _ _ _ _ _ _ h t ih =>
  intro m;have:=m 0;cases md with
  |nil=>cases h
  |cons a r=>exact absurd h (by simpa using this)
 |@new md v vs x xs Z W W' Y h r t n q ih =>
  intro m e;simp only[LE,Qe]at e;exact .cons r (ih (fun i=>by cases md with
   |nil=>exact m i
   |cons a md=>exact m (i+1)) e.2) n q
 |@tmp md v vs x xs Z W Y h r z t ih =>
  intro m e;simp only[LE,Qe]at e;refine .cons (S1:=fun _=>False) ?_ (ih (fun i=>by cases md with
   |nil=>exact m i
   |cons a md=>exact m (i+1)) e.2) (fun _ z=>z.elim) fun b=>by simp
  cases x with
  |d x=>cases r with|d r n=>exact .d r fun _ z=>z
  |_=>exact absurd e.1 (by simp[kH,T.isD])
theorem P8(i:Nat):((([]:List Md).getD i .ny).isMut)=false:=rfl
theorem AV.tn(h:AV K F H md vs xs W Y)(e:Same F F1)(k:∀b,W b->F1 b=H b)(k2:∀b,Y b->F b=none->F1 b=none)(hm:md=[]):Tn K F1 H Y vs (ZL xs):=by
 induction h with
 |nil h=>exact .nil
 |chg h t ih=>subst hm;cases h
 |@new md v vs x xs Z W W' Y h r t n q ih=>subst hm;refine .cons (Z:=fun _=>False) ?_ (fun b z=>z.elim) (ih (fun b hb=>k b ((q b).mpr (.inr hb))) k2 rfl);exact .d (r.kept e fun b u hb eu=>by rw[k b ((q b).mpr (.inl hb))];exact eu) fun _ z=>z
 |@tmp md v vs x xs Z W Y h r z t ih=>subst hm;exact .cons (r.mono e fun b hb=>⟨rfl,k2 b (z b hb) (r.dom b hb).2⟩) z (ih k k2 rfl)
structure AR(K:QF)(ws:List Nat)(md:List Md)(H0:Hp)(S0:Ft)(ρ0:kA)(F H:Hp)(S:Ft)(ρ:kA)(vs:List V)(xs:List (T×Bool))(W Y:gB):Prop where
 av:AV K F H md vs xs W Y
 fr:∀b,W b->H0 b=none∨U ρ0 S0 b
 tm:∀b,Y b->∃(i:Nat) (s:Sl),i∈ws/\ρ[i]?=some (some s)/\S i b
 nw:∀(i:Nat) s,ρ[i]?=some (some s)->∀b,W b->¬ S i b
theorem AR.held(h:AR K ws md H0 S0 ρ0 F H S ρ vs xs W Y):Held F H S ρ W:=⟨h.av.dom,h.nw⟩
theorem AR.from{F2 H2:Hp}{S2:Ft}{ρ2:kA}(s:Stp F H S ρ F1 H1 S1 ρ1)(h:AR K ws md H1 S1 ρ1 F2 H2 S2 ρ2 vs xs W Y):AR K ws md H S ρ F2 H2 S2 ρ2 vs xs W Y :=
 ⟨h.av,fun b hb=>by rcases h.fr b hb with q|q;exact .inl (s.dm b q);exact(s.uu b q).symm,h.tm,h.nw⟩
theorem AR.vars{us:List Nat}(h:AR K ws md H0 S0 ρ0 F H S ρ vs xs W Y)(k:∀i∈ws,i∈us):AR K us md H0 S0 ρ0 F H S ρ vs xs W Y :=
 ⟨h.av,h.fr,fun b hb=>let⟨i,s,h1,h2⟩:=h.tm b hb;⟨i,s,k i h1,h2⟩,h.nw⟩
theorem AR.frz(s:Ste F H S ρ F1 H1 S1 ρ1)(I:Rl K F1 H1 S1 ρ1 σ)(h:AR K ws [] H S ρ F1 H1 S1 ρ1 vs xs W Y) :
  ∃F2,Ste F H S ρ F2 H1 S1 ρ1/\Rl K F2 H1 S1 ρ1 σ/\Tn K F2 H1 Y vs (ZL xs) /\
   ∀st v' t' Z',Tr K F1 H1 st v' t' Z'->(∀b,Z' b->∃(i:Nat) (s:Sl),ρ1[i]?=some (some s)/\S1 i b)->Tr K F2 H1 st v' t' Z':=by
 have hw:=h.held;have ff:=gG (H:=H1) fun b hb=>(hw.dom b hb).2;refine⟨DH F1 H1 W,s.frz (fun b hb=>(hw.dom b hb).2) h.fr,I.frz hw,h.av.tn ff (fun b hb=>CH hb) (fun b hy hf=>?_) rfl,fun st v' t' Z' r hz=>r.mono ff fun b hb=>⟨rfl,?_⟩⟩;obtain⟨i,sl,_,h2,h3⟩:=h.tm b hy;rw[xC fun z=>h.nw i sl h2 b z h3];exact hf;obtain⟨i,sl,h1,h2⟩:=hz b hb;rw[xC fun z=>hw.nw i sl h1 b z h2];exact(r.dom b hb).2
def fB:List Md->List V->List V
 |_,[]=>[]
 |md,v::vs=>match md.headD .ny with
  | .chg=>v::fB md.tail vs
  |_=>fB md.tail vs
noncomputable abbrev Of(K:QF)(p:PX)(md:List Md)(F H:Hp)(S:Ft)(ρ:kA)(σ:St)(Q:List (T×Bool)->kA->Prop)(R:List V->Hp->Prop):Prop :=
 ∀vs F' H' S' ρ' xs W Y,Ste F H S ρ F' H' S' ρ'->Rl K F' H' S' ρ' σ->AR K (rG p) md H S ρ F' H' S' ρ' vs xs W Y->(fB md vs).map (fun v=>some (some v))=(cA md p).map (fun j=>σ[j]?)->Q xs ρ'->R vs H'
def Ie(K:QF)(F H:Hp)(x:XD)(dx:Option Addr):Prop:=∃a fs,dx=some a/\H a=some (.xd fs)/\Paired (fun(p:Str×V) (q:Str×D)=>p.1=q.1/\Rep K F p.2 q.2) fs x.2
def IE(K:QF)(F H:Hp)(S:Ft)(ρ:kA)(E:XE)(EK:XK):Prop:=∀x dx F' H' S' ρ',Stp F H S ρ F' H' S' ρ'->Same F' H'->Ie K F' H' x dx->E x->EK x.1 dx H'
theorem IE.from{E:XE}{EK:XK}(h:IE K F H S ρ E EK)(s:Stp F H S ρ F1 H1 S1 ρ1):IE K F1 H1 S1 ρ1 E EK:=fun x dx F2 H2 S2 ρ2 s2 f r q=>h x dx F2 H2 S2 ρ2 (s.trans s2) f r q
theorem IE.never:IE K F H S ρ (fun _=>False) (fun _ _ _=>False):=fun _ _ _ _ _ _ _ _ _ z=>z
inductive ArgsR(K:QF)(F H:Hp)(Y:gB):List Md->List V->List T->Prop where
 |nil {md:List Md}:ArgsR K F H Y md [] []
 |chg {md:List Md}{v:V}{vs:List V}{t:T}{ts:List T}:md.headD .ny=.chg->ArgsR K F H Y md.tail vs ts->ArgsR K F H Y md (v::vs) (t::ts)
 |rd {md:List Md}{v:V}{vs:List V}{t:T}{ts:List T}{Z:gB}:md.headD .ny≠.chg->Tr K F H false v t Z->(∀b,Z b->Y b)->ArgsR K F H Y md.tail vs ts->ArgsR K F H Y md (v::vs) (t::ts)
structure Frm(M:gB)(F H F' H':Hp):Prop where
 ff:Same F F'
 fh:Same F' H'
 hh:∀b u,H b=some u->¬ M b->H' b=some u
 dm:∀b,H' b=none->H b=none
 fn:∀b,F b=none->F' b≠none->M b∨H b=none
def lift(K:QF)(P:PSp):Sp:=fun vs H Q E=>∃(F:Hp) (ts:List T) (M Y:gB),Same F H/\ArgsR K F H Y P.md vs ts/\Trs K F H true (fB P.md vs) (KB P.md ts) M/\(∀b,Y b->¬ M b) /\
 P.run ts (fun r os=>∀v F' H' Z M',Frm M F H F' H'->Tr K F' H' true v r Z->Trs K F' H' true (fB P.md vs) os M'->(∀b,Z b->¬ M' b)->(∀b,Z b∨M' b->M b∨H b=none)->Q v H')
  (fun x=>∀dx F' H',Frm M F H F' H'->Ie K F' H' x dx->E x.1 dx H')
structure GOk(K:QF)(Γ:Ev)(Ψ:PEv):Prop where
 sp:∀f vs H Q E,lift K (Ψ.sp f) vs H Q E->Γ.sp f vs H Q E
 va:∀x d,Ψ.va x=some d->∀F,Rep K F (Γ.va x) d
structure PSnd(K:QF)(Γ:Ev)(Ψ:PEv)(p:PX):Prop where
 e:∀{E:XE}{EK:XK}{F H:Hp}{S:Ft}{ρ:kA}{σ:St}{Q:TK}{R:VK},Rl K F H S ρ σ->IE K F H S ρ E EK->(pe Ψ p E).e ρ Q->uB K (rG p) F H S ρ σ Q R->(wp K Γ p EK).e σ H R
 t:∀{E:XE}{EK:XK}{F H:Hp}{S:Ft}{ρ:kA}{σ:St}{Q:Bool->kA->Prop}{R:Bool->Hp->Prop},Rl K F H S ρ σ->IE K F H S ρ E EK->(pe Ψ p E).t ρ Q->zI K F H S ρ σ Q R->(wp K Γ p EK).t σ H R
 a:∀{E:XE}{EK:XK}{F H:Hp}{S:Ft}{ρ:kA}{σ:St}{md:List Md}{Q:List (T×Bool)->kA->Prop}{R:List V->Hp->Prop},Rl K F H S ρ σ->IE K F H S ρ E EK->(∀j∈cA md p,∃v,σ[j]?=some (some v))->(pe Ψ p E).a md ρ Q->Of K p md F H S ρ σ Q R->(wp K Γ p EK).a σ H R
end
end
section
variable{K:QF}{Γ:Ev}{Ψ:PEv}{E:XE}{EK:XK}{F H F1 H1:Hp}{S S1:Ft}{ρ ρ1:kA}{σ:St}
section
variable{b a as:PX}{RR:List V->Hp->Prop}{P:List (T×Bool)->kA->Prop}{Y Z:gB}{t:T}{st:Bool}{ts:List T}{v:V}
theorem Kc(ib:PSnd K Γ Ψ b)(I:Rl K F H S ρ σ)(X:IE K F H S ρ E EK){x:T}{P:T×Bool->kA->Prop}{RR:VK}(h:sq x ρ (cu (pe Ψ b E).e) P)
  (kk:∀w F' H' S' ρ' y m Z,Ste F H S ρ F' H' S' ρ'->Rl K F' H' S' ρ' σ->(∀st v Zx,Tr K F H st v x Zx->Tr K F' H' st v x Zx)->(x.isD=false->ρ'=ρ/\S'=S)->VR K (rG b) H S ρ F' H' S' ρ' w y m Z->P (y,m) ρ'->RR w H') :
  (wp K Γ b EK).e σ H RR:=by
 unfold sq at h;cases hd:x.isD with
 |true =>
  rw[hd,if_pos rfl]at h;refine ib.e I X h fun w F' H' S' ρ' y m Z s I' r q=>kk w F' H' S' ρ' y m Z s I' (fun st v Zx rx=>?_) (fun z=>(by rw[hd]at z;cases z)) r q;cases x with
  |d x=>cases rx with|d r n=>exact .d (r.mono s.ff) n
  |_=>cases hd
 |false =>
  rw[hd,if_neg (by simp)]at h;have X':IE K F H S (lockA ρ) E EK:=fun x dx F2 H2 S2 ρ2 s2 f r q=>X x dx F2 H2 S ρ s2.unlockA f r q;refine ib.e I.lockA X' h fun w F' H' S' ρ' y m Z s I' r q=>?_;have kp:∀st v t Zx,Tr K F H st v t Zx->Tr K F' H' st v t Zx:=fun st v t Zx rx=>s.keep rx fun b _=>vD b;refine kk w F' H' S ρ y m Z ⟨s.unlockA,fun j t h=>⟨t,h⟩⟩ (I.unlockA s.toStp I'.fh) (fun st v Zx rx=>kp st v _ Zx rx) (fun _=>⟨rfl,rfl⟩) ⟨r.tr,fun e b hb=>?_,fun e b hb=>?_,fun e i sl hi b hb z=>?_⟩ q;exact .inl ((r.fr e b hb).elim id fun z=>absurd z (vD b));obtain⟨i,sl,h1,h2,h3⟩:=r.tm e b hb;cases sl with
  |own t=>obtain⟨t0,h0⟩:=s.ow i t h2;obtain⟨_,_,e0⟩:=pB h0;cases e0
  |nv t =>
   cases hd:t.isD with
   |true=>exact absurd h3 (I'.isD h2 hd)
   |false=>obtain⟨g1,g2⟩:=s.bo i t h2 hd;obtain⟨s0,g3,_⟩:=pB g1;rw[g2]at h3;exact⟨i,s0,h1,g3,h3⟩
  rcases r.fr e b hb with q|q
  ·exact(I.dom hi z).1 q
  exact absurd q (vD b)
theorem Vc{md:List Md}(ib:PSnd K Γ Ψ b)(I:Rl K F H S ρ σ)(X:IE K F H S ρ E EK)(hm:∀j∈cA md b,∃v,σ[j]?=some (some v)){x:T}(h:sq x ρ ((pe Ψ b E).a md) P)
  (kk:∀ws F' H' S' ρ' ys W Y,Ste F H S ρ F' H' S' ρ'->Rl K F' H' S' ρ' σ->(∀st v Zx,Tr K F H st v x Zx->Tr K F' H' st v x Zx)->(x.isD=false->ρ'=ρ/\S'=S)->AR K (rG b) md H S ρ F' H' S' ρ' ws ys W Y->(fB md ws).map (fun v=>some (some v))=(cA md b).map (fun j=>σ[j]?)->P ys ρ'->RR ws H') :
  (wp K Γ b EK).a σ H RR:=by
 unfold sq at h;cases hd:x.isD with
 |true =>
  rw[hd,if_pos rfl]at h;refine ib.a I X hm h fun w F' H' S' ρ' y W Y s I' r mv q=>kk w F' H' S' ρ' y W Y s I' (fun st v Zx rx=>?_) (fun z=>(by rw[hd]at z;cases z)) r mv q;cases x with
  |d x=>cases rx with|d r n=>exact .d (r.mono s.ff) n
  |_=>cases hd
 |false =>
  rw[hd,if_neg (by simp)]at h;have X':IE K F H S (lockA ρ) E EK:=fun x dx F2 H2 S2 ρ2 s2 f r q=>X x dx F2 H2 S ρ s2.unlockA f r q;refine ib.a I.lockA X' hm h fun w F' H' S' ρ' y W Y s I' r mv q=>?_;have kp:∀st v t Zx,Tr K F H st v t Zx->Tr K F' H' st v t Zx:=fun st v t Zx rx=>s.keep rx fun b _=>vD b;refine kk w F' H' S ρ y W Y ⟨s.unlockA,fun j t h=>⟨t,h⟩⟩ (I.unlockA s.toStp I'.fh) (fun st v Zx rx=>kp st v _ Zx rx) (fun _=>⟨rfl,rfl⟩) ⟨r.av,fun b hb=>?_,fun b hb=>?_,fun i sl hi b hb z=>?_⟩ mv q;exact .inl ((r.fr b hb).elim id fun z=>absurd z (vD b));obtain⟨i,sl,h1,h2,h3⟩:=r.tm b hb;cases sl with
  |own t=>obtain⟨t0,h0⟩:=s.ow i t h2;obtain⟨_,_,e0⟩:=pB h0;cases e0
  |nv t =>
   cases hd:t.isD with
   |true=>exact absurd h3 (I'.isD h2 hd)
   |false=>obtain⟨g1,g2⟩:=s.bo i t h2 hd;obtain⟨s0,g3,_⟩:=pB g1;rw[g2]at h3;exact⟨i,s0,h1,g3,h3⟩
  rcases r.fr b hb with q|q
  ·exact(I.dom hi z).1 q
  exact absurd q (vD b)
theorem bE(ia:PSnd K Γ Ψ a)(I:Rl K F H S ρ σ)(X:IE K F H S ρ E EK){P:TK}{RR:VK}(h:(pe Ψ a E).e ρ P)
  (kk:∀v F' H' S' ρ' x n Z,Ste F H S ρ F' H' S' ρ'->Rl K F' H' S' ρ' σ->IE K F' H' S' ρ' E EK->Tr K F' H' false v (dA x n) Z->(kH x n=true->Rep K F' v x.er)->(∀b,Z b->∃(i:Nat) (s:Sl),i∈rG a/\ρ'[i]?=some (some s)/\S' i b)->P x n ρ'->RR v H') :
  (wp K Γ a EK).e σ H RR:=by
 refine ia.e I X h fun v F' H' S' ρ' x n Z s I' r q=>?_;obtain⟨F2,Z2,s2,I2,r2,e2,z2,_⟩:=r.frz s I';exact kk v F2 H' S' ρ' x n Z2 s2 I2 (X.from s2.toStp) r2 e2 z2 q
theorem vW(ia:PSnd K Γ Ψ a)(ib:PSnd K Γ Ψ b)(I:Rl K F H S ρ σ)(X:IE K F H S ρ E EK){P:T->Bool->T->Bool->kA->Prop}{RR:V->V->Hp->Prop}
  (h:(pe Ψ a E).e ρ fun x n ρ1=>sq (dA x n) ρ1 (cu (pe Ψ b E).e) fun y ρ2=>P x n y.1 y.2 ρ2)
  (kk:∀v w F' H' S' ρ' x n y m Za Zb,Ste F H S ρ F' H' S' ρ'->Rl K F' H' S' ρ' σ->IE K F' H' S' ρ' E EK->Tr K F' H' false v (dA x n) Za->(∀b,Za b->∃(i:Nat) (s:Sl),i∈rG a/\ρ'[i]?=some (some s)/\S' i b)->Tr K F' H' false w (dA y m) Zb ->
   P x n y m ρ'->RR v w H'):(wp K Γ a EK).e σ H fun v H1=>(wp K Γ b EK).e σ H1 fun w H2=>RR v w H2:=by
 refine bE ia I X h fun v F1 H1 S1 ρ1 x n Za s1 I1 X1 r1 _ z1 q1=>?_;refine Kc ib I1 X1 q1 fun w F2 H2 S2 ρ2 y m Z s2 I2 kp hs r2 q2=>?_;obtain⟨F3,Z3,s3,I3,r3,_,_,k3⟩:=r2.frz s2 I2;have za:∀b,Za b->∃(i:Nat) (s:Sl),i∈rG a/\ρ2[i]?=some (some s)/\S2 i b:=by
  cases hd:(dA x n).isD with
  |true =>
   intro b hb;exfalso;generalize dA x n=t at r1 hd;cases r1 with
   |d r n=>exact n b hb
   |_=>cases hd
  |false=>obtain⟨e1,e2⟩:=hs hd;rw[e1,e2];exact z1
 have s13:=s1.trans s3;exact kk v w F3 H2 S2 ρ2 x n y m Za Z3 s13 I3 (X.from s13.toStp) (k3 _ _ _ _ (kp _ _ _ r1) fun b hb=>let⟨i,s,_,h2⟩:=za b hb;⟨i,s,h2⟩) za r3 q2
theorem lS(ia:PSnd K Γ Ψ as)(I:Rl K F H S ρ σ)(X:IE K F H S ρ E EK)(h:(pe Ψ as E).a [] ρ P)
  (kk:∀vs F' H' S' ρ' xs Y,Ste F H S ρ F' H' S' ρ'->Rl K F' H' S' ρ' σ->IE K F' H' S' ρ' E EK->Tn K F' H' Y vs (ZL xs)->(∀b,Y b->∃(i:Nat) (s:Sl),i∈rG as/\ρ'[i]?=some (some s)/\S' i b)->P xs ρ'->RR vs H'):(wp K Γ as EK).a σ H RR:=by
 refine ia.a (md:=[]) I X (fun j hj=>by cases as<;>cases hj) h fun vs F' H' S' ρ' xs W Y s I' r _ q=>?_;obtain⟨F2,s2,I2,t,_⟩:=r.frz s I';exact kk vs F2 H' S' ρ' xs Y s2 I2 (X.from s2.toStp) t r.tm q
theorem jc(ia:PSnd K Γ Ψ a)(ib:PSnd K Γ Ψ as)(I:Rl K F H S ρ σ)(X:IE K F H S ρ E EK){P1:T->Bool->Prop}{P:T->Bool->List (T×Bool)->kA->Prop}{R1:V->Hp->Prop}{RR:V->List V->Hp->Prop}
  (h:(pe Ψ a E).e ρ fun x n ρ1=>P1 x n/\sq (dA x n) ρ1 ((pe Ψ as E).a []) fun xs ρ2=>P x n xs ρ2)
  (k1:∀v F' H' x n Za,Tr K F' H' false v (dA x n) Za->P1 x n->R1 v H')
  (kk:∀v vs F' H' S' ρ' x n xs Za Y,Ste F H S ρ F' H' S' ρ'->Rl K F' H' S' ρ' σ->IE K F' H' S' ρ' E EK->Tr K F' H' false v (dA x n) Za->(∀b,Za b->∃(i:Nat) (s:Sl),i∈rG a/\ρ'[i]?=some (some s)/\S' i b)->Tn K F' H' Y vs (ZL xs) ->
   P x n xs ρ'->RR v vs H'):(wp K Γ a EK).e σ H fun v H1=>R1 v H1/\(wp K Γ as EK).a σ H1 fun vs H2=>RR v vs H2:=by
 refine bE ia I X h fun v F1 H1 S1 ρ1 x n Za s1 I1 X1 r1 _ z1 ⟨p1,q1⟩=>⟨k1 v F1 H1 x n Za r1 p1,?_⟩
 refine Vc ib I1 X1 (fun j hj=>by cases as<;>cases hj) q1 fun vs F2 H2 S2 ρ2 xs W Y s2 I2 kp hs r2 _ q2=>?_;obtain⟨F3,s3,I3,tn,k3⟩:=r2.frz s2 I2;have za:∀b,Za b->∃(i:Nat) (s:Sl),i∈rG a/\ρ2[i]?=some (some s)/\S2 i b:=by
  cases hd:(dA x n).isD with
  |true =>
   intro b hb;exfalso;generalize dA x n=t at r1 hd;cases r1 with
   |d r n=>exact n b hb
   |_=>cases hd
  |false=>obtain⟨e1,e2⟩:=hs hd;rw[e1,e2];exact z1
 have s13:=s1.trans s3;exact kk v vs F3 H2 S2 ρ2 x n xs Za Y s13 I3 (X.from s13.toStp) (k3 _ _ _ _ (kp _ _ _ r1) fun b hb=>let⟨i,s,_,h2⟩:=za b hb;⟨i,s,h2⟩) za tn q2
def gU(K:QF)(F H:Hp)(Y:gB):Item->T->Prop
 | .one v,t=>∃Z,Tr K F H false v t Z/\∀b,Z b->Y b
 | .tup vs,t=>∃ds,t=.d (.tuple ds)/\Reps K F vs ds
theorem gU.mono{it:Item}(h:gU K F H Y it t)(e:Same F F1)(k:∀b,Y b->H1 b=H b/\F1 b=none):gU K F1 H1 Y it t:=by
 cases it with
 |one v=>obtain⟨Z,r,z⟩:=h;exact⟨Z,r.mono e fun b hb=>k b (z b hb),z⟩
 |tup vs=>obtain⟨ts,e1,r⟩:=h;exact⟨ts,e1,r.mono e⟩
theorem xY{xs:List V}(h:Trs K F H st xs ts Z)(z:∀b,Z b->Y b):Paired (gU K F H Y) (xs.map .one) ts :=
 Trs.ind (R:=fun _ xs ts Z=>(∀b,Z b->Y b)->Paired (gU K F H Y) (xs.map .one) ts) (fun _ _=>.nil) (fun h _ _ q ih z=>.cons ⟨_,h.weak,fun b hb=>z b ((q b).mpr (.inl hb))⟩ (ih fun b hb=>z b ((q b).mpr (.inr hb)))) h z
theorem UN{Y:gB}{α:Type}(f:α->V)(g:α->D)(h:∀x,Rep K F (f x) (g x)):∀(l:List α),Paired (gU K F H Y) (l.map fun x=>.one (f x)) (l.map fun x=>T.d (g x))
 |[]=>.nil
 |x::r=>.cons ⟨fun _=>False,.d (h x) fun _ z=>z,fun _ z=>z.elim⟩ (UN f g h r)
theorem Tr.lsS(f:Same F H)(h:Tr K F H st v t Z)(e:t.vw=.ls ts):∃a vs S',v=.ref a/\HC K H a vs/\Trs K F H false vs ts S'/\(∀b,S' b->Z b)/\∀F' H',Same F F'->Same F' H'->(∀b,Z b->H' b=H b)->HC K H' a vs:=by
 cases h with
 |d r n =>
  cases r with
  |lst q r=>injection e with e;subst e;exact⟨_,_,_,rfl,f.seq q,Trs.of_reps r,fun b hb=>hb.elim,fun F' H' e1 e2 _=>(e1.trans e2).seq q⟩
  |dct _ _ _=>exact(CG e).elim
  |_=>cases e
 |lst h _ r n q=>injection e with e;subst e;exact⟨_,_,_,rfl,HC.of h,r.weak,fun b hb=>(q b).mpr (.inr hb),fun F' H' _ _ k=>HC.of ((k _ ((q _).mpr (.inl rfl))).trans h)⟩
 |tup=>cases e
 |dct=>cases e
 |lstF h r n=>injection e with e;subst e;exact⟨_,_,_,rfl,f.seq h,Trs.of_reps r,fun b hb=>hb.elim,fun F' H' e1 e2 _=>(e1.trans e2).seq h⟩
theorem Tr.tpS(f:Same F H)(h:Tr K F H st v t Z)(e:t.vw=.tp ts):∃a vs S',v=.ref a/\TC K H a vs/\Trs K F H false vs ts S'/\(∀b,S' b->Z b)/\∀F' H',Same F F'->Same F' H'->(∀b,Z b->H' b=H b)->TC K H' a vs:=by
 cases h with
 |d r n =>
  cases r with
  |tup q r=>injection e with e;subst e;exact⟨_,_,_,rfl,f.tupl q,Trs.of_reps r,fun b hb=>hb.elim,fun F' H' e1 e2 _=>(e1.trans e2).tupl q⟩
  |dct _ _ _=>exact(HJ e).elim
  |_=>cases e
 |tup h _ r n q=>injection e with e;subst e;exact⟨_,_,_,rfl,TC.of h,r.weak,fun b hb=>(q b).mpr (.inr hb),fun F' H' _ _ k=>TC.of ((k _ ((q _).mpr (.inl rfl))).trans h)⟩
 |lst=>cases e
 |lstF=>cases e
 |dct=>cases e
theorem Tr.seqS(f:Same F H)(h:Tr K F H st v t Z)(e:t.vw.seq=some ts):∃a vs sz,v=.ref (Src.adr sz)/\aL K H sz vs/\(∃S',Trs K F H false vs ts S')/\a=Src.adr sz/\∀F' H',Same F F'->Same F' H'->(∀b,Z b->H' b=H b)->aL K H' sz vs:=by
 generalize ev:t.vw=w at e;cases w with
 |ls us=>cases e;obtain⟨a,vs,S',rfl,hq,rp,_,hs⟩:=h.lsS f ev;exact⟨a,vs,.l a,rfl,hq,⟨S',rp⟩,rfl,hs⟩
 |tp us=>cases e;obtain⟨a,vs,S',rfl,hq,rp,_,hs⟩:=h.tpS f ev;exact⟨a,vs,.t a,rfl,hq,⟨S',rp⟩,rfl,hs⟩
 |_=>cases e
theorem XH:∀(k:List Key),Reps K F (k.map kV) (k.map kD)
 |[]=>.nil
 | .inl i::k=>.cons (.int i) (XH k)
 | .inr z::k=>.cons (.str z) (XH k)
theorem iT{Y:gB}:∀{kvs:List KE}{ds:List D},EF K F kvs->Reps K F (kvs.map (·.2.2)) ds->Paired (gU K F H Y) (kvs.map fun p=>.tup [.ref p.2.1,p.2.2]) (((kvs.map fun p=>tD p.1).zip ds).map fun p=>T.d (.tuple [p.1,p.2]))
 |[],_,_,.nil=>.nil
 |p::r,_,hk,.cons h t=>by simp only[QN,WB];exact .cons ⟨[_,_],rfl,.cons (.tup (hk p QE) (XH p.1)) (.cons h .nil)⟩ (iT (fun p hp=>hk p (QG _ hp)) t)
theorem eT{Y:gB}:∀{kvs:List KE},EF K F kvs->Paired (gU K F H Y) (kvs.map fun p=>.one (.ref p.2.1)) ((kvs.map fun p=>tD p.1).map T.d)
 |[],_=>.nil
 |p::r,hk=>.cons ⟨fun _=>False,.d (.tup (hk p QE) (XH p.1)) fun _ z=>z,fun _ z=>z.elim⟩ (eT fun p hp=>hk p (QG _ hp))
theorem aT{Y:gB}:∀{xs ys:List V}{ds es:List D},Reps K F xs ds->Reps K F ys es->Paired (gU K F H Y) ((xs.zip ys).map fun p=>.tup [p.1,p.2]) ((ds.zip es).map fun p=>T.d (.tuple [p.1,p.2]))
 |_,_,_,_,.nil,_=>by simp only[List.zip_nil_left,qR];exact .nil
 |_,_,_,_,.cons _ _,.nil=>by simp only[List.zip_nil_right,qR];exact .nil
 |_,_,_,_,.cons h t,.cons h' t'=>by simp only[WB,QN];exact .cons ⟨[_,_],rfl,.cons h (.cons h' .nil)⟩ (aT t t')
theorem GP{Y:gB}:∀{xs:List V}{ds:List D}(_:Reps K F xs ds) (g:Nat->Int) (n:Nat),Paired (gU K F H Y) ((xs.zipIdx n).map fun p=>.tup [.int (g p.2),p.1]) ((ds.zipIdx n).map fun p=>T.d (.tuple [.int (g p.2),p.1]))
 |_,_,.nil,g,n=>by simp only[List.zipIdx_nil,qR];exact .nil
 |_,_,.cons h t,g,n=>by simp only[List.zipIdx_cons,QN];exact .cons ⟨[_,_],rfl,.cons (.int _) (.cons h .nil)⟩ (GP t g (n+1))
theorem iI{ik:ItK}{vs:List V}{RD:List T->Prop}{RR:List Item->(Hp->Prop)->Hp->Prop}(f:Same F H)(ra:Tn K F H Y vs ts)(h:NB ik (ts.map T.vw) RD)
  (k:∀xs ys st,Paired (gU K F H Y) xs ys->(∀F' H',Same F F'->Same F' H'->(∀b,Y b->H' b=H b)->st H')->RD ys->RR xs st H):vC K ik vs H RR:=by
 cases ik with
 |val =>
  rcases h with⟨z,e,h⟩| ⟨us,e,h⟩| ⟨us,e,h⟩| ⟨ks,us,e,h⟩
  obtain⟨v,t,Z,rfl,rfl,e,r,_⟩:=ra.one e;obtain rfl:=r.str e;exact k _ _ _ (UN (fun c=>.str ⟨#[c]⟩) (fun c=>.str ⟨#[c]⟩) (fun c=>.str _) _) (fun _ _ _ _ _=>trivial) h;obtain⟨v,t,Z,rfl,rfl,e,r,z⟩:=ra.one e;obtain⟨p,xs,S',rfl,hp,rp,z2,hs⟩:=r.lsS f e;exact .inl ⟨xs,hp,k _ _ _ (xY rp fun b hb=>z b (z2 b hb)) (fun F' H' e1 e2 q=>hs F' H' e1 e2 fun b hb=>q b (z b hb)) h⟩;obtain⟨v,t,Z,rfl,rfl,e,r,z⟩:=ra.one e;obtain⟨p,xs,S',rfl,hp,rp,z2,hs⟩:=r.tpS f e;exact .inr (.inl ⟨xs,hp,k _ _ _ (xY rp fun b hb=>z b (z2 b hb)) (fun F' H' e1 e2 q=>hs F' H' e1 e2 fun b hb=>q b (z b hb)) h⟩);obtain⟨v,t,Z,rfl,rfl,e1,r1,y1⟩:=ra.one e;obtain⟨a,o,xs,_,rfl,ha,dk,rp,_,hs⟩:=r1.dc f e1;obtain⟨ep,kvs,rfl,rfl,rfl,h4,_⟩:=dk;exact .inr (.inr ⟨ep,kvs,ha,k _ _ _ (eT h4) (fun F' H' e1 e2 q=>hs F' H' e1 e2 fun b hb=>q b (y1 b hb)) h⟩)
 |rng1=>obtain⟨j,e,h⟩:=h;obtain⟨v,t,Z,rfl,rfl,e,r,_⟩:=ra.one e;obtain rfl:=r.int e;exact⟨h.1,k _ _ _ (UN (fun(i:Nat)=>.int (i:Int)) (fun(i:Nat)=>.int (i:Int)) (fun c=>.int _) _) (fun _ _ _ _ _=>trivial) h.2⟩
 |zip2=>obtain⟨ts,us,ds,es,e,g3,g4,q⟩:=h;obtain⟨v,w,t,u,Z,Z',rfl,rfl,e1,e2,r1,r2,y1,y2⟩:=ra.two e;obtain⟨a,xs,_,rfl,hq,rp,_,hs⟩:=r1.lsS f e1;obtain⟨b,ys,_,rfl,hq2,rp2,_,hs2⟩:=r2.lsS f e2;exact⟨xs,ys,hq,hq2,k _ _ _ (aT (rp.un g3).1 (rp2.un g4).1) (fun F' H' e1 e2 q=>⟨hs F' H' e1 e2 fun b hb=>q b (y1 b hb),hs2 F' H' e1 e2 fun b hb=>q b (y2 b hb)⟩) q⟩
 |enum=>obtain⟨x,us,ds,e,g1,g3,q⟩:=h;obtain⟨v,t,Z,rfl,rfl,e1,r1,y1⟩:=ra.one e;obtain⟨a,xs,sz,rfl,hq,⟨_,rp⟩,_,hs⟩:=r1.seqS f (by rw[e1];exact g1);exact⟨sz,xs,rfl,hq,k _ _ _ (GP (rp.un g3).1 (fun i=>(i:Int)) 0) (fun F' H' e1 e2 q=>hs F' H' e1 e2 fun b hb=>q b (y1 b hb)) q⟩
 |itm =>
  rcases h with⟨ks,us,ds,e,g3,q⟩| ⟨e,q⟩
  rotate_left
  obtain⟨v,t,Z,rfl,rfl,e1,r1,y1⟩:=ra.one e;obtain⟨_,rp⟩:=r1.sc e1;generalize ed:PyData.dict []=d at rp;cases rp with
  |@dct b a o ks vs ds h q2 r =>
   have ez:ks.zip ds=[]:=by injection ed with ed;exact ed.symm
   have hl:ks.length=ds.length:=by rw[q2.len,Reps.length r]
   have ek:ks=[]:=by
    cases ks with
    |nil=>rfl
    |cons k ks =>
     cases ds with
     |nil=>cases hl
     |cons d ds=>cases ez
   subst ek;have eo:∃ep,o=.dT ep []:=by
    cases b with
    |true =>
     obtain⟨ep,kvs,e1,e2,_⟩:=q2;cases kvs with
     |nil=>exact⟨ep,e1⟩
     |cons p r=>cases e2
    |false =>
     rcases q2 with⟨kvs,n,_,e2,_⟩| ⟨ep,e1,_⟩
     cases kvs with
     |nil=>exact absurd rfl n
     |cons p r=>cases e2
     exact⟨ep,e1⟩
   obtain⟨ep,rfl⟩:=eo;exact⟨ep,[],f _ _ h,k _ _ _ .nil (fun F' H' e1 e2 _=>e2 _ _ (e1 _ _ h)) q⟩
  |_=>cases ed
  obtain⟨v,t,Z,rfl,rfl,e1,r1,y1⟩:=ra.one e;obtain⟨a,o,xs,_,rfl,ha,dk,rp,_,hs⟩:=r1.dc f e1;obtain⟨ep,kvs,rfl,rfl,rfl,h4,_⟩:=dk;exact⟨ep,kvs,ha,k _ _ _ (iT h4 (rp.un g3).1) (fun F' H' e1 e2 q=>hs F' H' e1 e2 fun b hb=>q b (y1 b hb)) q⟩
end
end
section
variable{i j:Nat}{Z:gB}
def DG(S:Ft)(i:Nat)(Z:gB):Ft:=fun j=>if j=i then Z else S j
theorem HA{S:Ft}:DG S i Z i=Z:=if_pos rfl
theorem aA{S:Ft}(h:j≠i):DG S i Z j=S j:=if_neg h
theorem uA{α:Type}{l:List α}{x y:α}(h:(l.set i x)[j]?=some y):(i=j/\y=x/\i<l.length)∨(i≠j/\l[j]?=some y):=by rw[wJ]at h;by_cases e:i=j;subst e;rw[if_pos rfl]at h;by_cases hl:i<l.length;rw[if_pos hl]at h;cases h;exact .inl ⟨rfl,rfl,hl⟩;rw[if_neg hl]at h;cases h;rw[if_neg e]at h;exact .inr ⟨e,h⟩
theorem GS{α:Type}{l:List α}{x:α}(h:i<l.length):(l.set i x)[i]?=some x:=by rw[wJ,if_pos rfl,if_pos h]
theorem OD{α:Type}{l:List α}{x:α}(h:i≠j):(l.set i x)[j]?=l[j]?:=by rw[wJ,if_neg h]
end
section
variable{K:QF}{Γ:Ev}{Ψ:PEv}{E:XE}{EK:XK}{F H F1 H1:Hp}{S S1:Ft}{ρ ρ1:kA}{σ:St}
section
variable{Z Y:gB}{J:List Nat}{F' H':Hp}{S':Ft}{ρ':kA}{σ':St}{st:Bool}{tg:Tg}{k:Nat}{mask:List Bool}
theorem Rl.setB(I:Rl K F H S ρ σ)(i:Nat){v:V}{t:T}(r:Tr K F H false v t Z)(hz:∀(j:Nat) u,j≠i->ρ[j]?=some (some (.own u))->∀b,Z b->¬ S j b):Rl K F H (DG S i Z) (ρ.set i (some (.nv t))) (σ.set i (some v)) where
 fh:=I.fh
 len:=by simpa using I.len
 sl:=fun j s h=>by
  rcases uA h with⟨rfl,e,hl⟩| ⟨hn,h⟩
  cases e;exact⟨v,GS (by rw[<- I.len];exact hl),by rw[HA];exact r⟩;rw[OD hn,aA (Q2 hn)];exact I.sl j s h
 dj:=fun j k t' s n h1 h2 b hb hk=>by
  rcases uA h1 with⟨_,e,_⟩| ⟨n1,h1⟩
  cases e;rw[aA (Q2 n1)]at hb;rcases uA h2 with⟨e,_,_⟩| ⟨n2,h2⟩
  subst e;rw[HA]at hk;exact hz j t' n h1 b hk hb;rw[aA (Q2 n2)]at hk;exact I.dj j k t' s n h1 h2 b hb hk
structure Bd(J:List Nat)(F H:Hp)(S:Ft)(ρ:kA)(σ:St)(F' H':Hp)(S':Ft)(ρ':kA)(σ':St):Prop where
 ff:Same F F'
 hh:Same H H'
 fn:∀b,F b=none->F' b≠none->H b=none
 out:∀j,j∉J->ρ'[j]?=ρ[j]?/\S' j=S j/\σ'[j]?=σ[j]?
 inn:∀j t,j∈J->ρ'[j]?≠some (some (.own t))
theorem Bd.U(h:Bd J F H S ρ σ F' H' S' ρ' σ'){b:Addr}(u:U ρ' S' b):L3.U ρ S b:=by obtain⟨i,t,h1,h2⟩:=u;by_cases hi:i∈J;exact absurd h1 (h.inn i t hi);obtain⟨e1,e2,_⟩:=h.out i hi;rw[e1]at h1;rw[e2]at h2;exact⟨i,t,h1,h2⟩
theorem Bd.dm(h:Bd J F H S ρ σ F' H' S' ρ' σ')(b:Addr)(e:H' b=none):H b=none:=h.hh.free e
theorem LS{Y:gB}(hy:∀b,Y b->¬ U ρ S b):∀(is:List Nat) {vs:List V}{ts:List T}{S1:Ft}{ρ1 ρ':kA}{σ1:St}{J:List Nat},(∀i∈is,i∈J)->Rl K F H S1 ρ1 σ1->(∀b,U ρ1 S1 b->U ρ S b)->Tn K F H Y vs ts->oB is ts ρ1=some ρ' ->
  ∃σ' S',jB is vs σ1=some σ'/\Rl K F H S' ρ' σ'/\(∀j,j∉J->ρ'[j]?=ρ1[j]?/\S' j=S1 j/\σ'[j]?=σ1[j]?)/\(∀j t,ρ'[j]?=some (some (.own t))->j∉is/\ρ1[j]?=some (some (.own t)))
 |[],_,_,S1,ρ1,ρ',σ1,J,hJ,I,hu,.nil,h=>by simp only[oB,Qq]at h;subst h;exact⟨σ1,S1,rfl,I,fun _ _=>⟨rfl,rfl,rfl⟩,fun j t h=>⟨(by simp),h⟩⟩
 |[],_,_,_,_,_,_,_,_,_,_,.cons _ _ _,h=>by simp[oB]at h
 |_::_,_,_,_,_,_,_,_,_,_,_,.nil,h=>by simp[oB]at h
 |i::is,_,_,S1,ρ1,ρ',σ1,J,hJ,I,hu,.cons (v:=v) (t:=t) (Z:=Z) r z tl,h=>by
  simp only[oB]at h;have nu:∀b,Z b->¬ U ρ1 S1 b:=fun b hb u=>hy b (z b hb) (hu b u);have I2:=I.setB i r fun j u _ hj b hb hs=>nu b hb ⟨j,u,hj,hs⟩;have hu2:∀b,U (ρ1.set i (some (.nv t))) (DG S1 i Z) b->U ρ S b:=fun b ⟨j,u,h1,h2⟩=>by
   rcases uA h1 with⟨_,e,_⟩| ⟨n,h1⟩
   cases e;rw[aA (Q2 n)]at h2;exact hu b ⟨j,u,h1,h2⟩
  obtain⟨σ',S',g1,g2,g3,g4⟩:=LS hy is (fun j hj=>hJ j (QG _ hj)) I2 hu2 tl h;refine⟨σ',S',g1,g2,fun j hj=>?_,fun j u hj=>?_⟩;obtain⟨e1,e2,e3⟩:=g3 j hj;have n:i≠j:=fun e=>hj (e▸hJ i QE);rw[OD n]at e1 e3;rw[aA (Q2 n)]at e2;exact⟨e1,e2,e3⟩;obtain⟨e1,e2⟩:=g4 j u hj;rcases uA e2 with⟨_,e,_⟩| ⟨n,e2⟩
  cases e;exact⟨fun m=>(QK.mp m).elim (fun e=>n e.symm) e1,e2⟩
theorem Tn.of_trs{vs:List V}{ts:List T}(h:Trs K F H st vs ts Z)(z:∀b,Z b->Y b):Tn K F H Y vs ts :=
 Trs.ind (R:=fun _ vs ts Z=>(∀b,Z b->Y b)->Tn K F H Y vs ts) (fun _ _=>.nil) (fun h _ _ q ih z=>.cons h.weak (fun b hb=>z b ((q b).mpr (.inl hb))) (ih fun b hb=>z b ((q b).mpr (.inr hb)))) h z
theorem uL{it:Item}{t:T}{QP:kA->Prop}{RP:St->Hp->Prop}(I:Rl K F H S ρ σ)(hy:∀b,Y b->¬ U ρ S b)(r:gU K F H Y it t)(h:bJ tg t ρ QP)
  (k:∀ρ2 σ2 F2 H2 S2,Bd tg.ix F H S ρ σ F2 H2 S2 ρ2 σ2->Rl K F2 H2 S2 ρ2 σ2->QP ρ2->RP σ2 H2):bindI K tg it σ H RP:=by
 have nm:∀(i:Nat) {v:V}{t:T}{Z:gB}{F2 H2:Hp}{S2:Ft},Same F F2->Same H H2->(∀b,F b=none->F2 b≠none->H b=none)->Rl K F2 H2 S2 ρ σ->S2=S->Tr K F2 H2 false v t Z->(∀b,Z b->¬ U ρ S b)->QP (ρ.set i (some (.nv t)))->tg=.nm i->RP (σ.set i (some v)) H2:=by
  intro i v t Z F2 H2 S2 e1 e2 e3 I2 hS r hz q ht;subst hS ht;refine k _ _ F2 H2 (DG S2 i Z) ⟨e1,e2,e3,fun j hj=>?_,fun j u hj hu=>?_⟩ (I2.setB i r fun j u _ hj b hb hs=>hz b hb ⟨j,u,hj,hs⟩) q;have n:i≠j:=fun e=>hj (by subst e;exact QI.mpr rfl);exact⟨OD n,aA (Q2 n),OD n⟩;have e:j=i:=QI.mp hj;subst e;rcases uA hu with⟨_,e,_⟩| ⟨n,_⟩
  cases e;exact n rfl
 have tp:∀(is:List Nat) {vs:List V}{ts:List T}{H2:Hp}{ρ':kA},Same H H2->tg=.tp is->Tn K F H2 Y vs ts->oB is ts ρ=some ρ'->QP ρ'->∃σ',jB is vs σ=some σ'/\RP σ' H2:=by intro is vs ts H2 ρ' e2 ht r e q;subst ht;obtain⟨σ',S',g1,g2,g3,g4⟩:=LS hy is (J:=is) (fun i hi=>hi) (I.same e2) (fun b u=>u) r e;exact⟨σ',g1,k _ _ F H2 S' ⟨.refl _,e2,fun b h z=>absurd h z,g3,fun j u hj hu=>(g4 j u hu).1 hj⟩ g2 q⟩
 cases it with
 |one v =>
  obtain⟨Z,r,z⟩:=r;cases tg with
  |nm i=>exact nm i (.refl _) (.refl _) (fun b h z=>absurd h z) I rfl r (fun b hb=>hy b (z b hb)) h rfl
  |tp is=>have h2:(match t.vw with | .tp ts=>∃ρ',oB is ts ρ=some ρ'/\QP ρ'|_=>False):=h;split at h2;rename_i ts e;obtain⟨ρ',e1,q⟩:=h2;obtain⟨a,vs,S',rfl,hp,rp,z2⟩:=r.tp I.fh e;obtain⟨σ',g1,g2⟩:=tp is (.refl _) rfl (Tn.of_trs rp fun b hb=>z b (z2 b hb)) e1 q;exact⟨vs,σ',hp,g1,g2⟩;exact h2.elim
 |tup vs =>
  obtain⟨ds,rfl,rd⟩:=r;cases tg with
  |nm i=>intro p hp;refine nm i (XB (I.fh.free hp)) (XB hp) (fun b h1 h2=>?_) (I.newT hp (.tup vs)) rfl (.d (S:=fun _=>False) (.tup (TC.of ZA) (rd.mono (XB (I.fh.free hp)))) fun _ z=>z) (fun b z=>z.elim) h rfl;by_cases hb:b=p;rw[hb];exact hp;rw[vA hb]at h2;exact absurd h1 h2
  |tp is=>intro H' s;obtain⟨ρ',e1,q⟩:=h;exact tp is s rfl (Tn.of_trs (Trs.of_reps (st:=false) rd) fun b hb=>hb.elim) e1 q
def X4(k:Nat)(S:Ft):Ft:=fun i=>if i<k then fun _=>False else S (i - k)
theorem dM:∀(m:List Bool) (ρ:kA) (i:Nat) s,(EC m ρ)[i]?=some (some s)->ρ[i]?=some (some s)/\m.getD i false=false
 |[],ρ,i,s,h=>by
  have e:EC [] ρ=ρ:=by cases ρ<;>rfl
  rw[e]at h;exact⟨h,rfl⟩
 |b::m,[],i,s,h=>by simp[EC]at h
 |b::m,v::ρ,0,s,h=>by
  cases b with
  |true=>simp[EC]at h
  |false=>simp[EC]at h;simp[h]
 |b::m,v::ρ,i+1,s,h=>by simp only[EC,wo]at h;obtain⟨h1,h2⟩:=dM m ρ i s h;exact⟨by simpa using h1,by simpa using h2⟩
theorem bM:∀(m:List Bool) (σ:St) (i:Nat) v,σ[i]?=some (some v)->m.getD i false=false->(CC m σ)[i]?=some (some v)
 |[],σ,i,v,h,_=>by
  have e:CC [] σ=σ:=by cases σ<;>rfl
  rw[e];exact h
 |b::m,[],i,v,h,_=>by simp at h
 |b::m,w::σ,0,v,h,hb=>by
  have:b=false:=by simpa using hb
  subst this;simpa[CC]using h
 |b::m,w::σ,i+1,v,h,hb=>by simp only[CC,wo];exact bM m σ i v (by simpa using h) (by simpa using hb)
theorem cM:∀(m:List Bool) (ρ:kA),(EC m ρ).length=ρ.length
 |[],ρ=>by cases ρ<;>rfl
 |_::_,[]=>rfl
 |b::m,v::ρ=>by simp[EC,cM m ρ]
theorem BF{ρ:kA}{i:Nat}{s:Sl}(h:(KL k mask ρ)[i]?=some (some s)):k<=i/\ρ[i - k]?=some (some s)/\mask.getD (i - k) false=false:=by unfold KL at h;rcases QAx i k with z|z;rw[qV (by simpa using z),wr]at h;split at h<;>cases h;rw[qI (by simpa using z)]at h;simp only[qZ]at h;obtain⟨h1,h2⟩:=dM mask ρ _ s h;exact⟨z,h1,h2⟩
theorem Rl.ent(I:Rl K F H S ρ σ)(k:Nat)(mask:List Bool):Rl K F H (X4 k S) (KL k mask ρ) (GH k mask σ) where
 fh:=I.fh
 len:=by simp[KL,GH,cM,eI,I.len]
 sl:=fun i s h=>by obtain⟨h0,h1,h2⟩:=BF h;obtain⟨v,g1,g2⟩:=I.sl _ s h1;refine⟨v,?_,?_⟩;unfold GH;rw[qI (by simpa using h0)];simp only[qZ];exact bM mask σ _ v g1 h2;unfold X4;rw[if_neg (by omega)];exact g2
 dj:=fun i j t s n h1 h2 b hb hj=>by obtain⟨a0,a1,_⟩:=BF h1;obtain⟨b0,b1,_⟩:=BF h2;unfold X4 at hb hj;rw[if_neg (by omega)]at hb hj;exact I.dj (i - k) (j - k) t s (by omega) a1 b1 b hb hj
theorem GT(b:Addr):¬ U (KL k mask (lockA ρ)) S' b:=fun⟨i,t,h,_⟩=>by obtain⟨_,h1,_⟩:=BF h;obtain⟨_,_,e⟩:=pB h1;cases e
theorem Paired.get_of{α β:Type}{R:α->β->Prop}{xs:List α}{ys:List β}(h:Paired R xs ys):∀{i:Nat}{x:α},xs[i]?=some x->∃y,ys.drop i=y::ys.drop (i+1)/\R x y:=by
 induction h with
 |nil=>intro i x e;simp at e
 |@cons x y xs ys h t ih =>
  intro i z e;cases i with
  |zero=>simp at e;subst e;exact⟨y,by simp,h⟩
  |succ i=>obtain⟨y',h1,h2⟩:=ih (i:=i) (by simpa using e);exact⟨y',by simpa using h1,h2⟩
structure Pur(F H F' H':Hp):Prop where
 ff:Same F F'
 hh:Same H H'
 fn:∀b,F b=none->F' b≠none->H b=none
theorem Pur.trans{F2 H2:Hp}(a:Pur F H F1 H1)(b:Pur F1 H1 F2 H2):Pur F H F2 H2:=⟨a.ff.trans b.ff,a.hh.trans b.hh,fun x h z=>by by_cases q:F1 x=none;exact a.hh.free (b.fn x q z);exact a.fn x h q⟩
theorem Pur.ste(p:Pur F H F1 H1):Ste F H S ρ F1 H1 S ρ:=⟨⟨p.ff,fun b u h _=>p.hh b u h,fun b h=>p.hh.free h,fun b h z=>.inr (p.fn b h z),fun b h=>.inl h,fun _ _ h _=>⟨h,rfl⟩⟩,fun _ t h=>⟨t,h⟩⟩
theorem Pur.rl(p:Pur F H F1 H1)(f:Same F1 H1)(I:Rl K F H S ρ σ):Rl K F1 H1 S ρ σ:=⟨f,I.len,fun i s e=>by
 obtain⟨v,h1,h2⟩:=I.sl i s e;exact⟨v,h1,h2.mono p.ff fun b hb=>by
  obtain⟨d1,d2⟩:=h2.dom b hb;refine⟨?_,?_⟩;cases e:H b with
  |none=>exact absurd e d1
  |some u=>exact p.hh b u e
  by_cases q:F1 b=none
  ·exact q
  exact absurd (p.fn b d2 q) d1⟩,I.dj⟩
theorem Stp.pur(s:Stp F H S ρ F1 H1 S' ρ')(n:∀b,¬ U ρ S b):Pur F H F1 H1:=⟨s.ff,fun b u h=>s.hh b u h (n b),fun b h z=>(s.fn b h z).elim (fun q=>absurd q (n b)) id⟩
theorem Pur.trs(p:Pur F H F1 H1){v:List V}{t:List T}(h:Trs K F H st v t Z):Trs K F1 H1 st v t Z:=h.mono p.ff fun b hb=>by
  obtain⟨d1,d2⟩:=h.dom b hb;refine⟨?_,?_⟩;cases e:H b with
  |none=>exact absurd e d1
  |some u=>exact p.hh b u e
  by_cases q:F1 b=none
  ·exact q
  exact absurd (p.fn b d2 q) d1
theorem GY{ws:List Nat}{k0:Nat}{c:kA->(Bool->kA->Prop)->Prop}{e:kA->TK->Prop}{tc:TT}{te:TE}{us:List Nat}
  (ic:∀{F H:Hp}{S:Ft}{ρ:kA}{σ:St}{Q:Bool->kA->Prop}{R:Bool->Hp->Prop},Rl K F H S ρ σ->c ρ Q->zI K F H S ρ σ Q R->tc σ H R)
  (ie:∀{F H:Hp}{S:Ft}{ρ:kA}{σ:St}{Q:TK}{R:VK},Rl K F H S ρ σ->e ρ Q->uB K us F H S ρ σ Q R->te σ H R)
  {F0 H0:Hp}{S0:Ft}{ρ0:kA}(s:Ste F0 H0 S0 ρ0 F H S ρ) (I:Rl K F H S ρ σ) {xs:List Item}{ys:List T}{st:Hp->Prop}(pr:Paired (gU K F H Y) xs ys) (hyd:∀b,Y b->H b≠none/\F b=none) (hst:∀F' H',Same F F'->Same F' H'->(∀b,Y b->H' b=H b)->st H') {Q:TK}{R:VK}
  (h:eD (HF tg (KL k0 mask (lockA ρ)) c e) ys [] fun ys=>Q (.lst ys) true ρ) (k:uB K ws F0 H0 S0 ρ0 σ Q R) :
  lU K xs st tg tc te (GH k0 mask σ) H R:=by
 refine HY ?_;have len:=qJ pr;have yk:∀{F' H':Hp},Pur F H F' H'->∀b,Y b->H' b=H b/\F' b=none:=fun {F' H'} p b hb=>by
  obtain⟨d1,d2⟩:=hyd b hb;refine⟨?_,?_⟩;cases e:H b with
  |none=>exact absurd e d1
  |some u=>exact p.hh b u e
  by_cases q:F' b=none
  ·exact q
  exact absurd (p.fn b d2 q) d1
 refine⟨fun i acc H'=>∃F' dacc W,Pur F H F' H'/\Same F' H'/\Trs K F' H' true acc dacc W/\(∀b,W b->H b=none)/\eD (HF tg (KL k0 mask (lockA ρ)) c e) (ys.drop i) dacc fun ys=>Q (.lst ys) true ρ,
  ⟨F,[],fun _=>False,⟨.refl _,.refl _,fun b h z=>absurd h z⟩,I.fh,.nil fun _ z=>z,fun _ z=>z.elim,by simpa using h⟩,?_,?_,?_⟩
 rintro i acc H' _ ⟨F',dacc,W,p,f,_,_,_⟩;exact hst F' H' p.ff f fun b hb=>(yk p b hb).1;rintro i x acc H1 hx ⟨F1,dacc,W,p1,f1,ra,hw,hc⟩;obtain⟨y,hd,ry⟩:=Paired.get_of pr hx;rw[hd]at hc;unfold eD at hc;unfold HF at hc;have I1:Rl K F1 H1 (X4 k0 S) (KL k0 mask (lockA ρ)) (GH k0 mask σ):=((p1.rl f1 I).lockA).ent k0 mask;refine uL I1 (fun b _=>GT b) (ry.mono p1.ff (yk p1)) hc fun ρ2 σ2 F2 H2 S2 bd I2 hc=>?_;have p2:Pur F1 H1 F2 H2:=⟨bd.ff,bd.hh,bd.fn⟩
 have nu2:∀b,¬ U ρ2 S2 b:=fun b u=>GT b (bd.U u);refine ic I2 hc fun b F3 H3 S3 ρ3 s3 I3 q=>?_;have p3:Pur F2 H2 F3 H3:=s3.toStp.pur nu2;have nu3:∀b,¬ U ρ3 S3 b:=fun b ⟨j,t,h1,_⟩=>by obtain⟨t0,h0⟩:=s3.ow j t h1;by_cases hj:j∈tg.ix;exact bd.inn j t0 hj h0;rw[(bd.out j hj).1]at h0;obtain⟨_,h1,_⟩:=BF h0;obtain⟨_,_,e⟩:=pB h1;cases e
 have p123:=p1.trans (p2.trans p3);cases b with
 |false=>exact⟨F3,dacc,W,p123,I3.fh,p3.trs (p2.trs ra),hw,q⟩
 |true =>
  refine ie I3 q fun v F4 H4 S4 ρ4 z n Z s4 I4 r4 ⟨hk,hl,hc⟩=>?_;have p4:Pur F3 H3 F4 H4:=s4.toStp.pur nu3;have ra4:=p4.trs (p3.trs (p2.trs ra));have rz:∃Z',Tr K F4 H4 true v z Z'/\∀b,Z' b->H3 b=none:=by
   cases n with
   |true=>exact⟨Z,r4.tr,fun b hb=>(r4.fr rfl b hb).elim id fun u=>absurd u (nu3 b)⟩
   |false =>
    cases z with
    |d x =>
     have tr:=r4.tr;cases tr with
     |d r n=>exact⟨fun _=>False,.d r fun _ z=>z,fun _ z=>z.elim⟩
    |_=>exact absurd hk (by simp[kH,T.isD])
  obtain⟨Z',rz,fz⟩:=rz;refine⟨by rw[ra.length];exact hl,F4,_,fun b=>W b∨Z' b,p123.trans p4,I4.fh,ra4.append (Trs.one rz) fun b hb hz=>?_,fun b hb=>?_,hc⟩;have q1:=(ra.dom b hb).1;exact q1 ((p2.trans p3).hh.free (fz b hz));rcases hb with hb|hb
  ·exact hw b hb
  exact p123.hh.free (fz b hb)
 rintro acc H' ⟨F',dacc,W,p,f,ra,hw,hc⟩;rw[len,QBx]at hc;unfold eD at hc;have I':=p.rl f I;refine⟨by rw[ra.length];exact hc.1,fun q hq=>?_⟩;refine uB.list (k.from s) (p.ste) I' hq ra (fun b hb=>.inl (hw b hb)) ⟨ra.dom,fun i sl hi b hb z=>?_⟩ hc.2;exact(I.dom hi z).1 (hw b hb)
end
end
section
variable{K:QF}{Γ:Ev}{Ψ:PEv}{E:XE}{EK:XK}{F H F1 H1:Hp}{S S1:Ft}{ρ ρ1:kA}{σ:St}
theorem Tr.ko{v:V}{u t:T}{Z:gB}(h:Tr K F H false v u Z)(e:yF u=some t):Tr K F H false v t Z:=by
 unfold yF at e;split at e;rename_i ts ev;cases ed:tE ts with
 |none=>rw[ed]at e;cases e
 |some ds =>
  rw[ed]at e;injection e with e;subst e;cases h with
  |d r n =>
   cases r with
   |lst q r=>injection ev with ev;subst ev;rw[pA]at ed;injection ed with ed;subst ed;exact .lstF q r n
   |dct _ _ _=>exact(CG ev).elim
   |_=>cases ev
  |lst h1 h2 h3 h4 h5=>injection ev with ev;subst ev;show Tr K F H false _ (.lst (ds.map T.d)) Z;rw[<- RJ ed];exact .lst h1 h2 h3 h4 h5
  |tup=>cases ev
  |dct=>cases ev
  |lstF h1 h2 h3=>injection ev with ev;subst ev;rw[pA]at ed;injection ed with ed;subst ed;exact .lstF h1 h2 h3
 split at e
 ·injection e with e;subst e;exact h
 cases e
theorem AV.pass{Y:gB}{md:List Md}{vs:List V}{xs:List (T×Bool)}{W:gB}(h:AV K F H md vs xs W Y)(e:Same F F1)(k:∀b,W b->F1 b=H b)(k2:∀b,Y b->F b=none->F1 b=none) :
  ∀{os ts:List T},YA md xs os=some ts->ArgsR K F1 H Y md vs ts/\KB md ts=os:=by
 induction h with
 |nil h =>
  intro os ts hp;cases os with
  |nil=>simp only[YA,Qq]at hp;subst hp;exact⟨.nil,rfl⟩
  |cons _ _=>simp[YA]at hp
 |@chg md v vs x xs W Y h t ih =>
  intro os ts hp;have hm:md.headD .ny=.chg:=by generalize md.headD .ny=m at h;cases m<;>first|rfl|cases h
  unfold YA at hp;rw[hm]at hp;cases os with
  |nil=>cases hp
  |cons o os =>
   cases ep:YA md.tail xs os with
   |none=>simp only[ep,wk]at hp;cases hp
   |some us=>simp only[ep,Q9,Qq]at hp;subst hp;obtain⟨h1,h2⟩:=ih k k2 ep;refine⟨.chg hm h1,?_⟩;unfold KB;rw[hm];simp only[h2]
 |@new md v vs x xs Z W W' Y h r t n q ih =>
  intro os ts hp;have r':Tr K F1 H false v (.d x.er) (fun _=>False):=.d (r.kept e fun b u hb eu=>by rw[k b ((q b).mpr (.inl hb))];exact eu) fun _ z=>z;have ihk:=@ih (fun b hb=>k b ((q b).mpr (.inr hb))) k2;unfold YA at hp;cases hm:md.headD .ny with
  |chg=>rw[hm]at h;cases h
  |ny =>
   simp only[hm,dA]at hp;cases ep:YA md.tail xs os with
   |none=>simp only[ep,wk]at hp;cases hp
   |some us=>simp only[ep,Q9,Qq]at hp;subst hp;obtain⟨h1,h2⟩:=ihk ep;exact⟨.rd (by rw[hm];simp) r' (fun _ z=>z.elim) h1,by unfold KB;rw[hm];exact h2⟩
  |ko =>
   simp only[hm,dA]at hp;cases es:yF (.d x.er) with
   |none=>simp only[es]at hp;cases hp
   |some u =>
    simp only[es]at hp;cases ep:YA md.tail xs os with
    |none=>simp only[ep,wk]at hp;cases hp
    |some us=>simp only[ep,Q9,Qq]at hp;subst hp;obtain⟨h1,h2⟩:=ihk ep;exact⟨.rd (by rw[hm];simp) (r'.ko es) (fun _ z=>z.elim) h1,by unfold KB;rw[hm];exact h2⟩
  |nv =>
   simp only[hm,dA]at hp;cases ep:YA md.tail xs os with
   |none=>simp only[ep,wk]at hp;cases hp
   |some us=>simp only[ep,Q9,Qq]at hp;subst hp;obtain⟨h1,h2⟩:=ihk ep;exact⟨.rd (by rw[hm];simp) r' (fun _ z=>z.elim) h1,by unfold KB;rw[hm];exact h2⟩
 |@tmp md v vs x xs Z W Y h r z t ih =>
  intro os ts hp;have r':Tr K F1 H false v x Z:=r.mono e fun b hb=>⟨rfl,k2 b (z b hb) (r.dom b hb).2⟩
  have ihk:=@ih k k2;unfold YA at hp;cases hm:md.headD .ny with
  |chg=>rw[hm]at h;cases h
  |ny =>
   simp only[hm,dA]at hp;cases x with
   |d x =>
    cases ep:YA md.tail xs os with
    |none=>simp only[ep,wk]at hp;cases hp
    |some us=>simp only[ep,Q9,Qq]at hp;subst hp;obtain⟨h1,h2⟩:=ihk ep;exact⟨.rd (by rw[hm];simp) r' z h1,by unfold KB;rw[hm];exact h2⟩
   |_=>cases hp
  |ko =>
   simp only[hm,dA]at hp;cases es:yF x with
   |none=>simp only[es]at hp;cases hp
   |some u =>
    simp only[es]at hp;cases ep:YA md.tail xs os with
    |none=>simp only[ep,wk]at hp;cases hp
    |some us=>simp only[ep,Q9,Qq]at hp;subst hp;obtain⟨h1,h2⟩:=ihk ep;exact⟨.rd (by rw[hm];simp) (r'.ko es) z h1,by unfold KB;rw[hm];exact h2⟩
  |nv =>
   simp only[hm,dA]at hp;cases ep:YA md.tail xs os with
   |none=>simp only[ep,wk]at hp;cases hp
   |some us=>simp only[ep,Q9,Qq]at hp;subst hp;obtain⟨h1,h2⟩:=ihk ep;exact⟨.rd (by rw[hm];simp) r' z h1,by unfold KB;rw[hm];exact h2⟩
theorem cD:∀(J:List Nat) (ρ:kA) (i:Nat) s,(clear J ρ)[i]?=some (some s)->i∉J/\ρ[i]?=some (some s)
 |[],ρ,i,s,h=>⟨(by simp),h⟩
 |j::J,ρ,i,s,h=>by
  unfold clear at h;obtain⟨h1,h2⟩:=cD J _ i s h;rcases uA h2 with⟨_,e,_⟩| ⟨n,h3⟩
  cases e;exact⟨fun m=>(QK.mp m).elim (fun e=>n e.symm) h1,h3⟩
theorem tM:∀(J:List Nat) (ρ:kA),(clear J ρ).length=ρ.length
 |[],_=>rfl
 |j::J,ρ=>by unfold clear;rw[tM J];simp
theorem Rl.drop(I:Rl K F H S ρ σ)(hl:ρ1.length=ρ.length)(h:∀(i:Nat) s,ρ1[i]?=some (some s)->ρ[i]?=some (some s)):Rl K F H S ρ1 σ :=
 ⟨I.fh,hl.trans I.len,fun i s e=>I.sl i s (h i s e),fun i j t s n e1 e2=>I.dj i j t s n (h i _ e1) (h j _ e2)⟩
theorem DD:∀{J:List Nat}{ρ:kA}{os:List T},OA J ρ=some os->os.length=J.length/\∀(i:Nat) j,J[i]?=some j->∃t,os[i]?=some t/\ρ[j]?=some (some (.own t))
 |[],ρ,os,h=>by simp only[OA,Qq]at h;subst h;exact⟨rfl,fun i j e=>by simp at e⟩
 |j::J,ρ,os,h=>by
  unfold OA at h;split at h;rename_i t e;cases eo:OA J ρ with
  |none=>rw[eo]at h;cases h
  |some us =>
   rw[eo]at h;injection h with h;subst h;obtain⟨h1,h2⟩:=DD eo;refine⟨by simp[h1],fun i k hk=>?_⟩;cases i with
   |zero=>simp at hk;subst hk;exact⟨t,rfl,e⟩
   |succ i=>obtain⟨u,g1,g2⟩:=h2 i k (by simpa using hk);exact⟨u,by simpa using g1,g2⟩
  cases h
theorem Rl.trs(I:Rl K F H S ρ σ):∀{J:List Nat}{os:List T}{vs:List V},J.Nodup->OA J ρ=some os->vs.map (fun v=>some (some v))=J.map (fun j=>σ[j]?)->Trs K F H true vs os (fun b=>∃j∈J,S j b)
 |[],os,vs,_,h,hv=>by
  simp only[OA,Qq]at h;subst h;cases vs with
  |nil=>exact .nil fun b ⟨j,hj,_⟩=>by simp at hj
  |cons _ _=>simp at hv
 |j::J,os,vs,nd,h,hv=>by
  unfold OA at h;split at h;rename_i t e;cases eo:OA J ρ with
  |none=>rw[eo]at h;cases h
  |some us =>
   rw[eo]at h;injection h with h;subst h;cases vs with
   |nil=>simp at hv
   |cons v vs =>
    simp only[QN,Wf]at hv;obtain⟨v',g1,g2⟩:=I.sl j _ e;rw[g1]at hv;have:v=v':=by simpa using hv.1
    subst this;have nd':=Qk.mp nd;refine .cons g2 (Rl.trs I nd'.2 eo hv.2) (fun b hb ⟨k,hk,z⟩=>?_) fun b=>?_;obtain⟨i,hi⟩:=Ww.mp hk;obtain⟨u,_,hu⟩:=(DD eo).2 i k hi;exact I.dj j k t _ (fun z=>nd'.1 (z▸hk)) e hu b hb z;constructor
    ·rintro⟨k,hk,z⟩
     rcases QK.mp hk with e|e;subst e;exact .inl z;exact .inr ⟨k,e,z⟩
    rintro(z|⟨k,hk,z⟩)
    ·exact⟨j,QE,z⟩
    exact⟨k,QG _ hk,z⟩
  cases h
theorem Rl.setO(I:Rl K F H S ρ σ)(i:Nat){v:V}{t:T}{Z:gB}(hv:σ[i]?=some (some v))(r:Tr K F H true v t Z)(hz:∀(j:Nat) s,j≠i->ρ[j]?=some (some s)->∀b,Z b->¬ S j b):Rl K F H (DG S i Z) (ρ.set i (some (.own t))) σ where
 fh:=I.fh
 len:=by simpa using I.len
 sl:=fun j s h=>by
  rcases uA h with⟨rfl,e,hl⟩| ⟨hn,h⟩
  cases e;exact⟨v,hv,by rw[HA];exact r⟩;rw[aA (Q2 hn)];exact I.sl j s h
 dj:=fun j k t' s n h1 h2 b hb hk=>by
  rcases uA h1 with⟨e,_,_⟩| ⟨n1,h1⟩
  subst e;rw[HA]at hb;rcases uA h2 with⟨e,_,_⟩| ⟨n2,h2⟩
  exact n e;rw[aA (Q2 n2)]at hk;exact hz k s (Q2 n2) h2 b hb hk;rw[aA (Q2 n1)]at hb;rcases uA h2 with⟨e,_,_⟩| ⟨n2,h2⟩
  subst e;rw[HA]at hk;exact hz j _ n h1 b hk hb;rw[aA (Q2 n2)]at hk;exact I.dj j k t' s n h1 h2 b hb hk
theorem bK:∀{J:List Nat}{os:List T}{vs:List V}{M:gB}{S1:Ft}{ρ1 ρ2:kA},J.Nodup->Rl K F H S1 ρ1 σ->Trs K F H true vs os M->vs.map (fun v=>some (some v))=J.map (fun j=>σ[j]?)->Held F H S1 ρ1 M->yC J os ρ1=some ρ2 ->
  ∃S2,Rl K F H S2 ρ2 σ/\(∀i,i∉J->ρ2[i]?=ρ1[i]?/\S2 i=S1 i)/\∀i∈J,∀s,ρ2[i]?=some (some s)->(∃t,s=.own t)/\∀b,S2 i b->M b
 |[],os,vs,M,S1,ρ1,ρ2,nd,I,r,hv,hm,h=>by
  cases os with
  |nil=>simp only[yC,Qq]at h;subst h;exact⟨S1,I,fun _ _=>⟨rfl,rfl⟩,fun i hi=>by simp at hi⟩
  |cons _ _=>simp[yC]at h
 |j::J,os,vs,M,S1,ρ1,ρ2,nd,I,r,hv,hm,h=>by
  cases r with
  |nil _=>simp[yC]at h
  |@cons _ v t vs ts _ Z M' r1 r2 n q =>
   simp only[yC]at h;simp only[QN,Wf]at hv;have nd':=Qk.mp nd;have I2:=I.setO j hv.1.symm r1 fun k s _ hk b hb=>hm.nw k s hk b ((q b).mpr (.inl hb));have hm2:Held F H (DG S1 j Z) (ρ1.set j (some (.own t))) M':=⟨fun b hb=>hm.dom b ((q b).mpr (.inr hb)),fun i s hi b hb z=>by
    rcases uA hi with⟨rfl,_,_⟩| ⟨ne,hi⟩
    rw[HA]at z;exact n b z hb;rw[aA (Q2 ne)]at z;exact hm.nw i s hi b ((q b).mpr (.inr hb)) z⟩
   obtain⟨S2,g1,g2,g3⟩:=bK nd'.2 I2 r2 hv.2 hm2 h;refine⟨S2,g1,fun i hi=>?_,fun i hi s hs=>?_⟩;have ni:j≠i:=fun e=>hi (e▸QE);obtain⟨e1,e2⟩:=g2 i fun m=>hi (QG _ m);rw[OD ni]at e1;rw[aA (Q2 ni)]at e2;exact⟨e1,e2⟩;rcases QK.mp hi with e|e
   ·subst e
    obtain⟨e1,e2⟩:=g2 i nd'.1;rw[e1]at hs;rcases uA hs with⟨_,e,_⟩| ⟨ne,_⟩
    injection e with e;refine⟨⟨t,e⟩,fun b hb=>?_⟩;rw[e2,HA]at hb;exact(q b).mpr (.inl hb);exact absurd rfl ne
   obtain⟨h1,h2⟩:=g3 i e s hs;exact⟨h1,fun b hb=>(q b).mpr (.inr (h2 b hb))⟩
theorem O4{f:Str}{as:PX}(g:GOk K Γ Ψ)(ia:PSnd K Γ Ψ as)(I:Rl K F H S ρ σ)(X:IE K F H S ρ E EK){Q:TK}{R:VK}{ws:List Nat}(h:(pe Ψ (.call f as) E).e ρ Q)(k:uB K ws F H S ρ σ Q R):(wp K Γ (.call f as) EK).e σ H R:=by
 obtain⟨os,ho,nd,h⟩:=h;generalize hJ:cA (Ψ.sp f).md as=J at ho nd h;have own:∀j∈J,∃t,ρ[j]?=some (some (.own t)):=fun j hj=>by obtain⟨i,hi⟩:=Ww.mp hj;obtain⟨t,_,e⟩:=(DD ho).2 i j hi;exact⟨t,e⟩
 have I0:Rl K F H S (clear J ρ) σ:=I.drop (tM J ρ) fun i s e=>(cD J ρ i s e).2;have u0:∀b,U (clear J ρ) S b->U ρ S b:=fun b ⟨i,t,h1,h2⟩=>⟨i,t,(cD J ρ i _ h1).2,h2⟩
 have X0:IE K F H S (clear J ρ) E EK:=fun x dx F2 H2 S2 ρ2 s2 ff r q=>X x dx F2 H2 (fun _ _=>False) [] ⟨s2.ff,fun b u e n=>s2.hh b u e fun z=>n (u0 b z),s2.dm,fun b e z=>(s2.fn b e z).imp (u0 b) id,fun b ⟨i,t,e,_⟩=>by simp at e,fun j t e=>by simp at e⟩ ff r q;have hm:∀j∈cA (Ψ.sp f).md as,∃v,σ[j]?=some (some v):=fun j hj=>by obtain⟨t,e⟩:=own j (hJ▸hj);obtain⟨v,h1,_⟩:=I.sl j _ e;exact⟨v,h1⟩
 show(wp K Γ as EK).a σ H fun vs H1=>Γ.sp f vs H1 R EK;refine ia.a I0 X0 hm h fun vs F1 H1 S1 ρ1 xs W Y s1 I1 r1 mv q1=>?_;rw[hJ]at mv;obtain⟨ts,hp,q1⟩:=q1;have hw:=r1.held;have s2:=s1.frz (fun b hb=>(hw.dom b hb).2) r1.fr;have I2:=I1.frz hw;have yk:∀b,Y b->F1 b=none->DH F1 H1 W b=none:=fun b hy hf=>by obtain⟨i,sl,_,h2,h3⟩:=r1.tm b hy;rw[xC fun z=>r1.nw i sl h2 b z h3];exact hf
 obtain⟨ar,mt⟩:=r1.av.pass (gG fun b hb=>(hw.dom b hb).2) (fun b hb=>CH hb) yk hp;generalize DH F1 H1 W=F2 at s2 I2 yk ar;have M0:=I.trs nd ho mv;have hM:Held F H S (clear J ρ) (fun b=>∃j∈J,S j b):=⟨fun b ⟨j,hj,hb⟩=>let⟨t,e⟩:=own j hj;I.dom e hb,fun i s e b ⟨j,hj,hb⟩ z=>by obtain⟨e1,e2⟩:=cD J ρ i s e;obtain⟨t,et⟩:=own j hj;exact I.dj j i t s (fun q=>e1 (q▸hj)) et e2 b hb z⟩
 have hM2:=hM.step s2.toStp I2;have M2:Trs K F2 H1 true (fB (Ψ.sp f).md vs) (KB (Ψ.sp f).md ts) (fun b=>∃j∈J,S j b):=by
  rw[mt];refine M0.mono s2.ff fun b hb=>?_;refine⟨?_,(hM2.dom b hb).2⟩;cases e:H b with
  |none=>exact absurd e (hM.dom b hb).1
  |some u=>exact s2.hh b u e (hM.nu b hb)
 refine g.sp f vs H1 R EK ⟨F2,ts,_,Y,I2.fh,ar,M2,fun b hy hb=>?_,?_⟩;obtain⟨i,sl,_,h2,h3⟩:=r1.tm b hy;exact hM2.nw i sl h2 b hb h3
 ·have up:∀b,(∃j∈J,S j b)->U ρ S b:=fun b ⟨j,hj,hb⟩=>let⟨t,e⟩:=own j hj;⟨j,t,e,hb⟩
  have lk:∀b,(∃j∈J,S j b)∨H1 b=none->U ρ S b∨H b=none:=fun b hb=>hb.imp (up b) (s2.dm b);refine(Ψ.sp f).mono ?_ ?_ q1
  rotate_left
  rintro x qx dx F' H' fm xr;refine X x dx F' H' (fun _ _=>False) [] ⟨s2.ff.trans fm.ff,fun b u e n=>fm.hh b u (s2.hh b u e fun z=>n (u0 b z)) fun z=>n (up b z),fun b e=>s2.dm b (fm.dm b e),fun b e z=>?_,fun b ⟨i,t,e,_⟩=>by simp at e,fun j t e=>by simp at e⟩ fm.fh xr qx;by_cases q:F2 b=none;exact lk b (fm.fn b q z);exact(s2.fn b e q).imp (u0 b) id;rintro r os' ⟨ρ2,hput,q⟩ v F' H' Z M' fm tr trs dz hf;have I3:Rl K F' H' S1 ρ1 σ:=⟨fm.fh,I2.len,fun i s e=>by
   obtain⟨w,g1,g2⟩:=I2.sl i s e;refine⟨w,g1,g2.mono fm.ff fun b hb=>?_⟩;obtain⟨d1,d2⟩:=g2.dom b hb;have nM:¬ ∃j∈J,S j b:=fun z=>hM2.nw i s e b z hb;refine⟨?_,?_⟩;cases e:H1 b with
   |none=>exact absurd e d1
   |some u=>exact fm.hh b u e nM
   by_cases z:F' b=none
   ·exact z
   exact((fm.fn b d2 z).elim nM d1).elim,I2.dj⟩
  have nw3:∀b,(∃j∈J,S j b)∨H1 b=none->∀(i:Nat) s,ρ1[i]?=some (some s)->¬ S1 i b:=fun b hb i s e z=>by rcases hb with hb|hb;exact hM2.nw i s e b hb z;exact(I2.dom e z).1 hb
  have hM':Held F' H' S1 ρ1 M':=⟨trs.dom,fun i s e b hb=>nw3 b (hf b (.inr hb)) i s e⟩
  obtain⟨S2,I4,g2,g3⟩:=bK nd I3 trs mv hM' hput;have inJ:∀i s,ρ2[i]?=some (some s)->(i∈J/\(∃t,s=.own t)/\∀b,S2 i b->M' b)∨(i∉J/\ρ1[i]?=some (some s)/\S2 i=S1 i):=fun i s e=>by by_cases hi:i∈J;exact .inl ⟨hi,g3 i hi s e⟩;obtain⟨e1,e2⟩:=g2 i hi;exact .inr ⟨hi,e1▸e,e2⟩
  have st:Ste F H S ρ F' H' S2 ρ2:=⟨⟨s2.ff.trans fm.ff,fun b u e n=>fm.hh b u (s2.hh b u e fun z=>n (u0 b z)) fun z=>n (up b z),fun b e=>s2.dm b (fm.dm b e),fun b e z=>by
    by_cases q:F2 b=none;exact lk b (fm.fn b q z);exact(s2.fn b e q).imp (u0 b) id,
   fun b ⟨i,t,h1,h2⟩=>by
    rcases inJ i _ h1 with⟨_,_,e⟩| ⟨_,e1,e2⟩
    exact lk b (hf b (.inr (e b h2)));rw[e2]at h2;exact(s2.uu b ⟨i,t,e1,h2⟩).imp (u0 b) id,
   fun j t e hd=>by
    rcases inJ j _ e with⟨_,⟨t',z⟩,_⟩| ⟨_,e1,e2⟩
    cases z;obtain⟨b1,b2⟩:=s2.bo j t e1 hd;exact⟨(cD J ρ j _ b1).2,e2.trans b2⟩⟩,
   fun j t e=>by
    rcases inJ j _ e with⟨hj,_,_⟩| ⟨_,e1,e2⟩
    exact own j hj;obtain⟨t0,e0⟩:=s2.ow j t e1;exact⟨t0,(cD J ρ j _ e0).2⟩⟩
  refine k v F' H' S2 ρ2 r true Z st I4 ⟨tr,fun _ b hb=>?_,fun z=>(by cases z),fun _ i s e b hb z=>?_⟩ q;exact(lk b (hf b (.inl hb))).symm;rcases inJ i s e with⟨_,_,e2⟩| ⟨_,e1,e2⟩
  ·exact dz b hb (e2 b z)
  rw[e2]at z;exact nw3 b (hf b (.inl hb)) i s e1 z
end
section
variable{K:QF}{Γ:Ev}{Ψ:PEv}{E:XE}{EK:XK}{F H F1 H1:Hp}{S S1:Ft}{ρ ρ1:kA}{σ:St}
section
variable{j i:Nat}{t s:T}{b:Bool}{F2 H2:Hp}{S2:Ft}{ρ2:kA}{W P Sp:gB}{vs ys:List V}{ts us:List T}{a:Addr}{u0 o:HO}{v xv iv:V}{x y:D}{ks:List D}{R:Hp->Prop}{N:T->Prop}
theorem TB(hj:ρ[j]?=some (some (.own t))){s:Sl}(h:(ρ.set j (some (.nv t)))[i]?=some (some s)):(i=j/\s=.nv t)∨(i≠j/\ρ[i]?=some (some s)):=by
 rcases uA h with⟨rfl,e,_⟩| ⟨n,h⟩
 injection e with e;exact .inl ⟨rfl,e⟩;exact .inr ⟨Q2 n,h⟩
theorem Rl.lock1(I:Rl K F H S ρ σ)(hj:ρ[j]?=some (some (.own t))):Rl K F H S (ρ.set j (some (.nv t))) σ where
 fh:=I.fh
 len:=by simpa using I.len
 sl:=fun i s e=>by
  rcases TB hj e with⟨rfl,rfl⟩| ⟨_,e⟩
  obtain⟨v,h1,h2⟩:=I.sl i _ hj;exact⟨v,h1,h2.weak⟩;exact I.sl i s e
 dj:=fun i k t' s n e1 e2=>by
  rcases TB hj e1 with⟨_,z⟩| ⟨n1,g1⟩
  cases z;rcases TB hj e2 with⟨q,_⟩| ⟨_,g2⟩
  ·exact I.dj i k t' _ n g1 (q▸hj)
  exact I.dj i k t' s n g1 g2
theorem Rl.lock1U(I:Rl K F H S ρ σ)(hj:ρ[j]?=some (some (.own t)))(b:Addr)(hb:S j b):¬ U (ρ.set j (some (.nv t))) S b:=fun⟨i,u,h1,h2⟩=>by
 rcases TB hj h1 with⟨_,z⟩| ⟨n,h1⟩
 cases z;exact I.dj i j u _ n h1 hj b h2 hb
theorem lock1U(hj:ρ[j]?=some (some (.own t))){b:Addr}(h:U (ρ.set j (some (.nv t))) S b):U ρ S b:=by
 obtain⟨i,u,h1,h2⟩:=h;rcases TB hj h1 with⟨_,z⟩| ⟨n,h1⟩
 cases z;exact⟨i,u,h1,h2⟩
theorem IE.lock1(X:IE K F H S ρ E EK)(hj:ρ[j]?=some (some (.own t))):IE K F H S (ρ.set j (some (.nv t))) E EK:=fun x dx F2 H2 S2 ρ2 s2 f r q =>
 X x dx F2 H2 (fun _ _=>False) [] ⟨s2.ff,fun b u e n=>s2.hh b u e fun z=>n (lock1U hj z),s2.dm,fun b e z=>(s2.fn b e z).imp (lock1U hj) id,fun b ⟨i,t,e,_⟩=>by simp at e,fun j t e=>by simp at e⟩ f r q
theorem KP(I:Rl K F H S ρ σ)(hj:ρ[j]?=some (some (.own t)))(s:Ste F H S (ρ.set j (some (.nv t))) F2 H2 S2 ρ2)(I2:Rl K F2 H2 S2 ρ2 σ){b:Addr}(hb:S j b) :
  ∀(i:Nat) sl,i≠j->ρ2[i]?=some (some sl)->¬ S2 i b:=fun i sl n e z=>by
 cases sl with
 |own u=>rcases s.uu b ⟨i,u,e,z⟩ with q|q;exact I.lock1U hj b hb q;exact(I.dom hj hb).1 q
 |nv u =>
  cases hd:u.isD with
  |true=>exact I2.isD e hd z
  |false =>
   obtain⟨e1,e2⟩:=s.bo i u e hd;rw[e2]at z;rcases TB hj e1 with⟨q,_⟩| ⟨_,e1⟩
   exact n q;exact I.dj j i t _ (Q2 n) hj e1 b hb z
theorem pH{t':T}{v0:V}{H3:Hp}{Z':gB}(I:Rl K F H S ρ σ)(hj:ρ[j]?=some (some (.own t)))(hv:σ[j]?=some (some v0))(s:Ste F H S (ρ.set j (some (.nv t))) F2 H2 S2 ρ2)(I2:Rl K F2 H2 S2 ρ2 σ)
  (hH:∀b u,H2 b=some u->¬ S j b->H3 b=some u) (dm:∀b,H3 b=none->H2 b=none) (r:Tr K F2 H3 true v0 t' Z') (hz:∀b,Z' b->S j b∨W b∨H2 b=none) (hw:Held F2 H2 S2 ρ2 W) (frW:∀b,W b->H b=none∨U (ρ.set j (some (.nv t))) S b) :
  Ste F H S ρ F2 H3 (DG S2 j Z') (ρ2.set j (some (.own t')))/\Rl K F2 H3 (DG S2 j Z') (ρ2.set j (some (.own t'))) σ/\∀b,S j b∨W b∨H2 b=none->∀(i:Nat) sl,i≠j->ρ2[i]?=some (some sl)->¬ S2 i b:=by
 have nw:∀b,S j b∨W b∨H2 b=none->∀(i:Nat) sl,i≠j->ρ2[i]?=some (some sl)->¬ S2 i b:=fun b hb i sl n e z=>by rcases hb with hb|hb|hb;exact KP I hj s I2 hb i sl n e z;exact hw.nw i sl e b hb z;exact(I2.dom e z).1 hb
 have uj:∀b,S j b->U ρ S b:=fun b hb=>⟨j,t,hj,hb⟩
 have lk:∀b,S j b∨W b∨H2 b=none->U ρ S b∨H b=none:=fun b hb=>by rcases hb with hb|hb|hb;exact .inl (uj b hb);exact(frW b hb).symm.imp (lock1U hj) id;exact .inr (s.dm b hb)
 have fS:∀b,S j b->F2 b=none:=fun b hb=>by
  by_cases q:F2 b=none;exact q;rcases s.fn b (I.dom hj hb).2 q with z|z
  ·exact absurd z (I.lock1U hj b hb)
  exact absurd z (I.dom hj hb).1
 have fh:Same F2 H3:=fun b u e=>hH b u (I2.fh b u e) fun z=>by rw[fS b z]at e;cases e
 have I3:Rl K F2 H3 S2 (ρ2.set j none) σ:=⟨fh,by simpa using I2.len,fun i sl e=>by
   rcases uA e with⟨_,z,_⟩| ⟨n,e⟩
   cases z;obtain⟨v,h1,h2⟩:=I2.sl i sl e;refine⟨v,h1,h2.mono (.refl _) fun b hb=>⟨?_,(h2.dom b hb).2⟩⟩;cases eb:H2 b with
   |none=>exact absurd eb (h2.dom b hb).1
   |some u=>exact hH b u eb fun z=>KP I hj s I2 z i sl (Q2 n) e hb,
  fun i k u sl n e1 e2=>by
   rcases uA e1 with⟨_,z,_⟩| ⟨_,e1⟩
   cases z;rcases uA e2 with⟨_,z,_⟩| ⟨_,e2⟩
   ·cases z
   exact I2.dj i k u sl n e1 e2⟩
 have I4:=I3.setO j hv r fun i sl n e b hb=>by
  rcases uA e with⟨_,z,_⟩| ⟨_,e⟩
  cases z;exact nw b (hz b hb) i sl n e
 have es:(ρ2.set j none).set j (some (.own t'))=ρ2.set j (some (.own t')):=by simp
 rw[es]at I4;refine⟨⟨⟨s.ff,fun b u e n=>hH b u (s.hh b u e fun z=>n (lock1U hj z)) fun z=>n (uj b z),fun b e=>s.dm b (dm b e),fun b e z=>(s.fn b e z).imp (lock1U hj) id,fun b ⟨i,u,h1,h2⟩=>?_,fun i u e hd=>?_⟩,fun i u e=>?_⟩,I4,nw⟩;rcases uA h1 with⟨rfl,_,_⟩| ⟨n,h1⟩
 ·rw[HA]at h2
  exact lk b (hz b h2)
 rw[aA (Q2 n)]at h2;exact(s.uu b ⟨i,u,h1,h2⟩).imp (lock1U hj) id;rcases uA e with⟨rfl,z,_⟩| ⟨n,e⟩
 ·cases z
 obtain⟨e1,e2⟩:=s.bo i u e hd;rcases TB hj e1 with⟨z,_⟩| ⟨_,e1⟩
 exact absurd z.symm n;exact⟨e1,by rw[aA (Q2 n)];exact e2⟩;rcases uA e with⟨rfl,_,_⟩| ⟨n,e⟩
 ·exact⟨t,hj⟩
 obtain⟨t0,e0⟩:=s.ow i u e;rcases TB hj e0 with⟨_,z⟩| ⟨_,e0⟩
 cases z;exact⟨t0,e0⟩
theorem Trs.erase{st:Bool}{S:gB}{k:Nat}(h:Trs K F H st vs ts S)(e:ts[k]?=some t):∃v P1 P2,vs[k]?=some v/\Tr K F H st v t P1/\Trs K F H st (vs.eraseIdx k) (ts.eraseIdx k) P2/\(∀b,P1 b->¬ P2 b)/\∀b,P1 b∨P2 b->S b:=by
 revert k;refine Trs.ind (R:=fun st vs ts S=>∀{k:Nat},ts[k]?=some t->∃v P1 P2,vs[k]?=some v/\Tr K F H st v t P1/\Trs K F H st (vs.eraseIdx k) (ts.eraseIdx k) P2/\(∀b,P1 b->¬ P2 b)/\∀b,P1 b∨P2 b->S b) (fun n k e=>by cases e) (fun {_ _ _ _ _ _ P0 _} h t n q ih k e=>?_) h;cases k with
 |zero=>cases e;exact⟨_,_,_,rfl,h,t,n,fun b hb=>(q b).mpr hb⟩
 |succ k=>obtain⟨v,P1,P2,h1,h2,h3,h4,h5⟩:=ih (k:=k) e;refine⟨v,P1,fun b=>P0 b∨P2 b,h1,h2,.cons h h3 (fun b hb z=>n b hb (h5 b (.inr z))) fun b=>Wd,fun b hb z=>z.elim (fun z=>n b z (h5 b (.inl hb))) (h4 b hb),fun b hb=>(q b).mpr ?_⟩;rcases hb with hb|hb|hb;exact .inr (h5 b (.inl hb));exact .inl hb;exact .inr (h5 b (.inr hb))
theorem YH{α:Type}:∀{l:List α}{k:α},l.Nodup->¬ k∈l->(l++[k]).Nodup
 |[],k,_,_=>by simp
 |a::r,k,h,hk=>by obtain⟨h1,h2⟩:=Qk.mp h;show(a::(r++[k])).Nodup;refine Qk.mpr ⟨fun m=>?_,YH h2 fun m=>hk (QK.mpr (Or.inr m))⟩;rcases Qf.mp m with q|q;exact h1 q;exact hk (QK.mpr (Or.inl (QI.mp q).symm))
theorem BJ(fa:F a=none)(r:Trs K F H true ys us P)(n:¬ P a):Tr K F (UA H a (.lst ys)) true (.ref a) (.lst us) fun b=>b=a∨P b :=
 .lst (S':=P) ZA fa (r.mono (.refl _) fun b hb=>⟨vA fun z=>n (z▸hb),(r.dom b hb).2⟩) n fun b=>Wd
theorem xD(ha:Sp a)(b:Addr)(u:HO)(e:H b=some u)(hb:¬ Sp b):UA H a u0 b=some u:=by have hn:b≠a:=fun z=>hb (by rw[z];exact ha);rw[vA hn];exact e
theorem YB(b:Addr)(e:UA H a u0 b=none):H b=none:=by by_cases hb:b=a;rw[hb,ZA]at e;cases e;rw[vA hb]at e;exact e
theorem V3{m:Mt}{N:T->T->Prop}{R:VK}(f:Same F H)(r:Tr K F H true v s Sp)(rv:Trs K F H true vs ts W)(dj:∀b,Sp b->¬ W b)(h:KK m s ts N)
  (k:∀w r s' H' S1 Zr,(∀b u,H b=some u->¬ Sp b->H' b=some u)->(∀b,H' b=none->H b=none)->Tr K F H' true v s' S1->Tr K F H' true w r Zr->(∀b,Zr b->¬ S1 b)->(∀b,S1 b∨Zr b->Sp b∨W b∨H b=none)->N r s'->R w H'):C3 K m v vs H R:=by
 cases m with
 |append =>
  obtain⟨us0,t0,rfl,rfl,h⟩:=h;cases r with
  |@lst _ a xs _ _ S' h1 h2 h3 h4 h5 =>
   have ha:Sp a:=(h5 a).mpr (.inl rfl);cases rv with
   |@cons _ w t ws us _ W1 W2 r1 r2 n q =>
    cases r2 with
    |nil n2 =>
     have hW:∀b,W b↔W1 b:=fun b=>by rw[q b];simp[n2 b]
     refine⟨a,xs,w,rfl,rfl,h1,by rw[h3.length];exact h.1,k .non (.d .none) _ _ _ (fun _=>False) (xD ha) YB (BJ h2 (Trs.append h3 (Trs.one r1) fun b hb hw=>dj b ((h5 b).mpr (.inr hb)) ((hW b).mpr hw)) fun z=>z.elim h4 fun z=>dj a ha ((hW a).mpr z)) (.d .non fun _ z=>z) (fun _ z=>z.elim) (fun b hb=>?_) h.2⟩;rcases hb with(hb|hb|hb)|hb;exact .inl (hb▸ha);exact .inl ((h5 b).mpr (.inr hb));exact .inr (.inl ((hW b).mpr hb));exact hb.elim
 |pop =>
  obtain⟨us0,i,j,t0,rfl,rfl,hi,ht,q⟩:=h;cases r with
  |@lst _ a xs _ _ S' h1 h2 h3 h4 h5 =>
   have ha:Sp a:=(h5 a).mpr (.inl rfl);obtain⟨w,P1,P2,g1,g2,g3,g4,g5⟩:=h3.erase ht;have na:¬ P1 a:=fun z=>h4 (g5 a (.inl z));have nb:¬ P2 a:=fun z=>h4 (g5 a (.inr z));cases rv with
   |cons r1 r2 n q2 =>
    cases r2;cases r1 with
    |d r1 n1 =>
     cases r1;refine⟨a,i,xs,j,w,rfl,rfl,h1,by rw[h3.length];exact hi,g1,k w t0 _ _ _ P1 (xD ha) YB (BJ h2 g3 nb) (g2.mono (.refl _) fun b hb=>⟨vA fun z=>na (z▸hb),(g2.dom b hb).2⟩) (fun b hb z=>?_) (fun b hb=>?_) q⟩;rcases z with z|z
     ·exact na (z▸hb)
     exact g4 b hb z;rcases hb with(hb|hb)|hb
     ·exact .inl (hb▸ha)
     exact .inl ((h5 b).mpr (.inr (g5 b (.inr hb))));exact .inl ((h5 b).mpr (.inr (g5 b (.inl hb))))
 |reverse =>
  obtain⟨ds,rfl,rfl,q⟩:=h;cases rv;cases r with
  |@lst _ a xs _ _ S' h1 h2 h3 h4 h5=>have ha:Sp a:=(h5 a).mpr (.inl rfl);exact⟨a,xs,rfl,rfl,h1,k .non (.d .none) _ _ _ (fun _=>False) (xD ha) YB (BJ h2 (Trs.of_reps (h3.un (pA ds)).1.reverse) fun z=>z) (.d .non fun _ z=>z) (fun _ z=>z.elim) (fun b hb=>by rcases hb with(hb|hb)|hb;exact .inl (hb▸ha);exact hb.elim;exact hb.elim) q⟩
 |_=>exact h.elim
theorem Trs.setD(rx:Rep K F xv x){S:gB}(n:Nat)(h:Trs K F H true vs ts S):∃P,Trs K F H true (vs.set n xv) (ts.set n (.d x)) P/\∀b,P b->S b:=by
 revert n;refine Trs.ind (R:=fun st vs ts S=>∀n:Nat,∃P,Trs K F H st (vs.set n xv) (ts.set n (.d x)) P/\∀b,P b->S b) (fun {_ S} z n=>⟨S,.nil z,fun _ h=>h⟩) (fun {_ _ _ _ _ _ S1 S2} h t m q ih n=>?_) h;cases n with
 |zero=>exact⟨S2,.cons (S1:=fun _=>False) (.d rx fun _ z=>z) t (fun _ z=>z.elim) fun b=>by simp,fun b hb=>(q b).mpr (.inr hb)⟩
 |succ n=>obtain⟨P,h1,h2⟩:=ih n;exact⟨fun b=>S1 b∨P b,.cons h h1 (fun b hb z=>m b hb (h2 b z)) fun b=>Wd,fun b hb=>(q b).mpr (hb.imp id (h2 b))⟩
theorem Trs.part{S:gB}(h:Trs K F H true vs ts S)(e:ts[i]?=some t):∃v S1,vs[i]?=some v/\Tr K F H true v t S1/\(∀b,S1 b->S b) /\
  ∀(H':Hp) t' S1',(∀b,S b->¬ S1 b->H' b=H b)->Tr K F H' true v t' S1'->(∀b,S1' b->S1 b)->∃P,Trs K F H' true vs (ts.set i t') P/\∀b,P b->S b:=by
 revert i;refine Trs.ind (R:=fun st vs ts S=>∀{i:Nat},ts[i]?=some t->∃v S1,vs[i]?=some v/\Tr K F H st v t S1/\(∀b,S1 b->S b)/\∀(H':Hp) t' S1',(∀b,S b->¬ S1 b->H' b=H b)->Tr K F H' st v t' S1'->(∀b,S1' b->S1 b)->∃P,Trs K F H' st vs (ts.set i t') P/\∀b,P b->S b) (fun n i e=>by cases e) (fun {_ _ _ _ _ _ P1 P2} h t n q ih i e=>?_) h;cases i with
 |zero=>cases e;exact⟨_,P1,rfl,h,fun b hb=>(q b).mpr (.inl hb),fun H' t' S1' k r k2=>⟨fun b=>S1' b∨P2 b,.cons r (t.mono (.refl _) fun b hb=>⟨k b ((q b).mpr (.inr hb)) fun z=>n b z hb,(t.dom b hb).2⟩) (fun b hb z=>n b (k2 b hb) z) fun b=>Wd,fun b hb=>(q b).mpr (hb.imp (k2 b) id)⟩⟩
 |succ i=>obtain⟨v,S1,h1,h2,h3,h4⟩:=ih (i:=i) e;refine⟨v,S1,h1,h2,fun b hb=>(q b).mpr (.inr (h3 b hb)),fun H' t' S1' k r k2=>?_⟩;obtain⟨P,g1,g2⟩:=h4 H' t' S1' (fun b hb hn=>k b ((q b).mpr (.inr hb)) hn) r k2;exact⟨fun b=>P1 b∨P b,.cons (h.mono (.refl _) fun b hb=>⟨k b ((q b).mpr (.inl hb)) fun z=>n b hb (h3 b z),(h.dom b hb).2⟩) g1 (fun b hb z=>n b hb (g2 b z)) fun b=>Wd,fun b hb=>(q b).mpr (hb.imp id (g2 b))⟩
def eg(ks:List D)(k:D):List D:=match fA ks k with
 |some _=>ks
 |none=>ks++[k]
def gg{α:Type}(ks:List D)(vs:List α)(k:D)(x:α):List α:=match fA ks k with
 |some n=>vs.set n x
 |none=>vs++[x]
theorem vN{α β:Type}[DecidableEq α](k:α)(key:β->α)(f:β->β)(hf:∀p,key (f p)=key p):∀(l:List β) (n:Nat),(l.map key).Nodup->(l.map key)[n]?=some k->(∀(g:β->V) (x:V),(∀p,key p=k->g (f p)=x)->(l.map fun p=>if key p=k then f p else p).map g=(l.map g).set n x)
 |[],n,_,e=>by simp at e
 |p::r,0,nd,e=>by
  intro g x hg;have e:key p=k:=by simpa using e
  rw[QN]at nd;obtain⟨n1,n2⟩:=Qk.mp nd;have e2:(r.map fun p=>if key p=k then f p else p)=r:=by rw[show r=r.map id from(QB5 r).symm,QY];refine qu fun q hq=>?_;have:key q≠k:=fun z=>n1 (QW.mpr ⟨q,by simpa using hq,z.trans e.symm⟩);simp[this]
  rw[QN,e2,QN,QN,if_pos e,hg p e];rfl
 |p::r,n+1,nd,e=>by
  intro g x hg;rw[QN]at nd;obtain⟨n1,n2⟩:=Qk.mp nd;have e:(r.map key)[n]?=some k:=by simpa using e
  have np:¬ key p=k:=fun z=>n1 (by rw[z];exact qD e);rw[QN,QN,QN,if_neg np,vN k key f hf r n n2 e g x hg];rfl
theorem put_keys{α β γ:Type}[DecidableEq α](k:α)(key:β->α)(f:β->β)(g:β->γ)(hg:∀p,g (f p)=g p)(l:List β):(l.map fun p=>if key p=k then f p else p).map g=l.map g:=by rw[QY];refine qu fun p _=>?_;show g (if key p=k then f p else p)=g p;split;exact hg p;rfl
theorem OI.put{k:D}(f:Same F H)(ha:H a=some o)(dk:OI K F b o ks vs)(ry:Rep K F iv k)(hk:vF b k)(hl:ks.length<sizeLine)
  (kk:∀o',OI K F b o' (eg ks k) (gg ks vs k xv)->R (UA H a o')):RO K (.ref a) iv xv H R:=by
 cases b with
 |true =>
  obtain⟨ep,kvs,rfl,rfl,rfl,h4,h5⟩:=dk;obtain⟨q,rfl⟩:=hk;cases ry with
  |@tup p _ _ hq rq =>
   cases zG rq;refine⟨ep,kvs,q,ha,fun p hp=>f.tupl (h4 p hp),f.tupl hq,by simpa using hl,fun ep'=>kk _ ?_⟩;have vf:=jG q kvs;unfold uK eg gg;cases e:fA (kvs.map fun p=>tD p.1) (tD q) with
   |none =>
    rw[e]at vf;have vf:sG kvs q=none:=vf;rw[vf];refine⟨ep',kvs++[(q,p,xv)],rfl,by simp,by simp,fun x hx=>?_,?_⟩;rcases Qf.mp hx with hx|hx
    ·exact h4 x hx
    rw[QI.mp hx];exact hq;rw[Qa];refine YH h5 fun m=>oC.mp e ?_;obtain⟨x,hx,ex⟩:=QW.mp m;exact QW.mpr ⟨x,hx,by rw[ex]⟩
   |some n =>
    rw[e]at vf;have hn:=lE e;have hn2:(kvs.map (·.1))[n]?=some q:=by
     rw[Qc]at hn ⊢;cases en:kvs[n]? with
     |none=>rw[en]at hn;cases hn
     |some x=>rw[en]at hn;rw[Q9,Qq]at hn ⊢;exact dW hn
    have hs:(sG kvs q).isSome=true:=by
     rw[vf];have:n<kvs.length:=by have:=(Qi.mp hn2).1;simpa using this
     simp[this]
    rw[if_pos hs];refine⟨ep',_,rfl,(put_keys q (·.1) (fun p=>(p.1,p.2.1,xv)) (fun p=>tD p.1) (fun _=>rfl) kvs).symm,(vN q (·.1) (fun p=>(p.1,p.2.1,xv)) (fun _=>rfl) kvs n h5 hn2 (·.2.2) xv fun _ _=>rfl).symm,fun x hx=>?_,?_⟩;obtain⟨y,hy,ey⟩:=QW.mp hx;have hy:=h4 y hy;by_cases z:y.1=q;rw[if_pos z]at ey;subst ey;exact hy;rw[if_neg z]at ey;subst ey;exact hy;have:=put_keys q (·.1) (fun p:KE=>(p.1,p.2.1,xv)) (·.1) (fun _=>rfl) kvs;rw[this];exact h5
 |false =>
  obtain⟨z,rfl⟩:=hk;cases ry;rcases dk with⟨kvs,hne,rfl,rfl,rfl,h5⟩| ⟨ep,rfl,rfl,rfl⟩
  rotate_left
  exact .inr ⟨ep,ha,kk _ (.inl ⟨[(.inr z,xv)],by simp,rfl,rfl,rfl,by simp⟩)⟩;refine .inl ⟨kvs,ha,by simpa using hl,kk _ (.inl ?_)⟩;have vf:=bI (.inr z) kvs;have ez:kD (.inr z)=.str z:=rfl;rw[ez]at vf;unfold zR eg gg;rw[KO];cases e:fA (kvs.map fun p=>kD p.1) (.str z) with
  |none=>rw[e]at vf;have vf:NJ kvs (.inr z)=none:=vf;rw[vf];refine⟨kvs++[(.inr z,xv)],by simp,rfl,by simp[ez],by simp,?_⟩;rw[Qa];refine YH h5 fun m=>oC.mp e ?_;obtain⟨x,hx,ex⟩:=QW.mp m;exact QW.mpr ⟨x,hx,by rw[ex];rfl⟩
  |some n =>
   rw[e]at vf;have hn:=lE e;have hn2:(kvs.map (·.1))[n]?=some (.inr z):=by
    rw[Qc]at hn ⊢;cases en:kvs[n]? with
    |none=>rw[en]at hn;cases hn
    |some x=>rw[en]at hn;rw[Q9,Qq]at hn ⊢;exact UR hn
   have hs:(NJ kvs (.inr z)).isSome=true:=by
    rw[vf];have:n<kvs.length:=by have:=(Qi.mp hn2).1;simpa using this
    simp[this]
   rw[if_pos hs];refine⟨_,by simpa using hne,rfl,(put_keys (.inr z) (·.1) (fun p=>(p.1,xv)) (fun p=>kD p.1) (fun _=>rfl) kvs).symm,(vN (.inr z) (·.1) (fun p=>(p.1,xv)) (fun _=>rfl) kvs n h5 hn2 (·.2) xv fun _ _=>rfl).symm,?_⟩;have:=put_keys (.inr z) (·.1) (fun p:Key×V=>(p.1,xv)) (·.1) (fun _=>rfl) kvs;rw[this];exact h5
theorem EN(fa:F a=none)(dk:OI K F b o ks ys)(r:Trs K F H true ys us P)(n:¬ P a):Tr K F (UA H a o) true (.ref a) (.dct b ks us) fun b=>b=a∨P b :=
 .dct (S':=P) ZA dk fa (r.mono (.refl _) fun b hb=>⟨vA fun z=>n (z▸hb),(r.dom b hb).2⟩) n fun b=>Wd
theorem mW(f:Same F H)(r:Tr K F H true v s Sp)(ry:Rep K F iv y)(rx:Rep K F xv x)(h:Yc s y x N)
  (k:∀s' H' S1,(∀b u,H b=some u->¬ Sp b->H' b=some u)->(∀b,H' b=none->H b=none)->Tr K F H' true v s' S1->(∀b,S1 b->Sp b)->N s'->R H'):RO K v iv xv H R:=by
 cases s with
 |lst ts =>
  cases y with
  |int i =>
   obtain⟨n,hn,q⟩:=h;cases ry;cases r with
   |@lst _ a xs _ _ S' h1 h2 h3 h4 h5=>have ha:Sp a:=(h5 a).mpr (.inl rfl);obtain⟨P,g1,g2⟩:=h3.setD rx n;refine⟨xs,n,h1,by rw[h3.length];exact hn,k _ _ _ (xD ha) YB (BJ h2 g1 fun z=>h4 (g2 a z)) (fun b hb=>?_) q⟩;rcases hb with hb|hb;exact hb▸ha;exact(h5 b).mpr (.inr (g2 b hb))
  |_=>exact h.elim
 |dct b ks ts =>
  obtain⟨hk,hl,q⟩:=h;cases r with
  |@dct _ _ a o _ vs _ _ S' h1 dk h2 h3 h4 h5 =>
   have ha:Sp a:=(h5 a).mpr (.inl rfl);refine dk.put f h1 ry hk hl fun o' dk'=>?_;unfold eg gg at dk';unfold kR at q;cases e:fA ks y with
   |some n=>rw[e]at dk' q;obtain⟨P,g1,g2⟩:=h3.setD rx n;refine k _ _ _ (xD ha) YB (EN h2 dk' g1 fun z=>h4 (g2 a z)) (fun b hb=>?_) q;rcases hb with hb|hb;exact hb▸ha;exact(h5 b).mpr (.inr (g2 b hb))
   |none=>rw[e]at dk' q;have g1:=Trs.append h3 (Trs.one (Tr.d (S:=fun _=>False) rx fun _ z=>z)) fun _ _ z=>z;refine k _ _ _ (xD ha) YB (EN h2 dk' g1 fun z=>z.elim h4 id) (fun b hb=>?_) q;rcases hb with hb|hb|hb;exact hb▸ha;exact(h5 b).mpr (.inr hb);exact hb.elim
 |_=>exact h.elim
theorem OI.vs_inj{F':Hp}{ks':List D}{vs':List V}(h:OI K F b o ks vs)(h':OI K F' b o ks' vs'):vs=vs':=by
 cases b with
 |true=>obtain⟨ep,kvs,e,_,rfl,_⟩:=h;obtain⟨ep',kvs',e',_,rfl,_⟩:=h';rw[e]at e';cases e';rfl
 |false=>rcases h with⟨kvs,_,e,_,rfl,_⟩| ⟨ep,e,_,rfl⟩<;>rcases h' with⟨kvs',_,e',_,rfl,_⟩| ⟨ep',e',_,rfl⟩<;>rw[e]at e'<;>cases e'<;>rfl
theorem NZ{F0:Hp}{n:Nat}{w:V}(f:Same F H)(r:Tr K F H true (.ref a) (.dct b ks ts) Sp)(ho:H a=some o)(dk0:OI K F0 b o ks vs)(hw:vs[n]?=some w)(ht:ts[n]?=some s)
  (ry:Rep K F iv y) (rx:Rep K F xv x) (h:Yc s y x N)
  (k:∀s' H' S1,(∀b u,H b=some u->¬ Sp b->H' b=some u)->(∀b,H' b=none->H b=none)->Tr K F H' true (.ref a) (.dct b ks (ts.set n s')) S1->(∀b,S1 b->Sp b)->N s'->R H'):RO K w iv xv H R:=by
 cases r with
 |@dct _ _ a o' _ vs' _ _ S' h1 dk h2 h3 h4 h5 =>
  rw[ho]at h1;cases h1;cases dk0.vs_inj dk;have ha:Sp a:=(h5 a).mpr (.inl rfl);obtain⟨w',S1,g1,g2,g3,g4⟩:=h3.part ht;rw[hw]at g1;cases g1;refine mW f g2 ry rx h fun s' H' S1' hh dm rs sub q2=>?_;have keep:∀b,¬ S1 b->H b≠none->H' b=H b:=fun b hb hn=>by
   cases e:H b with
   |none=>exact absurd e hn
   |some u=>exact hh b u e hb
  have na:¬ S1 a:=fun z=>h4 (g3 a z);obtain⟨P,p1,p2⟩:=g4 H' s' S1' (fun b hb hn=>keep b hn (h3.dom b hb).1) rs sub;refine k _ H' (fun b=>b=a∨P b) (fun b u e hb=>hh b u e fun z=>hb ((h5 b).mpr (.inr (g3 b z)))) dm (.dct (S':=P) ((keep a na (by rw[ho];simp)).trans ho) dk h2 p1 (fun z=>h4 (p2 a z)) fun b=>Wd) (fun b hb=>?_) q2;rcases hb with hb|hb;exact hb▸ha;exact(h5 b).mpr (.inr (p2 b hb))
theorem F7{p:Addr}(f:Same F H)(hp:H p=none)(r:Tr K F H true v t Sp)(ry:Rep K F iv y)(h:D7 y t N)
  (k:∀s' H' S1,(∀b u,H b=some u->¬ Sp b->H' b=some u)->(∀b,H' b=none->H b=none)->Tr K F H' true v s' S1->(∀b,S1 b->Sp b∨b=p)->N s'->R H'):JJ K v [iv,.ref p] (UA H p (.dT 0 [])) fun _ H'=>R H':=by
 obtain⟨ks,ts,rfl,hk,hl,h⟩:=h;cases r with
 |@dct _ _ a o _ vs _ _ S' h1 dk h2 h3 h4 h5 =>
  have ha:Sp a:=(h5 a).mpr (.inl rfl);obtain⟨ep,kvs,rfl,rfl,rfl,d4,d5⟩:=dk;obtain⟨q,rfl⟩:=hk;have ap:a≠p:=iA h1 hp;have fp:F p=none:=f.free hp;have sm:Same H (UA H p (.dT 0 [])):=XB hp;cases ry with
  |@tup c _ _ hq rq =>
   cases zG rq;have vf:=jG q kvs;refine⟨a,c,.ref p,ep,kvs,q,rfl,rfl,(vA ap).trans h1,fun x hx=>(f.trans sm).tupl (d4 x hx),(f.trans sm).tupl hq,by simpa using hl,fun u eu=>?_,fun en ep'=>?_⟩;rcases h with⟨n,e,q⟩| ⟨e,q⟩
   ·have r0:Tr K F H true (.ref a) (.dct true (kvs.map fun p=>tD p.1) ts) Sp:=.dct h1 ⟨ep,kvs,rfl,rfl,rfl,d4,d5⟩ h2 h3 h4 h5
    refine k _ _ Sp (fun b u e _=>sm b u e) (fun b e=>YB b e) (r0.mono (.refl _) fun b hb=>⟨vA fun z=>(r0.dom b hb).1 (by rw[z];exact hp),(r0.dom b hb).2⟩) (fun b hb=>.inl hb) q
   rw[e]at vf;rw[vf]at eu;cases eu;rcases h with⟨n,e,q⟩| ⟨e,q2⟩
   ·have hn:=lE e
    rw[e]at vf;have:n<kvs.length:=by have:=(Qi.mp hn).1;simpa using this
    rw[vf]at en;have en:(kvs.map (·.2.2))[n]?=none:=en;rw[List.getElem?_eq_none_iff,QD]at en;omega
   have ep2:uK kvs q c (.ref p)=kvs++[(q,c,.ref p)]:=by unfold uK;rw[en];rfl
   rw[ep2];have np:¬ S' p:=fun z=>(h3.dom p z).1 hp;have g0:Tr K F (UA H p (.dT 0 [])) true (.ref p) (.dct true [] []) fun b=>b=p :=
    .dct (S':=fun _=>False) (vs:=[]) ZA ⟨0,[],rfl,rfl,rfl,fun _ z=>(nomatch z),Qw⟩ fp (.nil fun _ z=>z) (fun z=>z) fun b=>by simp
   have g3:Trs K F (UA H p (.dT 0 [])) true (kvs.map (·.2.2)) ts S':=h3.mono (.refl _) fun b hb=>⟨vA fun z=>np (z▸hb),(h3.dom b hb).2⟩
   have g1:=Trs.append g3 (Trs.one g0) fun b hb z=>np (z▸hb);have dk':OI K F true (.dT ep' (kvs++[(q,c,.ref p)])) ((kvs.map fun p=>tD p.1)++[tD q]) (kvs.map (·.2.2)++[.ref p]):=by
    refine⟨ep',_,rfl,by simp,by simp,fun x hx=>?_,?_⟩;rcases Qf.mp hx with hx|hx
    ·exact d4 x hx
    rw[QI.mp hx];exact hq;rw[Qa];refine YH d5 fun m=>oC.mp e ?_;obtain⟨x,hx,ex⟩:=QW.mp m;exact QW.mpr ⟨x,hx,by rw[ex]⟩
   refine k _ _ _ (fun b u e hb=>?_) (fun b e=>YB b (YB b e)) (EN h2 dk' g1 fun z=>z.elim h4 ap) (fun b hb=>?_) q2;rw[vA fun z=>hb (by rw[z];exact ha)];exact sm b u e;rcases hb with hb|hb|hb
   ·exact .inl (hb▸ha)
   exact .inl ((h5 b).mpr (.inr hb));exact .inr hb
end
end
section
variable{K:QF}{Γ:Ev}{Ψ:PEv}
section
variable{p:PX}{F H:Hp}{S:Ft}{ρ:kA}{Z:gB}
noncomputable abbrev HV(K:QF)(Γ:Ev)(Ψ:PEv)(p:PX):Prop:=∀{E:XE}{EK:XK}{F H:Hp}{S:Ft}{ρ:kA}{σ:St}{Q:TK}{R:VK},Rl K F H S ρ σ->IE K F H S ρ E EK->(pe Ψ p E).e ρ Q->uB K (rG p) F H S ρ σ Q R->(wp K Γ p EK).e σ H R
theorem RQ(he:HV K Γ Ψ p){E:XE}{EK:XK}{σ:St}{Q:Bool->kA->Prop}{R:Bool->Hp->Prop}(I:Rl K F H S ρ σ)(X:IE K F H S ρ E EK)(h:(pe Ψ p E).e ρ fun t _ ρ1=>gH t.er fun b=>Q b ρ1)(k:zI K F H S ρ σ Q R) :
  (wp K Γ p EK).e σ H fun x H1=>tG K x H1 R :=
 he I X h fun v F' H' S' ρ' t n Z s I' r q=>JS (r.tr.rep I'.fh) q fun c qc=>k c F' H' S' ρ' s I' qc
theorem PSnd.of_e(ht:∀E ρ Q,(pe Ψ p E).t ρ Q=(pe Ψ p E).e ρ fun t _ ρ1=>gH t.er fun b=>Q b ρ1)(ht':∀EK σ H R,(wp K Γ p EK).t σ H R=(wp K Γ p EK).e σ H fun x H1=>tG K x H1 R)(ha:∀E,(pe Ψ p E).a=VE.a)(he:HV K Γ Ψ p):PSnd K Γ Ψ p where
 e:=he
 t:=fun I X h k=>by rw[ht]at h;rw[ht'];exact RQ he I X h k
 a:=fun I X _ h k=>by rw[ha]at h;exact h.elim
theorem PSnd.of_0(ht:∀E,(pe Ψ p E).t=VE.t)(ha:∀E,(pe Ψ p E).a=VE.a)(he:HV K Γ Ψ p):PSnd K Γ Ψ p where
 e:=he
 t:=fun I X h k=>by rw[ht]at h;exact h.elim
 a:=fun I X _ h k=>by rw[ha]at h;exact h.elim
theorem PSnd.of_t(ht:∀E ρ Q,(pe Ψ p E).e ρ Q=(pe Ψ p E).t ρ fun b ρ1=>Q (.d (.bool b)) false ρ1)(ht':∀EK σ H R,(wp K Γ p EK).t σ H R=(wp K Γ p EK).e σ H fun x H1=>zZ x H1 R)(ha:∀E,(pe Ψ p E).a=VE.a)
  (he:∀{E:XE}{EK:XK}{F H:Hp}{S:Ft}{ρ:kA}{σ:St}{Q:Bool->kA->Prop}{R:VK},Rl K F H S ρ σ->IE K F H S ρ E EK->(pe Ψ p E).t ρ Q->zI K F H S ρ σ Q (fun b=>R (.bl b))->(wp K Γ p EK).e σ H R):PSnd K Γ Ψ p where
 e:=fun I X h k=>by rw[ht]at h;exact he I X h fun b F' H' S' ρ' s I' q=>uB.d k s I' (.bl b) q
 t:=fun I X h k=>by rw[ht'];exact he I X h fun b F' H' S' ρ' s I' q=>k b F' H' S' ρ' s I' q
 a:=fun I X _ h k=>by rw[ha]at h;exact h.elim
theorem Y5(i:Nat):HV K Γ Ψ (.var i):=by
 intro E EK F H S ρ σ Q R I X h k;have h2:rg ρ[i]? fun t=>Q t false ρ:=h;show(match σ[i]? with|some (some v)=>R v H|_=>False);have key:∀s,ρ[i]?=some (some s)->Q s.t false ρ->(match σ[i]? with|some (some v)=>R v H|_=>False):=fun s e q=>by obtain⟨v,h1,h3⟩:=I.sl i _ e;rw[h1];exact k v F H S ρ s.t false (S i) .refl I ⟨h3.weak,fun z=>(by cases z),fun _ b hb=>⟨i,s,QI.mpr rfl,e,hb⟩,fun z=>(by cases z)⟩ q
 unfold rg at h2;split at h2;rename_i e;exact key _ e h2;rename_i e;exact key _ e h2;exact h2.elim;exact h2.elim
theorem T8{m:Mt}{v:V}{s:T}(h:isMut m=true)(ht:II m s=true)(r:Tr K F H true v s Z):MV K m.ty v H:=by
 unfold II at ht;split at ht;cases r with
 |lst h1 _ _ _ _ =>
  refine .inl ⟨?_,_,HC.of h1⟩;cases m with
  |append=>rfl
  |pop=>rfl
  |reverse=>rfl
  |_=>cases ht
 cases ht
theorem Dh{m:Mt}{o as:PX}(io:PSnd K Γ Ψ o)(ia:PSnd K Γ Ψ as):HV K Γ Ψ (.mt m o as):=by
 intro E EK F H S ρ σ Q R I X h k;show(wp K Γ o EK).e σ H fun x H1=>MV K m.ty x H1/\(wp K Γ as EK).a σ H1 fun vs H2=>C3 K m x vs H2 R;cases hm:isMut m with
 |false =>
  have h:(pe Ψ o E).e ρ fun x n ρ1=>JR m (dA x n).vw=true/\sq (dA x n) ρ1 ((pe Ψ as E).a []) fun xs ρ2=>Yb m (dA x n).vw (GB xs) fun z k=>Q z k ρ2:=by have h2:(if isMut m=true then _ else _):=h;rw[hm,if_neg (by simp)]at h2;exact h2
  refine jc (P1:=fun x n=>JR m (dA x n).vw=true) (R1:=fun v H1=>MV K m.ty v H1) (RR:=fun v vs H2=>C3 K m v vs H2 R) io ia I X h (fun v F' H' x n Za r p=>Hd r p) fun v vs F' H' S' ρ' x n xs Za Y s I' X' r _ tn q=>?_;rw[GJ _ rfl]at q;exact z9 s I' r tn q k
 |true =>
  have h:B5 (VW o) fun j=>VD ρ[j]? fun t=>II m t=true/\(pe Ψ as E).a [] (ρ.set j (some (.nv t))) fun xs ρ2=>LE xs=true/\ρ2[j]?=some (some (.nv t))/\KK m t (fF xs) fun r s'=>Q r true (ρ2.set j (some (.own s'))):=by have h2:(if isMut m=true then _ else _):=h;rw[hm,if_pos rfl]at h2;exact h2
  cases o with
  |var j =>
   have h:VD ρ[j]? _:=h;unfold VD at h;split at h;rename_i t hj;obtain⟨ht,q1⟩:=h;obtain⟨v0,hv,r0⟩:=I.sl j _ hj;have IL:=I.lock1 hj;have n0:=I.lock1U hj;have r0:Tr K F H true v0 t (S j):=r0;have XL:=X.lock1 hj;show(match σ[j]? with|some (some v)=>_|_=>False);rw[hv];refine⟨T8 hm ht r0,?_⟩;refine ia.a (md:=[]) IL XL (fun j hj=>by cases as<;>cases hj) q1 fun vs F2 H2 S2 ρ2 xs W Y s2 I2 ar _ q2=>?_;obtain⟨he,hj2,q2⟩:=q2;have r2:Tr K F2 H2 true v0 t (S j):=s2.toStp.keep r0 n0;have hw:=ar.held;have trs:=ar.av.trs P8 he;have wS:∀b,S j b->¬ W b:=fun b hb hb2=>by rcases ar.fr b hb2 with q|q;exact(r0.dom b hb).1 q;exact n0 b hb q
   refine V3 I2.fh r2 trs wS q2 fun w r s' H3 S3 Zr hh dm rs' rr dz hf q=>?_;obtain⟨st,I3,nw⟩:=pH I hj hv s2 I2 hh dm rs' (fun b hb=>hf b (.inl hb)) hw ar.fr;have zr:∀b,Zr b->S j b∨W b∨H2 b=none:=fun b hb=>hf b (.inr hb);refine k w F2 H3 _ _ r true Zr st I3 ⟨rr,fun _ b hb=>?_,fun z=>(by cases z),fun _ i sl e b hb z=>?_⟩ q;rcases zr b hb with q|q|q
   ·exact .inr ⟨j,t,hj,q⟩
   exact(ar.fr b q).imp id (lock1U hj);exact .inl (s2.dm b q);rcases uA e with⟨rfl,_,_⟩| ⟨n,e⟩
   ·rw[HA]at z
    exact dz b hb z
   rw[aA (Q2 n)]at z;exact nw b (zr b hb) i sl (Q2 n) e z
   all_goals exact h.elim
  |_=>exact h.elim
theorem uB.dct{ws:List Nat}{F H F1 H1:Hp}{S S1:Ft}{ρ ρ1:kA}{σ:St}{Q:TK}{R:VK}(k:uB K ws F H S ρ σ Q R)(s:Ste F H S ρ F1 H1 S1 ρ1)(I:Rl K F1 H1 S1 ρ1 σ){p:Addr}(hp:H p=none)(fp:F1 p=none)(hh:Held F1 H1 S1 ρ1 fun b=>b=p){o:HO}{b:Bool}{ks:List D}{vs:List V}{ts:List T}{W:gB}(dk:OI K F1 b o ks vs)(r:Trs K F1 H1 true vs ts W)
  (fr:∀b,W b->H b=none∨U ρ S b) (hw:Held F1 H1 S1 ρ1 W) (np:¬ W p) (q:Q (.dct b ks ts) true ρ1):R (.ref p) (UA H1 p o):=by
 have ne:∀b u,H b=some u->b≠p:=fun b u e=>iA e hp;have s':Ste F H S ρ F1 (UA H1 p o) S1 ρ1:=⟨⟨s.ff,fun b u e n=>by rw[vA (ne b u e)];exact s.hh b u e n,fun b e=>s.dm b (YB b e),s.fn,s.uu,s.bo⟩,s.ow⟩
 have I':Rl K F1 (UA H1 p o) S1 ρ1 σ:=⟨fun b u e=>by rw[vA fun z=>by rw[z,fp]at e;cases e];exact I.fh b u e,I.len,fun i sl e=>by obtain⟨v,h1,h2⟩:=I.sl i sl e;exact⟨v,h1,h2.mono (.refl _) fun b hb=>⟨vA fun z=>hh.nw i sl e b z hb,(h2.dom b hb).2⟩⟩,I.dj⟩
 refine k _ F1 _ S1 ρ1 _ true (fun b=>b=p∨W b) s' I' ⟨.dct ZA dk fp (r.mono (.refl _) fun b hb=>⟨vA fun z=>np (z▸hb),(hw.dom b hb).2⟩) np (fun b=>Wd),fun _ b hb=>?_,fun z=>(by cases z),fun _ i sl e b hb z=>?_⟩ q;rcases hb with hb|hb
 ·exact .inl (hb▸hp)
 exact fr b hb;rcases hb with hb|hb
 ·exact hh.nw i sl e b hb z
 exact hw.nw i sl e b hb z
theorem VR.strict{F1 H1:Hp}{S1:Ft}{ρ1:kA}{ws:List Nat}{v:V}{t:T}{n:Bool}(r:VR K ws H S ρ F1 H1 S1 ρ1 v t n Z)(e:kH t n=true):∃W,Tr K F1 H1 true v t W/\Held F1 H1 S1 ρ1 W/\∀b,W b->H b=none∨U ρ S b:=by
 cases n with
 |true=>exact⟨Z,r.tr,r.held,r.fr rfl⟩
 |false =>
  have tr:=r.tr;cases t with
  |d x=>cases tr with|d q _=>exact⟨fun _=>False,.d q fun _ z=>z,.none,fun _ z=>z.elim⟩
  |_=>cases e
theorem OP{σ:St}(I:Rl K F H S ρ σ){p:Addr}(hp:H p=none)(o:HO):Held F (UA H p o) S ρ fun b=>b=p :=
 ⟨fun b hb=>⟨by rw[hb,ZA];simp,by rw[hb];exact I.fh.free hp⟩,fun i sl e b hb z=>(I.dom e z).1 (by rw[hb];exact hp)⟩
theorem LA(g:GOk K Γ Ψ):∀(p:PX),PSnd K Γ Ψ p
 | .var i=>⟨Y5 i,fun I X h k=>RQ (Γ:=Γ) (Ψ:=Ψ) (Y5 i) I X h k,fun I X _ h k=>h.elim⟩
 | .int i=>⟨fun I X h k=>uB.d k .refl I (.int i) h,fun I X h k=>k _ _ _ _ _ .refl I h,fun I X _ h k=>h.elim⟩
 | .str x=>⟨fun I X h k=>uB.d k .refl I (.str x) h,fun I X h k=>h.elim,fun I X _ h k=>h.elim⟩
 | .bl b=>⟨fun I X h k=>uB.d k .refl I (.bl b) h,fun I X h k=>k _ _ _ _ _ .refl I h,fun I X _ h k=>h.elim⟩
 | .non=>⟨fun I X h k=>uB.d k .refl I .non h,fun I X h k=>k _ _ _ _ _ .refl I h,fun I X _ h k=>h.elim⟩
 | .glo x=>.of_e (fun _ _ _=>rfl) (fun _ _ _ _=>rfl) (fun _=>rfl) fun {E EK F H S ρ σ Q R} I X h k=>by have h:(match Ψ.va x with|some d=>Q (.d d) false ρ|none=>False):=h;split at h;rename_i d e;exact uB.d k .refl I (g.va x d e F) h;exact h.elim
 | .bin op a b=>.of_e (fun _ _ _=>rfl) (fun _ _ _ _=>rfl) (fun _=>rfl) fun {E EK F H S ρ σ Q R} I X h k =>
  vW (P:=fun x n y m ρ2=>binT op (dA x n).vw (dA y m).vw fun z k=>Q z k ρ2) (RR:=fun x y H2=>E4 K op x y H2 R) (LA g a) (LA g b) I X h fun v w F' H' S' ρ' x n y m Za Zb s I' X' ra _ rb q=>Ya s I' ra rb q k
 | .cmp op a b=>.of_t (fun _ _ _=>rfl) (fun _ _ _ _=>rfl) (fun _=>rfl) fun {E EK F H S ρ σ Q R} I X h k =>
  vW (P:=fun x n y m ρ2=>G4 op x.er (dA y m) fun k=>Q k ρ2) (RR:=fun x y H2=>NY K op x y H2 R) (LA g a) (LA g b) I X h fun v w F' H' S' ρ' x n y m Za Zb s I' X' ra _ rb q =>
   D4 I'.fh (by have:=ra.rep I'.fh;rwa [BT]at this) rb q fun c qc=>k c F' H' S' ρ' s I' qc
 | .and a b=>⟨fun {E EK F H S ρ σ Q R} I X h k=>by
   refine(LA g a).e (Q:=fun x _ ρ1=>Ha x.er fun c=>if c=true then(pe Ψ b E).e ρ1 Q else Q (.d (.bool false)) false ρ1) (R:=fun x H1=>zZ x H1 fun c H2=>if c=true then(wp K Γ b EK).e σ H2 R else R (.bl false) H2) I X h fun v F' H' S' ρ' x n Z s I' r q=>?_;refine yZ (r.tr.rep I'.fh) q fun c qc=>?_;cases c with
   |false=>exact uB.d k s I' (.bl false) qc
   |true=>exact(LA g b).e I' (X.from s.toStp) qc ((k.from s).vars fun i hi=>QX _ hi),
  fun {E EK F H S ρ σ Q R} I X h k=>by
   refine(LA g a).t (Q:=fun c ρ1=>if c=true then(pe Ψ b E).t ρ1 Q else Q false ρ1) (R:=fun c H1=>if c=true then(wp K Γ b EK).t σ H1 R else R false H1) I X h fun c F' H' S' ρ' s I' qc=>?_;cases c with
   |false=>exact k _ F' H' S' ρ' s I' qc
   |true=>exact(LA g b).t I' (X.from s.toStp) qc (zI.from k s),fun I X _ h k=>h.elim⟩
 | .or a b=>⟨fun {E EK F H S ρ σ Q R} I X h k=>by
   refine(LA g a).e (Q:=fun x _ ρ1=>Ha x.er fun c=>if c=true then Q (.d (.bool true)) false ρ1 else(pe Ψ b E).e ρ1 Q) (R:=fun x H1=>zZ x H1 fun c H2=>if c=true then R (.bl true) H2 else(wp K Γ b EK).e σ H2 R) I X h fun v F' H' S' ρ' x n Z s I' r q=>?_;refine yZ (r.tr.rep I'.fh) q fun c qc=>?_;cases c with
   |true=>exact uB.d k s I' (.bl true) qc
   |false=>exact(LA g b).e I' (X.from s.toStp) qc ((k.from s).vars fun i hi=>QX _ hi),
  fun {E EK F H S ρ σ Q R} I X h k=>by
   refine(LA g a).t (Q:=fun c ρ1=>if c=true then Q true ρ1 else(pe Ψ b E).t ρ1 Q) (R:=fun c H1=>if c=true then R true H1 else(wp K Γ b EK).t σ H1 R) I X h fun c F' H' S' ρ' s I' qc=>?_;cases c with
   |true=>exact k _ F' H' S' ρ' s I' qc
   |false=>exact(LA g b).t I' (X.from s.toStp) qc (zI.from k s),fun I X _ h k=>h.elim⟩
 | .not a=>⟨fun {E EK F H S ρ σ Q R} I X h k=>by
   refine(LA g a).e (Q:=fun x _ ρ1=>gH x.er fun c=>Q (.d (.bool (!c))) false ρ1) (R:=fun x H1=>tG K x H1 fun c H2=>R (.bl (!c)) H2) I X h fun v F' H' S' ρ' x n Z s I' r q=>?_;exact JS (r.tr.rep I'.fh) q fun c qc=>uB.d k s I' (.bl _) qc,
  fun {E EK F H S ρ σ Q R} I X h k=>(LA g a).t (Q:=fun c ρ1=>Q (!c) ρ1) (R:=fun c H1=>R (!c) H1) I X h fun c F' H' S' ρ' s I' qc=>k _ F' H' S' ρ' s I' qc,fun I X _ h k=>h.elim⟩
 | .call f as=>.of_e (fun _ _ _=>rfl) (fun _ _ _ _=>rfl) (fun _=>rfl) fun {E EK F H S ρ σ Q R} I X h k=>O4 g (LA g as) I X h k
 | .bi f as=>.of_e (fun _ _ _=>rfl) (fun _ _ _ _=>rfl) (fun _=>rfl) fun {E EK F H S ρ σ Q R} I X h k =>
  lS (P:=fun xs ρ1=>j5 f (GB xs) fun z k=>Q z k ρ1) (RR:=fun vs H1=>Pe K f vs H1 R) (LA g as) I X h fun vs F' H' S' ρ' xs Y s I' X' tn _ q=>by rw[GJ _ rfl]at q;exact Fa s I' tn q k
 | .mt m o as=>.of_e (fun _ _ _=>rfl) (fun _ _ _ _=>rfl) (fun _=>rfl) (Dh (LA g o) (LA g as))
 | .idx a b=>by
  have he:HV K Γ Ψ (.idx a b):=fun {E EK F H S ρ σ Q R} I X h k =>
   vW (P:=fun x n y m ρ2=>(YL (dA x n).vw (dA y m).vw fun z=>Q z false ρ2)∨(xQ (dA x n).vw y.er fun z=>Q z false ρ2)) (RR:=fun x y H2=>GU K x y H2 R) (LA g a) (LA g b) I X h fun v w F' H' S' ρ' x n y m Za Zb s I' X' ra za rb q=>by rcases q with q|q;exact X9 s I' ra za rb q k;exact R9 s I' ra za (by have:=rb.rep I'.fh;rwa [BT]at this) q k
  exact⟨he,fun I X h k=>RQ he I X h k,fun I X _ h k=>h.elim⟩
 | .slc a lo hi=>.of_0 (fun _=>rfl) (fun _=>rfl) fun {E EK F H S ρ σ Q R} I X h k=>by
  have part:∀(p:PX),PSnd K Γ Ψ p->∀{F H:Hp}{S:Ft}{ρ:kA}{x:T}{P:Option Int->kA->Prop}{RP:Option Int->Hp->Prop},Rl K F H S ρ σ->IE K F H S ρ E EK ->
    sq (α:=Option Int) x ρ (if isNop p=true then fun ρ (R:Option Int->kA->Prop)=>R none ρ else fun ρ R=>(pe Ψ p E).e ρ fun l _ ρ2=>pF l.er fun o=>R o ρ2) P ->
    (∀o F' H' S' ρ',Ste F H S ρ F' H' S' ρ'->Rl K F' H' S' ρ' σ->(∀st v Zx,Tr K F H st v x Zx->Tr K F' H' st v x Zx)->P o ρ'->RP o H') ->
    (if isNop p=true then fun(R:Option Int->Hp->Prop)=>R none H else fun R=>(wp K Γ p EK).e σ H fun l H2=>nK l H2 R) RP:=by
   intro p ip F H S ρ x P RP I X h k;cases hn:isNop p with
   |true=>simp only[hn,if_true]at h ⊢;refine k none F H S ρ .refl I (fun _ _ _ r=>r) ?_;unfold sq at h;split at h<;>exact h
   |false =>
    simp only[hn,qT,if_false]at h ⊢;have h2:sq x ρ (cu (pe Ψ p E).e) fun y ρ'=>pF y.1.er fun o=>P o ρ':=by unfold sq at h ⊢;exact h
    refine Kc ip I X h2 fun w F' H' S' ρ' y m Z s I' kp _ r q=>B1 (r.tr.rep I'.fh) q fun o qo=>k o F' H' S' ρ' s I' kp qo
  refine bE (LA g a) I X h fun v F1 H1 S1 ρ1 x n Za s1 I1 X1 r1 _ z1 h1=>?_;refine part lo (LA g lo) I1 X1 h1 fun l F2 H2 S2 ρ2 s2 I2 k2 h2=>?_;refine part hi (LA g hi) I2 (X1.from s2.toStp) h2 fun u F3 H3 S3 ρ3 s3 I3 k3 h3=>?_;exact K7 (s1.trans (s2.trans s3)) I3 (k3 _ _ _ (k2 _ _ _ r1)) h3 k
 | .nop=>⟨fun I X h k=>h.elim,fun I X h k=>h.elim,fun I X _ h k=>h.elim⟩
 | .lst as=>.of_0 (fun _=>rfl) (fun _=>rfl) fun {E EK F H S ρ σ Q R} I X h k=>by refine(LA g as).a (md:=[]) (R:=fun xs H1=>xs.length<=sizeLine/\∀p,H1 p=none->R (.ref p) (UA H1 p (.lst xs))) I X (fun j hj=>by cases as<;>cases hj) h fun vs F' H' S' ρ' xs W Y s I' r _ q=>?_;exact⟨by rw[r.av.length];exact q.2.1,fun p hp=>uB.list k s I' hp (r.av.trs P8 q.1) r.fr r.held q.2.2⟩
 | .tup as=>.of_0 (fun _=>rfl) (fun _=>rfl) fun {E EK F H S ρ σ Q R} I X h k=>by refine(LA g as).a (md:=[]) (R:=fun xs H1=>xs.length<=sizeLine/\∀p,H1 p=none->R (.ref p) (UA H1 p (.tup xs))) I X (fun j hj=>by cases as<;>cases hj) h fun vs F' H' S' ρ' xs W Y s I' r _ q=>?_;exact⟨by rw[r.av.length];exact q.2.1,fun p hp=>uB.tup k s I' hp (r.av.trs P8 q.1) r.fr r.held q.2.2⟩
 | .comp mask tgs tg ik its cond elt=>.of_0 (fun _=>rfl) (fun _=>rfl) fun {E EK F H S ρ σ Q R} I X h k=>by
  refine lS (RR:=fun vs H1=>vC K ik vs H1 fun xs st H2=>lU K xs st tg (if isNop cond=true then fun _ H Q=>Q true H else(wp K Γ cond (fun _ _ _=>False)).t) (wp K Γ elt (fun _ _ _=>False)).e (GH tgs.length mask σ) H2 R) (LA g its) I X h fun vs F1 H1 S1 ρ1 xs Y s1 I1 X1 tn tm q1=>?_;rw[GJ _ rfl]at q1;refine iI I1.fh tn q1 fun xs ys st pr hst hc=>?_;refine GY (us:=rG elt) ?_ ?_ s1 I1 pr (fun b hb=>?_) hst hc k;intro F H S ρ σ Q R I h k;cases hn:isNop cond with
  |true=>simp only[hn,if_true]at h ⊢;exact k true F H S ρ .refl I h
  |false=>simp only[hn,qT,if_false]at h ⊢;exact(LA g cond).t I IE.never h k
  intro F H S ρ σ Q R I h k;exact(LA g elt).e I IE.never h k;obtain⟨i,sl,_,h2,h3⟩:=tm b hb;exact I1.dom h2 h3
 | .sset a=>.of_0 (fun _=>rfl) (fun _=>rfl) fun {E EK F H S ρ σ Q R} I X h k =>
  bE (P:=fun x n ρ1=>US (dA x n).vw fun z k=>Q z k ρ1) (RR:=fun x H1=>FW K x H1 R) (LA g a) I X h fun v F' H' S' ρ' x n Z s I' _ r _ _ ⟨us,ss,e,hb,l,q⟩=>by obtain⟨p,xs,_,rfl,hp,rp,_⟩:=r.ls I'.fh e;obtain rfl:=uE (rp.un hb).1;exact⟨p,ss,rfl,hp,l,fun a zs hl nd m so=>k.listD s I' hl (cI zs) (q zs nd m so)⟩
 | .dnew b=>.of_0 (fun _=>rfl) (fun _=>rfl) fun {E EK F H S ρ σ Q R} I X h k=>by
  intro p hp;have hh:=OP I hp (.dT 0 []);have e:=uB.dct (o:=.dT 0 []) (b:=b) (ks:=[]) (vs:=[]) (ts:=[]) (W:=fun _=>False) k (Ste.refl.new hp (.dT 0 [])) (I.new hp _) hp (I.fh.free hp) hh ?_ (.nil fun _ z=>z) (fun _ z=>z.elim) .none (fun z=>z) h;rw[GZ]at e;exact e;cases b with
  |true=>exact⟨0,[],rfl,rfl,rfl,fun _ z=>(nomatch z),Qw⟩
  |false=>exact .inr ⟨0,rfl,rfl,rfl⟩
 | .dsp a b=>.of_0 (fun _=>rfl) (fun _=>rfl) fun {E EK F H S ρ σ Q R} I X h k=>by
  intro p hp;have hh:=OP I hp (.dT 0 []);have s0:Ste F H S ρ F (UA H p (.dT 0 [])) S ρ:=Ste.refl.new hp _;refine bE (LA g a) (I.new hp _) (X.from s0.toStp) h fun y F1 H1 S1 ρ1 x n Z s1 I1 X1 _ er _ ⟨he,q1⟩=>?_;have hh1:=hh.step s1.toStp I1;have ry:=er he;refine(LA g b).e I1 X1 q1 fun v F2 H2 S2 ρ2 t m Zb s2 I2 r2 q2=>?_;have hh2:=hh1.step s2.toStp I2;obtain⟨he2,hk,q2⟩:=q2;obtain⟨W,rw,hw,frw⟩:=(r2.from s1.toStp).strict he2;have hp2:H2 p=some (.dT 0 []):=s2.hh p _ (s1.hh p _ ZA (hh.nu p rfl)) (hh1.nu p rfl);have np:¬ W p:=fun z=>by rcases frw p z with q|q;rw[ZA]at q;cases q;exact hh.nu p rfl q
  have ry2:=ry.mono s2.ff;refine⟨hp2,?_⟩;generalize x.er=d at hk ry2 q2;obtain⟨ks,rfl⟩:=hk;cases ry2 with
  |@tup c _ _ hq rq=>cases zG rq;refine⟨c,ks,rfl,I2.fh.tupl hq,fun ep=>?_⟩;exact uB.dct (o:=.dT ep [(ks,c,v)]) (b:=true) (vs:=[v]) (ts:=[t]) k (s0.trans (s1.trans s2)) I2 hp (hh2.dom p rfl).2 hh2 ⟨ep,_,rfl,rfl,rfl,fun z hz=>by rw[QI.mp hz];exact hq,by simp⟩ (Trs.one rw) (fun b hb=>by rcases frw b hb with q|q;exact .inl (YB b q);exact .inr q) hw np q2
 | .nr=>⟨fun I X h k=>h.elim,fun I X h k=>h.elim,fun {E EK F H S ρ σ md Q R} I X _ h k=>k [] F H S ρ [] (fun _=>False) (fun _=>False) .refl I ⟨.nil fun _ z=>z,fun _ z=>z.elim,fun _ z=>z.elim,fun _ _ _ _ z=>z.elim⟩ (by cases md with|nil=>rfl|cons m r=>cases m<;>rfl) h⟩
 | .nq a as=>⟨fun I X h k=>h.elim,fun I X h k=>h.elim,fun {E EK F H S ρ σ md Q R} I X hm h k=>by
  show(wp K Γ a EK).e σ H fun x H1=>(wp K Γ as EK).a σ H1 fun xs H2=>R (x::xs) H2;have vr2:∀i∈rG as,i∈rG (.nq a as):=fun i hi=>QX _ hi;cases hmd:(md.headD .ny).isMut with
  |true =>
   have h2:fY a=true/\(pe Ψ as E).a md.tail ρ fun xs ρ1=>Q ((.d .none,true)::xs) ρ1:=by have h3:(if(md.headD .ny).isMut=true then _ else _):=h;rw[hmd,if_pos rfl]at h3;exact h3
   obtain⟨m,md',rfl⟩:∃m md',md=m::md':=by
    cases md with
    |nil=>cases hmd
    |cons m md'=>exact⟨m,md',rfl⟩
   have em:m=.chg:=by have hmd:m.isMut=true:=hmd;cases m<;>first|rfl|cases hmd
   subst em;cases a with
   |var j=>obtain⟨v,hv⟩:=hm j (show j∈j::cA md' as from QE);show(match σ[j]? with|some (some v)=>_|_=>False);rw[hv];refine(LA g as).a I X (fun i hi=>hm i (QG _ hi)) h2.2 fun vs F' H' S' ρ' xs W Y s I' r mv q=>?_;refine k (v::vs) F' H' S' ρ' _ W Y s I' ⟨.chg hmd r.av,r.fr,(r.vars vr2).tm,r.nw⟩ ?_ q;show(some (some v))::(fB md' vs).map _=σ[j]?::(cA md' as).map _;have mv:(fB md' vs).map (fun v=>some (some v))=(cA md' as).map (fun j=>σ[j]?):=mv;rw[hv,mv]
   |_=>exact absurd h2.1 (by simp[fY])
  |false =>
   have h2:(pe Ψ a E).e ρ fun x n ρ1=>sq (α:=List (T×Bool)) (if n=true then .d .none else x) ρ1 ((pe Ψ as E).a md.tail) fun xs ρ2=>Q ((x,n)::xs) ρ2:=by have h3:(if(md.headD .ny).isMut=true then _ else _):=h;rw[hmd,if_neg (by simp)]at h3;exact h3
   have hroots:cA md (.nq a as)=cA md.tail as:=by
    cases md with
    |nil=>cases as<;>rfl
    |cons m md'=>have hmd:m.isMut=false:=hmd;cases m<;>first|rfl|cases hmd
   have hmv:∀v vs,fB md (v::vs)=fB md.tail vs:=fun v vs=>by unfold fB;generalize md.headD .ny=m at hmd;cases m<;>first | (cases vs<;>rfl)|cases hmd
   refine(LA g a).e I X h2 fun v F1 H1 S1 ρ1 x n Z s1 I1 r1 q1=>?_;refine Vc (LA g as) I1 (X.from s1.toStp) (fun i hi=>hm i (by rw[hroots];exact hi)) q1 fun vs F2 H2 S2 ρ2 xs W Y s2 I2 kp hs r2 mv q2=>?_;have s12:=s1.trans s2;have r2':=(r2.from s1.toStp).vars vr2;have mv':(fB md (v::vs)).map (fun v=>some (some v))=(cA md (.nq a as)).map (fun j=>σ[j]?):=by rw[hroots,hmv];exact mv
   cases n with
   |true =>
    have hd:=r1.held;have hd2:=hd.step s2.toStp I2;refine k (v::vs) F2 H2 S2 ρ2 _ (fun b=>Z b∨W b) Y s12 I2 ⟨.new hmd (s2.toStp.keep r1.tr hd.nu) r2.av (fun b hb hw=>?_) fun b=>Wd,fun b hb=>?_,r2'.tm,fun i sl e b hb=>?_⟩ mv' q2;rcases r2.fr b hw with q|q
    ·exact(hd.dom b hb).1 q
    exact hd.nu b hb q;rcases hb with hb|hb
    ·exact r1.fr rfl b hb
    exact r2'.fr b hb;rcases hb with hb|hb
    ·exact hd2.nw i sl e b hb
    exact r2.nw i sl e b hb
   |false =>
    have za:∀b,Z b->∃(i:Nat) (s:Sl),i∈rG a/\ρ2[i]?=some (some s)/\S2 i b:=by
     cases hd:x.isD with
     |true =>
      intro b hb;exfalso;have tr:=r1.tr;cases x with
      |d x=>cases tr with|d r n=>exact n b hb
      |_=>cases hd
     |false=>obtain⟨e1,e2⟩:=hs hd;rw[e1,e2];exact r1.tm rfl
    refine k (v::vs) F2 H2 S2 ρ2 _ W (fun b=>Z b∨Y b) s12 I2 ⟨.tmp hmd (kp _ _ _ r1.tr) (fun b hb=>.inl hb) (r2.av.sub fun b hb=>.inr hb),r2'.fr,fun b hb=>?_,r2.nw⟩ mv' q2;rcases hb with hb|hb;obtain⟨i,sl,h1,h2⟩:=za b hb;exact⟨i,sl,Qp _ h1,h2⟩;exact r2'.tm b hb⟩
end
end
structure Sts(C J:List Nat)(F H:Hp)(S:Ft)(ρ:kA)(σ:St)(F' H':Hp)(S':Ft)(ρ':kA)(σ':St):Prop where
 ff:Same F F'
 hh:∀b u,H b=some u->¬ U ρ S b->H' b=some u
 dm:∀b,H' b=none->H b=none
 fn:∀b,F b=none->F' b≠none->U ρ S b∨H b=none
 uu:∀b,U ρ' S' b->U ρ S b∨H b=none
 bo:∀(j:Nat) t,j∉J->ρ'[j]?=some (some (.nv t))->t.isD=false->ρ[j]?=some (some (.nv t))/\S' j=S j/\σ'[j]?=σ[j]?
 sg:∀j∈C,σ'[j]?=σ[j]?
structure Stc(C:List Nat)(F H:Hp)(S:Ft)(ρ:kA)(σ:St)(F' H':Hp)(S':Ft)(ρ':kA)(σ':St):Prop where
 ff:Same F F'
 hh:∀b u,H b=some u->¬ U ρ S b->H' b=some u
 dm:∀b,H' b=none->H b=none
 fn:∀b,F b=none->F' b≠none->U ρ S b∨H b=none
 uu:∀b,U ρ' S' b->U ρ S b∨H b=none
 sg:∀j∈C,σ'[j]?=σ[j]?
section
variable{K:QF}{Γ:Ev}{Ψ:PEv}{E:XE}{EK:XK}{F H F1 H1 F2 H2:Hp}{S S1 S2:Ft}{ρ ρ1 ρ2:kA}{σ σ1 σ2:St}{C J:List Nat}
section
variable{t:T}{Z:gB}{i:Nat}
theorem Stp.sts(s:Stp F H S ρ F1 H1 S1 ρ1):Sts C J F H S ρ σ F1 H1 S1 ρ1 σ:=⟨s.ff,s.hh,s.dm,s.fn,s.uu,fun j t _ e h=>let⟨h1,h2⟩:=s.bo j t e h;⟨h1,h2,rfl⟩,fun _ _=>rfl⟩
theorem Sts.refl:Sts C J F H S ρ σ F H S ρ σ:=Stp.refl.sts
theorem Sts.trans(a:Sts C J F H S ρ σ F1 H1 S1 ρ1 σ1)(b:Sts C [] F1 H1 S1 ρ1 σ1 F2 H2 S2 ρ2 σ2):Sts C J F H S ρ σ F2 H2 S2 ρ2 σ2 where
 ff:=a.ff.trans b.ff
 hh:=fun x u h n=>b.hh x u (a.hh x u h n) fun z=>by rcases a.uu x z with q|q;exact n q;rw[q]at h;cases h
 dm:=fun x h=>a.dm x (b.dm x h)
 fn:=fun x h z=>by
  by_cases q:F1 x=none;rcases b.fn x q z with w|w
  ·exact a.uu x w
  exact .inr (a.dm x w);exact a.fn x h q
 uu:=fun x h=>by rcases b.uu x h with w|w;exact a.uu x w;exact .inr (a.dm x w)
 bo:=fun j t hj h n=>by obtain⟨h1,h2,h3⟩:=b.bo j t (by simp) h n;obtain⟨h4,h5,h6⟩:=a.bo j t hj h1 n;exact⟨h4,h2.trans h5,h3.trans h6⟩
 sg:=fun j hj=>(b.sg j hj).trans (a.sg j hj)
theorem Sts.c(s:Sts C J F H S ρ σ F1 H1 S1 ρ1 σ1):Stc C F H S ρ σ F1 H1 S1 ρ1 σ1:=⟨s.ff,s.hh,s.dm,s.fn,s.uu,s.sg⟩
theorem Stc.trans(a:Stc C F H S ρ σ F1 H1 S1 ρ1 σ1)(b:Stc C F1 H1 S1 ρ1 σ1 F2 H2 S2 ρ2 σ2):Stc C F H S ρ σ F2 H2 S2 ρ2 σ2 where
 ff:=a.ff.trans b.ff
 hh:=fun x u h n=>b.hh x u (a.hh x u h n) fun z=>by rcases a.uu x z with q|q;exact n q;rw[q]at h;cases h
 dm:=fun x h=>a.dm x (b.dm x h)
 fn:=fun x h z=>by
  by_cases q:F1 x=none;rcases b.fn x q z with w|w
  ·exact a.uu x w
  exact .inr (a.dm x w);exact a.fn x h q
 uu:=fun x h=>by rcases b.uu x h with w|w;exact a.uu x w;exact .inr (a.dm x w)
 sg:=fun j hj=>(b.sg j hj).trans (a.sg j hj)
theorem IE.fromS(h:IE K F H S ρ E EK)(s:Sts C J F H S ρ σ F1 H1 S1 ρ1 σ1):IE K F1 H1 S1 ρ1 E EK:=fun x dx F2 H2 S2 ρ2 s2 f r q =>
 h x dx F2 H2 (fun _ _=>False) [] ⟨s.ff.trans s2.ff,fun b u e n=>s2.hh b u (s.hh b u e n) (fun z=>(s.uu b z).elim n fun w=>(by rw[w]at e;cases e)),fun b e=>s.dm b (s2.dm b e),fun b e z=>by
  by_cases q:F1 b=none;rcases s2.fn b q z with w|w
  ·exact s.uu b w
  exact .inr (s.dm b w);exact s.fn b e q,fun b ⟨i,t,e,_⟩=>by simp at e,fun j t e=>by simp at e⟩ f r q
structure EndsOk(K:QF)(C:List Nat)(F H:Hp)(S:Ft)(ρ:kA)(σ:St)(Z:PEnds)(Dn:Ends):Prop where
 nx:∀F' H' S' ρ' σ',Sts C [] F H S ρ σ F' H' S' ρ' σ'->Rl K F' H' S' ρ' σ'->Z.nx ρ'->Dn.nx σ' H'
 rt:∀v t W F' H' S' ρ' σ',Stc C F H S ρ σ F' H' S' ρ' σ'->Rl K F' H' S' ρ' σ'->Tr K F' H' true v t W->Held F' H' S' ρ' W->(∀b,W b->H b=none∨U ρ S b)->Z.rt t ρ'->Dn.rt v H'
 bk:∀F' H' S' ρ' σ',Sts C [] F H S ρ σ F' H' S' ρ' σ'->Rl K F' H' S' ρ' σ'->Z.bk ρ'->Dn.bk σ' H'
 ct:∀F' H' S' ρ' σ',Sts C [] F H S ρ σ F' H' S' ρ' σ'->Rl K F' H' S' ρ' σ'->Z.ct ρ'->Dn.ct σ' H'
theorem Di(s:Sts C J F H S ρ σ F1 H1 S1 ρ1 σ1){W:gB}(fr:∀b,W b->H1 b=none∨U ρ1 S1 b):∀b,W b->H b=none∨U ρ S b:=fun b hb=>by rcases fr b hb with q|q;exact .inl (s.dm b q);exact(s.uu b q).symm
theorem EndsOk.from{Z:PEnds}{Dn:Ends}(ok:EndsOk K C F H S ρ σ Z Dn)(s:Sts C [] F H S ρ σ F1 H1 S1 ρ1 σ1):EndsOk K C F1 H1 S1 ρ1 σ1 Z Dn :=
 ⟨fun F' H' S' ρ' σ' s' I q=>ok.nx F' H' S' ρ' σ' (s.trans s') I q,fun v t W F' H' S' ρ' σ' s' I r h fr q=>ok.rt v t W F' H' S' ρ' σ' (s.c.trans s') I r h (Di s fr) q,
  fun F' H' S' ρ' σ' s' I q=>ok.bk F' H' S' ρ' σ' (s.trans s') I q,fun F' H' S' ρ' σ' s' I q=>ok.ct F' H' S' ρ' σ' (s.trans s') I q⟩
theorem Sts.setD(s:Sts C J F H S ρ σ F1 H1 S1 ρ1 σ1)(i:Nat)(hi:i∉C)(v:V)(ht:t.isD=true)(Z:gB):Sts C J F H S ρ σ F1 H1 (DG S1 i Z) (ρ1.set i (some (.nv t))) (σ1.set i (some v)) :=
 ⟨s.ff,s.hh,s.dm,s.fn,fun b ⟨j,u,h1,h2⟩=>by
  rcases uA h1 with⟨_,e,_⟩| ⟨n,h1⟩
  cases e;rw[aA (Q2 n)]at h2;exact s.uu b ⟨j,u,h1,h2⟩,
 fun j u hj e hd=>by
  rcases uA e with⟨_,e,_⟩| ⟨n,e⟩
  injection e with e;injection e with e;subst e;rw[ht]at hd;cases hd;rw[aA (Q2 n),OD n];exact s.bo j u hj e hd,
 fun j hj=>by have n:i≠j:=fun e=>hi (e▸hj);rw[OD n];exact s.sg j hj⟩
theorem Rl.setD(I:Rl K F H S ρ σ)(i:Nat){v:V}{x:D}(r:Rep K F v x):Rl K F H (DG S i fun _=>False) (ρ.set i (some (.nv (.d x)))) (σ.set i (some v)) :=
 I.setB i (.d r fun _ z=>z) fun _ _ _ _ _ z=>z.elim
theorem Rl.setN(I:Rl K F H S ρ σ)(i:Nat){v:V}(r:Tr K F H true v t Z)(hz:∀(j:Nat) s,j≠i->ρ[j]?=some (some s)->∀b,Z b->¬ S j b):Rl K F H (DG S i Z) (ρ.set i (some (.own t))) (σ.set i (some v)) where
 fh:=I.fh
 len:=by simpa using I.len
 sl:=fun j s h=>by
  rcases uA h with⟨rfl,e,hl⟩| ⟨hn,h⟩
  cases e;exact⟨v,GS (by rw[<- I.len];exact hl),by rw[HA];exact r⟩;rw[OD hn,aA (Q2 hn)];exact I.sl j s h
 dj:=fun j k t' s n h1 h2 b hb hk=>by
  rcases uA h1 with⟨e,_,_⟩| ⟨n1,h1⟩
  subst e;rw[HA]at hb;rcases uA h2 with⟨e,_,_⟩| ⟨n2,h2⟩
  exact n e;rw[aA (Q2 n2)]at hk;exact hz k s (Q2 n2) h2 b hb hk;rw[aA (Q2 n1)]at hb;rcases uA h2 with⟨e,_,_⟩| ⟨n2,h2⟩
  subst e;rw[HA]at hk;exact hz j _ n h1 b hk hb;rw[aA (Q2 n2)]at hk;exact I.dj j k t' s n h1 h2 b hb hk
theorem Sts.setN(s:Sts C J F H S ρ σ F1 H1 S1 ρ1 σ1)(i:Nat)(hi:i∉C)(v:V)(t:T)(fr:∀b,Z b->H b=none∨U ρ S b):Sts C J F H S ρ σ F1 H1 (DG S1 i Z) (ρ1.set i (some (.own t))) (σ1.set i (some v)) :=
 ⟨s.ff,s.hh,s.dm,s.fn,fun b ⟨j,u,h1,h2⟩=>by
  rcases uA h1 with⟨rfl,_,_⟩| ⟨n,h1⟩
  rw[HA]at h2;exact(fr b h2).symm;rw[aA (Q2 n)]at h2;exact s.uu b ⟨j,u,h1,h2⟩,
 fun j u hj e hd=>by
  rcases uA e with⟨_,e,_⟩| ⟨n,e⟩
  cases e;rw[aA (Q2 n),OD n];exact s.bo j u hj e hd,
 fun j hj=>by have n:i≠j:=fun e=>hi (e▸hj);rw[OD n];exact s.sg j hj⟩
theorem RL:∀(is:List Nat) (ds:List D) {ρ ρ':kA},oB is (ds.map T.d) ρ=some ρ'->∀(j:Nat) t,ρ'[j]?=some (some (.nv t))->t.isD=false->j∉is/\ρ[j]?=some (some (.nv t))
 |[],[],ρ,ρ',h,j,t,e,hd=>by simp only[qR,oB,Qq]at h;subst h;exact⟨(by simp),e⟩
 |[],_::_,_,_,h,_,_,_,_=>by simp[oB]at h
 |_::_,[],_,_,h,_,_,_,_=>by simp[oB]at h
 |i::is,d::ds,ρ,ρ',h,j,t,e,hd=>by
  simp only[QN,oB]at h;obtain⟨h1,h2⟩:=RL is ds h j t e hd;rcases uA h2 with⟨_,q,_⟩| ⟨n,q⟩
  injection q with q;injection q with q;subst q;cases hd;exact⟨fun m=>(QK.mp m).elim (fun z=>n z.symm) h1,q⟩
theorem Rl.frz1(I:Rl K F H S ρ σ)(hi:ρ[i]?=some (some (.own t))):Rl K (DH F H (S i)) H (DG S i fun _=>False) (ρ.set i (some (.nv (.d t.er)))) σ/\Sts C [] F H S ρ σ (DH F H (S i)) H (DG S i fun _=>False) (ρ.set i (some (.nv (.d t.er)))) σ:=by
 obtain⟨v,hv,r⟩:=I.sl i _ hi;have ff:=gG (H:=H) fun b (hb:S i b)=>(r.dom b hb).2;have I0:Rl K F H S (ρ.set i none) σ:=I.drop (by simp) fun j s e=>by
  rcases uA e with⟨_,z,_⟩| ⟨_,e⟩
  cases z;exact e
 have hw:Held F H S (ρ.set i none) (S i):=⟨r.dom,fun j s e b hb z=>by
  rcases uA e with⟨_,q,_⟩| ⟨n,e⟩
  cases q;exact I.dj i j t s n hi e b hb z⟩
 have I1:=I0.frz hw;have kp:Rep K (DH F H (S i)) v t.er:=Tr.kept ff r fun b u hb e=>by rw[CH hb];exact e
 have I2:=I1.setD i kp;have e1:(ρ.set i none).set i (some (.nv (.d t.er)))=ρ.set i (some (.nv (.d t.er))):=by simp
 have e2:σ.set i (some v)=σ:=by apply wg;intro j;rw[wJ];split;rename_i e;subst e;split;exact hv.symm;rename_i n;rw[qH (by omega)];rfl
 rw[e1,e2]at I2;refine⟨I2,⟨ff,fun b u e _=>e,fun b e=>e,fun b e z=>.inl ?_,fun b ⟨j,u,h1,h2⟩=>.inl ?_,fun j u _ e hd=>?_,fun _ _=>rfl⟩⟩;by_cases hb:S i b
 ·exact⟨i,t,hi,hb⟩
 rw[xC hb]at z;exact absurd e z;rcases uA h1 with⟨_,q,_⟩| ⟨n,h1⟩
 ·cases q
 rw[aA (Q2 n)]at h2;exact⟨j,u,h1,h2⟩;rcases uA e with⟨_,q,_⟩| ⟨n,e⟩
 ·injection q with q;injection q with q;subst q;cases hd
 exact⟨e,aA (Q2 n),rfl⟩
theorem uV{f:Option Sl->Option Sl}:ρ.modify i f=match ρ[i]? with|some o=>ρ.set i (f o)|none=>ρ:=by
 apply wg;intro j;rw[W9];cases h:ρ[i]? with
 |none=>simp only;by_cases e:i=j;subst e;simp[h];simp[e]
 |some o=>simp only;rw[wJ];by_cases e:i=j;subst e;obtain⟨hl,rfl⟩:=Qi.mp h;simp[hl];simp[e]
theorem NO{α:Type}{l:List α}{o:α}(h:l[i]?=some o):l.set i o=l:=by apply wg;intro j;rw[wJ];split;rename_i e;subst e;rw[if_pos (Qi.mp h).1,h];rfl
theorem Rl.frzAt:∀(is:List Nat) {F:Hp}{S:Ft}{ρ:kA},Rl K F H S ρ σ->∃F' S',Rl K F' H S' (frzAt is ρ) σ/\Sts C [] F H S ρ σ F' H S' (frzAt is ρ) σ
 |[],F,S,ρ,I=>⟨F,S,I,.refl⟩
 |i::is,F,S,ρ,I=>by
  have one:∃F1 S1,Rl K F1 H S1 (ρ.modify i tV) σ/\Sts C [] F H S ρ σ F1 H S1 (ρ.modify i tV) σ:=by
   rw[uV];cases h:ρ[i]? with
   |none=>exact⟨F,S,I,.refl⟩
   |some o =>
    cases o with
    |none=>have e:ρ.set i (tV none)=ρ:=NO h;simp only[e];exact⟨F,S,I,.refl⟩
    |some sl =>
     cases sl with
     |nv t=>have e:ρ.set i (tV (some (.nv t)))=ρ:=NO h;simp only[e];exact⟨F,S,I,.refl⟩
     |own t=>exact⟨_,_,I.frz1 h⟩
  obtain⟨F1,S1,I1,s1⟩:=one;obtain⟨F2,S2,I2,s2⟩:=Rl.frzAt is I1;exact⟨F2,S2,I2,s1.trans s2⟩
end
end
def nJ(C:List Nat):PT->Bool
 | .seq s r=>nJ C s&&nJ C r
 | .set i _=>!C.contains i
 | .own i _=>!C.contains i
 | .ife _ a b=>nJ C a&&nJ C b
 | .for_ tg _ _ body=>tg.ix.all (fun i=>!C.contains i)&&nJ C body
 | .nil=>true
 | .expr _=>true
 | .ret _=>true
 | .tset is _=>is.all fun i=>!C.contains i
 | .six _ _ _=>true
 | .sdf _ _=>true
 | .whl _ body=>nJ C body
 | .frz _ s=>nJ C s
section
variable{K:QF}{Γ:Ev}{Ψ:PEv}{E:XE}{EK:XK}{F H F1 H1 F2 H2:Hp}{S S1 S2:Ft}{ρ ρ1 ρ2:kA}{σ σ1 σ2:St}{C J:List Nat}
theorem Sts.bind{L:List Nat}(s:Sts C J F H S ρ σ F1 H1 S1 ρ1 σ1)(b:Bd L F1 H1 S1 ρ1 σ1 F2 H2 S2 ρ2 σ2)(hL:∀j∈L,j∈J)(hC:∀j∈L,j∉C):Sts C J F H S ρ σ F2 H2 S2 ρ2 σ2 :=
 ⟨s.ff.trans b.ff,fun x u e n=>b.hh x u (s.hh x u e n),fun x e=>s.dm x (b.dm x e),fun x e z=>by
  by_cases q:F1 x=none;exact .inr (s.dm x (b.fn x q z));exact s.fn x e q,fun x u=>s.uu x (b.U u),fun j t hj e hd=>by
  obtain⟨e1,e2,e3⟩:=b.out j fun z=>hj (hL j z);rw[e1]at e;obtain⟨g1,g2,g3⟩:=s.bo j t hj e hd;exact⟨g1,e2.trans g2,e3.trans g3⟩,fun j hj=>(b.out j fun z=>hC j z hj).2.2.trans (s.sg j hj)⟩
theorem CT{tg:Tg}{body:PEnds->kA->Prop}{tb:TS}{Z:PEnds}{Dn:Ends}{xs:List Item}{ys:List T}{st:Hp->Prop}{Y:gB}
  (ib:∀{F H:Hp}{S:Ft}{ρ:kA}{σ:St}{Z:PEnds}{Dn:Ends},Rl K F H S ρ σ->IE K F H S ρ E EK->body Z ρ->EndsOk K C F H S ρ σ Z Dn->tb Dn σ H)
  (I:Rl K F H S ρ σ) (X:IE K F H S ρ E EK) (hC:∀j∈tg.ix,j∉C) (pr:Paired (gU K F H Y) xs ys) (hy:∀b,Y b->¬ U ρ S b/\H b≠none/\F b=none) (hst:∀F' H',Same F F'->Same F' H'->(∀b,Y b->H' b=H b)->st H') (h:zH body tg Z ys ρ)
  (onx:∀F' H' S' ρ' σ',Sts C tg.ix F H S ρ σ F' H' S' ρ' σ'->Rl K F' H' S' ρ' σ'->Z.nx ρ'->Dn.nx σ' H')
  (ort:∀v t W F' H' S' ρ' σ',Stc C F H S ρ σ F' H' S' ρ' σ'->Rl K F' H' S' ρ' σ'->Tr K F' H' true v t W->Held F' H' S' ρ' W->(∀b,W b->H b=none∨U ρ S b)->Z.rt t ρ'->Dn.rt v H'):vb K xs st tg tb Dn σ H:=by
 intro J hJ;have len:=qJ pr;have yk:∀{F1 H1:Hp}{S1:Ft}{ρ1:kA}{σ1:St},Sts C tg.ix F H S ρ σ F1 H1 S1 ρ1 σ1->∀b,Y b->H1 b=H b/\F1 b=none:=fun {F1 H1 S1 ρ1 σ1} s b hb=>by
  obtain⟨n,d1,d2⟩:=hy b hb;refine⟨?_,?_⟩;cases e:H b with
  |none=>exact absurd e d1
  |some u=>exact s.hh b u e n
  by_cases q:F1 b=none
  ·exact q
  exact((s.fn b d2 q).elim n d1).elim
 refine⟨fun i m σ' H'=>i<=xs.length/\m=xs.length - i/\∃ρ' F' S',Sts C tg.ix F H S ρ σ F' H' S' ρ' σ'/\Rl K F' H' S' ρ' σ'/\zH body tg Z (ys.drop i) ρ',⟨_,Qy _,rfl,ρ,F,S,.refl,I,by simpa using h⟩,?_⟩;rintro i m σ1 H1 ⟨hi,rfl,ρ1,F1,S1,s1,I1,h1⟩;have hs:=hst F1 H1 s1.ff I1.fh fun b hb=>(yk s1 b hb).1;rcases QAx i xs.length with hlt|hge;refine .inr ⟨hJ.go i H1 hs hlt,fun σ' H'=>i+1<=xs.length/\∃ρ' F' S',Sts C tg.ix F H S ρ σ F' H' S' ρ' σ'/\Rl K F' H' S' ρ' σ'/\zH body tg Z (ys.drop (i+1)) ρ',fun σ' H' ⟨a,b⟩=>⟨_,by omega,a,rfl,b⟩,fun x H2 hyl=>?_⟩;obtain⟨it,hx,hm⟩:=hJ.yld i H1 x H2 hs hlt hyl;obtain⟨y,hd,ry⟩:=Paired.get_of pr hx;rw[hd]at h1;unfold zH at h1;have key:L3.bindI K tg it σ1 H1 fun σ2 H2=>tb { Dn with nx:=fun σ' H'=>i+1<=xs.length/\∃ρ' F' S',Sts C tg.ix F H S ρ σ F' H' S' ρ' σ'/\Rl K F' H' S' ρ' σ'/\zH body tg Z (ys.drop (i+1)) ρ',ct:=fun σ' H'=>i+1<=xs.length/\∃ρ' F' S',Sts C tg.ix F H S ρ σ F' H' S' ρ' σ'/\Rl K F' H' S' ρ' σ'/\zH body tg Z (ys.drop (i+1)) ρ',bk:=Dn.nx } σ2 H2:=by
  refine uL I1 (fun b hb u=>?_) (ry.mono s1.ff (yk s1)) h1 fun ρ2 σ2 F2 H3 S2 bd I2 h2=>?_;rcases s1.uu b u with q|q
  ·exact(hy b hb).1 q
  exact(hy b hb).2.1 q;have s2:=s1.bind bd (fun j hj=>hj) hC;exact ib I2 (X.fromS s2) h2 ⟨fun F' H' S' ρ' σ' s' I' q=>⟨hlt,ρ',F',S',s2.trans s',I',q⟩,fun v t W F' H' S' ρ' σ' s' I' r hw fr q=>ort v t W F' H' S' ρ' σ' (s2.c.trans s') I' r hw (Di s2 fr) q,
   fun F' H' S' ρ' σ' s' I' q=>onx F' H' S' ρ' σ' (s2.trans s') I' q,fun F' H' S' ρ' σ' s' I' q=>⟨hlt,ρ',F',S',s2.trans s',I',q⟩⟩
 exact bL hm key;have e:ys.drop i=[]:=w9 (by omega);rw[e]at h1;exact .inl ⟨hJ.stop i H1 hs hge,onx F1 H1 S1 ρ1 σ1 s1 I1 h1⟩
theorem VF:∀(J:List Nat) (ρ:kA) (i:Nat) s,(kill J ρ)[i]?=some (some s)->ρ[i]?=some (some s)/\(i∈J->∀t,s=.nv t->t.isD=true)
 |[],ρ,i,s,h=>⟨h,fun z=>by simp at z⟩
 |j::J,ρ,i,s,h=>by
  unfold kill at h;obtain⟨h1,h2⟩:=VF J _ i s h;rw[W9]at h1;by_cases e:j=i;subst e;simp only[reduceIte]at h1;cases q:ρ[j]? with
  |none=>rw[q]at h1;cases h1
  |some o =>
   rw[q]at h1;have h1:ZG o=some s:=by simpa using h1
   cases o with
   |none=>cases h1
   |some sl =>
    cases sl with
    |own t=>cases h1;exact⟨rfl,fun _ t' z=>by cases z⟩
    |nv t =>
     have h1:(if t.isD=true then some (Sl.nv t) else none)=some s:=h1;cases hd:t.isD with
     |true=>rw[hd,if_pos rfl]at h1;cases h1;exact⟨rfl,fun _ t' z=>by cases z;exact hd⟩
     |false=>rw[hd]at h1;simp at h1
  simp only[e,if_false]at h1;refine⟨by simpa using h1,fun m=>h2 ((QK.mp m).elim (fun z=>absurd z.symm e) id)⟩
theorem DK:∀(J:List Nat) (ρ:kA),(kill J ρ).length=ρ.length
 |[],_=>rfl
 |j::J,ρ=>by unfold kill;rw[DK J];simp
theorem Sts.kill(s:Sts C J F H S ρ σ F1 H1 S1 ρ1 σ1):Sts C [] F H S ρ σ F1 H1 S1 (L3.kill J ρ1) σ1 :=
 ⟨s.ff,s.hh,s.dm,s.fn,fun b ⟨i,t,h1,h2⟩=>s.uu b ⟨i,t,(VF J ρ1 i _ h1).1,h2⟩,fun j t _ e hd=>by obtain⟨h1,h2⟩:=VF J ρ1 j _ e;by_cases hj:j∈J;rw[h2 hj t rfl]at hd;cases hd;exact s.bo j t hj h1 hd,s.sg⟩
theorem ZP:∀(L:List Nat) (ρ:kA) (j:Nat),(lock L ρ)[j]?=if j∈L then ρ[j]?.map YG else ρ[j]?
 |[],ρ,j=>by simp[lock]
 |i::L,ρ,j=>by
  have l2:∀o,YG (YG o)=YG o:=fun o=>by
   match o with
   |none=>rfl
   |some (.own _)=>rfl
   |some (.nv _)=>rfl
  unfold lock;rw[ZP L,W9];by_cases e:i=j;subst e;cases h:ρ[i]? with
  |none=>simp
  |some o=>simp[l2]
  have e':¬ j=i:=fun z=>e z.symm;simp[e,e']
theorem JP:∀(L:List Nat) (ρ:kA),(lock L ρ).length=ρ.length
 |[],_=>rfl
 |i::L,ρ=>by unfold lock;rw[JP L];simp
theorem PJ:∀(L:List Nat) (ρ0 ρ:kA) (j:Nat),(∀i∈L,i<ρ.length)->(aC L ρ0 ρ)[j]?=if j∈L then some (ρ0[j]?.getD none) else ρ[j]?
 |[],ρ0,ρ,j,_=>by simp[aC]
 |i::L,ρ0,ρ,j,h=>by unfold aC;rw[PJ L ρ0 _ j (fun k hk=>by simpa using h k (QG _ hk)),wJ];by_cases e:i=j;subst e;simp[h i QE];have e':¬ j=i:=fun z=>e z.symm;simp[e,e']
theorem OJ:∀(L:List Nat) (ρ0 ρ:kA),(aC L ρ0 ρ).length=ρ.length
 |[],_,_=>rfl
 |i::L,ρ0,ρ=>by unfold aC;rw[OJ L];simp
theorem RG{ρ:kA}:∀(is:List Nat),∀i∈fC ρ is,∃t,ρ[i]?=some (some (.own t))
 |[],i,h=>by simp[fC]at h
 |j::is,i,h=>by
  unfold fC at h;split at h
  ·rename_i ho
   rcases QK.mp h with e|e
   ·subst e
    unfold bR at ho;split at ho;rename_i t e;exact⟨t,e⟩
    all_goals cases ho
   exact RG is i e
  exact RG is i h
theorem sK{ρ:kA}{i:Nat}{t:T}(h:ρ[i]?=some (some (.own t))):∀(is:List Nat),i∈is->i∈fC ρ is
 |[],hi=>by simp at hi
 |j::is,hi=>by
  unfold fC;rcases QK.mp hi with e|e;subst e;have:bR ρ[i]?=true:=by rw[h];rfl
  rw[if_pos this];exact QE;have:=sK h is e;split;exact QG _ this;exact this
section
variable{L:List Nat}(hL:∀i∈L,∃t,ρ[i]?=some (some (.own t)))
include hL
theorem jJ{i:Nat}{s:Sl}(h:(lock L ρ)[i]?=some (some s)):(i∈L/\∃t,ρ[i]?=some (some (.own t))/\s=.nv t)∨(i∉L/\ρ[i]?=some (some s)):=by rw[ZP]at h;by_cases hi:i∈L;rw[if_pos hi]at h;obtain⟨t,e⟩:=hL i hi;rw[e]at h;injection h with h;injection h with h;exact .inl ⟨hi,t,e,h.symm⟩;rw[if_neg hi]at h;exact .inr ⟨hi,h⟩
theorem FE{b:Addr}(h:U (lock L ρ) S b):U ρ S b:=by
 obtain⟨i,t,h1,h2⟩:=h;rcases jJ hL h1 with⟨_,t',_,e⟩| ⟨_,h1⟩
 cases e;exact⟨i,t,h1,h2⟩
theorem Rl.lock(I:Rl K F H S ρ σ):Rl K F H S (L3.lock L ρ) σ where
 fh:=I.fh
 len:=by rw[JP];exact I.len
 sl:=fun i s e=>by
  rcases jJ hL e with⟨_,t,h,rfl⟩| ⟨_,h⟩
  obtain⟨v,h1,h2⟩:=I.sl i _ h;exact⟨v,h1,h2.weak⟩;exact I.sl i s h
 dj:=fun i j t s n e1 e2=>by
  rcases jJ hL e1 with⟨_,_,_,z⟩| ⟨_,h1⟩
  cases z;rcases jJ hL e2 with⟨_,t',h2,_⟩| ⟨_,h2⟩
  ·exact I.dj i j t _ n h1 h2
  exact I.dj i j t s n h1 h2
theorem Rl.lockU(I:Rl K F H S ρ σ){i:Nat}(hi:i∈L){b:Addr}(hb:S i b):¬ U (L3.lock L ρ) S b:=fun⟨j,t,h1,h2⟩=>by
 obtain⟨t',e⟩:=hL i hi;rcases jJ hL h1 with⟨_,_,_,z⟩| ⟨hj,h1⟩
 cases z;exact I.dj j i t _ (fun z=>hj (z▸hi)) h1 e b h2 hb
theorem rU(I:Rl K F H S ρ σ)(s:Sts C [] F H S (lock L ρ) σ F1 H1 S1 ρ1 σ1)(I1:Rl K F1 H1 S1 ρ1 σ1)(hl:∀i∈L,ρ1[i]?=ρ[i]?.map YG) :
  ∃S2,Rl K F1 H1 S2 (aC L ρ ρ1) σ1/\Sts C [] F H S ρ σ F1 H1 S2 (aC L ρ ρ1) σ1:=by
 classical
 have l1:∀i∈L,∃t,ρ[i]?=some (some (.own t))/\ρ1[i]?=some (some (.nv t)):=fun i hi=>by obtain⟨t,e⟩:=hL i hi;have:=hl i hi;rw[e]at this;exact⟨t,e,this⟩
 have hlt:∀i∈L,i<ρ1.length:=fun i hi=>by obtain⟨t,_,e⟩:=l1 i hi;exact(Qi.mp e).1
 let S2:Ft:=fun i=>if i∈L then S i else S1 i
 have s2i:∀i∈L,S2 i=S i:=fun i hi=>if_pos hi;have s2o:∀i,i∉L->S2 i=S1 i:=fun i hi=>if_neg hi;have get:∀i sl,(aC L ρ ρ1)[i]?=some (some sl)->(i∈L/\∃t,ρ[i]?=some (some (.own t))/\ρ1[i]?=some (some (.nv t))/\sl=.own t)∨(i∉L/\ρ1[i]?=some (some sl)):=fun i sl e=>by rw[PJ L ρ ρ1 i hlt]at e;by_cases hi:i∈L;rw[if_pos hi]at e;obtain⟨t,e1,e2⟩:=l1 i hi;rw[e1]at e;injection e with e;have e:some (Sl.own t)=some sl:=e;injection e with e;exact .inl ⟨hi,t,e1,e2,e.symm⟩;rw[if_neg hi]at e;exact .inr ⟨hi,e⟩
 have far:∀i∈L,∀k sl,k∉L->ρ1[k]?=some (some sl)->∀b,S i b->¬ S1 k b:=fun i hi k sl hk e b hb z=>by
  obtain⟨t,e1,_⟩:=l1 i hi;cases sl with
  |own u=>rcases s.uu b ⟨k,u,e,z⟩ with q|q;exact I.lockU hL hi hb q;exact(I.dom e1 hb).1 q
  |nv u =>
   cases hd:u.isD with
   |true=>exact I1.isD e hd z
   |false =>
    obtain⟨g1,g2,_⟩:=s.bo k u (by simp) e hd;rw[g2]at z;rcases jJ hL g1 with⟨q,_⟩| ⟨_,g1⟩
    exact hk q;exact I.dj i k t _ (fun q=>hk (q▸hi)) e1 g1 b hb z
 refine⟨S2,⟨I1.fh,by rw[OJ];exact I1.len,fun i sl e=>?_,fun i k t sl n e1 e2 b hb hk=>?_⟩,⟨s.ff,fun b u e n=>s.hh b u e fun z=>n (FE hL z),s.dm,fun b e z=>(s.fn b e z).imp (FE hL) id,fun b ⟨i,t,h1,h2⟩=>?_,fun j t _ e hd=>?_,s.sg⟩⟩;rcases get i sl e with⟨hi,t,e1,e2,rfl⟩| ⟨hi,e1⟩
 ·rw[s2i i hi]
  obtain⟨v,g1,g2⟩:=I.sl i _ e1;cases hd:t.isD with
  |true =>
   obtain⟨v',g3,g4⟩:=I1.sl i _ e2;refine⟨v',g3,?_⟩;have nb:∀b,¬ S i b:=fun b=>I.isD e1 hd;cases t with
   |d x =>
    have g4:Tr K F1 H1 false v' (.d x) (S1 i):=g4;cases g4 with
    |d r _=>exact .d r nb
   |_=>cases hd
  |false =>
   obtain⟨_,_,g5⟩:=s.bo i t (by simp) e2 hd;refine⟨v,g5.trans g1,?_⟩;have g2:Tr K F H true v t (S i):=g2;refine g2.mono s.ff fun b hb=>?_;obtain⟨d1,d2⟩:=g2.dom b hb;have nu:=I.lockU hL hi hb;refine⟨?_,?_⟩;cases eb:H b with
   |none=>exact absurd eb d1
   |some u=>exact s.hh b u eb nu
   by_cases q:F1 b=none
   ·exact q
   exact((s.fn b d2 q).elim nu d1).elim
 rw[s2o i hi];exact I1.sl i sl e1;rcases get i _ e1 with⟨hi,t',a1,a2,_⟩| ⟨hi,a1⟩
 ·rw[s2i i hi]at hb
  rcases get k sl e2 with⟨hk',t2,b1,b2,_⟩| ⟨hk',b1⟩
  rw[s2i k hk']at hk;exact I.dj i k t' _ n a1 b1 b hb hk;rw[s2o k hk']at hk;exact far i hi k sl hk' b1 b hb hk
 rw[s2o i hi]at hb;rcases get k sl e2 with⟨hk',t2,b1,b2,_⟩| ⟨hk',b1⟩
 rw[s2i k hk']at hk;exact far k hk' i _ hi a1 b hk hb;rw[s2o k hk']at hk;exact I1.dj i k t sl n a1 b1 b hb hk;rcases get i _ h1 with⟨hi,t',a1,a2,_⟩| ⟨hi,a1⟩
 ·rw[s2i i hi]at h2
  exact .inl ⟨i,t',a1,h2⟩
 rw[s2o i hi]at h2;exact(s.uu b ⟨i,t,a1,h2⟩).imp (FE hL) id;rcases get j _ e with⟨_,_,_,_,z⟩| ⟨hj,e1⟩
 ·cases z
 obtain⟨g1,g2,g3⟩:=s.bo j t (by simp) e1 hd;rcases jJ hL g1 with⟨q,_⟩| ⟨_,g1⟩
 exact absurd q hj;exact⟨g1,(s2o j hj).trans g2,g3⟩
end
theorem rN{i:Nat}(h:(!C.contains i)=true):i∉C:=fun z=>by have:C.contains i=true:=Q4.mpr z;rw[this]at h;cases h
theorem nP{is:List Nat}(h:(is.all fun i=>!C.contains i)=true):∀i∈is,i∉C:=fun i hi=>rN (qF.mp h i hi)
theorem vU:∀{xs:List (T×Bool)},ZQ xs=true->∀t∈ZL xs,t.isD=true
 |[],_,t,h=>by simp[ZL]at h
 |p::r,h,t,ht=>by
  simp only[ZQ,Qe]at h;simp only[ZL,QK]at ht;rcases ht with rfl|ht;obtain⟨x,n⟩:=p;cases n with
  |true=>rfl
  |false =>
   have h1:=h.1;cases x with
   |d x=>rfl
   |_=>cases h1
  exact vU h.2 t ht
theorem Tn.bare{Y:gB}{vs:List V}{ts:List T}(h:Tn K F H Y vs ts):(∀t∈ts,t.isD=true)->Tn K F H (fun _=>False) vs ts:=by
 induction h with
 |nil=>exact fun _=>.nil
 |@cons v t vs ts Z r z tl ih =>
  intro hd;refine .cons (Z:=fun _=>False) ?_ (fun _ z=>z) (ih fun u hu=>hd u (QG _ hu));have hd:=hd t QE;cases t with
  |d x=>cases r with|d q _=>exact .d q fun _ z=>z
  |_=>cases hd
theorem UW{v:V}{t:T}{W:gB}{Z:PEnds}{Dn:Ends}(ok:EndsOk K C F H S ρ σ Z Dn)(s:Ste F H S ρ F1 H1 S1 ρ1)(I:Rl K F1 H1 S1 ρ1 σ)(r:Tr K F1 H1 true v t W)(hw:Held F1 H1 S1 ρ1 W)(fr:∀b,W b->H b=none∨U ρ S b)(q:Z.rt t ρ1):Dn.rt v H1 :=
 ok.rt v t W F1 H1 S1 ρ1 σ (s.toStp.sts (J:=[])).c I r hw fr q
theorem o0(g:GOk K Γ Ψ):∀(e:PX) {F H:Hp}{S:Ft}{ρ:kA}{σ:St}{Z:PEnds}{Dn:Ends},Rl K F H S ρ σ->IE K F H S ρ E EK->mJ Ψ E Z.rt e ρ->EndsOk K C F H S ρ σ Z Dn->(wp K Γ e EK).e σ H Dn.rt:=by
  intro e F H S ρ σ Z Dn I X h ok;have gen:∀e,(pe Ψ e E).e ρ (fun x n ρ1=>kH x n=true/\Z.rt x ρ1)->(wp K Γ e EK).e σ H Dn.rt:=fun e h=>by refine(LA g e).e (Q:=fun x n ρ1=>kH x n=true/\Z.rt x ρ1) I X h fun v F' H' S' ρ' x n Za s J r ⟨he,q⟩=>?_;obtain⟨W,r2,hw,fr⟩:=r.strict he;exact UW ok s J r2 hw fr q
  cases e with
  |var i =>
   have h':nh ρ i Z.rt ρ[i]?:=h;show(match σ[i]? with|some (some v)=>Dn.rt v _|_=>False)
   match hd:ρ[i]?,h' with
   |some (some (.own t)),h' =>
    obtain⟨v,h1,r⟩:=I.sl i _ hd;rw[h1];have I0:Rl K F H S (ρ.set i none) σ:=I.drop (by simp) fun j s e=>by
     rcases uA e with⟨_,z,_⟩| ⟨_,e⟩
     cases z;exact e
    refine ok.rt v t (S i) F H S (ρ.set i none) σ ⟨.refl _,fun b u e _=>e,fun b e=>e,fun b e z=>absurd e z,fun b ⟨j,u,h1,h2⟩=>.inl ?_,fun _ _=>rfl⟩ I0 r ⟨r.dom,fun j s e b hb z=>?_⟩ (fun b hb=>.inr ⟨i,t,hd,hb⟩) h';rcases uA h1 with⟨_,z,_⟩| ⟨_,h1⟩
    ·cases z
    exact⟨j,u,h1,h2⟩;rcases uA e with⟨_,q,_⟩| ⟨n,e⟩
    ·cases q
    exact I.dj i j t s n hd e b hb z
   |some (some (.nv t)),h' =>
    obtain⟨v,h1,r⟩:=I.sl i _ hd;rw[h1];obtain⟨ht,h'⟩:=h';cases t with
    |d x =>
     have r:Tr K F H false v (.d x) (S i):=r;cases r with
     |d q n=>exact UW (W:=fun _=>False) ok .refl I (.d q fun _ z=>z) .none (fun _ z=>z.elim) h'
    |_=>cases ht
   |some none,h'=>exact h'.elim
   |none,h'=>exact h'.elim
  |_=>exact gen _ h
theorem sH(g:GOk K Γ Ψ):∀(p:PT) {F H:Hp}{S:Ft}{ρ:kA}{σ:St}{Z:PEnds}{Dn:Ends},nJ C p=true->Rl K F H S ρ σ->IE K F H S ρ E EK->xA Ψ E p Z ρ->EndsOk K C F H S ρ σ Z Dn->YO K Γ EK p Dn σ H
 | .nil,_,_,_,_,_,_,_,c,I,X,h,ok=>ok.nx _ _ _ _ _ .refl I h
 | .seq s r,_,_,_,_,_,_,_,c,I,X,h,ok=>by obtain⟨c1,c2⟩:=yA c;exact sH g s c1 I X h ⟨fun F' H' S' ρ' σ' s' J q=>sH g r c2 J (X.fromS s') q (ok.from s'),ok.rt,ok.bk,ok.ct⟩
 | .set i e,F,H,S,ρ,σ,Z,Dn,c,I,X,h,ok=>by have hi:=rN c;refine bE (RR:=fun x H1=>Dn.nx (σ.set i (some x)) H1) (LA g e) I X h fun v F' H' S' ρ' x n Za s J X' r er _ ⟨he,q⟩=>?_;exact ok.nx _ _ _ _ _ (s.toStp.sts.setD i hi v rfl _) (J.setD i (er he)) q
 | .expr e,F,H,S,ρ,σ,Z,Dn,c,I,X,h,ok=>(LA g e).e I X h fun v F' H' S' ρ' x n Za s J r q=>ok.nx _ _ _ _ _ s.toStp.sts J q
 | .ret e,F,H,S,ρ,σ,Z,Dn,c,I,X,h,ok=>o0 g e I X h ok
 | .ife t a b,F,H,S,ρ,σ,Z,Dn,c,I,X,h,ok=>by
  obtain⟨c1,c2⟩:=yA c;refine(LA g t).t I X h fun k F' H' S' ρ' s J q=>?_;cases k with
  |true=>exact sH g a c1 J (X.from s.toStp) q (ok.from s.toStp.sts)
  |false=>exact sH g b c2 J (X.from s.toStp) q (ok.from s.toStp.sts)
 | .for_ tg ik its body,F,H,S,ρ,σ,Z,Dn,c,I,X,h,ok=>by
  obtain⟨c1,c2⟩:=yA c;have hC:=nP c1;refine lS (RR:=fun vs H1=>vC K ik vs H1 fun xs st H2=>vb K xs st tg (YO K Γ EK body) Dn σ H2) (LA g its) I X h fun vs F1 H1 S1 ρ1 xs Y s1 I1 X1 tn tm q=>?_;rw[GJ _ rfl]at q;have ok1:=ok.from s1.toStp.sts;cases ha:ZQ xs with
  |true=>have tn':=tn.bare (vU ha);refine iI I1.fh tn' q fun its ys st pr hst hc=>?_;rw[ha,if_pos rfl]at hc;refine CT (fun I X h ok=>sH g body c2 I X h ok) I1 X1 hC pr (fun b z=>z.elim) hst hc ?_ ?_;exact fun F' H' S' ρ' σ' s' I' q=>ok1.nx _ _ _ _ _ s'.kill (I'.drop (DK _ _) fun i sl e=>(VF _ _ i sl e).1) q;exact fun v t W F' H' S' ρ' σ' s' I' r hw fr q=>ok1.rt v t W F' H' S' ρ' σ' s' I' r hw fr q
  |false =>
   refine iI I1.fh tn q fun its' ys st pr hst hc=>?_;rw[ha,if_neg (by simp)]at hc;have hL:=RG (ρ:=ρ1) (rG its);have IL:=I1.lock hL;have sL:Sts C [] F1 H1 S1 ρ1 σ F1 H1 (fun _ _=>False) [] σ:=⟨.refl _,fun b u e _=>e,fun b e=>e,fun b e z=>absurd e z,fun b ⟨i,t,e,_⟩=>by simp at e,fun j t _ e=>by simp at e,fun _ _=>rfl⟩
   have XL:IE K F1 H1 S1 (lock (fC ρ1 (rG its)) ρ1) E EK:=fun x dx F2 H2 S2 ρ2 s2 f r q =>
    X1 x dx F2 H2 (fun _ _=>False) [] ⟨s2.ff,fun b u e n=>s2.hh b u e fun z=>n (FE hL z),s2.dm,fun b e z=>(s2.fn b e z).imp (FE hL) id,fun b ⟨i,t,e,_⟩=>by simp at e,fun j t e=>by simp at e⟩ f r q
   refine CT (fun I X h ok=>sH g body c2 I X h ok) IL XL hC pr (fun b hb=>?_) hst hc ?_ ?_;obtain⟨i,sl,h1,h2,h3⟩:=tm b hb;refine⟨fun u=>?_,I1.dom h2 h3⟩;cases sl with
   |own t=>exact I1.lockU hL (sK h2 _ h1) h3 u
   |nv t =>
    obtain⟨j,t',e1,e2⟩:=u;rcases jJ hL e1 with⟨_,_,_,z⟩| ⟨_,e1⟩
    cases z;exact I1.dj j i t' _ (fun z=>by subst z;rw[h2]at e1;cases e1) e1 h2 b e2 h3
   intro F' H' S' ρ' σ' s' I' ⟨q1,q2⟩;have sk:=s'.kill;have Ik:=I'.drop (DK tg.ix ρ') fun i sl e=>(VF _ _ i sl e).1;obtain⟨S2,I2,s2⟩:=rU hL I1 sk Ik fun i hi=>(q1 i hi).2;exact ok1.nx _ _ _ _ _ s2 I2 q2;intro v t W F' H' S' ρ' σ' s' I' r hw fr q;exact ok1.rt v t W F' H' S' ρ' σ' ⟨s'.ff,fun b u e n=>s'.hh b u e fun z=>n (FE hL z),s'.dm,fun b e z=>(s'.fn b e z).imp (FE hL) id,fun b u=>(s'.uu b u).imp (FE hL) id,s'.sg⟩ I' r hw (fun b hb=>(fr b hb).imp id (FE hL)) q
 | .own i e,F,H,S,ρ,σ,Z,Dn,c,I,X,h,ok=>by refine(LA g e).e (Q:=fun x n ρ1=>kH x n=true/\Z.nx (ρ1.set i (some (.own x)))) I X h fun v F' H' S' ρ' x n Za s J r ⟨he,q⟩=>?_;obtain⟨W,r2,hw,fr⟩:=r.strict he;exact ok.nx _ _ _ _ _ (s.toStp.sts.setN i (rN c) v x fr) (J.setN i r2 fun j sl _ e b hb=>hw.nw j sl e b hb) q
 | .tset is e,F,H,S,ρ,σ,Z,Dn,c,I,X,h,ok=>by
  have hc:=nP c;refine bE (RR:=fun x H1=>oE K (.tp is) x σ H1 Dn.nx) (LA g e) I X h fun v F' H' S' ρ' x n Za s J X' r er _ ⟨he,q⟩=>?_;have q2:bJ (.tp is) (.d x.er) ρ' fun ρ2=>Z.nx ρ2/\∀(j:Nat) t,ρ2[j]?=some (some (.nv t))->t.isD=false->j∉is:=by
   generalize x.er=d at q;cases d with
   |tuple ds=>obtain⟨ρ2,e,q⟩:=q;exact⟨ρ2,e,q,fun j t h1 h2=>(RL is ds e j t h1 h2).1⟩
   |dict kvs =>
    have q:(match JB kvs with | .tp ts=>∃ρ2,oB is ts ρ'=some ρ2/\Z.nx ρ2|_=>False):=q;unfold JB at q;cases ek:IC kvs with
    |none=>rw[ek]at q;exact q.elim
    |some b=>rw[ek]at q;exact q.elim
   |_=>exact q.elim
  refine uL (Y:=fun _=>False) (it:=.one v) J (fun b z=>z.elim) ⟨fun _=>False,.d (er he) fun _ z=>z,fun _ z=>z⟩ q2 fun ρ2 σ2 F2 H2 S2 bd J2 qn=>?_;have st:=(s.toStp.sts (σ:=σ) (C:=C) (J:=is)).bind bd (fun j hj=>hj) hc;exact ok.nx _ _ _ _ _ ⟨st.ff,st.hh,st.dm,st.fn,st.uu,fun j t _ e hd=>st.bo j t (qn.2 j t e hd) e hd,st.sg⟩ J2 qn.1
 | .six o i e,F,H,S,ρ,σ,Z,Dn,c,I,X,h,ok=>by
  have later:∀{j:Nat}{t:T}{v0:V},ρ[j]?=some (some (.own t))->Tr K F H true v0 t (S j)->∀{F' H':Hp}{S':Ft}{ρ':kA},Ste F H S (ρ.set j (some (.nv t))) F' H' S' ρ'->Tr K F' H' true v0 t (S j)/\∀b,S j b->H' b=H b:=fun {j t v0} hj r0 {F' H' S' ρ'} s=>⟨s.toStp.keep r0 (I.lock1U hj),fun b hb=>by
   cases e:H b with
   |none=>exact absurd e (r0.dom b hb).1
   |some u=>exact s.hh b u e (I.lock1U hj b hb)⟩
  cases o with
  |var j =>
   have h:VD ρ[j]? _:=h;unfold VD at h;split at h;rename_i t hj;obtain⟨v0,hv,r0⟩:=I.sl j _ hj;have r0:Tr K F H true v0 t (S j):=r0;show(wp K Γ e EK).e σ H fun v H1=>(wp K Γ (.var j) EK).e σ H1 fun ov H2=>(wp K Γ i EK).e σ H2 fun iv H3=>RO K ov iv v H3 fun H4=>Dn.nx σ H4;refine bE (LA g e) (I.lock1 hj) (X.lock1 hj) h fun xv F1 H1 S1 ρ1 x n Zx s1 I1 X1 _ er1 _ ⟨he,q1⟩=>?_;have rx:=er1 he;show(match σ[j]? with|some (some v)=>_|_=>False);rw[hv];refine bE (LA g i) I1 X1 q1 fun iv F2 H2 S2 ρ2 y m Zy s2 I2 X2 _ er2 _ ⟨he2,hj2,q2⟩=>?_;have s12:=s1.trans s2;refine mW I2.fh (later hj r0 s12).1 (er2 he2) (rx.mono s2.ff) q2 fun t' H3 S3 hh dm rt sub q=>?_;obtain⟨st,I3,_⟩:=pH (W:=fun _=>False) I hj hv s12 I2 hh dm rt (fun b hb=>.inl (sub b hb)) .none (fun _ z=>z.elim);exact ok.nx _ _ _ _ _ st.toStp.sts I3 q
   all_goals exact h.elim
  |idx a k =>
   cases a with
   |var j =>
    have h:VD ρ[j]? _:=h;unfold VD at h;split at h;rename_i t hj;obtain⟨v0,hv,r0⟩:=I.sl j _ hj;have r0:Tr K F H true v0 t (S j):=r0;show(wp K Γ e EK).e σ H fun v H1=>(wp K Γ (.var j) EK).e σ H1 fun ov H2=>(wp K Γ k EK).e σ H2 fun zv H3=>GU K ov zv H3 fun ow H4=>(wp K Γ i EK).e σ H4 fun iv H5=>RO K ow iv v H5 fun H6=>Dn.nx σ H6;refine bE (LA g e) (I.lock1 hj) (X.lock1 hj) h fun xv F1 H1 S1 ρ1 x n Zx s1 I1 X1 _ er1 _ ⟨he,q1⟩=>?_;have rx:=er1 he;show(match σ[j]? with|some (some v)=>_|_=>False);rw[hv];refine bE (LA g k) I1 X1 q1 fun zv F2 H2 S2 ρ2 z l Zz s2 I2 X2 _ er2 _ ⟨hez,b,ks,ts,n,s,et,hk,hf,ht,q2⟩=>?_;have s12:=s1.trans s2;have rz:=er2 hez;subst et;obtain⟨r2,k2⟩:=later hj r0 s12;obtain⟨a,o,vs,ea,ho,dk,hw⟩:∃a o vs,v0=.ref a/\H2 a=some o/\OI K F2 b o ks vs/\∃w,vs[n]?=some w/\S j a:=by
     cases r2 with
     |dct h1 dk h2 h3 h4 h5=>obtain⟨w,_,g1,_⟩:=h3.get ht;exact⟨_,_,_,rfl,h1,dk,w,g1,(h5 _).mpr (.inl rfl)⟩
    obtain⟨w,hw,sa⟩:=hw;subst ea;have gd:=(dk.mono I2.fh).get ho (rz.mono I2.fh) hk;rw[hf]at gd;have gd:oO K H2 a zv (vs[n]?):=gd;rw[hw]at gd;have fin:(wp K Γ i EK).e σ H2 fun iv H5=>RO K w iv xv H5 fun H6=>Dn.nx σ H6:=by
     refine bE (LA g i) I2 X2 q2 fun iv F3 H3 S3 ρ3 y m Zy s3 I3 X3 _ er3 _ ⟨he3,hj3,q3⟩=>?_;have s13:=s12.trans s3;obtain⟨r3,k3⟩:=later hj r0 s13;have ho3:H3 a=some o:=by rw[k3 a sa,<- k2 a sa];exact ho
     refine NZ I3.fh r3 ho3 dk hw ht (er3 he3) ((rx.mono s2.ff).mono s3.ff) q3 fun t' H4 S4 hh dm rt sub q=>?_;obtain⟨st,I4,_⟩:=pH (W:=fun _=>False) I hj hv s13 I3 hh dm rt (fun b hb=>.inl (sub b hb)) .none (fun _ z=>z.elim);exact ok.nx _ _ _ _ _ st.toStp.sts I4 q
    cases zv with
    |str z=>exact⟨w,gd,fin⟩
    |ref c=>exact⟨w,gd,fin⟩
    |_=>exact gd.elim
    all_goals exact h.elim
   |_=>exact h.elim
  |_=>exact h.elim
 | .sdf j k,F,H,S,ρ,σ,Z,Dn,c,I,X,h,ok=>by
  have h:VD ρ[j]? _:=h;unfold VD at h;split at h;rename_i t hj;obtain⟨v0,hv,r0⟩:=I.sl j _ hj;have r0:Tr K F H true v0 t (S j):=r0;obtain⟨hd,h⟩:=h;show(match σ[j]? with|some (some v)=>MV K "dict" v H/\(wp K Γ k EK).e σ H fun x H1=>∀p,H1 p=none->JJ K v [x,.ref p] (UA H1 p (.dT 0 [])) fun _ H2=>Dn.nx σ H2|_=>False);rw[hv];constructor;cases r0 with
  |@dct _ b _ _ _ _ _ _ _ h1 dk _ _ _ _ =>
   cases b with
   |true=>obtain⟨ep,kvs,rfl,_⟩:=dk;exact .inr (.inr (.inl ⟨rfl,.inr ⟨ep,kvs,h1⟩⟩))
   |false=>cases hd
  |_=>cases hd
  refine bE (LA g k) (I.lock1 hj) (X.lock1 hj) h fun iv F1 H1 S1 ρ1 y m Zy s1 I1 X1 _ er _ ⟨he,hj1,q1⟩=>?_;intro p hp;have r1:=s1.toStp.keep r0 (I.lock1U hj);refine F7 I1.fh hp r1 (er he) q1 fun t' H3 S3 hh dm rt sub q=>?_;obtain⟨st,I3,_⟩:=pH (W:=fun _=>False) I hj hv s1 I1 hh dm rt (fun b hb=>(sub b hb).imp id fun(z:b=p)=>.inr (by rw[z];exact hp)) .none (fun _ z=>z.elim);exact ok.nx _ _ _ _ _ st.toStp.sts I3 q
  all_goals exact h.elim
 | .whl t body,F,H,S,ρ,σ,Z,Dn,c,I,X,h,ok=>by
  obtain⟨W,⟨m0,w0⟩,turn⟩:=h;refine⟨fun m σ' H'=>∃ρ' F' S',Sts C [] F H S ρ σ F' H' S' ρ' σ'/\Rl K F' H' S' ρ' σ'/\W m ρ',⟨m0,ρ,F,S,.refl,I,w0⟩,?_⟩;rintro m σ1 H1 ⟨ρ1,F1,S1,s1,I1,w1⟩;refine(LA g t).t I1 (X.fromS s1) (turn m ρ1 w1) fun k F' H' S' ρ' s' J q=>?_;have s2:=s1.trans s'.toStp.sts;cases k with
  |false=>exact ok.nx _ _ _ _ _ s2 J q
  |true =>
   refine⟨fun σ' H'=>∃m',m' < m/\∃ρ' F' S',Sts C [] F H S ρ σ F' H' S' ρ' σ'/\Rl K F' H' S' ρ' σ'/\W m' ρ',fun _ _ z=>z,?_⟩;refine sH g body c J (X.fromS s2) q ⟨?_,?_,?_,?_⟩;exact fun F' H' S' ρ' σ' s' I' ⟨m',hm,w⟩=>⟨m',hm,ρ',F',S',s2.trans s',I',w⟩
   exact fun v t W F' H' S' ρ' σ' s' I' r hw fr q=>ok.rt v t W F' H' S' ρ' σ' (s2.c.trans s') I' r hw (Di s2 fr) q;exact fun F' H' S' ρ' σ' s' I' q=>ok.nx _ _ _ _ _ (s2.trans s') I' q;exact fun F' H' S' ρ' σ' s' I' ⟨m',hm,w⟩=>⟨m',hm,ρ',F',S',s2.trans s',I',w⟩
 | .frz is s,F,H,S,ρ,σ,Z,Dn,c,I,X,h,ok=>by obtain⟨F',S',I',s'⟩:=I.frzAt (C:=C) is;exact sH g s c I' (X.fromS s') h (ok.from s')
end
section
variable{ev:Ev}{n:Need}
structure Need where
 fn:List Str
 va:List Str
 no:List Str
def ui(n:Need):ItK->Bool
 | .val=>true
 | .rng1=>n.no.contains ("range":Str)
 | .enum=>n.no.contains ("enumerate":Str)
 | .zip2=>n.no.contains ("zip":Str)
 | .itm=>true
def dB(n:Need):PX->Bool
 | .glo x=>n.va.contains x
 | .bin _ a b | .cmp _ a b | .and a b | .or a b | .idx a b | .nq a b | .dsp a b=>dB n a&&dB n b
 | .not a | .lst a | .tup a=>dB n a
 | .slc a b c=>dB n a&&(dB n b&&dB n c)
 | .sset a=>n.no.contains "sorted" && (n.no.contains "set" && dB n a)
 | .call f as=>n.fn.contains f&&dB n as
 | .bi f as=>n.no.contains f.nm&&dB n as
 | .mt _ o as=>dB n o&&dB n as
 | .comp _ _ _ ik its cond elt=>ui n ik&&(dB n its&&(dB n cond&&dB n elt))
 |_=>true
def BE(n:Need):PT->Bool
 | .seq s r=>BE n s&&BE n r
 | .set _ e=>dB n e
 | .own _ e=>dB n e
 | .expr e=>dB n e
 | .ret e=>dB n e
 | .ife c a b=>dB n c&&(BE n a&&BE n b)
 | .for_ _ ik its body=>ui n ik&&(dB n its&&BE n body)
 | .tset _ e=>dB n e
 | .six o i e=>dB n o&&(dB n i&&dB n e)
 | .sdf i k=>dB n (Bc i k)
 | .whl c b=>dB n c&&BE n b
 | .frz _ s=>BE n s
 | .nil=>true
def GN(ev:Ev)(n:Need):Glob:=⟨ev,fun f=>f∈n.fn,fun x=>x∈n.va,fun x=>x∈n.no⟩
theorem lY{ik:ItK}(h:ui n ik=true):ue (GN ev n) ik:=by
 cases ik with
 |val=>trivial
 |itm=>trivial
 |_=>exact Q4.mp h
theorem BC:∀(p:PX),dB n p=true->IA (GN ev n) p:=by
 intro p;induction p with
 |glo x=>intro h;exact Q4.mp h
 |bin _ a b ia ib|cmp _ a b ia ib|and a b ia ib|or a b ia ib|idx a b ia ib|nq a b ia ib|dsp a b ia ib=>intro h;obtain⟨h1,h2⟩:=yA h;exact⟨ia h1,ib h2⟩
 |not a ia|lst a ia|tup a ia=>intro h;exact ia h
 |slc a b c ia ib ic=>intro h;obtain⟨h1,h23⟩:=yA h;obtain⟨h2,h3⟩:=yA h23;exact⟨ia h1,ib h2,ic h3⟩
 |call f as ia=>intro h;obtain⟨h1,h2⟩:=yA h;exact⟨Q4.mp h1,ia h2⟩
 |sset a ia=>intro h;obtain⟨h1,h2⟩:=yA h;obtain⟨h3,h4⟩:=yA h2;exact⟨Q4.mp h1,Q4.mp h3,ia h4⟩
 |bi f as ia=>intro h;obtain⟨h1,h2⟩:=yA h;exact⟨Q4.mp h1,ia h2⟩
 |mt _ o as io ia=>intro h;obtain⟨h1,h2⟩:=yA h;exact⟨io h1,ia h2⟩
 |comp _ _ _ ik its cond elt i1 i2 i3=>intro h;obtain⟨h1,h⟩:=yA h;obtain⟨h2,h⟩:=yA h;obtain⟨h3,h4⟩:=yA h;exact⟨lY h1,i1 h2,i2 h3,i3 h4⟩
 |_=>intro _;trivial
theorem jV:∀(p:PT),BE n p=true->UE (GN ev n) p:=by
 intro p;induction p with
 |seq s r is ir=>intro h;obtain⟨h1,h2⟩:=yA h;exact⟨is h1,ir h2⟩
 |set _ e|own _ e|expr e|ret e|tset _ e=>intro h;exact BC _ h
 |six o i e=>intro h;obtain⟨h1,h23⟩:=yA h;obtain⟨h2,h3⟩:=yA h23;exact⟨BC _ h1,BC _ h2,BC _ h3⟩
 |sdf i k=>intro h;exact BC _ h
 |frz _ s is=>intro h;exact is h
 |whl c b ib=>intro h;obtain⟨h1,h2⟩:=yA h;exact⟨BC _ h1,ib h2⟩
 |ife c a b ia ib=>intro h;obtain⟨h1,h23⟩:=yA h;obtain⟨h2,h3⟩:=yA h23;exact⟨BC _ h1,ia h2,ib h3⟩
 |for_ _ ik its body ib=>intro h;obtain⟨h1,h23⟩:=yA h;obtain⟨h2,h3⟩:=yA h23;exact⟨lY h1,BC _ h2,ib h3⟩
 |_=>intro _;trivial
def OK(N ps:List Str)(sc:Scope):Bool:=sc.kind==.function&&!sc.isCoroutine&&!sc.isGenerator&&eK N&&N.take ps.length==ps &&
 ps.all (fun x=>sc.names.lookup x==some .local||sc.names.lookup x==some .cell)&&sc.names.all fun y=>y.2 != .free
theorem jQ{N ps:List Str}{sc:Scope}(h:OK N ps sc=true):FnScope N ps sc:=by simp only[OK,Qe,qF,WG,beq_iff_eq,Q7,bne_iff_ne,ne_eq]at h;obtain⟨⟨⟨⟨⟨⟨h1,h2⟩,h3⟩,h4⟩,h5⟩,h6⟩,h7⟩:=h;exact⟨h1,h2,h3,sI h4,h5,h6,h7⟩
def aD(n:Need)(b:PT)(N ps:List Str)(st:Stmt):Bool:=OK N ps (RA st)&&AN b ⟨N,RA st⟩ (YC st)&&BE n b
def i8:Md->T->Sl
 | .chg,t=>.own t
 |_,t=>.nv t
def ED:List Md->List T->kA
 |_,[]=>[]
 |md,t::ts=>some (i8 (md.headD .ny) t)::ED md.tail ts
def nA(N:List Str)(md:List Md)(ts:List T):kA:=ED md ts++Qu (N.length - ts.length) none
def CB:Nat->List Md->Nat->List Nat
 |_,_,0=>[]
 |k,md,n+1=>match md.headD .ny with
  | .chg=>k::CB (k+1) md.tail n
  |_=>CB (k+1) md.tail n
def bX:Option (List T)->(List T->Prop)->Prop
 |some os,Q=>Q os
 |none,_=>False
def vB(P:PSp)(n:Nat)(Q:T->List T->Prop):PEnds where
 nx:=fun ρ=>bX (OA (CB 0 P.md n) ρ) (Q (.d .none))
 rt:=fun t ρ=>bX (OA (CB 0 P.md n) ρ) (Q t)
def LQ(mg:Str->Option Value)(x:Str):V:=((mg x).bind FL).getD .non
def de(K:QF)(mg:Str->Option Value)(Ψ:PEv):Ev:=⟨fun f=>lift K (Ψ.sp f),LQ mg⟩
structure ValsOk(P:Program)(w:World)(K:QF)(mg:Str->Option Value)(Ψ:PEv)(va:List Str):Prop where
 rep:∀x d,Ψ.va x=some d->∀F,Rep K F (LQ mg x) d
 has:∀x∈va,∃u v,mg x=some u/\FL u=some v
theorem AS{u:Value}{v:V}(h:FL u=some v):rA v u:=by cases u<;>first | (obtain rfl:=qL h;first|rfl|exact⟨_,rfl⟩)|exact nomatch (show(none:Option V)=some v from h)
end
section
variable{P:Program}{w:World}{K:QF}{mg:Str->Option Value}{base:Heap}{Ψ:PEv}
section
variable{k:Nat}{F H:Hp}{Y M:gB}{md:List Md}{vs:List V}{ts:List T}{N ps:List Str}{R:PSp}{x qual:Str}{st:Stmt}{f:Addr}{fd:FuncData}{n:Need}
def cC(P:Program)(w:World)(K:QF)(mg:Str->Option Value)(base:Heap)(Ψ:PEv)(k:Nat)(f:Str):Prop :=
 ∃(a:Addr) (fd:FuncData) (ps:List Str),FnOk P w K mg base rZ k a fd ps (lift K (Ψ.sp f))/\mg f=some (.ref a)/\wx K (.ref a)=true/\vI K fd ps []
theorem cC.mono{j:Nat}{f:Str}(h:cC P w K mg base Ψ j f)(hk:j<=k):cC P w K mg base Ψ k f:=by obtain⟨a,fd,ps,h1,h2⟩:=h;exact⟨a,fd,ps,h1.mono hk,h2⟩
theorem ArgsR.length(h:ArgsR K F H Y md vs ts):vs.length=ts.length:=by
 induction h with
 |nil=>rfl
 |chg _ _ e=>exact congrArg Nat.succ e
 |rd _ _ _ _ e=>exact congrArg Nat.succ e
theorem tH:∀(m:List Md) (ts:List T),(ED m ts).length=ts.length
 |_,[]=>rfl
 |m,d::ds=>by unfold ED;rw[QL,QL,tH]
theorem uX{m:Md}(h:m≠.chg)(t:T):i8 m t=.nv t:=by cases m<;>first|rfl|exact absurd rfl h
theorem AG(md:List Md)(v:V)(vs:List V):fB md (v::vs)=match md.headD .ny with | .chg=>v::fB md.tail vs|_=>fB md.tail vs:=by first | (rw[fB];done) | (rw[fB];cases md.headD .ny<;>rfl)
theorem ZK(md:List Md)(v:T)(vs:List T):KB md (v::vs)=match md.headD .ny with | .chg=>v::KB md.tail vs|_=>KB md.tail vs:=by first | (rw[KB];done) | (rw[KB];cases md.headD .ny<;>rfl)
theorem zM(md:List Md)(t:T)(ts:List T):ED md (t::ts)=some (i8 (md.headD .ny) t)::ED md.tail ts:=by rw[ED]
theorem v5(h:ArgsR K F H Y md vs ts)(r:Trs K F H true (fB md vs) (KB md ts) M) :
  ∃Z:Ft,(∀(i:Nat) s,(ED md ts)[i]?=some (some s)->∃v,vs[i]?=some v/\Tr K F H s.st v s.t (Z i))/\(∀(i:Nat) t,(ED md ts)[i]?=some (some (.own t))->∀b,Z i b->M b)/\(∀(i:Nat) t,(ED md ts)[i]?=some (some (.nv t))->∀b,Z i b->Y b) /\
   ∀(i j:Nat) t u,i≠j->(ED md ts)[i]?=some (some (.own t))->(ED md ts)[j]?=some (some (.own u))->∀b,Z i b->¬ Z j b:=by
 induction h generalizing M with
 |nil=>exact⟨fun _ _=>False,fun i s e=>by simp[ED]at e,fun i t e=>by simp[ED]at e,fun i t e=>by simp[ED]at e,fun i j t u _ e=>by simp[ED]at e⟩
 |@chg md v vs t ts hm tl ih =>
  have e1:fB md (v::vs)=v::fB md.tail vs:=by rw[AG,hm]
  have e2:KB md (t::ts)=t::KB md.tail ts:=by rw[ZK,hm]
  rw[e1,e2]at r;cases r with
  |@cons _ _ _ _ _ _ Z1 Z2 r1 r2 n q =>
   obtain⟨Z,h1,h2,h3,h4⟩:=ih r2;have ep:ED md (t::ts)=some (.own t)::ED md.tail ts:=by rw[zM,hm];rfl
   rw[ep];refine⟨fun i=>match i with|0=>Z1|i+1=>Z i,fun i s e=>?_,fun i u e b hb=>?_,fun i u e b hb=>?_,fun i j u w ne e e' b hb hb'=>?_⟩;cases i with
   |zero=>simp at e;subst e;exact⟨v,rfl,r1⟩
   |succ i=>exact h1 i s (by simpa using e)
   cases i with
   |zero=>exact(q b).mpr (.inl hb)
   |succ i=>exact(q b).mpr (.inr (h2 i u (by simpa using e) b hb))
   cases i with
   |zero=>simp at e
   |succ i=>exact h3 i u (by simpa using e) b hb
   cases i with
   |zero =>
    cases j with
    |zero=>exact ne rfl
    |succ j=>exact n b hb (h2 j w (by simpa using e') b hb')
   |succ i =>
    cases j with
    |zero=>exact n b hb' (h2 i u (by simpa using e) b hb)
    |succ j=>exact h4 i j u w (fun z=>ne (by rw[z])) (by simpa using e) (by simpa using e') b hb hb'
 |@rd md v vs t ts Z1 hm r1 hz tl ih =>
  have e1:fB md (v::vs)=fB md.tail vs:=by rw[AG];cases e:md.headD .ny<;>first|exact absurd e hm|rfl
  have e2:KB md (t::ts)=KB md.tail ts:=by rw[ZK];cases e:md.headD .ny<;>first|exact absurd e hm|rfl
  rw[e1,e2]at r;obtain⟨Z,h1,h2,h3,h4⟩:=ih r;have ep:ED md (t::ts)=some (.nv t)::ED md.tail ts:=by rw[zM,uX hm]
  rw[ep];refine⟨fun i=>match i with|0=>Z1|i+1=>Z i,fun i s e=>?_,fun i u e b hb=>?_,fun i u e b hb=>?_,fun i j u w ne e e' b hb hb'=>?_⟩;cases i with
  |zero=>simp at e;subst e;exact⟨v,rfl,r1⟩
  |succ i=>exact h1 i s (by simpa using e)
  cases i with
  |zero=>simp at e
  |succ i=>exact h2 i u (by simpa using e) b hb
  cases i with
  |zero=>exact hz b hb
  |succ i=>exact h3 i u (by simpa using e) b hb
  cases i with
  |zero=>simp at e
  |succ i =>
   cases j with
   |zero=>simp at e'
   |succ j=>exact h4 i j u w (fun z=>ne (by rw[z])) (by simpa using e) (by simpa using e') b hb hb'
theorem lW(f:Same F H)(h:ArgsR K F H Y md vs ts)(hm:Trs K F H true (fB md vs) (KB md ts) M)(dj:∀b,Y b->¬ M b) :
  ∃S,Rl K F H S (nA N md ts) (CD N vs)/\∀b,U (nA N md ts) S b->M b:=by
 obtain⟨Z,h1,h2,h3,h4⟩:=v5 h hm;have hl:=h.length;have get:∀(i:Nat) s,(nA N md ts)[i]?=some (some s)->(ED md ts)[i]?=some (some s):=fun i s e=>by
  unfold nA at e;rcases QAx i ts.length with z|z
  ·rwa [qV (by rw[tH];exact z)]at e
  rw[qI (by rw[tH];exact z),wr]at e;split at e<;>cases e
 refine⟨Z,⟨f,?_,fun i s e=>?_,fun i j t s n e1 e2 b hb hb'=>?_⟩,fun b ⟨i,t,e,hb⟩=>h2 i t (get i _ e) b hb⟩;unfold nA CD;rw[QM,QM,tH,QD,qZ,qZ,hl];obtain⟨v,g1,g2⟩:=h1 i s (get i s e);refine⟨v,?_,g2⟩;unfold CD;rw[qV (by rw[QD];exact(Qi.mp g1).1),Qc,g1];rfl;cases s with
 |own u=>exact h4 i j t u n (get i _ e1) (get j _ e2) b hb hb'
 |nv u=>exact dj b (h3 j u (get j _ e2) b hb') (h2 i t (get i _ e1) b hb)
theorem eM:∀{md:List Md}{k n:Nat}{vs:List V}{σ:St},vs.length=n->(∀(i:Nat) v,vs[i]?=some v->σ[k+i]?=some (some v))->(fB md vs).map (fun v=>some (some v))=(CB k md n).map fun j=>σ[j]?
 |md,k,0,vs,σ,h,g=>by
  cases vs with
  |nil=>rfl
  |cons _ _=>cases h
 |md,k,n+1,vs,σ,h,g=>by
  cases vs with
  |nil=>cases h
  |cons v vs =>
   have ih:=eM (md:=md.tail) (k:=k+1) (n:=n) (vs:=vs) (σ:=σ) (by simpa using h) fun i w hw=>by have:=g (i+1) w (by simpa using hw);rw[show k+1+i=k+(i+1) by omega];exact this
   have g0:=g 0 v rfl;rw[AG];unfold CB;cases e:md.headD .ny with
   |chg=>simp only[QN,ih];rw[show σ[k]?=some (some v) from g0]
   |_=>exact ih
theorem vL:∀{md:List Md}{k n j:Nat},j∈CB k md n->k<=j
 |md,k,0,j,h=>by simp[CB]at h
 |md,k,n+1,j,h=>by
  unfold CB at h;cases e:md.headD .ny with
  |chg=>rw[e]at h;rcases QK.mp h with z|z;omega;have:=vL z;omega
  |_=>rw[e]at h;have:=vL h;omega
theorem lQ:∀(md:List Md) (k n:Nat),(CB k md n).Nodup
 |md,k,0=>Qw
 |md,k,n+1=>by
  have ih:=lQ md.tail (k+1) n;unfold CB;cases e:md.headD .ny with
  |chg=>exact Qk.mpr ⟨fun z=>by have:=vL z;omega,ih⟩
  |_=>exact ih
theorem aY{b:PT}(F:Fun K x qual st f fd)(EB:aD n b N ps st=true)(hc:nJ (CB 0 R.md ps.length) b=true)
  (fns:∀g∈n.fn,cC P w K mg base Ψ k g) (vals:ValsOk P w K mg Ψ n.va) (nos:∀y∈n.no,mg y=none)
  (body:∀ts Q E,R.run ts Q E->ts.length=ps.length/\xA Ψ (fun _=>False) b (vB R ps.length Q) (nA N R.md ts)):FnOk P w K mg base rZ (k+1) f fd ps (lift K R):=by
 obtain⟨c12,c3⟩:=yA EB;obtain⟨c1,c2⟩:=yA c12;have S:=jQ c1;refine F.ok S (fun vs H Q E h=>?_) (fun cdv A outer s H vs Q E hr h=>?_);obtain⟨F',ts,M,Y,h1,h2,h3,h4,h5⟩:=h;rw[h2.length];exact(body ts _ _ h5).1;obtain⟨F',ts,M,Y,h1,h2,h3,h4,h5⟩:=h;have q:=(body ts _ _ h5).2;have hlen:=(body ts _ _ h5).1;have ok:OkS ((TR rZ P w K mg base N qual (RA st) f cdv A outer s H E).nox) ⟨N,RA st⟩ (GN (de K mg Ψ) n) E0:={
  N:=rfl
  sc:=rfl
  calm:=rfl
  un:=by have:=hr.un;show(A.deeper _).units+66<cLine;omega
  fn:=fun g hg=>by obtain⟨a,gd,gps,g1,g2,g3,g4⟩:=fns g hg;exact⟨rZ,k,a,gd,gps,g1,hr,g2,g3,g4,vd,fun _ _ _ _ _ z=>z⟩
  val:=fun y hy=>by obtain⟨u,v,e1,e2⟩:=vals.has y hy;refine⟨u,e1,?_⟩;show rA (LQ mg y) u;unfold LQ;rw[e1];show rA ((FL u).getD .non) u;rw[e2];exact AS e2
  no:=fun y hy=>nos y hy
  po:=PassesOwn.never
  nd:=S.nd
  cel:=fun _=>rfl }
 refine⟨_,(kh b ok c2 (jV b c3)).1,?_⟩;obtain⟨S0,I,hU⟩:=lW (N:=N) h1 h2 h3 h4;have g:GOk K (de K mg Ψ) Ψ:=⟨fun _ _ _ _ _ h=>h,fun y d e F=>vals.rep y d e F⟩
 have hvl:vs.length=ps.length:=h2.length.trans hlen;have fin:∀v t W F2 H2 S2 ρ2 σ2,Stc (CB 0 R.md ps.length) F' H S0 (nA N R.md ts) (CD N vs) F2 H2 S2 ρ2 σ2->Rl K F2 H2 S2 ρ2 σ2->Tr K F2 H2 true v t W->Held F2 H2 S2 ρ2 W->(∀b,W b->H b=none∨U (nA N R.md ts) S0 b) ->
   bX (OA (CB 0 R.md ps.length) ρ2) (fun os=>∀v F3 H3 Z M',Frm M F' H F3 H3->Tr K F3 H3 true v t Z->Trs K F3 H3 true (fB R.md vs) os M'->(∀b,Z b->¬ M' b)->(∀b,Z b∨M' b->M b∨H b=none)->Q v H3)->Q v H2:=by
  intro v t W F2 H2 S2 ρ2 σ2 s I2 r hw fr q;cases eo:OA (CB 0 R.md ps.length) ρ2 with
  |none=>rw[eo]at q;exact q.elim
  |some os =>
   rw[eo]at q;have hv:(fB R.md vs).map (fun v=>some (some v))=(CB 0 R.md ps.length).map fun j=>σ2[j]?:=by rw[eM (md:=R.md) (k:=0) (n:=ps.length) (vs:=vs) (σ:=CD N vs) hvl fun i w hw=>?_];exact qu fun j hj=>(s.sg j hj).symm;unfold CD;rw[QAu,qV (by rw[QD];exact(Qi.mp hw).1),Qc,hw];rfl
   have trs:=I2.trs (lQ _ _ _) eo hv;have own:∀j∈CB 0 R.md ps.length,∃t,ρ2[j]?=some (some (.own t)):=fun j hj=>by obtain⟨i,hi⟩:=Ww.mp hj;obtain⟨t,_,e⟩:=(DD eo).2 i j hi;exact⟨t,e⟩
   have lk:∀b,U (nA N R.md ts) S0 b∨H b=none->M b∨H b=none:=fun b hb=>hb.imp (hU b) id;refine q v F2 H2 W _ ⟨s.ff,I2.fh,fun b u e n=>s.hh b u e fun z=>n (hU b z),s.dm,fun b e z=>lk b (s.fn b e z)⟩ r trs (fun b hb ⟨j,hj,z⟩=>?_) fun b hb=>?_;obtain⟨t',e⟩:=own j hj;exact hw.nw j _ e b hb z;rcases hb with hb|⟨j,hj,z⟩
   ·exact lk b (fr b hb).symm
   obtain⟨t',e⟩:=own j hj;exact lk b (s.uu b ⟨j,t',e,z⟩)
 refine sH g b hc I (fun _ _ _ _ _ _ _ _ _ z=>z.elim) q ⟨?_,?_,fun _ _ _ _ _ _ _ z=>z.elim,fun _ _ _ _ _ _ _ z=>z.elim⟩;intro F2 H2 S2 ρ2 σ2 s I2 q;exact fin .non (.d .none) (fun _=>False) F2 H2 S2 ρ2 σ2 s.c I2 (.d .non fun _ z=>z) .none (fun _ z=>z.elim) q;intro v t W F2 H2 S2 ρ2 σ2 s I2 r hw fr q;exact fin v t W F2 H2 S2 ρ2 σ2 s I2 r hw fr q
theorem pY{Ψ':PEv}{b:PT}(F:Fun K x qual st f fd)(hm:mg x=some (.ref f))(hb:vI K fd ps [])(EB:aD n b N ps st=true)(hc:nJ (CB 0 R.md ps.length) b=true)
  (fns:∀g∈n.fn,cC P w K mg base Ψ k g) (vals:ValsOk P w K mg Ψ n.va) (nos:∀y∈n.no,mg y=none)
  (body:∀ts Q E,R.run ts Q E->ts.length=ps.length/\xA Ψ (fun _=>False) b (vB R ps.length Q) (nA N R.md ts)) (hR:Ψ'.sp x=R):cC P w K mg base Ψ' (k+1) x :=
 ⟨f,fd,ps,by rw[hR];exact aY F EB hc fns vals nos body,hm,F.kp,hb⟩
end
end
section
variable{ns:List Int}{x:Str}{K:QF}{f:Addr}{od:Option Addr}{i:Int}{t:Tok}
def rK:PSp where
 md:=[.ko]
 run:=fun ts Q _=>∃ns:List Int,ns.length<=63/\(∀n∈ns,QAI n<=1048576)/\ts=[.lst ((ns.map PyData.int).map T.d)]/\Q (.d (.bool true)) []
 mono:=fun h _ ⟨ns,h1,h2,h3,q⟩=>⟨ns,h1,h2,h3,h _ _ q⟩
def Ak:PSp:=⟨[],fun _ _ _=>False,fun _ _ h=>h⟩
theorem AL{K:QF}{F:Hp}:∀(ns:List Int),Reps K F (ns.map V.int) (ns.map PyData.int)
 |[]=>.nil
 |n::r=>.cons (.int n) (AL r)
theorem zK{K:QF}{F:Hp}:∀(ns:List Str),Reps K F (ns.map V.str) (ns.map PyData.str)
 |[]=>.nil
 |n::r=>.cons (.str n) (zK r)
theorem f9(K:QF)(H:Hp)(a:Addr)(ns:List Int)(hl:ns.length<=63)(hw:∀n∈ns,QAI n<=1048576)(hS:HC K H a (ns.map V.int)):lift K rK [.ref a] H (fun v _=>v=.bl true) fun _ _ _=>False:=by
 refine⟨H,[.lst ((ns.map PyData.int).map T.d)],fun _=>False,fun _=>False,.refl _,.rd (Z:=fun _=>False) (by simp[rK]) (.lstF hS (AL ns) fun _ z=>z) (fun _ z=>z) .nil,.nil fun _ z=>z,fun _ z=>z.elim,ns,hl,hw,rfl,fun v F' H' Z M' _ r _ _ _=>?_⟩;cases r with
 |d r _=>cases r;rfl
theorem GQ:∀n∈ns,QAA (.int n)<=wt (ns.map QAD.int):=by
 induction ns with
 |nil=>intro n hn;cases hn
 |cons m ns ih=>intro n hn;show _<=QAA (.int m)+1+wt (ns.map QAD.int);rcases QK.mp hn with rfl|hn;omega;have:=ih n hn;omega
theorem A4(h:QAD.layableAll [.list (ns.map .int)]=true):∀n∈ns,QAI n<=1048576:=by
 intro n hn;have h1:=(PySem.W.layableW_iff.mp (PySem.W.layableW_arg h _ QE)).2.2;have h2:wt (ns.map QAD.int)<=2 ^ 20:=h1;have h3:=GQ n hn;have h4:QAA (.int n)=if n==0 then 0 else n.natAbs.log2+1:=rfl
 rw[PySem.intBits_le_iff];by_cases hz:n=0;subst hz;exact Nat.pow_pos (by decide);have:(n==0)=false:=by simpa using hz
 rw[h4,this]at h3;have h5:n.natAbs.log2+1<=1048576:=by have:n.natAbs.log2+1<=wt (ns.map QAD.int):=h3;omega
 exact(Nat.log2_lt (show n.natAbs≠0 by omega)).mp (by omega)
theorem walk_bits{l:PySem.W.OpenLaw}{k:Nat}{q:Program}{loose:List Str}{XP:(Str->Option Value)->Heap->Prop}{YP:World->Heap->Prop}{d:DefRec}{K:Params->QF}
  (hn:l.most=some 63) (hdf:d.params.defaults=[]) (hr:Room k callerA) (hY:∀(w:World) (h:Heap),YP w h->(K w.params).In h)
  (F:∀(w:World) (mg:Str->Option Value) (fa:Addr) (h:Heap),(K w.params).In h->h.Ns mainGlobals mg->mg d.name=some (.ref fa) ->
   ∃fd:FuncData,(∀(s:Shared) (u:Value),BindsTo s fd ⟨[u],[]⟩ [(x,u)]) /\
    ∀base:Heap,(K w.params).In base->base.Ns mainGlobals mg->FnOk l.prog w (K w.params) mg base rZ k fa fd [x] (lift (K w.params) rK)) :
  PySem.W.WalkO q loose XP YP l.row.toRowW d [] (fun f vs=>PySem.call f vs):=by
 intro w s₀ s₁ mg mb G Y fa o pm cd doc dV kV ho hd hcd hD hmg hg args vals as hpre hlay hrd hwl hlo;obtain rfl:dV=.none:=PySem.W.Dflts.none hD hdf;obtain rfl:kV=.none:=PySem.W.Dflts.noKw hD;obtain⟨a,vs,ns,rfl,rfl,hobj,hints,hlen⟩:=Att.script_of hn hpre hwl;have KX:=hY w _ Y;obtain⟨fd,hb,hF⟩:=F w mg fa _ KX G.T.g hmg;refine PySem.W.enter_call (QAP (jY KX G.T.g G.T.b G.T.builtins G.T.nolimit hg hobj hints (QZ hlen (by decide)) hr hF hb (fun H hO hS=>f9 _ H a ns hlen (A4 hlay) hS) fun H e s'=>fun z=>z) fun r s' hq=>?_);obtain⟨rfl,h2,h3,h4⟩:=hq;exact⟨.inl ⟨.bool true,.bool true,[],rfl,fun _=>rfl,.bool true,Att.post_true l _,fun _=>⟨List.Pairwise.nil,fun _ hm=>(nomatch hm)⟩⟩,h2,h3,h4⟩
def VB(K:QF)(x:Str)(st:Stmt):Prop:=∃f fd,qO K mainGlobals x=some (some (.ref f))/\Fun K x x st f fd
theorem def_at{st:Stmt}{oc:Value}{an:Option Addr}{osl:Array (Option Value)}{kV doc pm cdv ct:Value}(a:qO K mainGlobals x=some (some (.ref f)))
  (l:K.lookup f=some ⟨oc,od,.func (wP x x (GD st) (YC st) (RA st) .none kV doc pm an cdv ct),osl⟩) (c:QAT K cdv x=true) (k:wx K (.ref f)=true):VB K x st :=
 ⟨f,_,a,C9 l c k⟩
def EH(K:QF)(x:Str)(d:D):Prop:=∃u v,qO K mainGlobals x=some (some u)/\FL u=some v/\∀F,Rep K F v d
theorem FZ(a:qO K mainGlobals x=some (some (.int i t))):EH K x (.int i):=⟨_,_,a,rfl,fun _=>.int i⟩
theorem val_int'{j:Int}(a:qO K mainGlobals x=some (some (.int i t)))(e:i=j):EH K x (.int j):=e▸FZ a
theorem val_strs{xs:List Str}{its:List Value}{n:Nat}{sl:Array (Option Value)}(a:qO K mainGlobals x=some (some (.ref f)))
  (l:K.lookup f=some ⟨.type "tuple",od,.seq its.toArray n,sl⟩) (h:its.map FL=xs.map fun y=>some (.str y)) (hz:xs.length<=sizeLine):EH K x (.tuple (xs.map PyData.str)):=by
 refine⟨_,_,a,rfl,fun F=>.tup (.inr ⟨_,its.toArray,n,l,rfl,rfl,?_,?_⟩) (zK xs)⟩;have:=congrArg qg h;simp at this;simp;omega;have key:∀(its:List Value) (xs:List Str),its.map FL=xs.map (fun y=>some (.str y))->bA (xs.map V.str) its:=by
  intro its;induction its with
  |nil =>
   intro xs h;cases xs with
   |nil=>exact .nil
   |cons _ _=>simp at h
  |cons u its ih =>
   intro xs h;cases xs with
   |nil=>simp at h
   |cons y xs=>simp only[QN,Wf]at h;exact .cons (AS h.1) (ih xs h.2)
 simpa using key its xs h
end
section
variable{P:Program}{w:World}{K:QF}{mg:Str->Option Value}{base h:Heap}{Ψ:PEv}
section
variable{x:Str}{st:Stmt}{N ps:List Str}{k:Nat}{n:Need}
theorem EH.inMg(X:K.In h)(G:h.Ns mainGlobals mg){d:D}(v:EH K x d):(∀F,Rep K F (LQ mg x) d)/\∃u v,mg x=some u/\FL u=some v:=by
 obtain⟨u,v,h1,h2,h3⟩:=v;have e:=QBU X G h1;refine⟨fun F=>?_,u,v,e,h2⟩;have:LQ mg x=v:=by unfold LQ;rw[e];show(FL u).getD .non=v;rw[h2];rfl
 rw[this];exact h3 F
theorem rY{R:PSp}{Ψ':PEv}{b:PT}(X:K.In h)(G:h.Ns mainGlobals mg)(D:VB K x st)(EB:aD n b N ps st=true)(hc:nJ (CB 0 R.md ps.length) b=true)
  (hb:∀(kV doc pm:Value) (an:Option Addr) (cdv ct:Value) (us:List Value),us.length=ps.length->bindArgs (wP x x (GD st) (YC st) (RA st) .none kV doc pm an cdv ct) ⟨us,[]⟩=pure (ps.zip us))
  (fns:∀g∈n.fn,cC P w K mg base Ψ k g) (vals:ValsOk P w K mg Ψ n.va) (nos:∀y∈n.no,qO K mainGlobals y=some none)
  (body:∀ts Q E,R.run ts Q E->ts.length=ps.length/\xA Ψ (fun _=>False) b (vB R ps.length Q) (nA N R.md ts)) (hR:Ψ'.sp x=R):cC P w K mg base Ψ' (k+1) x:=by
 obtain⟨f,fd,a,F⟩:=D;exact pY F (QBU X G a) (F.binds hb) EB hc fns vals (fun y hy=>QBV X G (nos y hy)) body hR
theorem EA{b:PT}(X:K.In h)(G:h.Ns mainGlobals mg)(D:VB K x st)(EB:aD n b N ps st=true)(hc:nJ (CB 0 (Ψ.sp x).md ps.length) b=true)
  (hb:∀(kV doc pm:Value) (an:Option Addr) (cdv ct:Value) (us:List Value),us.length=ps.length->bindArgs (wP x x (GD st) (YC st) (RA st) .none kV doc pm an cdv ct) ⟨us,[]⟩=pure (ps.zip us))
  (fns:∀g∈n.fn,cC P w K mg base Ψ k g) (vals:ValsOk P w K mg Ψ n.va) (nos:∀y∈n.no,qO K mainGlobals y=some none)
  (body:∀ts Q E,(Ψ.sp x).run ts Q E->ts.length=ps.length/\xA Ψ (fun _=>False) b (vB (Ψ.sp x) ps.length Q) (nA N (Ψ.sp x).md ts)):cC P w K mg base Ψ (k+1) x :=
 rY X G D EB hc hb fns vals nos body rfl
theorem g9{fa:Addr}(X:K.In h)(G:h.Ns mainGlobals mg)(D:VB K "law" st)(hp:ps=[x])(hfa:mg "law"=some (.ref fa))(hs:Ψ.sp "law"=rK)
  (hb:∀(kV doc pm:Value) (an:Option Addr) (cdv ct:Value) (us:List Value),us.length=ps.length->bindArgs (wP "law" "law" (GD st) (YC st) (RA st) .none kV doc pm an cdv ct) ⟨us,[]⟩=pure (ps.zip us))
  (H:∀base:Heap,K.In base->base.Ns mainGlobals mg->∀f fd,Fun K "law" "law" st f fd->mg "law"=some (.ref f)->FnOk P w K mg base rZ k f fd ps (lift K (Ψ.sp "law"))) :
  ∃fd:FuncData,(∀(s:Shared) (u:Value),BindsTo s fd ⟨[u],[]⟩ [(x,u)])/\∀base:Heap,K.In base->base.Ns mainGlobals mg->FnOk P w K mg base rZ k fa fd [x] (lift K rK):=by
 obtain⟨f,fd,a,F⟩:=D;have e:=hfa.symm.trans (QBU X G a);cases e;subst hp;refine⟨fd,fun s u=>?_,fun base kb nb=>?_⟩;obtain⟨oc,od,kV,doc,pm,an,cdv,ct,osl,rfl,lk,hcd⟩:=F.ex;exact .of_eq (hb kV doc pm an cdv ct [u] rfl);rw[<- hs];exact H base kb nb fa fd F hfa
end
end
theorem zB{α:Type}{body:T->(Option T->Prop)->Prop}(g f:α->T):∀(l:List α) (acc:List T) (Q:List T->Prop),(∀x∈l,∀R:Option T->Prop,R (some (f x))->body (g x) R)->acc.length+l.length<=sizeLine->Q (acc++l.map f)->eD body (l.map g) acc Q
 |[],acc,Q,_,hl,q=>by simp only[qR,eD];exact⟨by simpa using hl,by simpa using q⟩
 |x::r,acc,Q,hb,hl,q=>by simp only[QN,eD];refine hb x QE _ ?_;simp only[QL]at hl;refine⟨by omega,zB g f r _ Q (fun y hy=>hb y (QG _ hy)) (by simp;omega) (by simpa using q)⟩
theorem XA{α:Type}{body:T->(Option T->Prop)->Prop}(g f:α->T)(p:α->Bool):∀(l:List α) (acc:List T) (Q:List T->Prop),(∀x∈l,∀R:Option T->Prop,R (if p x=true then some (f x) else none)->body (g x) R)->acc.length+l.length<=sizeLine->Q (acc++(l.filter p).map f)->eD body (l.map g) acc Q
 |[],acc,Q,_,hl,q=>by simp only[qR,eD];exact⟨by simpa using hl,by simpa using q⟩
 |x::r,acc,Q,hb,hl,q=>by
  simp only[QN,eD];refine hb x QE _ ?_;simp only[QL]at hl;cases hp:p x with
  |true=>refine⟨by omega,XA g f p r _ Q (fun y hy=>hb y (QG _ hy)) (by simp;omega) ?_⟩;rw[WS,if_pos hp]at q;simpa using q
  |false=>refine XA g f p r _ Q (fun y hy=>hb y (QG _ hy)) (by omega) ?_;rw[WS,if_neg (by rw[hp];simp)]at q;exact q
theorem uO{α:Type}{xs:List α}{i:Int}(h0:0<=i)(h1:i<xs.length):∃v,kF xs i=some v/\xs[i.toNat]?=some v:=by
 have h:i.toNat<xs.length:=by omega
 have e:((i.toNat:Nat):Int)=i:=by omega
 have q:=bO (Qx h);rw[e]at q;exact⟨xs[i.toNat],q,Qx h⟩
theorem cO{α β:Type}(f:α->β)(xs:List α)(i:Int):kF (xs.map f) i=(kF xs i).map f:=by
 unfold kF;rw[QD];cases DQ xs.length i with
 |none=>rfl
 |some j=>exact Qc
theorem uC{Ψ:PEv}{E:XE}{α:Type}{body:PT}{tg:Tg}{Z:PEnds}(g:α->T)(W:List α->kA->Prop)(h0:∀ρ,W [] ρ->Z.nx ρ)
  (hs:∀x xs ρ (N:kA->Prop),(∀ρ',W xs ρ'->N ρ')->W (x::xs) ρ->bJ tg (g x) ρ fun ρ1=>xA Ψ E body { Z with nx:=N,ct:=N,bk:=Z.nx } ρ1):∀(xs:List α) (ρ:kA),W xs ρ->zH (xA Ψ E body) tg Z (xs.map g) ρ
 |[],ρ,w=>h0 ρ w
 |x::xs,ρ,w=>hs x xs ρ (fun ρ2=>zH (xA Ψ E body) tg Z (xs.map g) ρ2) (fun ρ2 w2=>uC g W h0 hs xs ρ2 w2) w
def Z5(sp:List (Str×PSp))(va:List (Str×D)):PEv:=⟨fun f=>(sp.lookup f).getD Ak,fun x=>va.lookup x⟩
theorem DA{P:Program}{w:World}{K:QF}{mg:Str->Option Value}{h:Heap}{sp:List (Str×PSp)}{tbl:List (Str×D)}{va:List Str}(X:K.In h)(G:h.Ns mainGlobals mg)(ht:∀p∈tbl,EH K p.1 p.2)
  (hva:(va.all fun x=>(tbl.map qE).contains x)=true):ValsOk P w K mg (Z5 sp tbl) va:=by
 refine⟨fun x d e F=>((ht (x,d) (qQ e)).inMg X G).1 F,fun x hx=>?_⟩;have:=qF.mp hva x hx;obtain⟨p,hp,e⟩:=QW.mp (Q4.mp this);rw[<- e];exact((ht p hp).inMg X G).2
theorem nB{α:Type}[BEq α][LawfulBEq α]{l m:List α}(h:(l.all fun x=>m.contains x)=true):∀x∈l,x∈m:=fun x hx=>Q4.mp (qF.mp h x hx)
section
variable{a b c:PX}{i:Nat}{n:Int}{x:Str}{m:Mt}{f:Str}{g:Bi}{op:Operator}{cp:CmpOp}{is:List Bool}{tgs:List Str}{tg:Tg}{ik:ItK}{y:String}
theorem XZ:rG (.var i)=[i]:=rfl
theorem oU:rG (.nq a b)=rG a++rG b:=rfl
theorem IV:rG .nr=[]:=rfl
end
def gC{α:Type}(o:Option α)(K:α->Prop):Prop:=∃a,o=some a/\K a
theorem gC.mk{α:Type}{o:Option α}{a:α}{K:α->Prop}(e:o=some a)(k:K a):gC o K:=⟨a,e,k⟩
theorem kC{α:Type}{a:α}{K:α->Prop}:gC (some a) K=K a:=propext ⟨fun⟨_,e,k⟩=>by cases e;exact k,fun k=>⟨a,rfl,k⟩⟩
theorem rF{α β:Type}{o:Option α}{f:α->β}{K:β->Prop}:gC (o.map f) K=gC o fun a=>K (f a):=by
 cases o with
 |none=>exact propext ⟨fun⟨_,e,_⟩=>(by cases e),fun⟨_,e,_⟩=>(by cases e)⟩
 |some a=>rw[Q9,kC,kC]
def tB(Ψ:PEv)(e:PX)(E:XE)(ρ:kA)(K:TK):Prop:=(pe Ψ e E).e ρ K
def sO(Ψ:PEv)(e:PX)(E:XE)(ρ:kA)(K:Bool->kA->Prop):Prop:=(pe Ψ e E).t ρ K
def mK(Ψ:PEv)(e:PX)(E:XE)(md:List Md)(ρ:kA)(K:List (T×Bool)->kA->Prop):Prop:=(pe Ψ e E).a md ρ K
def PD(p:PSp)(ts:List T)(K:T->List T->Prop)(E:XE):Prop:=p.run ts K E
def X5(x:T)(n:Bool)(Ψ:PEv)(b:PX)(E:XE)(ρ:kA)(K:TK):Prop:=sq (dA x n) ρ (cu (pe Ψ b E).e) fun y ρ2=>K y.1 y.2 ρ2
def PZ(x:T)(n:Bool)(Ψ:PEv)(b:PX)(E:XE)(md:List Md)(ρ:kA)(K:List (T×Bool)->kA->Prop):Prop:=sq (if n=true then .d .none else x) ρ ((pe Ψ b E).a md) K
def jk(x:T)(n:Bool)(Ψ:PEv)(b:PX)(E:XE)(ρ:kA)(K:List (T×Bool)->kA->Prop):Prop:=sq (dA x n) ρ ((pe Ψ b E).a []) K
def JI(i:Nat)(σ ρ:kA)(K:TK):Prop:=rg σ[i]? fun t=>K t false ρ
def BW(i:Nat)(σ:kA)(ρ:kA)(j:Nat)(R:T->kA->Prop):Prop:=nh ρ j R σ[i]?
def lJ(Ψ:PEv)(E:XE)(r:PT)(Z:PEnds)(i:Nat)(x:T)(n:Bool)(ρ:kA):Prop:=kH x n=true/\xA Ψ E r Z (ρ.set i (some (.nv (.d x.er))))
def ud(Ψ:PEv)(E:XE)(r:PT)(Z:PEnds)(i:Nat)(x:T)(n:Bool)(ρ:kA):Prop:=kH x n=true/\xA Ψ E r Z (ρ.set i (some (.own x)))
def GC(x:T)(n:Bool)(P:Prop):Prop:=kH x n=true/\P
def vH(op:Operator)(x:T)(n:Bool)(y:T)(m:Bool)(Q:T->Bool->Prop):Prop:=binT op (dA x n).vw (dA y m).vw Q
def HB(op:CmpOp)(x y:T)(Q:Bool->Prop):Prop:=G4 op x.er y Q
def i7(x:T)(Q:Bool->Prop):Prop:=gH x.er Q
def uk(x:T)(Q:Bool->Prop):Prop:=Ha x.er Q
def eO(f:Bi)(xs:List (T×Bool))(Q:T->Bool->Prop):Prop:=j5 f (GB xs) Q
def RC(x:T)(n:Bool)(y:T)(m:Bool)(Q:T->Prop):Prop:=YL (dA x n).vw (dA y m).vw Q∨xQ (dA x n).vw y.er Q
def Lb(Ψ:PEv)(E:XE)(c:PX)(q:PT)(Z:PEnds)(ρ:kA):Prop:=xA Ψ E (.whl c q) Z ρ
def Jc(t y x:T)(Q:T->Prop):Prop:=Yc t y.er x.er Q
def gc(z t:T)(Q:T->(T->T)->Prop):Prop:=rc z.er t Q
def Uc(y t:T)(Q:T->Prop):Prop:=D7 y.er t Q
def MO(x:T)(n:Bool)(l u:Option Int)(Q:T->Bool->Prop):Prop:=fJ (dA x n).vw l u Q
def BK(xs:List (T×Bool))(C:List T->Prop):Prop:=LE xs=true/\C (fF xs)
def GK(ik:ItK)(xs:List (T×Bool))(R:List T->Prop):Prop:=NB ik (GB xs) R
def Fh(m:Mt)(x:T)(n:Bool)(xs:List (T×Bool))(Q:T->Bool->Prop):Prop:=Yb m (dA x n).vw (GB xs) Q
def mB(md:List Md)(xs:List (T×Bool))(C:List T->Prop):Prop:=gC (YA md xs []) C
def NH(Ψ:PEv)(E:XE)(mask:List Bool)(tgs:List Str)(tg:Tg)(cond elt:PX)(ρ:kA):T->(Option T->Prop)->Prop:=HF tg (KL tgs.length mask (lockA ρ)) (if isNop cond=true then fun ρ R=>R true ρ else(pe Ψ cond E).t) (pe Ψ elt E).e
def zU(tg:Tg)(x:T)(ρ:kA)(K:kA->Prop):Prop:=bJ tg x ρ K
section
variable{Ψ:PEv}{E:XE}{ρ:kA}{K:TK}{L:Bool->kA->Prop}{M:List (T×Bool)->kA->Prop}{a b c as its elt cond:PX}{Rt:T->kA->Prop}
section
variable{i j:Nat}{x:T}{op:CmpOp}{f t:Str}{p:PSp}{md:List Md}{n:Bool}{mask m:List Bool}{tgs:List Str}{tg:Tg}{ik:ItK}{R:Option T->Prop}{s:Option Sl}{σ:kA}{ts:List T}
theorem Rf:tB Ψ (.var i) E ρ K=JI i ρ ρ K:=rfl
theorem mf:sO Ψ (.var i) E ρ L=JI i ρ ρ fun t _ ρ=>i7 t fun b=>L b ρ:=rfl
theorem zg{i:Int}:tB Ψ (.int i) E ρ K=K (.d (.int i)) false ρ:=rfl
theorem Tf{x:Str}:tB Ψ (.str x) E ρ K=K (.d (.str x)) false ρ:=rfl
theorem Sj{x:Bool}:tB Ψ (.bl x) E ρ K=K (.d (.bool x)) false ρ:=rfl
theorem jg:tB Ψ .non E ρ K=K (.d .none) false ρ:=rfl
theorem XG{x:Str}{d:D}(h:Ψ.va x=some d):tB Ψ (.glo x) E ρ K=K (.d d) false ρ:=by show(match Ψ.va x with|some d=>K (.d d) false ρ|none=>False)=_;rw[h]
theorem ug{op:Operator}:tB Ψ (.bin op a b) E ρ K=tB Ψ a E ρ fun x n ρ1=>X5 x n Ψ b E ρ1 fun y m ρ2=>vH op x n y m fun z k=>K z k ρ2:=rfl
theorem rf:sO Ψ (.cmp op a b) E ρ L=tB Ψ a E ρ fun x n ρ1=>X5 x n Ψ b E ρ1 fun y m ρ2=>HB op x (dA y m) fun k=>L k ρ2:=rfl
theorem xg:tB Ψ (.cmp op a b) E ρ K=sO Ψ (.cmp op a b) E ρ fun k ρ1=>K (.d (.bool k)) false ρ1:=rfl
theorem N6:tB Ψ (.and a b) E ρ K=tB Ψ a E ρ fun x _ ρ1=>uk x fun c=>if c=true then tB Ψ b E ρ1 K else K (.d (.bool false)) false ρ1:=rfl
theorem sf:sO Ψ (.and a b) E ρ L=sO Ψ a E ρ fun c ρ1=>if c=true then sO Ψ b E ρ1 L else L false ρ1:=rfl
theorem ij:sO Ψ (.or a b) E ρ L=sO Ψ a E ρ fun c ρ1=>if c=true then L true ρ1 else sO Ψ b E ρ1 L:=rfl
theorem uU:sO Ψ (.not a) E ρ L=sO Ψ a E ρ fun c ρ1=>L (!c) ρ1:=rfl
theorem lA(h:Ψ.sp f=p)(hm:p.md=md)(hn:(md.all fun m=>!m.isMut)=true):tB Ψ (.call f as) E ρ K=mK Ψ as E md ρ fun xs ρ1=>mB md xs fun ts=>PD p ts (fun r os=>os=[]/\K r true ρ1) E:=by
 have mr:∀(md:List Md) (as:PX),(md.all fun m=>!m.isMut)=true->cA md as=[]:=by
  intro md;induction md with
  |nil=>intro as _;cases as<;>rfl
  |cons m md ih =>
   intro as h;rw[qv,Qe]at h;cases m with
   |chg=>cases h.1
   |_=>cases as with
    |nq a as=>exact ih as h.2
    |_=>rfl
 show(∃os,OA (cA (Ψ.sp f).md as) ρ=some os/\(cA (Ψ.sp f).md as).Nodup/\(pe Ψ as E).a (Ψ.sp f).md (clear (cA (Ψ.sp f).md as) ρ) fun xs ρ1=>∃ts,YA (Ψ.sp f).md xs os=some ts/\(Ψ.sp f).run ts (fun r os'=>∃ρ2,yC (cA (Ψ.sp f).md as) os' ρ1=some ρ2/\K r true ρ2) E)=_;rw[h,hm,mr md as hn];have po:∀(r:T) (os:List T) (ρ1:kA),(∃ρ2,yC [] os ρ1=some ρ2/\K r true ρ2)=(os=[]/\K r true ρ1):=by
  intro r os ρ1;cases os with
  |nil=>exact propext ⟨fun⟨_,e,k⟩=>by cases e;exact⟨rfl,k⟩,fun k=>⟨_,rfl,k.2⟩⟩
  |cons _ _=>exact propext ⟨fun⟨_,e,k⟩=>(by cases e),fun k=>(by cases k.1)⟩
 have:=fun(ρ1:kA)=>funext fun r=>funext fun os=>po r os ρ1;simp only[this];exact propext ⟨fun⟨_,e,_,k⟩=>by cases e;exact k,fun k=>⟨_,rfl,Qw,k⟩⟩
theorem Ra:sO Ψ (.call f as) E ρ L=tB Ψ (.call f as) E ρ fun t _ ρ1=>i7 t fun b=>L b ρ1:=rfl
theorem Tj{f:Bi}:tB Ψ (.bi f as) E ρ K=mK Ψ as E [] ρ fun xs ρ1=>eO f xs fun z k=>K z k ρ1:=rfl
theorem y9{m:Mt}{z:Str}(h:isMut m=false):JR m (dA (.d (.str z)) n).vw=true:=by cases n<;>cases m<;>first|rfl|cases h
theorem bb:tB Ψ (.mt .join a as) E ρ K=tB Ψ a E ρ fun x n ρ1=>JR .join (dA x n).vw=true/\jk x n Ψ as E ρ1 fun xs ρ2=>Fh .join x n xs fun z k=>K z k ρ2:=rfl
theorem Ef:tB Ψ (.mt .pop (.var j) as) E ρ K=VD ρ[j]? fun t=>II .pop t=true/\mK Ψ as E [] (ρ.set j (some (.nv t))) fun xs ρ2=>LE xs=true/\ρ2[j]?=some (some (.nv t))/\KK .pop t (fF xs) fun r s'=>K r true (ρ2.set j (some (.own s'))):=rfl
theorem cb{x:Bool}:tB Ψ (.dnew x) E ρ K=K (.dct x [] []) true ρ:=rfl
theorem vg:tB Ψ (.dsp a b) E ρ K=tB Ψ a E ρ fun y m ρ1=>GC y m (tB Ψ b E ρ1 fun x n ρ2=>GC x n (vF true y.er/\K (.dct true [y.er] [x]) true ρ2)):=rfl
theorem pG(h:Ψ.sp f=p)(hm:p.md=.chg::md)(hn:(md.all fun m=>!m.isMut)=true):tB Ψ (.call f (.nq (.var j) as)) E ρ K=VD ρ[j]? fun t=>mK Ψ as E md (ρ.set j none) fun xs ρ1=>mB md xs fun ts=>PD p (t::ts) (fun r os=>∃t',os=[t']/\K r true (ρ1.set j (some (.own t')))) E:=by
 have mr:∀(md:List Md) (as:PX),(md.all fun m=>!m.isMut)=true->cA md as=[]:=by
  intro md;induction md with
  |nil=>intro as _;cases as<;>rfl
  |cons m md ih =>
   intro as h;rw[qv,Qe]at h;cases m with
   |chg=>cases h.1
   |_=>cases as with
    |nq a as=>exact ih as h.2
    |_=>rfl
 show(∃os,OA (cA (Ψ.sp f).md (.nq (.var j) as)) ρ=some os/\(cA (Ψ.sp f).md (.nq (.var j) as)).Nodup/\(pe Ψ (.nq (.var j) as) E).a (Ψ.sp f).md (clear (cA (Ψ.sp f).md (.nq (.var j) as)) ρ) fun xs ρ1=>∃ts,YA (Ψ.sp f).md xs os=some ts/\(Ψ.sp f).run ts (fun r os'=>∃ρ2,yC (cA (Ψ.sp f).md (.nq (.var j) as)) os' ρ1=some ρ2/\K r true ρ2) E)=_;rw[h,hm];have e1:cA (.chg::md) (.nq (.var j) as)=[j]:=by show j::cA md as=[j];rw[mr md as hn]
 rw[e1];have po:∀(r:T) (os:List T) (ρ1:kA),(∃ρ2,yC [j] os ρ1=some ρ2/\K r true ρ2)=(∃t',os=[t']/\K r true (ρ1.set j (some (.own t')))):=by
  intro r os ρ1
  match os with
  |[]=>exact propext ⟨fun⟨_,e,k⟩=>(by cases e),fun⟨_,e,k⟩=>(by cases e)⟩
  |[t]=>exact propext ⟨fun⟨_,e,k⟩=>by cases e;exact⟨t,rfl,k⟩,fun⟨_,e,k⟩=>by cases e;exact⟨_,rfl,k⟩⟩
  |_::_::_=>exact propext ⟨fun⟨_,e,k⟩=>(by cases e),fun⟨_,e,k⟩=>(by cases e)⟩
 have pf:=fun(ρ1:kA)=>funext fun r=>funext fun os=>po r os ρ1;simp only[pf];have pa:∀(t:T) (xs:List (T×Bool)) (G:List T->Prop),(∃ts,YA (.chg::md) ((.d .none,true)::xs) [t]=some ts/\G ts)=mB md xs fun ts=>G (t::ts):=by
  intro t xs G;show(∃ts,(YA md xs []).map (t::·)=some ts/\G ts)=gC (YA md xs []) fun ts=>G (t::ts);cases YA md xs []with
  |none=>exact propext ⟨fun⟨_,e,_⟩=>(by cases e),fun⟨_,e,_⟩=>(by cases e)⟩
  |some ts=>exact propext ⟨fun⟨_,e,k⟩=>by cases e;exact⟨_,rfl,k⟩,fun⟨_,e,k⟩=>by cases e;exact⟨_,rfl,k⟩⟩
 have oa:∀t,ρ[j]?=some (some (.own t))->OA [j] ρ=some [t]:=fun t e=>by unfold OA;rw[e];rfl
 have ac:∀(os:List T),((pe Ψ (.nq (.var j) as) E).a (.chg::md) (clear [j] ρ) fun xs ρ1=>∃ts,YA (.chg::md) xs os=some ts/\p.run ts (fun r os'=>∃t',os'=[t']/\K r true (ρ1.set j (some (.own t')))) E)=(mK Ψ as E md (ρ.set j none) fun xs ρ1=>∃ts,YA (.chg::md) ((.d .none,true)::xs) os=some ts/\p.run ts (fun r os'=>∃t',os'=[t']/\K r true (ρ1.set j (some (.own t')))) E):=fun os=>propext ⟨fun h=>h.2,fun h=>⟨rfl,h⟩⟩;simp only[ac]
 match e:ρ[j]? with
 |some (some (.own t))=>show _=(mK Ψ as E md (ρ.set j none) fun xs ρ1=>mB md xs fun ts=>PD p (t::ts) (fun r os=>∃t',os=[t']/\K r true (ρ1.set j (some (.own t')))) E);rw[oa t e];have:=fun xs (ρ1:kA)=>pa t xs fun ts=>p.run ts (fun r os'=>∃t',os'=[t']/\K r true (ρ1.set j (some (.own t')))) E;refine propext ⟨fun⟨_,e,_,k⟩=>?_,fun k=>⟨_,rfl,by simp,?_⟩⟩;cases e;simp only[this]at k;exact k;simp only[this];exact k
 |some (some (.nv t))=>exact propext ⟨fun⟨_,z,_⟩=>(by unfold OA at z;rw[e]at z;cases z),fun k=>k.elim⟩
 |some none=>exact propext ⟨fun⟨_,z,_⟩=>(by unfold OA at z;rw[e]at z;cases z),fun k=>k.elim⟩
 |none=>exact propext ⟨fun⟨_,z,_⟩=>(by unfold OA at z;rw[e]at z;cases z),fun k=>k.elim⟩
theorem nZ:tB Ψ (.mt .append (.var j) as) E ρ K=VD ρ[j]? fun t=>II .append t=true/\mK Ψ as E [] (ρ.set j (some (.nv t))) fun xs ρ2=>LE xs=true/\ρ2[j]?=some (some (.nv t))/\KK .append t (fF xs) fun r s'=>K r true (ρ2.set j (some (.own s'))):=rfl
theorem kg:tB Ψ (.idx a b) E ρ K=tB Ψ a E ρ fun x n ρ1=>X5 x n Ψ b E ρ1 fun y m ρ2=>RC x n y m fun z=>K z false ρ2:=rfl
theorem lZ{i:Int}:tB Ψ (.slc a .nop (.int i)) E ρ K=tB Ψ a E ρ fun x n ρ1=>MO x n none (some i) fun z k=>K z k ρ1:=by
 show(pe Ψ a E).e ρ (fun x n ρ1=>sq (dA x n) ρ1 (fun ρ (R:Option Int->kA->Prop)=>R none ρ) fun l ρ2=>sq (dA x n) ρ2 (fun ρ (R:Option Int->kA->Prop)=>R (some i) ρ) fun u ρ3=>fJ (dA x n).vw l u fun z k=>K z k ρ3)=_;have:∀x n ρ1,(sq (dA x n) ρ1 (fun ρ (R:Option Int->kA->Prop)=>R none ρ) fun l ρ2=>sq (dA x n) ρ2 (fun ρ (R:Option Int->kA->Prop)=>R (some i) ρ) fun u ρ3=>fJ (dA x n).vw l u fun z k=>K z k ρ3)=fJ (dA x n).vw none (some i) fun z k=>K z k ρ1:=by intro x n ρ1;unfold sq;split<;>rfl
 simp only[this];rfl
theorem yg:tB Ψ (.lst as) E ρ K=mK Ψ as E [] ρ fun xs ρ1=>xs.length<=sizeLine/\BK xs fun ts=>K (.lst ts) true ρ1:=by have:∀(xs:List (T×Bool)) ρ1,(xs.length<=sizeLine/\BK xs fun ts=>K (.lst ts) true ρ1)=(LE xs=true/\xs.length<=sizeLine/\K (.lst (fF xs)) true ρ1):=fun xs ρ1=>propext ⟨fun h=>⟨h.2.1,h.1,h.2.2⟩,fun h=>⟨h.2.1,h.1,h.2.2⟩⟩;simp only[this];rfl
theorem Sf:tB Ψ (.tup as) E ρ K=mK Ψ as E [] ρ fun xs ρ1=>xs.length<=sizeLine/\BK xs fun ts=>K (YF ts) true ρ1:=by have:∀(xs:List (T×Bool)) ρ1,(xs.length<=sizeLine/\BK xs fun ts=>K (YF ts) true ρ1)=(LE xs=true/\xs.length<=sizeLine/\K (YF (fF xs)) true ρ1):=fun xs ρ1=>propext ⟨fun h=>⟨h.2.1,h.1,h.2.2⟩,fun h=>⟨h.2.1,h.1,h.2.2⟩⟩;simp only[this];rfl
theorem db:tB Ψ (.comp mask tgs tg ik its cond elt) E ρ K=mK Ψ its E [] ρ fun xs ρ1=>GK ik xs fun items =>
   eD (NH Ψ (fun _=>False) mask tgs tg cond elt ρ1) items [] fun ys=>K (.lst ys) true ρ1:=rfl
theorem Te:NH Ψ E [] [t] (.nm 0) .nop elt ρ x R=tB Ψ elt E (some (.nv x)::lockA ρ) fun y n _=>GC y n (R (some y)):=rfl
theorem Na{u:Str}{x y:D}:NH Ψ E [] [t,u] (.tp [0,1]) .nop elt ρ (.d (.tuple [x,y])) R=tB Ψ elt E (some (.nv (.d x))::some (.nv (.d y))::lockA ρ) fun y n _=>GC y n (R (some y)):=kC
theorem oj{b:Bool}:NH Ψ E (b::m) [t] (.nm 0) .nop elt ρ x R=tB Ψ elt E (some (.nv x)::EC (b::m) (lockA ρ)) fun y n _=>GC y n (R (some y)):=rfl
theorem xZ:NH Ψ E [] [t] (.nm 0) (.cmp op a b) elt ρ x R=sO Ψ (.cmp op a b) E (some (.nv x)::lockA ρ) fun k ρ2=>if k=true then tB Ψ elt E ρ2 fun y n _=>GC y n (R (some y)) else R none:=rfl
theorem fg:mK Ψ .nr E md ρ M=M [] ρ:=rfl
theorem Jb:mK Ψ (.nq a as) E [] ρ M=tB Ψ a E ρ fun x n ρ1=>PZ x n Ψ as E [] ρ1 fun xs ρ2=>M ((x,n)::xs) ρ2:=rfl
theorem sZ:mK Ψ (.nq a as) E (.ko::md) ρ M=tB Ψ a E ρ fun x n ρ1=>PZ x n Ψ as E md ρ1 fun xs ρ2=>M ((x,n)::xs) ρ2:=rfl
theorem tZ:mK Ψ (.nq a as) E (.nv::md) ρ M=tB Ψ a E ρ fun x n ρ1=>PZ x n Ψ as E md ρ1 fun xs ρ2=>M ((x,n)::xs) ρ2:=rfl
theorem Bf:mJ Ψ E Rt (.var i) ρ=BW i ρ ρ i Rt:=rfl
theorem Yj{x:Bool}:mJ Ψ E Rt (.bl x) ρ=Rt (.d (.bool x)) ρ:=propext ⟨fun h=>h.2,fun h=>⟨rfl,h⟩⟩
theorem jb:mJ Ψ E Rt (.call f as) ρ=tB Ψ (.call f as) E ρ fun x n ρ1=>GC x n (Rt x ρ1):=rfl
theorem Ff{op:Operator}:mJ Ψ E Rt (.bin op a b) ρ=tB Ψ (.bin op a b) E ρ fun x n ρ1=>GC x n (Rt x ρ1):=rfl
theorem Gf:mJ Ψ E Rt (.and a b) ρ=tB Ψ (.and a b) E ρ fun x n ρ1=>GC x n (Rt x ρ1):=rfl
theorem Zj{f:Bi}:mJ Ψ E Rt (.bi f as) ρ=tB Ψ (.bi f as) E ρ fun x n ρ1=>GC x n (Rt x ρ1):=rfl
theorem Df:mJ Ψ E Rt (.idx a b) ρ=tB Ψ (.idx a b) E ρ fun x n ρ1=>GC x n (Rt x ρ1):=rfl
theorem Cf:mJ Ψ E Rt (.tup as) ρ=tB Ψ (.tup as) E ρ fun x n ρ1=>GC x n (Rt x ρ1):=rfl
theorem Ia:mJ Ψ E Rt (.comp mask tgs tg ik its cond elt) ρ=tB Ψ (.comp mask tgs tg ik its cond elt) E ρ fun x n ρ1=>GC x n (Rt x ρ1):=rfl
theorem jm:JI (i+1) (s::σ) ρ K=JI i σ ρ K:=rfl
theorem vm{t:T}:JI 0 (some (.nv t)::σ) ρ K=K t false ρ:=rfl
theorem ym{t:T}:JI 0 (some (.own t)::σ) ρ K=K t false ρ:=rfl
theorem km:JI i (lockA σ) ρ K=JI i σ ρ K:=by
 unfold JI lockA;rw[Qc];cases σ[i]? with
 |none=>rfl
 |some s=>cases s with
  |none=>rfl
  |some s=>cases s<;>rfl
theorem zm{b:Bool}:JI (i+1) (EC (b::m) (lockA (s::σ))) ρ K=JI i (EC m (lockA σ)) ρ K:=rfl
theorem Rj:JI 0 (EC (false::m) (lockA (s::σ))) ρ K=JI 0 (lockA (s::σ)) ρ K:=rfl
theorem Al:BW (i+1) (s::σ) ρ j Rt=BW i σ ρ j Rt:=rfl
theorem Il{x:D}:BW 0 (some (.nv (.d x))::σ) ρ j Rt=Rt (.d x) ρ:=propext ⟨fun h=>h.2,fun h=>⟨rfl,h⟩⟩
theorem El{t:T}:BW 0 (some (.own t)::σ) ρ j Rt=Rt t (ρ.set j none):=rfl
theorem ul{x:D}:X5 (.d x) n Ψ b E ρ K=tB Ψ b E ρ K:=by cases n<;>rfl
theorem yl:X5 x true Ψ b E ρ K=tB Ψ b E ρ K:=rfl
theorem xl:X5 (.lst ts) false Ψ b E ρ K=tB Ψ b E (lockA ρ) fun y m _=>K y m ρ:=rfl
theorem Tl{x:D}:PZ (.d x) n Ψ b E md ρ M=mK Ψ b E md ρ M:=by cases n<;>rfl
theorem Ol:PZ x true Ψ b E md ρ M=mK Ψ b E md ρ M:=rfl
theorem Pl:PZ (.lst ts) false Ψ b E md ρ M=mK Ψ b E md (lockA ρ) fun xs _=>M xs ρ:=rfl
theorem Hl{x:D}:jk (.d x) n Ψ b E ρ M=mK Ψ b E [] ρ M:=by cases n<;>rfl
end
end
section
variable{Ψ:PEv}{E:XE}{ρ σ:kA}{Z:PEnds}{s r q:PT}{i:Nat}{e c its:PX}{o:Option Sl}{n:Bool}{v:D}{P:Prop}{ds:List D}{x:T}
section
variable{j:Nat}{is:List Nat}{A B:Prop}
theorem zA:xA Ψ E .nil Z ρ=Z.nx ρ:=rfl
theorem Jf:xA Ψ E (.seq (.set i e) r) Z (o::σ)=tB Ψ e E (o::σ) fun x n ρ1=>lJ Ψ E r Z i x n ρ1:=rfl
theorem Kf:xA Ψ E (.seq (.own i e) r) Z (o::σ)=tB Ψ e E (o::σ) fun x n ρ1=>ud Ψ E r Z i x n ρ1:=rfl
theorem Ea:xA Ψ E (.seq (.expr e) r) Z (o::σ)=tB Ψ e E (o::σ) fun _ _ ρ1=>xA Ψ E r Z ρ1:=rfl
theorem Zf:xA Ψ E (.seq (.ret e) r) Z (o::σ)=mJ Ψ E Z.rt e (o::σ):=rfl
theorem Vf:xA Ψ E (.seq (.ife c s .nil) r) Z (o::σ)=sO Ψ c E (o::σ) fun k ρ1=>if k=true then xA Ψ E s { Z with nx:=fun ρ'=>xA Ψ E r Z ρ' } ρ1 else xA Ψ E r Z ρ1:=rfl
theorem Uf{tg:Tg}{ik:ItK}:xA Ψ E (.seq (.for_ tg ik its q) r) Z (o::σ)=mK Ψ its E [] (o::σ) fun xs ρ1=>GK ik xs fun items =>
   if ZQ xs=true then zH (xA Ψ E q) tg { Z with nx:=fun ρ2=>xA Ψ E r Z (kill tg.ix ρ2) } items ρ1
   else zH (xA Ψ E q) tg { Z with nx:=fun ρ2=>MQ tg.ix (fC ρ1 (rG its)) ρ1 (fun ρ'=>xA Ψ E r Z ρ') (kill tg.ix ρ2) } items (lock (fC ρ1 (rG its)) ρ1):=rfl
theorem af{a:PX}:xA Ψ E (.seq (.six (.var j) a e) r) Z (o::σ)=VD (o::σ)[j]? fun t=>tB Ψ e E ((o::σ).set j (some (.nv t))) fun x n ρ1=>GC x n (tB Ψ a E ρ1 fun y m ρ2=>GC y m (ρ2[j]?=some (some (.nv t))/\Jc t y x fun t'=>xA Ψ E r Z (ρ2.set j (some (.own t'))))):=rfl
theorem Aa{a k:PX}:xA Ψ E (.seq (.six (.idx (.var j) k) a e) r) Z (o::σ)=VD (o::σ)[j]? fun t=>tB Ψ e E ((o::σ).set j (some (.nv t))) fun x n ρ1=>GC x n (tB Ψ k E ρ1 fun z l ρ2=>GC z l (gc z t fun s put=>tB Ψ a E ρ2 fun y m ρ3=>GC y m (ρ3[j]?=some (some (.nv t))/\Jc s y x fun s'=>xA Ψ E r Z (ρ3.set j (some (.own (put s'))))))):=rfl
theorem Yf{k:PX}:xA Ψ E (.seq (.sdf j k) r) Z (o::σ)=VD (o::σ)[j]? fun t=>S9 t=true/\tB Ψ k E ((o::σ).set j (some (.nv t))) fun y m ρ1=>GC y m (ρ1[j]?=some (some (.nv t))/\Uc y t fun t'=>xA Ψ E r Z (ρ1.set j (some (.own t')))):=rfl
theorem Ta:xA Ψ E (.seq (.tset is e) r) Z (o::σ)=tB Ψ e E (o::σ) fun x n ρ1=>GC x n (zU (.tp is) (.d x.er) ρ1 fun ρ2=>xA Ψ E r Z ρ2):=rfl
theorem Xf:xA Ψ E (.seq (.frz is s) r) Z (o::σ)=xA Ψ E (.seq s r) Z (frzAt is (o::σ)):=rfl
theorem tf:xA Ψ E (.seq (.whl c q) r) Z (o::σ)=Lb Ψ E c q { Z with nx:=fun ρ'=>xA Ψ E r Z ρ' } (o::σ):=rfl
theorem Nl:lJ Ψ E r Z i (.d v) n ρ=xA Ψ E r Z (ρ.set i (some (.nv (.d v)))):=propext ⟨fun h=>h.2,fun h=>⟨by cases n<;>rfl,h⟩⟩
theorem Ml:lJ Ψ E r Z i (.lst (ds.map T.d)) true ρ=xA Ψ E r Z (ρ.set i (some (.nv (.d (.list ds))))):=by unfold lJ T.er;rw[KA];exact propext ⟨fun h=>h.2,fun h=>⟨rfl,h⟩⟩
theorem Jl:ud Ψ E r Z i x true ρ=xA Ψ E r Z (ρ.set i (some (.own x))):=propext ⟨fun h=>h.2,fun h=>⟨rfl,h⟩⟩
theorem um:GC (.d v) n P=P:=propext ⟨fun h=>h.2,fun h=>⟨by cases n<;>rfl,h⟩⟩
theorem xm:GC x true P=P:=propext ⟨fun h=>h.2,fun h=>⟨rfl,h⟩⟩
theorem v3:(([]:List T)=[]/\P)=P:=propext ⟨fun h=>h.2,fun h=>⟨rfl,h⟩⟩
theorem ai:(if(true:Bool)=true then A else B)=A:=rfl
theorem Ji:(if(false:Bool)=true then A else B)=B:=rfl
theorem Fl{v a0:Option Sl}:xA Ψ E r Z (WT (a0::σ) 0 v)=xA Ψ E r Z (v::σ):=rfl
theorem Dl{v a0 a1:Option Sl}:xA Ψ E r Z (WT (a0::a1::σ) 1 v)=xA Ψ E r Z (a0::v::σ):=rfl
theorem Cl{v a0 a1 a2:Option Sl}:xA Ψ E r Z (WT (a0::a1::a2::σ) 2 v)=xA Ψ E r Z (a0::a1::v::σ):=rfl
theorem Bl{v a0 a1 a2 a3:Option Sl}:xA Ψ E r Z (WT (a0::a1::a2::a3::σ) 3 v)=xA Ψ E r Z (a0::a1::a2::v::σ):=rfl
theorem Ul{v a0 a1 a2 a3 a4:Option Sl}:xA Ψ E r Z (WT (a0::a1::a2::a3::a4::σ) 4 v)=xA Ψ E r Z (a0::a1::a2::a3::v::σ):=rfl
theorem Xl{v a0 a1 a2 a3 a4 a5:Option Sl}:xA Ψ E r Z (WT (a0::a1::a2::a3::a4::a5::σ) 5 v)=xA Ψ E r Z (a0::a1::a2::a3::a4::v::σ):=rfl
theorem Vl{v a0 a1 a2 a3 a4 a5 a6:Option Sl}:xA Ψ E r Z (WT (a0::a1::a2::a3::a4::a5::a6::σ) 6 v)=xA Ψ E r Z (a0::a1::a2::a3::a4::a5::v::σ):=rfl
theorem Kl{v a0 a1 a2 a3 a4 a5 a6 a7:Option Sl}:xA Ψ E r Z (WT (a0::a1::a2::a3::a4::a5::a6::a7::σ) 7 v)=xA Ψ E r Z (a0::a1::a2::a3::a4::a5::a6::v::σ):=rfl
theorem Zl{v a0 a1 a2 a3 a4 a5 a6 a7 a8:Option Sl}:xA Ψ E r Z (WT (a0::a1::a2::a3::a4::a5::a6::a7::a8::σ) 8 v)=xA Ψ E r Z (a0::a1::a2::a3::a4::a5::a6::a7::v::σ):=rfl
theorem Yl{v a0 a1 a2 a3 a4 a5 a6 a7 a8 a9:Option Sl}:xA Ψ E r Z (WT (a0::a1::a2::a3::a4::a5::a6::a7::a8::a9::σ) 9 v)=xA Ψ E r Z (a0::a1::a2::a3::a4::a5::a6::a7::a8::v::σ):=rfl
theorem Dj{v a0 a1 a2 a3 a4 a5 a6 a7 a8 a9 a10:Option Sl}:xA Ψ E r Z (WT (a0::a1::a2::a3::a4::a5::a6::a7::a8::a9::a10::σ) 10 v)=xA Ψ E r Z (a0::a1::a2::a3::a4::a5::a6::a7::a8::a9::v::σ):=rfl
theorem Cj{v a0 a1 a2 a3 a4 a5 a6 a7 a8 a9 a10 a11:Option Sl}:xA Ψ E r Z (WT (a0::a1::a2::a3::a4::a5::a6::a7::a8::a9::a10::a11::σ) 11 v)=xA Ψ E r Z (a0::a1::a2::a3::a4::a5::a6::a7::a8::a9::a10::v::σ):=rfl
theorem Bj{v a0 a1 a2 a3 a4 a5 a6 a7 a8 a9 a10 a11 a12:Option Sl}:xA Ψ E r Z (WT (a0::a1::a2::a3::a4::a5::a6::a7::a8::a9::a10::a11::a12::σ) 12 v)=xA Ψ E r Z (a0::a1::a2::a3::a4::a5::a6::a7::a8::a9::a10::a11::v::σ):=rfl
end
end
section
variable{d:D}{n m:Bool}{i j:Int}{z y:Str}{b:Bool}{xs:List (T×Bool)}{ts:List T}{ds es:List D}{md:List Md}{t:T}{C:List T->Prop}{Q:T->Bool->Prop}{L:Bool->Prop}{R:T->Prop}{W:List T->Prop}
section
variable{ρ:kA}{P:kA->Prop}{e f k:D}{op:CmpOp}{kvs:List (D×D)}{l u:Option Int}
theorem ec{i:Int}{x:D}{Q:T->Prop}(h0:0<=i)(h1:i<ds.length)(q:Q (.lst ((ds.set i.toNat x).map T.d))):Jc (.lst (ds.map T.d)) (.d (.int i)) (.d x) Q:=by
 have h:i.toNat<ds.length:=by omega
 refine⟨i.toNat,?_,by rw[<- QBp];exact q⟩;unfold DQ;rw[QD];rw[if_pos h0,if_pos h1]
theorem D6{l:List Nat}{i:Int}{K:Nat->Prop}(h0:0<=i)(h1:i<l.length)(k:∀v,v∈l->K v):gC (kF l i) K:=by obtain⟨v,h2,h3⟩:=uO h0 h1;exact⟨v,h2,k v (qD h3)⟩
theorem gS{i:Int}{K:D->Prop}(h0:0<=i)(h1:i<ds.length)(k:∀v,v∈ds->K v):gC (kF ds i) K:=by obtain⟨v,h2,h3⟩:=uO h0 h1;exact⟨v,h2,k v (qD h3)⟩
theorem lf{J:List Nat}{ρ0:kA}{N:kA->Prop}:MQ J [] ρ0 N ρ=N ρ:=propext ⟨fun h=>h.2,fun h=>⟨fun _ z=>(nomatch z),h⟩⟩
theorem VA{α:Type}(f:α->D)(l:List α):l.map (fun c=>T.d (f c))=(l.map f).map T.d:=by rw[QY];rfl
theorem ID:(dA (.lst (ds.map T.d)) n).vw=.ls (ds.map T.d):=by cases n;rfl;show Vw.ls ((ersT (ds.map T.d)).map T.d)=_;rw[KA]
theorem Hf:mB md [] C=C []:=kC
theorem ml:mB [] ((.d d,n)::xs) C=mB [] xs fun ts=>C (.d d::ts):=by
 have e:YA [] ((.d d,n)::xs) []=(YA [] xs []).map (.d d::·):=by cases n<;>rfl
 unfold mB;rw[e,rF]
theorem gk:mB [] ((.lst (ds.map T.d),true)::xs) C=mB [] xs fun ts=>C (.d (.list ds)::ts):=by have e:YA [] ((.lst (ds.map T.d),true)::xs) []=(YA [] xs []).map (.d (.list (ersT (ds.map T.d)))::·):=rfl;unfold mB;rw[e,rF,KA]
theorem il:mB (.nv::md) ((t,false)::xs) C=mB md xs fun ts=>C (t::ts):=by have e:YA (.nv::md) ((t,false)::xs) []=(YA md xs []).map (t::·):=rfl;unfold mB;rw[e,rF]
theorem B7:yF (.lst (ds.map T.d))=some (.lst (ds.map T.d)):=by simp only[yF,T.vw,pA,Q9]
theorem ck{u:T}(h:yF (dA t n)=some u):mB (.ko::md) ((t,n)::xs) C=mB md xs fun ts=>C (u::ts):=by
 have e:YA (.ko::md) ((t,n)::xs) []=(YA md xs []).map (u::·):=by show(match yF (dA t n) with|some t=>(YA md xs []).map (t::·)|none=>none)=_;rw[h]
 unfold mB;rw[e,rF]
theorem Kj:mB (.ko::md) ((.lst (ds.map T.d),n)::xs) C=mB md xs fun ts=>C (.lst (ds.map T.d)::ts):=ck (by cases n;exact B7;show yF (.d (.list (ersT (ds.map T.d))))=_;rw[KA];simp only[yF,T.vw,pA,Q9])
theorem Nf:BK [] C=C []:=propext ⟨fun h=>h.2,fun h=>⟨rfl,h⟩⟩
theorem Jk:BK ((.lst (ds.map T.d),true)::xs) C=BK xs fun ts=>C (.lst (ds.map T.d)::ts):=by show((kH (.lst (ds.map T.d)) true&&LE xs)=true/\C (.lst (ds.map T.d)::fF xs))=(LE xs=true/\C (.lst (ds.map T.d)::fF xs));rw[show kH (.lst (ds.map T.d)) true=true from rfl,QBJ]
theorem Ll:BK ((.d d,n)::xs) C=BK xs fun ts=>C (.d d::ts):=by show((kH (.d d) n&&LE xs)=true/\C (.d d::fF xs))=(LE xs=true/\C (.d d::fF xs));rw[show kH (.d d) n=true by cases n<;>rfl,QBJ]
theorem dg{i j:Nat}{x y:D}:zU (.tp [i,j]) (.d (.tuple [x,y])) ρ P=P ((ρ.set i (some (.nv (.d x)))).set j (some (.nv (.d y)))):=kC
theorem Aj{i:Nat}:zU (.nm i) t ρ P=P (ρ.set i (some (.nv t))):=rfl
theorem Ii{tg:Tg}:bJ tg t ρ P=zU tg t ρ P:=rfl
theorem df:vH .Add (.d (.int i)) n (.d (.int j)) m Q=Q (.d (.int (i+j))) false:=by unfold vH;rw[oA,oA];exact Da i j
theorem yf:vH .Sub (.d (.int i)) n (.d (.int j)) m Q=Q (.d (.int (i - j))) false:=by unfold vH;rw[oA,oA];exact Ba i j
theorem xf:vH .Mult (.d (.int i)) n (.d (.int j)) m Q=(IntMulOk i j/\Q (.d (.int (i * j))) false):=by unfold vH;rw[oA,oA];exact Ua i j
theorem zf:vH .Mult (.d (.str z)) n (.d (.int j)) m Q=((-(2 ^ 31)<=j/\j<2 ^ 31/\z.length * j.toNat<=sizeLine)/\Q (.d (.str (eG z j))) false):=by unfold vH;rw[oA,oA];exact Xa z j
theorem bf:vH .FloorDiv (.d (.int i)) n (.d (.int j)) m Q=((0<j/\j<2 ^ 200)/\Q (.d (.int (i / j))) false):=by unfold vH;rw[oA,oA];exact Va i j
theorem uf:vH .Mod (.d (.int i)) n (.d (.int j)) m Q=(0<j/\Q (.d (.int (i % j))) false):=by unfold vH;rw[oA,oA];exact Ka i j
theorem rj:vH .Add (.lst (ds.map T.d)) n (.lst (es.map T.d)) m Q=(ds.length+es.length<=sizeLine/\Q (.lst ((ds++es).map T.d)) true):=by unfold vH;rw[ID,ID,Ca,pA,pA];exact propext ⟨fun⟨_,_,e1,e2,k⟩=>by cases e1;cases e2;exact k,fun k=>⟨_,_,rfl,rfl,k⟩⟩
theorem Hh:YF [.d d,.d e]=.d (.tuple [d,e]):=rfl
theorem Gh{g:D}:YF [.d d,.d e,.d f,.d g]=.d (.tuple [d,e,f,g]):=rfl
theorem Fe:HB .Eq (.d (.int i)) (.d (.int j)) L=L (decide (i=j)):=rfl
theorem De:HB .Eq (.d (.str z)) (.d (.str y)) L=L (decide (z=y)):=rfl
theorem Ue:HB .NotEq (.d (.str z)) (.d (.str y)) L=L (!decide (z=y)):=rfl
theorem Li:HB .Lt (.d (.int i)) (.d (.int j)) L=L (decide (i<j)):=rfl
theorem MY:HB op (.d d) (.lst (ds.map T.d)) L=ZV op d (.list ds) L:=by show ZV op d (.list (ersT (ds.map T.d))) L=_;rw[KA]
theorem Mi:HB .Gt (.d (.int i)) (.d (.int j)) L=L (decide (j<i)):=rfl
theorem Ri{u:T}:HB op t (dA u false) L=HB op t u L:=rfl
theorem Ce:HB .In (.d (.str z)) (.d (.list ds)) L=(((eB (.str z)=true/\ds.all eB=true)∨(ZE (.str z)/\ZE (.list ds)))/\L (ds.any fun y=>Q6 y (.str z))):=rfl
theorem da:HB .NotIn (.d (.str z)) (.d (.list ds)) L=(((eB (.str z)=true/\ds.all eB=true)∨(ZE (.str z)/\ZE (.list ds)))/\L (!(ds.any fun y=>Q6 y (.str z)))):=rfl
theorem ca:HB .NotIn (.d (.str z)) (.lst (ds.map T.d)) L=(((eB (.str z)=true/\ds.all eB=true)∨(ZE (.str z)/\ZE (.list ds)))/\L (!(ds.any fun y=>Q6 y (.str z)))):=by exact MY
theorem yU:HB .NotEq (.d (.list ds)) (.d (.list es)) L=(ZE (.list ds)/\ZE (.list es)/\L (!PyData.eqv (.list ds) (.list es))):=rfl
theorem AY{ks:List D}:HB .NotIn (.d d) (.dct b ks ts) L=(vF b d/\L (!(fA ks d).isSome)):=by show(vF b d/\((CmpOp.NotIn=.In/\L (fA ks d).isSome)∨(CmpOp.NotIn=.NotIn/\L (!(fA ks d).isSome))))=_;simp
theorem Be:HB .In (.d (.str z)) (.lst (ds.map T.d)) L=(((eB (.str z)=true/\ds.all eB=true)∨(ZE (.str z)/\ZE (.list ds)))/\L (ds.any fun y=>Q6 y (.str z))):=by exact MY
theorem Fk:i7 (.d (.bool b)) L=L b:=rfl
theorem jl:uk (.d (.bool b)) L=L b:=rfl
theorem Ch:eO .len [(.d (.list ds),n)] Q=Q (.d (.int ds.length)) false:=by unfold eO GB;rw[oA];refine(B6 _).trans ?_;rw[QD]
theorem Bh:eO .len [(.lst (ds.map T.d),n)] Q=Q (.d (.int ds.length)) false:=by unfold eO GB;rw[ID];refine(B6 _).trans ?_;rw[QD]
theorem Gd:eO .list [(.d (.list ds),n)] Q=Q (.lst (ds.map T.d)) true:=by unfold eO GB;rw[oA];refine(Oe _).trans ?_;rw[pA];exact kC
theorem UY:xQ (.ls ts) k R=False:=propext ⟨fun⟨_,_,_,_,_,e,_⟩=>(by cases e),Qb⟩
theorem O9:xQ (.tp ts) k R=False:=propext ⟨fun⟨_,_,_,_,_,e,_⟩=>(by cases e),Qb⟩
theorem P9{x:D}:xQ (.sc x) k R=False:=propext ⟨fun⟨_,_,_,_,_,e,_⟩=>(by cases e),Qb⟩
theorem Ck:RC (.lst (ds.map T.d)) n (.d (.int i)) m R=gC (kF ds i) fun d=>R (.d d):=by unfold RC;rw[ID,oA,UY,or_false];refine(mY _ _).trans ?_;show gC (kF (ds.map T.d) i) R=_;rw[cO,rF]
theorem Cg:RC (.d (.list ds)) n (.d (.int i)) m R=gC (kF ds i) fun d=>R (.d d):=by unfold RC;rw[oA,oA,show(T.d (.list ds)).vw=.ls (ds.map T.d) from rfl,UY,or_false];refine(mY _ _).trans ?_;show gC (kF (ds.map T.d) i) R=_;rw[cO,rF]
theorem T6:RC (.d (.tuple ds)) n (.d (.int i)) m R=gC (kF ds i) fun d=>R (.d d):=by unfold RC;rw[oA,oA,show(T.d (.tuple ds)).vw=.tp (ds.map T.d) from rfl,O9,or_false];refine(U9 _ _).trans ?_;show gC (kF (ds.map T.d) i) R=_;rw[cO,rF]
theorem Bk:RC (.d (.str z)) n (.d (.int i)) m R=(z.length<=sizeLine/\gC (kF z.cps.toList i) fun c=>R (.d (.str ⟨#[c]⟩))):=by unfold RC;rw[oA,oA,show(T.d (.str z)).vw=.sc (.str z) from rfl,P9,or_false];exact B9 _ _
theorem Fg:RC (.lst [.d d,.d e,.d f]) n t m R=RC (.lst ([d,e,f].map T.d)) n t m R:=rfl
theorem Dg{g:D}:RC (.lst [.d d,.d e,.d f,.d g]) n t m R=RC (.lst ([d,e,f,g].map T.d)) n t m R:=rfl
theorem Fb{q:Bool}{l:Nat}(h1:IC kvs=some q)(h2:vF q k)(h3:fA (kvs.map (·.1)) k=some l)(h4:(kvs.map (·.2))[l]?=some e)(h5:R (.d e)):RC (.d (.dict kvs)) n (.d k) m R:=by
 unfold RC;rw[oA];refine .inr ?_;show xQ (JB kvs) k R;unfold JB;rw[h1];refine⟨q,_,_,l,.d e,rfl,h2,h3,?_,h5⟩;rw[Qc]at h4 ⊢;cases z:kvs[l]? with
 |none=>rw[z]at h4;cases h4
 |some p=>rw[z]at h4;cases h4;rfl
theorem Rk:MO (.d (.list ds)) n l u Q=Q (.lst ((UD ds l u).map T.d)) true:=by unfold MO;rw[oA];refine(tW _).trans ?_;rw[pA];exact kC
theorem uh:MO (.lst (ds.map T.d)) n l u Q=Q (.lst ((UD ds l u).map T.d)) true:=by unfold MO;rw[ID];refine(tW _).trans ?_;rw[pA];exact kC
theorem Mh:Fh .join (.d (.str z)) n [(.lst (ds.map T.d),m)] Q=∃ys:List Str,ds=ys.map PyData.str/\(ys.map (·.length)).sum+ys.length * z.length<=16777216/\Q (.d (.str (QAC z ys))) false:=by unfold Fh GB;rw[oA,ID];refine(Nd z _).trans ?_;simp only[pA,Qq]
theorem Lh{P:Prop}:(JR .join (dA (.d (.str z)) n).vw=true/\P)=P:=propext ⟨fun h=>h.2,fun h=>⟨y9 rfl,h⟩⟩
theorem Dk:GK .val [(.d (.list ds),n)] W=W (ds.map T.d):=by unfold GK GB;rw[oA];exact FK _
theorem Hg:GK .val [(.lst (ds.map T.d),n)] W=W (ds.map T.d):=by unfold GK GB;rw[ID];exact FK _
theorem Gg:GK .rng1 [(.d (.int j),n)] W=((-(2 ^ 62)<=j/\j<2 ^ 62)/\W ((Q5 j.toNat).map fun(i:Nat)=>.d (.int (i:Int)))):=by unfold GK GB;rw[oA];exact cY j
theorem Lg:GK .enum [(.d (.list ds),n)] W=W (ds.zipIdx.map fun p=>.d (.tuple [.int (p.2:Int),p.1])):=by unfold GK GB;rw[oA];refine(MP _).trans ?_;exact propext ⟨fun⟨_,_,e1,e2,k⟩=>by cases e1;rw[pA]at e2;cases e2;exact k,fun k=>⟨_,_,rfl,pA _,k⟩⟩
theorem Ab:GK .enum [(.lst (ds.map T.d),n)] W=W (ds.zipIdx.map fun p=>.d (.tuple [.int (p.2:Int),p.1])):=by unfold GK GB;rw[ID];refine(MP _).trans ?_;exact propext ⟨fun⟨_,_,e1,e2,k⟩=>by cases e1;rw[pA]at e2;cases e2;exact k,fun k=>⟨_,_,rfl,pA _,k⟩⟩
theorem Sb(h:kvs=[]∨IC kvs=some true):GK .itm [(.d (.dict kvs),n)] W=W (kvs.map fun p=>.d (.tuple [p.1,p.2])):=by
 unfold GK GB;rw[oA];show NB .itm [JB kvs] W=_;rcases h with rfl|h;exact bY;unfold JB;rw[h];refine(LP _ _).trans ?_;have e:(kvs.map fun p=>T.d p.2)=(kvs.map (·.2)).map T.d:=by rw[QY];rfl
 have e2:((kvs.map (·.1)).zip (kvs.map (·.2))).map (fun p=>T.d (.tuple [p.1,p.2]))=kvs.map fun p=>T.d (.tuple [p.1,p.2]):=by rw[List.zip_map',QY];rfl
 refine propext ⟨fun⟨ds,e1,k⟩=>?_,fun k=>⟨kvs.map (·.2),by rw[e,pA],?_⟩⟩;rw[e,pA]at e1;cases e1;rw[e2]at k;exact k;rw[e2];exact k
def eZ(Q:T->List T->Prop):PEnds:={ nx:=fun _=>Q (.d .none) [],rt:=fun t _=>Q t [] }
theorem fe{Q:T->List T->Prop}{t:T}:(eZ Q).rt t ρ=Q t []:=rfl
theorem CA{Ψ:PEv}{b:PT}{p:PSp}{N ps:List Str}{ds:List T}{Q:T->List T->Prop}(ρ:kA)(hl:ds.length=ps.length)(hc:CB 0 p.md ps.length=[])(hs:nA N p.md ds=ρ)(h:xA Ψ (fun _=>False) b (eZ Q) ρ):ds.length=ps.length/\xA Ψ (fun _=>False) b (vB p ps.length Q) (nA N p.md ds):=by
 have e:vB p ps.length Q=eZ Q:=by unfold vB;rw[hc];rfl
 rw[e,hs];exact⟨hl,h⟩
end
end
end L2.L3
namespace L2.L3.K23
open PySem PySem.Spec PyProof.Rows L2 L2.L3
section
variable{c k i m s v:Int}{K Q:T->List T->Prop}{E:XE}{Ψ:PEv}{ys ns st:List Str}{n c1:Nat}{Z:PEnds}{sc:Sl}{es:LB}{o6 o7 o8 o12 o13 o9 o10 o11:Option Sl}{p q:Pt}{r:Rm}{l:Inn}{a b g:Str}{w:Wy}{e:Str×Str}
def jF(i:Nat):Stmt:=PySem.Challenge.pw_quoteweave_k23_seers_alone.main.body.getD i (.Pass ⟨0,0,0,0⟩)
def AF:List Str:=["edges","starts","goal","rooms","came_from","firsts","chains"]
def OC:List Str:=["edges","starts","goal"]
def JF:Need:=⟨["rooms_of","points_reached","lay_chain","chain_from","full_names"],["BEGIN"],["sorted"]⟩
def sC:PT :=
  (.seq (.expr (.call "lay_chain" (.nq (.var 3) (.nq (.var 4) (.nq (.tup (.nq (.var 2) (.nq (.str "to") .nr))) .nr)))))
  (.seq (.set 4 (.call "points_reached" (.nq (.var 3) .nr)))
  .nil))
def OF:PT :=
  (.seq (.own 3 (.call "rooms_of" (.nq (.var 0) (.nq (.var 1) (.nq (.var 2) .nr)))))
  (.seq (.set 4 (.call "points_reached" (.nq (.var 3) .nr)))
  (.seq (.whl (.cmp .In (.tup (.nq (.var 2) (.nq (.str "to") .nr))) (.var 4)) sC)
  (.seq (.set 5 (.comp [] ["point"] (.nm 0) .val (.nq (.idx (.var 3) (.glo "BEGIN")) .nr) (.cmp .Gt (.idx (.idx (.var 4) (.var 0)) (.glo "BEGIN")) (.int 0)) (.idx (.var 0) (.int 0))))
  (.seq (.set 6 (.comp [] ["first"] (.nm 0) .val (.nq (.var 5) .nr) .nop (.call "chain_from" (.nq (.var 4) (.nq (.var 0) (.nq (.var 3) .nr))))))
  (.seq (.ret (.tup (.nq (.bi .sorted (.nq (.var 6) .nr)) (.nq (.call "full_names" (.nq (.var 4) .nr)) .nr))))
  .nil))))))
theorem aJ:aD JF OF AF OC (jF 3)=true:=by kernel_rfl
def mL:List Str:=["edges","starts","goal","rooms","name","first","second"]
def nF:List Str:=["edges","starts","goal"]
def JK:Need:=⟨["add_name","add_way"],["BEGIN","WIDE"],[]⟩
def OE:PT :=
  (.seq (.ife (.cmp .NotEq (.var 4) (.var 2)) (.seq (.expr (.call "add_name" (.nq (.var 3) (.nq (.var 4) .nr))))
  (.seq (.expr (.call "add_way" (.nq (.var 3) (.nq (.glo "BEGIN") (.nq (.tup (.nq (.var 4) (.nq (.str "to") .nr))) (.nq (.glo "WIDE") .nr))))))
  .nil)) .nil)
  .nil)
def NE:PT :=
  (.seq (.ife (.and (.cmp .NotEq (.var 5) (.var 2)) (.cmp .NotEq (.var 5) (.var 6))) (.seq (.expr (.call "add_name" (.nq (.var 3) (.nq (.var 5) .nr))))
  (.seq (.expr (.call "add_name" (.nq (.var 3) (.nq (.var 6) .nr))))
  (.seq (.expr (.call "add_way" (.nq (.var 3) (.nq (.tup (.nq (.var 5) (.nq (.str "from") .nr))) (.nq (.tup (.nq (.var 6) (.nq (.str "to") .nr))) (.nq (.glo "WIDE") .nr))))))
  .nil))) .nil)
  .nil)
def cL:PT :=
  (.seq (.own 3 (.dsp (.glo "BEGIN") (.dnew true)))
  (.seq (.for_ (.nm 4) .val (.nq (.var 1) .nr) OE)
  (.seq (.for_ (.tp [5,6]) .val (.nq (.var 0) .nr) NE)
  (.seq (.ret (.var 3))
  .nil))))
theorem nQ:aD JK cL mL nF (jF 4)=true:=by kernel_rfl
def pL:List Str:=["rooms","name"]
def oF:List Str:=["rooms","name"]
def YK:Need:=⟨["add_way"],[],[]⟩
def uH:PT :=
  (.seq (.expr (.call "add_way" (.nq (.var 0) (.nq (.tup (.nq (.var 1) (.nq (.str "to") .nr))) (.nq (.tup (.nq (.var 1) (.nq (.str "from") .nr))) (.nq (.int 1) .nr))))))
  .nil)
theorem oQ:aD YK uH pL oF (jF 5)=true:=by kernel_rfl
def FM:List Str:=["rooms","here","there","room"]
def NG:List Str:=["rooms","here","there","room"]
def zV:Need:=⟨[],[],[]⟩
def VM:PT :=
  (.seq (.sdf 0 (.var 1))
  (.seq (.sdf 0 (.var 2))
  (.seq (.six (.idx (.var 0) (.var 1)) (.var 2) (.var 3))
  (.seq (.six (.idx (.var 0) (.var 2)) (.var 1) (.int 0))
  .nil))))
theorem uS:aD zV VM FM NG (jF 6)=true:=by kernel_rfl
def sE:List Str:=["rooms","came_from","waiting","here","there","room"]
def zC:List Str:=["rooms"]
def aI:Need:=⟨[],["BEGIN"],["len"]⟩
def SA:PT :=
  (.seq (.ife (.and (.cmp .Gt (.var 5) (.int 0)) (.cmp .NotIn (.var 4) (.var 1))) (.seq (.six (.var 1) (.var 4) (.var 3))
  (.seq (.expr (.mt .append (.var 2) (.nq (.var 4) .nr)))
  .nil)) .nil)
  .nil)
def JD:PT :=
  (.seq (.set 3 (.mt .pop (.var 2) (.nq (.int 0) .nr)))
  (.seq (.for_ (.tp [4,5]) .itm (.nq (.idx (.var 0) (.var 3)) .nr) SA)
  .nil))
def rE:PT :=
  (.seq (.own 1 (.dsp (.glo "BEGIN") .non))
  (.seq (.own 2 (.lst (.nq (.glo "BEGIN") .nr)))
  (.seq (.whl (.cmp .Gt (.bi .len (.nq (.var 2) .nr)) (.int 0)) JD)
  (.seq (.ret (.var 1))
  .nil))))
theorem OH:aD aI rE sE zC (jF 7)=true:=by kernel_rfl
def cJ:List Str:=["rooms","came_from","last","there","here"]
def JE:List Str:=["rooms","came_from","last"]
def rP:Need:=⟨[],["BEGIN"],[]⟩
def vE:PT :=
  (.seq (.set 4 (.idx (.var 1) (.var 3)))
  (.seq (.six (.idx (.var 0) (.var 4)) (.var 3) (.bin .Sub (.idx (.idx (.var 0) (.var 4)) (.var 3)) (.int 1)))
  (.seq (.six (.idx (.var 0) (.var 3)) (.var 4) (.bin .Add (.idx (.idx (.var 0) (.var 3)) (.var 4)) (.int 1)))
  (.seq (.set 3 (.var 4))
  .nil))))
def LF:PT :=
  (.seq (.set 3 (.var 2))
  (.seq (.whl (.cmp .NotEq (.var 3) (.glo "BEGIN")) vE)
  .nil))
theorem IN:aD rP LF cJ JE (jF 8)=true:=by kernel_rfl
def yI:List Str:=["rooms","first","goal","chain","name"]
def AD:List Str:=["rooms","first","goal"]
def ZH:Need:=⟨["name_behind"],[],[]⟩
def YD:PT :=
  (.seq (.expr (.mt .append (.var 3) (.nq (.var 4) .nr)))
  (.seq (.set 4 (.call "name_behind" (.nq (.var 0) (.nq (.var 4) .nr))))
  .nil))
def EE:PT :=
  (.seq (.own 3 (.lst .nr))
  (.seq (.set 4 (.var 1))
  (.seq (.whl (.cmp .NotEq (.var 4) (.var 2)) YD)
  (.seq (.ret (.var 3))
  .nil))))
theorem BL:aD ZH EE yI AD (jF 9)=true:=by kernel_rfl
def VG:List Str:=["rooms","name","here"]
def nD:List Str:=["rooms","name"]
def JL:Need:=⟨[],[],[]⟩
def kE:PT :=
  (.seq (.set 2 (.tup (.nq (.var 1) (.nq (.str "from") .nr))))
  (.seq (.ret (.idx (.comp [] ["there"] (.nm 0) .val (.nq (.idx (.var 0) (.var 2)) .nr) (.and (.cmp .NotEq (.idx (.var 0) (.int 0)) (.var 2)) (.cmp .Gt (.idx (.idx (.var 1) (.var 0)) (.var 3)) (.int 0))) (.idx (.var 0) (.int 0))) (.int 0)))
  .nil))
theorem xL:aD JL kE VG nD (jF 10)=true:=by kernel_rfl
def jI:List Str:=["came_from"]
def TD:List Str:=["came_from"]
def YN:Need:=⟨[],[],["sorted"]⟩
def AE:PT :=
  (.seq (.ret (.bi .sorted (.nq (.comp [] ["point"] (.nm 0) .val (.nq (.var 0) .nr) (.and (.cmp .Eq (.idx (.var 0) (.int 1)) (.str "to")) (.cmp .NotIn (.tup (.nq (.idx (.var 0) (.int 0)) (.nq (.str "from") .nr))) (.var 1))) (.idx (.var 0) (.int 0))) .nr)))
  .nil)
theorem UL:aD YN AE jI TD (jF 11)=true:=by kernel_rfl
def dJ:List Str:=["edges","seers","needs","ground","holders","others"]
def YE:List Str:=["edges","seers","needs"]
def EI:Need:=⟨["ground_alone","told_through"],[],[]⟩
def MF:PT :=
  (.seq (.set 3 (.call "ground_alone" (.nq (.var 0) (.nq (.var 1) (.nq (.var 2) .nr)))))
  (.seq (.set 4 (.comp [] ["name","chains"] (.tp [0,1]) .val (.nq (.var 3) .nr) .nop (.var 0)))
  (.seq (.set 5 (.comp [] ["name","number"] (.tp [0,1]) .val (.nq (.var 2) .nr) (.cmp .NotIn (.var 0) (.var 6)) (.var 0)))
  (.seq (.ret (.tup (.nq (.var 3) (.nq (.comp [] ["name"] (.nm 0) .val (.nq (.var 5) .nr) .nop (.tup (.nq (.var 0) (.nq (.idx (.call "told_through" (.nq (.var 1) (.nq (.var 2) (.nq (.var 5) (.nq (.var 0) .nr))))) (.int 1)) .nr)))) .nr))))
  .nil))))
theorem jO:aD EI MF dJ YE (jF 13)=true:=by kernel_rfl
def TF:List Str:=["edges","seers","needs","ground","found","grown","name","number","chains"]
def NC:List Str:=["edges","seers","needs"]
def iF:Need:=⟨["told_through"],[],["len"]⟩
def rC:PT :=
  (.seq (.ife (.cmp .NotIn (.var 6) (.var 4)) (.seq (.set 8 (.idx (.call "told_through" (.nq (.var 0) (.nq (.var 1) (.nq (.var 4) (.nq (.var 6) .nr))))) (.int 0)))
  (.seq (.ife (.cmp .GtE (.bi .len (.nq (.var 8) .nr)) (.var 7)) (.seq (.expr (.mt .append (.var 3) (.nq (.tup (.nq (.var 6) (.nq (.slc (.var 8) .nop (.var 7)) .nr))) .nr)))
  (.seq (.expr (.mt .append (.var 4) (.nq (.var 6) .nr)))
  (.seq (.set 5 (.bl true))
  .nil))) .nil)
  .nil)) .nil)
  .nil)
def pC:PT :=
  (.seq (.set 5 (.bl false))
  (.seq (.for_ (.tp [6,7]) .val (.nq (.var 2) .nr) rC)
  .nil))
def NF:PT :=
  (.seq (.own 3 (.comp [false,false,false,false,false,false,true,true] ["name","number"] (.tp [0,1]) .val (.nq (.var 2) .nr) (.cmp .In (.var 0) (.var 3)) (.tup (.nq (.var 0) (.nq (.lst .nr) .nr)))))
  (.seq (.own 4 (.comp [false,false,false,false,false,false,true,false,true] ["name","chains"] (.tp [0,1]) .val (.nq (.var 3) .nr) .nop (.var 0)))
  (.seq (.set 5 (.bl true))
  (.seq (.whl (.var 5) pC)
  (.seq (.ret (.var 3))
  .nil)))))
theorem tJ:aD iF NF TF NC (jF 14)=true:=by kernel_rfl
def SF:List Str:=["edges","seers","people","goal"]
def MC:List Str:=["edges","seers","people","goal"]
def aF:Need:=⟨["apart_chains"],[],[]⟩
def iD:PT :=
  (.seq (.ret (.call "apart_chains" (.nq (.comp [] ["edge"] (.nm 0) .val (.nq (.var 0) .nr) (.cmp .In (.idx (.var 0) (.int 0)) (.var 3)) (.var 0)) (.nq (.var 1) (.nq (.var 3) .nr)))))
  .nil)
theorem sJ:aD aF iD SF MC (jF 15)=true:=by kernel_rfl
def DM:List Str:=["_law_cell_here","_law_k","_law_m"]
def MG:List Str:=["_law_cell_here","_law_k"]
def yV:Need:=⟨[],[],[]⟩
def LI:PT :=
  (.seq (.set 2 (.bin .Mod (.bin .Add (.bin .Mult (.bin .Mod (.var 0) (.int 2147483647)) (.int 48271)) (.bin .Mult (.bin .Add (.bin .Add (.bin .Mult (.var 1) (.var 1)) (.bin .Mult (.int 3) (.var 1))) (.int 7)) (.int 69621))) (.int 2147483647)))
  (.seq (.ret (.bin .Mod (.bin .Mult (.var 2) (.var 2)) (.int 2147483647)))
  .nil))
theorem xS:aD yV LI DM MG (jF 18)=true:=by kernel_rfl
def CM:List Str:=["_law_cell_here","_law_many","_law_m","_law_base","_law_some","_law_size","_law_at","_law_out","_law_k","_law_signs"]
def LG:List Str:=["_law_cell_here","_law_many"]
def uM:Need:=⟨["_law_mixed"],[],["range"]⟩
def MD:PT :=
  (.seq (.own 9 (.comp [] ["_law_place"] (.nm 0) .rng1 (.nq (.var 5) .nr) .nop (.var 4)))
  (.seq (.six (.var 9) (.var 6) (.idx (.var 4) (.bin .Mod (.bin .Add (.bin .FloorDiv (.var 2) (.int 4200)) (.bin .Mult (.int 3) (.var 8))) (.int 20))))
  (.seq (.six (.var 9) (.bin .Mod (.bin .Add (.var 6) (.int 1)) (.var 5)) (.idx (.var 4) (.bin .Mod (.bin .Add (.bin .FloorDiv (.var 2) (.int 84000)) (.bin .FloorDiv (.var 8) (.int 20))) (.int 20))))
  (.seq (.expr (.mt .append (.var 7) (.nq (.mt .join (.str "") (.nq (.var 9) .nr)) .nr)))
  .nil))))
def HI:PT :=
  (.seq (.set 2 (.call "_law_mixed" (.nq (.var 0) (.nq (.int 3) .nr))))
  (.seq (.set 3 (.idx (.str "abcdefghijklmnpqrstvwxyz") (.bin .Mod (.var 2) (.int 24))))
  (.seq (.set 4 (.str "bcdfghjklmnpqrstvwxz"))
  (.seq (.ife (.and (.cmp .Eq (.bin .Mod (.bin .FloorDiv (.var 2) (.int 25)) (.int 3)) (.int 0)) (.cmp .Lt (.var 1) (.int 9))) (.seq (.ret (.comp [false,false,false,false,false,false,false,false,true] ["_law_k"] (.nm 0) .rng1 (.nq (.var 1) .nr) .nop (.bin .Mult (.var 4) (.bin .Sub (.var 2) (.var 0)))))
  .nil) .nil)
  (.seq (.set 5 (.bin .Add (.int 2) (.bin .Mod (.bin .FloorDiv (.var 2) (.int 75)) (.int 7))))
  (.seq (.set 6 (.bin .Mod (.bin .FloorDiv (.var 2) (.int 525)) (.var 5)))
  (.seq (.own 7 (.lst .nr))
  (.seq (.for_ (.nm 8) .rng1 (.nq (.var 1) .nr) MD)
  (.seq (.ret (.var 7))
  .nil)))))))))
theorem vS:aD uM HI CM LG (jF 19)=true:=by kernel_rfl
def KQ:List Str:=["_law_script","_law_number","_law_cell_here"]
def mI:List Str:=["_law_script"]
def MX:Need:=⟨[],[],[]⟩
def dL:PT :=
  (.seq (.set 1 (.bin .Mod (.bin .Add (.bin .Add (.bin .Mult (.var 1) (.int 1000003)) (.var 2)) (.int 1)) (.int 2147483647)))
  .nil)
def fL:PT :=
  (.seq (.set 1 (.int 0))
  (.seq (.for_ (.nm 2) .val (.nq (.var 0) .nr) dL)
  (.seq (.ret (.var 1))
  .nil)))
theorem XV:aD MX fL KQ mI (jF 20)=true:=by kernel_rfl
def dU:List Str:=["_law_script","_law_most","_law_seed","_law_m","_law_names_here","_law_edges","_law_k","_law_cell_here","_law_j","_law_n","_law_one","_law_other","_law_starts","_law_name"]
def fK:List Str:=["_law_script","_law_most"]
def oT:Need:=⟨["_law_fold","_law_mixed","_law_names"],[],["enumerate","range","len"]⟩
def RE:PT :=
  (.seq (.ife (.cmp .Eq (.bin .Mod (.bin .FloorDiv (.var 9) (.int 256)) (.idx (.lst (.nq (.int 1) (.nq (.int 2) (.nq (.int 4) .nr)))) (.bin .Mod (.bin .FloorDiv (.var 3) (.int 27)) (.int 3)))) (.int 0)) (.seq (.expr (.mt .append (.var 5) (.nq (.tup (.nq (.idx (.var 4) (.var 10)) (.nq (.idx (.var 4) (.var 11)) .nr))) .nr)))
  .nil) .nil)
  .nil)
def DI:PT :=
  (.seq (.set 9 (.call "_law_mixed" (.nq (.bin .Add (.var 2) (.var 7)) (.nq (.bin .Add (.bin .Add (.bin .Mult (.int 2) (.var 6)) (.var 8)) (.int 20)) .nr))))
  (.seq (.set 10 (.bin .Mod (.var 9) (.bi .len (.nq (.var 4) .nr))))
  (.seq (.set 11 (.bin .Mod (.bin .FloorDiv (.var 9) (.int 16)) (.bi .len (.nq (.var 4) .nr))))
  (.seq (.ife (.cmp .Gt (.bin .Mod (.bin .FloorDiv (.var 3) (.int 9)) (.int 3)) (.int 0)) (.seq (.set 11 (.bin .Mod (.bin .Add (.bin .Add (.var 10) (.int 1)) (.bin .Mod (.bin .FloorDiv (.var 9) (.int 16)) (.int 3))) (.bi .len (.nq (.var 4) .nr))))
  .nil) .nil)
  RE))))
def CI:PT :=
  (.seq (.for_ (.nm 8) .rng1 (.nq (.bin .Add (.int 1) (.bin .Mod (.bin .FloorDiv (.var 3) (.int 5000)) (.int 2))) .nr) DI)
  .nil)
def BI:PT :=
  (.seq (.ife (.cmp .Eq (.bin .Mod (.call "_law_mixed" (.nq (.var 2) (.nq (.bin .Add (.int 200) (.var 6)) .nr))) (.idx (.lst (.nq (.int 2) (.nq (.int 3) (.nq (.int 2) (.nq (.int 6) .nr))))) (.bin .Mod (.bin .FloorDiv (.var 3) (.int 81)) (.int 4)))) (.int 0)) (.seq (.expr (.mt .append (.var 12) (.nq (.var 13) .nr)))
  .nil) .nil)
  .nil)
def xH:PT :=
  (.seq (.frz [5,12] (.ret (.tup (.nq (.var 4) (.nq (.var 5) (.nq (.var 12) (.nq (.idx (.var 4) (.bin .Mod (.bin .FloorDiv (.var 3) (.int 1296)) (.bi .len (.nq (.var 4) .nr)))) .nr)))))))
  .nil)
def vO:PT :=
  (.seq (.set 2 (.call "_law_fold" (.nq (.var 0) .nr)))
  (.seq (.set 3 (.call "_law_mixed" (.nq (.var 2) (.nq (.int 1) .nr))))
  (.seq (.set 4 (.call "_law_names" (.nq (.var 2) (.nq (.bin .Add (.int 2) (.bin .Mod (.var 3) (.bin .Sub (.var 1) (.int 1)))) .nr))))
  (.seq (.own 5 (.lst .nr))
  (.seq (.for_ (.tp [6,7]) .enum (.nq (.slc (.var 0) .nop (.int 63)) .nr) CI)
  (.seq (.own 12 (.lst .nr))
  (.seq (.for_ (.tp [6,13]) .enum (.nq (.var 4) .nr) BI)
  (.seq (.ife (.cmp .Eq (.bin .Mod (.bin .FloorDiv (.var 3) (.int 324)) (.int 4)) (.int 0)) (.seq (.own 12 (.bin .Add (.var 12) (.slc (.var 12) .nop (.int 1))))
  .nil) .nil)
  xH))))))))
theorem PY:aD oT vO dU fK (jF 21)=true:=by kernel_rfl
def BM:List Str:=["_law_script","_law_names_here","_law_seed","_law_m","_law_needs_here","_law_k","_law_name","_law_n","_law_cut"]
def HG:List Str:=["_law_script","_law_names_here"]
def xM:Need:=⟨["_law_fold","_law_mixed"],[],["enumerate","len"]⟩
def LD:PT :=
  (.seq (.set 7 (.call "_law_mixed" (.nq (.var 2) (.nq (.bin .Add (.int 600) (.var 5)) .nr))))
  (.seq (.expr (.mt .append (.var 4) (.nq (.tup (.nq (.var 6) (.nq (.bin .Add (.int 1) (.idx (.lst (.nq (.int 0) (.nq (.bin .Mod (.var 7) (.int 2)) (.nq (.bin .Mod (.var 7) (.int 3)) (.nq (.bin .Mod (.var 7) (.int 5)) .nr))))) (.bin .Mod (.var 3) (.int 4)))) .nr))) .nr)))
  .nil))
def SE:PT :=
  (.seq (.ret (.var 4))
  .nil)
def FI:PT :=
  (.seq (.set 2 (.call "_law_fold" (.nq (.var 0) .nr)))
  (.seq (.set 3 (.call "_law_mixed" (.nq (.var 2) (.nq (.int 3) .nr))))
  (.seq (.own 4 (.lst .nr))
  (.seq (.for_ (.tp [5,6]) .enum (.nq (.var 1) .nr) LD)
  (.seq (.set 8 (.bin .Mod (.bin .FloorDiv (.var 3) (.int 4)) (.bi .len (.nq (.var 1) .nr))))
  (.seq (.own 4 (.bin .Add (.slc (.var 4) (.var 8) .nop) (.slc (.var 4) .nop (.var 8))))
  (.seq (.ife (.cmp .Eq (.bin .Mod (.bin .FloorDiv (.var 3) (.int 64)) (.int 2)) (.int 1)) (.seq (.expr (.mt .reverse (.var 4) .nr))
  .nil) .nil)
  SE)))))))
theorem kS:aD xM FI BM HG (jF 22)=true:=by kernel_rfl
def fU:List Str:=["_law_cuts","_law_needs_here"]
def gK:List Str:=["_law_cuts","_law_needs_here"]
def K3:Need:=⟨[],[],["all","zip","len"]⟩
def xO:PT :=
  (.seq (.ife (.cmp .NotEq (.comp [] ["_law_row"] (.nm 0) .val (.nq (.var 0) .nr) .nop (.idx (.var 0) (.int 0))) (.comp [] ["_law_need"] (.nm 0) .val (.nq (.var 1) .nr) .nop (.idx (.var 0) (.int 0)))) (.seq (.ret (.bl false))
  .nil) .nil)
  (.seq (.ret (.bi .all (.nq (.comp [] ["_law_row","_law_need"] (.tp [0,1]) .zip2 (.nq (.var 0) (.nq (.var 1) .nr)) .nop (.cmp .Lt (.bi .len (.nq (.idx (.var 0) (.int 1)) .nr)) (.idx (.var 1) (.int 1)))) .nr)))
  .nil))
theorem RY:aD K3 xO fU gK (jF 23)=true:=by kernel_rfl
def L6:List Str:=["_law_script","_law_names_here","_law_edges","_law_starts","_law_goal","_law_seers","_law_needs_here","_law_great","_law_ground","_law_cuts","_law_bare","_law_none","_law_full"]
def vR:List Str:=["_law_script"]
def v6:Need:=⟨["_law_web","_law_needs","ground_by","_law_few"],[],["sorted","set","len","list"]⟩
def C6:PT :=
  (.seq (.tset [1,2,3,4] (.call "_law_web" (.nq (.var 0) (.nq (.int 10) .nr))))
  (.seq (.set 5 (.sset (.var 3)))
  (.seq (.set 6 (.call "_law_needs" (.nq (.var 0) (.nq (.var 1) .nr))))
  (.seq (.set 7 (.comp [] ["_law_name","_law_number"] (.tp [0,1]) .val (.nq (.var 6) .nr) .nop (.tup (.nq (.var 0) (.nq (.bin .Add (.bin .Sub (.bi .len (.nq (.var 3) .nr)) (.int 1)) (.var 1)) .nr)))))
  (.seq (.tset [8,9] (.call "ground_by" (.nq (.bi .list (.nq (.var 2) .nr)) (.nq (.bi .list (.nq (.var 5) .nr)) (.nq (.var 7) .nr)))))
  (.seq (.ife (.cmp .NotEq (.bi .sorted (.nq (.var 8) .nr)) (.comp [] ["_law_name"] (.nm 0) .val (.nq (.var 5) .nr) .nop (.tup (.nq (.var 0) (.nq (.lst .nr) .nr))))) (.seq (.ret (.bl false))
  .nil) .nil)
  (.seq (.ife (.not (.call "_law_few" (.nq (.var 9) (.nq (.comp [] ["_law_need"] (.nm 0) .val (.nq (.var 7) .nr) (.cmp .NotIn (.idx (.var 0) (.int 0)) (.var 6)) (.var 0)) .nr)))) (.seq (.ret (.bl false))
  .nil) .nil)
  (.seq (.set 10 (.call "ground_by" (.nq (.lst .nr) (.nq (.bi .list (.nq (.var 5) .nr)) (.nq (.bi .list (.nq (.var 6) .nr)) .nr)))))
  (.seq (.ife (.cmp .NotEq (.bi .sorted (.nq (.idx (.var 10) (.int 0)) .nr)) (.comp [] ["_law_name"] (.nm 0) .val (.nq (.var 5) .nr) .nop (.tup (.nq (.var 0) (.nq (.lst .nr) .nr))))) (.seq (.ret (.bl false))
  .nil) .nil)
  (.seq (.ife (.not (.call "_law_few" (.nq (.idx (.var 10) (.int 1)) (.nq (.comp [] ["_law_need"] (.nm 0) .val (.nq (.var 6) .nr) (.cmp .NotIn (.idx (.var 0) (.int 0)) (.var 6)) (.var 0)) .nr)))) (.seq (.ret (.bl false))
  .nil) .nil)
  (.seq (.set 11 (.call "ground_by" (.nq (.bi .list (.nq (.var 2) .nr)) (.nq (.lst .nr) (.nq (.bi .list (.nq (.var 6) .nr)) .nr)))))
  (.seq (.ife (.or (.cmp .NotEq (.idx (.var 11) (.int 0)) (.lst .nr)) (.not (.call "_law_few" (.nq (.idx (.var 11) (.int 1)) (.nq (.var 6) .nr))))) (.seq (.ret (.bl false))
  .nil) .nil)
  (.seq (.set 12 (.call "ground_by" (.nq (.bi .list (.nq (.var 2) .nr)) (.nq (.bi .list (.nq (.var 1) .nr)) (.nq (.bi .list (.nq (.var 6) .nr)) .nr)))))
  (.seq (.ret (.and (.cmp .Eq (.bi .sorted (.nq (.idx (.var 12) (.int 0)) .nr)) (.bi .sorted (.nq (.comp [] ["_law_name"] (.nm 0) .val (.nq (.var 1) .nr) .nop (.tup (.nq (.var 0) (.nq (.lst .nr) .nr)))) .nr))) (.cmp .Eq (.idx (.var 12) (.int 1)) (.lst .nr))))
  .nil))))))))))))))
theorem ya:aD v6 C6 L6 vR (jF 24)=true:=by kernel_rfl
def MA:PSp where
 md:=[]
 run:=fun ds Q _=>∃c k:Int,ds=[.d (.int c),.d (.int k)]/\(0<=k/\k<=1000)/\∀v:Int,0<=v->Q (.d (.int v)) []
 mono:=fun h _ z=>by obtain⟨c,k,e,l,q⟩:=z;exact⟨c,k,e,l,fun v hv=>h _ _ (q v hv)⟩
theorem bD:PD MA [.d (.int c),.d (.int k)] K E=((0<=k/\k<=1000)/\∀v:Int,0<=v->K (.d (.int v)) []):=propext ⟨fun⟨_,_,e,q⟩=>by cases e;exact q,fun q=>⟨c,k,rfl,q⟩⟩
theorem pX(ds Q E)(h:MA.run ds Q E):ds.length=MG.length/\xA Ψ (fun _=>False) LI (vB MA MG.length Q) (nA DM MA.md ds):=by obtain⟨c,k,rfl,⟨h0,h1⟩,q⟩:=h;refine CA [some (.nv (.d (.int c))),some (.nv (.d (.int k))),none] rfl rfl rfl ?_;delta LI;simp?[↓zA];have a:=Qm c (show(2147483647:Int)≠0 by decide);have b:=Qg c (show(0:Int)<2147483647 by decide);have m0:0<=(c % 2147483647 * 48271+(k * k+3 * k+7) * 69621) % 2147483647:=Qm _ (by decide);have m1:(c % 2147483647 * 48271+(k * k+3 * k+7) * 69621) % 2147483647<2147483647:=Qg _ (by decide);exact⟨GL.ok (.inr ⟨by omega,by omega⟩),GL.ok (.inr ⟨by omega,by omega⟩),GL.ok (.inr ⟨by omega,by omega⟩),GL.ok (.inr ⟨by omega,by omega⟩),GL.ok (.inl ⟨by omega,by omega⟩),q _ (Qm _ (by decide))⟩
def jD:PSp where
 md:=[.ko]
 run:=fun ds Q _=>∃ns:List Int,ds=[.lst ((ns.map PyData.int).map T.d)]/\∀v:Int,Q (.d (.int v)) []
 mono:=fun h _ z=>by obtain⟨ns,e,q⟩:=z;exact⟨ns,e,fun v=>h _ _ (q v)⟩
theorem jP{ns:List Int}:PD jD [.lst ((ns.map PyData.int).map T.d)] K E=∀v:Int,K (.d (.int v)) []:=propext ⟨fun⟨ms,e,q⟩=>q,fun q=>⟨ns,rfl,q⟩⟩
theorem C2(ds Q E)(h:jD.run ds Q E):ds.length=mI.length/\xA Ψ (fun _=>False) fL (vB jD mI.length Q) (nA KQ jD.md ds):=by obtain⟨ns,rfl,q⟩:=h;refine CA [some (.nv (.lst ((ns.map PyData.int).map T.d))),none,none] rfl rfl rfl ?_;delta fL;simp?[↓zA];rw[<- VA];refine uC (fun(n:Int)=>T.d (.int n)) (fun l ρ=>∃a o,0<=a/\a<2147483647/\ρ=[some (.nv (.lst ((ns.map PyData.int).map T.d))),some (.nv (.d (.int a))),o]) ?_ ?_ _ _ ⟨0,_,by decide,by decide,by rw[VA]⟩;rintro ρ ⟨a,o,_,_,rfl⟩;simp?[↓zA];exact q a;rintro x l ρ N hN ⟨a,o,h0,h1,rfl⟩;delta dL;simp?[↓zA];exact⟨GL.ok (.inr ⟨by decide,by decide⟩),hN _ ⟨_,_,Qm _ (by decide),Qg _ (by decide),rfl⟩⟩
def N2(s:Str):Prop:=s.length<=9/\∀c∈s.cps.toList,c<128
theorem eV(xs:List (Array Nat)):∀(acc:Array Nat),(xs.foldl (·++·) acc).toList=acc.toList++(xs.map QBk).flatten:=by
 induction xs with
 |nil=>intro acc;simp
 |cons a xs ih=>intro acc;rw[WC,ih];simp
theorem kK(x:Str)(k:Int):(eG x k).cps.toList=(Qu k.toNat x.cps.toList).flatten:=by
 unfold eG Txt.mul;split;rename_i h;have:k.toNat=0:=by omega
 rw[this];rfl;rename_i h;split;rename_i h2;rw[WG]at h2;rcases h2 with h2|h2;have:k=1:=by simpa using h2
 subst this;simp;have h3:x.length=0:=by simpa using h2
 have:x.cps.toList=[]:=by
  have:x.cps.toList.length=0:=by rw[QT];exact h3
  exact qi.mp this
 rw[this];simp;show((Qu k.toNat x.cps).foldl (·++·) #[]).toList=_;rw[eV];simp
theorem N7{c:Nat}(hc:c<128)(hk:k<=9):N2 (eG ⟨#[c]⟩ k):=by
 have h:=kK ⟨#[c]⟩ k;have e:(Qu k.toNat ([c]:List Nat)).flatten=Qu k.toNat c:=by
  generalize k.toNat=n;induction n with
  |zero=>rfl
  |succ n ih=>rw[qq,we,ih,qq];rfl
 have h:(eG ⟨#[c]⟩ k).cps.toList=Qu k.toNat c:=h.trans e;refine⟨?_,fun x hx=>?_⟩;have:=congrArg qg h;rw[QT,qZ]at this;show(eG ⟨#[c]⟩ k).cps.size<=9;omega;rw[h]at hx;rw[List.eq_of_mem_replicate hx];exact hc
theorem jH:∀(ys:List Str),(QBy (Qh "") ys).cps.toList=(ys.map fun y=>y.cps.toList).flatten
 |[]=>rfl
 |[y]=>by simp[QBy]
 |y::z::r=>by have ih:=jH (z::r);show((y.cps++(Qh "").cps)++(QBy (Qh "") (z::r)).cps).toList=_;rw[QBH,QBH,ih,show(Qh "").cps.toList=[] by decide +kernel,wK];rfl
def one(y:Str):Prop:=∃c,c<128/\y=⟨#[c]⟩
theorem T3(hl:ys.length<=9)(h:∀y∈ys,one y):N2 (QAC (Qh "") ys):=by
 have e:(QAC (Qh "") ys).cps.toList=(ys.map fun y=>y.cps.toList).flatten:=by rw[show QAC (Qh "") ys=QBy (Qh "") ys from QA3 _ _];exact jH ys
 have key:∀(ys:List Str),(∀y∈ys,one y)->((ys.map fun y=>y.cps.toList).flatten).length=ys.length/\∀c∈(ys.map fun y=>y.cps.toList).flatten,c<128:=by
  intro ys;induction ys with
  |nil=>intro _;exact⟨rfl,fun c hc=>by simp at hc⟩
  |cons y r ih =>
   intro h;obtain⟨i1,i2⟩:=ih fun z hz=>h z (QG _ hz);obtain⟨c,hc,rfl⟩:=h y QE;rw[QN,we];refine⟨?_,fun x hx=>?_⟩;rw[QM,i1,QL];show 1+r.length=r.length+1;omega;rcases Qf.mp hx with hx|hx
   ·have:x=c:=by simpa using hx
    rw[this];exact hc
   exact i2 x hx
 obtain⟨k1,k2⟩:=key ys h;refine⟨?_,by rw[e];exact k2⟩;have:=congrArg qg e;rw[QT,k1]at this;show(QAC (Qh "") ys).cps.size<=9;omega
def lD:PSp where
 md:=[]
 run:=fun ds Q _=>∃c k:Int,ds=[.d (.int c),.d (.int k)]/\(2<=k/\k<=10)/\∀ns:List Str,ns.length=k.toNat->(∀s∈ns,N2 s)->ns.Nodup->Q (.lst ((ns.map PyData.str).map T.d)) []
 mono:=fun h _ z=>by obtain⟨c,k,e,l,q⟩:=z;exact⟨c,k,e,l,fun ns h1 h2 h3=>h _ _ (q ns h1 h2 h3)⟩
theorem KU(h:2<=k/\k<=10)(q:∀ns:List Str,ns.length=k.toNat->(∀s∈ns,N2 s)->ns.Nodup->K (.lst ((ns.map PyData.str).map T.d)) []):PD lD [.d (.int c),.d (.int k)] K E:=⟨c,k,rfl,h,q⟩
theorem Se:(Qh "abcdefghijklmnpqrstvwxyz").cps.toList.length=24/\((Qh "abcdefghijklmnpqrstvwxyz").cps.toList.all fun c=>decide (c<128))=true:=by decide +kernel
theorem vZ:(Qh "bcdfghjklmnpqrstvwxz").cps.toList.length=20/\((Qh "bcdfghjklmnpqrstvwxz").cps.toList.all fun c=>decide (c<128))=true:=by decide +kernel
theorem xj{K:Nat->Prop}(h0:0<=i)(h1:i<24)(k:∀c,c<128->K c):gC (kF (Qh "abcdefghijklmnpqrstvwxyz").cps.toList i) K :=
 D6 h0 (by rw[Se.1];exact h1) fun v hv=>k v (of_decide_eq_true (qF.mp Se.2 v hv))
theorem bj{K:Nat->Prop}(h0:0<=i)(h1:i<20)(k:∀c,c<128->K c):gC (kF (Qh "bcdfghjklmnpqrstvwxz").cps.toList i) K :=
 D6 h0 (by rw[vZ.1];exact h1) fun v hv=>k v (of_decide_eq_true (qF.mp vZ.2 v hv))
theorem vj{K:Nat->Prop}(h0:0<=i)(h1:i<20)(k:∀c,c<128->(Qh "bcdfghjklmnpqrstvwxz").cps.toList[i.toNat]?=some c->K c):gC (kF (Qh "bcdfghjklmnpqrstvwxz").cps.toList i) K:=by obtain⟨v,e1,e2⟩:=uO h0 (show i<((Qh "bcdfghjklmnpqrstvwxz").cps.toList.length:Int) by rw[vZ.1];exact h1);exact⟨v,e1,k v (of_decide_eq_true (qF.mp vZ.2 v (qD e2))) e2⟩
theorem Uh:(Qh "bcdfghjklmnpqrstvwxz").cps.toList.Nodup:=by decide +kernel
theorem xi{j:Int}{c:Nat}(h0:0<=i)(h1:i<20)(h2:0<=j)(a:(Qh "bcdfghjklmnpqrstvwxz").cps.toList[i.toNat]?=some c)(b:(Qh "bcdfghjklmnpqrstvwxz").cps.toList[j.toNat]?=some c):i=j:=by have:=(QAc (by rw[vZ.1];omega) Uh).mp (a.trans b.symm);omega
theorem t6:∀{ys:List Str}{n c:Nat},(∀y∈ys,one y)->ys[n]?=some ⟨#[c]⟩->((ys.map fun y=>y.cps.toList).flatten)[n]?=some c
 |[],_,_,_,h=>(nomatch h)
 |y::r,n,c,h,e=>by
  obtain⟨d,_,rfl⟩:=h y QE;show(d::(r.map fun y=>y.cps.toList).flatten)[n]?=_;cases n with
  |zero=>rw[QAh]at e ⊢;cases e;rfl
  |succ n=>rw[wo]at e ⊢;exact t6 (fun z hz=>h z (QG _ hz)) e
theorem A3{c:Nat}(h:∀y∈ys,one y)(e:ys[n]?=some ⟨#[c]⟩):(QAC (Qh "") ys).cps.toList[n]?=some c:=by rw[show QAC (Qh "") ys=QBy (Qh "") ys from QA3 _ _,jH];exact t6 h e
theorem O7{c:Nat}:((Q5 k.toNat).map fun(i:Nat)=>eG ⟨#[c]⟩ (k - (i:Int))).Nodup:=by
 refine QBe.mpr (wl (fun {a b} ha hb hab e=>?_) List.pairwise_lt_range);have l1:∀n:Int,(eG ⟨#[c]⟩ n).cps.toList.length=n.toNat:=fun n=>by rw[kK,List.length_flatten,List.map_replicate,List.sum_replicate_nat];show n.toNat * 1=_;omega
 have hb:=Wo.mp hb;have:=congrArg (fun s:Str=>s.cps.toList.length) e;simp only[l1]at this;omega
theorem f6:(Qh "bcdfghjklmnpqrstvwxz").length<=sizeLine:=by decide +kernel
theorem je:(Qh "abcdefghijklmnpqrstvwxyz").length<=sizeLine:=by decide +kernel
theorem fT(h:∀y∈ys,one y){c:Nat}(hc:c<128):∀y∈ys.set n ⟨#[c]⟩,one y:=fun y hy=>by rcases List.mem_or_eq_of_mem_set hy with z|z;exact h y z;exact⟨c,hc,z⟩
theorem KS:∀{ys:List Str},(∀y∈ys,one y)->(ys.map (·.length)).sum=ys.length
 |[],_=>rfl
 |y::r,h=>by obtain⟨c,_,rfl⟩:=h y QE;rw[QN,List.sum_cons,KS fun z hz=>h z (QG _ hz),QL];show 1+r.length=r.length+1;omega
def Cd(c k m:Int)(c1:Nat)(sz av:Int)(ns:List Str)(o8 o9:Option Sl):kA:=[some (.nv (.d (.int c))),some (.nv (.d (.int k))),some (.nv (.d (.int m))),some (.nv (.d (.str ⟨#[c1]⟩))),some (.nv (.d (.str (Qh "bcdfghjklmnpqrstvwxz")))),some (.nv (.d (.int sz))),some (.nv (.d (.int av))),some (.own (.lst ((ns.map PyData.str).map T.d))),o8,o9]
theorem y3{sz av:Int}{o8 o9:Option Sl}{i:Nat}(m0:0<=m)(hc:c1<128)(s0:2<=sz)(s1:sz<=8)(a0:0<=av)(a1:av<sz)(hl:ns.length<=9)(q:∀s o,N2 s->(∃d,(Qh "bcdfghjklmnpqrstvwxz").cps.toList[((m / 4200+3 * (i:Int)) % 20).toNat]?=some d/\s.cps.toList[av.toNat]?=some d)->Z.nx (Cd c k m c1 sz av (ns++[s]) (some (.nv (.d (.int (i:Int))))) o)) :
  xA Ψ (fun _=>False) MD Z (Cd c k m c1 sz av ns (some (.nv (.d (.int (i:Int))))) o9):=by
 have hz:sizeLine=16777216:=QV;delta Cd at q ⊢;delta MD;simp?[↓zA];refine⟨by omega,by omega,zB (fun(i:Nat)=>T.d (.int (i:Int))) (fun _=>.d (.str ⟨#[c1]⟩)) _ _ _ (fun x _ R hR=>?_) (by rw[qe,qA];omega) ?_⟩;simp?[↓zA];exact hR;rw[Qn,VA];have e0:(Q5 sz.toNat).map (fun _=>PyData.str ⟨#[c1]⟩)=((Q5 sz.toNat).map fun _=>(⟨#[c1]⟩:Str)).map PyData.str:=by rw[QY];rfl
 rw[e0];have hy:∀y∈(Q5 sz.toNat).map fun _=>(⟨#[c1]⟩:Str),one y:=fun y hy=>by obtain⟨_,_,e⟩:=QW.mp hy;exact⟨c1,hc,e.symm⟩
 have hyl:((Q5 sz.toNat).map fun _=>(⟨#[c1]⟩:Str)).length=sz.toNat:=by rw[QD,qe]
 generalize (Q5 sz.toNat).map (fun _=>(⟨#[c1]⟩:Str))=ys at hy hyl;refine⟨GL.ok (.inl ⟨by decide,by decide⟩),f6,vj (Qm _ (by decide)) (Qg _ (by decide)) fun c2 hc2 hs2=>ec a0 (by rw[QD];omega) ?_⟩;rw[<- QBp];refine⟨f6,bj (Qm _ (by decide)) (Qg _ (by decide)) fun c3 hc3=>?_⟩;refine⟨by omega,ec (Qm _ (by omega)) (by rw[QD,wA,hyl];have:=Qg (av+1) (show 0<sz by omega);omega) ?_⟩;rw[<- QBp];have hy2:=fT (fT hy (n:=av.toNat) hc2) (n:=((av+1) % sz).toNat) hc3;have hl2:((ys.set av.toNat ⟨#[c2]⟩).set ((av+1) % sz).toNat ⟨#[c3]⟩).length=sz.toNat:=by rw[wA,wA,hyl]
 have ha2:((ys.set av.toNat ⟨#[c2]⟩).set ((av+1) % sz).toNat ⟨#[c3]⟩)[av.toNat]?=some ⟨#[c2]⟩:=by
  have nb:((av+1) % sz).toNat≠av.toNat:=by by_cases d:av+1=sz;rw[d,Int.emod_self];omega;rw[Int.emod_eq_of_lt (by omega) (by omega)];omega
  rw[qN nb,qU (by omega)]
 generalize (ys.set av.toNat ⟨#[c2]⟩).set ((av+1) % sz).toNat ⟨#[c3]⟩=zs at hy2 hl2 ha2;simp?[↓zA];refine⟨zs,rfl,by rw[KS hy2,show(Qh "").length=0 by decide +kernel];omega,?_⟩;have hj:=T3 (by omega) hy2;have key:=q _ (some (.own (.lst ((zs.map PyData.str).map T.d)))) hj ⟨c2,hs2,A3 hy2 ha2⟩;refine⟨?_,?_⟩;rw[QD,QD];omega;rw[Qa,Qa]at key;exact key
def nG:PT :=
  (.seq (.set 5 (.bin .Add (.int 2) (.bin .Mod (.bin .FloorDiv (.var 2) (.int 75)) (.int 7))))
  (.seq (.set 6 (.bin .Mod (.bin .FloorDiv (.var 2) (.int 525)) (.var 5)))
  (.seq (.own 7 (.lst .nr))
  (.seq (.for_ (.nm 8) .rng1 (.nq (.var 1) .nr) MD)
  (.seq (.ret (.var 7))
  .nil)))))
def KM:PT->PT:=fun r =>
  (.seq (.set 2 (.call "_law_mixed" (.nq (.var 0) (.nq (.int 3) .nr))))
  (.seq (.set 3 (.idx (.str "abcdefghijklmnpqrstvwxyz") (.bin .Mod (.var 2) (.int 24))))
  (.seq (.set 4 (.str "bcdfghjklmnpqrstvwxz"))
  (.seq (.ife (.and (.cmp .Eq (.bin .Mod (.bin .FloorDiv (.var 2) (.int 25)) (.int 3)) (.int 0)) (.cmp .Lt (.var 1) (.int 9))) (.seq (.ret (.comp [false,false,false,false,false,false,false,false,true] ["_law_k"] (.nm 0) .rng1 (.nq (.var 1) .nr) .nop (.bin .Mult (.var 4) (.bin .Sub (.var 2) (.var 0)))))
  .nil) .nil)
  r))))
theorem LX:HI=KM nG:=rfl
theorem Y3(hm:0<=m)(k0:2<=k)(k1:k<=10)(hc:c1<128)(q:∀ns:List Str,ns.length=k.toNat->(∀s∈ns,N2 s)->ns.Nodup->Q (.lst ((ns.map PyData.str).map T.d)) []) :
  xA Ψ (fun _=>False) nG (eZ Q) [some (.nv (.d (.int c))),some (.nv (.d (.int k))),some (.nv (.d (.int m))),some (.nv (.d (.str ⟨#[c1]⟩))),some (.nv (.d (.str (Qh "bcdfghjklmnpqrstvwxz")))),none,none,none,none,none]:=by
 delta nG;simp?[↓zA];have s0:=Qm (m / 75) (show(7:Int)≠0 by decide);have s1:=Qg (m / 75) (show(0:Int)<7 by decide);have s0':2<=2+m / 75 % 7:=by omega
 have s1':2+m / 75 % 7<=8:=by omega
 generalize 2+m / 75 % 7=sz at s0' s1';have a0:=Qm (m / 525) (show sz≠0 by omega);have a1:=Qg (m / 525) (show 0<sz by omega);generalize m / 525 % sz=av at a0 a1;refine⟨by omega,Qy _,by omega,by omega,uC (fun(i:Nat)=>T.d (.int (i:Int))) (fun l ρ=>∃ns o8 o9,ns.length+l.length=k.toNat/\(∀s∈ns,N2 s)/\(∃n,l=List.range' ns.length n)/\ns.Nodup/\(∀s∈ns,∃(i:Nat) (d:Nat),i<ns.length/\(Qh "bcdfghjklmnpqrstvwxz").cps.toList[((m / 4200+3 * (i:Int)) % 20).toNat]?=some d/\s.cps.toList[av.toNat]?=some d)/\ρ=Cd c k m c1 sz av ns o8 o9) ?_ ?_ _ _ ⟨[],_,_,by rw[qe,qA,QAu],fun s hs=>(nomatch hs),⟨k.toNat,List.range_eq_range'⟩,Qw,fun s hs=>(nomatch hs),rfl⟩⟩;rintro ρ ⟨ns,o8,o9,hl,hns,_,nd,_,rfl⟩;delta Cd;simp?[↓zA];exact q ns (by rw[qA]at hl;omega) hns nd
 ·rintro i l ρ N hN ⟨ns,o8,o9,hl,hns,⟨n,hr⟩,nd,hd,rfl⟩
  obtain⟨ei,hr⟩:i=ns.length/\∃n,l=List.range' (ns.length+1) n:=by
   cases n with
   |zero=>cases hr
   |succ n=>rw[List.range'_succ]at hr;exact⟨(List.cons.inj hr).1,n,(List.cons.inj hr).2⟩
  rw[QL]at hl;refine y3 (o8:=some (.nv (.d (.int (i:Int))))) (o9:=o9) hm hc s0' s1' a0 a1 (by omega) fun s o hs hg=>hN _ ⟨ns++[s],_,_,by rw[QM,Q1];omega,fun y hy=>by rcases Qf.mp hy with hy|hy;exact hns y hy;rw[QI.mp hy];exact hs,by rw[QM];exact hr,?nd,?hd,rfl⟩
  case nd=>obtain⟨d,g1,g2⟩:=hg;refine qb.mpr ⟨nd,Qk.mpr ⟨Ql,Qw⟩,fun x hx y hy e=>?_⟩;rw[QI.mp hy]at e;obtain⟨j,d',h1,h2,h3⟩:=hd x hx;rw[e,g2]at h3;cases h3;have:=xi (Qm _ (by decide)) (Qg _ (by decide)) (Qm _ (by decide)) g1 h2;omega
  case hd=>intro x hx;rw[QM,Q1];rcases Qf.mp hx with hx|hx;obtain⟨j,d',h1,h2,h3⟩:=hd x hx;exact⟨j,d',by omega,h2,h3⟩;obtain⟨d,g1,g2⟩:=hg;rw[QI.mp hx];exact⟨i,d,by omega,g1,g2⟩
theorem oX(h1:Ψ.sp "_law_mixed"=MA)(ds Q E)(h:lD.run ds Q E):ds.length=LG.length/\xA Ψ (fun _=>False) HI (vB lD LG.length Q) (nA CM lD.md ds):=by
 obtain⟨c,k,rfl,⟨k0,k1⟩,q⟩:=h;refine CA [some (.nv (.d (.int c))),some (.nv (.d (.int k))),none,none,none,none,none,none,none,none] rfl rfl rfl ?_;rw[LX];have hr:∀(m:Int) (c1:Nat),0<=m->c1<128->_:=fun m c1 hm hc=>Y3 (Ψ:=Ψ) (c:=c) (m:=m) (c1:=c1) hm k0 k1 hc q;generalize nG=r at hr;delta KM;simp?[↓lA (md:=[]) h1 rfl rfl,↓bD];refine fun m hm=>⟨je,xj (Qm _ (by decide)) (Qg _ (by decide)) fun c1 hc=>?_⟩
 have hr:=hr m c1 hm hc;split;split
 ·rename_i h9
  have h9:=of_decide_eq_true h9;have hz:sizeLine=16777216:=QV;refine⟨by omega,by omega,zB (fun(i:Nat)=>T.d (.int (i:Int))) (fun i=>.d (.str (eG ⟨#[c1]⟩ (k - (i:Int))))) _ _ _ (fun x hx R hR=>?_) (by rw[qe,qA];omega) ?_⟩;simp?[↓zA];have hx:=Wo.mp hx;refine⟨by omega,by omega,?_,hR⟩;show 1 * (k - (x:Int)).toNat<=sizeLine;omega;rw[Qn,VA];have:=q ((Q5 k.toNat).map fun(i:Nat)=>eG ⟨#[c1]⟩ (k - (i:Int))) (by rw[QD,qe]) fun s hs=>by obtain⟨i,_,rfl⟩:=QW.mp hs;exact N7 hc (by omega)
  have this:=this O7;rw[show((Q5 k.toNat).map fun(i:Nat)=>eG ⟨#[c1]⟩ (k - (i:Int))).map PyData.str=(Q5 k.toNat).map fun(i:Nat)=>PyData.str (eG ⟨#[c1]⟩ (k - (i:Int))) by rw[QY];rfl]at this;exact this
 exact hr;exact hr
def pr(p:Str×Str):D:=.tuple [.str p.1,.str p.2]
def nU(sc sd m:Sl)(ns:List Str)(es:LB)(o6 o7 o8 o9 o10 o11 o12 o13:Option Sl):kA:=[some sc,some (.nv (.d (.int 10))),some sd,some m,some (.nv (.d (.list (ns.map PyData.str)))),some (.own (.lst ((es.map pr).map T.d))),o6,o7,o8,o9,o10,o11,o12,o13]
theorem Ga{K:D->Prop}(h0:0<=i)(h1:i<ns.length)(k:∀s∈ns,K (.str s)):gC (kF (ns.map PyData.str) i) K :=
 gS h0 (by rw[QD];exact h1) fun v hv=>by obtain⟨s,hs,rfl⟩:=QW.mp hv;exact k s hs
theorem Re{l:List Int}{K:D->Prop}(h0:0<=i)(h1:i<l.length)(hp:∀s∈l,0<s)(k:∀s,0<s->K (.int s)):gC (kF (l.map PyData.int) i) K :=
 gS h0 (by rw[QD];exact h1) fun v hv=>by obtain⟨s,hs,rfl⟩:=QW.mp hv;exact k s (hp s hs)
theorem j7{sd:Sl}{n a b:Int}(hl:es.length<=200)(a0:0<=a)(a1:a<ns.length)(b0:0<=b)(b1:b<ns.length)
  (q:∀es',es'.length<=es.length+1->(∀p∈es',p∈es∨p.1∈ns/\p.2∈ns)->Z.nx (nU sc sd (.nv (.d (.int m))) ns es' o6 o7 o8 (some (.nv (.d (.int n)))) (some (.nv (.d (.int a)))) (some (.nv (.d (.int b)))) o12 o13)) :
  xA Ψ (fun _=>False) RE Z (nU sc sd (.nv (.d (.int m))) ns es o6 o7 o8 (some (.nv (.d (.int n)))) (some (.nv (.d (.int a)))) (some (.nv (.d (.int b)))) o12 o13):=by
 have hz:sizeLine=16777216:=QV;delta nU at q ⊢;delta RE;simp?[↓zA];refine⟨by omega,Re (l:=[1,2,4]) (Qm _ (by decide)) (Qg _ (by decide)) (by decide) fun d hd=>?_⟩;simp?[↓zA];refine⟨hd,?_⟩;split;refine Ga a0 a1 fun x hx=>Ga b0 b1 fun y hy=>?_;refine⟨by omega,?_,?_⟩;rw[QD,QD];omega;have:=q (es++[(x,y)]) (by rw[QM];exact QS _) fun p hp=>by rcases Qf.mp hp with hp|hp;exact .inl hp;rw[QI.mp hp];exact .inr ⟨hx,hy⟩
 rw[Qa,Qa]at this;exact this;exact q es (wU _) fun p hp=>.inl hp
theorem Ob(h1:Ψ.sp "_law_mixed"=MA){i j:Nat}(hl:es.length<=200)(hn:0<ns.length)(hi:i<63)(hj:j<2)
  (q:∀es' o9 o10 o11,es'.length<=es.length+1->(∀p∈es',p∈es∨p.1∈ns/\p.2∈ns)->Z.nx (nU sc (.nv (.d (.int s))) (.nv (.d (.int m))) ns es' (some (.nv (.d (.int (i:Int))))) (some (.nv (.d (.int c)))) (some (.nv (.d (.int (j:Int))))) o9 o10 o11 o12 o13)) :
  xA Ψ (fun _=>False) DI Z (nU sc (.nv (.d (.int s))) (.nv (.d (.int m))) ns es (some (.nv (.d (.int (i:Int))))) (some (.nv (.d (.int c)))) (some (.nv (.d (.int (j:Int))))) o9 o10 o11 o12 o13):=by
 have hz:sizeLine=16777216:=QV;have hr:∀n a b:Int,0<=a->a<ns.length->0<=b->b<ns.length->xA Ψ (fun _=>False) RE Z (nU sc (.nv (.d (.int s))) (.nv (.d (.int m))) ns es (some (.nv (.d (.int (i:Int))))) (some (.nv (.d (.int c)))) (some (.nv (.d (.int (j:Int))))) (some (.nv (.d (.int n)))) (some (.nv (.d (.int a)))) (some (.nv (.d (.int b)))) o12 o13):=fun n a b a0 a1 b0 b1=>j7 hl a0 a1 b0 b1 fun es' e1 e2=>q es' _ _ _ e1 e2;have hn':(0:Int)<ns.length:=by omega
 delta nU at hr ⊢;delta DI;simp?[↓lA (md:=[]) h1 rfl rfl];refine⟨GL.ok (.inl ⟨by decide,by decide⟩),QCB bD ⟨⟨by omega,by omega⟩,fun n hn0=>?_⟩⟩;simp?[QD];refine⟨hn',hn',?_⟩;split;exact⟨hn',hr _ _ _ (Qm _ (by omega)) (Qg _ hn') (Qm _ (by omega)) (Qg _ hn')⟩;exact hr _ _ _ (Qm _ (by omega)) (Qg _ hn') (Qm _ (by omega)) (Qg _ hn')
theorem Nb(h1:Ψ.sp "_law_mixed"=MA){i:Nat}(hl:es.length<=126)(hn:0<ns.length)(hi:i<63)
  (q:∀es' o8 o9 o10 o11,es'.length<=es.length+2->(∀p∈es',p∈es∨p.1∈ns/\p.2∈ns)->Z.nx (nU sc (.nv (.d (.int s))) (.nv (.d (.int m))) ns es' (some (.nv (.d (.int (i:Int))))) (some (.nv (.d (.int c)))) o8 o9 o10 o11 o12 o13)) :
  xA Ψ (fun _=>False) CI Z (nU sc (.nv (.d (.int s))) (.nv (.d (.int m))) ns es (some (.nv (.d (.int (i:Int))))) (some (.nv (.d (.int c)))) o8 o9 o10 o11 o12 o13):=by
 have hz:sizeLine=16777216:=QV;delta nU;delta CI;simp?[↓zA];have t0:=Qm (m / 5000) (show(2:Int)≠0 by decide);have t1:=Qg (m / 5000) (show(0:Int)<2 by decide);generalize m / 5000 % 2=t at t0 t1;refine⟨by omega,by omega,uC (fun(j:Nat)=>T.d (.int (j:Int))) (fun l ρ=>∃es' o8 o9 o10 o11,(∀j∈l,j<2)/\es'.length+l.length<=es.length+2/\(∀p∈es',p∈es∨p.1∈ns/\p.2∈ns)/\ρ=nU sc (.nv (.d (.int s))) (.nv (.d (.int m))) ns es' (some (.nv (.d (.int (i:Int))))) (some (.nv (.d (.int c)))) o8 o9 o10 o11 o12 o13) ?_ ?_ _ _ ⟨es,_,_,_,_,fun j hj=>by have:=Wo.mp hj;omega,by rw[qe];omega,fun p hp=>.inl hp,rfl⟩⟩;rintro ρ ⟨es',p8,p9,p10,p11,_,e1,e2,rfl⟩;exact q es' _ p9 p10 p11 (by rw[qA]at e1;omega) e2;rintro j l ρ N hN ⟨es',p8,p9,p10,p11,e0,e1,e2,rfl⟩;rw[QL]at e1;exact Ob (j:=j) (o9:=p9) (o10:=p10) (o11:=p11) h1 (by omega) hn hi (e0 j QE) fun es2 r9 r10 r11 f1 f2=>hN _ ⟨es2,_,r9,r10,r11,fun k hk=>e0 k (QG _ hk),by omega,fun p hp=>by rcases f2 p hp with z|z;exact e2 p z;exact .inr z,rfl⟩
def VZ(sc:Sl)(s m:Int)(ns:List Str)(es:LB)(st:List Str)(o6 o7 o8 o9 o10 o11 o13:Option Sl):kA:=[some sc,some (.nv (.d (.int 10))),some (.nv (.d (.int s))),some (.nv (.d (.int m))),some (.nv (.d (.list (ns.map PyData.str)))),some (.own (.lst ((es.map pr).map T.d))),o6,o7,o8,o9,o10,o11,some (.own (.lst ((st.map PyData.str).map T.d))),o13]
theorem Mb(h1:Ψ.sp "_law_mixed"=MA){i:Nat}{x:Str}(hl:st.length<=10)(hi:i<10)
  (q0:Z.nx (VZ sc s m ns es st (some (.nv (.d (.int (i:Int))))) o7 o8 o9 o10 o11 (some (.nv (.d (.str x))))))
  (q1:Z.nx (VZ sc s m ns es (st++[x]) (some (.nv (.d (.int (i:Int))))) o7 o8 o9 o10 o11 (some (.nv (.d (.str x)))))) :
  xA Ψ (fun _=>False) BI Z (VZ sc s m ns es st (some (.nv (.d (.int (i:Int))))) o7 o8 o9 o10 o11 (some (.nv (.d (.str x))))):=by
 have hz:sizeLine=16777216:=QV;delta VZ at q0 q1 ⊢;delta BI;simp?[↓lA (md:=[]) h1 rfl rfl];refine QCB bD ⟨⟨by omega,by omega⟩,fun n hn0=>?_⟩;simp?[↓zA];refine⟨by omega,Re (l:=[2,3,2,6]) (Qm _ (by decide)) (Qg _ (by decide)) (by decide) fun d hd=>?_⟩;simp?[↓zA];refine⟨hd,?_⟩;split;refine⟨by rw[QD,QD];omega,?_⟩;rw[Qa,Qa]at q1;exact q1;exact q0
def uZ(ns:List Str)(es:LB)(st:List Str)(g:Str):Prop:=ns.length<=10/\(∀s∈ns,N2 s)/\es.length<=126/\(∀p∈es,p.1∈ns/\p.2∈ns)/\st.length<=11/\(∀s∈st,s∈ns)/\g∈ns
def v7(ns:List Str)(es:LB)(st:List Str)(g:Str):D:=.tuple [.list (ns.map PyData.str),.list (es.map pr),.list (st.map PyData.str),.str g]
theorem E6(hn:0<ns.length)(q:∀g∈ns,Q (.d (v7 ns es st g)) []) :
  xA Ψ (fun _=>False) xH (eZ Q) (VZ sc s m ns es st o6 o7 o8 o9 o10 o11 o13):=by
 have hz:sizeLine=16777216:=QV;have hn':(0:Int)<ns.length:=by omega
 delta VZ;delta xH;simp?[QD];have e1:(T.lst ((es.map pr).map T.d)).er=.list (es.map pr):=by show PyData.list (ersT ((es.map pr).map T.d))=_;rw[KA]
 have e2:(T.lst ((st.map PyData.str).map T.d)).er=.list (st.map PyData.str):=by show PyData.list (ersT ((st.map PyData.str).map T.d))=_;rw[KA]
 rw[e1,e2];exact⟨hn',Ga (Qm _ (by omega)) (Qg _ hn') fun g hg=>⟨by omega,q g hg⟩⟩
theorem TN{α:Type}(l:List α)(k:Nat):(UD l none (some (k:Int))).length<=k:=by
 unfold UD;rw[WQ];have:HT.sIx l.length l.length (some (k:Int))<=k:=by unfold HT.sIx;simp only;split<;>omega
 omega
theorem B4{α:Type}{l:List α}{a b:Option Int}{x:α}(h:x∈UD l a b):x∈l:=List.mem_of_mem_drop (List.mem_of_mem_take h)
theorem SN{α β:Type}(f:α->β)(l:List α)(a b:Option Int):UD (l.map f) a b=(UD l a b).map f:=by unfold UD;rw[QD,List.map_take,List.map_drop]
theorem FQ{α:Type}{l:List α}{p:α×Nat}(h:p∈l.zipIdx):p.2<l.length/\p.1∈l:=by have h:=List.mem_zipIdx_iff_getElem?.mp h;exact⟨(Qi.mp h).1,qD h⟩
def gF:PSp where
 md:=[.ko]
 run:=fun ds Q _=>∃cs:List Int,ds=[.lst ((cs.map PyData.int).map T.d),.d (.int 10)]/\∀ns es st g,uZ ns es st g->ns.Nodup->Q (.d (v7 ns es st g)) []
 mono:=fun h _ z=>by obtain⟨cs,e,q⟩:=z;exact⟨cs,e,fun ns es st g w n=>h _ _ (q ns es st g w n)⟩
theorem y0{cs:List Int}(q:∀ns es st g,uZ ns es st g->ns.Nodup->K (.d (v7 ns es st g)) []):PD gF [.lst ((cs.map PyData.int).map T.d),.d (.int 10)] K E:=⟨cs,rfl,q⟩
theorem D8(h0:Ψ.sp "_law_fold"=jD)(h1:Ψ.sp "_law_mixed"=MA)(h2:Ψ.sp "_law_names"=lD)(ds Q E)(h:gF.run ds Q E):ds.length=fK.length/\xA Ψ (fun _=>False) vO (vB gF fK.length Q) (nA dU gF.md ds):=by
 obtain⟨cs,rfl,q⟩:=h;have hz:sizeLine=16777216:=QV;refine CA [some (.nv (.lst ((cs.map PyData.int).map T.d))),some (.nv (.d (.int 10))),none,none,none,none,none,none,none,none,none,none,none,none] rfl rfl rfl ?_;delta vO;simp?[↓lA (md:=[.ko]) h0 rfl rfl,↓lA (md:=[]) h1 rfl rfl,↓lA (md:=[]) h2 rfl rfl];refine QCB jP fun v=>?_;simp?[↓lA (md:=[]) h1 rfl rfl,↓lA (md:=[]) h2 rfl rfl];refine QCB bD ⟨⟨by decide,by decide⟩,fun m hm=>?_⟩;simp?[↓lA (md:=[]) h2 rfl rfl];have k0:=Qm m (show(10 - 1:Int)≠0 by decide);have k1:=Qg m (show(0:Int)<10 - 1 by decide);refine⟨by decide,KU ⟨by omega,by omega⟩ fun ns hnl hns hnd=>?_⟩;have hn9:ns.length<=10:=by omega
 have hn0:0<ns.length:=by omega
 simp?[↓zA];rw[SN];refine⟨Qy _,uC (fun(p:D×Nat)=>T.d (.tuple [.int (p.2:Int),p.1])) (fun l ρ=>∃es o6 o7 o8 o9 o10 o11,(∀p∈l,p.2<63/\∃c,p.1=.int c)/\es.length+2 * l.length<=126/\(∀p∈es,p.1∈ns/\p.2∈ns)/\ρ=nU (.nv (.lst ((cs.map PyData.int).map T.d))) (.nv (.d (.int v))) (.nv (.d (.int m))) ns es o6 o7 o8 o9 o10 o11 none none) ?_ ?_ _ _ ⟨[],_,_,_,_,_,_,fun p hp=>?_,?_,fun p hp=>(nomatch hp),rfl⟩⟩;rintro ρ ⟨es,o6,o7,o8,o9,o10,o11,_,el,es2,rfl⟩;delta nU;simp?[↓zA];refine⟨Qy _,uC (fun(p:D×Nat)=>T.d (.tuple [.int (p.2:Int),p.1])) (fun l ρ=>∃st o6 o13,(∀p∈l,p.2<10/\∃x∈ns,p.1=.str x)/\st.length+l.length<=10/\(∀s∈st,s∈ns)/\ρ=VZ (.nv (.lst ((cs.map PyData.int).map T.d))) v m ns es st o6 (ZG o7) o8 o9 o10 o11 o13) ?_ ?_ _ _ ⟨[],_,_,fun p hp=>?_,?_,fun p hp=>(nomatch hp),rfl⟩⟩;rintro ρ ⟨st,p6,p13,_,sl,ss,rfl⟩;rw[qA]at sl;have hr:=fun(st:List Str) (s1:st.length<=11) (s2:∀s∈st,s∈ns)=>E6 (Ψ:=Ψ) (sc:=.nv (.lst ((cs.map PyData.int).map T.d))) (s:=v) (m:=m) (es:=es) (st:=st) (o6:=ZG p6) (o7:=ZG o7) (o8:=o8) (o9:=o9) (o10:=o10) (o11:=o11) (o13:=ZG p13) hn0 fun g hg=>q ns es st g ⟨hn9,hns,by rw[qA]at el;omega,es2,s1,s2,hg⟩ hnd;unfold VZ at hr;delta VZ;simp?[↓zA];split;rw[SN];have c1:=TN st 1;refine⟨by rw[QD,QD];show st.length+(UD st none (some ((1:Nat):Int))).length<=_;omega,?_⟩;have:=hr (st++UD st none (some 1)) (by rw[QM];show st.length+(UD st none (some ((1:Nat):Int))).length<=_;omega) fun s hs=>by rcases Qf.mp hs with h|h;exact ss s h;exact ss s (B4 h)
 rw[Qa]at this;exact this;exact hr st (by omega) ss;rintro⟨x,i⟩ l ρ N hN ⟨st,p6,p13,e0,sl,ss,rfl⟩;obtain⟨hi,y,hy,e⟩:=e0 _ QE;have e:x=.str y:=e;subst e;rw[QL]at sl;refine gC.mk rfl ?_;exact Mb (i:=i) (x:=y) h1 (by omega) hi (hN _ ⟨st,_,_,fun p hp=>e0 p (QG _ hp),by omega,ss,rfl⟩) (hN _ ⟨st++[y],_,_,fun p hp=>e0 p (QG _ hp),by rw[QM,Q1];omega,fun s hs=>by rcases Qf.mp hs with h|h;exact ss s h;rw[QI.mp h];exact hy,rfl⟩);obtain⟨z1,z2⟩:=FQ hp;rw[QD]at z1;obtain⟨x,hx,e⟩:=QW.mp z2;exact⟨by omega,x,hx,e.symm⟩;rw[QBW,QD,qA];omega;rintro⟨x,i⟩ l ρ N hN ⟨es,p6,p7,p8,p9,p10,p11,e0,el,es2,rfl⟩;obtain⟨hi,c,e⟩:=e0 _ QE;have e:x=.int c:=e;subst e;rw[QL]at el;refine gC.mk rfl ?_;exact Nb (i:=i) (c:=c) (o8:=p8) (o9:=p9) (o10:=p10) (o11:=p11) h1 (by omega) hn0 hi fun es' r8 r9 r10 r11 f1 f2=>hN _ ⟨es',_,_,r8,r9,r10,r11,fun p hp=>e0 p (QG _ hp),by omega,fun p hp=>by rcases f2 p hp with z|z;exact es2 p z;exact z,rfl⟩;obtain⟨z1,z2⟩:=FQ hp;have c1:=TN cs 63;rw[QD]at z1;obtain⟨x,hx,e⟩:=QW.mp z2;exact⟨Qo z1 c1,x,e.symm⟩;have c1:=TN cs 63;rw[QBW,QD,qA];have c1:(UD cs none (some 63)).length<=63:=c1;omega
theorem ON(a b:Str):Q6 (.str a) (.str b)=decide (a=b):=by rw[qz,decide_eq_true_iff];simp[Q6]
theorem oG(l:List Str)(z:Str):((l.map PyData.str).any fun y=>Q6 y (.str z))=decide (z∈l):=by rw[List.any_map,qz,List.any_eq_true,decide_eq_true_iff];constructor;rintro⟨x,hx,e⟩;have e:Q6 (.str x) (.str z)=true:=e;rw[ON,decide_eq_true_iff]at e;exact e▸hx;intro h;exact⟨z,h,by show Q6 (.str z) (.str z)=true;rw[ON];exact dT rfl⟩
theorem gE(l:List Str):(l.map PyData.str).all eB=true:=by rw[QBn,qF];exact fun _ _=>rfl
def i4(g:Str)(cut:List Str)(s:Str):Bool:=!decide (s=g)&&!decide (s∈cut)
inductive Led(es:LB)(st:List Str)(g:Str)(cut:List Str):Str->Prop
 |st {s:Str}:s∈st->i4 g cut s=true->Led es st g cut s
 |ed {a b:Str}:Led es st g cut a->(a,b)∈es->i4 g cut b=true->Led es st g cut b
theorem tI:∀{ks ns:List Str},ks.Nodup->(∀s∈ks,s∈ns)->ks.length<=ns.length
 |[],_,_,_=>Qy _
 |s::r,ns,h,hs=>by obtain⟨h1,h2⟩:=Qk.mp h;have hm:=hs s QE;have:=tI (ks:=r) (ns:=ns.erase s) h2 fun x hx=>(QA6 (fun(e:x=s)=>h1 (e▸hx))).mpr (hs x (QG _ hx));rw[QAe hm]at this;have hp:=Wi hm;rw[QL];omega
noncomputable abbrev Pt:=Str×Str
theorem bN(h:pr p=pr q):p=q:=by obtain⟨a,b⟩:=p;obtain⟨c,d⟩:=q;injection h with h;injection h with h1 h;injection h with h2 _;injection h1 with h1;injection h2 with h2;exact QCC h1 h2
theorem iY{x k:D}{r:List D}(h:x≠k):fA (x::r) k=(fA r k).map (·+1):=by unfold fA;rw[if_neg h];cases r<;>rfl
theorem e6{x k:D}{r:List D}(h:x=k):fA (x::r) k=some 0:=by unfold fA;rw[if_pos h]
def look{α:Type}:List (Pt×α)->Pt->Option α
 |[],_=>none
 |e::l,p=>if e.1=p then some e.2 else look l p
def put{α:Type}:List (Pt×α)->Pt->α->List (Pt×α)
 |[],p,v=>[(p,v)]
 |e::l,p,v=>if e.1=p then(e.1,v)::l else e::put l p v
def FC{α:Type}(l:List (Pt×α)):List D:=l.map fun e=>pr e.1
theorem KI{α:Type}{p:Pt}:∀{l:List (Pt×α)},look l p=none->fA (FC l) (pr p)=none/\∀w,put l p w=l++[(p,w)]
 |[],_=>⟨rfl,fun _=>rfl⟩
 |e::l,h=>by unfold look at h;by_cases c:e.1=p;rw[if_pos c]at h;cases h;rw[if_neg c]at h;obtain⟨i1,i2⟩:=KI h;refine⟨?_,fun w=>?_⟩;show fA (pr e.1::FC l) (pr p)=none;rw[iY (fun z=>c (bN z)),i1];rfl;show(if e.1=p then(e.1,w)::l else e::put l p w)=_;rw[if_neg c,i2];rfl
theorem nC{α:Type}{p:Pt}{v:α}(f:α->T):∀{l:List (Pt×α)},look l p=some v->∃n,fA (FC l) (pr p)=some n/\(l.map fun e=>f e.2)[n]?=some (f v)/\∀w,FC (put l p w)=FC l/\(l.map fun e=>f e.2).set n (f w)=(put l p w).map fun e=>f e.2
 |[],h=>by cases h
 |e::l,h=>by unfold look at h;by_cases c:e.1=p;rw[if_pos c]at h;injection h with h;refine⟨0,?_,?_,fun w=>?_⟩;exact e6 (congrArg pr c);show some (f e.2)=_;rw[h];have:put (e::l) p w=(e.1,w)::l:=if_pos c;rw[this];exact⟨rfl,rfl⟩;rw[if_neg c]at h;obtain⟨n,i1,i2,i3⟩:=nC f h;refine⟨n+1,?_,i2,fun w=>?_⟩;show fA (pr e.1::FC l) (pr p)=some (n+1);rw[iY (fun z=>c (bN z)),i1];rfl;have:put (e::l) p w=e::put l p w:=if_neg c;rw[this];obtain⟨j1,j2⟩:=i3 w;refine⟨?_,?_⟩;show pr e.1::FC (put l p w)=pr e.1::FC l;rw[j1];show f e.2::(l.map fun e=>f e.2).set n (f w)=f e.2::(put l p w).map fun e=>f e.2;rw[j2]
theorem pD{α:Type}{p q:Pt}{w:α}:∀{l:List (Pt×α)},look (put l p w) q=if p=q then some w else look l q
 |[]=>rfl
 |e::l=>by
  by_cases c:e.1=p;have h1:put (e::l) p w=(e.1,w)::l:=if_pos c;rw[h1];show(if e.1=q then some w else look l q)=if p=q then some w else(if e.1=q then some e.2 else look l q)
  rw[c];split<;>rfl;have h1:put (e::l) p w=e::put l p w:=if_neg c;rw[h1];show(if e.1=q then some e.2 else look (put l p w) q)=if p=q then some w else(if e.1=q then some e.2 else look l q)
  rw[pD];by_cases d:e.1=q;rw[if_pos d,if_pos d,if_neg (fun z=>c (d.trans z.symm))];rw[if_neg d,if_neg d]
theorem jT{α:Type}{p:Pt}{w:α}:∀{l:List (Pt×α)},(put l p w).length<=l.length+1
 |[]=>QS _
 |e::l=>by by_cases c:e.1=p;rw[show put (e::l) p w=(e.1,w)::l from if_pos c,QL,QL];omega;have:=jT (p:=p) (w:=w) (l:=l);rw[show put (e::l) p w=e::put l p w from if_neg c,QL,QL];omega
theorem mC(p:Pt):vF true (pr p):=⟨[.inr p.1,.inr p.2],rfl⟩
noncomputable abbrev Inn:=List (Pt×Int)
noncomputable abbrev Rm:=List (Pt×Inn)
def rD(l:Inn):T:=.dct true (FC l) (l.map fun e=>T.d (.int e.2))
def JA(r:Rm):T:=.dct true (FC r) (r.map fun e=>rD e.2)
def sdf(r:Rm)(p:Pt):Rm:=match look r p with
 |some _=>r
 |none=>r++[(p,[])]
theorem MS{Q:T->Prop}(hl:r.length<sizeLine)(q:Q (JA (sdf r p))):Uc (.d (pr p)) (JA r) Q:=by
 refine⟨FC r,_,rfl,mC p,by unfold FC;rw[QD];exact hl,?_⟩;unfold sdf at q;cases h:look r p with
 |some v=>rw[h]at q;obtain⟨n,i1,_⟩:=nC rD h;exact .inl ⟨n,i1,q⟩
 |none =>
  rw[h]at q;refine .inr ⟨(KI h).1,?_⟩;have e:JA (r++[(p,[])])=.dct true (FC r++[pr p]) ((r.map fun e=>rD e.2)++[.dct true [] []]):=by unfold JA FC;rw[Qa,Qa];rfl
  show Q (T.dct true (FC r++[pr p]) ((r.map fun e=>rD e.2)++[.dct true [] []]));rw[<- e];exact q
theorem RM{Q:T->Prop}(hl:l.length<sizeLine)(q:Q (rD (put l p v))):Jc (rD l) (.d (pr p)) (.d (.int v)) Q:=by
 refine⟨mC p,by unfold FC;rw[QD];exact hl,?_⟩;have e:kR true (FC l) (l.map fun e=>T.d (.int e.2)) (pr p) (.d (.int v))=rD (put l p v):=by
  unfold kR;cases h:look l p with
  |none=>obtain⟨i1,i2⟩:=KI h;rw[i1,i2];unfold rD FC;rw[Qa,Qa];rfl
  |some u=>obtain⟨n,i1,i2,i3⟩:=nC (fun i:Int=>T.d (.int i)) h;rw[i1];obtain⟨j1,j2⟩:=i3 v;show T.dct true (FC l) ((l.map fun e=>T.d (.int e.2)).set n (T.d (.int v)))=_;unfold rD;rw[j1,j2]
 show Q (kR true (FC l) (l.map fun e=>T.d (.int e.2)) (pr p) (.d (.int v)));rw[e];exact q
theorem mH{Q:T->(T->T)->Prop}(h:look r p=some l)(q:∀f:T->T,(∀l',f (rD l')=JA (put r p l'))->Q (rD l) f):gc (.d (pr p)) (JA r) Q:=by obtain⟨n,i1,i2,i3⟩:=nC rD h;refine⟨true,FC r,_,n,rD l,rfl,mC p,i1,i2,q _ fun l'=>?_⟩;obtain⟨j1,j2⟩:=i3 l';show T.dct true (FC r) ((r.map fun e=>rD e.2).set n (rD l'))=_;unfold JA;rw[j1,j2]
def eA:Pt:=("","begin")
def tO(n:Str):Pt:=(n,"to")
def fR(n:Str):Pt:=(n,"from")
theorem bh:("begin":Str)≠"to":=by decide +kernel
theorem dh:("begin":Str)≠"from":=by decide +kernel
theorem xh:("to":Str)≠"from":=by decide +kernel
theorem DB:eA≠tO a:=fun h=>bh (congrArg Wp h)
theorem pE:eA≠fR a:=fun h=>dh (congrArg Wp h)
theorem BA:tO a≠fR b:=fun h=>xh (congrArg Wp h)
theorem ZB(h:tO a=tO b):a=b:=congrArg qE h
theorem yH(h:fR a=fR b):a=b:=congrArg qE h
def OV(p q:Pt):Prop:=(p=eA/\∃n,q=tO n)∨(∃n,p=tO n/\q=fR n)∨(∃a b,a≠b/\p=fR a/\q=tO b)
theorem GE(h:OV p q):¬ OV q p:=by
 rintro k;rcases h with⟨rfl,n,rfl⟩| ⟨n,rfl,rfl⟩| ⟨a,b,ab,rfl,rfl⟩<;>rcases k with⟨e1,m,e2⟩| ⟨m,e1,e2⟩| ⟨c,d,cd,e1,e2⟩
 exact DB e1.symm;exact pE e2;exact BA e1;exact pE e1.symm;exact BA e1.symm;exact cd ((yH e1).symm.trans (ZB e2));exact DB e1.symm;exact ab ((yH e2).trans (ZB e1).symm);exact BA e1
theorem KF(h:OV p q):p≠q:=fun e=>GE h (by rw[e]at h ⊢;exact h)
noncomputable abbrev Wy:=Pt×Pt×Int
def lk(r:Rm)(p:Pt):Inn:=(look r p).getD []
def lB(r:Rm)(w:Wy):Rm:=put (put (sdf (sdf r w.1) w.2.1) w.1 (put (lk (sdf (sdf r w.1) w.2.1) w.1) w.2.1 w.2.2)) w.2.1 (put (lk (put (sdf (sdf r w.1) w.2.1) w.1 (put (lk (sdf (sdf r w.1) w.2.1) w.1) w.2.1 w.2.2)) w.2.1) w.1 0)
theorem iP{α:Type}{p q:Pt}{v:α}:∀{l:List (Pt×α)},look (l++[(p,v)]) q=(look l q).or (if p=q then some v else none)
 |[]=>rfl
 |e::l=>by show(if e.1=q then some e.2 else look (l++[(p,v)]) q)=(if e.1=q then some e.2 else look l q).or (if p=q then some v else none);by_cases c:e.1=q;rw[if_pos c,if_pos c];rfl;rw[if_neg c,if_neg c];exact iP
theorem eP:look (sdf r p) q=(look r q).or (if p=q then some [] else none):=by
 unfold sdf;cases h:look r p with
 |some v =>
  show look r q=_;cases h2:look r q with
  |some x=>rfl
  |none =>
   show none=if p=q then some [] else none
   rw[if_neg];intro e;rw[e,h2]at h;cases h
 |none=>show look (r++[(p,[])]) q=_;exact iP
theorem EM:(sdf r p).length<=r.length+1:=by unfold sdf;split;omega;rw[QM,Q1];omega
theorem rH{α:Type}{p:Pt}{w:α}{e:Pt×α}:∀{l:List (Pt×α)},e∈put l p w->e=(p,w)∨e∈l
 |[],h=>.inl (QI.mp h)
 |x::l,h=>by by_cases c:x.1=p;rw[show put (x::l) p w=(x.1,w)::l from if_pos c]at h;rcases QK.mp h with h|h;exact .inl (by rw[h,c]);exact .inr (QG _ h);rw[show put (x::l) p w=x::put l p w from if_neg c]at h;rcases QK.mp h with h|h;exact .inr (by rw[h];exact QE);exact(rH h).imp_right (QG _)
theorem xN{α:Type}{p:Pt}{w:α}{q:Pt}:∀{l:List (Pt×α)},(∃v,(q,v)∈put l p w)↔q=p∨∃v,(q,v)∈l
 |[]=>by
  constructor;rintro⟨v,h⟩;exact .inl (congrArg qE (QI.mp h));rintro(rfl|⟨v,h⟩)
  ·exact⟨w,QI.mpr rfl⟩
  exact(nomatch h)
 |x::l=>by
  by_cases c:x.1=p;rw[show put (x::l) p w=(x.1,w)::l from if_pos c];constructor;rintro⟨v,h⟩;rcases QK.mp h with h|h;exact .inl ((congrArg qE h).trans c);exact .inr ⟨v,QG _ h⟩;rintro(rfl|⟨v,h⟩)
  ·exact⟨w,by rw[c];exact QE⟩
  rcases QK.mp h with h|h
  ·exact⟨w,by rw[<- h];exact QE⟩
  exact⟨v,QG _ h⟩;rw[show put (x::l) p w=x::put l p w from if_neg c];have ih:=xN (p:=p) (w:=w) (q:=q) (l:=l);constructor;rintro⟨v,h⟩;rcases QK.mp h with h|h;exact .inr ⟨v,by rw[h];exact QE⟩;exact(ih.mp ⟨v,h⟩).imp_right fun⟨v,h⟩=>⟨v,QG _ h⟩
  rintro(h|⟨v,h⟩)
  ·obtain⟨v,h⟩:=ih.mpr (.inl h)
   exact⟨v,QG _ h⟩
  rcases QK.mp h with h|h
  ·exact⟨v,by rw[h];exact QE⟩
  obtain⟨v,h⟩:=ih.mpr (.inr ⟨v,h⟩);exact⟨v,QG _ h⟩
def PV(r:Rm)(p q:Pt):Prop:=∃v,(q,v)∈lk r p
def Key(r:Rm)(p:Pt):Prop:=∃l,look r p=some l
def Pos(r:Rm):Prop:=∀p,∀e∈lk r p,(0<e.2↔OV p e.1)
def oZ(r:Rm):Prop:=∀p q,PV r p q->Key r q
def Sz(r:Rm)(n:Nat):Prop:=r.length<=n/\∀p,(lk r p).length<=n
theorem yE:lk (put r p l) q=if p=q then l else lk r q:=by unfold lk;rw[pD];split<;>rfl
theorem jE:lk (sdf r p) q=lk r q:=by
 unfold lk;rw[eP];cases look r q with
 |some x=>rfl
 |none=>show(if p=q then some [] else none).getD []=[];split<;>rfl
theorem UH:Key (put r p l) q↔p=q∨Key r q:=by unfold Key;rw[pD];by_cases h:p=q;rw[if_pos h];exact⟨fun _=>.inl h,fun _=>⟨_,rfl⟩⟩;rw[if_neg h];exact⟨.inr,fun z=>z.resolve_left h⟩
theorem FD:Key (sdf r p) q↔p=q∨Key r q:=by
 unfold Key;rw[eP];cases look r q with
 |some x=>exact⟨fun _=>.inr ⟨_,rfl⟩,fun _=>⟨_,rfl⟩⟩
 |none=>show(∃l,(if p=q then some [] else none)=some l)↔_;by_cases h:p=q;rw[if_pos h];exact⟨fun _=>.inl h,fun _=>⟨_,rfl⟩⟩;rw[if_neg h];exact⟨fun⟨_,e⟩=>(nomatch e),fun z=>(z.resolve_left h)⟩
theorem VH(h:w.1≠w.2.1)(p:Pt):lk (lB r w) p=if w.2.1=p then put (lk r p) w.1 0 else if w.1=p then put (lk r p) w.2.1 w.2.2 else lk r p:=by unfold lB;rw[yE,yE,yE,jE,jE,jE,jE,if_neg h,jE,jE];by_cases h1:w.2.1=p;rw[if_pos h1,if_pos h1,h1];rw[if_neg h1,if_neg h1];by_cases h2:w.1=p;rw[if_pos h2,if_pos h2,h2];rw[if_neg h2,if_neg h2]
theorem XF:Key (lB r w) p↔p=w.1∨p=w.2.1∨Key r p:=by
 unfold lB;rw[UH,UH,FD,FD];constructor;rintro(h|h|h|h|h)
 ·exact .inr (.inl h.symm)
 exact .inl h.symm;exact .inr (.inl h.symm);exact .inl h.symm;exact .inr (.inr h);rintro(h|h|h)
 ·exact .inr (.inl h.symm)
 exact .inl h.symm;exact .inr (.inr (.inr (.inr h)))
theorem FH(h:w.1≠w.2.1):PV (lB r w) p q↔PV r p q∨(p=w.1/\q=w.2.1)∨(p=w.2.1/\q=w.1):=by
 unfold PV;rw[VH h];by_cases h1:w.2.1=p;rw[if_pos h1,xN];constructor;rintro(e|e)
 ·exact .inr (.inr ⟨h1.symm,e⟩)
 exact .inl e;rintro(e|⟨e1,e2⟩| ⟨e1,e2⟩)
 ·exact .inr e
 exact absurd (e1.symm.trans h1.symm) h;exact .inl e2;rw[if_neg h1];by_cases h2:w.1=p;rw[if_pos h2,xN];constructor;rintro(e|e)
 ·exact .inr (.inl ⟨h2.symm,e⟩)
 exact .inl e;rintro(e|⟨e1,e2⟩| ⟨e1,e2⟩)
 ·exact .inr e
 exact .inl e2;exact absurd e1.symm h1;rw[if_neg h2];exact⟨.inl,fun z=>z.elim id fun z=>z.elim (fun e=>absurd e.1.symm h2) fun e=>absurd e.1.symm h1⟩
def IF(w:Wy):Prop:=OV w.1 w.2.1/\0<w.2.2
theorem RW(g:IF w)(hp:Pos r):Pos (lB r w):=by intro p e he;rw[VH (KF g.1)]at he;by_cases h1:w.2.1=p;rw[if_pos h1]at he;rcases rH he with z|z;rw[z,<- h1];exact⟨fun x=>absurd x (wu 0),fun x=>absurd x (GE g.1)⟩;exact hp p e z;rw[if_neg h1]at he;by_cases h2:w.1=p;rw[if_pos h2]at he;rcases rH he with z|z;rw[z,<- h2];exact⟨fun _=>g.1,fun _=>g.2⟩;exact hp p e z;rw[if_neg h2]at he;exact hp p e he
theorem XY(g:IF w)(hd:oZ r):oZ (lB r w):=by
 intro p q h;rw[XF];rcases(FH (KF g.1)).mp h with h|⟨_,h⟩| ⟨_,h⟩
 exact .inr (.inr (hd p q h));exact .inr (.inl h);exact .inl h
theorem xK{α:Type}{w:α}{l:List (Pt×α)}(h:l.length<=n):(put l p w).length<=n+1:=QZ jT (by omega)
theorem uN{α:Type}{p:Pt}{w:α}:∀{l:List (Pt×α)},(look l p).isSome=true->(put l p w).length=l.length
 |[],h=>by cases h
 |e::l,h=>by by_cases c:e.1=p;rw[show put (e::l) p w=(e.1,w)::l from if_pos c];rfl;rw[show put (e::l) p w=e::put l p w from if_neg c,QL,QL];rw[show look (e::l) p=look l p from if_neg c]at h;rw[uN h]
theorem FP(h:Key r p):(look r p).isSome=true:=by obtain⟨l,e⟩:=h;rw[e];rfl
theorem TX:(lB r w).length<=r.length+2:=by have k1:Key (sdf (sdf r w.1) w.2.1) w.1:=FD.mpr (.inr (FD.mpr (.inl rfl)));have k2:Key (sdf (sdf r w.1) w.2.1) w.2.1:=FD.mpr (.inl rfl);unfold lB;rw[uN (FP (UH.mpr (.inr k2))),uN (FP k1)];have:=EM (r:=r) (p:=w.1);have:=EM (r:=sdf r w.1) (p:=w.2.1);omega
theorem lH(g:w.1≠w.2.1)(h:Sz r n):Sz (lB r w) (n+2):=by
 refine⟨QZ TX (by have:=h.1;omega),fun p=>?_⟩;rw[VH g];have h2:=h.2 p;split;exact QZ (xK h2) (by omega);split
 ·exact QZ (xK h2) (by omega)
 omega
theorem LT:∀{ws:List Wy}{r:Rm},(∀w∈ws,IF w)->∀{p q:Pt},PV (ws.foldl lB r) p q↔PV r p q∨(∃v,(p,q,v)∈ws)∨∃v,(q,p,v)∈ws
 |[],r,_,p,q=>⟨.inl,fun z=>z.elim id fun z=>z.elim (fun⟨_,z⟩=>(nomatch z)) fun⟨_,z⟩=>(nomatch z)⟩
 |w::ws,r,h,p,q=>by
  rw[WC,LT (fun w hw=>h w (QG _ hw)),FH (KF (h w QE).1)];constructor;rintro((z|⟨rfl,rfl⟩| ⟨rfl,rfl⟩)|⟨v,z⟩| ⟨v,z⟩)
  ·exact .inl z
  exact .inr (.inl ⟨_,QE⟩);exact .inr (.inr ⟨_,QE⟩);exact .inr (.inl ⟨v,QG _ z⟩);exact .inr (.inr ⟨v,QG _ z⟩);rintro(z|⟨v,z⟩| ⟨v,z⟩)
  ·exact .inl (.inl z)
  rcases QK.mp z with z|z
  ·rw[<- z]
   exact .inl (.inr (.inl ⟨rfl,rfl⟩))
  exact .inr (.inl ⟨v,z⟩);rcases QK.mp z with z|z
  ·rw[<- z]
   exact .inl (.inr (.inr ⟨rfl,rfl⟩))
  exact .inr (.inr ⟨v,z⟩)
theorem YQ:∀{ws:List Wy}{r:Rm}{n:Nat},(∀w∈ws,IF w)->Pos r->oZ r->Key r eA->Sz r n->Pos (ws.foldl lB r)/\oZ (ws.foldl lB r)/\Key (ws.foldl lB r) eA/\Sz (ws.foldl lB r) (n+2 * ws.length)
 |[],r,n,_,h1,h2,h3,h4=>⟨h1,h2,h3,h4⟩
 |w::ws,r,n,h,h1,h2,h3,h4=>by have g:=h w QE;have:=YQ (ws:=ws) (r:=lB r w) (n:=n+2) (fun w hw=>h w (QG _ hw)) (RW g h1) (XY g h2) (XF.mpr (.inr (.inr h3))) (lH (KF g.1) h4);rw[WC,QL,show n+2 * (ws.length+1)=n+2+2 * ws.length by omega];exact this
def rO(g:Str)(n:Str):List Wy:=if n=g then[] else[(tO n,fR n,1),(eA,tO n,2)]
def BQ(g:Str)(e:Str×Str):List Wy:=if e.1=g∨e.1=e.2 then[] else[(tO e.1,fR e.1,1),(tO e.2,fR e.2,1),(fR e.1,tO e.2,2)]
def JG:Rm:=[(eA,[])]
def jA(es:LB)(st:List Str)(g:Str):Rm:=(es.flatMap (BQ g)).foldl lB ((st.flatMap (rO g)).foldl lB JG)
theorem Bg:(0:Int)<1:=by decide
theorem Ej:(0:Int)<2:=by decide
theorem tS{n:Str}:(rO g n).length<=2:=by unfold rO;split;exact Qy _;exact QS _
theorem aS:(BQ g e).length<=3:=by unfold BQ;split;exact Qy _;exact QS _
theorem DJ{n:Str}:∀w∈rO g n,IF w:=by
 intro w hw;unfold rO at hw;split at hw;exact(nomatch hw);rcases QK.mp hw with rfl|hw
 ·exact⟨.inr (.inl ⟨n,rfl,rfl⟩),Bg⟩
 rw[QI.mp hw];exact⟨.inl ⟨rfl,n,rfl⟩,Ej⟩
theorem FJ:∀w∈BQ g e,IF w:=by
 intro w hw;unfold BQ at hw;split at hw;exact(nomatch hw);rename_i h;rcases QK.mp hw with rfl|hw;exact⟨.inr (.inl ⟨e.1,rfl,rfl⟩),Bg⟩;rcases QK.mp hw with rfl|hw
 ·exact⟨.inr (.inl ⟨e.2,rfl,rfl⟩),Bg⟩
 rw[QI.mp hw];exact⟨.inr (.inr ⟨e.1,e.2,fun z=>h (.inr z),rfl,rfl⟩),Ej⟩
theorem PK{α:Type}{f:α->List Wy}{k:Nat}(h:∀x,(f x).length<=k):∀(l:List α),(l.flatMap f).length<=k * l.length
 |[]=>QS _
 |x::l=>by have:=PK h l;have:=h x;rw[QAf,QM,QL,Nat.mul_succ];omega
theorem hG{α:Type}{f:α->List Wy}(h:∀x,∀w∈f x,IF w)(l:List α):∀w∈l.flatMap f,IF w:=fun w hw=>by obtain⟨x,_,hx⟩:=QAp.mp hw;exact h x w hx
structure RmOk(r:Rm)(n:Nat):Prop where
 pos:Pos r
 dom:oZ r
 bg:Key r eA
 sz:Sz r n
theorem cE:RmOk JG 1:=by
 have e:∀p,lk JG p=[]:=fun p=>by show(if eA=p then some [] else none).getD []=[];split<;>rfl
 refine⟨fun p e' he=>?_,fun p q ⟨v,h⟩=>?_,⟨[],if_pos rfl⟩,QS _,fun p=>?_⟩;rw[e]at he;exact(nomatch he);rw[e]at h;exact(nomatch h);rw[e];exact Qy _
theorem RmOk.add{r:Rm}{n:Nat}(h:RmOk r n){ws:List Wy}(g:∀w∈ws,IF w):RmOk (ws.foldl lB r) (n+2 * ws.length):=by obtain⟨h1,h2,h3,h4⟩:=YQ g h.pos h.dom h.bg h.sz;exact⟨h1,h2,h3,h4⟩
theorem lP(h1:es.length<=126)(h2:st.length<=11):RmOk (jA es st g) 1000:=by have a:=(cE.add (hG (f:=rO g) (fun _=>DJ) st)).add (hG (f:=BQ g) (fun _=>FJ) es);have l1:=PK (f:=rO g) (k:=2) (fun _=>tS) st;have l2:=PK (f:=BQ g) (k:=3) (fun _=>aS) es;exact⟨a.pos,a.dom,a.bg,QZ a.sz.1 (by omega),fun p=>QZ (a.sz.2 p) (by omega)⟩
def G6(r:Rm)(p q:Pt):Prop:=∃v,(q,v)∈lk r p/\0<v
inductive Rch(r:Rm):Pt->Prop
 |bg:Rch r eA
 |go {p q:Pt}:Rch r p->G6 r p q->Rch r q
theorem ke{n:Str}:(p,q,v)∈rO g n↔n≠g/\((p,q,v)=(tO n,fR n,1)∨(p,q,v)=(eA,tO n,2)):=by unfold rO;split;rename_i h;exact⟨fun z=>(nomatch z),fun z=>absurd h z.1⟩;rename_i h;rw[QK,QI];exact⟨fun z=>⟨h,z⟩,fun z=>z.2⟩
theorem ve:(p,q,v)∈BQ g e↔(e.1≠g/\e.1≠e.2)/\((p,q,v)=(tO e.1,fR e.1,1)∨(p,q,v)=(tO e.2,fR e.2,1)∨(p,q,v)=(fR e.1,tO e.2,2)):=by unfold BQ;split;rename_i h;exact⟨fun z=>(nomatch z),fun z=>h.elim (fun h=>absurd h z.1.1) fun h=>absurd h z.1.2⟩;rename_i h;rw[QK,QK,QI];exact⟨fun z=>⟨⟨fun e=>h (.inl e),fun e=>h (.inr e)⟩,z⟩,fun z=>z.2⟩
theorem fE{cut:List Str}{s:Str}:i4 g cut s=true↔s≠g/\s∉cut:=by unfold i4;rw[Qe,Q7,Q7,decide_eq_false_iff_not,decide_eq_false_iff_not]
end
section
variable{es:LB}{st:List Str}{g:Str}{cut:List Str}
theorem CK{s:Str}(h:Led es st g cut s):s≠g/\s∉cut:=by
 cases h with
 |st _ h=>exact fE.mp h
 |ed _ _ h=>exact fE.mp h
end
section
variable{r:Rm}{ks:List Pt}{vs:List D}
theorem gW:∀{ws:List Wy}{r:Rm}{n:Nat},(∀w∈ws,IF w)->Sz r n->Sz (ws.foldl lB r) (n+2 * ws.length)
 |[],r,n,_,h4=>h4
 |w::ws,r,n,h,h4=>by have:=gW (ws:=ws) (r:=lB r w) (n:=n+2) (fun w hw=>h w (QG _ hw)) (lH (KF (h w QE).1) h4);rw[WC,QL,show n+2 * (ws.length+1)=n+2+2 * ws.length by omega];exact this
inductive CF(r:Rm):List Pt->List D->Prop
 |bg:CF r [eA] [.none]
 |add {ks:List Pt}{vs:List D}{p q:Pt}:CF r ks vs->p∈ks->G6 r p q->q∉ks->CF r (ks++[q]) (vs++[pr p])
theorem CF.len(h:CF r ks vs):vs.length=ks.length:=by
 induction h with
 |bg=>rfl
 |add _ _ _ _ ih=>rw[QM,QM,ih];rfl
theorem CF.hb(h:CF r ks vs):eA∈ks:=by
 induction h with
 |bg=>exact QE
 |add _ _ _ _ ih=>exact Qp _ ih
theorem CF.rch(h:CF r ks vs):∀k∈ks,Rch r k:=by
 induction h with
 |bg=>intro k hk;rw[QI.mp hk];exact .bg
 |add _ hp w _ ih=>intro k hk;rcases Qf.mp hk with z|z;exact ih k z;rw[QI.mp z];exact .go (ih _ hp) w
theorem CF.nd(h:CF r ks vs):ks.Nodup:=by
 induction h with
 |bg=>exact Qk.mpr ⟨fun z=>(nomatch z),Qw⟩
 |add _ _ _ n ih=>refine qb.mpr ⟨ih,Qk.mpr ⟨fun z=>(nomatch z),Qw⟩,fun a ha b hb z=>?_⟩;rw[QI.mp hb]at z;exact n (z▸ha)
theorem oH(hd:oZ r)(hb:Key r eA){p:Pt}(h:Rch r p):Key r p:=by
 cases h with
 |bg=>exact hb
 |go _ w=>obtain⟨v,m,_⟩:=w;exact hd _ _ ⟨v,m⟩
theorem VN{p:Pt}{l:Inn}:∀{r:Rm},look r p=some l->p∈r.map (·.1)
 |[],h=>by cases h
 |e::r,h=>by by_cases c:e.1=p;rw[<- c];exact QE;rw[show look (e::r) p=look r p from if_neg c]at h;exact QG _ (VN (r:=r) h)
theorem cG:∀{ks ns:List Pt},ks.Nodup->(∀s∈ks,s∈ns)->ks.length<=ns.length
 |[],_,_,_=>Qy _
 |s::r,ns,h,hs=>by obtain⟨h1,h2⟩:=Qk.mp h;have hm:=hs s QE;have:=cG (ks:=r) (ns:=ns.erase s) h2 fun x hx=>(QA6 (fun(e:x=s)=>h1 (e▸hx))).mpr (hs x (QG _ hx));rw[QAe hm]at this;have hp:=Wi hm;rw[QL];omega
theorem CF.le(hd:oZ r)(hb:Key r eA)(h:CF r ks vs):ks.length<=r.length:=by
 have:=cG (ns:=r.map (·.1)) h.nd fun s hs=>by obtain⟨l,e⟩:=oH hd hb (h.rch s hs);exact VN e
 rw[QD]at this;exact this
structure Srch(r:Rm)(ks:List Pt)(vs:List D)(ws:List Pt):Prop where
 cf:CF r ks vs
 sub:∀w∈ws,w∈ks
 clo:∀k∈ks,k∉ws->∀q,G6 r k q->q∈ks
structure Srch1(r:Rm)(here:Pt)(ks:List Pt)(vs:List D)(ws:List Pt)(l:Inn):Prop where
 cf:CF r ks vs
 sub:∀w∈ws,w∈ks
 clo:∀k∈ks,k∉ws->k≠here->∀q,G6 r k q->q∈ks
 her:here∈ks
 don:∀e∈lk r here,0<e.2->e.1∈ks∨e∈l
 all:∀e∈l,e∈lk r here
end
section
variable{r:Rm}{ks ws:List Pt}{vs:List D}
theorem Zc:Srch r [eA] [.none] [eA]:=⟨.bg,fun _ h=>h,fun k h n=>absurd h n⟩
theorem Srch.pop{w:Pt}(h:Srch r ks vs (w::ws)):Srch1 r w ks vs ws (lk r w):=by refine⟨h.cf,fun x hx=>h.sub x (QG _ hx),fun k hk n ne=>h.clo k hk fun z=>?_,h.sub w QE,fun e he _=>.inr he,fun e he=>he⟩;rcases QK.mp z with z|z;exact ne z;exact n z
theorem Srch1.skip{here:Pt}{e:Pt×Int}{l:Inn}(h:Srch1 r here ks vs ws (e::l))(c:0<e.2->e.1∈ks):Srch1 r here ks vs ws l:=by
 refine⟨h.cf,h.sub,h.clo,h.her,fun x hx p=>?_,fun x hx=>h.all x (QG _ hx)⟩;rcases h.don x hx p with z|z;exact .inl z;rcases QK.mp z with z|z
 ·rw[z]at p ⊢;exact .inl (c p)
 exact .inr z
theorem Srch1.add{here:Pt}{e:Pt×Int}{l:Inn}(h:Srch1 r here ks vs ws (e::l))(c:0<e.2)(n:e.1∉ks):Srch1 r here (ks++[e.1]) (vs++[pr here]) (ws++[e.1]) l:=by
 have me:=h.all e QE;refine⟨h.cf.add h.her ⟨e.2,me,c⟩ n,fun x hx=>?_,fun k hk nw ne q w=>?_,Qp _ h.her,fun x hx p=>?_,fun x hx=>h.all x (QG _ hx)⟩;rcases Qf.mp hx with z|z
 ·exact Qp _ (h.sub x z)
 exact QX _ z;rcases Qf.mp hk with z|z
 ·exact Qp _ (h.clo k z (fun y=>nw (Qp _ y)) ne q w)
 exact absurd (QX _ z) nw;rcases h.don x hx p with z|z
 ·exact .inl (Qp _ z)
 rcases QK.mp z with z|z
 ·rw[z];exact .inl (QX _ QE)
 exact .inr z
theorem Srch1.fin{here:Pt}(h:Srch1 r here ks vs ws []):Srch r ks vs ws:=by refine⟨h.cf,h.sub,fun k hk n q w=>?_⟩;by_cases e:k=here;subst e;obtain⟨v,m,p⟩:=w;rcases h.don (q,v) m p with z|z;exact z;exact(nomatch z);exact h.clo k hk n e q w
theorem Srch.done(h:Srch r ks vs [])(p:Pt):p∈ks↔Rch r p:=by
 refine⟨h.cf.rch p,fun z=>?_⟩;induction z with
 |bg=>exact h.cf.hb
 |go _ w ih=>exact h.clo _ ih (fun z=>(nomatch z)) _ w
end
def eC(Q:T->List T->Prop):PEnds:={ nx:=fun ρ=>bX (OA [0] ρ) (Q (.d .none)),rt:=fun t ρ=>bX (OA [0] ρ) (Q t) }
theorem UI{Ψ:PEv}{b:PT}{p:PSp}{N ps:List Str}{ds:List T}{Q:T->List T->Prop}(ρ:kA)(hl:ds.length=ps.length)(hc:CB 0 p.md ps.length=[0])(hs:nA N p.md ds=ρ)(h:xA Ψ (fun _=>False) b (eC Q) ρ):ds.length=ps.length/\xA Ψ (fun _=>False) b (vB p ps.length Q) (nA N p.md ds):=by
 have e:vB p ps.length Q=eC Q:=by unfold vB;rw[hc];rfl
 rw[e,hs];exact⟨hl,h⟩
def CV(r:Rm)(h t:Pt)(v:Int):kA:=[some (.own (JA r)),some (.nv (.d (pr h))),some (.nv (.d (pr t))),some (.nv (.d (.int v)))]
section
variable{Ψ:PEv}{Z:PEnds}{q:PT}{r:Rm}{h t:Pt}{v:Int}
theorem kj(hl:r.length<sizeLine)(k:xA Ψ (fun _=>False) q Z (CV (sdf r h) h t v)):xA Ψ (fun _=>False) (.seq (.sdf 0 (.var 1)) q) Z (CV r h t v):=by delta CV at k ⊢;simp?[↓zA];refine⟨rfl,MS hl ?_⟩;exact k
theorem zj(hl:r.length<sizeLine)(k:xA Ψ (fun _=>False) q Z (CV (sdf r t) h t v)):xA Ψ (fun _=>False) (.seq (.sdf 0 (.var 2)) q) Z (CV r h t v):=by delta CV at k ⊢;simp?[↓zA];refine⟨rfl,MS hl ?_⟩;exact k
theorem yj{l:Inn}(e:look r h=some l)(hl:l.length<sizeLine)(k:xA Ψ (fun _=>False) q Z (CV (put r h (put l t v)) h t v)):xA Ψ (fun _=>False) (.seq (.six (.idx (.var 0) (.var 1)) (.var 2) (.var 3)) q) Z (CV r h t v):=by delta CV at k ⊢;simp?[↓zA];refine mH e fun f hf=>RM hl ?_;rw[hf];exact k
theorem jj{l:Inn}(e:look r t=some l)(hl:l.length<sizeLine)(k:xA Ψ (fun _=>False) q Z (CV (put r t (put l h 0)) h t v)):xA Ψ (fun _=>False) (.seq (.six (.idx (.var 0) (.var 2)) (.var 1) (.int 0)) q) Z (CV r h t v):=by delta CV at k ⊢;simp?[↓zA];refine mH e fun f hf=>RM hl ?_;rw[hf];exact k
end
section
variable{r:Rm}{K:T->List T->Prop}{Ψ:PEv}
theorem dE{p:Pt}(h:Key r p):look r p=some (lk r p):=by obtain⟨l,e⟩:=h;unfold lk;rw[e];rfl
def iC:PSp where
 md:=[.chg]
 run:=fun ds Q _=>∃(r:Rm) (w:Wy),ds=[JA r,.d (pr w.1),.d (pr w.2.1),.d (.int w.2.2)]/\(w.1≠w.2.1/\Sz r 5000)/\Q (.d .none) [JA (lB r w)]
 mono:=fun h _ z=>by obtain⟨r,w,e,l,q⟩:=z;exact⟨r,w,e,l,h _ _ q⟩
theorem jK(w:Wy){E:XE}(h:w.1≠w.2.1)(s:Sz r 5000)(q:K (.d .none) [JA (lB r w)]):PD iC [JA r,.d (pr w.1),.d (pr w.2.1),.d (.int w.2.2)] K E:=⟨r,w,rfl,⟨h,s⟩,q⟩
theorem D2(ds Q E)(h:iC.run ds Q E):ds.length=NG.length/\xA Ψ (fun _=>False) VM (vB iC NG.length Q) (nA FM iC.md ds):=by obtain⟨r,w,rfl,⟨hn,hs⟩,q⟩:=h;have hz:sizeLine=16777216:=QV;refine UI (CV r w.1 w.2.1 w.2.2) rfl rfl rfl ?_;have h1:=hs.1;have h2:=EM (r:=r) (p:=w.1);have k1:Key (sdf (sdf r w.1) w.2.1) w.1:=FD.mpr (.inr (FD.mpr (.inl rfl)));have k2:Key (sdf (sdf r w.1) w.2.1) w.2.1:=FD.mpr (.inl rfl);have l1:=hs.2 w.1;have l2:=hs.2 w.2.1;refine kj (by omega) (zj (by omega) (yj (dE k1) (by rw[jE,jE];omega) (jj (dE (UH.mpr (.inr k2))) (by rw[yE,if_neg hn,jE,jE];omega) ?_)));exact q
def yD:PSp where
 md:=[.chg]
 run:=fun ds Q _=>∃(r:Rm) (n:Str),ds=[JA r,.d (.str n)]/\Sz r 5000/\Q (.d .none) [JA (lB r (tO n,fR n,1))]
 mono:=fun h _ z=>by obtain⟨r,w,e,l,q⟩:=z;exact⟨r,w,e,l,h _ _ q⟩
theorem yK{n:Str}{E:XE}(s:Sz r 5000)(q:K (.d .none) [JA (lB r (tO n,fR n,1))]):PD yD [JA r,.d (.str n)] K E:=⟨r,n,rfl,s,q⟩
theorem G2(h1:Ψ.sp "add_way"=iC)(ds Q E)(h:yD.run ds Q E):ds.length=oF.length/\xA Ψ (fun _=>False) uH (vB yD oF.length Q) (nA pL yD.md ds):=by obtain⟨r,n,rfl,hs,q⟩:=h;have hz:sizeLine=16777216:=QV;refine UI [some (.own (JA r)),some (.nv (.d (.str n)))] rfl rfl rfl ?_;delta uH;simp?[↓pG (md:=[]) h1 rfl rfl];refine⟨by omega,by omega,?_⟩;exact jK (tO n,fR n,1) BA hs ⟨_,rfl,q⟩
def NV(es:LB)(st:List Str)(g:Str)(r:Rm)(o4 o5 o6:Option Sl):kA:=[some (.nv (.d (.list (es.map pr)))),some (.nv (.d (.list (st.map PyData.str)))),some (.nv (.d (.str g))),some (.own (JA r)),o4,o5,o6]
end
section
variable{Ψ:PEv}{Z:PEnds}{es:LB}{st:List Str}{g:Str}{r:Rm}
theorem mh(hB:Ψ.va "BEGIN"=some (pr eA)){q:PT}{o3 o4 o5 o6:Option Sl}(k:xA Ψ (fun _=>False) q Z (NV es st g JG o4 o5 o6)) :
  xA Ψ (fun _=>False) (.seq (.own 3 (.dsp (.glo "BEGIN") (.dnew true))) q) Z [some (.nv (.d (.list (es.map pr)))),some (.nv (.d (.list (st.map PyData.str)))),some (.nv (.d (.str g))),o3,o4,o5,o6]:=by
 simp?[↓XG hB];exact⟨mC eA,k⟩
theorem lh(h1:Ψ.sp "add_name"=yD)(h2:Ψ.sp "add_way"=iC)(hB:Ψ.va "BEGIN"=some (pr eA))(hW:Ψ.va "WIDE"=some (.int 2)){n:Str}{o5 o6:Option Sl}(hs:Sz r 4900)(k:Z.nx (NV es st g ((rO g n).foldl lB r) (some (.nv (.d (.str n)))) o5 o6)) :
  xA Ψ (fun _=>False) OE Z (NV es st g r (some (.nv (.d (.str n)))) o5 o6):=by
 have hz:sizeLine=16777216:=QV;delta NV at k ⊢;delta OE;simp?[↓XG hB,↓XG hW,↓pG (md:=[]) h1 rfl rfl,↓pG (md:=[]) h2 rfl rfl];by_cases e:n=g;rw[dT e];unfold rO at k;rw[if_pos e]at k;exact k;rw[dF e];unfold rO at k;rw[if_neg e]at k;have s1:Sz r 5000:=⟨QZ hs.1 (by omega),fun p=>QZ (hs.2 p) (by omega)⟩
 have s2:=lH (w:=(tO n,fR n,1)) BA hs;have s3:Sz (lB r (tO n,fR n,1)) 5000:=⟨QZ s2.1 (by omega),fun p=>QZ (s2.2 p) (by omega)⟩
 refine yK s1 ⟨_,rfl,?_⟩;refine⟨by omega,?_⟩;exact jK (eA,tO n,2) DB s3 ⟨_,rfl,k⟩
theorem gh(h1:Ψ.sp "add_name"=yD)(h2:Ψ.sp "add_way"=iC)(hW:Ψ.va "WIDE"=some (.int 2)){a b:Str}{o4:Option Sl}(hs:Sz r 4900)(k:Z.nx (NV es st g ((BQ g (a,b)).foldl lB r) o4 (some (.nv (.d (.str a)))) (some (.nv (.d (.str b)))))) :
  xA Ψ (fun _=>False) NE Z (NV es st g r o4 (some (.nv (.d (.str a)))) (some (.nv (.d (.str b))))):=by
 have hz:sizeLine=16777216:=QV;delta NV at k ⊢;delta NE;simp?[↓XG hW,↓pG (md:=[]) h1 rfl rfl,↓pG (md:=[]) h2 rfl rfl];unfold BQ at k;by_cases e:a=g;rw[dT e];rw[if_pos (.inl e)]at k;exact k;rw[dF e];by_cases e2:a=b;rw[dT e2];rw[if_pos (.inr e2)]at k;exact k;rw[dF e2];rw[if_neg (fun z=>z.elim e e2)]at k;have s1:Sz r 5000:=⟨QZ hs.1 (by omega),fun p=>QZ (hs.2 p) (by omega)⟩
 have s2:=lH (w:=(tO a,fR a,1)) BA hs;have s3:=lH (w:=(tO b,fR b,1)) BA s2;refine yK s1 ⟨_,rfl,?_⟩;refine yK ⟨QZ s2.1 (by omega),fun p=>QZ (s2.2 p) (by omega)⟩ ⟨_,rfl,?_⟩;refine⟨by omega,by omega,?_⟩;exact jK (fR a,tO b,2) BA.symm ⟨QZ s3.1 (by omega),fun p=>QZ (s3.2 p) (by omega)⟩ ⟨_,rfl,k⟩
end
section
variable{E:XE}{Ψ:PEv}{r:Rm}{p q:Pt}{l:Inn}{n m:Bool}{R:T->Prop}{W:List T->Prop}{ρ:kA}{b:PX}{M:List (T×Bool)->kA->Prop}{md:List Md}{ks:List Pt}{vs:List D}
def KC:PSp where
 md:=[]
 run:=fun ds Q _=>∃(es:LB) (st:List Str) (g:Str),ds=[.d (.list (es.map pr)),.d (.list (st.map PyData.str)),.d (.str g)]/\(es.length<=126/\st.length<=11)/\Q (JA (jA es st g)) []
 mono:=fun h _ z=>by obtain⟨es,st,g,e,l,q⟩:=z;exact⟨es,st,g,e,l,h _ _ q⟩
theorem YU{es:LB}{st:List Str}{g:Str}{K:T->List T->Prop}(h1:es.length<=126)(h2:st.length<=11)(q:K (JA (jA es st g)) []):PD KC [.d (.list (es.map pr)),.d (.list (st.map PyData.str)),.d (.str g)] K E:=⟨es,st,g,rfl,⟨h1,h2⟩,q⟩
theorem TU(h1:Ψ.sp "add_name"=yD)(h2:Ψ.sp "add_way"=iC)(hB:Ψ.va "BEGIN"=some (pr eA))(hW:Ψ.va "WIDE"=some (.int 2))(ds Q E)(h:KC.run ds Q E):ds.length=nF.length/\xA Ψ (fun _=>False) cL (vB KC nF.length Q) (nA mL KC.md ds):=by obtain⟨es,st,g,rfl,⟨l1,l2⟩,q⟩:=h;refine CA [some (.nv (.d (.list (es.map pr)))),some (.nv (.d (.list (st.map PyData.str)))),some (.nv (.d (.str g))),none,none,none,none] rfl rfl rfl ?_;refine mh hB ?_;delta NV;simp?[↓zA];rw[<- VA];refine uC (fun(s:Str)=>T.d (.str s)) (fun l ρ=>∃r o4,RmOk r (1+4 * (11 - l.length))/\l.length<=11/\(l.flatMap (rO g)).foldl lB r=(st.flatMap (rO g)).foldl lB JG/\ρ=NV es st g r o4 none none) ?_ ?_ _ _ ⟨JG,_,?_,l2,rfl,rfl⟩;rintro ρ ⟨r,o4,ok,_,e,rfl⟩;have e:r=(st.flatMap (rO g)).foldl lB JG:=e;delta NV;simp?[↓zA];rw[<- VA];refine uC (fun(p:Str×Str)=>T.d (pr p)) (fun l ρ=>∃r o5 o6,Sz r (45+6 * (126 - l.length))/\l.length<=126/\(l.flatMap (BQ g)).foldl lB r=jA es st g/\ρ=NV es st g r (ZG o4) o5 o6) ?_ ?_ _ _ ⟨r,_,_,?_,l1,by rw[e];rfl,rfl⟩;rintro ρ ⟨r,o5,o6,_,_,e,rfl⟩;have e:r=jA es st g:=e;subst e;delta NV;simp?[↓zA];exact q;rintro⟨a,b⟩ l ρ N hN ⟨r,o5,o6,s,ll,e,rfl⟩;rw[QL]at s ll;rw[QAf,QAg]at e;refine gC.mk rfl ?_;refine gh (a:=a) (b:=b) h1 h2 hW ⟨QZ s.1 (by omega),fun p=>QZ (s.2 p) (by omega)⟩ (hN _ ⟨_,_,_,?_,by omega,e,rfl⟩);have z:Sz ((BQ g (a,b)).foldl lB r) (45+6 * (126 - (l.length+1))+2 * (BQ g (a,b)).length):=gW FJ s;have y:=aS (g:=g) (e:=(a,b));exact⟨QZ z.1 (by omega),fun p=>QZ (z.2 p) (by omega)⟩;exact⟨QZ ok.sz.1 (by rw[qA];omega),fun p=>QZ (ok.sz.2 p) (by rw[qA];omega)⟩;rintro s l ρ N hN ⟨r,o4,ok,ll,e,rfl⟩;rw[QL]at ok ll;rw[QAf,QAg]at e;refine lh (n:=s) h1 h2 hB hW ⟨QZ ok.sz.1 (by omega),fun p=>QZ (ok.sz.2 p) (by omega)⟩ (hN _ ⟨_,_,?_,by omega,e,rfl⟩);have z:=ok.add (ws:=rO g s) DJ;have y:=tS (g:=g) (n:=s);exact⟨z.pos,z.dom,z.bg,QZ z.sz.1 (by omega),fun p=>QZ (z.sz.2 p) (by omega)⟩;exact⟨cE.pos,cE.dom,cE.bg,QZ cE.sz.1 (by omega),fun p=>QZ (cE.sz.2 p) (by omega)⟩
def DR(l:Inn):D:=.dict (l.map fun e=>(pr e.1,.int e.2))
def m9(r:Rm):List (D×D):=r.map fun e=>(pr e.1,DR e.2)
theorem hV(h:look r p=some l):IC (m9 r)=some true:=by
 cases r with
 |nil=>cases h
 |cons e r=>rfl
theorem kY(l:Inn):(l.map fun e=>(pr e.1,PyData.int e.2))=[]∨IC (l.map fun e=>(pr e.1,PyData.int e.2))=some true:=by
 cases l with
 |nil=>exact .inl rfl
 |cons e r=>exact .inr rfl
theorem A6(h:Key r p)(k:R (.d (DR (lk r p)))):RC (.d (.dict (m9 r))) n (.d (pr p)) m R:=by
 have e:=dE h;obtain⟨i,i1,i2,_⟩:=nC (fun l=>T.d (DR l)) e;have e1:(m9 r).map (·.1)=FC r:=by unfold m9 FC;rw[QY];rfl
 refine Fb (hV e) (mC p) (by rw[e1];exact i1) ?_ k;have e2:(m9 r).map (·.2)=r.map fun e=>DR e.2:=by unfold m9;rw[QY];rfl
 rw[e2];rw[Qc]at i2 ⊢;cases z:r[i]? with
 |none=>rw[z]at i2;cases i2
 |some x=>rw[z]at i2;injection i2 with i2;injection i2 with i2;show some (DR x.2)=_;rw[i2]
theorem Tb:GK .itm [(.d (DR l),n)] W=W (l.map fun e=>.d (.tuple [pr e.1,.int e.2])):=by unfold DR;rw[Sb (kY l),QY];rfl
theorem bH{K:TK}:X5 (JA r) false Ψ b E ρ K=tB Ψ b E (lockA ρ) fun y m _=>K y m ρ:=rfl
theorem bU{K:TK}:X5 (rD l) false Ψ b E ρ K=tB Ψ b E (lockA ρ) fun y m _=>K y m ρ:=rfl
theorem nO:PZ (JA r) false Ψ b E md ρ M=mK Ψ b E md (lockA ρ) fun xs _=>M xs ρ:=rfl
theorem dZ:PZ (rD l) false Ψ b E md ρ M=mK Ψ b E md (lockA ρ) fun xs _=>M xs ρ:=rfl
def i5(t:T)(r:Rm):Prop:=t=JA r∨t=.d (.dict (m9 r))
theorem Gb{b:Bool}{ks:List D}{ts:List T}{n m:Bool}{k:D}{l:Nat}{t:T}(h1:vF b k)(h2:fA ks k=some l)(h3:ts[l]?=some t)(h:R t):RC (.dct b ks ts) false (.d k) m R:=.inr ⟨b,ks,ts,l,t,rfl,h1,h2,h3,h⟩
theorem aE(h:Key r p)(k:R (rD (lk r p))):RC (JA r) false (.d (pr p)) m R:=by obtain⟨i,i1,i2,_⟩:=nC rD (dE h);exact Gb (n:=false) (mC p) i1 i2 k
theorem GM{v:Int}(h:look l p=some v)(k:R (.d (.int v))):RC (rD l) false (.d (pr p)) m R:=by obtain⟨i,i1,i2,_⟩:=nC (fun v:Int=>T.d (.int v)) h;exact Gb (n:=false) (mC p) i1 i2 k
theorem eS(l:Inn):tE (l.map fun e=>T.d (.int e.2))=some (l.map fun e=>.int e.2):=by rw[show(l.map fun e=>T.d (.int e.2))=(l.map fun e=>PyData.int e.2).map T.d by rw[QY];rfl,pA]
theorem f7:GK .itm [(rD l,false)] W=W (l.map fun e=>.d (.tuple [pr e.1,.int e.2])):=by
 refine(LP _ _).trans ?_;have e:((FC l).zip (l.map fun e=>PyData.int e.2)).map (fun p=>T.d (.tuple [p.1,p.2]))=l.map fun e=>T.d (.tuple [pr e.1,.int e.2]):=by unfold FC;rw[List.zip_map',QY];rfl
 refine propext ⟨fun⟨ds,e1,k⟩=>?_,fun k=>⟨_,eS l,by rw[e];exact k⟩⟩;rw[eS]at e1;cases e1;rw[e]at k;exact k
theorem UZ{a:PX}:rG (.idx a b)=rG a:=rfl
theorem Ma:ZQ [(rD l,false)]=false:=rfl
def iZ(ks:List Pt)(vs:List D):T:=.dct true (ks.map pr) (vs.map T.d)
theorem HW:pr q∈ks.map pr↔q∈ks:=by constructor;intro h;obtain⟨x,hx,e⟩:=QW.mp h;rw[<- bN e];exact hx;exact List.mem_map_of_mem
theorem MN(ks:List Pt)(q:Pt):(fA (ks.map pr) (pr q)).isSome=decide (q∈ks):=by rw[qz,NR,HW,decide_eq_true_iff]
theorem Z7{x:D}{Q:T->Prop}(n:q∉ks)(hl:ks.length<sizeLine)(k:Q (iZ (ks++[q]) (vs++[x]))):Jc (iZ ks vs) (.d (pr q)) (.d x) Q:=by refine⟨mC q,by rw[QD];exact hl,?_⟩;show Q (kR true (ks.map pr) (vs.map T.d) (pr q) (.d x));unfold kR;rw[oC.mpr (fun z=>n (HW.mp z))];unfold iZ at k;rw[Qa,Qa]at k;exact k
theorem ma{L:Bool->Prop}:HB .NotIn (.d (pr q)) (iZ ks vs) L=L (!decide (q∈ks)):=by unfold iZ;rw[AY,MN];exact propext ⟨fun h=>h.2,fun h=>⟨mC q,h⟩⟩
def jM(t0:T)(ks:List Pt)(vs:List D)(ws:List Pt)(o3 o4 o5:Option Sl):kA:=[some (.nv t0),some (.own (iZ ks vs)),some (.own (.lst ((ws.map pr).map T.d))),o3,o4,o5]
end
section
variable{Ψ:PEv}{Z:PEnds}{t0:T}{r:Rm}{ks ws:List Pt}{vs:List D}
section
variable{w:Pt}{o3 o4 o5:Option Sl}
theorem eh{p q:Pt}{v:Int}(hl:ks.length<sizeLine)(hw:ws.length<sizeLine)(k0:(0<v->q∈ks)->Z.nx (jM t0 ks vs ws (some (.nv (.d (pr p)))) (some (.nv (.d (pr q)))) (some (.nv (.d (.int v))))))
  (k1:0<v->q∉ks->Z.nx (jM t0 (ks++[q]) (vs++[pr p]) (ws++[q]) (some (.nv (.d (pr p)))) (some (.nv (.d (pr q)))) (some (.nv (.d (.int v)))))) :
  xA Ψ (fun _=>False) SA Z (jM t0 ks vs ws (some (.nv (.d (pr p)))) (some (.nv (.d (pr q)))) (some (.nv (.d (.int v))))):=by
 delta jM at k0 k1 ⊢;delta SA;simp?[↓ma];by_cases h:0<v;rw[dT h];by_cases h2:q∈ks;rw[dT h2];exact k0 fun _=>h2;rw[dF h2];simp only[QA7,↓reduceIte];refine Z7 h2 hl ?_;refine⟨by rw[QD,QD];exact hw,?_⟩;have:=k1 h h2;rw[Qa,Qa]at this;exact this;rw[dF h];exact k0 fun z=>absurd z h
theorem y8{q:PT}(k:xA Ψ (fun _=>False) q Z (jM t0 ks vs ws (some (.nv (.d (pr w)))) o4 o5)) :
  xA Ψ (fun _=>False) (.seq (.set 3 (.mt .pop (.var 2) (.nq (.int 0) .nr))) q) Z (jM t0 ks vs (w::ws) o3 o4 o5):=by
 delta jM at k ⊢;simp?[↓zA];refine⟨0,.d (pr w),?_,rfl,rfl,k⟩;unfold DQ;rw[if_pos (by decide),if_pos (by rw[QD,QD,QL];omega)];rfl
theorem z8(hr:i5 t0 r)(hk:Key r w)
  (k:zH (xA Ψ (fun _=>False) SA) (.tp [4,5]) { Z with nx:=fun ρ2=>Z.nx (kill [4,5] ρ2) } ((lk r w).map fun e=>T.d (.tuple [pr e.1,.int e.2])) (jM t0 ks vs ws (some (.nv (.d (pr w)))) o4 o5)) :
  xA Ψ (fun _=>False) (.seq (.for_ (.tp [4,5]) .itm (.nq (.idx (.var 0) (.var 3)) .nr) SA) .nil) Z (jM t0 ks vs ws (some (.nv (.d (pr w)))) o4 o5):=by
 rcases hr with rfl|rfl;delta jM at k ⊢;simp?[↓bH];refine aE hk ?_;simp?[↓dZ,↓f7,Ma,UZ];exact k;delta jM at k ⊢;simp?[↓zA];refine A6 hk ?_;simp?[↓Tb];exact k
theorem rh(rr:i5 t0 r)(hd:oZ r)(hb:Key r eA)(hr:r.length<=1000)(h:Srch r ks vs (w::ws))(hm:2 * (r.length - ks.length)+ws.length+1<=3000)
  (hz:∀ks' vs' ws' o3 o4 o5,Srch r ks' vs' ws'->2 * (r.length - ks'.length)+ws'.length<=2 * (r.length - ks.length)+ws.length->Z.nx (jM t0 ks' vs' ws' o3 o4 o5)) :
  xA Ψ (fun _=>False) JD Z (jM t0 ks vs (w::ws) o3 o4 o5):=by
 have hZ:sizeLine=16777216:=QV;refine y8 ?_;have h0:=h.pop;have hk:Key r w:=oH hd hb (h.cf.rch w (h.sub w QE));refine z8 rr hk ?_;refine uC (fun(e:Pt×Int)=>T.d (.tuple [pr e.1,.int e.2])) (fun l ρ=>∃ks' vs' ws' o4 o5,Srch1 r w ks' vs' ws' l/\2 * (r.length - ks'.length)+ws'.length<=2 * (r.length - ks.length)+ws.length/\ρ=jM t0 ks' vs' ws' (some (.nv (.d (pr w)))) o4 o5) ?_ ?_ _ _ ⟨ks,vs,ws,_,_,h0,QS _,rfl⟩;rintro ρ ⟨ks',vs',ws',p4,p5,s,l,rfl⟩;exact hz ks' vs' ws' _ (ZG p4) (ZG p5) s.fin l;rintro⟨q,v⟩ l ρ N hN ⟨ks',vs',ws',p4,p5,s,e,rfl⟩;refine gC.mk rfl ?_;have s1:=s.cf.le hd hb;refine eh (p:=w) (q:=q) (v:=v) (by omega) (by omega) (fun c=>hN _ ⟨ks',vs',ws',_,_,s.skip c,e,rfl⟩) fun c n=>?_;have s2:=s.add c n;have s3:=s2.cf.le hd hb;rw[QM,Q1]at s3;exact hN _ ⟨_,_,_,_,_,s2,by rw[QM,QM,Q1];omega,rfl⟩
theorem Jh(hB:Ψ.va "BEGIN"=some (pr eA)){q:PT}(k:xA Ψ (fun _=>False) q Z (jM t0 [eA] [.none] [eA] none none none)) :
  xA Ψ (fun _=>False) (.seq (.own 1 (.dsp (.glo "BEGIN") .non)) (.seq (.own 2 (.lst (.nq (.glo "BEGIN") .nr))) q)) Z [some (.nv t0),none,none,none,none,none]:=by
 have hZ:sizeLine=16777216:=QV;simp?[↓XG hB];exact⟨mC eA,by omega,k⟩
end
end
theorem fH{Ψ:PEv}{E:XE}{c:PX}{q:PT}{Z:PEnds}{ρ:kA}(W:Nat->kA->Prop)(m:Nat)(h0:W m ρ)(hs:∀m ρ,W m ρ->sO Ψ c E ρ fun b ρ1=>if b=true then xA Ψ E q { Z with nx:=fun ρ'=>∃m',m' < m/\W m' ρ',ct:=fun ρ'=>∃m',m' < m/\W m' ρ',bk:=Z.nx } ρ1 else Z.nx ρ1):Lb Ψ E c q Z ρ:=⟨W,⟨m,h0⟩,hs⟩
def jC:PSp where
 md:=[.nv]
 run:=fun ds Q _=>∃(t0:T) (r:Rm),ds=[t0]/\(i5 t0 r/\oZ r/\Key r eA/\r.length<=1000)/\∀ks vs,CF r ks vs->(∀p,p∈ks↔Rch r p)->Q (iZ ks vs) []
 mono:=fun h _ z=>by obtain⟨t0,r,e,l,q⟩:=z;exact⟨t0,r,e,l,fun ks vs a b=>h _ _ (q ks vs a b)⟩
theorem SL{t0:T}{r:Rm}{K:T->List T->Prop}{E:XE}(h0:i5 t0 r)(h1:oZ r)(h2:Key r eA)(h3:r.length<=1000)(q:∀ks vs,CF r ks vs->(∀p,p∈ks↔Rch r p)->K (iZ ks vs) []):PD jC [t0] K E:=⟨t0,r,rfl,⟨h0,h1,h2,h3⟩,q⟩
theorem mX{Ψ:PEv}(hB:Ψ.va "BEGIN"=some (pr eA))(ds Q E)(h:jC.run ds Q E):ds.length=zC.length/\xA Ψ (fun _=>False) rE (vB jC zC.length Q) (nA sE jC.md ds):=by
 obtain⟨t0,r,rfl,⟨h0,hd,hb,hr⟩,q⟩:=h;refine CA [some (.nv t0),none,none,none,none,none] rfl rfl rfl ?_;refine Jh hB ?_;delta jM;simp?[↓zA];refine fH (fun m ρ=>m<=3000/\∃ks vs ws o3 o4 o5,Srch r ks vs ws/\m=2 * (r.length - ks.length)+ws.length/\ρ=jM t0 ks vs ws o3 o4 o5) (2 * (r.length - 1)+1) ⟨by omega,[eA],[.none],[eA],none,none,none,Zc,rfl,rfl⟩ ?_;rintro m ρ ⟨hm,ks,vs,ws,o3,o4,o5,s,e,rfl⟩;cases ws with
 |nil=>delta jM;simp?[QD];rw[dF (by omega)];simp?[↓zA];exact q ks vs s.cf s.done
 |cons w ws=>rw[QL]at e;have hp:=fun(Z:PEnds) hz=>rh (Ψ:=Ψ) (Z:=Z) (o3:=o3) (o4:=o4) (o5:=o5) h0 hd hb hr s (by omega) hz;unfold jM at hp;delta jM;simp?[QD];rw[dT (by omega)];refine hp _ fun ks' vs' ws' o3 o4 o5 s' l'=>⟨_,by omega,by omega,ks',vs',ws',o3,o4,o5,s',rfl,rfl⟩
theorem DL{α:Type}{x:α}{r:List α}:kF (x::r) 0=some x:=bO (j:=0) rfl
theorem DV{α:Type}{x y:α}{r:List α}:kF (x::y::r) 1=some y:=bO (j:=1) rfl
def sm:List Pt->(Pt->Int)->Int
 |[],_=>0
 |x::l,f=>f x+sm l f
section
variable{f g:Pt->Int}
theorem NA:∀{l:List Pt},(∀x∈l,f x=g x)->sm l f=sm l g
 |[],_=>rfl
 |x::l,h=>by show f x+sm l f=g x+sm l g;rw[h x QE,NA fun y hy=>h y (QG _ hy)]
theorem GG:∀(l:List Pt),sm l (fun x=>f x+g x)=sm l f+sm l g
 |[]=>rfl
 |x::l=>by show f x+g x+sm l _=f x+sm l f+(g x+sm l g);rw[GG l];omega
theorem dI:∀(l:List Pt),sm l (fun x=>- f x)=- sm l f
 |[]=>rfl
 |x::l=>by show - f x+sm l _=- (f x+sm l f);rw[dI l];omega
theorem yG:∀(l:List Pt),sm l (fun _=>0)=0
 |[]=>rfl
 |x::l=>by show 0+sm l _=0;rw[yG l];rfl
theorem OL:∀{l:List Pt},(∀x∈l,0<=f x)->0<=sm l f
 |[],_=>QB6 _
 |x::l,h=>by have h1:=h x QE;have h2:=OL (l:=l) fun y hy=>h y (QG _ hy);show 0<=f x+sm l f;omega
theorem FG:∀{l:List Pt},(∀x∈l,0<=f x)->∀{y:Pt},y∈l->f y<=sm l f
 |x::l,h,y,hy=>by have h1:=h x QE;have h0:∀y∈l,0<=f y:=fun y hy=>h y (QG _ hy);show f y<=f x+sm l f;rcases QK.mp hy with e|e;have h2:=OL h0;rw[e];omega;have h2:=FG h0 e;omega
theorem rW:∀{l:List Pt},(∀x∈l,0<=f x)->∀{y z:Pt},y∈l->z∈l->y≠z->f y+f z<=sm l f
 |x::l,h,y,z,hy,hz,ne=>by
  have h1:=h x QE;have h0:∀y∈l,0<=f y:=fun y hy=>h y (QG _ hy);show f y+f z<=f x+sm l f;rcases QK.mp hy with e|e;rcases QK.mp hz with e'|e'
  ·exact absurd (e.trans e'.symm) ne
  have h2:=FG h0 e';rw[e];omega;rcases QK.mp hz with e'|e'
  ·have h2:=FG h0 e
   rw[e'];omega
  have h2:=rW h0 e e' ne;omega
theorem sW:∀{l:List Pt},0<sm l f->∃x∈l,0<f x
 |[],h=>absurd h (wu 0)
 |x::l,h=>by by_cases c:0<f x;exact⟨x,QE,c⟩;have h:0<f x+sm l f:=h;obtain⟨y,hy,p⟩:=sW (l:=l) (by omega);exact⟨y,QG _ hy,p⟩
theorem DS{k:Pt->Pt->Int}{m:List Pt}:∀(l:List Pt),sm l (fun x=>sm m fun y=>k x y)=sm m fun y=>sm l fun x=>k x y
 |[]=>(yG m).symm
 |x::l=>by show sm m (fun y=>k x y)+sm l _=sm m fun y=>k x y+sm l fun x=>k x y;rw[DS l,GG]
theorem SM{u:Pt}{k:Int}:∀{l:List Pt},u∉l->sm l (fun x=>if x=u then k else 0)=0
 |[],_=>rfl
 |x::l,h=>by show(if x=u then k else 0)+sm l _=0;rw[if_neg (fun(e:x=u)=>h (e▸QE)),SM fun z=>h (QG _ z)];rfl
theorem fI{u:Pt}{k:Int}:∀{l:List Pt},l.Nodup->u∈l->sm l (fun x=>if x=u then k else 0)=k
 |x::l,nd,h=>by obtain⟨h1,h2⟩:=Qk.mp nd;show(if x=u then k else 0)+sm l _=k;by_cases e:x=u;rw[if_pos e,SM (by rw[<- e];exact h1)];omega;rw[if_neg e,fI h2 ((QK.mp h).resolve_left fun z=>e z.symm)];omega
theorem LO(p:Pt->Bool):∀(l:List Pt),sm l f=sm (l.filter p) f+sm (l.filter fun x=>!p x) f
 |[]=>rfl
 |x::l=>by
  show f x+sm l f=_;rw[WS,WS,LO p l];cases p x with
  |true=>show _=(f x+sm (l.filter p) f)+sm (l.filter fun x=>!p x) f;omega
  |false=>show _=sm (l.filter p) f+(f x+sm (l.filter fun x=>!p x) f);omega
theorem TZ{a:Pt->Pt->Int}(l:List Pt)(h:∀x∈l,∀y∈l,a x y=- a y x):sm l (fun x=>sm l fun y=>a x y)=0:=by
 have e1:sm l (fun x=>sm l fun y=>a x y)=sm l fun y=>sm l fun x=>a x y:=DS l;have e2:(sm l fun y=>sm l fun x=>a x y)=- sm l (fun y=>sm l fun x=>a y x):=by rw[<- dI];refine NA fun y hy=>?_;rw[<- dI];exact NA fun x hx=>h x hx y hy
 omega
end
section
variable{p q u v:Pt}{r:Rm}{w:Wy}{es:LB}{st:List Str}{g:Str}
def rm(r:Rm)(p q:Pt):Int:=(look (lk r p) q).getD 0
def dH(r:Rm)(p q:Pt):Prop:=∃v,look (lk r p) q=some v
def m5(r:Rm):Prop:=∀p,((lk r p).map (·.1)).Nodup
theorem dG{α:Type}{q:Pt}{v:α}:∀{l:List (Pt×α)},look l q=some v->(q,v)∈l
 |[],h=>by cases h
 |e::l,h=>by by_cases c:e.1=q;rw[show look (e::l) q=some e.2 from if_pos c]at h;injection h with h;rw[<- c,<- h];exact QE;rw[show look (e::l) q=look l q from if_neg c]at h;exact QG _ (dG h)
theorem DN{α:Type}{q:Pt}{v:α}:∀{l:List (Pt×α)},(l.map (·.1)).Nodup->(q,v)∈l->look l q=some v
 |e::l,nd,h=>by obtain⟨h1,h2⟩:=Qk.mp nd;rcases QK.mp h with c|c;rw[<- c];exact if_pos rfl;have ne:e.1≠q:=fun z=>h1 (QW.mpr ⟨(q,v),c,z.symm⟩);rw[show look (e::l) q=look l q from if_neg ne];exact DN h2 c
theorem put_keys{α:Type}{p:Pt}{w:α}:∀{l:List (Pt×α)},(put l p w).map (·.1)=if p∈l.map (·.1) then l.map (·.1) else l.map (·.1)++[p]
 |[]=>rfl
 |e::l=>by by_cases c:e.1=p;rw[show put (e::l) p w=(e.1,w)::l from if_pos c,if_pos (by rw[<- c];exact QE)];rfl;rw[show put (e::l) p w=e::put l p w from if_neg c];rw[QN,QN,put_keys];by_cases h:p∈l.map (·.1);rw[if_pos h,if_pos (QG _ h)];rw[if_neg h,if_neg (fun z=>(QK.mp z).elim (fun z=>c z.symm) h)];rfl
theorem kG{α:Type}{w:α}{l:List (Pt×α)}(h:(l.map (·.1)).Nodup):((put l p w).map (·.1)).Nodup:=by rw[put_keys];split;exact h;rename_i n;refine qb.mpr ⟨h,Qk.mpr ⟨fun z=>(nomatch z),Qw⟩,fun a ha b hb z=>?_⟩;rw[QI.mp hb]at z;exact n (z▸ha)
theorem HQ(nd:m5 r):G6 r p q↔0<rm r p q:=by
 unfold G6 rm;constructor;rintro⟨v,m,h⟩;rw[DN (nd p) m];exact h;intro h;cases e:look (lk r p) q with
 |none=>rw[e]at h;exact absurd h (wu 0)
 |some v=>rw[e]at h;exact⟨v,dG e,h⟩
def HU(r:Rm)(u v:Pt):Rm:=put (put r u (put (lk r u) v (rm r u v - 1))) v (put (lk (put r u (put (lk r u) v (rm r u v - 1))) v) u (rm (put r u (put (lk r u) v (rm r u v - 1))) v u+1))
theorem ZR(h:u≠v)(p:Pt):lk (HU r u v) p=if v=p then put (lk r v) u (rm r v u+1) else if u=p then put (lk r u) v (rm r u v - 1) else lk r p:=by
 have e:rm (put r u (put (lk r u) v (rm r u v - 1))) v u=rm r v u:=by unfold rm;rw[yE,if_neg h]
 unfold HU;rw[e,yE,yE,yE,if_neg h]
theorem IQ(h:u≠v)(p q:Pt):rm (HU r u v) p q=rm r p q+(if p=v/\q=u then 1 else 0) - (if p=u/\q=v then 1 else 0):=by show(look (lk (HU r u v) p) q).getD 0=_;rw[ZR h];by_cases h1:v=p;rw[if_pos h1,pD,if_neg (c:=p=u/\q=v) (fun z=>h (z.1.symm.trans h1.symm))];by_cases h2:u=q;rw[if_pos h2,if_pos ⟨h1.symm,h2.symm⟩,<- h1,<- h2];show rm r v u+1=rm r v u+1 - 0;omega;rw[if_neg h2,if_neg (fun z=>h2 z.2.symm),h1];show rm r p q=rm r p q+0 - 0;omega;rw[if_neg h1,if_neg (c:=p=v/\q=u) (fun z=>h1 z.1.symm)];by_cases h2:u=p;rw[if_pos h2,pD];by_cases h3:v=q;rw[if_pos h3,if_pos ⟨h2.symm,h3.symm⟩,<- h2,<- h3];show rm r u v - 1=rm r u v+0 - 1;omega;rw[if_neg h3,if_neg (fun z=>h3 z.2.symm),h2];show rm r p q=rm r p q+0 - 0;omega;rw[if_neg h2,if_neg (fun z=>h2 z.1.symm)];show rm r p q=rm r p q+0 - 0;omega
theorem cB:dH r p q↔PV r p q:=by
 unfold dH PV;constructor;rintro⟨v,h⟩;exact⟨v,dG h⟩;rintro⟨v,h⟩;generalize lk r p=l at h;induction l with
 |nil=>exact(nomatch h)
 |cons e l ih =>
  by_cases c:e.1=q;exact⟨e.2,if_pos c⟩;rcases QK.mp h with z|z
  ·exact absurd (by rw[<- z]) c
  obtain⟨w,hw⟩:=ih z;exact⟨w,(show look (e::l) q=look l q from if_neg c).trans hw⟩
theorem x5(h:u≠v)(h1:dH r u v)(h2:dH r v u):dH (HU r u v) p q↔dH r p q:=by unfold dH;rw[ZR h];by_cases e1:v=p;rw[if_pos e1,pD];by_cases e2:u=q;rw[if_pos e2,<- e1,<- e2];exact⟨fun _=>h2,fun _=>⟨_,rfl⟩⟩;rw[if_neg e2,e1];rw[if_neg e1];by_cases e2:u=p;rw[if_pos e2,pD];by_cases e3:v=q;rw[if_pos e3,<- e2,<- e3];exact⟨fun _=>h1,fun _=>⟨_,rfl⟩⟩;rw[if_neg e3,e2];rw[if_neg e2]
theorem J3(h:u≠v)(nd:m5 r):m5 (HU r u v):=by
 intro p;rw[ZR h];split;exact kG (nd v);split
 ·exact kG (nd u)
 exact nd p
theorem zN(h:¬ dH r p q):rm r p q=0:=by
 unfold rm;cases e:look (lk r p) q with
 |none=>rfl
 |some v=>exact absurd ⟨v,e⟩ h
def cg(p q:Pt)(v:Int):Prop:=(∃n,p=tO n/\q=fR n/\v=1)∨(∃n,p=eA/\q=tO n/\v=2)∨(∃a b,a≠b/\p=fR a/\q=tO b/\v=2)∨(¬ OV p q/\v=0)
def xb(P:Pt->Pt->Int->Prop)(r:Rm):Prop:=∀p,∀e∈lk r p,P p e.1 e.2
theorem JV{P:Pt->Pt->Int->Prop}(hn:w.1≠w.2.1)(h1:P w.1 w.2.1 w.2.2)(h2:P w.2.1 w.1 0)(h:xb P r):xb P (lB r w):=by intro p e he;rw[VH hn]at he;by_cases c1:w.2.1=p;rw[if_pos c1]at he;rcases rH he with z|z;rw[z,<- c1];exact h2;exact h p e z;rw[if_neg c1]at he;by_cases c2:w.1=p;rw[if_pos c2]at he;rcases rH he with z|z;rw[z,<- c2];exact h1;exact h p e z;rw[if_neg c2]at he;exact h p e he
theorem AO(h:(r.map (·.1)).Nodup):((sdf r p).map (·.1)).Nodup:=by
 unfold sdf;cases e:look r p with
 |some v=>exact h
 |none=>show(List.map (fun e:Pt×Inn=>e.1) (r++[(p,[])])).Nodup;rw[Qa];refine qb.mpr ⟨h,Qk.mpr ⟨fun z=>(nomatch z),Qw⟩,fun a ha b hb z=>?_⟩;have hb:b=p:=QI.mp hb;rw[z,hb]at ha;obtain⟨x,hx,e2⟩:=QW.mp ha;have:=DN h (show(p,x.2)∈r by rw[<- e2];exact hx);rw[e]at this;cases this
theorem GX(hn:w.1≠w.2.1)(h:m5 r):m5 (lB r w):=by
 intro p;rw[VH hn];split;exact kG (h p);split
 ·exact kG (h p)
 exact h p
theorem AA:Key r p↔p∈r.map (·.1):=by
 constructor;rintro⟨l,e⟩;exact VN e;intro h;induction r with
 |nil=>exact(nomatch h)
 |cons e r ih =>
  by_cases c:e.1=p;exact⟨e.2,if_pos c⟩;rcases QK.mp h with z|z
  ·exact absurd z.symm c
  obtain⟨l,hl⟩:=ih z;exact⟨l,(show look (e::r) p=look r p from if_neg c).trans hl⟩
structure Tbl0(r:Rm):Prop where
 ndk:(r.map (·.1)).Nodup
 ndi:m5 r
 cap:xb cg r
 kind:∀p,Key r p->p=eA∨∃n,p=tO n∨p=fR n
 sym:∀p q,PV r p q->PV r q p/\Key r p
theorem DP(h:OV p q):(p=eA∨∃n,p=tO n∨p=fR n)/\(q=eA∨∃n,q=tO n∨q=fR n):=by
 rcases h with⟨h,n,e⟩| ⟨n,h,e⟩| ⟨a,b,_,h,e⟩
 exact⟨.inl h,.inr ⟨n,.inl e⟩⟩;exact⟨.inr ⟨n,.inl h⟩,.inr ⟨n,.inr e⟩⟩;exact⟨.inr ⟨a,.inr h⟩,.inr ⟨b,.inl e⟩⟩
theorem LZ(h1:OV w.1 w.2.1)(h2:cg w.1 w.2.1 w.2.2)(t:Tbl0 r):Tbl0 (lB r w):=by
 have ne:=KF h1;refine⟨?_,GX ne t.ndi,JV ne h2 (.inr (.inr (.inr ⟨GE h1,rfl⟩))) t.cap,fun p h=>?_,fun p q h=>?_⟩;unfold lB;exact kG (kG (AO (AO t.ndk)));rcases XF.mp h with z|z|z
 ·rw[z];exact(DP h1).1
 rw[z];exact(DP h1).2;exact t.kind p z;rw[FH ne,XF];rcases(FH ne).mp h with z|⟨z1,z2⟩| ⟨z1,z2⟩
 obtain⟨s1,s2⟩:=t.sym p q z;exact⟨.inl s1,.inr (.inr s2)⟩;exact⟨.inr (.inr ⟨z2,z1⟩),.inl z1⟩;exact⟨.inr (.inl ⟨z2,z1⟩),.inr (.inl z1)⟩
theorem ZS:∀{ws:List Wy}{r:Rm},(∀w∈ws,OV w.1 w.2.1/\cg w.1 w.2.1 w.2.2)->Tbl0 r->Tbl0 (ws.foldl lB r)
 |[],_,_,t=>t
 |w::ws,r,h,t=>ZS (ws:=ws) (fun w hw=>h w (QG _ hw)) (LZ (h w QE).1 (h w QE).2 t)
theorem VJ{p:Pt}:∀{ws:List Wy}{r:Rm},Key (ws.foldl lB r) p↔Key r p∨∃w∈ws,p=w.1∨p=w.2.1
 |[],r=>⟨.inl,fun z=>z.elim id fun⟨_,m,_⟩=>(nomatch m)⟩
 |w::ws,r=>by
  rw[WC,VJ (ws:=ws),XF];constructor;rintro((z|z|z)|⟨x,m,z⟩)
  ·exact .inr ⟨w,QE,.inl z⟩
  exact .inr ⟨w,QE,.inr z⟩;exact .inl z;exact .inr ⟨x,QG _ m,z⟩;rintro(z|⟨x,m,z⟩)
  ·exact .inl (.inr (.inr z))
  rcases QK.mp m with rfl|m
  ·rcases z with z|z
   ·exact .inl (.inl z)
   exact .inl (.inr (.inl z))
  exact .inr ⟨x,m,z⟩
def LV(es:LB)(st:List Str)(g:Str):List Wy:=st.flatMap (rO g)++es.flatMap (BQ g)
theorem xE:jA es st g=(LV es st g).foldl lB JG:=by unfold jA LV;rw[QAg]
theorem zE{v:Int}:(p,q,v)∈LV es st g↔(∃n∈st,n≠g/\((p,q,v)=(tO n,fR n,1)∨(p,q,v)=(eA,tO n,2)))∨(∃e∈es,(e.1≠g/\e.1≠e.2)/\((p,q,v)=(tO e.1,fR e.1,1)∨(p,q,v)=(tO e.2,fR e.2,1)∨(p,q,v)=(fR e.1,tO e.2,2))):=by
 unfold LV;rw[Qf,QAp,QAp];constructor;rintro(⟨n,m,h⟩| ⟨e,m,h⟩)
 ·exact .inl ⟨n,m,ke.mp h⟩
 exact .inr ⟨e,m,ve.mp h⟩;rintro(⟨n,m,h⟩| ⟨e,m,h⟩)
 ·exact .inl ⟨n,m,ke.mpr h⟩
 exact .inr ⟨e,m,ve.mpr h⟩
theorem MB:∀w∈LV es st g,OV w.1 w.2.1/\cg w.1 w.2.1 w.2.2:=by
 rintro⟨p,q,v⟩ h;rcases zE.mp h with⟨n,_,_,e|e⟩| ⟨e,_,⟨_,ne⟩,z|z|z⟩
 cases e;exact⟨.inr (.inl ⟨n,rfl,rfl⟩),.inl ⟨n,rfl,rfl,rfl⟩⟩;cases e;exact⟨.inl ⟨rfl,n,rfl⟩,.inr (.inl ⟨n,rfl,rfl,rfl⟩)⟩;cases z;exact⟨.inr (.inl ⟨_,rfl,rfl⟩),.inl ⟨_,rfl,rfl,rfl⟩⟩;cases z;exact⟨.inr (.inl ⟨_,rfl,rfl⟩),.inl ⟨_,rfl,rfl,rfl⟩⟩;cases z;exact⟨.inr (.inr ⟨_,_,ne,rfl,rfl⟩),.inr (.inr (.inl ⟨_,_,ne,rfl,rfl,rfl⟩))⟩
theorem KH(p:Pt):lk JG p=[]:=by show(if eA=p then some [] else none).getD []=[];split<;>rfl
theorem yc:Tbl0 JG:=by refine⟨Qk.mpr ⟨fun z=>(nomatch z),Qw⟩,fun p=>?_,fun p e he=>?_,fun p h=>?_,fun p q h=>?_⟩;rw[KH];exact Qw;rw[KH]at he;exact(nomatch he);exact .inl (QI.mp (AA.mp h));obtain⟨v,h⟩:=h;rw[KH]at h;exact(nomatch h)
end
section
variable{es:LB}{st:List Str}{g:Str}
section
variable{p q:Pt}{n:Str}
theorem uD:Tbl0 (jA es st g):=by rw[xE];exact ZS MB yc
theorem sY:∀w∈LV es st g,IF w:=fun w hw=>by unfold LV at hw;rcases Qf.mp hw with z|z;exact hG (f:=rO g) (fun _=>DJ) st w z;exact hG (f:=BQ g) (fun _=>FJ) es w z
theorem AB:PV (jA es st g) p q↔(∃v,(p,q,v)∈LV es st g)∨∃v,(q,p,v)∈LV es st g:=by
 rw[xE,LT sY];constructor;rintro(⟨v,h⟩| h)
 ·rw[KH]at h;exact(nomatch h)
 exact h;exact .inr
theorem vM(h:Key (jA es st g) (tO n)):PV (jA es st g) (tO n) (fR n):=by
 rw[xE]at h;rcases VJ.mp h with z|⟨⟨p,q,v⟩,m,z⟩
 exact absurd (QI.mp (AA.mp z)).symm DB;refine AB.mpr (.inl ⟨1,zE.mpr ?_⟩);have z:tO n=p∨tO n=q:=z;rcases zE.mp m with⟨k,mk,ne,e|e⟩| ⟨e,me,ne,y|y|y⟩
 cases e;rcases z with z|z;rw[ZB z];exact .inl ⟨k,mk,ne,.inl rfl⟩;exact absurd z BA;cases e;rcases z with z|z;exact absurd z.symm DB;rw[ZB z];exact .inl ⟨k,mk,ne,.inl rfl⟩;cases y;rcases z with z|z;rw[ZB z];exact .inr ⟨e,me,ne,.inl rfl⟩;exact absurd z BA;cases y;rcases z with z|z;rw[ZB z];exact .inr ⟨e,me,ne,.inr (.inl rfl)⟩;exact absurd z BA;cases y;rcases z with z|z;exact absurd z BA;rw[ZB z];exact .inr ⟨e,me,ne,.inr (.inl rfl)⟩
theorem UV:cg p q (rm (jA es st g) p q)∨(¬ dH (jA es st g) p q/\rm (jA es st g) p q=0):=by by_cases h:dH (jA es st g) p q;obtain⟨v,e⟩:=h;have:=uD (es:=es) (st:=st) (g:=g) |>.cap p (q,v) (dG e);unfold rm;rw[e];exact .inl this;exact .inr ⟨h,zN h⟩
theorem Hi:0<=rm (jA es st g) p q:=by rcases UV (es:=es) (st:=st) (g:=g) (p:=p) (q:=q) with(⟨_,_,_,e⟩| ⟨_,_,_,e⟩| ⟨_,_,_,_,_,e⟩| ⟨_,e⟩)|⟨_,e⟩<;>rw[e]<;>decide
theorem RH(h:¬ OV p q):rm (jA es st g) p q=0:=by
 rcases UV (es:=es) (st:=st) (g:=g) (p:=p) (q:=q) with(⟨n,e1,e2,_⟩| ⟨n,e1,e2,_⟩| ⟨a,b,ne,e1,e2,_⟩| ⟨_,e⟩)|⟨_,e⟩
 exact absurd (.inr (.inl ⟨n,e1,e2⟩)) h;exact absurd (.inl ⟨e1,n,e2⟩) h;exact absurd (.inr (.inr ⟨a,b,ne,e1,e2⟩)) h;exact e;exact e
theorem ua(h:q≠fR n):rm (jA es st g) (tO n) q=0:=RH fun l=>by
 rcases l with⟨e,_⟩| ⟨m,e1,e2⟩| ⟨a,b,_,e,_⟩
 exact DB e.symm;exact h (by rw[e2,ZB e1]);exact BA e
theorem Xe:rm (jA es st g) (tO n) (fR n)<=1:=by
 rcases UV (es:=es) (st:=st) (g:=g) (p:=tO n) (q:=fR n) with(⟨_,_,_,e⟩| ⟨m,e1,_,_⟩| ⟨a,b,ne,e1,e2,_⟩| ⟨_,e⟩)|⟨_,e⟩
 rw[e];decide;exact absurd e1.symm DB;exact absurd e1 BA;rw[e];decide;rw[e];decide
theorem ba(h:Key (jA es st g) (tO n)):rm (jA es st g) (tO n) (fR n)=1:=by
 have a:=cB.mpr (vM h);rcases UV (es:=es) (st:=st) (g:=g) (p:=tO n) (q:=fR n) with(⟨_,_,_,e⟩| ⟨m,e1,_,_⟩| ⟨a,b,ne,e1,e2,_⟩| ⟨l,e⟩)|⟨z,e⟩
 exact e;exact absurd e1.symm DB;exact absurd e1 BA;exact absurd (.inr (.inl ⟨n,rfl,rfl⟩)) l;exact absurd a z
theorem Oi(h:p≠tO n):rm (jA es st g) p (fR n)=0:=RH fun l=>by
 rcases l with⟨_,m,e⟩| ⟨m,e1,e2⟩| ⟨a,b,_,_,e⟩
 exact BA e.symm;exact h (by rw[e1,yH e2]);exact BA e.symm
theorem Pi:rm (jA es st g) p eA=0:=RH fun l=>by
 rcases l with⟨_,m,e⟩| ⟨m,e1,e2⟩| ⟨a,b,_,_,e⟩
 exact DB e;exact pE e2;exact DB e
theorem Ve(h:p≠fR n):rm (jA es st g) p (tO n)=0∨rm (jA es st g) p (tO n)=2:=by
 rcases UV (es:=es) (st:=st) (g:=g) (p:=p) (q:=tO n) with(⟨_,_,e,_⟩| ⟨m,_,_,e⟩| ⟨a,b,_,_,_,e⟩| ⟨l,e⟩)|⟨_,e⟩
 exact absurd e BA;exact .inr e;exact .inr e;exact .inl e;exact .inl e
theorem xa{v:Int}(h:(p,tO n,v)∈LV es st g):rm (jA es st g) p (tO n)=2:=by
 have a:dH (jA es st g) p (tO n):=cB.mpr (AB.mpr (.inl ⟨v,h⟩));have l:OV p (tO n):=(MB _ h).1;rcases UV (es:=es) (st:=st) (g:=g) (p:=p) (q:=tO n) with(⟨_,_,e,_⟩| ⟨m,_,_,e⟩| ⟨a,b,_,_,_,e⟩| ⟨l',e⟩)|⟨z,e⟩
 exact absurd e BA;exact e;exact e;exact absurd l l';exact absurd a z
end
end
section
variable{es:LB}{st:List Str}{g:Str}
def uF(es:LB)(st:List Str)(g:Str):List Pt:=(jA es st g).map (·.1)
def fl(es:LB)(st:List Str)(g:Str)(r:Rm)(p q:Pt):Int:=rm (jA es st g) p q - rm r p q
def out(es:LB)(st:List Str)(g:Str)(r:Rm)(p:Pt):Int:=sm (uF es st g) (fl es st g r p)
structure Base(es:LB)(st:List Str)(g:Str)(r:Rm):Prop where
 ndi:m5 r
 adj:∀p q,dH r p q↔dH (jA es st g) p q
 keys:r.map (·.1)=uF es st g
 nn:∀p q,0<=rm r p q
 anti:∀p q,fl es st g r p q=- fl es st g r q p
structure Flow(es:LB)(st:List Str)(g:Str)(r:Rm):Prop extends Base es st g r where
 cons:∀x,x≠eA->x≠tO g->out es st g r x=0
theorem cF:(uF es st g).Nodup:=uD.ndk
theorem r6:Flow es st g (jA es st g):=by
 have e:∀p q,fl es st g (jA es st g) p q=0:=fun p q=>by unfold fl;omega
 refine⟨⟨uD.ndi,fun p q=>Wd,rfl,fun p q=>Hi,fun p q=>by rw[e,e];rfl⟩,fun x _ _=>?_⟩;unfold out;rw[NA (g:=fun _=>0) fun q _=>e x q];exact yG _
theorem iB{p q:Pt}(h:dH (jA es st g) p q):dH (jA es st g) q p:=cB.mpr (uD.sym p q (cB.mp h)).1
theorem bB{p q:Pt}(h:dH (jA es st g) p q):p∈uF es st g:=AA.mp (uD.sym p q (cB.mp h)).2
theorem mO{p q:Pt}(h:dH (jA es st g) p q):p≠q:=by
 rcases AB.mp (cB.mp h) with⟨v,m⟩| ⟨v,m⟩
 exact KF (MB _ m).1;exact(KF (MB _ m).1).symm
section
variable{r:Rm}
theorem Base.dom(b:Base es st g r):oZ r:=fun p q h=>by have a:=(b.adj p q).mp (cB.mpr h);rw[AA,b.keys];exact bB (iB a)
theorem Base.bg(b:Base es st g r):Key r eA:=by rw[AA,b.keys];refine AA.mp ?_;show Key (jA es st g) eA;rw[xE];exact VJ.mpr (.inl ⟨[],if_pos rfl⟩)
theorem Base.len(b:Base es st g r):r.length=(jA es st g).length:=by have:=congrArg qg b.keys;unfold uF at this;rw[QD,QD]at this;exact this
theorem Base.adjw(b:Base es st g r){p q:Pt}(h:0<rm r p q):dH (jA es st g) p q:=(b.adj p q).mp (by
 unfold rm at h;cases e:look (lk r p) q with
 |none=>rw[e]at h;exact absurd h (wu 0)
 |some v=>exact⟨v,e⟩)
theorem ZN{u:Pt}{l:Inn}(h:u∈r.map (·.1)):(put r u l).map (·.1)=r.map (·.1):=by rw[put_keys,if_pos h]
theorem Base.pushed(b:Base es st g r){u v:Pt}(h:0<rm r u v):Base es st g (HU r u v):=by
 have a:=b.adjw h;have ne:=mO a;have e:=IQ (r:=r) ne;refine⟨J3 ne b.ndi,fun p q=>?_,?_,fun p q=>?_,fun p q=>?_⟩;rw[x5 ne ((b.adj u v).mpr a) ((b.adj v u).mpr (iB a))];exact b.adj p q;have ku:u∈r.map (·.1):=by rw[b.keys];exact bB a
 have kv:v∈r.map (·.1):=by rw[b.keys];exact bB (iB a)
 unfold HU;rw[ZN (by rw[ZN ku];exact kv),ZN ku];exact b.keys;rw[e];have:=b.nn p q;by_cases c:p=u/\q=v;rw[if_pos c,c.1,c.2];split<;>omega;rw[if_neg c];split<;>omega;unfold fl;rw[e,e];have:=b.anti p q;unfold fl at this;by_cases c1:p=v/\q=u;rw[if_pos c1,if_pos (c:=q=u/\p=v) ⟨c1.2,c1.1⟩,if_neg (c:=p=u/\q=v) (fun z=>ne (z.1.symm.trans c1.1)),if_neg (c:=q=v/\p=u) (fun z=>ne (z.2.symm.trans c1.1))];omega;rw[if_neg c1,if_neg (c:=q=u/\p=v) (fun z=>c1 ⟨z.2,z.1⟩)];by_cases c2:p=u/\q=v;rw[if_pos c2,if_pos (c:=q=v/\p=u) ⟨c2.2,c2.1⟩];omega;rw[if_neg c2,if_neg (c:=q=v/\p=u) (fun z=>c2 ⟨z.2,z.1⟩)];omega
theorem cT(b:Base es st g r){u v:Pt}(h:0<rm r u v)(x:Pt):out es st g (HU r u v) x=out es st g r x+(if x=u then 1 else 0) - (if x=v then 1 else 0):=by
 have a:=b.adjw h;have ne:=mO a;unfold out;have e:∀q,fl es st g (HU r u v) x q=fl es st g r x q+((if q=v then(if x=u then 1 else 0) else 0)+-(if q=u then(if x=v then 1 else 0) else 0)):=fun q=>by unfold fl;rw[IQ ne];by_cases c1:x=u;have c2:x≠v:=fun z=>ne (c1.symm.trans z);rw[if_neg (c:=x=v/\q=u) (fun z=>c2 z.1),if_pos c1,if_neg c2];by_cases c3:q=v;rw[if_pos (c:=x=u/\q=v) ⟨c1,c3⟩,if_pos c3];split<;>omega;rw[if_neg (c:=x=u/\q=v) (fun z=>c3 z.2),if_neg c3];split<;>omega;rw[if_neg (c:=x=u/\q=v) (fun z=>c1 z.1),if_neg c1];by_cases c2:x=v;rw[if_pos c2];by_cases c3:q=u;rw[if_pos (c:=x=v/\q=u) ⟨c2,c3⟩,if_pos c3];split<;>omega;rw[if_neg (c:=x=v/\q=u) (fun z=>c3 z.2),if_neg c3];split<;>omega;rw[if_neg (c:=x=v/\q=u) (fun z=>c2 z.1),if_neg c2];split<;>split<;>omega
 rw[NA fun q _=>e q,GG,GG,dI,fI cF (bB (iB a)),fI cF (bB a)];omega
end
section
variable{r rs:Rm}{ks:List Pt}
theorem CF.find{vs:List D}(h:CF r ks vs){q:Pt}(m:q∈ks)(ne:q≠eA):∃ks1 vs1 p ks2 vs2,CF r ks1 vs1/\p∈ks1/\G6 r p q/\q∉ks1/\ks=ks1++q::ks2/\vs=vs1++pr p::vs2:=by
 induction h with
 |bg=>exact absurd (QI.mp m) ne
 |@add ks vs p x c hp w n ih=>by_cases e:q∈ks;obtain⟨ks1,vs1,p1,ks2,vs2,a1,a2,a3,a4,a5,a6⟩:=ih e;exact⟨ks1,vs1,p1,ks2++[x],vs2++[pr p],a1,a2,a3,a4,by rw[a5,qr];rfl,by rw[a6,qr];rfl⟩;have e2:q=x:=QI.mp ((Qf.mp m).resolve_left e);subst e2;exact⟨ks,vs,p,[],[],c,hp,w,n,rfl,rfl⟩
structure LC(es:LB)(st:List Str)(g:Str)(rs r:Rm)(here:Pt)(ks:List Pt):Prop extends Base es st g r where
 cons:∀x,x≠eA->x≠tO g->out es st g r x=if x=here then 1 else 0
 val:out es st g r eA=out es st g rs eA+if here=eA then 1 else 0
 fresh:∀p,∀q∈ks,rm rs p q<=rm r p q
theorem EX(f:Flow es st g rs)(ks:List Pt):LC es st g rs rs (tO g) ks:=by refine⟨f.toBase,fun x h1 h2=>?_,?_,fun p q _=>QB6 _⟩;rw[if_neg h2];exact f.cons x h1 h2;rw[if_neg (fun z=>DB z.symm)];omega
theorem P3{here p:Pt}{ks1:List Pt}(nd:m5 rs)(l:LC es st g rs r here ks)(hh:here∈ks)(hb:here≠eA)(w:G6 rs p here)(hn:here∉ks1)(hs:∀q∈ks1,q∈ks):0<rm r p here/\LC es st g rs (HU r p here) p ks1:=by have h0:0<rm r p here:=Int.lt_of_lt_of_le ((HQ nd).mp w) (l.fresh p here hh);have ne:=mO (l.adjw h0);refine⟨h0,l.toBase.pushed h0,fun x h1 h2=>?_,?_,fun x q hq=>?_⟩;rw[cT l.toBase h0,l.cons x h1 h2];split<;>split<;>omega;rw[cT l.toBase h0,l.val,if_neg hb,if_neg (c:=eA=here) (fun z=>hb z.symm)];by_cases c:p=eA;rw[if_pos c,if_pos c.symm];omega;rw[if_neg c,if_neg (fun z=>c z.symm)];omega;have h1:=l.fresh x q (hs q hq);rw[IQ ne,if_neg (c:=x=p/\q=here) (fun z=>hn (z.2▸hq))];split<;>omega
theorem b9(l:LC es st g rs r eA ks):Flow es st g r/\out es st g r eA=out es st g rs eA+1:=by refine⟨⟨l.toBase,fun x h1 h2=>?_⟩,?_⟩;rw[l.cons x h1 h2,if_neg h1];rw[l.val,if_pos rfl]
end
end
section
variable{es:LB}{st:List Str}{g:Str}{r:Rm}
section
variable{p q y:Pt}{n a:Str}{ks:List Pt}
theorem UJ(b:Base es st g r)(h:rm (jA es st g) q p=0):fl es st g r p q=rm r q p:=by have:=b.anti p q;unfold fl at this ⊢;omega
def CQ(r:Rm)(n:Str):Int:=rm r (fR n) (tO n)
theorem SQ(b:Base es st g r)(n:Str):fl es st g r (tO n) (fR n)=CQ r n:=UJ b (RH fun l=>GE (.inr (.inl ⟨n,rfl,rfl⟩)) l)
theorem SJ(b:Base es st g r)(n:Str):CQ r n<=1:=by rw[<- SQ b];have h1:=Xe (es:=es) (st:=st) (g:=g) (n:=n);have h2:=b.nn (tO n) (fR n);unfold fl;omega
theorem XW(b:Base es st g r)(h:p∉uF es st g∨q∉uF es st g):rm r p q=0:=by refine zN fun a=>?_;have a:=(b.adj p q).mp a;rcases h with h|h;exact h (bB a);exact h (bB (iB a))
theorem U5(l:List Pt)(nd:l.Nodup)(u:Pt)(k:Int)(h:u∉l->k=0):sm l (fun x=>if x=u then k else 0)=k:=by by_cases m:u∈l;exact fI nd m;rw[SM m,h m]
def inn(r:Rm)(n:Str)(y:Pt):Int:=if y=fR n then 0 else rm r (tO n) y
theorem CN(f:Flow es st g r)(h:n≠g):sm (uF es st g) (inn r n)=CQ r n:=by
 have c:=f.cons (tO n) (fun z=>DB z.symm) (fun z=>h (ZB z));unfold out at c;have e:∀y,fl es st g r (tO n) y=(if y=fR n then CQ r n else 0)+- inn r n y:=fun y=>by unfold inn;by_cases e:y=fR n;rw[if_pos e,if_pos e,e,SQ f.toBase];omega;rw[if_neg e,if_neg e];unfold fl;rw[ua e];omega
 rw[NA fun y _=>e y,GG,dI,U5 _ cF (fR n) (CQ r n) (fun z=>XW f.toBase (.inl z))]at c;omega
theorem BN(b:Base es st g r)(n:Str)(y:Pt):0<=inn r n y:=by unfold inn;split;decide;exact b.nn _ _
def D1(r:Rm)(n:Str)(y:Pt):Int:=if y=tO n then 0 else rm r y (fR n)
theorem bT(f:Flow es st g r)(n:Str):sm (uF es st g) (D1 r n)=CQ r n:=by
 have c:=f.cons (fR n) (fun z=>pE z.symm) (fun z=>BA z.symm);unfold out at c;have e:∀y,fl es st g r (fR n) y=- (if y=tO n then CQ r n else 0)+D1 r n y:=fun y=>by unfold D1;by_cases e:y=tO n;rw[if_pos e,if_pos e,e];have:=f.anti (fR n) (tO n);rw[SQ f.toBase]at this;omega;rw[if_neg e,if_neg e,UJ f.toBase (Oi e)];omega
 rw[NA fun y _=>e y,GG,dI,U5 _ cF (tO n) (CQ r n) (fun z=>XW f.toBase (.inr z))]at c;omega
theorem Y8(b:Base es st g r)(n:Str)(y:Pt):0<=D1 r n y:=by unfold D1;split;decide;exact b.nn _ _
def VQ(r:Rm)(n:Str):Prop:=0<rm r (tO n) eA
def bZ(r:Rm)(a b:Str):Prop:=a≠b/\0<rm r (tO b) (fR a)
theorem YI(b:Base es st g r)(h:VQ r n):n∈st/\n≠g:=by
 rcases AB.mp (cB.mp (b.adjw h)) with⟨v,m⟩| ⟨v,m⟩
 exact absurd (MB _ m).1 fun l=>by
  rcases l with⟨e,_⟩| ⟨_,_,e⟩| ⟨_,_,_,e,_⟩
  exact DB e.symm;exact pE e;exact BA e
 rcases zE.mp m with⟨k,mk,ne,e|e⟩| ⟨e,_,_,y|y|y⟩
 ·exact absurd (congrArg qE e) DB
 have:=congrArg (fun w:Wy=>w.2.1) e;rw[ZB this];exact⟨mk,ne⟩;exact absurd (congrArg qE y) DB;exact absurd (congrArg qE y) DB;exact absurd (congrArg qE y) pE
theorem N8(b:Base es st g r){c:Str}(h:bZ r a c):(a,c)∈es/\a≠g:=by
 rcases AB.mp (cB.mp (b.adjw h.2)) with⟨v,m⟩| ⟨v,m⟩
 exact absurd (MB _ m).1 fun l=>by
  rcases l with⟨e,_⟩| ⟨k,e1,e2⟩| ⟨_,_,_,e,_⟩
  exact DB e.symm;exact h.1 ((yH e2).trans (ZB e1).symm);exact BA e
 rcases zE.mp m with⟨k,mk,ne,e|e⟩| ⟨e,me,ne,y|y|y⟩
 ·exact absurd (congrArg qE e).symm BA
 exact absurd (congrArg qE e).symm pE;exact absurd (congrArg qE y).symm BA;exact absurd (congrArg qE y).symm BA;have e1:a=e.1:=yH (congrArg qE y);have e2:c=e.2:=ZB (congrArg (fun w:Wy=>w.2.1) y);rw[e1,e2];exact⟨me,ne.1⟩
theorem GR:inn r n eA=rm r (tO n) eA:=by unfold inn;exact if_neg pE
theorem oN(h:a≠n):inn r n (fR a)=rm r (tO n) (fR a):=by unfold inn;exact if_neg fun z=>h (yH z)
theorem A2(h:a≠n):D1 r a (tO n)=rm r (tO n) (fR a):=by unfold D1;exact if_neg fun z=>h (ZB z).symm
theorem iH(b:Base es st g r)(h:0<rm r p q):p∈uF es st g/\q∈uF es st g:=⟨bB (b.adjw h),bB (iB (b.adjw h))⟩
theorem UT(f:Flow es st g r)(n:Str)(h:n≠g):rm r (tO n) eA<=1:=by by_cases c:0<rm r (tO n) eA;have h1:=FG (fun x _=>BN f.toBase n x) (iH f.toBase c).2;rw[CN f h,GR]at h1;exact QA4 h1 (SJ f.toBase n);omega
theorem J4(f:Flow es st g r)(h:VQ r n):CQ r n=1:=by have ng:=(YI f.toBase h).2;have h1:=FG (fun x _=>BN f.toBase n x) (iH f.toBase h).2;rw[CN f ng,GR]at h1;have:=SJ f.toBase n;unfold VQ at h;omega
theorem T2(f:Flow es st g r)(h:bZ r a n)(ng:n≠g):CQ r n=1:=by have h1:=FG (fun x _=>BN f.toBase n x) (iH f.toBase h.2).2;rw[CN f ng,oN h.1]at h1;have:=SJ f.toBase n;have:=h.2;omega
theorem kW(f:Flow es st g r)(ng:n≠g){x:Pt}(hx:0<inn r n x)(hy:0<inn r n y):x=y:=by
 have vx:x∈uF es st g:=by unfold inn at hx;split at hx;exact absurd hx (wu 0);exact(iH f.toBase hx).2
 have vy:y∈uF es st g:=by unfold inn at hy;split at hy;exact absurd hy (wu 0);exact(iH f.toBase hy).2
 by_cases e:x=y;exact e;have h1:=rW (fun z _=>BN f.toBase n z) vx vy e;rw[CN f ng]at h1;have:=SJ f.toBase n;omega
theorem mT(f:Flow es st g r){b:Str}(ng:n≠g)(h1:bZ r a n)(h2:bZ r b n):a=b :=
 yH (kW f ng (by rw[oN h1.1];exact h1.2) (by rw[oN h2.1];exact h2.2))
theorem LN(f:Flow es st g r)(h1:VQ r n)(h2:bZ r a n):False :=
 pE (kW f (YI f.toBase h1).2 (by rw[GR];exact h1) (by rw[oN h2.1];exact h2.2))
theorem eX(f:Flow es st g r)(h:CQ r n=1):∃y,y≠tO n/\0<rm r y (fR n):=by obtain⟨y,_,hy⟩:=sW (f:=D1 r n) (l:=uF es st g) (by rw[bT f,h];decide);unfold D1 at hy;split at hy;exact absurd hy (wu 0);rename_i ne;exact⟨y,ne,hy⟩
theorem y6(b:Base es st g r)(h:dH r y (fR n)):∃m,y=tO m:=by
 rcases AB.mp (cB.mp ((b.adj _ _).mp h)) with⟨v,m⟩| ⟨v,m⟩
 rcases(MB _ m).1 with⟨_,k,e⟩| ⟨k,e,_⟩| ⟨_,k,_,_,e⟩
 ·exact absurd e.symm BA
 exact⟨k,e⟩;exact absurd e.symm BA;rcases(MB _ m).1 with⟨e,_⟩| ⟨k,e,_⟩| ⟨_,k,_,_,e⟩
 ·exact absurd e.symm pE
 exact absurd e.symm BA;exact⟨k,e⟩
theorem HX(b:Base es st g r)(h:dH r y eA):∃m,y=tO m:=by
 rcases AB.mp (cB.mp ((b.adj _ _).mp h)) with⟨v,m⟩| ⟨v,m⟩
 rcases(MB _ m).1 with⟨_,k,e⟩| ⟨k,_,e⟩| ⟨_,k,_,_,e⟩
 ·exact absurd e DB
 exact absurd e pE;exact absurd e DB;rcases(MB _ m).1 with⟨_,k,e⟩| ⟨k,e,_⟩| ⟨_,k,_,e,_⟩
 ·exact⟨k,e⟩
 exact absurd e DB;exact absurd e pE
theorem M8(f:Flow es st g r)(h:CQ r n=1):∃m,bZ r n m:=by obtain⟨y,ne,hy⟩:=eX f h;obtain⟨m,rfl⟩:=y6 f.toBase ((f.adj _ _).mpr (f.toBase.adjw hy));exact⟨m,fun e=>ne (by rw[e]),hy⟩
theorem HL(f:Flow es st g r){v:Int}(m:(p,tO n,v)∈LV es st g):0<rm r p (tO n):=by
 have c:=xa m;have l:=(MB _ m).1;have back:fl es st g r p (tO n)=rm r (tO n) p:=UJ f.toBase (RH (GE l));unfold fl at back;rw[c]at back;have key:rm r (tO n) p<=1:=by
  rcases zE.mp m with⟨k,mk,ne,e|e⟩| ⟨e,me,ne,y|y|y⟩
  exact absurd (congrArg (fun w:Wy=>w.2.1) e) BA;have e1:p=eA:=congrArg qE e;have e2:n=k:=ZB (congrArg (fun w:Wy=>w.2.1) e);rw[e1];exact UT f n (by rw[e2];exact ne);exact absurd (congrArg (fun w:Wy=>w.2.1) y) BA;exact absurd (congrArg (fun w:Wy=>w.2.1) y) BA;have e1:p=fR e.1:=congrArg qE y;have e2:n=e.2:=ZB (congrArg (fun w:Wy=>w.2.1) y);rw[e1];by_cases c:0<rm r (tO n) (fR e.1);have nn:e.1≠n:=by rw[e2];exact ne.2
  have h1:=FG (fun x _=>Y8 f.toBase e.1 x) (iH f.toBase c).1;rw[bT f,A2 nn]at h1;exact QA4 h1 (SJ f.toBase _);omega
 omega
theorem EO{l m:List Pt}(h1:l.Nodup)(h2:m.Nodup)(h:∀x,x∈l↔x∈m):l.length=m.length:=by have a:=cG h1 fun x hx=>(h x).mp hx;have b:=cG h2 fun x hx=>(h x).mpr hx;omega
def GF(ks:List Pt)(x:Pt):Bool:=decide (x.2="to")&&!decide (fR x.1∈ks)
theorem HD{x:Pt}:GF ks x=true↔∃n,x=tO n/\fR n∉ks:=by unfold GF;rw[Qe,Q7,decide_eq_true_iff,decide_eq_false_iff_not];constructor;rintro⟨h1,h2⟩;exact⟨x.1,QCC rfl h1,h2⟩;rintro⟨n,rfl,h⟩;exact⟨rfl,h⟩
theorem TM(p:Pt->Bool):∀(l:List Pt),sm l (fun x=>if p x=true then 1 else 0)=(l.filter p).length
 |[]=>rfl
 |x::l=>by show(if p x=true then 1 else 0)+sm l _=_;rw[TM p l,WS];by_cases c:p x=true;rw[if_pos c,if_pos c,QL];omega;rw[if_neg c,if_neg c];omega
theorem bQ(f:Flow es st g r)(nd:ks.Nodup)(hk:∀p,p∈ks↔Rch r p)(hg:tO g∉ks):out es st g r eA=(ks.filter (GF ks)).length:=by
 have sub:∀p∈ks,p∈uF es st g:=fun p hp=>by have:=AA.mp (oH f.toBase.dom f.toBase.bg ((hk p).mp hp));rw[f.keys]at this;exact this
 have clo:∀x∈ks,∀y,y∉ks->rm r x y=0:=fun x hx y hy=>by have:=f.nn x y;by_cases c:0<rm r x y;exact absurd ((hk y).mpr (.go ((hk x).mp hx) ((HQ f.ndi).mpr c))) hy;omega
 have s1:sm ((uF es st g).filter fun x=>decide (x∈ks)) (fun x=>out es st g r x)=out es st g r eA:=by
  have hb:eA∈ks:=(hk eA).mpr .bg;have e:∀x∈(uF es st g).filter (fun x=>decide (x∈ks)),out es st g r x=if x=eA then out es st g r eA else 0:=fun x hx=>by by_cases c:x=eA;rw[if_pos c,c];rw[if_neg c];exact f.cons x c fun z=>hg (z▸of_decide_eq_true (Qj.mp hx).2)
  rw[NA e];exact fI (cF.sublist qC) (Qj.mpr ⟨sub _ hb,dT hb⟩)
 have s2:∀x∈(uF es st g).filter (fun x=>decide (x∈ks)),sm ((uF es st g).filter fun y=>!decide (y∈ks)) (fl es st g r x)=if GF ks x=true then 1 else 0:=fun x hx=>by
  have xk:x∈ks:=of_decide_eq_true (Qj.mp hx).2;have xv:=(Qj.mp hx).1;have c0:∀y∈(uF es st g).filter (fun y=>!decide (y∈ks)),y∉ks/\fl es st g r x y=rm (jA es st g) x y:=fun y hy=>by have:=(Qj.mp hy).2;rw[Q7,decide_eq_false_iff_not]at this;refine⟨this,?_⟩;unfold fl;rw[clo x xk y this];omega
  have c1:∀y∈(uF es st g).filter (fun y=>!decide (y∈ks)),∀n,y=tO n->fl es st g r x y=0:=fun y hy n e=>by
   obtain⟨yk,e1⟩:=c0 y hy;rw[e1,e];by_cases cf:x=fR n;rw[cf];exact RH fun l=>GE (.inr (.inl ⟨n,rfl,rfl⟩)) l;rcases Ve (es:=es) (st:=st) (g:=g) cf with z|z
   ·exact z
   have a:dH (jA es st g) x (tO n):=by refine qy fun na=>?_;rw[zN na]at z;exact absurd z (by decide)
   rcases AB.mp (cB.mp a) with⟨v,m⟩| ⟨v,m⟩
   have:=HL f m;rw[clo x xk (tO n) (e▸yk)]at this;exact absurd this (wu 0);rw[RH (GE (MB _ m).1)]
  rcases uD.kind x (AA.mpr xv) with e|⟨n,e|e⟩
  have nc:¬ GF ks x=true:=fun z=>by obtain⟨n,e2,_⟩:=HD.mp z;exact DB (e.symm.trans e2)
  rw[if_neg nc];rw[NA (g:=fun _=>0),yG];intro y hy;by_cases t:∃n,y=tO n;obtain⟨n,t⟩:=t;exact c1 y hy n t;rw[(c0 y hy).2,e];exact RH fun l=>by
   rcases l with⟨_,z⟩| ⟨n,z,_⟩| ⟨_,b,_,_,z⟩
   exact t z;exact DB z;exact t ⟨b,z⟩
  by_cases fk:fR n∈ks
  ·have nc:¬ GF ks x=true:=fun z=>by
    obtain⟨m,e2,h⟩:=HD.mp z;rw[<- ZB (e.symm.trans e2)]at h;exact h fk
   rw[if_neg nc,NA (g:=fun _=>0),yG];intro y hy;rw[(c0 y hy).2,e];exact ua fun z=>(c0 y hy).1 (z▸fk)
  rw[if_pos (HD.mpr ⟨n,e,fk⟩)];have kn:Key (jA es st g) (tO n):=by rw[<- e];exact AA.mpr xv
  have fv:fR n∈uF es st g:=bB (iB (cB.mpr (vM kn)));rw[NA (g:=fun y=>if y=fR n then 1 else 0)];exact fI (cF.sublist qC) (Qj.mpr ⟨fv,by rw[dF fk];rfl⟩);intro y hy;rw[(c0 y hy).2,e];by_cases c:y=fR n;rw[if_pos c,c,ba kn];rw[if_neg c,ua c];have nc:¬ GF ks x=true:=fun z=>by obtain⟨m,e2,_⟩:=HD.mp z;exact BA (e2.symm.trans e)
  rw[if_neg nc,NA (g:=fun _=>0),yG];intro y hy;by_cases t:∃n,y=tO n;obtain⟨n,t⟩:=t;exact c1 y hy n t;rw[(c0 y hy).2,e];exact RH fun l=>by
   rcases l with⟨z,_⟩| ⟨n,z,_⟩| ⟨_,b,_,_,z⟩
   exact pE z.symm;exact BA z.symm;exact t ⟨b,z⟩
 have s3:∀x,out es st g r x=sm ((uF es st g).filter fun y=>decide (y∈ks)) (fl es st g r x)+sm ((uF es st g).filter fun y=>!decide (y∈ks)) (fl es st g r x):=fun x=>LO _ _;have s4:sm ((uF es st g).filter fun x=>decide (x∈ks)) (fun x=>out es st g r x)=sm ((uF es st g).filter fun x=>decide (x∈ks)) (fun x=>if GF ks x=true then 1 else 0):=by rw[NA fun x _=>s3 x,GG,TZ _ fun x _ y _=>f.anti x y,NA s2];omega
 rw[<- s1,s4,TM];have:(((uF es st g).filter fun x=>decide (x∈ks)).filter (GF ks)).length=(ks.filter (GF ks)).length:=by refine EO ((cF.sublist qC).sublist qC) (nd.sublist qC) fun x=>?_;rw[Qj,Qj,Qj,decide_eq_true_iff];exact⟨fun⟨⟨_,h1⟩,h2⟩=>⟨h1,h2⟩,fun⟨h1,h2⟩=>⟨⟨sub x h1,h1⟩,h2⟩⟩
 rw[this]
theorem Y4(f:Flow es st g r):out es st g r eA=(((lk r eA).map (·.1)).filter fun y=>decide (0<rm r y eA)).length:=by
 have e:∀y∈uF es st g,fl es st g r eA y=if decide (0<rm r y eA)=true then 1 else 0:=fun y hy=>by rw[UJ f.toBase Pi];have h0:=f.nn y eA;by_cases c:0<rm r y eA;rw[dT c,if_pos rfl];obtain⟨n,e⟩:=HX f.toBase ((f.adj _ _).mpr (f.toBase.adjw c));rw[e]at c ⊢;have:=UT f n (YI f.toBase c).2;omega;rw[dF c,if_neg (by decide)];omega
 unfold out;rw[NA e,TM];have:((uF es st g).filter fun y=>decide (0<rm r y eA)).length=(((lk r eA).map (·.1)).filter fun y=>decide (0<rm r y eA)).length:=by refine EO (cF.sublist qC) ((f.ndi eA).sublist qC) fun y=>?_;rw[Qj,Qj,decide_eq_true_iff];refine⟨fun⟨_,h⟩=>⟨?_,h⟩,fun⟨_,h⟩=>⟨(iH f.toBase h).1,h⟩⟩;obtain⟨v,hv⟩:=(f.adj eA y).mpr (iB (f.toBase.adjw h));exact QW.mpr ⟨(y,v),dG hv,rfl⟩
 rw[this]
theorem C4(f:Flow es st g r)(hk:∀p,p∈ks↔Rch r p)(hg:tO g∉ks){cut:List Str}(hc:∀n,tO n∈ks->fR n∉ks->n∈cut):¬ ∃a,(a,g)∈es/\Led es st g cut a:=by
 have go:∀p∈ks,∀n v,(p,tO n,v)∈LV es st g->tO n∈ks:=fun p hp n v m=>(hk _).mpr (.go ((hk _).mp hp) ((HQ f.ndi).mpr (HL f m)));have key:∀n,Led es st g cut n->fR n∈ks:=fun n h=>by
  induction h with
  |@st s h k=>obtain⟨k1,k2⟩:=fE.mp k;have t:=go eA ((hk _).mpr .bg) s 2 (zE.mpr (.inl ⟨s,h,k1,.inr rfl⟩));exact qy fun z=>k2 (hc s t z)
  |@ed a b l m k ih=>obtain⟨k1,k2⟩:=fE.mp k;by_cases e:a=b;rw[<- e];exact ih;have t:=go (fR a) ih b 2 (zE.mpr (.inr ⟨(a,b),m,⟨(CK l).1,e⟩,.inr (.inr rfl)⟩));exact qy fun z=>k2 (hc b t z)
 rintro⟨a,m,l⟩;exact hg (go (fR a) (key a l) g 2 (zE.mpr (.inr ⟨(a,g),m,⟨(CK l).1,(CK l).1⟩,.inr (.inr rfl)⟩)))
end
end
inductive Run(r:Rm)(g f:Str):List Str->Str->Prop
 |nil:Run r g f [] f
 |go {c:List Str}{n m:Str}:Run r g f c n->n≠g->bZ r n m->Run r g f (c++[n]) m
inductive Chn(es:LB)(st:List Str)(g:Str):List Str->Str->Prop
 |st {f:Str}:f∈st->f≠g->Chn es st g [] f
 |go {c:List Str}{n m:Str}:Chn es st g c n->n≠g->(n,m)∈es->Chn es st g (c++[n]) m
section
variable{es:LB}{st:List Str}{g:Str}{r:Rm}
section
variable{s n:Str}{c:List Str}
theorem Run.chn(f:Flow es st g r)(hs:VQ r s)(h:Run r g s c n):Chn es st g c n:=by
 induction h with
 |nil=>exact .st (YI f.toBase hs).1 (YI f.toBase hs).2
 |go _ ng nx ih=>exact .go ih ng (N8 f.toBase nx).1
theorem Run.thr1(f:Flow es st g r)(hs:VQ r s)(h:Run r g s c n)(ng:n≠g):CQ r n=1:=by
 cases h with
 |nil=>exact J4 f hs
 |go _ _ nx=>exact T2 f nx ng
theorem Run.pred(h:Run r g s c n):∀x,x∈c∨x=n->x=s∨∃y∈c,bZ r y x:=by
 induction h with
 |nil=>intro x hx;exact hx.elim (fun z=>(nomatch z)) .inl
 |@go c n m _ _ nx ih =>
  intro x hx;rcases hx with hx|rfl;have:x∈c∨x=n:=(Qf.mp hx).imp_right QI.mp;rcases ih x this with z|⟨y,hy,z⟩
  exact .inl z;exact .inr ⟨y,Qp _ hy,z⟩;exact .inr ⟨n,QX _ QE,nx⟩
theorem Run.ng(h:Run r g s c n):∀x∈c,x≠g:=by
 induction h with
 |nil=>exact fun x hx=>(nomatch hx)
 |go _ k _ ih=>intro x hx;rcases Qf.mp hx with z|z;exact ih x z;rw[QI.mp z];exact k
theorem Run.nd(f:Flow es st g r)(hs:VQ r s)(h:Run r g s c n):c.Nodup/\n∉c:=by
 induction h with
 |nil=>exact⟨Qw,fun z=>(nomatch z)⟩
 |@go c n m h k nx ih =>
  have nd:(c++[n]).Nodup:=qb.mpr ⟨ih.1,Qk.mpr ⟨fun z=>(nomatch z),Qw⟩,fun a ha b hb z=>by rw[QI.mp hb]at z;exact ih.2 (z▸ha)⟩;refine⟨nd,fun z=>?_⟩;rcases Qf.mp z with z|z;rcases h.pred m (.inl z) with e|⟨y,hy,e⟩
  ·rw[e]at nx;exact LN f hs nx
  rw[mT f (h.ng m z) e nx]at hy;exact ih.2 hy;exact nx.1 (QI.mp z).symm
theorem Run.apart(f:Flow es st g r){s':Str}(hs:VQ r s)(hs':VQ r s'){c':List Str}{n':Str}(h:Run r g s c n)(h':Run r g s' c' n'):∀x∈c,x∈c'->s=s':=by
 induction h with
 |nil=>exact fun x hx=>(nomatch hx)
 |@go c n m h k nx ih =>
  intro x hx hx';rcases Qf.mp hx with z|z;exact ih x z hx';have z:=QI.mp z;subst z;rcases h.pred x (.inr rfl) with e|⟨y,hy,e⟩<;>rcases h'.pred x (.inl hx') with e'|⟨y',hy',e'⟩
  exact e.symm.trans e';rw[e]at e';exact(LN f hs e').elim;rw[e']at e;exact(LN f hs' e).elim;rw[mT f k e e']at hy;exact ih y' hy hy'
end
end
section
variable{es:LB}{st:List Str}{g:Str}
section
variable{cut c:List Str}
theorem L4{n:Str}(h:Chn es st g c n)(hc:∀x∈c,x∉cut)(ng:n≠g)(nc:n∉cut):Led es st g cut n:=by
 induction h with
 |st h _=>exact .st h (fE.mpr ⟨ng,nc⟩)
 |@go c n m _ k e ih=>exact .ed (ih (fun x hx=>hc x (Qp _ hx)) k (hc n (QX _ QE))) e (fE.mpr ⟨ng,nc⟩)
theorem OY(h:Chn es st g c g)(hl:¬ ∃a,(a,g)∈es/\Led es st g cut a):∃x∈c,x∈cut:=by
 refine qy fun z=>?_;have hc:∀x∈c,x∉cut:=fun x hx m=>z ⟨x,hx,m⟩;cases h with
 |st _ e=>exact e rfl
 |@go c n _ h k e=>exact hl ⟨n,e,L4 h (fun x hx=>hc x (Qp _ hx)) k (hc n (QX _ QE))⟩
def xI:List (List Str)->Prop
 |[]=>True
 |c::cs=>(∀d∈cs,∀x∈c,x∉d)/\xI cs
theorem SW{cut:List Str}:∀{cs:List (List Str)},xI cs->(∀c∈cs,∃x∈c,x∈cut)->∃ps:List Str,ps.length=cs.length/\ps.Nodup/\(∀p∈ps,p∈cut)/\∀p∈ps,∃c∈cs,p∈c
 |[],_,_=>⟨[],rfl,Qw,fun _ z=>(nomatch z),fun _ z=>(nomatch z)⟩
 |c::cs,a,h=>by
  obtain⟨ps,e1,e2,e3,e4⟩:=SW (cs:=cs) a.2 fun d hd=>h d (QG _ hd);obtain⟨x,hx,hc⟩:=h c QE;refine⟨x::ps,by rw[QL,QL,e1],Qk.mpr ⟨fun z=>?_,e2⟩,fun p hp=>?_,fun p hp=>?_⟩;obtain⟨d,hd,hp⟩:=e4 x z;exact a.1 d hd x hx hp;rcases QK.mp hp with z|z
  ·rw[z];exact hc
  exact e3 p z;rcases QK.mp hp with z|z
  ·exact⟨c,QE,by rw[z];exact hx⟩
  obtain⟨d,hd,hp⟩:=e4 p z;exact⟨d,QG _ hd,hp⟩
theorem VV{cs:List (List Str)}(a:xI cs)(h:∀c∈cs,Chn es st g c g)(hl:¬ ∃a,(a,g)∈es/\Led es st g cut a):cs.length<=cut.length:=by obtain⟨ps,e1,e2,e3,_⟩:=SW a fun c hc=>OY (h c hc) hl;rw[<- e1];exact tI e2 e3
end
end
section
variable{ks:List Pt}{vs:List D}{p:Pt}
def bC(ks:List Pt)(vs:List D):List (D×D):=(ks.map pr).zip vs
theorem ka(ks:List Pt)(vs:List D):(iZ ks vs).er=.dict (bC ks vs):=by show PyData.dict ((ks.map pr).zip (ersT (vs.map T.d)))=_;rw[KA];rfl
theorem CJ(h:vs.length=ks.length):(bC ks vs).map (·.1)=ks.map pr:=W4 (by rw[QD];omega)
theorem N4(h:vs.length=ks.length):(bC ks vs).map (·.2)=vs:=W5 (by rw[QD];omega)
theorem PH(h:vs.length=ks.length)(m:p∈ks):IC (bC ks vs)=some true:=by
 cases ks with
 |nil=>exact(nomatch m)
 |cons x ks=>cases vs with
  |nil=>cases h
  |cons y vs=>rfl
theorem vQ{q:Pt}{ks2:List Pt}:∀{ks1:List Pt},q∉ks1->fA ((ks1++q::ks2).map pr) (pr q)=some ks1.length
 |[],_=>e6 rfl
 |x::ks1,h=>by show fA (pr x::(ks1++q::ks2).map pr) (pr q)=_;rw[iY (fun z=>h (by rw[bN z];exact QE)),vQ fun z=>h (QG _ z)];rfl
theorem Hb{ks1 ks2:List Pt}{vs1 vs2:List D}{q:Pt}{n m:Bool}{R:T->Prop}(h1:vs1.length=ks1.length)(h2:vs2.length=ks2.length)(hq:q∉ks1)(k:R (.d (pr p))):RC (.d (.dict (bC (ks1++q::ks2) (vs1++pr p::vs2)))) n (.d (pr q)) m R:=by
 have hl:(vs1++pr p::vs2).length=(ks1++q::ks2).length:=by rw[QM,QM,QL,QL,h1,h2]
 refine Fb (PH hl (p:=q) (QX _ QE)) (mC q) (by rw[CJ hl];exact vQ hq) ?_ k;rw[N4 hl,<- h1,qI (QS _),Nat.sub_self];rfl
theorem G9(a b:Pt):Q6 (pr a) (pr b)=decide (a=b):=by
 rw[qz,decide_eq_true_iff];have e:Q6 (pr a) (pr b)=(Q6 (.str a.1) (.str b.1)&&(Q6 (.str a.2) (.str b.2)&&true)):=by simp[pr,Q6,PyData.eqvAll]
 rw[e,ON,ON,Bool.and_true,Qe,decide_eq_true_iff,decide_eq_true_iff];exact⟨fun h=>QCC h.1 h.2,fun h=>by rw[h];exact⟨rfl,rfl⟩⟩
def BD(es:LB)(st:List Str):Prop:=(∀s∈st,Qs s=true)/\∀e∈es,Qs e.1=true/\Qs e.2=true
theorem zF{a b:Str}(h1:Qs a=true)(h2:Qs b=true):ZE (pr (a,b)):=by refine⟨?_,?_⟩;simp only[pr,WM,wH,h1,h2,Bool.and_self];simp only[pr,QAR,WD];decide
theorem GO:Qs "to"=true:=by decide +kernel
theorem CS:Qs "from"=true:=by decide +kernel
theorem NL:Qs ""=true/\Qs "begin"=true:=by decide +kernel
theorem vY{es:LB}{st:List Str}{g:Str}(h:BD es st)(k:p∈uF es st g):ZE (pr p):=by
 have k:Key (jA es st g) p:=AA.mpr k;rw[xE]at k;rcases VJ.mp k with z|⟨⟨u,v,c⟩,m,z⟩
 rw[QI.mp (AA.mp z)];exact zF NL.1 NL.2;have z:p=u∨p=v:=z;rcases zE.mp m with⟨n,mn,_,e|e⟩| ⟨e,me,_,y|y|y⟩
 cases e;rcases z with z|z<;>subst z;exact zF (h.1 n mn) GO;exact zF (h.1 n mn) CS;cases e;rcases z with z|z<;>subst z;exact zF NL.1 NL.2;exact zF (h.1 n mn) GO;cases y;rcases z with z|z<;>subst z;exact zF (h.2 e me).1 GO;exact zF (h.2 e me).1 CS;cases y;rcases z with z|z<;>subst z;exact zF (h.2 e me).2 GO;exact zF (h.2 e me).2 CS;cases y;rcases z with z|z<;>subst z;exact zF (h.2 e me).1 CS;exact zF (h.2 e me).2 GO
def aO(r:Rm)(kd:List (D×D))(last:D)(th:Pt)(o4:Option Sl):kA:=[some (.own (JA r)),some (.nv (.d (.dict kd))),some (.nv (.d last)),some (.nv (.d (pr th))),o4]
end
section
variable{Ψ:PEv}{Z:PEnds}{q:PT}{r:Rm}{kd:List (D×D)}{last:D}{u v:Pt}
theorem Oh(hk:Key r u)(ha:dH r u v)(hl:(lk r u).length<sizeLine)(k:xA Ψ (fun _=>False) q Z (aO (put r u (put (lk r u) v (rm r u v - 1))) kd last v (some (.nv (.d (pr u)))))) :
  xA Ψ (fun _=>False) (.seq (.six (.idx (.var 0) (.var 4)) (.var 3) (.bin .Sub (.idx (.idx (.var 0) (.var 4)) (.var 3)) (.int 1))) q) Z (aO r kd last v (some (.nv (.d (pr u))))):=by
 obtain⟨x,hx⟩:=ha;have e:rm r u v=x:=by unfold rm;rw[hx];rfl
 rw[e]at k;delta aO at k ⊢;simp?[↓bH];refine aE hk ?_;simp?[↓bU];refine GM hx ?_;simp?[↓zA];refine mH (dE hk) fun f hf=>RM hl ?_;rw[hf];exact k
theorem Nh(hk:Key r v)(ha:dH r v u)(hl:(lk r v).length<sizeLine)(k:xA Ψ (fun _=>False) q Z (aO (put r v (put (lk r v) u (rm r v u+1))) kd last v (some (.nv (.d (pr u)))))) :
  xA Ψ (fun _=>False) (.seq (.six (.idx (.var 0) (.var 3)) (.var 4) (.bin .Add (.idx (.idx (.var 0) (.var 3)) (.var 4)) (.int 1))) q) Z (aO r kd last v (some (.nv (.d (pr u))))):=by
 obtain⟨x,hx⟩:=ha;have e:rm r v u=x:=by unfold rm;rw[hx];rfl
 rw[e]at k;delta aO at k ⊢;simp?[↓bH];refine aE hk ?_;simp?[↓bU];refine GM hx ?_;simp?[↓zA];refine mH (dE hk) fun f hf=>RM hl ?_;rw[hf];exact k
end
theorem Base.inn{es:LB}{st:List Str}{g:Str}{r:Rm}(b:Base es st g r)(p:Pt):(lk r p).length<=(jA es st g).length:=by
 have:=cG (ns:=uF es st g) (b.ndi p) fun q hq=>by obtain⟨e,he,z⟩:=QW.mp hq;have a:dH r p q:=cB.mpr ⟨e.2,by rw[<- z];exact he⟩;exact bB (iB ((b.adj p q).mp a))
 unfold uF at this;rw[QD,QD]at this;exact this
section
variable{Ψ:PEv}{Z:PEnds}{es:LB}{st:List Str}{g:Str}
theorem G3{rs r:Rm}{ks:List Pt}{vs:List D}{th:Pt}{last:D}{o4:Option Sl}{ks0 ks9:List Pt}{vs0' vs9:List D}(hsz:(jA es st g).length<=1000)(hn:m5 rs)(cf:CF rs ks0 vs0')(ek:ks=ks0++ks9)(ev:vs=vs0'++vs9)(h9:vs9.length=ks9.length)(ht:th∈ks0)(hb:th≠eA)(lc:LC es st g rs r th ks0)
  (k:∀ks1 vs1 ks8 vs8 p r',CF rs ks1 vs1->ks=ks1++ks8->vs=vs1++vs8->vs8.length=ks8.length->ks1.length<ks0.length->p∈ks1->LC es st g rs r' p ks1->Z.nx (aO r' (bC ks vs) last p (some (.nv (.d (pr p)))))) :
  xA Ψ (fun _=>False) vE Z (aO r (bC ks vs) last th o4):=by
 have hz:sizeLine=16777216:=QV;obtain⟨ks1,vs1,p,ks2,vs2,c1,hp,w,nt,e1,e2⟩:=cf.find ht hb;have l0:=cf.len;have l1:=c1.len;have l2:vs2.length=ks2.length:=by rw[e1,e2,QM,QM,QL,QL]at l0;omega
 have ek':ks=ks1++th::(ks2++ks9):=by rw[ek,e1,qr];rfl
 have ev':vs=vs1++pr p::(vs2++vs9):=by rw[ev,e2,qr];rfl
 obtain⟨pos,lc'⟩:=P3 hn lc ht hb w nt fun q hq=>by rw[e1];exact Qp _ hq
 have a:=lc.adjw pos;have ne:=mO a;have kp:Key r p:=by rw[AA,lc.keys];exact bB a
 have kt:Key r th:=by rw[AA,lc.keys];exact bB (iB a)
 have li:=lc.toBase.inn;have st1:xA Ψ (fun _=>False) (.seq (.set 3 (.var 4)) .nil) Z (aO (HU r p th) (bC ks vs) last th (some (.nv (.d (pr p))))):=by have:=k ks1 vs1 (th::(ks2++ks9)) (pr p::(vs2++vs9)) p (HU r p th) c1 ek' ev' (by rw[QL,QL,QM,QM];omega) (by rw[e1,QM,QL];omega) hp lc';unfold aO at this;delta aO;simp?[↓zA];exact this
 have st2:xA Ψ (fun _=>False) (.seq (.six (.idx (.var 0) (.var 4)) (.var 3) (.bin .Sub (.idx (.idx (.var 0) (.var 4)) (.var 3)) (.int 1))) (.seq (.six (.idx (.var 0) (.var 3)) (.var 4) (.bin .Add (.idx (.idx (.var 0) (.var 3)) (.var 4)) (.int 1))) (.seq (.set 3 (.var 4)) .nil))) Z (aO r (bC ks vs) last th (some (.nv (.d (pr p))))):=by have i1:=li p;have i2:=li th;refine Oh kp ((lc.adj _ _).mpr a) (by omega) (Nh ?_ ?_ ?_ st1);exact UH.mpr (.inr kt);show dH _ th p;have:=(lc.adj th p).mpr (iB a);unfold dH at this ⊢;rw[yE,if_neg ne];exact this;rw[yE,if_neg ne];omega
 unfold aO at st2;delta aO;delta vE;simp?[↓zA];rw[ek',ev']at st2 ⊢;refine Hb l1 (by rw[QM,QM];omega) nt ?_;simp?[↓zA];exact st2
end
section
variable{es:LB}{st c:List Str}{g a f:Str}{ks:List Pt}{vs:List D}{K:T->List T->Prop}{E:XE}{Ψ:PEv}{W:List T->Prop}{n m:Bool}{ρ:kA}{R:T->Prop}{r:Rm}{Z:PEnds}{L:Bool->Prop}{Q:T->Bool->Prop}{i:Nat}{cs:List (List Str)}
def lF:PSp where
 md:=[.chg]
 run:=fun ds Q _=>∃(es:LB) (st:List Str) (g:Str) (rs:Rm) (ks:List Pt) (vs:List D),ds=[JA rs,.d (.dict (bC ks vs)),.d (pr (tO g))]/\((jA es st g).length<=1000/\BD es st/\Flow es st g rs/\CF rs ks vs/\tO g∈ks)/\∀r',Flow es st g r'->out es st g r' eA=out es st g rs eA+1->Q (.d .none) [JA r']
 mono:=fun h _ z=>by obtain⟨es,st,g,rs,ks,vs,e,l,q⟩:=z;exact⟨es,st,g,rs,ks,vs,e,l,fun r' a b=>h _ _ (q r' a b)⟩
theorem x0{rs:Rm}(h1:(jA es st g).length<=1000)(h2:BD es st)(h3:Flow es st g rs)(h4:CF rs ks vs)(h5:tO g∈ks)(q:∀r',Flow es st g r'->out es st g r' eA=out es st g rs eA+1->K (.d .none) [JA r']):PD lF [JA rs,.d (.dict (bC ks vs)),.d (pr (tO g))] K E:=⟨es,st,g,rs,ks,vs,rfl,⟨h1,h2,h3,h4,h5⟩,q⟩
theorem F8(hB:Ψ.va "BEGIN"=some (pr eA))(ds Q E)(h:lF.run ds Q E):ds.length=JE.length/\xA Ψ (fun _=>False) LF (vB lF JE.length Q) (nA cJ lF.md ds):=by
 obtain⟨es,st,g,rs,ks,vs,rfl,⟨h1,h2,fl,cf,hg⟩,q⟩:=h;refine UI [some (.own (JA rs)),some (.nv (.d (.dict (bC ks vs)))),some (.nv (.d (pr (tO g)))),none,none] rfl rfl rfl ?_;delta LF;simp?[↓zA];refine fH (fun m ρ=>∃r ks0 vs0' ks9 vs9 th o4,m=ks0.length/\CF rs ks0 vs0'/\ks=ks0++ks9/\vs=vs0'++vs9/\vs9.length=ks9.length/\th∈ks0/\LC es st g rs r th ks0/\ρ=aO r (bC ks vs) (pr (tO g)) th o4) ks.length ⟨rs,ks,vs,[],[],tO g,_,rfl,cf,by rw[wK],by rw[wK],rfl,hg,EX fl ks,rfl⟩ ?_;rintro m ρ ⟨r,ks0,vs0',ks9,vs9,th,o4,em,c0,ek,ev,h9,ht,lc,rfl⟩;have okt:ZE (pr th):=vY h2 (by have:=oH fl.toBase.dom fl.toBase.bg (c0.rch th ht);rw[AA,fl.keys]at this;exact this);have okb:ZE (pr eA):=zF NL.1 NL.2;have hcmp:∀L:Bool->Prop,L (!decide (th=eA))->HB .NotEq (.d (pr th)) (.d (pr eA)) L:=fun L l=>by show ZE (pr th)/\ZE (pr eA)/\L (!PyData.eqv (pr th) (pr eA));rw[G9];exact⟨okt,okb,l⟩
 by_cases e:th=eA;subst e;delta aO;simp?[↓XG hB];refine hcmp _ ?_;rw[dT rfl];obtain⟨f1,f2⟩:=b9 lc;exact q r f1 f2;have hp:=fun(Z:PEnds) hz=>G3 (Ψ:=Ψ) (Z:=Z) (last:=pr (tO g)) (o4:=o4) h1 fl.ndi c0 ek ev h9 ht e lc hz;unfold aO at hp;delta aO;simp?[↓XG hB];refine hcmp _ ?_;rw[dF e];refine hp _ fun ks1 vs1 ks8 vs8 p r' a1 a2 a3 a4 a5 a6 a7=>⟨ks1.length,by omega,r',ks1,vs1,ks8,vs8,p,_,rfl,a1,a2,a3,a4,a6,a7,rfl⟩
theorem EV{l:Inn}:GK .val [(rD l,false)] W=W ((l.map fun e=>pr e.1).map T.d):=HP _ _
theorem u7{kvs:List (D×D)}(h:IC kvs=some true):GK .val [(.d (.dict kvs),n)] W=W ((kvs.map (·.1)).map T.d):=by unfold GK GB;rw[oA];show NB .val [JB kvs] W=_;unfold JB;rw[h];exact HP _ _
theorem F6{a b elt:PX}{t:Str}{x:T}{R:Option T->Prop}:NH Ψ E [] [t] (.nm 0) (.and a b) elt ρ x R=sO Ψ (.and a b) E (some (.nv x)::lockA ρ) fun k ρ2=>if k=true then tB Ψ elt E ρ2 fun y n _=>GC y n (R (some y)) else R none:=rfl
theorem JO{p:Pt}:RC (.d (pr p)) n (.d (.int 0)) m R=R (.d (.str p.1)):=by delta pr;rw[T6,DL,kC]
theorem Db{p:Pt}:RC (.d (pr p)) n (.d (.int 1)) m R=R (.d (.str p.2)):=by delta pr;rw[T6,DV,kC]
theorem M5:(T.d (.tuple [.str a,.str "from"]))=.d (pr (fR a)):=rfl
theorem OW:(T.d (.tuple [.str a,.str "to"]))=.d (pr (tO a)):=rfl
def PB:PSp where
 md:=[.nv]
 run:=fun ds Q _=>∃(es:LB) (st:List Str) (g:Str) (r:Rm) (n:Str),ds=[JA r,.d (.str n)]/\((jA es st g).length<=1000/\Flow es st g r/\CQ r n=1)/\∀m,bZ r n m->Q (.d (.str m)) []
 mono:=fun h _ z=>by obtain⟨es,st,g,r,n,e,l,q⟩:=z;exact⟨es,st,g,r,n,e,l,fun m a=>h _ _ (q m a)⟩
theorem EQ{n:Str}(h1:(jA es st g).length<=1000)(h2:Flow es st g r)(h3:CQ r n=1)(q:∀m,bZ r n m->K (.d (.str m)) []):PD PB [JA r,.d (.str n)] K E:=⟨es,st,g,r,n,rfl,⟨h1,h2,h3⟩,q⟩
theorem AU(ds Q E)(h:PB.run ds Q E):ds.length=nD.length/\xA Ψ (fun _=>False) kE (vB PB nD.length Q) (nA VG PB.md ds):=by
 obtain⟨es,st,g,r,n,rfl,⟨h1,fl,ht⟩,q⟩:=h;have hz:sizeLine=16777216:=QV;have hi:=fl.toBase.inn (fR n);obtain⟨m0,nx⟩:=M8 fl ht;have a0:dH r (fR n) (tO m0):=(fl.adj _ _).mpr (iB (fl.toBase.adjw nx.2));have kf:Key r (fR n):=by rw[AA,fl.keys];exact bB ((fl.adj _ _).mp a0)
 refine CA [some (.nv (JA r)),some (.nv (.d (.str n))),none] rfl rfl rfl ?_;delta kE;simp?[M5,↓bH];refine⟨by omega,aE kf ?_⟩;simp?[↓dZ,↓EV];have e0:((lk r (fR n)).map fun e=>pr e.1).map T.d=((lk r (fR n)).map (·.1)).map fun p=>T.d (pr p):=by rw[QY,QY];rfl
 rw[e0];refine XA (fun p=>T.d (pr p)) (fun(p:Pt)=>T.d (.str p.1)) (fun p=>!decide (p.1=n)&&decide (0<rm r p (fR n))) ((lk r (fR n)).map (·.1)) [] _ (fun x hx R hR=>?_) (by show 0+((lk r (fR n)).map (·.1)).length<=_;rw[QD];omega) ?_;obtain⟨e,he,ee⟩:=QW.mp hx;have ax:dH r (fR n) x:=cB.mpr ⟨e.2,by rw[<- ee];exact he⟩;have ax':dH r x (fR n):=(fl.adj _ _).mpr (iB ((fl.adj _ _).mp ax));have kx:Key r x:=by rw[AA,fl.keys];exact bB ((fl.adj _ _).mp ax')
 obtain⟨v,hv⟩:=ax';have ev:rm r x (fR n)=v:=by unfold rm;rw[hv];rfl
 rw[ev]at hR;simp?[↓F6,↓JO,↓bH];by_cases c:x.1=n;rw[dT c]at hR ⊢;exact hR;rw[dF c]at hR ⊢;simp only[QA7,↓reduceIte];refine aE kx ?_;simp?[↓bU];refine GM hv ?_;simp?[↓JO];by_cases d:0<v;rw[dT d]at hR ⊢;exact hR;rw[dF d]at hR ⊢;exact hR;have hm:tO m0∈((lk r (fR n)).map (·.1)).filter fun p=>!decide (p.1=n)&&decide (0<rm r p (fR n)):=by obtain⟨v,hv⟩:=a0;refine Qj.mpr ⟨QW.mpr ⟨_,dG hv,rfl⟩,?_⟩;rw[dF (show ¬ (tO m0).1=n from fun z=>nx.1 z.symm),dT nx.2];rfl
 cases ef:((lk r (fR n)).map (·.1)).filter fun p=>!decide (p.1=n)&&decide (0<rm r p (fR n)) with
 |nil=>rw[ef]at hm;exact(nomatch hm)
 |cons y ys =>
  have hy:y∈((lk r (fR n)).map (·.1)).filter fun p=>!decide (p.1=n)&&decide (0<rm r p (fR n)):=by rw[ef];exact QE
  have hy2:=(Qj.mp hy).2;rw[Qe,Q7,decide_eq_false_iff_not,decide_eq_true_iff]at hy2;obtain⟨m,rfl⟩:=y6 fl.toBase ((fl.adj _ _).mpr (fl.toBase.adjw hy2.2));rw[Qn,VA (fun p:Pt=>PyData.str p.1)];simp?[↓zA];rw[QN,DL];simp?[↓zA];exact q m ⟨fun z=>hy2.1 z.symm,hy2.2⟩
def XC:PSp where
 md:=[.nv]
 run:=fun ds Q _=>∃(es:LB) (st:List Str) (g:Str) (r:Rm) (f:Str),ds=[JA r,.d (.str f),.d (.str g)]/\((jA es st g).length<=1000/\Flow es st g r/\VQ r f)/\∀c,Run r g f c g->Q (.lst ((c.map PyData.str).map T.d)) []
 mono:=fun h _ z=>by obtain⟨es,st,g,r,n,e,l,q⟩:=z;exact⟨es,st,g,r,n,e,l,fun m a=>h _ _ (q m a)⟩
theorem VU(h1:(jA es st g).length<=1000)(h2:Flow es st g r)(h3:VQ r f)(q:∀c,Run r g f c g->K (.lst ((c.map PyData.str).map T.d)) []):PD XC [JA r,.d (.str f),.d (.str g)] K E:=⟨es,st,g,r,f,rfl,⟨h1,h2,h3⟩,q⟩
theorem M7(fl:Flow es st g r)(hf:VQ r f){n:Str}(h:Run r g f c n):(∀x∈c,tO x∈uF es st g)/\tO n∈uF es st g:=by
 induction h with
 |nil=>exact⟨fun x hx=>(nomatch hx),(iH fl.toBase hf).1⟩
 |go _ _ nx ih=>refine⟨fun x hx=>?_,(iH fl.toBase nx.2).1⟩;rcases Qf.mp hx with z|z;exact ih.1 x z;rw[QI.mp z];exact ih.2
theorem OS(fl:Flow es st g r)(hf:VQ r f){n:Str}(h:Run r g f c n):c.length<=(jA es st g).length:=by
 have nd:=(h.nd fl hf).1;have:=cG (ks:=c.map tO) (ns:=uF es st g) (Wn tO (fun a b ne z=>ne (ZB z)) nd) fun p hp=>by obtain⟨x,hx,e⟩:=QW.mp hp;rw[<- e];exact(M7 fl hf h).1 x hx
 unfold uF at this;rw[QD,QD]at this;exact this
def ja(r:Rm)(f g:Str)(c:List Str)(n:Str):kA:=[some (.nv (JA r)),some (.nv (.d (.str f))),some (.nv (.d (.str g))),some (.own (.lst ((c.map PyData.str).map T.d))),some (.nv (.d (.str n)))]
theorem M4(h1:Ψ.sp "name_behind"=PB){n:Str}(hs:(jA es st g).length<=1000)(fl:Flow es st g r)(ht:CQ r n=1)(hl:c.length<=1000)(k:∀m,bZ r n m->Z.nx (ja r f g (c++[n]) m)) :
  xA Ψ (fun _=>False) YD Z (ja r f g c n):=by
 have hz:sizeLine=16777216:=QV;delta ja at k ⊢;delta YD;simp?[↓nO,↓lA (md:=[.nv]) h1 rfl rfl];refine⟨by rw[QD,QD];omega,EQ hs fl ht fun m nx=>?_⟩;have:=k m nx;rw[Qa,Qa]at this;simp?[↓zA];exact this
theorem sX(h1:Ψ.sp "name_behind"=PB)(ds Q E)(h:XC.run ds Q E):ds.length=AD.length/\xA Ψ (fun _=>False) EE (vB XC AD.length Q) (nA yI XC.md ds):=by
 obtain⟨es,st,g,r,f,rfl,⟨hs,fl,hf⟩,q⟩:=h;have hz:sizeLine=16777216:=QV;refine CA [some (.nv (JA r)),some (.nv (.d (.str f))),some (.nv (.d (.str g))),none,none] rfl rfl rfl ?_;delta EE
 simp?[↓zA];refine⟨Qy _,fH (fun m ρ=>∃c n,m+c.length=1001/\Run r g f c n/\ρ=ja r f g c n) 1001 ⟨[],f,rfl,.nil,rfl⟩ ?_⟩;rintro m ρ ⟨c,n,em,rn,rfl⟩;have hl:=OS fl hf rn;by_cases e:n=g;subst e;delta ja;simp?[↓zA];exact q c rn;have hp:=fun(Z:PEnds) hz=>M4 (Ψ:=Ψ) (Z:=Z) (f:=f) (g:=g) (c:=c) h1 hs fl (rn.thr1 fl hf e) (by omega) hz;unfold ja at hp;delta ja;simp?[↓zA];rw[dF e];refine hp _ fun m' nx=>?_;have rn':=rn.go e nx;have hl':=OS fl hf rn';rw[QM,Q1]at hl';exact⟨m - 1,by omega,c++[n],m',by rw[QM,Q1];omega,rn',rfl⟩
theorem ga{q:Pt}(hv:vs.length=ks.length)(hb:eA∈ks):HB .NotIn (.d (pr q)) (.d (.dict (bC ks vs))) L=L (!decide (q∈ks)):=by show(∃b,IC (bC ks vs)=some b/\vF b (pr q)/\L (!(fA ((bC ks vs).map (·.1)) (pr q)).isSome))=_;rw[PH hv hb,CJ hv,MN];exact propext ⟨fun⟨_,_,_,h⟩=>h,fun h=>⟨true,rfl,mC q,h⟩⟩
theorem K6{q:Pt}(hv:vs.length=ks.length)(hb:eA∈ks):HB .In (.d (pr q)) (.d (.dict (bC ks vs))) L=L (decide (q∈ks)):=by show(∃b,IC (bC ks vs)=some b/\vF b (pr q)/\L (fA ((bC ks vs).map (·.1)) (pr q)).isSome)=_;rw[PH hv hb,CJ hv,MN];exact propext ⟨fun⟨_,_,_,h⟩=>h,fun h=>⟨true,rfl,mC q,h⟩⟩
theorem Dd{ss:List Str}(h64:ss.length<64)(q:∀ss':List Str,ss'.Perm ss->sortedS ss'=true->Q (.lst ((ss'.map PyData.str).map T.d)) true):eO .sorted [(.lst ((ss.map PyData.str).map T.d),n)] Q:=by unfold eO GB;rw[ID];exact .inl ⟨_,ss,rfl,pA _,h64,q⟩
theorem Fd{ls:List (List Str)}(h64:ls.length<64)(q:∀ls':List (List Str),ls'.Perm ls->Q (.lst ((ls'.map ZC).map T.d)) true):eO .sorted [(.d (.list (ls.map ZC)),n)] Q:=by unfold eO GB;rw[oA];exact .inr (.inl ⟨_,ls,rfl,pA _,h64,q⟩)
def rJ(ks:List Pt):List Str:=(ks.filter (GF ks)).map fun p=>p.1
def eE:PSp where
 md:=[]
 run:=fun ds Q _=>∃(ks:List Pt) (vs:List D),ds=[.d (.dict (bC ks vs))]/\(vs.length=ks.length/\eA∈ks/\ks.length<=1000/\(ks.filter (GF ks)).length<64)/\∀cut:List Str,cut.Perm (rJ ks)->sortedS cut=true->Q (.lst ((cut.map PyData.str).map T.d)) []
 mono:=fun h _ z=>by obtain⟨ks,vs,e,l,q⟩:=z;exact⟨ks,vs,e,l,fun m a b=>h _ _ (q m a b)⟩
theorem ZW(h1:vs.length=ks.length)(h2:eA∈ks)(h3:ks.length<=1000)(h4:(ks.filter (GF ks)).length<64)(q:∀cut:List Str,cut.Perm (rJ ks)->sortedS cut=true->K (.lst ((cut.map PyData.str).map T.d)) []):PD eE [.d (.dict (bC ks vs))] K E:=⟨ks,vs,rfl,⟨h1,h2,h3,h4⟩,q⟩
theorem B2(ds Q E)(h:eE.run ds Q E):ds.length=TD.length/\xA Ψ (fun _=>False) AE (vB eE TD.length Q) (nA jI eE.md ds):=by obtain⟨ks,vs,rfl,⟨hv,hb,h3,h4⟩,q⟩:=h;have hz:sizeLine=16777216:=QV;refine CA [some (.nv (.d (.dict (bC ks vs))))] rfl rfl rfl ?_;delta AE;simp?[↓u7 (PH hv hb),CJ hv];rw[<- VA];refine XA (fun p=>T.d (pr p)) (fun(p:Pt)=>T.d (.str p.1)) (GF ks) ks [] _ (fun x hx R hR=>?_) (by show 0+ks.length<=_;omega) ?_;have hR:R (if(decide (x.2="to")&&!decide (fR x.1∈ks))=true then some (T.d (.str x.1)) else none):=hR;simp?[↓F6,↓JO,↓Db,M5,↓ga hv hb];by_cases c:x.2="to";rw[dT c]at hR ⊢;refine⟨by omega,?_⟩;by_cases d:fR x.1∈ks;rw[dT d]at hR ⊢;exact hR;rw[dF d]at hR ⊢;exact hR;rw[dF c]at hR ⊢;exact hR;rw[Qn,VA (fun p:Pt=>PyData.str p.1),show((ks.filter (GF ks)).map fun p=>PyData.str p.1)=(rJ ks).map PyData.str by unfold rJ;rw[QY];rfl];refine Dd (by unfold rJ;rw[QD];exact h4) fun ss' p1 p2=>?_;simp?[↓zA];exact q ss' p1 p2
theorem sV(f:Flow es st g r):(((lk r eA).map (·.1)).filter fun y=>decide (0<rm r y eA)).length<=st.length:=by
 have hn:∀y∈((lk r eA).map (·.1)).filter (fun y=>decide (0<rm r y eA)),y=tO y.1/\VQ r y.1:=fun y hy=>by have h:=of_decide_eq_true (Qj.mp hy).2;obtain⟨n,rfl⟩:=HX f.toBase ((f.adj _ _).mpr (f.toBase.adjw h));exact⟨rfl,h⟩
 have nd:(((lk r eA).map (·.1)).filter fun y=>decide (0<rm r y eA)).Nodup:=(f.ndi eA).sublist qC;have:=tI (ks:=(((lk r eA).map (·.1)).filter fun y=>decide (0<rm r y eA)).map (·.1)) (ns:=st) (by
  refine Wn _ (fun a b h=>h) (wl (fun {a b} ha hb ne z=>?_) nd);exact ne (by rw[(hn a ha).1,(hn b hb).1,z])) fun s hs=>by
  obtain⟨y,hy,e⟩:=QW.mp hs;rw[<- e];exact(YI f.toBase (hn y hy).2).1
 rw[QD]at this;exact this
theorem XI{α β:Type}{body:T->(Option T->Prop)->Prop}(P:α->β->Prop)(g:α->T)(f:β->T):∀(l:List α) (acc:List T) (Q:List T->Prop),(∀x∈l,∀R:Option T->Prop,(∀y,P x y->R (some (f y)))->body (g x) R)->acc.length+l.length<=sizeLine->(∀ys,Paired P l ys->Q (acc++ys.map f))->eD body (l.map g) acc Q
 |[],acc,Q,_,hl,q=>by have:=q [] .nil;rw[qR,wK]at this;exact⟨by rw[qA]at hl;omega,this⟩
 |x::r,acc,Q,hb,hl,q=>by
  rw[QL]at hl;refine hb x QE _ fun y hy=>⟨by omega,?_⟩
  refine XI P g f r _ Q (fun z hz=>hb z (QG _ hz)) (by rw[QM,Q1];omega) fun ys hp=>?_;have:=q (y::ys) (.cons hy hp);rw[QN]at this;rw[qr];exact this
theorem M6{r:PT}:lJ Ψ E r Z i (iZ ks vs) true ρ=xA Ψ E r Z (ρ.set i (some (.nv (.d (.dict (bC ks vs)))))):=by unfold lJ;rw[ka];exact propext ⟨fun h=>h.2,fun h=>⟨rfl,h⟩⟩
def Ye(c:List Str):T:=.lst ((c.map PyData.str).map T.d)
theorem E9(cs:List (List Str)):ersT (cs.map Ye)=cs.map ZC:=by rw[NN,QY];congr 1;funext c;show PyData.list (ersT ((c.map PyData.str).map T.d))=_;rw[KA];rfl
theorem Lj{r:PT}:lJ Ψ E r Z i (.lst (cs.map Ye)) true ρ=xA Ψ E r Z (ρ.set i (some (.nv (.d (.list (cs.map ZC)))))):=by
 have e:(T.lst (cs.map Ye)).er=.list (cs.map ZC):=by show PyData.list (ersT (cs.map Ye))=_;rw[E9]
 unfold lJ;rw[e];exact propext ⟨fun h=>h.2,fun h=>⟨rfl,h⟩⟩
theorem Od{a b:List T}:YF [.lst a,.lst b]=.tup [.lst a,.lst b]:=rfl
theorem MI:∀{cs:List (List Str)},xI cs↔cs.Pairwise fun c d=>∀x∈c,x∉d
 |[]=>⟨fun _=>.nil,fun _=>trivial⟩
 |c::cs=>by rw[Wb,<- MI];exact Wd
theorem mS{ds:List (List Str)}(h:ds.Perm cs)(a:xI cs):xI ds:=MI.mpr ((h.pairwise_iff (fun {a b} z x hx hy=>z x hy hx)).mpr (MI.mp a))
structure Good(es:LB)(st:List Str)(g:Str)(cs:List (List Str))(cut:List Str):Prop where
 chn:∀c∈cs,Chn es st g c g/\c.Nodup/\∀x∈c,x≠g
 apart:xI cs
 len:cs.length=cut.length
 few:cut.length<=11
 nd:cut.Nodup
 srt:sortedS cut=true
 ng:g∉cut
 led:¬ ∃a,(a,g)∈es/\Led es st g cut a
 okn:∀s∈cut,Qs s=true
end
section
variable{es:LB}{st:List Str}{g:Str}{r:Rm}
theorem IJ(f:Flow es st g r):∀{fs:List Str}{cs:List (List Str)},fs.Nodup->(∀s∈fs,VQ r s)->Paired (fun s c=>Run r g s c g) fs cs->xI cs/\(∀c∈cs,∃s∈fs,Run r g s c g)
 |_,_,_,_,.nil=>⟨trivial,fun _ h=>(nomatch h)⟩
 |s::fs,c::cs,nd,hf,.cons h t=>by
  obtain⟨n1,n2⟩:=Qk.mp nd;obtain⟨a1,a2⟩:=IJ f n2 (fun s hs=>hf s (QG _ hs)) t;refine⟨⟨fun d hd x hx hy=>?_,a1⟩,fun d hd=>?_⟩;obtain⟨s',hs',r'⟩:=a2 d hd;have:=Run.apart f (hf s QE) (hf s' (QG _ hs')) h r' x hx hy;exact n1 (this▸hs');rcases QK.mp hd with z|z
  ·rw[z];exact⟨s,QE,h⟩
  obtain⟨s',hs',r'⟩:=a2 d z;exact⟨s',QG _ hs',r'⟩
def Yg(r:Rm):List Pt:=((lk r eA).map fun e=>e.1).filter fun y=>decide (0<rm r y eA)
def LR(r:Rm):List Str:=(Yg r).map fun p=>p.1
theorem tY(f:Flow es st g r):∀y∈Yg r,y=tO y.1/\VQ r y.1:=fun y hy=>by have h:=of_decide_eq_true (Qj.mp hy).2;obtain⟨n,rfl⟩:=HX f.toBase ((f.adj _ _).mpr (f.toBase.adjw h));exact⟨rfl,h⟩
theorem be(f:Flow es st g r):(LR r).Nodup:=by have nd:(Yg r).Nodup:=(f.ndi eA).sublist qC;refine Wn _ (fun a b h=>h) (wl (fun {a b} ha hb ne z=>?_) nd);exact ne (by rw[(tY f a ha).1,(tY f b hb).1,z])
theorem HR(f:Flow es st g r):∀s∈LR r,VQ r s:=fun s hs=>by obtain⟨y,hy,e⟩:=QW.mp hs;rw[<- e];exact(tY f y hy).2
theorem ZI(f:Flow es st g r):out es st g r eA=(LR r).length/\(LR r).length<=st.length:=by have h1:=Y4 f;have h2:=sV f;unfold LR;rw[QD];exact⟨h1,h2⟩
theorem pK{α β:Type}{P:α->β->Prop}{l:List α}{m:List β}(h:Paired P l m):l.length=m.length:=qJ h
theorem t4(f:Flow es st g r)(hn:BD es st)(h11:st.length<=11){ks:List Pt}{vs:List D}(cf:CF r ks vs)(hk:∀p,p∈ks↔Rch r p)(hg:tO g∉ks){cs ds:List (List Str)}(hp:Paired (fun s c=>Run r g s c g) (LR r) cs)(pd:ds.Perm cs){cut:List Str}(pc:cut.Perm (rJ ks))(sc:sortedS cut=true):Good es st g ds cut:=by
 obtain⟨a1,a2⟩:=IJ f (be f) (HR f) hp;obtain⟨l1,l2⟩:=ZI f;have l3:=bQ f cf.nd hk hg;have l4:(rJ ks).length=(ks.filter (GF ks)).length:=by unfold rJ;rw[QD]
 have l5:=pK hp;have inK:∀s,s∈rJ ks↔tO s∈ks/\fR s∉ks:=fun s=>by unfold rJ;rw[QW];constructor;rintro⟨y,hy,e⟩;obtain⟨h1,h2⟩:=Qj.mp hy;obtain⟨n,e2,h3⟩:=HD.mp h2;subst e2;have e:n=s:=e;subst e;exact⟨h1,h3⟩;rintro⟨h1,h2⟩;exact⟨tO s,Qj.mpr ⟨h1,HD.mpr ⟨s,rfl,h2⟩⟩,rfl⟩
 have ndc:(rJ ks).Nodup:=by unfold rJ;refine Wn _ (fun a b h=>h) (wl (fun {a b} ha hb ne z=>?_) (cf.nd.sublist (qC (p:=GF ks))));obtain⟨n,e1,_⟩:=HD.mp (Qj.mp ha).2;obtain⟨m,e2,_⟩:=HD.mp (Qj.mp hb).2;subst e1 e2;have z:n=m:=z;exact ne (by rw[z])
 have pl:=pc.length_eq;refine⟨fun c hc=>?_,mS pd a1,by rw[pd.length_eq,pl];omega,by omega,pc.nodup_iff.mpr ndc,sc,fun z=>hg ((inK g).mp (pc.mem_iff.mp z)).1,?_,fun s hs=>?_⟩;obtain⟨s,hs,rn⟩:=a2 c (pd.mem_iff.mp hc);have hf:=HR f s hs;exact⟨rn.chn f hf,(rn.nd f hf).1,rn.ng⟩;exact C4 f hk hg fun n h1 h2=>pc.mem_iff.mpr ((inK n).mpr ⟨h1,h2⟩);have h1:=((inK s).mp (pc.mem_iff.mp hs)).1;have h2:=AA.mp (oH f.toBase.dom f.toBase.bg ((hk _).mp h1));rw[f.keys]at h2;have h3:=(vY hn h2).1;simp only[pr,tO,WM,wH,Qe]at h3;exact h3.1
end
def gO(es:LB)(st:List Str)(g:Str)(r:Rm)(kd:List (D×D))(o5 o6:Option Sl):kA:=[some (.nv (.d (.list (es.map pr)))),some (.nv (.d (.list (st.map PyData.str)))),some (.nv (.d (.str g))),some (.own (JA r)),some (.nv (.d (.dict kd))),o5,o6]
section
variable{Ψ:PEv}{Z:PEnds}{es:LB}{st:List Str}{g:Str}{r:Rm}
section
variable{q:PT}{kd:List (D×D)}{o6:Option Sl}
theorem lj(h1:Ψ.sp "rooms_of"=KC)(h2:Ψ.sp "points_reached"=jC)(l1:es.length<=126)(l2:st.length<=11)(k:∀ks vs,CF (jA es st g) ks vs->(∀p,p∈ks↔Rch (jA es st g) p)->xA Ψ (fun _=>False) q Z (gO es st g (jA es st g) (bC ks vs) none none)) :
  xA Ψ (fun _=>False) (.seq (.own 3 (.call "rooms_of" (.nq (.var 0) (.nq (.var 1) (.nq (.var 2) .nr))))) (.seq (.set 4 (.call "points_reached" (.nq (.var 3) .nr))) q)) Z [some (.nv (.d (.list (es.map pr)))),some (.nv (.d (.list (st.map PyData.str)))),some (.nv (.d (.str g))),none,none,none,none]:=by
 have ok:=lP (g:=g) l1 l2;delta gO at k;simp?[↓lA (md:=[]) h1 rfl rfl,↓lA (md:=[.nv]) h2 rfl rfl];refine YU l1 l2 ?_;simp?[↓nO,↓lA (md:=[.nv]) h2 rfl rfl];refine SL (.inl rfl) ok.dom ok.bg ok.sz.1 fun ks vs hc hk=>?_;simp?[↓M6];exact k ks vs hc hk
theorem gj(h2:Ψ.sp "points_reached"=jC)(h3:Ψ.sp "lay_chain"=lF){ks:List Pt}{vs:List D}(hs:(jA es st g).length<=1000)(hn:BD es st)(f:Flow es st g r)(cf:CF r ks vs)(hg:tO g∈ks)
  (k:∀r' ks' vs',Flow es st g r'->out es st g r' eA=out es st g r eA+1->CF r' ks' vs'->(∀p,p∈ks'↔Rch r' p)->Z.nx (gO es st g r' (bC ks' vs') none none)) :
  xA Ψ (fun _=>False) sC Z (gO es st g r (bC ks vs) none none):=by
 have hz:sizeLine=16777216:=QV;delta gO at k ⊢;delta sC;simp?[OW,↓pG (md:=[]) h3 rfl rfl,↓lA (md:=[.nv]) h2 rfl rfl];refine⟨by omega,x0 hs hn f cf hg fun r' f' e=>⟨_,rfl,?_⟩⟩;simp?[↓nO,↓lA (md:=[.nv]) h2 rfl rfl];refine SL (.inl rfl) f'.toBase.dom f'.toBase.bg (by rw[f'.toBase.len];exact hs) fun ks' vs' hc hk=>?_;simp?[↓M6];exact k r' ks' vs' f' e hc hk
theorem fj(hB:Ψ.va "BEGIN"=some (pr eA)){o5:Option Sl}(hs:(jA es st g).length<=1000)(f:Flow es st g r)(k:xA Ψ (fun _=>False) q Z (gO es st g r kd (some (.nv (.d (.list ((LR r).map PyData.str))))) o6)) :
  xA Ψ (fun _=>False) (.seq (.set 5 (.comp [] ["point"] (.nm 0) .val (.nq (.idx (.var 3) (.glo "BEGIN")) .nr) (.cmp .Gt (.idx (.idx (.var 4) (.var 0)) (.glo "BEGIN")) (.int 0)) (.idx (.var 0) (.int 0)))) q) Z (gO es st g r kd o5 o6):=by
 have hz:sizeLine=16777216:=QV;have hi:=f.toBase.inn eA;delta gO at k ⊢;simp?[↓bH,↓XG hB];refine aE f.toBase.bg ?_;simp?[↓dZ,↓EV];have e0:((lk r eA).map fun e=>pr e.1).map T.d=((lk r eA).map fun e=>e.1).map fun p=>T.d (pr p):=by rw[QY,QY];rfl
 rw[e0];refine XA (fun p=>T.d (pr p)) (fun(p:Pt)=>T.d (.str p.1)) (fun y=>decide (0<rm r y eA)) ((lk r eA).map fun e=>e.1) [] _ (fun x hx R hR=>?_) (by show 0+((lk r eA).map fun e=>e.1).length<=_;rw[QD];omega) ?_;obtain⟨e,he,ee⟩:=QW.mp hx;have ax:dH r eA x:=cB.mpr ⟨e.2,by rw[<- ee];exact he⟩;have ax':dH r x eA:=(f.adj _ _).mpr (iB ((f.adj _ _).mp ax));have kx:Key r x:=by rw[AA,f.keys];exact bB ((f.adj _ _).mp ax')
 obtain⟨v,hv⟩:=ax';have ev:rm r x eA=v:=by unfold rm;rw[hv];rfl
 rw[ev]at hR;simp?[↓bH,↓XG hB];refine aE kx ?_;simp?[↓bU,↓XG hB];refine GM hv ?_;simp?[↓JO];by_cases d:0<v;rw[dT d]at hR ⊢;exact hR;rw[dF d]at hR ⊢;exact hR;rw[Qn,VA (fun p:Pt=>PyData.str p.1)];have e1:((((lk r eA).map fun e=>e.1).filter fun y=>decide (0<rm r y eA)).map fun p=>PyData.str p.1)=(LR r).map PyData.str:=by unfold LR Yg;rw[QY];rfl
 rw[e1];simp?[↓zA];exact k
theorem cj(h4:Ψ.sp "chain_from"=XC)(hs:(jA es st g).length<=1000)(h11:st.length<=11)(f:Flow es st g r)(k:∀cs,Paired (fun s c=>Run r g s c g) (LR r) cs->xA Ψ (fun _=>False) q Z (gO es st g r kd (some (.nv (.d (.list ((LR r).map PyData.str))))) (some (.nv (.d (.list (cs.map ZC))))))) :
  xA Ψ (fun _=>False) (.seq (.set 6 (.comp [] ["first"] (.nm 0) .val (.nq (.var 5) .nr) .nop (.call "chain_from" (.nq (.var 4) (.nq (.var 0) (.nq (.var 3) .nr)))))) q) Z (gO es st g r kd (some (.nv (.d (.list ((LR r).map PyData.str))))) o6):=by
 have hz:sizeLine=16777216:=QV;have hl:=(ZI f).2;delta gO at k ⊢;simp?[↓zA];rw[<- VA PyData.str (LR r)];refine XI (fun s c=>Run r g s c g) (fun s=>T.d (.str s)) Ye (LR r) [] _ (fun x hx R hR=>?_) (by show 0+(LR r).length<=_;omega) fun cs hp=>?_;simp?[↓nO,↓lA (md:=[.nv]) h4 rfl rfl];refine VU hs f (HR f x hx) fun c rn=>?_;simp?[↓zA];exact hR c rn;rw[Qn];simp?[↓Lj];exact k cs hp
end
end
section
variable{es es':LB}{g x:Str}{F sr sr':List Str}{n:Int}
def mD:PSp where
 md:=[]
 run:=fun ds Q _=>∃(es:LB) (st:List Str) (g:Str),ds=[.d (.list (es.map pr)),.d (.list (st.map PyData.str)),.d (.str g)]/\(es.length<=126/\st.length<=11/\BD es st)/\∀cs cut,Good es st g cs cut->Q (.tup [.lst ((cs.map ZC).map T.d),.lst ((cut.map PyData.str).map T.d)]) []
 mono:=fun h _ z=>by obtain⟨es,st,g,e,l,q⟩:=z;exact⟨es,st,g,e,l,fun cs cut a=>h _ _ (q cs cut a)⟩
theorem XU{st:List Str}{K:T->List T->Prop}{E:XE}(h1:es.length<=126)(h2:st.length<=11)(h3:BD es st)(q:∀cs cut,Good es st g cs cut->K (.tup [.lst ((cs.map ZC).map T.d),.lst ((cut.map PyData.str).map T.d)]) []):PD mD [.d (.list (es.map pr)),.d (.list (st.map PyData.str)),.d (.str g)] K E:=⟨es,st,g,rfl,⟨h1,h2,h3⟩,q⟩
theorem tX{Ψ:PEv}(h1:Ψ.sp "rooms_of"=KC)(h2:Ψ.sp "points_reached"=jC)(h3:Ψ.sp "lay_chain"=lF)(h4:Ψ.sp "chain_from"=XC)(h5:Ψ.sp "full_names"=eE)(hB:Ψ.va "BEGIN"=some (pr eA))(ds Q E)(h:mD.run ds Q E):ds.length=OC.length/\xA Ψ (fun _=>False) OF (vB mD OC.length Q) (nA AF mD.md ds):=by
 obtain⟨es,st,g,rfl,⟨l1,l2,hn⟩,q⟩:=h;have hz:sizeLine=16777216:=QV;have hs:(jA es st g).length<=1000:=(lP (g:=g) l1 l2).sz.1;refine CA [some (.nv (.d (.list (es.map pr)))),some (.nv (.d (.list (st.map PyData.str)))),some (.nv (.d (.str g))),none,none,none,none] rfl rfl rfl ?_;refine lj h1 h2 l1 l2 fun ks0 vs0' c0 k0=>?_;have b0:=ZI (r6 (es:=es) (st:=st) (g:=g));delta gO;simp?[↓zA];refine fH (fun m ρ=>∃r ks vs,(m:Int)+out es st g r eA=12/\Flow es st g r/\CF r ks vs/\(∀p,p∈ks↔Rch r p)/\ρ=gO es st g r (bC ks vs) none none) (12 - out es st g (jA es st g) eA).toNat ⟨jA es st g,ks0,vs0',by omega,r6,c0,k0,rfl⟩ ?_;rintro m ρ ⟨r,ks,vs,em,f,cf,hk,rfl⟩;have bd:=ZI f;by_cases hg:tO g∈ks;have hp:=fun(Z:PEnds) hz=>gj (Ψ:=Ψ) (Z:=Z) h2 h3 hs hn f cf hg hz;unfold gO at hp;delta gO;simp?[OW,↓K6 cf.len cf.hb];refine⟨by omega,?_⟩;rw[dT hg];refine hp _ fun r' ks' vs' f' e c' k'=>⟨m - 1,?_,r',ks',vs',?_,f',c',k',rfl⟩
 have:=ZI f';omega;have:=ZI f';omega;have hr:xA Ψ (fun _=>False) (.seq (.set 5 (.comp [] ["point"] (.nm 0) .val (.nq (.idx (.var 3) (.glo "BEGIN")) .nr) (.cmp .Gt (.idx (.idx (.var 4) (.var 0)) (.glo "BEGIN")) (.int 0)) (.idx (.var 0) (.int 0)))) (.seq (.set 6 (.comp [] ["first"] (.nm 0) .val (.nq (.var 5) .nr) .nop (.call "chain_from" (.nq (.var 4) (.nq (.var 0) (.nq (.var 3) .nr)))))) (.seq (.ret (.tup (.nq (.bi .sorted (.nq (.var 6) .nr)) (.nq (.call "full_names" (.nq (.var 4) .nr)) .nr)))) .nil))) (eZ Q) (gO es st g r (bC ks vs) none none):=by refine fj hB hs f (cj h4 hs l2 f fun cs hp=>?_);have lc:=pK hp;have l3:=bQ f cf.nd hk hg;delta gO;simp?[↓lA (md:=[]) h5 rfl rfl];refine Fd (by omega) fun ds pd=>?_;simp?[↓lA (md:=[]) h5 rfl rfl];refine ZW cf.len cf.hb (QZ (cf.le f.toBase.dom f.toBase.bg) (by rw[f.toBase.len];exact hs)) (by omega) fun cut pc sc=>?_;simp?[Od];exact⟨by omega,q ds cut (t4 f hn l2 cf hk hg hp pd pc sc)⟩
 unfold gO at hr;delta gO;simp?[OW,↓K6 cf.len cf.hb];refine⟨by omega,?_⟩;rw[dF hg];exact hr
def pJ(es:LB)(F:List Str):LB:=es.filter fun e=>decide (e.1∈F)
theorem XJ{e:Str×Str}:e∈pJ es F↔e∈es/\e.1∈F:=by unfold pJ;rw[Qj,decide_eq_true_iff]
def xF(es:LB)(sr:List Str)(x:Str)(F:List Str)(n:Int):Prop:=∃cs:List (List Str),xI cs/\(∀c∈cs,Chn (pJ es F) sr x c x)/\n<=(cs.length:Int)
theorem Chn.sub(h1:∀e∈es,e∈es')(h2:∀s∈sr,s∈sr'){c:List Str}{n:Str}(h:Chn es sr g c n):Chn es' sr' g c n:=by
 induction h with
 |st a b=>exact .st (h2 _ a) b
 |go _ b c ih=>exact .go ih b (h1 _ c)
theorem xF.sub{F':List Str}{n':Int}(h1:∀e∈es,e∈es')(h2:∀s∈sr,s∈sr')(h3:∀y∈F,y∈F')(hn:n'<=n)(h:xF es sr x F n):xF es' sr' x F' n':=by obtain⟨cs,a,c,l⟩:=h;refine⟨cs,a,fun d hd=>Chn.sub (fun e he=>?_) h2 (c d hd),QA4 hn l⟩;obtain⟨e1,e2⟩:=XJ.mp he;exact XJ.mpr ⟨h1 e e1,h3 _ e2⟩
theorem aP{cs:List (List Str)}{cut:List Str}(gd:Good (pJ es F) sr x cs cut):xF es sr x F n↔n<=(cs.length:Int):=by constructor;rintro⟨ds,a,c,l⟩;have:=VV a c gd.led;rw[<- gd.len]at this;exact QA4 l (Int.ofNat_le.mpr this);exact fun l=>⟨cs,gd.apart,fun c hc=>(gd.chn c hc).1,l⟩
inductive Held(es:LB)(sr:List Str)(nd:List (Str×Int)):Str->Prop
 |see {x:Str}{n:Int}:(x,n)∈nd->x∈sr->Held es sr nd x
 |tell {x:Str}{n:Int}(F:List Str):(x,n)∈nd->(∀y∈F,Held es sr nd y)->xF es sr x F n->Held es sr nd x
end
section
variable{es es':LB}{sr sr':List Str}{nd nd':List (Str×Int)}
theorem oY{S:List Str}(h1:∀x∈S,Held es sr nd x)(h2:∀x n,(x,n)∈nd->x∈sr->x∈S)(h3:∀x n,(x,n)∈nd->x∉S->¬ xF es sr x S n)(x:Str):x∈S↔Held es sr nd x:=by
 refine⟨h1 x,fun h=>?_⟩;induction h with
 |see a b=>exact h2 _ _ a b
 |@tell x n F a _ m ih=>by_cases z:x∈S;exact z;exact absurd (m.sub (fun _ h=>h) (fun _ h=>h) ih (QB6 _)) (h3 x n a z)
theorem YT{x:Str}(h:Held es sr nd x):∃n,(x,n)∈nd:=by
 cases h with
 |see a _=>exact⟨_,a⟩
 |tell _ a=>exact⟨_,a⟩
end
def IB:PSp where
 md:=[.ny,.ny,.ko]
 run:=fun ds Q _=>∃(es:LB) (sr F:List Str) (g:Str),ds=[.d (.list (es.map pr)),.d (.list (sr.map PyData.str)),.lst ((F.map PyData.str).map T.d),.d (.str g)]/\(es.length<=126/\sr.length<=11/\BD es sr)/\∀cs cut,Good (pJ es F) sr g cs cut->Q (.tup [.lst ((cs.map ZC).map T.d),.lst ((cut.map PyData.str).map T.d)]) []
 mono:=fun h _ z=>by obtain⟨es,sr,F,g,e,l,q⟩:=z;exact⟨es,sr,F,g,e,l,fun cs cut a=>h _ _ (q cs cut a)⟩
theorem IO{es:LB}{sr F:List Str}{g:Str}{K:T->List T->Prop}{E:XE}(h1:es.length<=126)(h2:sr.length<=11)(h3:BD es sr)(q:∀cs cut,Good (pJ es F) sr g cs cut->K (.tup [.lst ((cs.map ZC).map T.d),.lst ((cut.map PyData.str).map T.d)]) []):PD IB [.d (.list (es.map pr)),.d (.list (sr.map PyData.str)),.lst ((F.map PyData.str).map T.d),.d (.str g)] K E:=⟨es,sr,F,g,rfl,⟨h1,h2,h3⟩,q⟩
theorem K2{Ψ:PEv}(h1:Ψ.sp "apart_chains"=mD)(ds Q E)(h:IB.run ds Q E):ds.length=MC.length/\xA Ψ (fun _=>False) iD (vB IB MC.length Q) (nA SF IB.md ds):=by
 obtain⟨es,sr,F,g,rfl,⟨l1,l2,hn⟩,q⟩:=h;have hz:sizeLine=16777216:=QV;have l3:(pJ es F).length<=126:=QZ (WH _ _) l1;have hn':BD (pJ es F) sr:=⟨hn.1,fun e he=>hn.2 e (XJ.mp he).1⟩
 refine CA [some (.nv (.d (.list (es.map pr)))),some (.nv (.d (.list (sr.map PyData.str)))),some (.nv (.lst ((F.map PyData.str).map T.d))),some (.nv (.d (.str g)))] rfl rfl rfl ?_;delta iD;simp?[↓lA (md:=[]) h1 rfl rfl];rw[<- VA pr es];refine XA (fun p=>T.d (pr p)) (fun(p:Str×Str)=>T.d (pr p)) (fun p=>decide (p.1∈F)) es [] _ (fun x hx R hR=>?_) (by show 0+es.length<=_;omega) ?_;simp?[↓JO,oG,gE,eB,true_or];by_cases d:x.1∈F;rw[dT d]at hR ⊢;exact hR;rw[dF d]at hR ⊢;exact hR;rw[Qn,VA pr];simp?[↓lA (md:=[]) h1 rfl rfl];refine XU l3 l2 hn' fun cs cut gd=>?_;simp?[↓zA];exact q cs cut gd
section
variable{Ψ:PEv}{E:XE}{ρ:kA}{K:TK}{a b c elt:PX}{ds:List D}{n m:Bool}{L:Bool->Prop}
def V7(x:T)(n:Bool)(Ψ:PEv)(b:PX)(E:XE)(ρ:kA)(K:TK):Prop:=sq (α:=Option Int) (dA x n) ρ (fun ρ R=>(pe Ψ b E).e ρ fun u _ ρ3=>pF u.er fun o=>R o ρ3) fun u ρ3=>fJ (dA x n).vw none u fun z k=>K z k ρ3
def Xc(x:T)(n:Bool)(Ψ:PEv)(b:PX)(E:XE)(ρ:kA)(K:TK):Prop:=sq (α:=Option Int) (dA x n) ρ (fun ρ R=>(pe Ψ b E).e ρ fun u _ ρ3=>pF u.er fun o=>R o ρ3) fun l ρ3=>fJ (dA x n).vw l none fun z k=>K z k ρ3
def uT(x:T)(Q:Option Int->Prop):Prop:=pF x.er Q
theorem Ec{i:Int}{Q:Option Int->Prop}:uT (.d (.int i)) Q=Q (some i):=rfl
theorem pW{x:T}{R:Option Int->kA->Prop}:sq (α:=Option Int) x ρ (fun ρ (R:Option Int->kA->Prop)=>R none ρ) R=R none ρ:=by unfold sq;split<;>rfl
theorem mZ{j:Nat}:tB Ψ (.slc a .nop (.var j)) E ρ K=tB Ψ a E ρ fun x n ρ1=>V7 x n Ψ (.var j) E ρ1 K:=by show(pe Ψ a E).e ρ (fun x n ρ1=>sq (α:=Option Int) (dA x n) ρ1 (fun ρ (R:Option Int->kA->Prop)=>R none ρ) fun l ρ2=>sq (α:=Option Int) (dA x n) ρ2 (fun ρ R=>(pe Ψ (.var j) E).e ρ fun u _ ρ3=>pF u.er fun o=>R o ρ3) fun u ρ3=>fJ (dA x n).vw l u fun z k=>K z k ρ3)=_;simp only[pW];rfl
theorem Pj{x:D}:V7 (.d x) n Ψ b E ρ K=tB Ψ b E ρ fun u _ ρ3=>uT u fun o=>MO (.d x) n none o fun z k=>K z k ρ3:=by cases n<;>rfl
theorem pj{t u:Str}{x y:D}{R:Option T->Prop}{op:CmpOp}:NH Ψ E [] [t,u] (.tp [0,1]) (.cmp op a b) elt ρ (.d (.tuple [x,y])) R=sO Ψ (.cmp op a b) E (some (.nv (.d x))::some (.nv (.d y))::lockA ρ) fun k ρ2=>if k=true then tB Ψ elt E ρ2 fun y n _=>GC y n (R (some y)) else R none:=kC
theorem Af{j:Nat}{es:PX}:tB Ψ (.mt .reverse (.var j) es) E ρ K=VD ρ[j]? fun t=>II .reverse t=true/\mK Ψ es E [] (ρ.set j (some (.nv t))) fun xs ρ2=>LE xs=true/\ρ2[j]?=some (some (.nv t))/\KK .reverse t (fF xs) fun r s'=>K r true (ρ2.set j (some (.own s'))):=rfl
theorem A8{N:T->T->Prop}:KK .reverse (.lst (ds.map T.d)) [] N=N (.d .none) (.lst (ds.reverse.map T.d)):=by refine propext ⟨fun⟨es,e,_,k⟩=>?_,fun k=>⟨ds,rfl,rfl,k⟩⟩;injection e with e;have:=congrArg ersT e;rw[KA,KA]at this;rw[this];exact k
theorem Gi:(T.lst (ds.map T.d)).er=.list ds:=by show PyData.list (ersT (ds.map T.d))=_;rw[KA]
end
theorem DY{α:Type}(l:List α)(k:Nat):UD l none (some (k:Int))=l.take k:=by
 unfold UD;have h1:HT.sIx l.length 0 none=0:=rfl;rw[h1,List.drop_zero,Nat.sub_zero];have h2:HT.sIx l.length l.length (some (k:Int))=min k l.length:=by unfold HT.sIx;simp only;split<;>omega
 rw[h2,List.take_eq_take_iff];omega
theorem FY{α:Type}(l:List α)(k:Nat):UD l (some (k:Int)) none=l.drop k:=by
 unfold UD;have h1:HT.sIx l.length l.length none=l.length:=rfl;have h2:HT.sIx l.length 0 (some (k:Int))=min k l.length:=by unfold HT.sIx;simp only;split<;>omega
 rw[h1,h2,List.take_of_length_le (by rw[Wx];omega)];by_cases c:k<=l.length;rw[Nat.min_eq_left c];rw[Nat.min_eq_right (by omega),QBx,w9 (by omega)]
theorem K4(a b:List D):(T.tup [.lst (a.map T.d),.lst (b.map T.d)]).er=.tuple [.list a,.list b]:=by show PyData.tuple [.list (ersT (a.map T.d)),.list (ersT (b.map T.d))]=_;rw[KA,KA]
theorem Cb{a b:List D}{m:Bool}{t:T}{R:T->Prop}:RC (.tup [.lst (a.map T.d),.lst (b.map T.d)]) true t m R=RC (.d (.tuple [.list a,.list b])) false t m R:=by
 have e:dA (.tup [.lst (a.map T.d),.lst (b.map T.d)]) true=.d (.tuple [.list a,.list b]):=by show T.d (T.tup [.lst (a.map T.d),.lst (b.map T.d)]).er=_;rw[K4]
 unfold RC;rw[e];rfl
section
variable{Ψ:PEv}{E:XE}{ρ:kA}{a c elt:PX}{W:List T->Prop}{R:Option T->Prop}{C:List T->Prop}{xs:List (T×Bool)}{ds:List D}{n m:Bool}
section
variable{md:List Md}{ts:List T}{b:Bool}{t u:Str}
theorem UQ{as:PX}{M:List (T×Bool)->kA->Prop}:mK Ψ (.nq a as) E (.ny::md) ρ M=tB Ψ a E ρ fun x n ρ1=>PZ x n Ψ as E md ρ1 fun xs ρ2=>M ((x,n)::xs) ρ2:=rfl
theorem nk{d:D}:mB (.ny::md) ((.d d,n)::xs) C=mB md xs fun ts=>C (.d d::ts):=by
 have e:YA (.ny::md) ((.d d,n)::xs) []=(YA md xs []).map (.d d::·):=by cases n<;>rfl
 unfold mB;rw[e,rF]
theorem Rb:GK .val [(.lst ts,false)] W=W ts:=by unfold GK GB;exact FK ts
theorem Ae{m:List Bool}{x y:D}{op:CmpOp}:NH Ψ E (b::m) [t,u] (.tp [0,1]) (.cmp op a c) elt ρ (.d (.tuple [x,y])) R=sO Ψ (.cmp op a c) E (some (.nv (.d x))::some (.nv (.d y))::EC (b::m) (lockA ρ)) fun k ρ2=>if k=true then tB Ψ elt E ρ2 fun y n _=>GC y n (R (some y)) else R none:=kC
theorem mj{m:List Bool}{x y:T}:NH Ψ E (b::m) [t,u] (.tp [0,1]) .nop elt ρ (.tup [x,y]) R=tB Ψ elt E (some (.nv x)::some (.nv y)::EC (b::m) (lockA ρ)) fun y n _=>GC y n (R (some y)):=kC
theorem Ug:BK ((.lst [],true)::xs) C=BK xs fun ts=>C (.lst []::ts):=Jk (ds:=[])
theorem OX{d:D}:YF [.d d,.lst ts]=.tup [.d d,.lst ts]:=rfl
theorem Ni{i j:Int}{L:Bool->Prop}:HB .GtE (.d (.int i)) (.d (.int j)) L=L (decide (j<=i)):=rfl
end
end
noncomputable abbrev Rw:=Str×List (List Str)
def zD(r:Rw):T:=.tup [.d (.str r.1),.lst ((r.2.map ZC).map T.d)]
def PC(p:Str×Int):D:=.tuple [.str p.1,.int p.2]
def rV(es:LB)(sr:List Str)(nd:List (Str×Int))(rs:List Rw)(F:List Str)(b:Bool)(o6 o7 o8:Option Sl):kA:=[some (.nv (.d (.list (es.map pr)))),some (.nv (.d (.list (sr.map PyData.str)))),some (.nv (.d (.list (nd.map PC)))),some (.own (.lst (rs.map zD))),some (.own (.lst ((F.map PyData.str).map T.d))),some (.nv (.d (.bool b))),o6,o7,o8]
section
variable{Ψ:PEv}{Z:PEnds}{es:LB}{sr:List Str}{nd:List (Str×Int)}{q:PT}
section
variable{o5 o6 o7 o8:Option Sl}{rs:List Rw}
def SO(sr:List Str)(nd:List (Str×Int)):List Rw:=(nd.filter fun p=>decide (p.1∈sr)).map fun p=>(p.1,[])
theorem Xi(hl:nd.length<=100){o4:Option Sl}(k:xA Ψ (fun _=>False) q Z [some (.nv (.d (.list (es.map pr)))),some (.nv (.d (.list (sr.map PyData.str)))),some (.nv (.d (.list (nd.map PC)))),some (.own (.lst ((SO sr nd).map zD))),o4,o5,o6,o7,o8]) :
  xA Ψ (fun _=>False) (.seq (.own 3 (.comp [false,false,false,false,false,false,true,true] ["name","number"] (.tp [0,1]) .val (.nq (.var 2) .nr) (.cmp .In (.var 0) (.var 3)) (.tup (.nq (.var 0) (.nq (.lst .nr) .nr))))) q) Z [some (.nv (.d (.list (es.map pr)))),some (.nv (.d (.list (sr.map PyData.str)))),some (.nv (.d (.list (nd.map PC)))),none,o4,o5,o6,o7,o8]:=by
 have hz:sizeLine=16777216:=QV;simp?[↓zA];rw[<- VA PC nd];refine XA (fun p=>T.d (PC p)) (fun(p:Str×Int)=>zD (p.1,[])) (fun p=>decide (p.1∈sr)) nd [] _ (fun x hx R hR=>?_) (by show 0+nd.length<=_;omega) ?_;obtain⟨x,n⟩:=x;delta PC;simp?[↓Ae,oG,gE,eB,true_or];by_cases d:x∈sr;rw[dT d]at hR ⊢;simp?[↓Ug,↓OX];exact⟨by omega,by omega,hR⟩;rw[dF d]at hR ⊢;exact hR;rw[Qn];have e:(nd.filter fun p=>decide (p.1∈sr)).map (fun p=>zD (p.1,[]))=(SO sr nd).map zD:=by unfold SO;rw[QY];rfl
 rw[e];exact k
theorem Vi(hl:rs.length<=100)(k:xA Ψ (fun _=>False) q Z [some (.nv (.d (.list (es.map pr)))),some (.nv (.d (.list (sr.map PyData.str)))),some (.nv (.d (.list (nd.map PC)))),some (.own (.lst (rs.map zD))),some (.own (.lst (((rs.map fun r=>r.1).map PyData.str).map T.d))),o5,o6,o7,o8]) :
  xA Ψ (fun _=>False) (.seq (.own 4 (.comp [false,false,false,false,false,false,true,false,true] ["name","chains"] (.tp [0,1]) .val (.nq (.var 3) .nr) .nop (.var 0))) q) Z [some (.nv (.d (.list (es.map pr)))),some (.nv (.d (.list (sr.map PyData.str)))),some (.nv (.d (.list (nd.map PC)))),some (.own (.lst (rs.map zD))),none,o5,o6,o7,o8]:=by
 have hz:sizeLine=16777216:=QV;simp?[↓Rb];refine zB zD (fun r=>T.d (.str r.1)) rs [] _ (fun x hx R hR=>?_) (by show 0+rs.length<=_;omega) ?_;delta zD;simp?[↓mj];exact hR;rw[Qn,VA (fun r:Rw=>PyData.str r.1)];have e:(rs.map fun r=>PyData.str r.1)=(rs.map fun r=>r.1).map PyData.str:=by rw[QY];rfl
 rw[e];exact k
theorem Ki(h1:Ψ.sp "told_through"=IB){F:List Str}{b:Bool}{x:Str}{n:Int}(l1:es.length<=126)(l2:sr.length<=11)(hn:BD es sr)(l3:rs.length<=100)(l4:F.length<=100)
  (k0:x∈F->∀o8,Z.nx (rV es sr nd rs F b (some (.nv (.d (.str x)))) (some (.nv (.d (.int n)))) o8))
  (k1:x∉F->¬ xF es sr x F n->∀o8,Z.nx (rV es sr nd rs F b (some (.nv (.d (.str x)))) (some (.nv (.d (.int n)))) o8))
  (k2:x∉F->xF es sr x F n->∀cs o8,Z.nx (rV es sr nd (rs++[(x,cs)]) (F++[x]) true (some (.nv (.d (.str x)))) (some (.nv (.d (.int n)))) o8)) :
  xA Ψ (fun _=>False) rC Z (rV es sr nd rs F b (some (.nv (.d (.str x)))) (some (.nv (.d (.int n)))) o8):=by
 have hz:sizeLine=16777216:=QV;delta rV at k0 k1 k2 ⊢;delta rC;simp?[oG,gE,eB,true_or];by_cases d:x∈F;rw[dT d];exact k0 d _;rw[dF d];simp?[↓UQ,↓nk,↓lA (md:=[.ny,.ny,.ko]) h1 rfl rfl];refine IO l1 l2 hn fun cs cut gd=>?_;have mi:=aP (n:=n) gd;simp?[↓Cb,↓DL,↓Ni,QD];by_cases c:n<=(cs.length:Int);rw[dT c];simp?[↓mZ,↓Pj,↓Ec,↓OX];rw[SN];refine⟨by omega,by omega,by rw[QD,QD];omega,?_⟩;have:=k2 d (mi.mpr c) (UD cs none (some n)) (some (.nv (.d (.list (cs.map ZC)))));rw[Qa,Qa,Qa]at this;exact this;rw[dF c];exact k1 d (fun z=>c (mi.mp z)) _
end
end
structure GI(es:LB)(sr:List Str)(nd:List (Str×Int))(rs:List Rw)(F:List Str):Prop where
 e:F=rs.map fun r=>r.1
 ndp:F.Nodup
 held:∀x∈F,Held es sr nd x
 see:∀x n,(x,n)∈nd->x∈sr->x∈F
 non:∀r∈rs,r.1∈sr->r.2=[]
section
variable{es:LB}{sr:List Str}{nd:List (Str×Int)}{rs:List Rw}{F:List Str}
theorem GI.len(g:GI es sr nd rs F):F.length<=nd.length:=by
 have:=tI (ns:=nd.map fun p=>p.1) g.ndp fun s hs=>by obtain⟨n,h⟩:=YT (g.held s hs);exact QW.mpr ⟨_,h,rfl⟩
 rw[QD]at this;exact this
theorem GI.rlen(g:GI es sr nd rs F):rs.length=F.length:=by rw[g.e,QD]
theorem Yi(h:(nd.map fun p=>p.1).Nodup):GI es sr nd (SO sr nd) ((SO sr nd).map fun r=>r.1):=by
 have e:((SO sr nd).map fun r=>r.1)=(nd.filter fun p=>decide (p.1∈sr)).map fun p=>p.1:=by unfold SO;rw[QY];rfl
 refine⟨rfl,?_,fun x hx=>?_,fun x n hx hs=>?_,fun r hr _=>?_⟩;rw[e];exact h.sublist (qC.map _);rw[e]at hx;obtain⟨p,hp,rfl⟩:=QW.mp hx;obtain⟨h1,h2⟩:=Qj.mp hp;exact .see (n:=p.2) h1 (of_decide_eq_true h2);rw[e];exact QW.mpr ⟨(x,n),Qj.mpr ⟨hx,dT hs⟩,rfl⟩;unfold SO at hr;obtain⟨p,_,rfl⟩:=QW.mp hr;rfl
theorem GI.add(g:GI es sr nd rs F){x:Str}{n:Int}(hx:(x,n)∈nd)(hF:x∉F)(m:xF es sr x F n)(cs:List (List Str)):GI es sr nd (rs++[(x,cs)]) (F++[x]):=by
 refine⟨by rw[Qa,<- g.e];rfl,qb.mpr ⟨g.ndp,Qk.mpr ⟨fun z=>(nomatch z),Qw⟩,fun a ha b hb e=>?_⟩,fun y hy=>?_,fun y k hy hs=>Qp _ (g.see y k hy hs),fun r hr hs=>?_⟩;rw[QI.mp hb]at e;exact hF (e▸ha);rcases Qf.mp hy with z|z
 ·exact g.held y z
 rw[QI.mp z];exact .tell F hx g.held m;rcases Qf.mp hr with z|z
 ·exact g.non r z hs
 rw[QI.mp z]at hs;exact absurd (g.see x n hx hs) hF
end
def UC:PSp where
 md:=[]
 run:=fun ds Q _=>∃(es:LB) (sr:List Str) (nd:List (Str×Int)),ds=[.d (.list (es.map pr)),.d (.list (sr.map PyData.str)),.d (.list (nd.map PC))]/\(es.length<=126/\sr.length<=11/\BD es sr/\nd.length<=90/\(nd.map fun p=>p.1).Nodup)/\∀rs F,GI es sr nd rs F->(∀x,x∈F↔Held es sr nd x)->Q (.lst (rs.map zD)) []
 mono:=fun h _ z=>by obtain⟨es,sr,nd,e,l,q⟩:=z;exact⟨es,sr,nd,e,l,fun rs F a b=>h _ _ (q rs F a b)⟩
theorem UU{es:LB}{sr:List Str}{nd:List (Str×Int)}{K:T->List T->Prop}{E:XE}(l:es.length<=126/\sr.length<=11/\BD es sr/\nd.length<=90/\(nd.map fun p=>p.1).Nodup)(q:∀rs F,GI es sr nd rs F->(∀x,x∈F↔Held es sr nd x)->K (.lst (rs.map zD)) []):PD UC [.d (.list (es.map pr)),.d (.list (sr.map PyData.str)),.d (.list (nd.map PC))] K E:=⟨es,sr,nd,rfl,l,q⟩
section
variable{Ψ:PEv}{Z:PEnds}{es:LB}{sr:List Str}{nd:List (Str×Int)}{rs:List Rw}{F:List Str}
theorem Zi(h1:Ψ.sp "told_through"=IB)(l1:es.length<=126)(l2:sr.length<=11)(hn:BD es sr)(l3:nd.length<=90){b:Bool}{o6 o7 o8:Option Sl}(g:GI es sr nd rs F)
  (k:∀rs' F' b' o6 o7 o8,GI es sr nd rs' F'->F.length<=F'.length->(b'=true->F.length<F'.length)->(b'=false->∀x n,(x,n)∈nd->x∉F'->¬ xF es sr x F' n)->Z.nx (rV es sr nd rs' F' b' o6 o7 o8)) :
  xA Ψ (fun _=>False) pC Z (rV es sr nd rs F b o6 o7 o8):=by
 delta rV;delta pC;simp?[↓zA];rw[<- VA PC nd];refine uC (fun(p:Str×Int)=>T.d (PC p)) (fun l ρ=>∃rs' F' b' o6 o7 o8,GI es sr nd rs' F'/\(∀p∈l,p∈nd)/\F.length<=F'.length/\(b'=true->F.length<F'.length)/\(b'=false->∀x n,(x,n)∈nd->(x,n)∈l∨x∈F'∨¬ xF es sr x F' n)/\ρ=rV es sr nd rs' F' b' o6 o7 o8) ?_ ?_ _ _ ⟨rs,F,false,_,_,_,g,fun _ z=>z,QS _,fun z=>(nomatch z),fun _ x n h=>.inl h,rfl⟩;rintro ρ ⟨rs',F',b',p6,p7,p8,g',_,a1,a2,a3,rfl⟩;exact k rs' F' b' _ _ _ g' a1 a2 fun hb x n hx hF=>((a3 hb x n hx).resolve_left fun z=>(nomatch z)).resolve_left hF;rintro⟨x,n⟩ l ρ N hN ⟨rs',F',b',p6,p7,p8,g',m,a1,a2,a3,rfl⟩;have hx:=m _ QE;have m':∀p∈l,p∈nd:=fun p hp=>m p (QG _ hp);have g1:=g'.len;have g2:=g'.rlen;refine gC.mk rfl ?_;refine Ki (x:=x) (n:=n) h1 l1 l2 hn (by omega) (by omega) (fun hF o8=>hN _ ⟨rs',F',b',_,_,_,g',m',a1,a2,fun hb y k hy=>?_,rfl⟩) (fun hF nm o8=>hN _ ⟨rs',F',b',_,_,_,g',m',a1,a2,fun hb y k hy=>?_,rfl⟩) fun hF mm cs o8=>hN _ ⟨_,_,true,_,_,_,g'.add hx hF mm cs,m',?_,fun _=>?_,fun z=>(nomatch z),rfl⟩;rcases a3 hb y k hy with z|z
 ·rcases QK.mp z with e|z
  ·cases e
   exact .inr (.inl hF)
  exact .inl z
 exact .inr z;rcases a3 hb y k hy with z|z
 ·rcases QK.mp z with e|z
  ·cases e
   exact .inr (.inr nm)
  exact .inl z
 exact .inr z;rw[QM,Q1];omega;rw[QM,Q1];omega
end
theorem aX{Ψ:PEv}(h1:Ψ.sp "told_through"=IB)(ds Q E)(h:UC.run ds Q E):ds.length=NC.length/\xA Ψ (fun _=>False) NF (vB UC NC.length Q) (nA TF UC.md ds):=by
 obtain⟨es,sr,nd,rfl,⟨l1,l2,hn,l3,hd⟩,q⟩:=h;refine CA [some (.nv (.d (.list (es.map pr)))),some (.nv (.d (.list (sr.map PyData.str)))),some (.nv (.d (.list (nd.map PC)))),none,none,none,none,none,none] rfl rfl rfl ?_;have g0:=Yi (es:=es) (sr:=sr) hd;have g1:=g0.len;have g2:=g0.rlen;refine Xi (by omega) (Vi (by omega) ?_);simp?[↓zA];refine fH (fun m ρ=>∃rs F b o6 o7 o8,m=2 * (nd.length - F.length)+(if b=true then 1 else 0)/\GI es sr nd rs F/\(b=false->∀x n,(x,n)∈nd->x∉F->¬ xF es sr x F n)/\ρ=rV es sr nd rs F b o6 o7 o8) _ ⟨_,_,true,none,none,none,rfl,g0,fun z=>(nomatch z),rfl⟩ ?_;rintro m ρ ⟨rs,F,b,o6,o7,o8,em,g,cl,rfl⟩;cases b with
 |true =>
  have hp:=fun(Z:PEnds) hz=>Zi (Ψ:=Ψ) (Z:=Z) (b:=true) (o6:=o6) (o7:=o7) (o8:=o8) h1 l1 l2 hn l3 g hz;unfold rV at hp;delta rV;simp?[↓zA];refine hp _ fun rs' F' b' o6 o7 o8 g' a1 a2 a3=>⟨_,?_,rs',F',b',o6,o7,o8,rfl,g',a3,rfl⟩
  have:=g'.len;cases b' with
  |true=>have:=a2 rfl;rw[em,if_pos rfl];omega
  |false=>rw[em,if_pos rfl,if_neg QC];omega
 |false=>delta rV;simp?[↓zA];exact q rs F g fun x=>oY g.held g.see (cl rfl) x
def aG(r:Rw):D:=.tuple [.str r.1,.list (r.2.map ZC)]
def ER(y:Str×List Str):D:=.tuple [.str y.1,.list (y.2.map PyData.str)]
theorem yN(rs:List Rw):ersT (rs.map zD)=rs.map aG:=by rw[NN,QY];congr 1;funext r;show PyData.tuple [.str r.1,.list (ersT ((r.2.map ZC).map T.d))]=_;rw[KA];rfl
section
variable{Ψ:PEv}{E:XE}{ρ:kA}{r:PT}{Z:PEnds}{i:Nat}{n:Bool}{md:List Md}{xs:List (T×Bool)}{C:List T->Prop}{ds:List D}
theorem zb{rs:List Rw}:lJ Ψ E r Z i (.lst (rs.map zD)) true ρ=xA Ψ E r Z (ρ.set i (some (.nv (.d (.list (rs.map aG)))))):=by
 have e:(T.lst (rs.map zD)).er=.list (rs.map aG):=by show PyData.list (ersT (rs.map zD))=_;rw[yN]
 unfold lJ;rw[e];exact propext ⟨fun h=>h.2,fun h=>⟨rfl,h⟩⟩
theorem Vj:mB (.ko::md) ((.d (.list ds),n)::xs) C=mB md xs fun ts=>C (.lst (ds.map T.d)::ts):=ck (by rw[oA];simp only[yF,T.vw,pA,Q9])
theorem Pd{d:D}{ts:List T}:YF [.d d,.lst ts]=.tup [.d d,.lst ts]:=rfl
end
def UG(es:LB)(sr F:List Str)(x:Str)(y:Str×List Str):Prop:=y.1=x/\∃cs,Good (pJ es F) sr x cs y.2
def aH(nd:List (Str×Int))(F:List Str):List Str:=(nd.filter fun p=>!decide (p.1∈F)).map fun p=>p.1
def mF:PSp where
 md:=[]
 run:=fun ds Q _=>∃(es:LB) (sr:List Str) (nd:List (Str×Int)),ds=[.d (.list (es.map pr)),.d (.list (sr.map PyData.str)),.d (.list (nd.map PC))]/\(es.length<=126/\sr.length<=11/\BD es sr/\nd.length<=90/\(nd.map fun p=>p.1).Nodup)/\∀rs F ys,GI es sr nd rs F->(∀x,x∈F↔Held es sr nd x)->Paired (UG es sr F) (aH nd F) ys->Q (.tup [.d (.list (rs.map aG)),.lst ((ys.map ER).map T.d)]) []
 mono:=fun h _ z=>by obtain⟨es,sr,nd,e,l,q⟩:=z;exact⟨es,sr,nd,e,l,fun rs F ys a b c=>h _ _ (q rs F ys a b c)⟩
theorem jN{es:LB}{sr:List Str}{nd:List (Str×Int)}{K:T->List T->Prop}{E:XE}(l:es.length<=126/\sr.length<=11/\BD es sr/\nd.length<=90/\(nd.map fun p=>p.1).Nodup)(q:∀rs F ys,GI es sr nd rs F->(∀x,x∈F↔Held es sr nd x)->Paired (UG es sr F) (aH nd F) ys->K (.tup [.d (.list (rs.map aG)),.lst ((ys.map ER).map T.d)]) []):PD mF [.d (.list (es.map pr)),.d (.list (sr.map PyData.str)),.d (.list (nd.map PC))] K E:=⟨es,sr,nd,rfl,l,q⟩
def JZ(es:LB)(sr:List Str)(nd:List (Str×Int))(rs:List Rw)(o4 o5:Option Sl):kA:=[some (.nv (.d (.list (es.map pr)))),some (.nv (.d (.list (sr.map PyData.str)))),some (.nv (.d (.list (nd.map PC)))),some (.nv (.d (.list (rs.map aG)))),o4,o5]
section
variable{Ψ:PEv}{Z:PEnds}{es:LB}{sr:List Str}{nd:List (Str×Int)}{rs:List Rw}{F:List Str}{q:PT}{o4 o5:Option Sl}
theorem Ai(hl:rs.length<=100)(k:xA Ψ (fun _=>False) q Z (JZ es sr nd rs (some (.nv (.d (.list ((rs.map fun r=>r.1).map PyData.str))))) o5)) :
  xA Ψ (fun _=>False) (.seq (.set 4 (.comp [] ["name","chains"] (.tp [0,1]) .val (.nq (.var 3) .nr) .nop (.var 0))) q) Z (JZ es sr nd rs o4 o5):=by
 have hz:sizeLine=16777216:=QV;delta JZ at k ⊢;simp?[↓zA];rw[<- VA aG rs];refine zB (fun r=>T.d (aG r)) (fun r=>T.d (.str r.1)) rs [] _ (fun x hx R hR=>?_) (by show 0+rs.length<=_;omega) ?_;delta aG;simp?[↓zA];exact hR;rw[Qn,VA (fun r:Rw=>PyData.str r.1),show(rs.map fun r=>PyData.str r.1)=(rs.map fun r=>r.1).map PyData.str by rw[QY];rfl];simp?[↓zA];exact k
theorem Ti(hl:nd.length<=100)(k:xA Ψ (fun _=>False) q Z (JZ es sr nd rs (some (.nv (.d (.list (F.map PyData.str))))) (some (.nv (.d (.list ((aH nd F).map PyData.str))))))) :
  xA Ψ (fun _=>False) (.seq (.set 5 (.comp [] ["name","number"] (.tp [0,1]) .val (.nq (.var 2) .nr) (.cmp .NotIn (.var 0) (.var 6)) (.var 0))) q) Z (JZ es sr nd rs (some (.nv (.d (.list (F.map PyData.str))))) o5):=by
 have hz:sizeLine=16777216:=QV;delta JZ at k ⊢;simp?[↓zA];rw[<- VA PC nd];refine XA (fun p=>T.d (PC p)) (fun(p:Str×Int)=>T.d (.str p.1)) (fun p=>!decide (p.1∈F)) nd [] _ (fun x hx R hR=>?_) (by show 0+nd.length<=_;omega) ?_;obtain⟨x,n⟩:=x;delta PC;simp?[↓pj,oG,gE,eB,true_or];by_cases d:x∈F;rw[dT d]at hR ⊢;exact hR;rw[dF d]at hR ⊢;exact hR;rw[Qn,VA (fun p:Str×Int=>PyData.str p.1),show((nd.filter fun p=>!decide (p.1∈F)).map fun p=>PyData.str p.1)=(aH nd F).map PyData.str by unfold aH;rw[QY];rfl];simp?[↓zA];exact k
theorem Si(h1:Ψ.sp "told_through"=IB){Q:T->List T->Prop}{os:List Str}(l1:es.length<=126)(l2:sr.length<=11)(hn:BD es sr)(hl:os.length<=100)(k:∀ys,Paired (UG es sr F) os ys->Q (.tup [.d (.list (rs.map aG)),.lst ((ys.map ER).map T.d)]) []) :
  xA Ψ (fun _=>False) (.seq (.ret (.tup (.nq (.var 3) (.nq (.comp [] ["name"] (.nm 0) .val (.nq (.var 5) .nr) .nop (.tup (.nq (.var 0) (.nq (.idx (.call "told_through" (.nq (.var 1) (.nq (.var 2) (.nq (.var 5) (.nq (.var 0) .nr))))) (.int 1)) .nr)))) .nr)))) .nil) (eZ Q) (JZ es sr nd rs (some (.nv (.d (.list (F.map PyData.str))))) (some (.nv (.d (.list (os.map PyData.str)))))):=by
 have hz:sizeLine=16777216:=QV;delta JZ;simp?[↓zA];rw[<- VA PyData.str os];refine XI (UG es sr F) (fun s=>T.d (.str s)) (fun y=>T.d (ER y)) os [] _ (fun x hx R hR=>?_) (by show 0+os.length<=_;omega) fun ys hp=>?_;simp?[↓UQ,↓nk,↓Vj,↓lA (md:=[.ny,.ny,.ko]) h1 rfl rfl];refine IO l1 l2 hn fun cs cut gd=>?_;simp?[↓Cb,↓DV];exact⟨by omega,hR (x,cut) ⟨rfl,cs,gd⟩⟩;rw[Qn,VA ER ys];simp?[↓Pd];exact⟨by omega,k ys hp⟩
theorem Ei(h1:Ψ.sp "ground_alone"=UC)(l:es.length<=126/\sr.length<=11/\BD es sr/\nd.length<=90/\(nd.map fun p=>p.1).Nodup)(k:∀rs F,GI es sr nd rs F->(∀x,x∈F↔Held es sr nd x)->xA Ψ (fun _=>False) q Z (JZ es sr nd rs o4 o5)) :
  xA Ψ (fun _=>False) (.seq (.set 3 (.call "ground_alone" (.nq (.var 0) (.nq (.var 1) (.nq (.var 2) .nr))))) q) Z [some (.nv (.d (.list (es.map pr)))),some (.nv (.d (.list (sr.map PyData.str)))),some (.nv (.d (.list (nd.map PC)))),none,o4,o5]:=by
 delta JZ at k;simp?[↓lA (md:=[]) h1 rfl rfl];refine UU l fun rs F g hF=>?_;simp?[↓zb];exact k rs F g hF
end
theorem Xd{Ψ:PEv}(h1:Ψ.sp "ground_alone"=UC)(h2:Ψ.sp "told_through"=IB)(ds Q E)(h:mF.run ds Q E):ds.length=YE.length/\xA Ψ (fun _=>False) MF (vB mF YE.length Q) (nA dJ mF.md ds):=by obtain⟨es,sr,nd,rfl,l,q⟩:=h;refine CA [some (.nv (.d (.list (es.map pr)))),some (.nv (.d (.list (sr.map PyData.str)))),some (.nv (.d (.list (nd.map PC)))),none,none,none] rfl rfl rfl ?_;delta MF;refine Ei h1 l fun rs F g hF=>?_;obtain⟨l1,l2,hn,l3,_⟩:=l;have g1:=g.len;have g2:=g.rlen;refine Ai (by omega) ?_;rw[<- g.e];refine Ti (by omega) (Si h2 l1 l2 hn ?_ fun ys hp=>q rs F ys g hF hp);unfold aH;rw[QD];exact QZ (WH _ _) (by omega)
def yb(ns:List Str)(nd:List (Str×Int)):Prop:=(nd.map fun p=>p.1).Perm ns/\∀p∈nd,1<=p.2/\p.2<=5
def VC:PSp where
 md:=[.ko]
 run:=fun ds Q _=>∃(is:List Int) (ns:List Str),ds=[.lst ((is.map PyData.int).map T.d),.d (.list (ns.map PyData.str))]/\(0<ns.length/\ns.length<=10)/\∀nd,yb ns nd->Q (.lst ((nd.map PC).map T.d)) []
 mono:=fun h _ z=>by obtain⟨is,ns,e,l,q⟩:=z;exact⟨is,ns,e,l,fun nd a=>h _ _ (q nd a)⟩
theorem ZU{is:List Int}{ns:List Str}{K:T->List T->Prop}{E:XE}(l:0<ns.length/\ns.length<=10)(q:∀nd,yb ns nd->K (.lst ((nd.map PC).map T.d)) []):PD VC [.lst ((is.map PyData.int).map T.d),.d (.list (ns.map PyData.str))] K E:=⟨is,ns,rfl,l,q⟩
def nT(sc:Sl)(ns:List Str)(v m:Int)(nd:List (Str×Int))(o5 o6 o7 o8:Option Sl):kA:=[some sc,some (.nv (.d (.list (ns.map PyData.str)))),some (.nv (.d (.int v))),some (.nv (.d (.int m))),some (.own (.lst ((nd.map PC).map T.d))),o5,o6,o7,o8]
section
variable{Ψ:PEv}{Z:PEnds}{sc:Sl}{ns:List Str}{v m:Int}{nd:List (Str×Int)}{o5 o6 o7 o8:Option Sl}{q:PT}
theorem Vh(h1:Ψ.sp "_law_mixed"=MA){x:Str}{i:Nat}(hm:0<=m)(hi:i<10)(hl:nd.length<=100)(k:∀(n:Int) o7,1<=n/\n<=5->Z.nx (nT sc ns v m (nd++[(x,n)]) (some (.nv (.d (.int (i:Int))))) (some (.nv (.d (.str x)))) o7 o8)) :
  xA Ψ (fun _=>False) LD Z (nT sc ns v m nd (some (.nv (.d (.int (i:Int))))) (some (.nv (.d (.str x)))) o7 o8):=by
 have hz:sizeLine=16777216:=QV;delta nT at k ⊢;delta LD;simp?[↓lA (md:=[]) h1 rfl rfl];refine QCB bD ⟨⟨by omega,by omega⟩,fun n hn=>?_⟩;have n2:=Qm n (show(2:Int)≠0 by decide);have n3:=Qm n (show(3:Int)≠0 by decide);have n5:=Qm n (show(5:Int)≠0 by decide);have t2:=Qg n (show(0:Int)<2 by decide);have t3:=Qg n (show(0:Int)<3 by decide);have t5:=Qg n (show(0:Int)<5 by decide);simp?[↓zA];refine⟨by omega,gS (Qm _ (by decide)) (Qg _ (by decide)) fun d hd=>?_⟩;have e:∃j:Int,d=.int j/\0<=j/\j<=4:=by
  rcases QK.mp hd with z|hd;exact⟨0,z,by decide,by decide⟩;rcases QK.mp hd with z|hd
  ·exact⟨_,z,n2,by omega⟩
  rcases QK.mp hd with z|hd
  ·exact⟨_,z,n3,by omega⟩
  exact⟨_,QI.mp hd,n5,by omega⟩
 obtain⟨j,rfl,j0,j1⟩:=e;simp?[↓zA];refine⟨by omega,by rw[QD,QD];omega,?_⟩;have:=k (1+j) (some (.nv (.d (.int n)))) ⟨by omega,by omega⟩;rw[Qa,Qa]at this;exact this
end
section
variable{Ψ:PEv}{E:XE}{ρ:kA}{K:TK}{a b:PX}{ds:List D}
theorem J5{j:Nat}:tB Ψ (.slc a (.var j) .nop) E ρ K=tB Ψ a E ρ fun x n ρ1=>Xc x n Ψ (.var j) E ρ1 K:=by show(pe Ψ a E).e ρ (fun x n ρ1=>sq (α:=Option Int) (dA x n) ρ1 (fun ρ R=>(pe Ψ (.var j) E).e ρ fun u _ ρ3=>pF u.er fun o=>R o ρ3) fun l ρ2=>sq (α:=Option Int) (dA x n) ρ2 (fun ρ (R:Option Int->kA->Prop)=>R none ρ) fun u ρ3=>fJ (dA x n).vw l u fun z k=>K z k ρ3)=_;simp only[pW];rfl
theorem Hj:Xc (.lst (ds.map T.d)) false Ψ b E ρ K=tB Ψ b E (lockA ρ) fun u _ _=>uT u fun o=>MO (.lst (ds.map T.d)) false o none fun z k=>K z k ρ:=rfl
theorem Oj:V7 (.lst (ds.map T.d)) false Ψ b E ρ K=tB Ψ b E (lockA ρ) fun u _ _=>uT u fun o=>MO (.lst (ds.map T.d)) false none o fun z k=>K z k ρ:=rfl
end
section
variable{Ψ:PEv}{Z:PEnds}{sc:Sl}{ns:List Str}{v m:Int}{nd:List (Str×Int)}{o5 o6 o7 o8:Option Sl}{q:PT}
theorem Kh(hn:0<ns.length)(hl:nd.length<=100)(k:∀c:Nat,xA Ψ (fun _=>False) q Z (nT sc ns v m (nd.drop c++nd.take c) o5 o6 o7 (some (.nv (.d (.int (c:Int))))))) :
  xA Ψ (fun _=>False) (.seq (.set 8 (.bin .Mod (.bin .FloorDiv (.var 3) (.int 4)) (.bi .len (.nq (.var 1) .nr)))) (.seq (.own 4 (.bin .Add (.slc (.var 4) (.var 8) .nop) (.slc (.var 4) .nop (.var 8)))) q)) Z (nT sc ns v m nd o5 o6 o7 o8):=by
 have hz:sizeLine=16777216:=QV;have c0:=Qm (m / 4) (show(ns.length:Int)≠0 by omega);obtain⟨c,hc⟩:∃c:Nat,m / 4 % (ns.length:Int)=(c:Int):=⟨(m / 4 % (ns.length:Int)).toNat,by omega⟩
 delta nT at k ⊢;simp?[↓J5,↓Hj,↓mZ,↓Oj,↓Ec,QD,hc,DY,FY];refine⟨by omega,by rw[WQ,Wx,QD];omega,?_⟩;rw[<- List.map_take,<- List.map_drop,<- Qa];exact k c
theorem Xh(h0:Ψ.sp "_law_fold"=jD)(h1:Ψ.sp "_law_mixed"=MA){is:List Int}(k:∀v m,0<=m->xA Ψ (fun _=>False) q Z (nT (.nv (.lst ((is.map PyData.int).map T.d))) ns v m [] o5 o6 o7 o8)) :
  xA Ψ (fun _=>False) (.seq (.set 2 (.call "_law_fold" (.nq (.var 0) .nr))) (.seq (.set 3 (.call "_law_mixed" (.nq (.var 2) (.nq (.int 3) .nr)))) (.seq (.own 4 (.lst .nr)) q))) Z [some (.nv (.lst ((is.map PyData.int).map T.d))),some (.nv (.d (.list (ns.map PyData.str)))),none,none,none,o5,o6,o7,o8]:=by
 have hz:sizeLine=16777216:=QV;delta nT at k;simp?[↓lA (md:=[.ko]) h0 rfl rfl,↓lA (md:=[]) h1 rfl rfl];refine QCB jP fun v=>?_;simp?[↓lA (md:=[]) h1 rfl rfl];refine QCB bD ⟨⟨by decide,by decide⟩,fun m hm=>?_⟩;simp?[↓zA];exact⟨by omega,k v m hm⟩
theorem Zh(h1:Ψ.sp "_law_mixed"=MA)(hm:0<=m)(hn:ns.length<=10)(k:∀nd o5 o6 o7,nd.map (fun p=>p.1)=ns->(∀p∈nd,1<=p.2/\p.2<=5)->xA Ψ (fun _=>False) q Z (nT sc ns v m nd o5 o6 o7 o8)) :
  xA Ψ (fun _=>False) (.seq (.for_ (.tp [5,6]) .enum (.nq (.var 1) .nr) LD) q) Z (nT sc ns v m [] o5 o6 o7 o8):=by
 have zx:∀p∈(ns.map PyData.str).zipIdx,p.2<10/\∃x,p.1=PyData.str x:=fun p hp=>by obtain⟨y,i⟩:=p;obtain⟨z1,z2⟩:=FQ hp;rw[QD]at z1;obtain⟨x,_,e⟩:=QW.mp z2;exact⟨Qo z1 hn,x,e.symm⟩
 delta nT;simp?[↓zA];refine uC (fun(p:D×Nat)=>T.d (.tuple [.int (p.2:Int),p.1])) (fun l ρ=>∃nd o5 o6 o7,(∀p∈l,p.2<10/\∃x,p.1=PyData.str x)/\(nd.map fun p=>p.1).map PyData.str++l.map (fun p=>p.1)=ns.map PyData.str/\(∀p∈nd,1<=p.2/\p.2<=5)/\ρ=nT sc ns v m nd o5 o6 o7 o8) ?_ ?_ _ _ ⟨[],_,_,_,zx,by rw[qR,qR,Qn,List.zipIdx_map_fst],fun _ z=>(nomatch z),rfl⟩;rintro ρ ⟨nd,p5,p6,p7,_,e,b,rfl⟩;rw[qR,wK]at e;exact k nd _ _ _ (List.map_inj_right (fun x y h=>by injection h) |>.mp e) b;rintro⟨y,i⟩ l ρ N hN ⟨nd,p5,p6,p7,e0,e,b,rfl⟩;obtain⟨hi,x,hx⟩:=e0 _ QE;have hx:y=.str x:=hx;subst hx;have ll:nd.length<=100:=by have:=congrArg qg e;rw[QM,QD,QD,QD,QD]at this;omega
 refine gC.mk rfl ?_;refine Vh (x:=x) (i:=i) h1 hm hi ll fun n o7 hb=>hN _ ⟨nd++[(x,n)],_,_,_,fun p hp=>e0 p (QG _ hp),?_,fun p hp=>?_,rfl⟩;rw[<- e,Qa,Qa,qr];rfl;rcases Qf.mp hp with z|z
 ·exact b p z
 rw[QI.mp z];exact hb
theorem Yh{Q:T->List T->Prop}(k:∀nd':List (Str×Int),nd'.Perm nd->Q (.lst ((nd'.map PC).map T.d)) []) :
  xA Ψ (fun _=>False) (.seq (.ife (.cmp .Eq (.bin .Mod (.bin .FloorDiv (.var 3) (.int 64)) (.int 2)) (.int 1)) (.seq (.expr (.mt .reverse (.var 4) .nr)) .nil) .nil) SE) (eZ Q) (nT sc ns v m nd o5 o6 o7 o8):=by
 delta nT SE;simp?[↓zA];split;simp?[↓Af,↓A8];rw[<- List.map_reverse];exact k _ (List.reverse_perm nd);exact k _ (wz _)
end
section
variable{Ψ:PEv}{E:XE}{ρ:kA}{n:Bool}{Q:T->Bool->Prop}{l:List Str}{ds es:List D}{op:CmpOp}{t:T}{L:Bool->Prop}
theorem nX(h0:Ψ.sp "_law_fold"=jD)(h1:Ψ.sp "_law_mixed"=MA)(ds Q E)(h:VC.run ds Q E):ds.length=HG.length/\xA Ψ (fun _=>False) FI (vB VC HG.length Q) (nA BM VC.md ds):=by
 obtain⟨is,ns,rfl,⟨n0,n1⟩,q⟩:=h;refine CA [some (.nv (.lst ((is.map PyData.int).map T.d))),some (.nv (.d (.list (ns.map PyData.str)))),none,none,none,none,none,none,none] rfl rfl rfl ?_;delta FI;refine Xh h0 h1 fun v m hm=>Zh h1 hm n1 fun nd o5 o6 o7 e b=>?_;have hl:nd.length=ns.length:=by rw[<- e,QD]
 refine Kh n0 (by omega) fun c=>Yh fun nd' p=>q nd' ?_;have p2:(nd.drop c++nd.take c).Perm nd:=List.perm_append_comm.trans (by rw[QA0]);have p3:=p.trans p2;exact⟨by rw[<- e];exact p3.map _,fun x hx=>b x (p3.mem_iff.mp hx)⟩
theorem ub{a:PX}{K:TK}:tB Ψ (.sset a) E ρ K=tB Ψ a E ρ fun x n ρ1=>US (dA x n).vw fun z k=>K z k ρ1:=rfl
theorem Oa{ss:List Str}(h:ss.length<64)(q:∀zs:List Str,zs.Nodup->(∀s,s∈zs↔s∈ss)->sortedS zs=true->Q (.lst ((zs.map PyData.str).map T.d)) true):US (dA (.d (.list (ss.map PyData.str))) n).vw Q:=by rw[oA];exact⟨_,ss,rfl,pA _,h,q⟩
theorem Vd{s:Str}(h:N2 s):Qs s=true:=by unfold Qs;rw[Array.all_eq_true_iff_forall_mem];intro c hc;have:=h.2 c (Array.mem_toList_iff.mpr hc);exact dT (by omega)
theorem DT(a:D)(b:List D):(T.tup [.d a,.lst (b.map T.d)]).er=.tuple [a,.list b]:=by show PyData.tuple [a,.list (ersT (b.map T.d))]=_;rw[KA]
theorem RS:∀{l:List Str}{p:Str},risingS p l=true->(p::l).Pairwise fun a b=>a.cps.toList<=b.cps.toList
 |[],p,_=>List.pairwise_singleton _ _
 |x::r,p,h=>by obtain⟨h1,h2⟩:=yA h;have ih:=RS h2;rw[Q7,ltCps_eq,decide_eq_false_iff_not]at h1;have h1:=QAm.mp h1;refine Wb.mpr ⟨fun y hy=>?_,ih⟩;rcases QK.mp hy with rfl|hy;exact h1;exact List.le_trans h1 ((Wb.mp ih).1 y hy)
theorem nW(h:sortedS l=true):l.Pairwise fun a b=>a.cps.toList<=b.cps.toList:=by
 cases l with
 |nil=>exact .nil
 |cons x r=>exact RS h
theorem Y7{a b:Str}(h:a.cps.toList=b.cps.toList):a=b:=by obtain⟨⟨a⟩⟩:=a;obtain⟨⟨b⟩⟩:=b;cases h;rfl
theorem oW{a b:List Str}(ha:sortedS a=true)(hb:sortedS b=true)(h:a.Perm b):a=b:=h.eq_of_pairwise (fun x y _ _ h1 h2=>Y7 (List.le_antisymm h1 h2)) (nW ha) (nW hb)
theorem rT{k:Nat}:∀{l:List D},(∀x∈l,x.canLay0=true/\x.depth<=k)->wH l=true/\WD l<=k
 |[],_=>by simp[wH,WD]
 |x::l,h=>by obtain⟨h1,h2⟩:=h x QE;obtain⟨i1,i2⟩:=rT (l:=l) fun y hy=>h y (QG _ hy);simp only[wH,WD,h1,i1,Bool.and_self,true_and];omega
theorem oR{k:Nat}{l:List D}(hk:k<60)(h:∀x∈l,x.canLay0=true/\x.depth<=k):ZE (.list l):=by obtain⟨h1,h2⟩:=rT h;refine⟨?_,?_⟩;simp only[WM];exact h1;simp only[QAR];omega
theorem V2(h:∀s∈l,Qs s=true):ZE (.list (l.map PyData.str)):=oR (k:=1) (by decide) fun x hx=>by obtain⟨s,hs,rfl⟩:=QW.mp hx;simp only[WM,QAR];exact⟨h s hs,by omega⟩
theorem JN{rs:List (Str×D)}(h64:rs.length<64)(nd:(rs.map qE).Nodup)(q:∀rs':List (Str×D),rs'.Perm rs->sortedS (rs'.map qE)=true->Q (.lst ((rs'.map eU).map T.d)) true):eO .sorted [(.d (.list (rs.map eU)),n)] Q:=by unfold eO GB;rw[oA];exact .inr (.inr ⟨_,rs,rfl,pA _,h64,nd,q⟩)
theorem Pb{m:Bool}{W:List T->Prop}:GK .zip2 [(.d (.list ds),n),(.d (.list es),m)] W=W ((ds.zip es).map fun p=>.d (.tuple [p.1,p.2])):=by unfold GK GB;rw[oA,GB,oA,GB];refine propext ⟨fun⟨ts,us,d,e,h1,h4,h5,k⟩=>?_,fun k=>⟨_,_,ds,es,rfl,pA ds,pA es,k⟩⟩;injection h1 with a b;injection b with b;injection a with a;injection b with b;subst a b;rw[pA]at h4 h5;cases h4;cases h5;exact k
theorem S8{α:Type}{l:List α}(q:Q (.d (.bool true)) false):eO .all [(.lst ((l.map fun _=>PyData.bool true).map T.d),n)] Q:=by unfold eO GB;rw[ID];refine⟨_,l.map fun _=>true,rfl,by rw[pA,QY];rfl,?_⟩;rw[QBn];show Q (.d (.bool (l.all fun _=>true))) false;rw[qF.mpr fun _ _=>rfl];exact q
theorem P4:HB op (.lst (ds.map T.d)) t L=HB op (.d (.list ds)) t L:=by unfold HB;rw[Gi];rfl
theorem Ze:HB op t (dA (.lst (ds.map T.d)) true) L=HB op t (.d (.list ds)) L:=by show HB op t (.d (.list (ersT (ds.map T.d)))) L=_;rw[KA]
theorem Ge{rs:List Rw}:HB op t (dA (.lst (rs.map zD)) true) L=HB op t (.d (.list (rs.map aG))) L:=by show HB op t (.d (.list (ersT (rs.map zD)))) L=_;rw[yN]
theorem V6:HB .Eq (.d (.list ds)) (.d (.list es)) L=(ZE (.list ds)/\ZE (.list es)/\L (Q6 (.list ds) (.list es))):=rfl
theorem cZ{r:PT}{Z:PEnds}{i:Nat}{a:D}{b:List D}:lJ Ψ E r Z i (.tup [.d a,.lst (b.map T.d)]) true ρ=xA Ψ E r Z (ρ.set i (some (.nv (.d (.tuple [a,.list b]))))):=by unfold lJ;rw[DT];exact propext ⟨fun h=>h.2,fun h=>⟨rfl,h⟩⟩
def ND:PSp where
 md:=[]
 run:=fun ds Q _=>∃(ys:List (Str×List Str)) (nd:List (Str×Int)),ds=[.d (.list (ys.map ER)),.d (.list (nd.map PC))]/\(nd.length<=90/\(ys.map fun y=>y.1)=(nd.map fun p=>p.1)/\(∀q∈ys.zip nd,(q.1.2.length:Int)<q.2.2)/\∀s∈nd.map (fun p=>p.1),Qs s=true)/\Q (.d (.bool true)) []
 mono:=fun h _ z=>by obtain⟨ys,nd,e,l,q⟩:=z;exact⟨ys,nd,e,l,h _ _ q⟩
theorem IM{ys:List (Str×List Str)}{nd:List (Str×Int)}{K:T->List T->Prop}(l:nd.length<=90/\(ys.map fun y=>y.1)=(nd.map fun p=>p.1)/\(∀q∈ys.zip nd,(q.1.2.length:Int)<q.2.2)/\∀s∈nd.map (fun p=>p.1),Qs s=true)(q:K (.d (.bool true)) []):PD ND [.d (.list (ys.map ER)),.d (.list (nd.map PC))] K E:=⟨ys,nd,rfl,l,q⟩
theorem L8(ds Q E)(h:ND.run ds Q E):ds.length=gK.length/\xA Ψ (fun _=>False) xO (vB ND gK.length Q) (nA fU ND.md ds):=by
 obtain⟨ys,nd,rfl,⟨l1,l2,l3,l4⟩,q⟩:=h;have hz:sizeLine=16777216:=QV;have ll:ys.length=nd.length:=by have:=congrArg qg l2;rw[QD,QD]at this;exact this
 refine CA [some (.nv (.d (.list (ys.map ER)))),some (.nv (.d (.list (nd.map PC))))] rfl rfl rfl ?_;delta xO;simp?[↓zA];rw[<- VA ER ys];refine zB (fun y=>T.d (ER y)) (fun y=>T.d (.str y.1)) ys [] _ (fun x hx R hR=>?_) (by show 0+ys.length<=_;omega) ?_;delta ER;simp?[↓DL];exact hR;rw[Qn,VA (fun y:Str×List Str=>PyData.str y.1),show(ys.map fun y=>PyData.str y.1)=(ys.map fun y=>y.1).map PyData.str by rw[QY];rfl];rw[<- VA PC nd];refine zB (fun p=>T.d (PC p)) (fun p=>T.d (.str p.1)) nd [] _ (fun x hx R hR=>?_) (by show 0+nd.length<=_;omega) ?_;delta PC;simp?[↓DL];exact hR;rw[Qn,VA (fun p:Str×Int=>PyData.str p.1),show(nd.map fun p=>PyData.str p.1)=(nd.map fun p=>p.1).map PyData.str by rw[QY];rfl];have o:=V2 l4;rw[l2,P4,Ze,yU];refine⟨o,o,?_⟩;rw[wD _ o.1];simp?[↓Pb];rw[List.zip_map,QY];refine zB (fun q:(Str×List Str)×(Str×Int)=>T.d (.tuple [ER q.1,PC q.2])) (fun _=>T.d (.bool true)) (ys.zip nd) [] _ (fun x hx R hR=>?_) (by show 0+(ys.zip nd).length<=_;rw[QA2];omega) ?_;have lt:=l3 x hx;obtain⟨⟨y,cu⟩,⟨z,n⟩⟩:=x;delta ER PC;simp?[↓DV,QD,dT lt];exact hR;rw[Qn,VA (fun _:(Str×List Str)×(Str×Int)=>PyData.bool true)];refine S8 ?_;simp?[↓zA];exact q
end
section
variable{es:LB}{sr ns F:List Str}{nd:List (Str×Int)}{x:Str}{n:Int}
section
variable{g m:Str}{c:List Str}
theorem A9(h1:∀s∈sr,s∈ns)(h2:∀e∈es,e.2∈ns)(h:Chn es sr g c m):m∈ns/\∀y∈c,y∈ns/\y≠g:=by
 induction h with
 |st a _=>exact⟨h1 _ a,fun _ z=>(nomatch z)⟩
 |go _ b e ih=>refine⟨h2 _ e,fun y hy=>?_⟩;rcases Qf.mp hy with z|z;exact ih.2 y z;rw[QI.mp z];exact⟨ih.1,b⟩
theorem T9(h:Chn es sr g c m)(e:m=g):c≠[]:=by
 cases h with
 |st _ b=>exact absurd e b
 |go _ _ _=>exact fun z=>absurd (congrArg qg z) (by rw[QM];show _+1≠0;omega)
theorem SX(h1:∀s∈sr,s∈ns)(h2:∀e∈es,e.2∈ns)(hx:x∈ns)(hn:(ns.length:Int)<=n):¬ xF es sr x F n:=by
 rintro⟨cs,a,c,l⟩;obtain⟨ps,p1,p2,p3,_⟩:=SW (cut:=ns.filter fun y=>decide (y≠x)) a fun d hd=>by
  have hc:=A9 h1 (fun e he=>h2 e (XJ.mp he).1) (c d hd);cases d with
  |nil=>exact absurd rfl (T9 (c [] hd) rfl)
  |cons y r=>exact⟨y,QE,Qj.mpr ⟨(hc.2 y QE).1,dT (hc.2 y QE).2⟩⟩
 have q1:=tI (ns:=ns.filter fun y=>decide (y≠x)) p2 p3;have q2:(ns.filter fun y=>decide (y≠x)).length<ns.length:=by refine Nat.lt_of_le_of_ne (WH _ _) fun e=>?_;have:=List.length_filter_eq_length_iff.mp e x hx;exact(of_decide_eq_true this) rfl
 omega
theorem VX(hn:1<=n):¬ xF [] sr x F n:=by
 rintro⟨cs,_,c,l⟩;cases cs with
 |nil=>simp at l;omega
 |cons d ds =>
  have h:=c d QE;have key:∀{c:List Str}{m:Str},Chn (pJ [] F) sr x c m->m≠x:=fun h=>by
   induction h with
   |st _ b=>exact b
   |go _ _ e _=>exact absurd e (by unfold pJ;simp)
  exact key h rfl
theorem ZX(hn:1<=n):¬ xF es [] x F n:=by
 rintro⟨cs,_,c,l⟩;cases cs with
 |nil=>simp at l;omega
 |cons d ds =>
  have key:∀{c:List Str}{m:Str},Chn (pJ es F) [] x c m->False:=fun h=>by
   induction h with
   |st a _=>exact nomatch a
   |go _ _ _ ih=>exact ih
  exact key (c d QE)
theorem MK(h:∀x n F,(x,n)∈nd->¬ xF es sr x F n)(hs:∀s∈sr,∃n,(s,n)∈nd):Held es sr nd x↔x∈sr:=by
 refine⟨fun z=>?_,fun z=>?_⟩;cases z with
 |see _ b=>exact b
 |tell F a _ m=>exact absurd m (h _ _ _ a)
 obtain⟨n,hn⟩:=hs x z;exact .see hn z
end
end
def mE(nd:List (Str×Int))(zs:List Str):List (Str×Int):=nd.filter fun p=>!decide (p.1∈zs)
theorem D9{es:LB}{sr F zs:List Str}{nd:List (Str×Int)}(hm:∀x,x∈F↔x∈zs)(nm:∀x n,(x,n)∈nd->x∉F->¬ xF es sr x F n){ys:List (Str×List Str)}(hp:Paired (UG es sr F) (aH nd F) ys):(ys.map fun y=>y.1)=((mE nd zs).map fun p=>p.1)/\∀q∈ys.zip (mE nd zs),(q.1.2.length:Int)<q.2.2:=by
 have e:aH nd F=(mE nd zs).map fun p=>p.1:=by unfold aH mE;rw[List.filter_congr fun p _=>by rw[decide_eq_decide.mpr (hm p.1)]]
 have nm2:∀p∈mE nd zs,¬ xF es sr p.1 F p.2:=fun p h=>by obtain⟨h1,h2⟩:=Qj.mp h;refine nm p.1 p.2 h1 fun z=>?_;rw[dT ((hm p.1).mp z)]at h2;cases h2
 rw[e]at hp;generalize mE nd zs=l at hp nm2;clear e;induction l generalizing ys with
 |nil=>cases hp;exact⟨rfl,fun _ z=>(nomatch z)⟩
 |cons p l ih =>
  cases ys with
  |nil=>cases hp
  |cons y ys =>
   rw[QN]at hp;cases hp with
   |cons h t=>obtain⟨h1,cs,gd⟩:=h;obtain⟨i1,i2⟩:=ih t fun q hq=>nm2 q (QG _ hq);refine⟨by rw[QN,QN,i1,h1],fun q hq=>?_⟩;rw[WB]at hq;rcases QK.mp hq with rfl|hq;have n1:=nm2 p QE;rw[aP gd,gd.len]at n1;show(y.2.length:Int)<p.2;omega;exact i2 q hq
def U4(x:Str):Str×D:=(x,.list [])
theorem AK{rs:List Rw}(h:∀r∈rs,r.2=[]):rs.map aG=((rs.map fun r=>r.1).map U4).map eU:=by rw[QY,QY];refine qu fun r hr=>?_;obtain⟨x,c⟩:=r;have:c=[]:=h _ hr;subst this;rfl
theorem lG(l:List Str):(l.map U4).map qE=l:=by rw[QY];exact QB5 l
theorem iJ{F zs:List Str}{rs:List (Str×D)}(hp:rs.Perm (F.map U4))(so:sortedS (rs.map qE)=true)(sz:sortedS zs=true)(pz:F.Perm zs):rs=zs.map U4:=by
 have e1:=hp.map qE;rw[lG]at e1;have e2:=oW so sz (e1.trans pz);have e3:∀r∈rs,r=U4 r.1:=fun r hr=>by obtain⟨x,_,rfl⟩:=QW.mp (hp.mem_iff.mp hr);rfl
 rw[<- e2,QY];exact((qu (g:=id) fun r hr=>(e3 r hr).symm).trans (QB5 rs)).symm
theorem pR{l:List Str}(h:∀s∈l,Qs s=true):ZE (.list ((l.map U4).map eU)):=oR (k:=3) (by decide) fun x hx=>by obtain⟨r,hr,rfl⟩:=QW.mp hx;obtain⟨s,hs,rfl⟩:=QW.mp hr;simp only[eU,U4,WM,QAR,wH,WD,h s hs];decide
def ZD(is:List Int)(ns:List Str)(es:LB)(st:List Str)(g:Str)(o5 o6 o7 o8 o9 o10 o11 o12:Option Sl):kA:=[some (.nv (.lst ((is.map PyData.int).map T.d))),some (.nv (.d (.list (ns.map PyData.str)))),some (.nv (.d (.list (es.map pr)))),some (.nv (.d (.list (st.map PyData.str)))),some (.nv (.d (.str g))),o5,o6,o7,o8,o9,o10,o11,o12]
def tL(l:List Str):Option Sl:=some (.nv (.d (.list (l.map PyData.str))))
def SG(nd:List (Str×Int)):Option Sl:=some (.nv (.d (.list (nd.map PC))))
def Cc(rs:List Rw):Option Sl:=some (.nv (.d (.list (rs.map aG))))
def oe(ys:List (Str×List Str)):Option Sl:=some (.nv (.d (.list (ys.map ER))))
def yQ(rs:List Rw)(ys:List (Str×List Str)):Option Sl:=some (.nv (.d (.tuple [.list (rs.map aG),.list (ys.map ER)])))
def aZ(ns:List Str)(nd:List (Str×Int)):List (Str×Int):=nd.map fun p=>(p.1,(ns.length:Int) - 1+p.2)
theorem R8{rs:List Rw}{Q:T->Bool->Prop}:eO .sorted [(.lst (rs.map zD),true)] Q=eO .sorted [(.d (.list (rs.map aG)),false)] Q:=by unfold eO GB;show j5 .sorted [(T.d (.list (ersT (rs.map zD)))).vw] Q=_;rw[yN];rfl
theorem PN(l:List Str):((l.map fun s=>((s,[]):Rw)).map aG)=(l.map U4).map eU:=by rw[QY,QY];rfl
theorem PR(l:List Str):(l.map fun s=>zD (s,[]))=(l.map fun s=>((s,[]):Rw)).map zD:=by rw[QY];rfl
section
variable{Ψ:PEv}{Z:PEnds}{is:List Int}{ns:List Str}{es:LB}{st:List Str}{g:Str}{zs:List Str}{nd:List (Str×Int)}{q:PT}{o5 o6 o7 o8 o9 o10 o11 o12:Option Sl}
theorem zi(h4:Ψ.sp "_law_web"=gF)(k:∀ns es st g,uZ ns es st g->ns.Nodup->xA Ψ (fun _=>False) q Z (ZD is ns es st g none none none none none none none none)) :
  xA Ψ (fun _=>False) (.seq (.tset [1,2,3,4] (.call "_law_web" (.nq (.var 0) (.nq (.int 10) .nr)))) q) Z [some (.nv (.lst ((is.map PyData.int).map T.d))),none,none,none,none,none,none,none,none,none,none,none,none]:=by
 delta ZD at k;simp?[↓lA (md:=[.ko]) h4 rfl rfl];refine y0 fun ns es st g w n=>?_;exact⟨rfl,_,rfl,k ns es st g w n⟩
theorem yi(hl:st.length<=11)(k:∀zs:List Str,zs.Nodup->(∀s,s∈zs↔s∈st)->sortedS zs=true->xA Ψ (fun _=>False) q Z (ZD is ns es st g (tL zs) o6 o7 o8 o9 o10 o11 o12)) :
  xA Ψ (fun _=>False) (.seq (.set 5 (.sset (.var 3))) q) Z (ZD is ns es st g none o6 o7 o8 o9 o10 o11 o12):=by
 delta ZD tL at k;delta ZD;simp?[↓ub];refine Oa (by omega) fun zs n m so=>?_;simp?[↓zA];exact k zs n m so
theorem ji(h1:Ψ.sp "_law_needs"=VC)(hl:0<ns.length/\ns.length<=10)(k:∀nd,yb ns nd->xA Ψ (fun _=>False) q Z (ZD is ns es st g o5 (SG nd) o7 o8 o9 o10 o11 o12)) :
  xA Ψ (fun _=>False) (.seq (.set 6 (.call "_law_needs" (.nq (.var 0) (.nq (.var 1) .nr)))) q) Z (ZD is ns es st g o5 o6 o7 o8 o9 o10 o11 o12):=by
 delta ZD SG at k;delta ZD;simp?[↓lA (md:=[.ko]) h1 rfl rfl];refine ZU hl fun nd ok=>?_;simp?[↓zA];exact k nd ok
theorem Ih(hl:nd.length<=90)(k:xA Ψ (fun _=>False) q Z (ZD is ns es st g o5 (SG nd) (SG (aZ ns nd)) o8 o9 o10 o11 o12)) :
  xA Ψ (fun _=>False) (.seq (.set 7 (.comp [] ["_law_name","_law_number"] (.tp [0,1]) .val (.nq (.var 6) .nr) .nop (.tup (.nq (.var 0) (.nq (.bin .Add (.bin .Sub (.bi .len (.nq (.var 3) .nr)) (.int 1)) (.var 1)) .nr))))) q) Z (ZD is ns es st g o5 (SG nd) o7 o8 o9 o10 o11 o12):=by
 have hz:sizeLine=16777216:=QV;delta ZD SG at k ⊢;simp?[↓zA];rw[<- VA PC nd];refine zB (fun p=>T.d (PC p)) (fun p=>T.d (PC (p.1,(ns.length:Int) - 1+p.2))) nd [] _ (fun x hx R hR=>?_) (by show 0+nd.length<=_;omega) ?_;obtain⟨x,n⟩:=x;delta PC at hR ⊢;simp?[QD];exact⟨by omega,hR⟩;rw[Qn,VA (fun p:Str×Int=>PC (p.1,(ns.length:Int) - 1+p.2)),show(nd.map fun p=>PC (p.1,(ns.length:Int) - 1+p.2))=(aZ ns nd).map PC by unfold aZ;rw[QY];rfl];simp?[↓zA];exact k
theorem Eh(h1:Ψ.sp "ground_by"=mF){gr:List (Str×Int)}(l:es.length<=126/\zs.length<=11/\BD es zs/\gr.length<=90/\(gr.map fun p=>p.1).Nodup)(k:∀rs F ys,GI es zs gr rs F->(∀x,x∈F↔Held es zs gr x)->Paired (UG es zs F) (aH gr F) ys->xA Ψ (fun _=>False) q Z (ZD is ns es st g (tL zs) o6 (SG gr) (Cc rs) (oe ys) o10 o11 o12)) :
  xA Ψ (fun _=>False) (.seq (.tset [8,9] (.call "ground_by" (.nq (.bi .list (.nq (.var 2) .nr)) (.nq (.bi .list (.nq (.var 5) .nr)) (.nq (.var 7) .nr))))) q) Z (ZD is ns es st g (tL zs) o6 (SG gr) none none o10 o11 o12):=by
 delta ZD tL SG Cc oe at k;delta ZD tL SG;simp?[↓lA (md:=[]) h1 rfl rfl];refine jN l fun rs F ys a b c=>?_;refine⟨rfl,?_⟩;rw[DT];simp?[↓zA];exact k rs F ys a b c
theorem Ah{rs:List Rw}(hr:∀r∈rs,r.2=[])(hn:(rs.map fun r=>r.1).Nodup)(hp:(rs.map fun r=>r.1).Perm zs)(hl:rs.length<=20)(so:sortedS zs=true)(ok:∀s∈zs,Qs s=true)(k:xA Ψ (fun _=>False) q Z (ZD is ns es st g (tL zs) o6 o7 (Cc rs) o9 o10 o11 o12)) :
  xA Ψ (fun _=>False) (.seq (.ife (.cmp .NotEq (.bi .sorted (.nq (.var 8) .nr)) (.comp [] ["_law_name"] (.nm 0) .val (.nq (.var 5) .nr) .nop (.tup (.nq (.var 0) (.nq (.lst .nr) .nr))))) (.seq (.ret (.bl false)) .nil) .nil) q) Z (ZD is ns es st g (tL zs) o6 o7 (Cc rs) o9 o10 o11 o12):=by
 have hz:sizeLine=16777216:=QV;have hl2:=hp.length_eq;rw[QD]at hl2;have o:=pR ok;delta ZD tL Cc at k ⊢;rw[AK hr]at k ⊢;simp?[↓zA];refine JN (by rw[QD,QD];omega) (by rw[lG];exact hn) fun rs' p1 so'=>?_;rw[iJ p1 so' so hp];simp?[↓zA];rw[<- VA PyData.str zs];refine zB (fun s=>T.d (.str s)) (fun s=>zD (s,[])) zs [] _ (fun x hx R hR=>?_) (by show 0+zs.length<=_;omega) ?_;simp?[↓Ug,↓OX];exact⟨by omega,by omega,hR⟩;rw[Qn,PR,P4,Ge,PN,yU];refine⟨o,o,?_⟩;rw[wD _ o.1];exact k
end
theorem pk{xs:List (T×Bool)}{C:List T->Prop}:mB [] ((.lst [],true)::xs) C=mB [] xs fun ts=>C (.d (.list [])::ts):=gk (ds:=[])
theorem Ke{op:CmpOp}{t:T}{L:Bool->Prop}:HB op t (dA (.lst []) true) L=HB op t (.d (.list [])) L:=rfl
section
variable{Ψ:PEv}{Z:PEnds}{is:List Int}{ns:List Str}{es:LB}{st:List Str}{g:Str}{zs:List Str}{nd:List (Str×Int)}{q:PT}{o5 o6 o7 o8 o9 o10 o11 o12:Option Sl}
section
variable{ys:List (Str×List Str)}{rs:List Rw}
theorem Th(h1:Ψ.sp "_law_few"=ND){gr:List (Str×Int)}(hl:gr.length<=90)(l:(mE gr zs).length<=90/\(ys.map fun y=>y.1)=((mE gr zs).map fun p=>p.1)/\(∀q∈ys.zip (mE gr zs),(q.1.2.length:Int)<q.2.2)/\∀s∈(mE gr zs).map (fun p=>p.1),Qs s=true)(k:xA Ψ (fun _=>False) q Z (ZD is ns es st g (tL zs) o6 (SG gr) o8 (oe ys) o10 o11 o12)) :
  xA Ψ (fun _=>False) (.seq (.ife (.not (.call "_law_few" (.nq (.var 9) (.nq (.comp [] ["_law_need"] (.nm 0) .val (.nq (.var 7) .nr) (.cmp .NotIn (.idx (.var 0) (.int 0)) (.var 6)) (.var 0)) .nr)))) (.seq (.ret (.bl false)) .nil) .nil) q) Z (ZD is ns es st g (tL zs) o6 (SG gr) o8 (oe ys) o10 o11 o12):=by
 have hz:sizeLine=16777216:=QV;delta ZD tL SG oe at k ⊢;simp?[↓uU,↓lA (md:=[]) h1 rfl rfl];rw[<- VA PC gr];refine XA (fun p=>T.d (PC p)) (fun p=>T.d (PC p)) (fun p=>!decide (p.1∈zs)) gr [] _ (fun x hx R hR=>?_) (by show 0+gr.length<=_;omega) ?_;obtain⟨x,n⟩:=x;delta PC at hR ⊢;simp?[↓xZ,↓DL,oG,gE,eB,true_or];by_cases d:x∈zs;rw[dT d]at hR ⊢;exact hR;rw[dF d]at hR ⊢;exact hR;rw[Qn,VA PC];simp?[↓zA];refine IM l ?_;simp?[↓zA];exact k
theorem Sh(h1:Ψ.sp "ground_by"=mF)(l:zs.length<=11/\BD [] zs/\nd.length<=90/\(nd.map fun p=>p.1).Nodup)(k:∀rs F ys,GI [] zs nd rs F->(∀x,x∈F↔Held [] zs nd x)->Paired (UG [] zs F) (aH nd F) ys->xA Ψ (fun _=>False) q Z (ZD is ns es st g (tL zs) (SG nd) o7 o8 o9 (yQ rs ys) o11 o12)) :
  xA Ψ (fun _=>False) (.seq (.set 10 (.call "ground_by" (.nq (.lst .nr) (.nq (.bi .list (.nq (.var 5) .nr)) (.nq (.bi .list (.nq (.var 6) .nr)) .nr))))) q) Z (ZD is ns es st g (tL zs) (SG nd) o7 o8 o9 o10 o11 o12):=by
 delta ZD tL SG yQ at k;delta ZD tL SG;simp?[↓pk,↓lA (md:=[]) h1 rfl rfl];refine⟨Qy _,jN (es:=[]) ⟨Qy _,l⟩ fun rs F ys a b c=>?_⟩;simp?[↓cZ];exact k rs F ys a b c
theorem Rh(hr:∀r∈rs,r.2=[])(hn:(rs.map fun r=>r.1).Nodup)(hp:(rs.map fun r=>r.1).Perm zs)(hl:rs.length<=20)(so:sortedS zs=true)(ok:∀s∈zs,Qs s=true)(k:xA Ψ (fun _=>False) q Z (ZD is ns es st g (tL zs) o6 o7 o8 o9 (yQ rs ys) o11 o12)) :
  xA Ψ (fun _=>False) (.seq (.ife (.cmp .NotEq (.bi .sorted (.nq (.idx (.var 10) (.int 0)) .nr)) (.comp [] ["_law_name"] (.nm 0) .val (.nq (.var 5) .nr) .nop (.tup (.nq (.var 0) (.nq (.lst .nr) .nr))))) (.seq (.ret (.bl false)) .nil) .nil) q) Z (ZD is ns es st g (tL zs) o6 o7 o8 o9 (yQ rs ys) o11 o12):=by
 have hz:sizeLine=16777216:=QV;have hl2:=hp.length_eq;rw[QD]at hl2;have o:=pR ok;delta ZD tL yQ at k ⊢;rw[AK hr]at k ⊢;simp?[↓DL];refine JN (by rw[QD,QD];omega) (by rw[lG];exact hn) fun rs' p1 so'=>?_;rw[iJ p1 so' so hp];simp?[↓zA];rw[<- VA PyData.str zs];refine zB (fun s=>T.d (.str s)) (fun s=>zD (s,[])) zs [] _ (fun x hx R hR=>?_) (by show 0+zs.length<=_;omega) ?_;simp?[↓Ug,↓OX];exact⟨by omega,by omega,hR⟩;rw[Qn,PR,P4,Ge,PN,yU];refine⟨o,o,?_⟩;rw[wD _ o.1];exact k
theorem Ph(h1:Ψ.sp "_law_few"=ND)(hl:nd.length<=90)(l:(mE nd zs).length<=90/\(ys.map fun y=>y.1)=((mE nd zs).map fun p=>p.1)/\(∀q∈ys.zip (mE nd zs),(q.1.2.length:Int)<q.2.2)/\∀s∈(mE nd zs).map (fun p=>p.1),Qs s=true)(k:xA Ψ (fun _=>False) q Z (ZD is ns es st g (tL zs) (SG nd) o7 o8 o9 (yQ rs ys) o11 o12)) :
  xA Ψ (fun _=>False) (.seq (.ife (.not (.call "_law_few" (.nq (.idx (.var 10) (.int 1)) (.nq (.comp [] ["_law_need"] (.nm 0) .val (.nq (.var 6) .nr) (.cmp .NotIn (.idx (.var 0) (.int 0)) (.var 6)) (.var 0)) .nr)))) (.seq (.ret (.bl false)) .nil) .nil) q) Z (ZD is ns es st g (tL zs) (SG nd) o7 o8 o9 (yQ rs ys) o11 o12):=by
 have hz:sizeLine=16777216:=QV;delta ZD tL SG yQ at k ⊢;simp?[↓uU,↓DV,↓lA (md:=[]) h1 rfl rfl];rw[<- VA PC nd];refine XA (fun p=>T.d (PC p)) (fun p=>T.d (PC p)) (fun p=>!decide (p.1∈zs)) nd [] _ (fun x hx R hR=>?_) (by show 0+nd.length<=_;omega) ?_;obtain⟨x,n⟩:=x;delta PC at hR ⊢;simp?[↓xZ,↓DL,oG,gE,eB,true_or];by_cases d:x∈zs;rw[dT d]at hR ⊢;exact hR;rw[dF d]at hR ⊢;exact hR;rw[Qn,VA PC];simp?[↓zA];refine IM l ?_;simp?[↓zA];exact k
theorem Ed(h1:Ψ.sp "ground_by"=mF)(l:es.length<=126/\BD es []/\nd.length<=90/\(nd.map fun p=>p.1).Nodup)(k:∀rs F ys,GI es [] nd rs F->(∀x,x∈F↔Held es [] nd x)->Paired (UG es [] F) (aH nd F) ys->xA Ψ (fun _=>False) q Z (ZD is ns es st g o5 (SG nd) o7 o8 o9 o10 (yQ rs ys) o12)) :
  xA Ψ (fun _=>False) (.seq (.set 11 (.call "ground_by" (.nq (.bi .list (.nq (.var 2) .nr)) (.nq (.lst .nr) (.nq (.bi .list (.nq (.var 6) .nr)) .nr))))) q) Z (ZD is ns es st g o5 (SG nd) o7 o8 o9 o10 o11 o12):=by
 delta ZD SG yQ at k;delta ZD SG;simp?[↓pk,↓lA (md:=[]) h1 rfl rfl];refine⟨Qy _,jN (sr:=[]) ⟨l.1,Qy _,l.2⟩ fun rs F ys a b c=>?_⟩;simp?[↓cZ];exact k rs F ys a b c
theorem pI:ZE (.list []):=oR (k:=0) (by decide) fun _ z=>(nomatch z)
theorem Ad(h1:Ψ.sp "_law_few"=ND)(l:nd.length<=90/\(ys.map fun y=>y.1)=(nd.map fun p=>p.1)/\(∀q∈ys.zip nd,(q.1.2.length:Int)<q.2.2)/\∀s∈nd.map (fun p=>p.1),Qs s=true)(k:xA Ψ (fun _=>False) q Z (ZD is ns es st g o5 (SG nd) o7 o8 o9 o10 (yQ [] ys) o12)) :
  xA Ψ (fun _=>False) (.seq (.ife (.or (.cmp .NotEq (.idx (.var 11) (.int 0)) (.lst .nr)) (.not (.call "_law_few" (.nq (.idx (.var 11) (.int 1)) (.nq (.var 6) .nr))))) (.seq (.ret (.bl false)) .nil) .nil) q) Z (ZD is ns es st g o5 (SG nd) o7 o8 o9 o10 (yQ [] ys) o12):=by
 delta ZD SG yQ at k ⊢;simp?[↓ij,↓uU,↓DL,↓DV,↓Ke,qR,↓lA (md:=[]) h1 rfl rfl];refine⟨Qy _,pI,pI,?_⟩;rw[wD _ pI.1];simp?[↓zA];refine IM l ?_;simp?[↓zA];rw[qR]at k;exact k
theorem Td(h1:Ψ.sp "ground_by"=mF)(l:es.length<=126/\ns.length<=11/\BD es ns/\nd.length<=90/\(nd.map fun p=>p.1).Nodup)(k:∀rs F ys,GI es ns nd rs F->(∀x,x∈F↔Held es ns nd x)->Paired (UG es ns F) (aH nd F) ys->xA Ψ (fun _=>False) q Z (ZD is ns es st g o5 (SG nd) o7 o8 o9 o10 o11 (yQ rs ys))) :
  xA Ψ (fun _=>False) (.seq (.set 12 (.call "ground_by" (.nq (.bi .list (.nq (.var 2) .nr)) (.nq (.bi .list (.nq (.var 1) .nr)) (.nq (.bi .list (.nq (.var 6) .nr)) .nr))))) q) Z (ZD is ns es st g o5 (SG nd) o7 o8 o9 o10 o11 o12):=by
 delta ZD SG yQ at k;delta ZD SG;simp?[↓lA (md:=[]) h1 rfl rfl];refine jN l fun rs F ys a b c=>?_;simp?[↓cZ];exact k rs F ys a b c
theorem Sd{Q:T->List T->Prop}(hr:∀r∈rs,r.2=[])(hn:ns.Nodup)(hp:(rs.map fun r=>r.1).Perm ns)(hl:ns.length<=20)(ok:∀s∈ns,Qs s=true)(k:Q (.d (.bool true)) []) :
  xA Ψ (fun _=>False) (.seq (.ret (.and (.cmp .Eq (.bi .sorted (.nq (.idx (.var 12) (.int 0)) .nr)) (.bi .sorted (.nq (.comp [] ["_law_name"] (.nm 0) .val (.nq (.var 1) .nr) .nop (.tup (.nq (.var 0) (.nq (.lst .nr) .nr)))) .nr))) (.cmp .Eq (.idx (.var 12) (.int 1)) (.lst .nr)))) .nil) (eZ Q) (ZD is ns es st g o5 o6 o7 o8 o9 o10 o11 (yQ rs [])):=by
 have hz:sizeLine=16777216:=QV;have hl2:=hp.length_eq;rw[QD]at hl2;delta ZD yQ;rw[AK hr,qR];simp?[↓DL,↓N6];refine JN (by rw[QD,QD];omega) (by rw[lG];exact hp.nodup_iff.mpr hn) fun r1 p1 s1=>?_;simp?[↓zA];rw[<- VA PyData.str ns];refine zB (fun s=>T.d (.str s)) (fun s=>zD (s,[])) ns [] _ (fun x hx R hR=>?_) (by show 0+ns.length<=_;omega) ?_;simp?[↓Ug,↓OX];exact⟨by omega,by omega,hR⟩;rw[Qn,PR,R8,PN];refine JN (by rw[QD];omega) (by rw[lG];exact hn) fun r2 p2 s2=>?_;have e2:=p2.map qE;rw[lG]at e2;have e1:=iJ p1 s1 s2 (hp.trans e2.symm);have e3:=iJ p2 s2 s2 e2.symm;have o:=pR (l:=r2.map qE) fun s hs=>ok s (e2.mem_iff.mp hs);rw[e1,show r2.map eU=((r2.map qE).map U4).map eU by rw[<- e3],P4,Ze,V6];refine⟨o,o,?_⟩;rw[wD _ o.1];simp?[↓DV,↓Ke,↓V6];refine⟨Qy _,pI,pI,?_⟩;rw[wD _ pI.1];exact k
end
end
theorem G8{Ψ:PEv}(h4:Ψ.sp "_law_web"=gF)(h5:Ψ.sp "_law_needs"=VC)(h6:Ψ.sp "ground_by"=mF)(h7:Ψ.sp "_law_few"=ND)(ds Q E)(h:rK.run ds Q E):ds.length=vR.length/\xA Ψ (fun _=>False) C6 (vB rK vR.length Q) (nA L6 rK.md ds):=by
 obtain⟨is,hl,hb,rfl,q⟩:=h;refine CA [some (.nv (.lst ((is.map PyData.int).map T.d))),none,none,none,none,none,none,none,none,none,none,none,none] rfl rfl rfl ?_;refine zi h4 fun ns es st g w nn=>?_;obtain⟨w1,w2,w3,w4,w5,w6,w7⟩:=w;have sok:∀s∈ns,Qs s=true:=fun s hs=>Vd (w2 s hs);refine yi w5 fun zs nz mz so=>ji h5 ⟨Wi w7,w1⟩ fun nd ok=>?_;have zin:∀s∈zs,s∈ns:=fun s hs=>w6 s ((mz s).mp hs);have zok:∀s∈zs,Qs s=true:=fun s hs=>sok s (zin s hs);have zl:=QZ (tI nz zin) w1;have ein:∀e∈es,e.2∈ns:=fun e he=>(w4 e he).2;have eok:∀e∈es,Qs e.1=true/\Qs e.2=true:=fun e he=>⟨sok _ (w4 e he).1,sok _ (w4 e he).2⟩
 have ln:nd.length=ns.length:=by rw[<- ok.1.length_eq,QD]
 have ndn:(nd.map fun p=>p.1).Nodup:=ok.1.nodup_iff.mpr nn;have nok:∀s,s∈(nd.map fun p=>p.1)->Qs s=true:=fun s hs=>sok s (ok.1.mem_iff.mp hs);have nin:∀s,s∈ns->∃n,(s,n)∈nd:=fun s hs=>by obtain⟨p,hp,e⟩:=QW.mp (ok.1.mem_iff.mpr hs);exact⟨p.2,e▸hp⟩
 have gf:((aZ ns nd).map fun p=>p.1)=nd.map fun p=>p.1:=by unfold aZ;rw[QY];rfl
 have gl:(aZ ns nd).length=nd.length:=by unfold aZ;rw[QD]
 have gin:∀x n,(x,n)∈aZ ns nd->x∈ns/\(ns.length:Int)<=n:=fun x n h=>by unfold aZ at h;obtain⟨p,hp,e⟩:=QW.mp h;cases e;have:=ok.2 p hp;exact⟨ok.1.mem_iff.mp (QW.mpr ⟨p,hp,rfl⟩),by omega⟩
 have one:∀x n,(x,n)∈nd->1<=n:=fun x n h=>(ok.2 _ h).1;have few:∀{es:LB}{sr:List Str}{nd:List (Str×Int)}{rs:List Rw}{F zs:List Str}{ys:List (Str×List Str)},GI es sr nd rs F->(∀x,x∈F↔Held es sr nd x)->(∀x,x∈F↔x∈zs)->Paired (UG es sr F) (aH nd F) ys->(ys.map fun y=>y.1)=((mE nd zs).map fun p=>p.1)/\∀q∈ys.zip (mE nd zs),(q.1.2.length:Int)<q.2.2:=fun gi hF hm hp=>D9 hm (fun x n h hx m=>hx ((hF x).mpr (.tell _ h gi.held m))) hp;have fl:∀{nd:List (Str×Int)}{zs:List Str},(mE nd zs).length<=nd.length:=WH _ _;have fin:∀{nd:List (Str×Int)}{zs:List Str}(s:Str),s∈((mE nd zs).map fun p=>p.1)->s∈nd.map fun p=>p.1:=fun s hs=>by obtain⟨p,hp,e⟩:=QW.mp hs;exact QW.mpr ⟨p,(Qj.mp hp).1,e⟩
 refine Ih (by omega) (Eh h6 ⟨w3,by omega,⟨zok,eok⟩,by omega,by rw[gf];exact ndn⟩ fun rs F ys gi hF hp=>?_);have hm:∀x,x∈F↔x∈zs:=fun x=>(hF x).trans (MK (fun x n F h=>SX zin ein (gin x n h).1 (gin x n h).2) fun s hs=>by obtain⟨n,hn⟩:=nin s (zin s hs);exact⟨_,QW.mpr ⟨(s,n),hn,rfl⟩⟩);have pz:F.Perm zs:=(WK gi.ndp nz).mpr hm;have g2:=gi.rlen;have g3:=pz.length_eq;have f:=few gi hF hm hp;refine Ah (fun r hr=>gi.non r hr ((hm _).mp (by rw[gi.e];exact QW.mpr ⟨r,hr,rfl⟩))) (by rw[<- gi.e];exact gi.ndp) (by rw[<- gi.e];exact pz) (by omega) so zok (Th h7 (by omega) ⟨by have:=fl (nd:=aZ ns nd) (zs:=zs);omega,f.1,f.2,fun s hs=>nok s (by rw[<- gf];exact fin s hs)⟩ (Sh h6 ⟨by omega,⟨zok,fun _ z=>(nomatch z)⟩,by omega,ndn⟩ fun rs F ys gi hF hp=>?_));have hm:∀x,x∈F↔x∈zs:=fun x=>(hF x).trans (MK (fun x n F h=>VX (one x n h)) fun s hs=>nin s (zin s hs));have pz:F.Perm zs:=(WK gi.ndp nz).mpr hm;have g2:=gi.rlen;have g3:=pz.length_eq;have f:=few gi hF hm hp;refine Rh (fun r hr=>gi.non r hr ((hm _).mp (by rw[gi.e];exact QW.mpr ⟨r,hr,rfl⟩))) (by rw[<- gi.e];exact gi.ndp) (by rw[<- gi.e];exact pz) (by omega) so zok (Ph h7 (by omega) ⟨by have:=fl (nd:=nd) (zs:=zs);omega,f.1,f.2,fun s hs=>nok s (fin s hs)⟩ (Ed h6 ⟨w3,⟨fun _ z=>(nomatch z),eok⟩,by omega,ndn⟩ fun rs F ys gi hF hp=>?_));have hm:∀x,x∈F↔x∈([]:List Str):=fun x=>(hF x).trans (MK (fun x n F h=>ZX (one x n h)) fun s hs=>(nomatch hs));have eF:F=[]:=List.eq_nil_iff_forall_not_mem.mpr fun x hx=>nomatch (hm x).mp hx;have er:rs=[]:=by have:=gi.e;rw[eF]at this;exact QBI.mp this.symm
 have f:=few gi hF hm hp;rw[show mE nd []=nd from List.filter_eq_self.mpr fun p _=>rfl]at f;subst er;refine Ad h7 ⟨by omega,f.1,f.2,nok⟩ (Td h6 ⟨w3,by omega,⟨sok,eok⟩,by omega,ndn⟩ fun rs F ys gi hF hp=>?_);have hm:∀x,x∈F↔x∈ns:=fun x=>by refine(hF x).trans ⟨fun h=>?_,fun h=>?_⟩;obtain⟨n,h⟩:=YT h;exact ok.1.mem_iff.mp (QW.mpr ⟨_,h,rfl⟩);obtain⟨n,hn⟩:=nin x h;exact .see hn h
 have ey:ys=[]:=by have f:=(few gi hF hm hp).1;rw[show mE nd ns=[] from List.filter_eq_nil_iff.mpr fun p hp=>by rw[dT (ok.1.mem_iff.mp (QW.mpr ⟨p,hp,rfl⟩))];exact QC]at f;exact QBI.mp f
 subst ey;exact Sd (fun r hr=>gi.non r hr ((hm _).mp (by rw[gi.e];exact QW.mpr ⟨r,hr,rfl⟩))) nn (by rw[<- gi.e];exact(WK gi.ndp nn).mpr hm) (by omega) sok q
def Pk:List (Str×PSp):=[("_law_fold",jD),("_law_mixed",MA),("_law_names",lD),("_law_web",gF),("_law_needs",VC),("add_way",iC),("add_name",yD),("rooms_of",KC),("points_reached",jC),("lay_chain",lF),("name_behind",PB),("chain_from",XC),("full_names",eE),("apart_chains",mD),("told_through",IB),("ground_alone",UC),("ground_by",mF),("_law_few",ND),("law",rK)]
def Mg:List (Str×D):=[("BEGIN",.tuple ((["","begin"]:List Str).map PyData.str)),("WIDE",.int 2)]
def Ψ:PEv:=Z5 Pk Mg
theorem jL:Ψ.sp "_law_fold"=jD:=by kernel_rfl
theorem mG:Ψ.sp "_law_mixed"=MA:=by kernel_rfl
theorem sM:Ψ.sp "_law_names"=lD:=by kernel_rfl
theorem OT:Ψ.sp "_law_web"=gF:=by kernel_rfl
theorem rM:Ψ.sp "_law_needs"=VC:=by kernel_rfl
theorem VI:Ψ.sp "add_way"=iC:=by kernel_rfl
theorem yL:Ψ.sp "add_name"=yD:=by kernel_rfl
theorem IK:Ψ.sp "rooms_of"=KC:=by kernel_rfl
theorem nE:Ψ.sp "points_reached"=jC:=by kernel_rfl
theorem zJ:Ψ.sp "lay_chain"=lF:=by kernel_rfl
theorem KG:Ψ.sp "name_behind"=PB:=by kernel_rfl
theorem LH:Ψ.sp "chain_from"=XC:=by kernel_rfl
theorem HH:Ψ.sp "full_names"=eE:=by kernel_rfl
theorem FF:Ψ.sp "apart_chains"=mD:=by kernel_rfl
theorem sD:Ψ.sp "told_through"=IB:=by kernel_rfl
theorem DF:Ψ.sp "ground_alone"=UC:=by kernel_rfl
theorem kJ:Ψ.sp "ground_by"=mF:=by kernel_rfl
theorem RT:Ψ.sp "_law_few"=ND:=by kernel_rfl
theorem Y6:Ψ.sp "law"=rK:=by kernel_rfl
theorem eJ:Ψ.va "BEGIN"=some (pr eA):=by kernel_rfl
theorem m7:Ψ.va "WIDE"=some (.int 2):=by kernel_rfl
theorem ki{α:Type}{us:List α}(h:us.length=0):us=[]:=qi.mp h
theorem AX{α:Type}{us:List α}(h:us.length=1):∃a0,us=[a0]:=by
 cases us with
 |nil=>cases h
 |cons x r=>obtain rfl:=ki (QAS h);exact⟨x,rfl⟩
theorem CP{α:Type}{us:List α}(h:us.length=2):∃a0 a1,us=[a0,a1]:=by
 cases us with
 |nil=>cases h
 |cons x r=>obtain⟨b0,rfl⟩:=AX (QAS h);exact⟨x,b0,rfl⟩
theorem KR{α:Type}{us:List α}(h:us.length=3):∃a0 a1 a2,us=[a0,a1,a2]:=by
 cases us with
 |nil=>cases h
 |cons x r=>obtain⟨b0,b1,rfl⟩:=CP (QAS h);exact⟨x,b0,b1,rfl⟩
theorem Id{α:Type}{us:List α}(h:us.length=4):∃a0 a1 a2 a3,us=[a0,a1,a2,a3]:=by
 cases us with
 |nil=>cases h
 |cons x r=>obtain⟨b0,b1,b2,rfl⟩:=KR (QAS h);exact⟨x,b0,b1,b2,rfl⟩
theorem all{P:Program}{w:World}{K:QF}{h:Heap}{mg:Str->Option Value}{fa:Addr}(X:K.In h)(G:h.Ns mainGlobals mg)(hfa:mg "law"=some (.ref fa))(d_l_fold:VB K "_law_fold" (jF 20))(d_l_mixed:VB K "_law_mixed" (jF 18))(d_l_names:VB K "_law_names" (jF 19))(d_l_web:VB K "_law_web" (jF 21))(d_l_needs:VB K "_law_needs" (jF 22))(d_add_way:VB K "add_way" (jF 6))(d_add_name:VB K "add_name" (jF 5))(d_rooms_of:VB K "rooms_of" (jF 4))(d_points_reached:VB K "points_reached" (jF 7))(d_lay_chain:VB K "lay_chain" (jF 8))(d_name_behind:VB K "name_behind" (jF 10))(d_chain_from:VB K "chain_from" (jF 9))(d_full_names:VB K "full_names" (jF 11))(d_apart_chains:VB K "apart_chains" (jF 3))(d_told_through:VB K "told_through" (jF 15))(d_ground_alone:VB K "ground_alone" (jF 14))(d_ground_by:VB K "ground_by" (jF 13))(d_l_few:VB K "_law_few" (jF 23))(d_law:VB K "law" (jF 24))(w_BEGIN:EH K "BEGIN" (.tuple ((["","begin"]:List Str).map PyData.str)))(w_WIDE:EH K "WIDE" (.int 2))(z_all:qO K mainGlobals "all"=some none)(z_enumerate:qO K mainGlobals "enumerate"=some none)(z_len:qO K mainGlobals "len"=some none)(z_list:qO K mainGlobals "list"=some none)(z_range:qO K mainGlobals "range"=some none)(z_set:qO K mainGlobals "set"=some none)(z_sorted:qO K mainGlobals "sorted"=some none)(z_zip:qO K mainGlobals "zip"=some none) :
  ∃fd:FuncData,(∀(s:Shared) (u:Value),BindsTo s fd ⟨[u],[]⟩ [("_law_script",u)])/\∀base:Heap,K.In base->base.Ns mainGlobals mg->FnOk P w K mg base rZ 19 fa fd ["_law_script"] (lift K rK):=by
 have VT:∀p∈Mg,EH K p.1 p.2:=by intro p hp;simp only[Mg,QK,Ql,or_false]at hp;rcases hp with rfl|rfl;exact w_BEGIN;exact w_WIDE
 have NT:∀y∈(["all","enumerate","len","list","range","set","sorted","zip"]:List Str),qO K mainGlobals y=some none:=by intro y hy;simp only[QK,Ql,or_false]at hy;rcases hy with rfl|rfl|rfl|rfl|rfl|rfl|rfl|rfl;exact z_all;exact z_enumerate;exact z_len;exact z_list;exact z_range;exact z_set;exact z_sorted;exact z_zip
 refine g9 X G d_law rfl hfa Y6 (fun _ _ _ _ _ _ us hl=>by obtain⟨_,rfl⟩:=AX hl;rfl) fun base kb nb f fd F hm=>?_;have H_l_fold:cC P w K mg base Ψ 1 "_law_fold":=EA X G d_l_fold XV (by kernel_rfl) (fun _ _ _ _ _ _ us hl=>by obtain⟨_,rfl⟩:=AX hl;rfl) (fun g hg=>by cases hg) (DA X G VT (by kernel_rfl)) (fun y hy=>NT y (nB (by kernel_rfl) y hy)) (by rw[jL];exact C2 );have H_l_mixed:cC P w K mg base Ψ 2 "_law_mixed":=EA X G d_l_mixed xS (by kernel_rfl) (fun _ _ _ _ _ _ us hl=>by obtain⟨_,_,rfl⟩:=CP hl;rfl) (fun g hg=>by cases hg) (DA X G VT (by kernel_rfl)) (fun y hy=>NT y (nB (by kernel_rfl) y hy)) (by rw[mG];exact pX );have H_l_names:cC P w K mg base Ψ 3 "_law_names":=EA X G d_l_names vS (by kernel_rfl) (fun _ _ _ _ _ _ us hl=>by obtain⟨_,_,rfl⟩:=CP hl;rfl) (fun g hg=>by simp only[uM,QK,Ql,or_false]at hg;rcases hg with rfl<;>first|exact H_l_mixed.mono (by decide)) (DA X G VT (by kernel_rfl)) (fun y hy=>NT y (nB (by kernel_rfl) y hy)) (by rw[sM];exact oX mG);have H_l_web:cC P w K mg base Ψ 4 "_law_web":=EA X G d_l_web PY (by kernel_rfl) (fun _ _ _ _ _ _ us hl=>by obtain⟨_,_,rfl⟩:=CP hl;rfl) (fun g hg=>by simp only[oT,QK,Ql,or_false]at hg;rcases hg with rfl|rfl|rfl<;>first|exact H_l_fold.mono (by decide)|exact H_l_mixed.mono (by decide)|exact H_l_names.mono (by decide)) (DA X G VT (by kernel_rfl)) (fun y hy=>NT y (nB (by kernel_rfl) y hy)) (by rw[OT];exact D8 jL mG sM);have H_l_needs:cC P w K mg base Ψ 5 "_law_needs":=EA X G d_l_needs kS (by kernel_rfl) (fun _ _ _ _ _ _ us hl=>by obtain⟨_,_,rfl⟩:=CP hl;rfl) (fun g hg=>by simp only[xM,QK,Ql,or_false]at hg;rcases hg with rfl|rfl<;>first|exact H_l_fold.mono (by decide)|exact H_l_mixed.mono (by decide)) (DA X G VT (by kernel_rfl)) (fun y hy=>NT y (nB (by kernel_rfl) y hy)) (by rw[rM];exact nX jL mG);have H_add_way:cC P w K mg base Ψ 6 "add_way":=EA X G d_add_way uS (by kernel_rfl) (fun _ _ _ _ _ _ us hl=>by obtain⟨_,_,_,_,rfl⟩:=Id hl;rfl) (fun g hg=>by cases hg) (DA X G VT (by kernel_rfl)) (fun y hy=>NT y (nB (by kernel_rfl) y hy)) (by rw[VI];exact D2 );have H_add_name:cC P w K mg base Ψ 7 "add_name":=EA X G d_add_name oQ (by kernel_rfl) (fun _ _ _ _ _ _ us hl=>by obtain⟨_,_,rfl⟩:=CP hl;rfl) (fun g hg=>by simp only[YK,QK,Ql,or_false]at hg;rcases hg with rfl<;>first|exact H_add_way.mono (by decide)) (DA X G VT (by kernel_rfl)) (fun y hy=>NT y (nB (by kernel_rfl) y hy)) (by rw[yL];exact G2 VI);have H_rooms_of:cC P w K mg base Ψ 8 "rooms_of":=EA X G d_rooms_of nQ (by kernel_rfl) (fun _ _ _ _ _ _ us hl=>by obtain⟨_,_,_,rfl⟩:=KR hl;rfl) (fun g hg=>by simp only[JK,QK,Ql,or_false]at hg;rcases hg with rfl|rfl<;>first|exact H_add_name.mono (by decide)|exact H_add_way.mono (by decide)) (DA X G VT (by kernel_rfl)) (fun y hy=>NT y (nB (by kernel_rfl) y hy)) (by rw[IK];exact TU yL VI eJ m7);have H_points_reached:cC P w K mg base Ψ 9 "points_reached":=EA X G d_points_reached OH (by kernel_rfl) (fun _ _ _ _ _ _ us hl=>by obtain⟨_,rfl⟩:=AX hl;rfl) (fun g hg=>by cases hg) (DA X G VT (by kernel_rfl)) (fun y hy=>NT y (nB (by kernel_rfl) y hy)) (by rw[nE];exact mX eJ);have H_lay_chain:cC P w K mg base Ψ 10 "lay_chain":=EA X G d_lay_chain IN (by kernel_rfl) (fun _ _ _ _ _ _ us hl=>by obtain⟨_,_,_,rfl⟩:=KR hl;rfl) (fun g hg=>by cases hg) (DA X G VT (by kernel_rfl)) (fun y hy=>NT y (nB (by kernel_rfl) y hy)) (by rw[zJ];exact F8 eJ);have H_name_behind:cC P w K mg base Ψ 11 "name_behind":=EA X G d_name_behind xL (by kernel_rfl) (fun _ _ _ _ _ _ us hl=>by obtain⟨_,_,rfl⟩:=CP hl;rfl) (fun g hg=>by cases hg) (DA X G VT (by kernel_rfl)) (fun y hy=>NT y (nB (by kernel_rfl) y hy)) (by rw[KG];exact AU );have H_chain_from:cC P w K mg base Ψ 12 "chain_from":=EA X G d_chain_from BL (by kernel_rfl) (fun _ _ _ _ _ _ us hl=>by obtain⟨_,_,_,rfl⟩:=KR hl;rfl) (fun g hg=>by simp only[ZH,QK,Ql,or_false]at hg;rcases hg with rfl<;>first|exact H_name_behind.mono (by decide)) (DA X G VT (by kernel_rfl)) (fun y hy=>NT y (nB (by kernel_rfl) y hy)) (by rw[LH];exact sX KG);have H_full_names:cC P w K mg base Ψ 13 "full_names":=EA X G d_full_names UL (by kernel_rfl) (fun _ _ _ _ _ _ us hl=>by obtain⟨_,rfl⟩:=AX hl;rfl) (fun g hg=>by cases hg) (DA X G VT (by kernel_rfl)) (fun y hy=>NT y (nB (by kernel_rfl) y hy)) (by rw[HH];exact B2 );have H_apart_chains:cC P w K mg base Ψ 14 "apart_chains":=EA X G d_apart_chains aJ (by kernel_rfl) (fun _ _ _ _ _ _ us hl=>by obtain⟨_,_,_,rfl⟩:=KR hl;rfl) (fun g hg=>by simp only[JF,QK,Ql,or_false]at hg;rcases hg with rfl|rfl|rfl|rfl|rfl<;>first|exact H_rooms_of.mono (by decide)|exact H_points_reached.mono (by decide)|exact H_lay_chain.mono (by decide)|exact H_chain_from.mono (by decide)|exact H_full_names.mono (by decide)) (DA X G VT (by kernel_rfl)) (fun y hy=>NT y (nB (by kernel_rfl) y hy)) (by rw[FF];exact tX IK nE zJ LH HH eJ);have H_told_through:cC P w K mg base Ψ 15 "told_through":=EA X G d_told_through sJ (by kernel_rfl) (fun _ _ _ _ _ _ us hl=>by obtain⟨_,_,_,_,rfl⟩:=Id hl;rfl) (fun g hg=>by simp only[aF,QK,Ql,or_false]at hg;rcases hg with rfl<;>first|exact H_apart_chains.mono (by decide)) (DA X G VT (by kernel_rfl)) (fun y hy=>NT y (nB (by kernel_rfl) y hy)) (by rw[sD];exact K2 FF);have H_ground_alone:cC P w K mg base Ψ 16 "ground_alone":=EA X G d_ground_alone tJ (by kernel_rfl) (fun _ _ _ _ _ _ us hl=>by obtain⟨_,_,_,rfl⟩:=KR hl;rfl) (fun g hg=>by simp only[iF,QK,Ql,or_false]at hg;rcases hg with rfl<;>first|exact H_told_through.mono (by decide)) (DA X G VT (by kernel_rfl)) (fun y hy=>NT y (nB (by kernel_rfl) y hy)) (by rw[DF];exact aX sD);have H_ground_by:cC P w K mg base Ψ 17 "ground_by":=EA X G d_ground_by jO (by kernel_rfl) (fun _ _ _ _ _ _ us hl=>by obtain⟨_,_,_,rfl⟩:=KR hl;rfl) (fun g hg=>by simp only[EI,QK,Ql,or_false]at hg;rcases hg with rfl|rfl<;>first|exact H_ground_alone.mono (by decide)|exact H_told_through.mono (by decide)) (DA X G VT (by kernel_rfl)) (fun y hy=>NT y (nB (by kernel_rfl) y hy)) (by rw[kJ];exact Xd DF sD);have H_l_few:cC P w K mg base Ψ 18 "_law_few":=EA X G d_l_few RY (by kernel_rfl) (fun _ _ _ _ _ _ us hl=>by obtain⟨_,_,rfl⟩:=CP hl;rfl) (fun g hg=>by cases hg) (DA X G VT (by kernel_rfl)) (fun y hy=>NT y (nB (by kernel_rfl) y hy)) (by rw[RT];exact L8 );exact aY (R:=Ψ.sp "law") F ya (by kernel_rfl) (fun g hg=>by simp only[v6,QK,Ql,or_false]at hg;rcases hg with rfl|rfl|rfl|rfl<;>first|exact H_l_web.mono (by decide)|exact H_l_needs.mono (by decide)|exact H_ground_by.mono (by decide)|exact H_l_few.mono (by decide)) (DA X G VT (by kernel_rfl)) (fun y hy=>QBV X G (NT y (nB (by kernel_rfl) y hy))) (by rw[Y6];exact G8 OT rM kJ RT)
end L2.L3.K23
theorem PySem.W.Fast.te13469440922748589694 : True := trivial
open PySem PySem.W PyProof.Rows
set_option maxRecDepth 100000 in
set_option maxHeartbeats 0 in
theorem PySem.Challenge.cw_quoteweave_k23_seers_alone_holds : PySem.Challenge.rw_quoteweave_k23_seers_alone.Holds := by
 w_on;refine holds_law (by kernel_rfl) fun said=>?_;k_head;(case hw=>w_witness2)
 k_fill
 refine L2.L3.walk_bits (l:=wm) (k:=19) (x:="_law_script") rfl rfl ⟨rfl,by decide,by decide⟩ (fun w h Y=>PySem.W.kIn_of Y) ?F
 case F =>
  intro w mg fa h KX G hmg;refine' L2.L3.K23.all KX G hmg ?d0 ?d1 ?d2 ?d3 ?d4 ?d5 ?d6 ?d7 ?d8 ?d9 ?d10 ?d11 ?d12 ?d13 ?d14 ?d15 ?d16 ?d17 ?d18 ?w0 ?w1 ?z0 ?z1 ?z2 ?z3 ?z4 ?z5 ?z6 ?z7
  (case d0=>refine' L2.L3.def_at ?a0 ?l0 ?c0 ?k0;(case a0=>k_is);(case l0=>k_is);(case c0=>k_is);(case k0=>k_is))
  (case d1=>refine' L2.L3.def_at ?a1 ?l1 ?c1 ?k1;(case a1=>k_is);(case l1=>k_is);(case c1=>k_is);(case k1=>k_is))
  (case d2=>refine' L2.L3.def_at ?a2 ?l2 ?c2 ?k2;(case a2=>k_is);(case l2=>k_is);(case c2=>k_is);(case k2=>k_is))
  (case d3=>refine' L2.L3.def_at ?a3 ?l3 ?c3 ?k3;(case a3=>k_is);(case l3=>k_is);(case c3=>k_is);(case k3=>k_is))
  (case d4=>refine' L2.L3.def_at ?a4 ?l4 ?c4 ?k4;(case a4=>k_is);(case l4=>k_is);(case c4=>k_is);(case k4=>k_is))
  (case d5=>refine' L2.L3.def_at ?a5 ?l5 ?c5 ?k5;(case a5=>k_is);(case l5=>k_is);(case c5=>k_is);(case k5=>k_is))
  (case d6=>refine' L2.L3.def_at ?a6 ?l6 ?c6 ?k6;(case a6=>k_is);(case l6=>k_is);(case c6=>k_is);(case k6=>k_is))
  (case d7=>refine' L2.L3.def_at ?a7 ?l7 ?c7 ?k7;(case a7=>k_is);(case l7=>k_is);(case c7=>k_is);(case k7=>k_is))
  (case d8=>refine' L2.L3.def_at ?a8 ?l8 ?c8 ?k8;(case a8=>k_is);(case l8=>k_is);(case c8=>k_is);(case k8=>k_is))
  (case d9=>refine' L2.L3.def_at ?a9 ?l9 ?c9 ?k9;(case a9=>k_is);(case l9=>k_is);(case c9=>k_is);(case k9=>k_is))
  (case d10=>refine' L2.L3.def_at ?a10 ?l10 ?c10 ?k10;(case a10=>k_is);(case l10=>k_is);(case c10=>k_is);(case k10=>k_is))
  (case d11=>refine' L2.L3.def_at ?a11 ?l11 ?c11 ?k11;(case a11=>k_is);(case l11=>k_is);(case c11=>k_is);(case k11=>k_is))
  (case d12=>refine' L2.L3.def_at ?a12 ?l12 ?c12 ?k12;(case a12=>k_is);(case l12=>k_is);(case c12=>k_is);(case k12=>k_is))
  (case d13=>refine' L2.L3.def_at ?a13 ?l13 ?c13 ?k13;(case a13=>k_is);(case l13=>k_is);(case c13=>k_is);(case k13=>k_is))
  (case d14=>refine' L2.L3.def_at ?a14 ?l14 ?c14 ?k14;(case a14=>k_is);(case l14=>k_is);(case c14=>k_is);(case k14=>k_is))
  (case d15=>refine' L2.L3.def_at ?a15 ?l15 ?c15 ?k15;(case a15=>k_is);(case l15=>k_is);(case c15=>k_is);(case k15=>k_is))
  (case d16=>refine' L2.L3.def_at ?a16 ?l16 ?c16 ?k16;(case a16=>k_is);(case l16=>k_is);(case c16=>k_is);(case k16=>k_is))
  (case d17=>refine' L2.L3.def_at ?a17 ?l17 ?c17 ?k17;(case a17=>k_is);(case l17=>k_is);(case c17=>k_is);(case k17=>k_is))
  (case d18=>refine' L2.L3.def_at ?a18 ?l18 ?c18 ?k18;(case a18=>k_is);(case l18=>k_is);(case c18=>k_is);(case k18=>k_is))
  (case w0=>refine' L2.L3.val_strs ?wa0 ?wl0 ?wh0 ?wz0;(case wa0=>k_is);(case wl0=>k_is);(case wh0=>kernel_rfl);(case wz0=>decide))
  (case w1=>refine' L2.L3.val_int' ?wa1 ?we1;(case wa1=>k_is);(case we1=>kernel_rfl))
  (case z0=>k_is)
  (case z1=>k_is)
  (case z2=>k_is)
  (case z3=>k_is)
  (case z4=>k_is)
  (case z5=>k_is)
  (case z6=>k_is)
  (case z7=>k_is)
