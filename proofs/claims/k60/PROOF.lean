import PyProof.Rows.All
import Wide.All
import OpenK.AllK
import Wide.FinOn
import Lean
import PyProof.EqAt
import PyProof.EqKinds
import PyProof.TupleCall
import PySem.Challenge.RW_quoteweave_k60_questions_read
set_option Elab.async false
set_option linter.all false
set_option maxRecDepth 100000
set_option maxHeartbeats 4000000
set_option hygiene false in
local macro_rules | `(tactic| simp_arith [$ls,*])=>do
 let a<-("reduceIte".splitOn " ").toArray.mapM fun x=>`(Lean.Parser.Tactic.simpLemma| ↓ $(Lean.mkIdent x.toName):ident)
 let b<-("pwq_nil pwq_seq pwq_set pwq_expr pwq_ret pwq_ife pwq_for_ pwq_own pwq_frz pwq_rse peq_var peq_int peq_str peq_bl peq_non peq_glo peq_bty peq_bin peq_cmp peq_chn peq_and peq_or peq_not peq_ife peq_call peq_isi peq_bi peq_prm peq_mt peq_idx peq_slc peq_nop peq_lst peq_tup peq_comp peq_anil peq_acons retP setAllT entP maskP nop_nop nop_cmp nop_bin nop_int nop_var tsOf fzOf vwOf escB esc allD frzN frzN_d T.vw T.isD T.er ersT ersT_map unD unD_map sq_d sq_l sq_t cu lockA lockS lock kill killS Tg.ix ownsIn vrs_var vrs_acons vrs_anil vrs_mt vrs_call vrs_bi vrs_int vrs_slc isVar isMut Md.isMut passT shalT mutRoots ownsAt clear putOwns startP parP parS endsP outV chgIx rootOf_var Vw.seq frzAt frzS bindV.eq_1 bindV.eq_2 rdV.eq_1 rdV.eq_2 rdV.eq_3 rdR.eq_1 rdR.eq_2 rdR.eq_3 ownV.eq_1 ownV.eq_2 rootV.eq_1 rootV.eq_2 ownO.eq_1 ownO.eq_2 ownO.eq_3 ownO.eq_4 binT_1 binT_2 binT_3 binT_4 binT_5 binT_6 binT_7 binT_8 binT_9 binT_10 binT_11 cmpD.eq_1 cmpD.eq_2 cmpD.eq_3 cmpD.eq_4 cmpD.eq_5 cmpD.eq_6 cmpD.eq_7 cmpD.eq_8 cmpD.eq_9 cmpD.eq_10 eqD.eq_1 eqD.eq_2 eqD.eq_3 eqD.eq_4 ordD.eq_1 inD.eq_1 inD.eq_2 inD.eq_3 isND.eq_1 truD.eq_1 truD.eq_2 truD.eq_3 truD.eq_4 truD.eq_5 truD.eq_6 asD.eq_1 idxT_1 idxT_2 idxT_3 slcT_1 slcT_2 slcT_3 partD.eq_1 isiD_1 biT_1 biT_2 biT_3 biT_4 biT_5 biT_6 biT_7 biT_8 biT_9 biT_11 biT_12 mtT_1 mtT_2 mtTy_1 itemsT_1 itemsT_2 itemsT_3 itemsT_4 itemsT_6 itemsT_7 itemsT_8 mutT_1 mutTy.eq_1 prmT_1 prmT_2 isD.eq_1 isD.eq_2 isD.eq_3 isD.eq_4 isD.eq_5 isD.eq_6 isNonD.eq_1 isNonD.eq_2 List.modify_succ_cons List.modify_zero_cons Option.map_some List.nodup_nil List.not_mem_nil List.headD List.tail List.length_cons List.length_nil List.getElem?_cons_zero List.getElem?_cons_succ List.cons_append List.nil_append List.replicate List.set_cons_zero List.set_cons_succ Nat.reduceAdd Nat.reduceSub Nat.zero_add Bool.and_true Bool.true_and Bool.not_true Bool.not_false Bool.or_true Bool.true_or Bool.or_false Bool.false_or Bool.and_false Bool.false_and if_true if_false Bool.false_eq_true true_and and_true false_implies ne_eq reduceCtorEq not_false_eq_true not_true_eq_false List.map_cons List.map_nil implies_true forall_const Int.reduceLT Int.reduceLE Int.reducePow Int.reduceNeg Nat.reducePow and_self List.cons.injEq T.d.injEq T.lst.injEq PyData.int.injEq PyData.str.injEq PyData.bool.injEq PyData.list.injEq PyData.tuple.injEq exists_eq_left' exists_eq_left eq_self exists_and_left exists_eq' exists_eq exists_const Option.some.injEq Sl.own.injEq Sl.bor.injEq and_assoc decide_true decide_false".splitOn " ").toArray.mapM fun x=>`(Lean.Parser.Tactic.simpLemma| $(Lean.mkIdent x.toName):ident)
 `(tactic| simp only [$ls,*,$a,*,$b,*])
set_option hygiene false in
local macro_rules | `(tactic| simp_all_arith [$ls,*])=>do
 let a<-("reduceIte".splitOn " ").toArray.mapM fun x=>`(Lean.Parser.Tactic.simpLemma| ↓ $(Lean.mkIdent x.toName):ident)
 let b<-("pwq_nil pwq_seq pwq_set pwq_expr pwq_ret pwq_ife pwq_for_ pwq_own pwq_frz pwq_rse peq_var peq_int peq_str peq_bl peq_non peq_glo peq_bty peq_bin peq_cmp peq_chn peq_and peq_or peq_not peq_ife peq_call peq_isi peq_bi peq_prm peq_mt peq_idx peq_slc peq_nop peq_lst peq_tup peq_comp peq_anil peq_acons retP setAllT entP maskP nop_nop nop_cmp nop_bin nop_int nop_var tsOf fzOf vwOf escB esc allD frzN frzN_d T.vw T.isD T.er ersT ersT_map unD unD_map sq_d sq_l sq_t cu lockA lockS lock kill killS Tg.ix ownsIn vrs_var vrs_acons vrs_anil vrs_mt vrs_call vrs_bi vrs_int vrs_slc isVar isMut Md.isMut passT shalT mutRoots ownsAt clear putOwns startP parP parS endsP outV chgIx rootOf_var Vw.seq frzAt frzS bindV.eq_1 bindV.eq_2 rdV.eq_1 rdV.eq_2 rdV.eq_3 rdR.eq_1 rdR.eq_2 rdR.eq_3 ownV.eq_1 ownV.eq_2 rootV.eq_1 rootV.eq_2 ownO.eq_1 ownO.eq_2 ownO.eq_3 ownO.eq_4 binT_1 binT_2 binT_3 binT_4 binT_5 binT_6 binT_7 binT_8 binT_9 binT_10 binT_11 cmpD.eq_1 cmpD.eq_2 cmpD.eq_3 cmpD.eq_4 cmpD.eq_5 cmpD.eq_6 cmpD.eq_7 cmpD.eq_8 cmpD.eq_9 cmpD.eq_10 eqD.eq_1 eqD.eq_2 eqD.eq_3 eqD.eq_4 ordD.eq_1 inD.eq_1 inD.eq_2 inD.eq_3 isND.eq_1 truD.eq_1 truD.eq_2 truD.eq_3 truD.eq_4 truD.eq_5 truD.eq_6 asD.eq_1 idxT_1 idxT_2 idxT_3 slcT_1 slcT_2 slcT_3 partD.eq_1 isiD_1 biT_1 biT_2 biT_3 biT_4 biT_5 biT_6 biT_7 biT_8 biT_9 biT_11 biT_12 mtT_1 mtT_2 mtTy_1 itemsT_1 itemsT_2 itemsT_3 itemsT_4 itemsT_6 itemsT_7 itemsT_8 mutT_1 mutTy.eq_1 prmT_1 prmT_2 isD.eq_1 isD.eq_2 isD.eq_3 isD.eq_4 isD.eq_5 isD.eq_6 isNonD.eq_1 isNonD.eq_2 List.modify_succ_cons List.modify_zero_cons Option.map_some List.nodup_nil List.not_mem_nil List.headD List.tail List.length_cons List.length_nil List.getElem?_cons_zero List.getElem?_cons_succ List.cons_append List.nil_append List.replicate List.set_cons_zero List.set_cons_succ Nat.reduceAdd Nat.reduceSub Nat.zero_add Bool.and_true Bool.true_and Bool.not_true Bool.not_false Bool.or_true Bool.true_or Bool.or_false Bool.false_or Bool.and_false Bool.false_and if_true if_false Bool.false_eq_true true_and and_true false_implies ne_eq reduceCtorEq not_false_eq_true not_true_eq_false implies_true forall_const Int.reduceLT Int.reduceLE Int.reducePow Int.reduceNeg Nat.reducePow and_self List.cons.injEq T.d.injEq T.lst.injEq PyData.int.injEq PyData.str.injEq PyData.bool.injEq PyData.list.injEq PyData.tuple.injEq exists_eq_left' exists_eq_left eq_self exists_and_left exists_eq' exists_eq exists_const Option.some.injEq Sl.own.injEq Sl.bor.injEq and_assoc decide_true decide_false".splitOn " ").toArray.mapM fun x=>`(Lean.Parser.Tactic.simpLemma| $(Lean.mkIdent x.toName):ident)
 `(tactic| simp only [$ls,*,$a,*,$b,*])
namespace L2
open PySem PySem.Spec PyProof.Rows
noncomputable abbrev Key:=Sum Int Str
noncomputable def keyIs:Key->Value->Bool
 | .inl k,v=>Value.isInt k v
 | .inr x,v=>Value.isStrOf x v
noncomputable def keyH (w:World):Key->Int
 | .inl k=>hashInt k
 | .inr x=>hashStr w x
theorem keyIs_shape:∀ {k:Key} {v:Value},keyIs k v=true->(∃ i t,k=Sum.inl i/\v=Value.int i t)∨(∃ x t,k=Sum.inr x/\v=Value.str x t)
 | .inl i,v,h=>by
  obtain ⟨t,e⟩:=Value.isInt_shape (k:=i) (v:=v) h
  exact .inl ⟨i,t,rfl,e⟩
 | .inr x,v,h=>by
  obtain ⟨t,e⟩:=Value.isStrOf_shape (x:=x) (v:=v) h
  exact .inr ⟨x,t,rfl,e⟩
theorem key_ll (a b:Int):decide ((Sum.inl a:Key)=Sum.inl b)=(a == b):=by
 by_cases e:a=b
 ·subst e; simp
 ·have h:¬ (Sum.inl a:Key)=Sum.inl b:=fun q=>e (Sum.inl.inj q)
  rw [decide_eq_false h]
  exact (beq_eq_false_iff_ne.mpr e).symm
theorem key_rr (a b:Str):decide ((Sum.inr a:Key)=Sum.inr b)=decide (a=b):=by
 by_cases e:a=b
 ·subst e; simp
 ·have h:¬ (Sum.inr a:Key)=Sum.inr b:=fun q=>e (Sum.inr.inj q)
  rw [decide_eq_false h,decide_eq_false e]
theorem key_lr (a:Int) (b:Str):decide ((Sum.inl a:Key)=Sum.inr b)=false:=decide_eq_false (fun q=>nomatch q)
theorem key_rl (a:Str) (b:Int):decide ((Sum.inr a:Key)=Sum.inl b)=false:=decide_eq_false (fun q=>nomatch q)
noncomputable def mixKind (prog:Program) (w:World):PySem.KeyKind prog w Key where
 is:=keyIs
 hash:=keyH w
 inj:=fun v a b ha hb=>by
  rcases keyIs_shape ha with ⟨i,t,rfl,rfl⟩ | ⟨x,t,rfl,rfl⟩
  ·rcases keyIs_shape hb with ⟨j,u,rfl,e⟩ | ⟨y,u,rfl,e⟩
   ·injection e with e1 _; rw [e1]
   ·exact nomatch e
  ·rcases keyIs_shape hb with ⟨j,u,rfl,e⟩ | ⟨y,u,rfl,e⟩
   ·exact nomatch e
   ·injection e with e1 _; rw [e1]
 byValue:=fun k v h=>by
  rcases keyIs_shape h with ⟨i,t,rfl,rfl⟩ | ⟨x,t,rfl,rfl⟩<;>rfl
 pyHash:=fun hv h=>by
  rcases keyIs_shape hv with ⟨i,t,rfl,rfl⟩ | ⟨x,t,rfl,rfl⟩
  ·exact wpAny_pyHash_int h
  ·exact wpAny_pyHash_str h
 eqBool:=fun hu hv h=>by
  rcases keyIs_shape hu with ⟨i,t,rfl,rfl⟩ | ⟨x,t,rfl,rfl⟩
  ·rcases keyIs_shape hv with ⟨j,u,rfl,rfl⟩ | ⟨y,u,rfl,rfl⟩
   ·rw [key_ll] at h; exact wpAny_eqBool_int h
   ·rw [key_lr] at h; exact SeqAt.EqAt.int_str i t y u _ _ _ _ h
  ·rcases keyIs_shape hv with ⟨j,u,rfl,rfl⟩ | ⟨y,u,rfl,rfl⟩
   ·rw [key_rl] at h; exact SeqAt.EqAt.str_int x t j u _ _ _ _ h
   ·rw [key_rr] at h; exact wpAny_eqBool_str h
 «strs»:=fun k x t v h=>by
  rcases keyIs_shape h with ⟨i,u,rfl,e⟩ | ⟨y,u,rfl,e⟩
  ·exact nomatch e
  ·injection e with e1 _
   subst e1
   cases v<;>rfl
end L2
namespace L2
open PySem PySem.Spec PyProof.Rows
inductive V where
 | non | bl (b:Bool) | int (i:Int) | str (x:Str) | byt (b:Array UInt8) | flt (b:UInt64) | ref (a:Addr) | ty (n:String)
 deriving DecidableEq
noncomputable def RelV:V->Value->Prop
 | .non,u=>u=Value.none
 | .bl b,u=>u=Value.bool b
 | .int i,u=>∃ t,u=Value.int i t
 | .str x,u=>∃ t,u=Value.str x t
 | .byt b,u=>∃ t,u=Value.bytes b t
 | .flt b,u=>∃ t,u=Value.float b t
 | .ref a,u=>u=Value.ref a
 | .ty n,u=>u=Value.type n
noncomputable abbrev Vals:List V->List Value->Prop:=Paired RelV
theorem Vals.length {xs:List V} {us:List Value} (r:Vals xs us):xs.length=us.length:=Paired.length r
theorem Vals.get:∀ {xs:List V} {us:List Value} {i:Nat} {x:V},Vals xs us->xs[i]?=some x->∃ u,us[i]?=some u/\RelV x u
 | _,_,_,_,.nil,e=>by simp at e
 | _,_,0,_,.cons r _,e=>by simp at e; subst e; exact ⟨_,rfl,r⟩
 | _,_,i+1,x,.cons _ t,e=>by
  obtain ⟨u,h1,h2⟩:=Vals.get (i:=i) (x:=x) t (by simpa using e)
  exact ⟨u,by simpa using h1,h2⟩
theorem Vals.set {x:V} {u:Value} (r:RelV x u):∀ {xs:List V} {us:List Value} (i:Nat),Vals xs us->Vals (xs.set i x) (us.set i u)
 | _,_,_,.nil=>.nil
 | _,_,0,.cons _ t=>.cons r t
 | _,_,i+1,.cons q t=>.cons q (Vals.set r i t)
theorem Vals.append:∀ {xs ys:List V} {us ws:List Value},Vals xs us->Vals ys ws->Vals (xs++ys) (us++ws)
 | _,_,_,_,.nil,s=>s
 | _,_,_,_,.cons r t,s=>.cons r (Vals.append t s)
theorem Vals.take:∀ {xs:List V} {us:List Value} (n:Nat),Vals xs us->Vals (xs.take n) (us.take n)
 | _,_,0,_=>.nil
 | _,_,_+1,.nil=>.nil
 | _,_,n+1,.cons r t=>.cons r (Vals.take n t)
theorem Vals.drop:∀ {xs:List V} {us:List Value} (n:Nat),Vals xs us->Vals (xs.drop n) (us.drop n)
 | _,_,0,r=>r
 | _,_,_+1,.nil=>.nil
 | _,_,n+1,.cons _ t=>Vals.drop n t
noncomputable def RelO:Option V->Option Value->Prop
 | some v,some u=>RelV v u
 | none,none=>True
 | _,_=>False
noncomputable def KV {κ:Type}:List (κ × V)->List (κ × Value)->Prop:=Paired fun (p:κ × V) (q:κ × Value)=>p.1=q.1/\RelV p.2 q.2
noncomputable def kV:Key->V
 | .inl i=>.int i
 | .inr x=>.str x
inductive HO where
 | lst (xs:List V)
 | tup (xs:List V)
 | dK (kvs:List (Key × V)) | dT (kvs:List (List Key × V))
 | set (S:Int->Bool) (n:Nat)
 | ins (C dx:Addr) (fs:List (Str × V))
 | own (x:Addr)
 | xd (fs:List (Str × V))
 | met (f x:Addr)
 | rng (lo hi:Int)
 | frz (o:Obj) (u:HO)
 | tbl (ps:Array Value)
 | ext (φ:Heap->Prop)
noncomputable abbrev Hp:=Addr->Option HO
noncomputable def upd (H:Hp) (a:Addr) (o:HO):Hp:=fun b=>if b=a then some o else H b
theorem upd_same {H:Hp} {a:Addr} {o:HO}:upd H a o a=some o:=by unfold upd; rw [if_pos rfl]
theorem upd_ne {H:Hp} {a b:Addr} {o:HO} (h:b≠a):upd H a o b=H b:=by unfold upd; rw [if_neg h]
theorem ne_of_none {H:Hp} {a b:Addr} {o:HO} (h:H a=some o) (h':H b=none):a≠b:=by
 intro e; subst e; rw [h] at h'; cases h'
section
variable (P:Program) (w:World)
noncomputable def ObjOk (H:Hp) (h:Heap) (a:Addr):HO->Prop
 | .lst xs=>xs.length<=sizeLine/\∃ (its:List Value) (n:Nat),Vals xs its/\h.get? a=some { cls:=.type "list",data:=.seq its.toArray n }
 | .tup xs=>xs.length<=sizeLine/\∃ its:List Value,Vals xs its/\IsTup h a its.toArray
 | .dK kvs=>kvs.length<=sizeLine/\(a == sysModules)=false/\∃ vs,KV kvs vs/\h.DictOf (mixKind P w) a vs
 | .dT kvs=>kvs.length<=sizeLine/\(a == sysModules)=false/\∃ xs:List (List Key × Addr × Value),
   Paired (fun (p:List Key × V) (q:List Key × Addr × Value)=>p.1=q.1/\H q.2.1=some (.tup (p.1.map kV))/\RelV p.2 q.2.2) kvs xs /\
   ∃ o es ep,h.get? a=some o/\o.ExactDict/\o.data=.dict es ep/\es.toList=xs.map (entryOfKey (tupleKind (mixKind P w)))/\(xs.map (·.1)).Nodup
 | .set S n=>h.SetOf (intKind P w) a S n
 | .ins C dx fs=>H dx=some (.own a)/\fs.length<=1000/\dx≠a/\h.get? a=some (PySem.W.instObj C dx) /\
   ∃ mA,h.Ns1 dx mA/\(∀ f,RelO (fs.lookup f) (mA f))/\PySem.Within mA (fs.map (·.1))
 | .own _=>∃ o,h.get? a=some o
 | .xd fs=>∃ mA,h.Ns1 a mA/\∀ f,RelO (fs.lookup f) (mA f)
 | .rng lo hi=>∃ t u v,h.get? a=some { cls:=.type "range",data:=.fields #[.int lo t,.int hi u,.int 1 v] }
 | .frz o u=>h.get? a=some o/\ObjOk H h a u
 | .tbl ps=>h.get? a=some { cls:=.none,data:=.fields ps }
 | .met f x=>h.get? a=some (PySem.W.methodObj (.ref f) (.ref x))
 | .ext φ=>φ h/\(∃ o,h.get? a=some o)/\∀ h1 h2:Heap,φ h1->(∀ o,h1.get? a=some o->h2.get? a=some o)->φ h2
noncomputable def HOk (H:Hp) (h:Heap):Prop:=∀ a o,H a=some o->ObjOk P w H h a o
end
section
variable {P:Program} {w:World} {H H':Hp} {h h':Heap} {a:Addr} {o:HO}
theorem ObjOk.lt (x:ObjOk P w H h a o):a < h.objs.size:=by
 cases o with
 | lst xs=>obtain ⟨_,_,_,_,e⟩:=x; exact Heap.lt_size e
 | tup xs=>obtain ⟨_,_,_,p⟩:=x; exact p.lt
 | dK kvs=>obtain ⟨_,_,_,_,o,_,_,e,_⟩:=x; exact Heap.lt_size e
 | dT kvs=>obtain ⟨_,_,_,_,o,_,_,e,_⟩:=x; exact Heap.lt_size e
 | set S n=>obtain ⟨o,_,_,_,e,_⟩:=x; exact Heap.lt_size e
 | ins C dx fs=>obtain ⟨_,_,_,e,_⟩:=x; exact Heap.lt_size e
 | own y=>obtain ⟨_,e⟩:=x; exact Heap.lt_size e
 | xd fs=>obtain ⟨_,⟨_,_,_,e,_⟩,_⟩:=x; exact Heap.lt_size e
 | rng lo hi=>obtain ⟨_,_,_,e⟩:=x; exact Heap.lt_size e
 | frz ob u=>obtain ⟨e,_⟩:=x; exact Heap.lt_size e
 | tbl ps=>exact Heap.lt_size (show h.get? a=some _ from x)
 | met f y=>exact Heap.lt_size (show h.get? a=some _ from x)
 | ext φ=>obtain ⟨_,⟨_,e⟩,_⟩:=x; exact Heap.lt_size e
theorem Paired.mapP {α β:Type} {F G:α->β->Prop}:∀ {l₁:List α} {l₂:List β},Paired F l₁ l₂->(∀ a b,F a b->G a b)->Paired G l₁ l₂
 | _,_,.nil,_=>.nil
 | _,_,.cons r t,f=>.cons (f _ _ r) (Paired.mapP t f)
theorem ObjOk.stay (x:ObjOk P w H h a o) (k:∀ b u,(b=a∨H b=some (.own a))->h.get? b=some u->h'.get? b=some u)
  (ho:∀ b,H b=some (.own a)->H' b=some (.own a)) (ht:∀ b xs,H b=some (.tup xs)->H' b=some (.tup xs)):ObjOk P w H' h' a o:=by
 induction o with
 | lst xs=>obtain ⟨z,its,n,r,e⟩:=x; exact ⟨z,its,n,r,k _ _ (.inl rfl) e⟩
 | tup xs=>obtain ⟨z,its,r,ob,e,c⟩:=x; exact ⟨z,its,r,ob,k _ _ (.inl rfl) e,c⟩
 | dK kvs=>obtain ⟨z,y,vs,r,ob,es,ep,e,c⟩:=x; exact ⟨z,y,vs,r,ob,es,ep,k _ _ (.inl rfl) e,c⟩
 | dT kvs =>
  obtain ⟨z,y,xs,r,ob,es,ep,e,c⟩:=x
  exact ⟨z,y,xs,Paired.mapP r fun p q z=>⟨z.1,ht _ _ z.2.1,z.2.2⟩,ob,es,ep,k _ _ (.inl rfl) e,c⟩
 | set S n=>obtain ⟨ob,es,ep,t,e,c⟩:=x; exact ⟨ob,es,ep,t,k _ _ (.inl rfl) e,c⟩
 | ins C dx fs =>
  obtain ⟨d,z,ne,e,mA,⟨od,es,ep,e2,c⟩,r⟩:=x
  exact ⟨ho _ d,z,ne,k _ _ (.inl rfl) e,mA,⟨od,es,ep,k _ _ (.inr d) e2,c⟩,r⟩
 | own y=>obtain ⟨ob,e⟩:=x; exact ⟨ob,k _ _ (.inl rfl) e⟩
 | xd fs=>obtain ⟨mA,⟨od,es,ep,e,c⟩,r⟩:=x; exact ⟨mA,⟨od,es,ep,k _ _ (.inl rfl) e,c⟩,r⟩
 | rng lo hi=>obtain ⟨t,u,v,e⟩:=x; exact ⟨t,u,v,k _ _ (.inl rfl) e⟩
 | frz ob u ih=>obtain ⟨e,q⟩:=x; exact ⟨k _ _ (.inl rfl) e,ih q⟩
 | tbl ps =>
  have e:h.get? a=some { cls:=.none,data:=.fields ps }:=x
  show h'.get? a=some { cls:=.none,data:=.fields ps }
  exact k a _ (.inl rfl) e
 | met f y =>
  have e:h.get? a=some (PySem.W.methodObj (.ref f) (.ref y)):=x
  show h'.get? a=some (PySem.W.methodObj (.ref f) (.ref y))
  exact k a _ (.inl rfl) e
 | ext φ=>obtain ⟨p,⟨o,e⟩,st⟩:=x; exact ⟨st _ _ p fun o q=>k _ _ (.inl rfl) q,⟨o,k _ _ (.inl rfl) e⟩,st⟩
theorem HOk.lt (x:HOk P w H h) (e:H a=some o):a < h.objs.size:=(x a o e).lt
theorem HOk.fresh (x:HOk P w H h) (e:h.objs.size<=a):H a=none:=by
 cases q:H a with
 | none=>rfl
 | some u=>exact absurd (Nat.lt_of_lt_of_le (x.lt q) e) (Nat.lt_irrefl _)
theorem HOk.kept (x:HOk P w H h) (k:∀ b u,h.get? b=some u->h'.get? b=some u):HOk P w H h':=fun a o e =>
 (x a o e).stay (fun b u _ q=>k b u q) (fun _ q=>q) fun _ _ q=>q
theorem HOk.laid (x:HOk P w H h) (k:∀ b u,h.get? b=some u->h'.get? b=some u) (hp:h.objs.size<=a) (new:ObjOk P w (upd H a o) h' a o):HOk P w (upd H a o) h':=fun b u e=>by
 have hn:=x.fresh hp
 by_cases hb:b=a
 ·subst hb; rw [upd_same] at e; cases e; exact new
 ·rw [upd_ne hb] at e
  exact (x b u e).stay (fun c v _ q=>k c v q) (fun c q=>by rw [upd_ne (ne_of_none q hn)]; exact q) fun c xs q=>by rw [upd_ne (ne_of_none q hn)]; exact q
end
noncomputable def Rd (H:Hp) (a:Addr) (u:HO):Prop:=H a=some u∨∃ o,H a=some (.frz o u)
theorem Rd.ok {P:Program} {w:World} {H:Hp} {h:Heap} {a:Addr} {u:HO} (r:Rd H a u) (x:HOk P w H h):ObjOk P w H h a u:=by
 rcases r with r | ⟨o,r⟩
 ·exact x a u r
 ·obtain ⟨_,q⟩:=x a _ r
  exact q
noncomputable def Mut:Option HO->Prop
 | some (.lst _)=>True
 | some (.dK _)=>True
 | some (.dT _)=>True
 | some (.set _ _)=>True
 | some (.ins _ _ _)=>True
 | some (.ext _)=>True
 | _=>False
section
variable {P:Program} {w:World} {H:Hp} {h h':Heap} {x e:Addr} {o':HO}
theorem HOk.write (ok:HOk P w H h) (mu:Mut (H x)) (he:e=x∨H e=some (.own x)) (k:∀ b u,b≠e->h.get? b=some u->h'.get? b=some u) (heo:∃ u,h'.get? e=some u)
  (new:ObjOk P w (upd H x o') h' x o'):HOk P w (upd H x o') h':=fun b u q=>by
 have nown:∀ c y,H c=some (.own y)->c≠x:=fun c y r z=>by subst z; rw [r] at mu; exact mu
 have ntup:∀ c xs,H c=some (.tup xs)->c≠x:=fun c xs r z=>by subst z; rw [r] at mu; exact mu
 by_cases hb:b=x
 ·subst hb; rw [upd_same] at q; cases q; exact new
 ·rw [upd_ne hb] at q
  by_cases hbe:b=e
  ·have q':H b=some (.own x):=by
    rcases he with z | z
    ·exact absurd (hbe.trans z) hb
    ·rw [hbe]; exact z
   rw [q] at q'; cases q'
   obtain ⟨v,hv⟩:=heo
   exact ⟨v,by rw [hbe]; exact hv⟩
  ·refine (ok b u q).stay (fun c v hc r=>k c v ?_ r) (fun c r=>by rw [upd_ne (nown c b r)]; exact r) fun c xs r=>by rw [upd_ne (ntup c xs r)]; exact r
   rcases hc with rfl | hc
   ·exact hbe
   ·rintro rfl
    rcases he with z | z
    ·exact nown c b hc z
    ·rw [hc] at z; cases z; exact hb rfl
end
structure Un (fs ex:List Addr) (H H':Hp) (h h':Heap):Prop where
 keep:∀ b o,h.get? b=some o->H b=none->b ∉ fs->b ∉ ex->h'.get? b=some o
 slot:∀ b o,h.get? b=some o->H b=none->b ∈ fs->b ∉ ex->∃ sl,h'.get? b=some { o with slots:=sl }
 free:∀ b o,h.get? b=some o->H b=none->b ∉ ex->H' b=none
 there:∀ b o,h.get? b=some o->b ∉ ex->∃ o',h'.get? b=some o'
 tups:∀ b xs,H b=some (.tup xs)->H' b=some (.tup xs)
 frzs:∀ b o u,H b=some (.frz o u)->H' b=some (.frz o u)
 tbls:∀ b ps,H b=some (.tbl ps)->∃ more,H' b=some (.tbl (ps++more))
section
variable {fs fs' ex ex':List Addr} {H H1 H2:Hp} {h h1 h2 h':Heap} {a x e:Addr} {o:HO}
theorem Un.any (u:Un fs ex H H1 h h1) {b:Addr} {ob:Obj} (q:h.get? b=some ob) (n:H b=none) (hx:b ∉ ex):∃ sl,h1.get? b=some { ob with slots:=sl }:=by
 by_cases hb:b ∈ fs
 ·exact u.slot b ob q n hb hx
 ·exact ⟨ob.slots,u.keep b ob q n hb hx⟩
theorem Un.kept (k:∀ b u,h.get? b=some u->h'.get? b=some u):Un fs ex H H h h' :=
 ⟨fun b ob q _ _ _=>k b ob q,fun b ob q _ _ _=>⟨ob.slots,k b ob q⟩,fun _ _ _ n _=>n,fun b ob q _=>⟨ob,k b ob q⟩,fun _ _ q=>q,fun _ _ _ q=>q,fun _ ps q=>⟨#[],by rw [q]; simp⟩⟩
theorem Un.refl:Un fs ex H H h h:=Un.kept fun _ _ q=>q
theorem Un.laid (k:∀ b u,h.get? b=some u->h'.get? b=some u) (hp:h.objs.size<=a) (hn:H a=none):Un fs ex H (upd H a o) h h' where
 keep:=fun b u q _ _ _=>k b u q
 slot:=fun b u q _ _ _=>⟨u.slots,k b u q⟩
 free:=fun b u q n _=>by rw [upd_ne (Nat.ne_of_lt (Nat.lt_of_lt_of_le (Heap.lt_size q) hp))]; exact n
 there:=fun b u q _=>⟨u,k b u q⟩
 tups:=fun b xs q=>by rw [upd_ne (ne_of_none q hn)]; exact q
 frzs:=fun b u xs q=>by rw [upd_ne (ne_of_none q hn)]; exact q
 tbls:=fun b ps q=>⟨#[],by rw [upd_ne (ne_of_none q hn),q]; simp⟩
theorem Un.write (mu:Mut (H x)) (he:e=x∨H e=some (.own x)) (k:∀ b u,b≠e->h.get? b=some u->h'.get? b=some u) (heo:∃ u,h'.get? e=some u):Un fs ex H (upd H x o) h h':=by
 have hx:∀ b,H b=none->b≠x:=fun b n z=>by subst z; rw [n] at mu; exact mu
 have hb:∀ b,H b=none->b≠e:=fun b n z=>by
  subst z
  rcases he with r | r
  ·exact hx b n r
  ·rw [n] at r; cases r
 have hm:∀ b u,H b=some u->¬ Mut (some u)->b≠x:=fun b u q nm z=>by subst z; rw [q] at mu; exact nm mu
 refine ⟨fun b u q n _ _=>k b u (hb b n) q,fun b u q n _ _=>⟨u.slots,k b u (hb b n) q⟩,fun b u q n _=>by rw [upd_ne (hx b n)]; exact n,fun b u q _=>?_,
  fun b xs q=>by rw [upd_ne (hm b _ q fun z=>z)]; exact q,fun b u xs q=>by rw [upd_ne (hm b _ q fun z=>z)]; exact q,fun b ps q=>⟨#[],by rw [upd_ne (hm b _ q fun z=>z),q]; simp⟩⟩
 by_cases hbe:b=e
 ·subst hbe; exact heo
 ·exact ⟨u,k b u hbe q⟩
end
noncomputable def trk (h:Heap) (H:Hp):List Addr:=(List.range h.objs.size).filter fun a=>(H a).isSome
noncomputable def hidT (h:Heap) (H:Hp):Heap:=PySem.W.hideAll h (trk h H)
theorem hidT_size (h:Heap) (H:Hp):(hidT h H).objs.size=h.objs.size:=PySem.W.hideAll_size _ _
theorem hidT_get {h:Heap} {H:Hp} {b:Addr} {o:Obj} (e:h.get? b=some o) (n:H b=none):(hidT h H).get? b=some o :=
 PySem.W.hideAll_get _ e fun hm=>by
  have q:(H b).isSome=true:=(List.mem_filter.mp hm).2
  rw [n] at q; simp at q
theorem of_hidT {h:Heap} {H:Hp} {b:Addr} {o:Obj} (e:(hidT h H).get? b=some o):h.get? b=some o/\H b=none:=by
 have e':h.get? b=some o:=PySem.W.of_hideAll (trk h H) e
 refine ⟨e',?_⟩
 cases q:H b with
 | none=>rfl
 | some x =>
  have hm:b ∈ trk h H:=List.mem_filter.mpr ⟨List.mem_range.mpr (Heap.lt_size e'),by simp [q]⟩
  have z:(hidT h H).get? b=none:=PySem.W.hideAll_none (trk h H) hm
  rw [z] at e; cases e
noncomputable def allNews (g h:Heap) (L:Addr):List (Addr × Obj):=(List.range h.objs.size).filterMap fun a=>if a=L∨(g.get? a).isSome=true then none else (h.get? a).map fun o=>(a,o)
noncomputable def rest (g h:Heap) (L d:Addr):List (Addr × Obj):=(allNews g h L).filter fun p=>decide (p.1≠d)
end L2
namespace L2
open PySem PySem.Spec PyProof.Rows
structure Mod (K:PySem.W.Frag) (mg:Str->Option Value) (base:Heap):Prop where
 kin:K.In base
 glob:base.Ns mainGlobals mg
 blt:∃ mb,base.Ns builtinsNs mb/\∀ x:Str,x≠"__name__"->mb x=bootBuiltins x
 nolimit:base.NoLimit
structure Cx where
 prog:Program
 w:World
 K:PySem.W.Frag
 mg:Str->Option Value
 base:Heap
 A:Around
 N:List Str
 s₀:Shared
 H₀:Hp
 env:Env
 outer:List Env
 stack:List Env
 ex:List Addr
 fn:Str->Bool
 calm:Bool
 pn:List (Addr × Obj)
 xe:Value->Shared->Prop
noncomputable def frs (l:List Env):List Addr:=l.filterMap (·.frame)
noncomputable abbrev Cx.fs (X:Cx):List Addr:=frs X.outer
noncomputable def Vis (sc:Scope) (x:Str):Prop:=sc.names.lookup x=some .local∨sc.names.lookup x=some .cell∨sc.names.lookup x=some .free
noncomputable def Loc (sc:Scope) (x:Str):Prop:=sc.names.lookup x=some .local∨sc.names.lookup x=some .cell
noncomputable def Look (env:Env) (h:Heap) (m:Str->Option Value) (x:Str) (u:Value):Prop :=
 (env.kindOf x=some .local/\m x=some u)∨((env.kindOf x=some .cell∨env.kindOf x=some .free)/\∃ c,env.cells.lookup x=some c/\h.IsCell c (some u))
structure Cx.Ok (X:Cx):Prop where
 mod:Mod X.K X.mg X.base
 kind:X.env.scope.kind=.function
 glob:X.env.globals=mainGlobals
 blt:X.env.builtins=builtinsNs
 above:X.s₀.heap.objs.size<=X.env.locals
 inj:∀ x y c,X.env.cells.lookup x=some c->X.env.cells.lookup y=some c->x=y
 has:∀ x,(X.env.kindOf x=some .cell∨X.env.kindOf x=some .free)->∃ c,X.env.cells.lookup x=some c
 cab:∀ x c,X.fn x=true->X.env.cells.lookup x=some c->X.s₀.heap.objs.size<=c
 hd:X.calm=true->X.A.handled=none
 frames:X.A.frames=some X.stack
 stk:X.stack=X.outer∨(X.stack=X.env::X.outer/\X.env.frame=some X.env.locals)
 exf:∀ b ∈ X.ex,b≠X.env.locals/\∀ x c,X.env.cells.lookup x=some c->c≠b
 bs:∀ b o,X.base.get? b=some o->X.s₀.heap.get? b=some o/\X.H₀ b=none
 bsz:X.base.objs.size<=X.s₀.heap.objs.size
 noex:∀ b o,X.base.get? b=some o->b ∉ X.ex
 exfs:∀ b ∈ X.ex,b ∉ X.fs
 funs:X.s₀.heap.FunFrames X.base X.outer
 frf:∀ b ∈ X.fs,X.H₀ b=none
structure Inv (X:Cx) (pins:List (Addr × Obj)) (σ:List (Option V)) (H:Hp) (s:Shared):Prop where
 ok:X.Ok
 os:s.os=X.s₀.os
 bare:AllBare s.gens
 base:Un X.fs X.ex X.H₀ H X.s₀.heap s.heap
 loc:∃ m,s.heap.Ns X.env.locals m/\∀ (i:Nat) (x:Str) (v:V),X.N[i]?=some x->σ[i]?=some (some v)->Vis X.env.scope x->∃ u,RelV v u/\Look X.env s.heap m x u
 cell:∀ x c,X.env.cells.lookup x=some c->∃ v,s.heap.IsCell c v
 free:H X.env.locals=none
 freeC:∀ x c,X.env.cells.lookup x=some c->H c=none
 pin:∀ p ∈ X.pn++pins,s.heap.get? p.1=some p.2/\H p.1=none/\p.1≠X.env.locals/\p.1 ∉ X.fs/\∀ v,p.2.data≠.cell v
 hok:HOk X.prog X.w H s.heap
 len:σ.length=X.N.length
section
variable {X:Cx} {pins:List (Addr × Obj)} {σ:List (Option V)} {H H':Hp} {s:Shared} {h':Heap}
theorem Cx.Ok.nofr (ok:X.Ok) {b:Addr} {o:Obj} (e:X.base.get? b=some o):b ∉ X.fs:=fun hb=>by
 have:=(ok.funs.mem hb).1
 rw [e] at this; cases this
theorem Inv.bs (I:Inv X pins σ H s):∀ b o,X.base.get? b=some o->s.heap.get? b=some o/\H b=none:=fun b o e =>
 ⟨I.base.keep b o (I.ok.bs b o e).1 (I.ok.bs b o e).2 (I.ok.nofr e) (I.ok.noex b o e),I.base.free b o (I.ok.bs b o e).1 (I.ok.bs b o e).2 (I.ok.noex b o e)⟩
theorem Inv.bk (I:Inv X pins σ H s):∀ b o,X.base.get? b=some o->s.heap.get? b=some o:=fun b o e=>(I.bs b o e).1
theorem Inv.mod (I:Inv X pins σ H s):Mod X.K X.mg X.base:=I.ok.mod
theorem Inv.kIn (I:Inv X pins σ H s):X.K.In s.heap:=I.ok.mod.kin.keeps I.bk
theorem Inv.lt (I:Inv X pins σ H s):X.env.locals < s.heap.objs.size:=let ⟨_,hn,_⟩:=I.loc; hn.lt
theorem Inv.sz (I:Inv X pins σ H s):X.s₀.heap.objs.size<=s.heap.objs.size:=Nat.le_trans I.ok.above (Nat.le_of_lt I.lt)
theorem Inv.nofs (I:Inv X pins σ H s) {a:Addr} (h:s.heap.objs.size<=a):a ∉ X.fs:=fun hb=>by
 obtain ⟨_,o,ho,_⟩:=I.ok.funs.mem hb
 exact absurd (Nat.lt_of_lt_of_le (Heap.lt_size ho) (Nat.le_trans I.sz h)) (Nat.lt_irrefl _)
theorem Inv.cne (I:Inv X pins σ H s):∀ x c,X.env.cells.lookup x=some c->c≠X.env.locals:=fun x c e z=>by
 obtain ⟨v,o,ho,hd⟩:=I.cell x c e
 obtain ⟨m,⟨o',es,ep,ho',hd',_⟩,_⟩:=I.loc
 rw [z,ho'] at ho; cases ho; rw [hd'] at hd; cases hd
theorem Inv.funs (I:Inv X pins σ H s):s.heap.FunFrames X.base X.outer:=by
 have all:∀ (l:List Env),(∀ b ∈ frs l,b ∈ X.fs)->X.s₀.heap.FunFrames X.base l->s.heap.FunFrames X.base l:=by
  intro l
  induction l with
  | nil=>intro _ _; trivial
  | cons env r ih =>
   intro hs hl
   obtain ⟨hk,⟨L,o,hf,hn,ho,hd⟩,hr⟩:=hl
   have hL:L ∈ X.fs:=hs L (by unfold frs; rw [List.filterMap_cons,hf]; exact List.mem_cons_self)
   obtain ⟨sl,e⟩:=I.base.slot L o ho (I.ok.frf L hL) hL fun z=>I.ok.exfs L z hL
   exact ⟨hk,⟨L,_,hf,hn,e,hd⟩,ih (fun b hb=>hs b (by unfold frs; rw [List.filterMap_cons,hf]; exact List.mem_cons_of_mem _ hb)) hr⟩
 exact all X.outer (fun _ hb=>hb) I.ok.funs
theorem Inv.stack (I:Inv X pins σ H s):s.heap.FunFrames X.base X.stack:=by
 rcases I.ok.stk with e | ⟨e,hf⟩
 ·rw [e]; exact I.funs
 ·rw [e]
  obtain ⟨m,hn,_⟩:=I.loc
  refine .cons (by rw [I.ok.kind]; decide) hf hn ?_ I.funs
  exact Heap.get?_none_of_le (Nat.le_trans I.ok.bsz I.ok.above)
theorem Inv.stkSub (I:Inv X pins σ H s):∀ b ∈ frs X.stack,b ∈ X.env.locals::X.fs:=fun b hb=>by
 rcases I.ok.stk with e | ⟨e,hf⟩
 ·rw [e] at hb; exact List.mem_cons_of_mem _ hb
 ·rw [e] at hb
  unfold frs at hb
  rw [List.filterMap_cons,hf] at hb
  exact hb
theorem Inv.stkFree (I:Inv X pins σ H s):∀ b ∈ frs X.stack,H b=none:=fun b hb=>by
 rcases List.mem_cons.mp (I.stkSub b hb) with e | hb
 ·rw [e]; exact I.free
 ·obtain ⟨_,o,ho,_⟩:=I.ok.funs.mem hb
  exact I.base.free b o ho (I.ok.frf b hb) fun z=>I.ok.exfs b z hb
theorem Inv.step {g':Array GenState} {t':Nat} {d':Drawn} {ch:List Addr} (I:Inv X pins σ H s)
  (hch:∀ b ∈ ch,(b ∈ X.ex∨X.s₀.heap.objs.size<=b)/\b≠X.env.locals/\(∀ x c,X.env.cells.lookup x=some c->c≠b)/\∀ p ∈ X.pn++pins,p.1≠b)
  (keep:∀ b o,b≠X.env.locals->b ∉ X.fs->b ∉ ch->s.heap.get? b=some o->H b=none->h'.get? b=some o)
  (slot:∀ b o,b≠X.env.locals->b ∈ X.fs->b ∉ ch->s.heap.get? b=some o->H b=none->∃ sl,h'.get? b=some { o with slots:=sl }) (free:∀ b o,b ∉ ch->s.heap.get? b=some o->H b=none->H' b=none)
  (there:∀ b o,b ∉ ch->s.heap.get? b=some o->∃ o',h'.get? b=some o')
  (tups:∀ b xs,H b=some (.tup xs)->H' b=some (.tup xs)) (frzs:∀ b o u,H b=some (.frz o u)->H' b=some (.frz o u)) (tbls:∀ b ps,H b=some (.tbl ps)->∃ more,H' b=some (.tbl (ps++more)))
  (ns:∀ m,s.heap.Ns X.env.locals m->h'.Ns X.env.locals m) (hok:HOk X.prog X.w H' h') (hg:AllBare g') :
  Inv X pins σ H' { s with heap:=h',gens:=g',drawn:=d',toks:=t' }:=by
 have neL:∀ b o,X.s₀.heap.get? b=some o->b≠X.env.locals:=fun b o e=>Nat.ne_of_lt (Nat.lt_of_lt_of_le (Heap.lt_size e) I.ok.above)
 have neC:∀ b o,X.s₀.heap.get? b=some o->b ∉ X.ex->b ∉ ch:=fun b o e hx hb=>by
  rcases (hch b hb).1 with z | z
  ·exact hx z
  ·exact absurd (Nat.lt_of_lt_of_le (Heap.lt_size e) z) (Nat.lt_irrefl _)
 have cellK:∀ x c,X.env.cells.lookup x=some c->∀ v,s.heap.IsCell c v->h'.IsCell c v:=fun x c e v ⟨o,ho,hd⟩=>by
  have nch:c ∉ ch:=fun z=>(hch c z).2.2.1 x c e rfl
  by_cases hc:c ∈ X.fs
  ·obtain ⟨sl,q⟩:=slot c o (I.cne x c e) hc nch ho (I.freeC x c e)
   exact ⟨_,q,hd⟩
  ·exact ⟨o,keep c o (I.cne x c e) hc nch ho (I.freeC x c e),hd⟩
 refine ⟨I.ok,I.os,hg,⟨fun b o e n hb hx=>?_,fun b o e n hb hx=>?_,fun b o e n hx=>?_,fun b o e hx=>?_,fun b xs e=>tups b xs (I.base.tups b xs e),fun b o xs e=>frzs b o xs (I.base.frzs b o xs e),fun b ps e=>?_⟩,?_,fun x c e=>?_,?_,fun x c e=>?_,fun p hp=>?_,hok,I.len⟩
 ·exact keep b o (neL b o e) hb (neC b o e hx) (I.base.keep b o e n hb hx) (I.base.free b o e n hx)
 ·obtain ⟨sl,e1⟩:=I.base.slot b o e n hb hx
  obtain ⟨sl',e2⟩:=slot b _ (neL b o e) hb (neC b o e hx) e1 (I.base.free b o e n hx)
  exact ⟨sl',e2⟩
 ·obtain ⟨o',e1⟩:=I.base.there b o e hx
  exact free b o' (neC b o e hx) e1 (I.base.free b o e n hx)
 ·obtain ⟨o',e1⟩:=I.base.there b o e hx
  exact there b o' (neC b o e hx) e1
 ·obtain ⟨m1,e1⟩:=I.base.tbls b ps e
  obtain ⟨m2,e2⟩:=tbls b _ e1
  exact ⟨m1++m2,by rw [e2,Array.append_assoc]⟩
 ·obtain ⟨m,hn,hl⟩:=I.loc
  refine ⟨m,ns m hn,fun i x v e1 e2 e3=>?_⟩
  obtain ⟨u,r,l⟩:=hl i x v e1 e2 e3
  refine ⟨u,r,?_⟩
  rcases l with l | ⟨k,c,e,z⟩
  ·exact .inl l
  ·exact .inr ⟨k,c,e,cellK x c e _ z⟩
 ·obtain ⟨v,z⟩:=I.cell x c e
  exact ⟨v,cellK x c e v z⟩
 ·obtain ⟨m,⟨o,_,_,ho,_⟩,_⟩:=I.loc
  exact free _ o (fun z=>(hch _ z).2.1 rfl) ho I.free
 ·obtain ⟨v,o,ho,hd⟩:=I.cell x c e
  exact free c o (fun z=>(hch c z).2.2.1 x c e rfl) ho (I.freeC x c e)
 ·obtain ⟨e,n,ne,nf,d⟩:=I.pin p hp
  have nch:p.1 ∉ ch:=fun z=>(hch p.1 z).2.2.2 p hp rfl
  exact ⟨keep p.1 p.2 ne nf nch e n,free p.1 p.2 nch e n,ne,nf,d⟩
theorem Inv.un {t':Nat} (I:Inv X pins σ H s) (u:Un X.fs [] H H' s.heap h') (hok:HOk X.prog X.w H' h'):Inv X pins σ H' { s with heap:=h',toks:=t' }:=by
 obtain ⟨m,⟨o,es,ep,ho,r⟩,_⟩:=id I.loc
 obtain ⟨sl,hL⟩:=u.any ho I.free (by simp)
 exact I.step (g':=s.gens) (d':=s.drawn) (ch:=[]) (fun _ z=>nomatch z) (fun b o _ hb _ e n=>u.keep b o e n hb (by simp)) (fun b o _ hb _ e n=>u.slot b o e n hb (by simp)) (fun b o _ e n=>u.free b o e n (by simp)) (fun b o _ e=>u.there b o e (by simp)) u.tups u.frzs u.tbls (fun m' hm=>by
  obtain ⟨o',es',ep',ho',r'⟩:=hm
  rw [ho] at ho'; cases ho'
  exact ⟨_,es',ep',hL,r'⟩) hok I.bare
theorem Inv.call {g':Array GenState} {t':Nat} {d':Drawn} {ch:List Addr} (I:Inv X pins σ H s) (u:Un (frs X.stack) ch H H' s.heap h') (hok:HOk X.prog X.w H' h') (hg:AllBare g')
  (hch:∀ b ∈ ch,(b ∈ X.ex∨X.s₀.heap.objs.size<=b)/\b≠X.env.locals/\(∀ x c,X.env.cells.lookup x=some c->c≠b)/\∀ p ∈ X.pn++pins,p.1≠b) :
  Inv X pins σ H' { s with heap:=h',gens:=g',drawn:=d',toks:=t' }:=by
 obtain ⟨m,⟨o,es,ep,ho,r⟩,_⟩:=id I.loc
 obtain ⟨sl,hL⟩:=u.any ho I.free fun z=>(hch _ z).2.1 rfl
 exact I.step (ch:=ch) hch (fun b o hL hb hc e n=>u.keep b o e n (fun z=>(List.mem_cons.mp (I.stkSub b z)).elim hL hb) hc) (fun b o _ _ hc e n=>u.any e n hc) (fun b o hc e n=>u.free b o e n hc) (fun b o hc e=>u.there b o e hc) u.tups u.frzs u.tbls (fun m' hm=>by
  obtain ⟨o',es',ep',ho',r'⟩:=hm
  rw [ho] at ho'; cases ho'
  exact ⟨_,es',ep',hL,r'⟩) hok hg
theorem Inv.turned {t':Nat} {it:Addr} (I:Inv X pins σ H s) (k:∀ b o,b≠it->s.heap.get? b=some o->h'.get? b=some o) (hn:H it=none) (hL:it≠X.env.locals)
  (h1:it ∈ X.ex∨X.s₀.heap.objs.size<=it) (h2:∀ x c,X.env.cells.lookup x=some c->c≠it) (h3:∀ p ∈ X.pn++pins,p.1≠it):Inv X pins σ H { s with heap:=h',toks:=t' }:=by
 have nit:∀ b u,H b=some u->b≠it:=fun b u e z=>by rw [z,hn] at e; cases e
 refine I.step (g':=s.gens) (d':=s.drawn) (ch:=[it]) (fun b hb=>?_) (fun b o _ _ hc e _=>k b o (fun z=>hc (by simp [z])) e) (fun b o _ _ hc e _=>⟨o.slots,k b o (fun z=>hc (by simp [z])) e⟩) (fun _ _ _ _ n=>n)
  (fun b o hc e=>⟨o,k b o (fun z=>hc (by simp [z])) e⟩) (fun _ _ e=>e) (fun _ _ _ e=>e) (fun b ps e=>⟨#[],by rw [e]; simp⟩) (fun m hm=>?_) (fun b u e=>?_) I.bare
 ·have e:b=it:=by simpa using hb
  subst e
  exact ⟨h1,hL,h2,h3⟩
 ·obtain ⟨o,es,ep,ho,r⟩:=hm
  exact ⟨o,es,ep,k _ o (Ne.symm hL) ho,r⟩
 ·refine (I.hok b u e).stay (fun c v hc q=>k c v ?_ q) (fun _ q=>q) fun _ _ q=>q
  rcases hc with z | z
  ·rw [z]; exact nit b u e
  ·exact nit c _ z
theorem Inv.tok (I:Inv X pins σ H s) (t:Nat):Inv X pins σ H { s with toks:=t }:=I.un (h':=s.heap) (t':=t) Un.refl I.hok
theorem Inv.kept {t':Nat} (I:Inv X pins σ H s) (k:∀ b u,s.heap.get? b=some u->h'.get? b=some u):Inv X pins σ H { s with heap:=h',toks:=t' }:=I.un (Un.kept k) (I.hok.kept k)
theorem Inv.laid {a:Addr} {o:HO} {t':Nat} (I:Inv X pins σ H s) (k:∀ b u,s.heap.get? b=some u->h'.get? b=some u) (hp:s.heap.objs.size<=a) (new:ObjOk X.prog X.w (upd H a o) h' a o) :
  Inv X pins σ (upd H a o) { s with heap:=h',toks:=t' }:=I.un (Un.laid k hp (I.hok.fresh hp)) (I.hok.laid k hp new)
theorem Inv.write {x e:Addr} {o:HO} {t':Nat} (I:Inv X pins σ H s) (mu:Mut (H x)) (he:e=x∨H e=some (.own x)) (k:∀ b u,b≠e->s.heap.get? b=some u->h'.get? b=some u) (heo:∃ u,h'.get? e=some u)
  (new:ObjOk X.prog X.w (upd H x o) h' x o):Inv X pins σ (upd H x o) { s with heap:=h',toks:=t' }:=I.un (Un.write mu he k heo) (I.hok.write mu he k heo new)
theorem Inv.pins_of {pins':List (Addr × Obj)} (I:Inv X pins σ H s) (h:∀ p ∈ pins',s.heap.get? p.1=some p.2/\H p.1=none/\p.1≠X.env.locals/\p.1 ∉ X.fs/\∀ v,p.2.data≠.cell v):Inv X pins' σ H s :=
 ⟨I.ok,I.os,I.bare,I.base,I.loc,I.cell,I.free,I.freeC,fun p hp=>(List.mem_append.mp hp).elim (fun z=>I.pin p (List.mem_append_left _ z)) (h p),I.hok,I.len⟩
theorem nodup_ix {N:List Str} (hN:N.Nodup) {i j:Nat} {x:Str} (a:N[i]?=some x) (b:N[j]?=some x):i=j:=by
 obtain ⟨h1,e1⟩:=List.getElem?_eq_some_iff.mp a
 obtain ⟨h2,e2⟩:=List.getElem?_eq_some_iff.mp b
 exact (List.getElem_inj hN).mp (e1.trans e2.symm)
theorem store_ok2 {M:Model} {A:Around} {E:Value->Shared->Prop} {i:Nat} {x:Str} {v:V} {u:Value} {Q:Unit->Shared->Prop} (I:Inv X pins σ H s) (hN:X.N.Nodup) (hi:X.N[i]?=some x) (hx:Loc X.env.scope x) (r:RelV v u)
  (h:∀ s',Inv X pins (σ.set i (some v)) H s'->(∃ a,Heap.SameBut a s.heap s'.heap/\(a=X.env.locals∨X.env.cells.lookup x=some a))->Q () s') (hf:X.fn x=true∨X.env.scope.names.lookup x=some .local:=by first | exact .inl rfl | exact .inr rfl | assumption):wpAny M A (storeName X.env x u) Q E s:=by
 obtain ⟨m,hn,hl⟩:=id I.loc
 have hcls:(X.env.scope.kind == .class || (X.env.scope.kind == .module && X.env.locals != X.env.globals))=false:=by rw [I.ok.kind]; rfl
 have hiσ:i < σ.length:=by rw [I.len]; exact (List.getElem?_eq_some_iff.mp hi).1
 have cne:=I.cne
 have tracked:∀ {a:Addr} {h':Heap},(∃ o,s.heap.get? a=some o/\H a=none)->Heap.SameBut a s.heap h'->HOk X.prog X.w H h':=fun {a h'} ha hs b ob e=>by
  obtain ⟨_,_,hfree⟩:=ha
  refine (I.hok b ob e).stay (fun c w' hc q=>(hs.2 c ?_).trans q) (fun _ q=>q) fun _ _ q=>q
  rintro rfl
  rcases hc with rfl | hc
  ·rw [hfree] at e; cases e
  ·rw [hfree] at hc; cases hc
 rcases hx with hk | hk
 ·refine wpAny_storeName_local hk hn (fun h' hn' hs=>?_) hcls
  obtain ⟨oL,_,_,hoL,_⟩:=id hn
  refine h _ ⟨I.ok,I.os,I.bare,⟨fun b o e n hb hx=>?_,fun b o e n hb hx=>?_,I.base.free,fun b o e hx=>?_,I.base.tups,I.base.frzs,I.base.tbls⟩,⟨_,hn',fun j y v' e1 e2 e3=>?_⟩,fun y c e=>?_,I.free,I.freeC,fun p hp=>?_,tracked ⟨oL,hoL,I.free⟩ hs,by simpa using I.len⟩ ⟨_,hs,.inl rfl⟩
  ·exact (hs.2 b (Nat.ne_of_lt (Nat.lt_of_lt_of_le (Heap.lt_size e) I.ok.above))).trans (I.base.keep b o e n hb hx)
  ·obtain ⟨sl,e1⟩:=I.base.slot b o e n hb hx
   exact ⟨sl,(hs.2 b (Nat.ne_of_lt (Nat.lt_of_lt_of_le (Heap.lt_size e) I.ok.above))).trans e1⟩
  ·obtain ⟨o',e1⟩:=I.base.there b o e hx
   exact ⟨o',(hs.2 b (Nat.ne_of_lt (Nat.lt_of_lt_of_le (Heap.lt_size e) I.ok.above))).trans e1⟩
  ·by_cases hj:j=i
   ·subst hj
    rw [hi] at e1; cases e1
    rw [List.getElem?_set_self hiσ] at e2
    cases e2
    exact ⟨u,r,.inl ⟨hk,by simp⟩⟩
   ·rw [List.getElem?_set_ne (Ne.symm hj)] at e2
    obtain ⟨u',r',q⟩:=hl j y v' e1 e2 e3
    refine ⟨u',r',?_⟩
    rcases q with ⟨k,e⟩ | ⟨k,c,e,z⟩
    ·refine .inl ⟨k,?_⟩
     have:y≠x:=fun e=>hj (nodup_ix hN e1 (e▸hi))
     simp [this,e]
    ·exact .inr ⟨k,c,e,z.sameBut hs (cne y c e)⟩
  ·obtain ⟨w',z⟩:=I.cell y c e
   exact ⟨w',z.sameBut hs (cne y c e)⟩
  ·obtain ⟨e,n,ne,nf,d⟩:=I.pin p hp
   exact ⟨(hs.2 p.1 ne).trans e,n,ne,nf,d⟩
 ·have hfn:X.fn x=true:=by
   rcases hf with z | z
   ·exact z
   ·rw [z] at hk; cases hk
  obtain ⟨c,hc⟩:=I.ok.has x (.inl hk)
  obtain ⟨w',z⟩:=I.cell x c hc
  refine wpAny_storeName_cell I.ok.kind hk hc z (fun h' hc' hs=>?_)
  obtain ⟨oc,hoc,hocd⟩:=id z
  refine h { s with heap:=h' } ⟨I.ok,I.os,I.bare,⟨fun b o e n hb hx=>?_,fun b o e n hb hx=>?_,I.base.free,fun b o e hx=>?_,I.base.tups,I.base.frzs,I.base.tbls⟩,⟨m,hn.sameBut hs (Ne.symm (cne x c hc)),fun j y v' e1 e2 e3=>?_⟩,fun y c' e=>?_,I.free,I.freeC,fun p hp=>?_,tracked ⟨oc,hoc,I.freeC x c hc⟩ hs,by simpa using I.len⟩ ⟨c,hs,.inr hc⟩
  ·exact (hs.2 b (Nat.ne_of_lt (Nat.lt_of_lt_of_le (Heap.lt_size e) (I.ok.cab x c hfn hc)))).trans (I.base.keep b o e n hb hx)
  ·obtain ⟨sl,e1⟩:=I.base.slot b o e n hb hx
   exact ⟨sl,(hs.2 b (Nat.ne_of_lt (Nat.lt_of_lt_of_le (Heap.lt_size e) (I.ok.cab x c hfn hc)))).trans e1⟩
  ·obtain ⟨o',e1⟩:=I.base.there b o e hx
   exact ⟨o',(hs.2 b (Nat.ne_of_lt (Nat.lt_of_lt_of_le (Heap.lt_size e) (I.ok.cab x c hfn hc)))).trans e1⟩
  ·by_cases hj:j=i
   ·subst hj
    rw [hi] at e1; cases e1
    rw [List.getElem?_set_self hiσ] at e2
    cases e2
    exact ⟨u,r,.inr ⟨.inl hk,c,hc,hc'⟩⟩
   ·rw [List.getElem?_set_ne (Ne.symm hj)] at e2
    obtain ⟨u',r',q⟩:=hl j y v' e1 e2 e3
    refine ⟨u',r',?_⟩
    rcases q with q | ⟨k,c',e,z'⟩
    ·exact .inl q
    ·refine .inr ⟨k,c',e,z'.sameBut hs ?_⟩
     rintro rfl
     exact hj (nodup_ix hN e1 (I.ok.inj _ _ _ e hc▸hi))
  ·by_cases hcc:c'=c
   ·subst hcc; exact ⟨_,hc'⟩
   ·obtain ⟨w2,z2⟩:=I.cell y c' e
    exact ⟨w2,z2.sameBut hs hcc⟩
  ·obtain ⟨e,n,ne,nf,d⟩:=I.pin p hp
   refine ⟨(hs.2 p.1 ?_).trans e,n,ne,nf,d⟩
   intro q
   rw [q,hoc] at e
   have q':oc=p.2:=Option.some.inj e
   exact d w' (by rw [<- q']; exact hocd)
theorem store_ok {M:Model} {A:Around} {E:Value->Shared->Prop} {i:Nat} {x:Str} {v:V} {u:Value} {Q:Unit->Shared->Prop} (I:Inv X pins σ H s) (hN:X.N.Nodup) (hi:X.N[i]?=some x) (hx:Loc X.env.scope x) (r:RelV v u)
  (h:∀ s',Inv X pins (σ.set i (some v)) H s'->Q () s') (hf:X.fn x=true∨X.env.scope.names.lookup x=some .local:=by first | exact .inl rfl | exact .inr rfl | assumption):wpAny M A (storeName X.env x u) Q E s :=
 store_ok2 I hN hi hx r (fun s' I' _=>h s' I') hf
theorem Inv.call' {s':Shared} {ch:List Addr} (I:Inv X pins σ H s) (ho:s'.os=s.os) (u:Un (frs X.stack) ch H H' s.heap s'.heap) (hok:HOk X.prog X.w H' s'.heap) (hg:AllBare s'.gens)
  (hch:∀ b ∈ ch,(b ∈ X.ex∨X.s₀.heap.objs.size<=b)/\b≠X.env.locals/\(∀ x c,X.env.cells.lookup x=some c->c≠b)/\∀ p ∈ X.pn++pins,p.1≠b):Inv X pins σ H' s':=by
 obtain ⟨h',g',d',t',o'⟩:=s'
 have e:o'=s.os:=ho
 subst e
 exact I.call (g':=g') (t':=t') (d':=d') u hok hg hch
end
noncomputable abbrev XK:=Value->Option Addr->Hp->Prop
noncomputable abbrev St:=List (Option V)
noncomputable abbrev VK:=V->Hp->Prop
noncomputable abbrev TE:=St->Hp->VK->Prop
noncomputable abbrev TT:=St->Hp->(Bool->Hp->Prop)->Prop
noncomputable abbrev TA:=St->Hp->(List V->Hp->Prop)->Prop
structure Ends where
 nx:St->Hp->Prop
 rt:VK
 bk:St->Hp->Prop:=fun _ _=>False
 ct:St->Hp->Prop:=fun _ _=>False
noncomputable abbrev TS:=Ends->St->Hp->Prop
noncomputable def EP (X:Cx) (pins:List (Addr × Obj)) (σ:St) (Q:VK) (u:Value) (s':Shared):Prop:=∃ v H',Inv X pins σ H' s'/\RelV v u/\Q v H'
noncomputable def TP (X:Cx) (pins:List (Addr × Obj)) (σ:St) (Q:Bool->Hp->Prop) (b:Bool) (s':Shared):Prop:=∃ H',Inv X pins σ H' s'/\Q b H'
noncomputable def AP (X:Cx) (pins:List (Addr × Obj)) (σ:St) (Q:List V->Hp->Prop) (us:List Value) (s':Shared):Prop:=∃ vs H',Inv X pins σ H' s'/\Vals vs us/\Q vs H'
noncomputable def SP (X:Cx) (pins:List (Addr × Obj)) (D:Ends) (f:Flow) (s':Shared):Prop :=
 match f with
 | .next=>∃ σ' H',Inv X pins σ' H' s'/\D.nx σ' H'
 | .brk=>∃ σ' H',Inv X pins σ' H' s'/\D.bk σ' H'
 | .cont=>∃ σ' H',Inv X pins σ' H' s'/\D.ct σ' H'
 | .ret u=>∃ v σ' H',Inv X pins σ' H' s'/\RelV v u/\D.rt v H'
noncomputable def PE (X:Cx) (e:Expr) (t:TE):Prop :=
 ∀ (pins:List (Addr × Obj)) (s:Shared) (σ:St) (H:Hp) (Q:VK),Inv X pins σ H s->t σ H Q->wpAny (model X.prog X.w) X.A (eval e X.env) (EP X pins σ Q) X.xe s
noncomputable def PT (X:Cx) (e:Expr) (t:TT):Prop :=
 ∀ (pins:List (Addr × Obj)) (s:Shared) (σ:St) (H:Hp) (Q:Bool->Hp->Prop),Inv X pins σ H s->t σ H Q->wpAny (model X.prog X.w) X.A (isTrue e X.env (eval e X.env)) (TP X pins σ Q) X.xe s
noncomputable def PW (X:Cx) (e:Expr) (t:TT):Prop :=
 ∀ (whole:Sem Value) (pins:List (Addr × Obj)) (s:Shared) (σ:St) (H:Hp) (Q:Bool->Hp->Prop),Inv X pins σ H s->t σ H Q->wpAny (model X.prog X.w) X.A (isTrue e X.env whole) (TP X pins σ Q) X.xe s
theorem PW.pt {X:Cx} {e:Expr} {t:TT} (h:PW X e t):PT X e t:=h _
noncomputable def PA (X:Cx) (es:List Expr) (t:TA):Prop :=
 ∀ (pos:Pos) (pins:List (Addr × Obj)) (s:Shared) (σ:St) (H:Hp) (Q:List V->Hp->Prop),Inv X pins σ H s->t σ H Q->wpAny (model X.prog X.w) X.A (spliced (backTo pos (starEach es X.env))) (AP X pins σ Q) X.xe s
noncomputable def PS (X:Cx) (st:Stmt) (t:TS):Prop :=
 ∀ (pins:List (Addr × Obj)) (s:Shared) (σ:St) (H:Hp) (D:Ends),Inv X pins σ H s->t D σ H->wpAny (model X.prog X.w) X.A (exec st X.env) (SP X pins D) X.xe s
noncomputable def PSs (X:Cx) (st:List Stmt) (t:TS):Prop :=
 ∀ (pins:List (Addr × Obj)) (s:Shared) (σ:St) (H:Hp) (D:Ends),Inv X pins σ H s->t D σ H->wpAny (model X.prog X.w) X.A (execs st X.env) (SP X pins D) X.xe s
theorem thn {α:Type} {t:Sem α} {Q Q':α->Shared->Prop} {M:Model} {A:Around} {E:Value->Shared->Prop} {s:Shared} (h:wpAny M A t Q E s) (hQ:∀ a s,Q a s->Q' a s):wpAny M A t Q' E s:=wpAny_mono h hQ fun _ _ x=>x
end L2
namespace L2
open PySem PySem.Spec PyProof.Rows
section
variable {X:Cx}
theorem bin {a b:Expr} {ta tb:TE} (ha:PE X a ta) (hb:PE X b tb) {pins:List (Addr × Obj)} {s:Shared} {σ:St} {H:Hp} {R:V->V->Hp->Prop} (I:Inv X pins σ H s) (h:ta σ H fun x H1=>tb σ H1 fun y H2=>R x y H2)
  {α:Type} {Q:α->Shared->Prop} {f:Value->Value->Sem α}
  (hf:∀ v u s2 x y H2,Inv X pins σ H2 s2->RelV x v->RelV y u->R x y H2->wpAny (model X.prog X.w) X.A (f v u) Q X.xe s2) :
  wpAny (model X.prog X.w) X.A (eval a X.env) (fun v s₁=>wpAny (model X.prog X.w) X.A (eval b X.env) (fun u s₂=>wpAny (model X.prog X.w) X.A (f v u) Q X.xe s₂) X.xe s₁) X.xe s:=by
 refine thn (ha pins s σ H _ I h) fun v s1 ⟨x,H1,I1,r1,q1⟩=>?_
 refine thn (hb pins s1 σ H1 _ I1 q1) fun u s2 ⟨y,H2,I2,r2,q2⟩=>?_
 exact hf v u s2 x y H2 I2 r1 r2 q2
noncomputable def tVar (i:Nat):TE:=fun σ H Q=>∃ v,σ[i]?=some (some v)/\Q v H
noncomputable def tC (v:V):TE:=fun _ H Q=>Q v H
theorem pe_var {i:Nat} {x:Str} {pos:Pos} (hN:X.N[i]?=some x) (hv:Vis X.env.scope x) (hd:(x == ("__debug__":Str))=false:=by decide) (hcd:(x == ("__classdict__":Str))=false:=by decide):PE X (.Name x pos) (tVar i):=by
 intro pins s σ H Q I h
 obtain ⟨v,e,h⟩:=h
 obtain ⟨m,hn,hl⟩:=I.loc
 obtain ⟨u,r,l⟩:=hl i x v hN e hv
 have fin:EP X pins σ Q u s:=⟨v,H,I,r,h⟩
 rcases l with ⟨hk,hm⟩ | ⟨hk,c,hc,hcell⟩
 ·exact wpAny_Name (wpAny_loadName_local I.ok.kind hk hn hm fin) hd
 ·rcases hk with hk | hk
  ·exact wpAny_Name (wpAny_loadName_cell I.ok.kind hk hc hcell fin) hd
  ·exact wpAny_Name (wpAny_loadName_free I.ok.kind hk hc hcell fin hcd) hd
theorem pe_int {i j pos}:PE X (.Constant (.int i) j pos) (tC (.int i)):=fun _ _ _ H _ I h=>wpAny_Constant_int ⟨.int i,H,I.tok _,⟨_,rfl⟩,h⟩
theorem pe_bl {b j pos}:PE X (.Constant (.bool b) j pos) (tC (.bl b)):=fun _ _ _ H _ I h=>Constant_bool ⟨.bl b,H,I,rfl,h⟩
theorem pe_non {j pos}:PE X (.Constant .none j pos) (tC .non):=fun _ _ _ H _ I h=>Constant_none ⟨.non,H,I,rfl,h⟩
theorem pe_str {x j pos}:PE X (.Constant (.str x) j pos) (tC (.str x)):=fun _ _ _ H _ I h=>Calls.Constant_str ⟨.str x,H,I.tok _,⟨_,rfl⟩,h⟩
noncomputable def Gl (X:Cx) (x:Str):Prop:=X.env.kindOf x=some .globalImplicit
theorem ld_glob {E:Value->Shared->Prop} {pins:List (Addr × Obj)} {s:Shared} {σ:St} {H:Hp} {x:Str} {u:Value} {pos:Pos} {Q:Value->Shared->Prop} (I:Inv X pins σ H s) (hg:Gl X x) (hm:X.mg x=some u) (h:Q u s)
  (hd:(x == ("__debug__":Str))=false:=by decide):wpAny (model X.prog X.w) X.A (eval (.Name x pos) X.env) Q E s :=
 Calls.Name_function_global I.ok.kind hg (Calls.loadGlobal_global (by rw [I.ok.glob]; exact I.mod.glob.keeps I.bk) hm h) hd
theorem ld_blt {E:Value->Shared->Prop} {pins:List (Addr × Obj)} {s:Shared} {σ:St} {H:Hp} {x:Str} {u:Value} {pos:Pos} {Q:Value->Shared->Prop} (I:Inv X pins σ H s) (hg:Gl X x) (hm:X.mg x=none) (hv:bootBuiltins x=some u) (h:Q u s)
  (hn:x≠"__name__":=by decide) (hd:(x == ("__debug__":Str))=false:=by decide):wpAny (model X.prog X.w) X.A (eval (.Name x pos) X.env) Q E s:=by
 obtain ⟨mb,h1,h2⟩:=I.mod.blt
 exact Calls.Name_function_global I.ok.kind hg (Calls.loadGlobal_builtin (by rw [I.ok.glob]; exact I.mod.glob.keeps I.bk) hm (by rw [I.ok.blt]; exact h1.keeps I.bk) ((h2 x hn).trans hv) h) hd
theorem pe_glob {x:Str} {v:V} {u:Value} {pos:Pos} (hg:Gl X x) (hm:X.mg x=some u) (r:RelV v u) (hd:(x == ("__debug__":Str))=false:=by decide):PE X (.Name x pos) (tC v) :=
 fun _ _ _ H _ I h=>ld_glob I hg hm ⟨v,H,I,r,h⟩ hd
theorem pe_bltn {x:Str} {v:V} {u:Value} {pos:Pos} (hg:Gl X x) (hm:X.mg x=none) (hv:bootBuiltins x=some u) (r:RelV v u) (hn:x≠"__name__":=by decide) (hd:(x == ("__debug__":Str))=false:=by decide):PE X (.Name x pos) (tC v) :=
 fun _ _ _ H _ I h=>ld_blt I hg hm hv ⟨v,H,I,r,h⟩ hn hd
variable {a b:Expr} {ta tb:TE} {pos:Pos}
variable {tA tB':TT} {rest:List Expr}
noncomputable def tAnd (t u:TT):TT:=fun σ H Q=>t σ H fun c H1=>if c=true then u σ H1 Q else Q false H1
noncomputable def tOr (t u:TT):TT:=fun σ H Q=>t σ H fun c H1=>if c=true then Q true H1 else u σ H1 Q
noncomputable def tNot (t:TT):TT:=fun σ H Q=>t σ H fun c H1=>Q (!c) H1
theorem pw_and1 (ha:PT X a tA):PW X (.BoolOp .And [a] pos) tA:=by
 intro wh pins s σ H Q I h
 refine isTrue_and (thn (ha pins s σ H Q I h) fun c s1 e=>?_)
 cases c with
 | true=>exact isTrue_and_nil e
 | false=>exact e
theorem pw_or1 (ha:PT X a tA):PW X (.BoolOp .Or [a] pos) tA:=by
 intro wh pins s σ H Q I h
 refine isTrue_or (thn (ha pins s σ H Q I h) fun c s1 e=>?_)
 cases c with
 | false=>exact isTrue_or_nil e
 | true=>exact e
theorem pw_and (ha:PT X a tA) (hb:PW X (.BoolOp .And (b::rest) pos) tB'):PW X (.BoolOp .And (a::b::rest) pos) (tAnd tA tB'):=by
 intro wh pins s σ H Q I h
 refine isTrue_and (thn (ha pins s σ H _ I h) fun c s1 ⟨H1,I1,q1⟩=>?_)
 cases c with
 | true=>exact hb wh pins s1 σ H1 Q I1 q1
 | false=>exact ⟨H1,I1,q1⟩
theorem pw_or (ha:PT X a tA) (hb:PW X (.BoolOp .Or (b::rest) pos) tB'):PW X (.BoolOp .Or (a::b::rest) pos) (tOr tA tB'):=by
 intro wh pins s σ H Q I h
 refine isTrue_or (thn (ha pins s σ H _ I h) fun c s1 ⟨H1,I1,q1⟩=>?_)
 cases c with
 | true=>exact ⟨H1,I1,q1⟩
 | false=>exact hb wh pins s1 σ H1 Q I1 q1
theorem pt_not (ha:PT X a tA):PT X (.UnaryOp .Not a pos) (tNot tA):=by
 intro pins s σ H Q I h
 exact isTrue_not (ha pins s σ H (fun c H1=>Q (!c) H1) I h)
noncomputable def tAndV (ta tb:TE):TE:=fun σ H Q=>ta σ H fun x H1=>∃ c,x=.bl c/\if c=true then tb σ H1 Q else Q (.bl false) H1
noncomputable def tOrV (ta tb:TE):TE:=fun σ H Q=>ta σ H fun x H1=>∃ c,x=.bl c/\if c=true then Q (.bl true) H1 else tb σ H1 Q
theorem pe_one {op} {t:TE} (h:PE X a t):PE X (.BoolOp op [a] pos) t:=fun pins s σ H Q I hw=>BoolOp_one (h pins s σ H Q I hw)
theorem pe_and (ha:PE X a ta) (hb:PE X (.BoolOp .And (b::rest) pos) tb):PE X (.BoolOp .And (a::b::rest) pos) (tAndV ta tb):=by
 intro pins s σ H Q I h
 refine BoolOp_and (thn (ha pins s σ H _ I h) fun v s1 ⟨x,H1,I1,r1,q1⟩=>?_)
 obtain ⟨c,rfl,q1⟩:=q1
 cases r1
 refine wpAny_truthy_bool ?_
 cases c with
 | true=>exact hb pins s1 σ H1 Q I1 q1
 | false=>exact ⟨.bl false,H1,I1,rfl,q1⟩
theorem pe_or (ha:PE X a ta) (hb:PE X (.BoolOp .Or (b::rest) pos) tb):PE X (.BoolOp .Or (a::b::rest) pos) (tOrV ta tb):=by
 intro pins s σ H Q I h
 refine BoolOp_or (thn (ha pins s σ H _ I h) fun v s1 ⟨x,H1,I1,r1,q1⟩=>?_)
 obtain ⟨c,rfl,q1⟩:=q1
 cases r1
 refine wpAny_truthy_bool ?_
 cases c with
 | false=>exact hb pins s1 σ H1 Q I1 q1
 | true=>exact ⟨.bl true,H1,I1,rfl,q1⟩
noncomputable def tIf (t:TT) (ta tb:TE):TE:=fun σ H Q=>t σ H fun c H1=>if c=true then ta σ H1 Q else tb σ H1 Q
theorem pe_ifExp {c:Expr} (hc:PT X c tA) (ha:PE X a ta) (hb:PE X b tb):PE X (.IfExp c a b pos) (tIf tA ta tb):=by
 intro pins s σ H Q I h
 refine wpAny_IfExp (thn (hc pins s σ H _ I h) fun d s1 ⟨H1,I1,q1⟩=>?_)
 cases d with
 | true=>exact ha pins s1 σ H1 Q I1 q1
 | false=>exact hb pins s1 σ H1 Q I1 q1
end
end L2
namespace L2
open PySem PySem.Spec PyProof.Rows
noncomputable def SqL (K:PySem.W.Frag) (H:Hp) (a:Addr) (xs:List V):Prop :=
 Rd H a (.lst xs) ∨
  ∃ (o:Obj) (its:Array Value) (n:Nat),K.lookup a=some o/\o.cls=.type "list"/\o.dict=none/\o.data=.seq its n/\its.size<=sizeLine/\Vals xs its.toList
noncomputable def SqT (K:PySem.W.Frag) (H:Hp) (a:Addr) (xs:List V):Prop :=
 Rd H a (.tup xs) ∨
  ∃ (o:Obj) (its:Array Value) (n:Nat),K.lookup a=some o/\o.cls=.type "tuple"/\o.data=.seq its n/\its.size<=sizeLine/\Vals xs its.toList
noncomputable def absV:Value->Option V
 | .none=>some .non
 | .bool b=>some (.bl b)
 | .int i _=>some (.int i)
 | .str x _=>some (.str x)
 | .bytes b _=>some (.byt b)
 | .float b _=>some (.flt b)
 | .ref a=>some (.ref a)
 | .type n=>some (.ty n)
 | _=>none
theorem RelV.abs {x:V} {u:Value} (r:RelV x u):absV u=some x:=by
 cases x with
 | non=>cases r; rfl
 | bl _=>cases r; rfl
 | int _=>obtain ⟨t,rfl⟩:=r; rfl
 | str _=>obtain ⟨t,rfl⟩:=r; rfl
 | byt _=>obtain ⟨t,rfl⟩:=r; rfl
 | flt _=>obtain ⟨t,rfl⟩:=r; rfl
 | ref _=>cases r; rfl
 | ty _=>cases r; rfl
theorem RelV.inj {x y:V} {u:Value} (r:RelV x u) (q:RelV y u):x=y:=Option.some.inj (r.abs.symm.trans q.abs)
theorem Vals.inj:∀ {xs ys:List V} {us:List Value},Vals xs us->Vals ys us->xs=ys
 | _,_,_,.nil,.nil=>rfl
 | _,_,_,.cons r t,.cons r' t'=>by rw [r.inj r',Vals.inj t t']
section
variable {X:Cx} {pins:List (Addr × Obj)} {σ:St} {H:Hp} {s:Shared} {a:Addr} {xs ys:List V}
theorem SqL.of {K:PySem.W.Frag} (h:H a=some (.lst xs)):SqL K H a xs:=.inl (.inl h)
theorem SqT.of {K:PySem.W.Frag} (h:H a=some (.tup xs)):SqT K H a xs:=.inl (.inl h)
theorem Inv.list (I:Inv X pins σ H s) (h:SqL X.K H a xs):∃ its:List Value,Vals xs its/\PlainL s.heap a its.toArray/\xs.length<=sizeLine:=by
 rcases h with h | ⟨o,its,n,hk,hc,hd,hs,hz,r⟩
 ·obtain ⟨z,its,n,r,e⟩:=h.ok I.hok
  exact ⟨its,r,⟨_,n,e,rfl,rfl,rfl⟩,z⟩
 ·refine ⟨its.toList,r,⟨o,n,I.kIn a o hk,hc,hd,by simpa using hs⟩,?_⟩
  have e:=r.length
  simp only [Array.length_toList] at e
  omega
theorem Inv.tuple (I:Inv X pins σ H s) (h:SqT X.K H a xs):∃ its:List Value,Vals xs its/\IsTup s.heap a its.toArray/\xs.length<=sizeLine:=by
 rcases h with h | ⟨o,its,n,hk,hc,hs,hz,r⟩
 ·obtain ⟨z,its,r,p⟩:=h.ok I.hok
  exact ⟨its,r,p,z⟩
 ·refine ⟨its.toList,r,⟨o,I.kIn a o hk,hc,n,by simpa using hs⟩,?_⟩
  have e:=r.length
  simp only [Array.length_toList] at e
  omega
theorem Inv.list_inj (I:Inv X pins σ H s) (h:SqL X.K H a xs) (h':SqL X.K H a ys):xs=ys:=by
 obtain ⟨its,r,⟨o,n,e,_,_,d⟩,_⟩:=I.list h
 obtain ⟨its',r',⟨o',n',e',_,_,d'⟩,_⟩:=I.list h'
 rw [e] at e'; cases e'
 rw [d] at d'
 injection d' with d1 _
 have:its=its':=by simpa using congrArg Array.toList d1
 subst this
 exact r.inj r'
theorem Inv.tuple_inj (I:Inv X pins σ H s) (h:SqT X.K H a xs) (h':SqT X.K H a ys):xs=ys:=by
 obtain ⟨its,r,⟨o,e,_,n,d⟩,_⟩:=I.tuple h
 obtain ⟨its',r',⟨o',e',_,n',d'⟩,_⟩:=I.tuple h'
 rw [e] at e'; cases e'
 rw [d] at d'
 injection d' with d1 _
 have:its=its':=by simpa using congrArg Array.toList d1
 subst this
 exact r.inj r'
end
noncomputable abbrev Cx.wish (X:Cx) (E:Value->Shared->Prop):Cx:={ X with xe:=E }
noncomputable abbrev Cx.nox (X:Cx):Cx:=X.wish fun _ _=>False
theorem Cx.Ok.wish {X:Cx} (ok:X.Ok) (E:Value->Shared->Prop):(X.wish E).Ok :=
 ⟨ok.mod,ok.kind,ok.glob,ok.blt,ok.above,ok.inj,ok.has,ok.cab,ok.hd,ok.frames,ok.stk,ok.exf,ok.bs,ok.bsz,ok.noex,ok.exfs,ok.funs,ok.frf⟩
theorem Cx.Ok.unwish {X:Cx} {E:Value->Shared->Prop} (ok:(X.wish E).Ok):X.Ok :=
 ⟨ok.mod,ok.kind,ok.glob,ok.blt,ok.above,ok.inj,ok.has,ok.cab,ok.hd,ok.frames,ok.stk,ok.exf,ok.bs,ok.bsz,ok.noex,ok.exfs,ok.funs,ok.frf⟩
section
variable {X:Cx} {pins:List (Addr × Obj)} {σ:St} {H:Hp} {s:Shared} {E:Value->Shared->Prop}
theorem Inv.wish (I:Inv X pins σ H s) (E:Value->Shared->Prop):Inv (X.wish E) pins σ H s:=⟨I.ok.wish E,I.os,I.bare,I.base,I.loc,I.cell,I.free,I.freeC,I.pin,I.hok,I.len⟩
theorem Inv.unwish (I:Inv (X.wish E) pins σ H s):Inv X pins σ H s:=⟨I.ok.unwish,I.os,I.bare,I.base,I.loc,I.cell,I.free,I.freeC,I.pin,I.hok,I.len⟩
theorem SP.unwish {D:Ends} {f:Flow} {s':Shared} (h:SP (X.wish E) pins D f s'):SP X pins D f s':=by
 cases f with
 | next=>obtain ⟨σ',H',I,q⟩:=h; exact ⟨σ',H',I.unwish,q⟩
 | brk=>obtain ⟨σ',H',I,q⟩:=h; exact ⟨σ',H',I.unwish,q⟩
 | cont=>obtain ⟨σ',H',I,q⟩:=h; exact ⟨σ',H',I.unwish,q⟩
 | ret u=>obtain ⟨v,σ',H',I,r,q⟩:=h; exact ⟨v,σ',H',I.unwish,r,q⟩
theorem PSs.nox {st:List Stmt} {t:TS} (h:PSs X.nox st t):PSs X st t:=fun pins s σ H D I hw =>
 wpAny_mono (h pins s σ H D (I.wish _) hw) (fun _ _ q=>q.unwish) fun _ _ z=>False.elim z
end
section
variable {X:Cx} {st:Stmt} {rest:List Stmt} {t u:TS} {e:Expr} {te:TE} {pos:Pos}
noncomputable def tNext:TS:=fun D σ H=>D.nx σ H
noncomputable def tSeq (t u:TS):TS:=fun D σ H=>t { D with nx:=u D } σ H
theorem pss_nil:PSs X [] tNext:=fun _ _ σ H _ I h=>wpAny_execs_nil ⟨σ,H,I,h⟩
theorem pss_cons (h1:PS X st t) (h2:PSs X rest u):PSs X (st::rest) (tSeq t u):=by
 intro pins s σ H D I h
 refine wpAny_execs_cons (thn (h1 pins s σ H { D with nx:=u D } I h) fun f s1 q=>?_)
 cases f with
 | next =>
  obtain ⟨σ',H',I',q⟩:=q
  exact h2 pins s1 σ' H' D I' q
 | ret v=>exact q
 | brk=>exact q
 | cont=>exact q
theorem pss_one (h1:PS X st t):PSs X [st] t:=by
 intro pins s σ H D I h
 refine wpAny_execs_cons (thn (h1 pins s σ H D I h) fun f s1 q=>?_)
 cases f with
 | next=>exact wpAny_execs_nil q
 | ret v=>exact q
 | brk=>exact q
 | cont=>exact q
theorem Inv.quiet {pins:List (Addr × Obj)} {σ:St} {H:Hp} {s:Shared} (I:Inv X pins σ H s):interactive X.env=false:=by simp [interactive,I.ok.kind]
noncomputable def tDrop (te:TE):TS:=fun D σ H=>te σ H fun _ H1=>D.nx σ H1
theorem ps_expr (he:PE X e te) (hs:swapsWith e none pos.line X.env=pure false:=by rfl):PS X (.Expr e pos) (tDrop te):=by
 intro pins s σ H D I h
 exact wpAny_Expr_any (thn (he pins s σ H _ I h) fun v s1 ⟨x,H1,I1,r1,q1⟩=>⟨σ,H1,I1,q1⟩) I.quiet hs
noncomputable def tRet (te:TE):TS:=fun D σ H=>te σ H D.rt
theorem ps_ret (he:PE X e te):PS X (.Return (some e) pos) (tRet te):=by
 intro pins s σ H D I h
 exact wpAny_Return_some (thn (he pins s σ H _ I h) fun v s1 ⟨x,H1,I1,r1,q1⟩=>⟨x,σ,H1,I1,r1,q1⟩)
noncomputable def tIfS (c:TT) (t u:TS):TS:=fun D σ H=>c σ H fun b H1=>if b=true then t D σ H1 else u D σ H1
theorem ps_if {c:Expr} {a b:List Stmt} {tc:TT} (hc:PT X c tc) (ha:PSs X a t) (hb:PSs X b u):PS X (.If c a b pos) (tIfS tc t u):=by
 intro pins s σ H D I h
 refine wpAny_If (thn (hc pins s σ H _ I h) fun d s1 ⟨H1,I1,q1⟩=>?_)
 cases d with
 | true=>exact ha pins s1 σ H1 D I1 q1
 | false=>exact hb pins s1 σ H1 D I1 q1
noncomputable def tNever:TS:=fun _ _ _=>False
theorem ps_never:PS X st tNever:=fun _ _ _ _ _ _ h=>h.elim
end
noncomputable abbrev TG:=V->St->Hp->(St->Hp->Prop)->Prop
noncomputable abbrev TGs:=List V->St->Hp->(St->Hp->Prop)->Prop
noncomputable def PG (X:Cx) (target:Expr) (t:TG):Prop :=
 ∀ (pins:List (Addr × Obj)) (s:Shared) (σ:St) (H:Hp) (v:V) (u:Value) (Q:St->Hp->Prop),Inv X pins σ H s->RelV v u->t v σ H Q ->
  wpAny (model X.prog X.w) X.A (assign target X.env u) (fun _ s'=>∃ σ' H',Inv X pins σ' H' s'/\Q σ' H') X.xe s
noncomputable def PGs (X:Cx) (ts:List Expr) (t:TGs):Prop :=
 ∀ (pins:List (Addr × Obj)) (s:Shared) (σ:St) (H:Hp) (vs:List V) (us:List Value) (Q:St->Hp->Prop),Inv X pins σ H s->Vals vs us->t vs σ H Q ->
  wpAny (model X.prog X.w) X.A (assignInOrder ((assignEach ts X.env).map (·.2)) us) (fun _ s'=>∃ σ' H',Inv X pins σ' H' s'/\Q σ' H') X.xe s
section
variable {X:Cx} {pos:Pos}
noncomputable def gName (i:Nat):TG:=fun v σ H Q=>Q (σ.set i (some v)) H
theorem pg_name {i:Nat} {x:Str} (hN:X.N.Nodup) (hi:X.N[i]?=some x) (hx:Loc X.env.scope x) (hf:X.fn x=true∨X.env.scope.names.lookup x=some .local:=by first | exact .inl rfl | exact .inr rfl | assumption):PG X (.Name x pos) (gName i):=by
 intro pins s σ H v u Q I r h
 exact wpAny_assign_Name (store_ok I hN hi hx r (fun s' I'=>⟨_,H,I',h⟩) hf)
noncomputable def gTup (K:PySem.W.Frag) (n:Nat) (t:TGs):TG:=fun v σ H Q=>∃ a xs,v=.ref a/\SqT K H a xs/\xs.length=n/\t xs σ H Q
theorem pg_tup {es:List Expr} {k:Nat} {t:TGs} {n:Nat} (hc:X.calm=true) (h:PGs X es t)
  (hn:(assignEach es X.env).length=n:=by rfl) (hst:(assignEach es X.env).findIdx? (·.1)=none:=by rfl):PG X (.Tuple es k pos) (gTup X.K n t):=by
 intro pins s σ H v u Q I r hw
 obtain ⟨a,xs,e1,hq,hl,hw⟩:=hw
 subst e1
 cases r
 obtain ⟨its,rv,ht,hz⟩:=I.tuple hq
 refine assign_Tuple_tuple (I.ok.hd hc) ht (by simp [hn,<- hl,rv.length]) hst fun h' hx=>?_
 have I1:Inv X pins σ H { s with heap:=h' }:=I.kept (t':=s.toks) fun b o e=>hx b o (Nat.ne_of_lt (Heap.lt_size e)) e
 exact h pins _ σ H xs _ Q I1 (by simpa using rv) hw
noncomputable def tAsg (te:TE) (g:TG):TS:=fun D σ H=>te σ H fun x H1=>g x σ H1 D.nx
theorem ps_set {i:Nat} {x:Str} {e:Expr} {te:TE} {pos':Pos} (hN:X.N.Nodup) (hi:X.N[i]?=some x) (hx:Loc X.env.scope x) (he:PE X e te) (hs:swapsWith e (some (.Name x pos')) pos.line X.env=pure false:=by rfl) (hf:X.fn x=true∨X.env.scope.names.lookup x=some .local:=by first | exact .inl rfl | exact .inr rfl | assumption) :
  PS X (.Assign [.Name x pos'] e pos) (tAsg te (gName i)):=by
 intro pins s σ H D I h
 refine wpAny_Assign_Name (thn (he pins s σ H _ I h) fun v s1 ⟨y,H1,I1,r1,q1⟩=>?_) hs
 exact store_ok I1 hN hi hx r1 (fun s2 I2=>⟨_,H1,I2,q1⟩) hf
end
section
variable {X:Cx} {pos:Pos}
end
structure It where
 go:Nat->Hp->Prop
 yld:Nat->Hp->V->Hp->Prop
 stop:Nat->Hp->Prop
noncomputable def FpOk (X:Cx) (pins:List (Addr × Obj)) (H:Hp) (b:Addr):Prop :=
 H b=none/\b≠X.env.locals/\b ∉ X.fs/\(b ∈ X.ex∨X.s₀.heap.objs.size<=b)/\(∀ x c,X.env.cells.lookup x=some c->c≠b)/\∀ p ∈ X.pn++pins,p.1≠b
theorem Inv.fpOk {X:Cx} {pins:List (Addr × Obj)} {σ:St} {H H':Hp} {s:Shared} {b:Addr} (I:Inv X pins σ H s) (hb:s.heap.objs.size<=b) (hn:H' b=none):FpOk X pins H' b:=by
 refine ⟨hn,Nat.ne_of_gt (Nat.lt_of_lt_of_le I.lt hb),I.nofs hb,.inr (Nat.le_trans I.sz hb),fun x c e z=>?_,fun p hp z=>?_⟩
 ·obtain ⟨v,q⟩:=I.cell x c e
  exact absurd (Nat.lt_of_lt_of_le q.lt (by rw [z]; exact hb)) (Nat.lt_irrefl _)
 ·exact absurd (Nat.lt_of_lt_of_le (Heap.lt_size (I.pin p hp).1) (by rw [z]; exact hb)) (Nat.lt_irrefl _)
structure Turn (P:Program) (w:World) (K:PySem.W.Frag) (tg:Expr) (J:It) (fp:List Addr) (it:Addr) (tn:Nat->Heap->Prop):Prop where
 mem:it ∈ fp
 obj:∀ i h,tn i h->∀ b ∈ fp,∃ o,h.get? b=some o/\∀ v,o.data≠.cell v
 keep:∀ i h h',tn i h->(∀ b ∈ fp,∀ o,h.get? b=some o->h'.get? b=some o)->tn i h'
 item:∀ (X:Cx),X.prog=P->X.w=w->X.K=K->X.calm=true->∀ (i:Nat) (pins:List (Addr × Obj)) (s:Shared) (σ:St) (H:Hp) (E:Value->Shared->Prop),Inv X pins σ H s->(∀ b ∈ fp,FpOk X pins H b)->tn i s.heap->J.go i H ->
  wpAny (model P w) X.A (pyNext (.ref it)) (fun r s1=>∃ u,r=some u /\
   wpAny (model P w) X.A (letOwnedTupleGo tg (.ref it) u) (fun _ s2=>∃ x H',Inv X pins σ H' s2/\RelV x u/\J.yld i H x H'/\tn (i+1) s2.heap/\∀ b ∈ fp,H' b=none) E s1) E s
 done:∀ (X:Cx),X.prog=P->X.w=w->X.K=K->X.calm=true->∀ (i:Nat) (pins:List (Addr × Obj)) (s:Shared) (σ:St) (H:Hp) (E:Value->Shared->Prop),Inv X pins σ H s->(∀ b ∈ fp,FpOk X pins H b)->tn i s.heap->J.stop i H ->
  wpAny (model P w) X.A (pyNext (.ref it)) (fun r s1=>r=none/\Inv X pins σ H s1) E s
 self:∀ (A:Around) (i:Nat) (s:Shared) (Q:Value->Shared->Prop) (E:Value->Shared->Prop),tn i s.heap->Q (.ref it) s->wpAny (model P w) A (pyIter (.ref it)) Q E s
noncomputable abbrev TI:=St->Hp->(It->Hp->Prop)->Prop
noncomputable def PIE (X:Cx) (pins:List (Addr × Obj)) (σ:St) (tg:Expr) (R:It->Hp->Prop) (itv:Value) (s2:Shared):Prop :=
 ∃ (it:Addr) (fp:List Addr) (tn:Nat->Heap->Prop) (J:It) (H':Hp),itv=.ref it/\Inv X pins σ H' s2/\Turn X.prog X.w X.K tg J fp it tn/\tn 0 s2.heap/\(∀ b ∈ fp,FpOk X pins H' b)/\R J H'
noncomputable def PI (X:Cx) (tg iter:Expr) (wi:TI):Prop :=
 ∀ (pins:List (Addr × Obj)) (s:Shared) (σ:St) (H:Hp) (R:It->Hp->Prop),Inv X pins σ H s->wi σ H R ->
  wpAny (model X.prog X.w) X.A (eval iter X.env) (fun v s1=>wpAny (model X.prog X.w) X.A (pyIter v) (PIE X pins σ tg R) X.xe s1) X.xe s
theorem go_of {M:Model} {A:Around} {E:Value->Shared->Prop} {s:Shared} {tg:Expr} {it:Addr} {u:Value} {o:Obj} {n:String} {vs:Array Value} {Q:Unit->Shared->Prop} (ho:s.heap.get? it=some o) (hc:o.cls=.type n) (hd:o.data=.fields vs)
    (hn:["enumerate","zip","dict_itemiterator","dict_reverseitemiterator","odict_iterator","itertools.zip_longest","itertools.pairwise"].contains n=false) (hQ:Q () s):wpAny M A (letOwnedTupleGo tg (.ref it) u) Q E s:=by
  unfold letOwnedTupleGo
  cases tg<;>first
    | exact wpAny_pure hQ
    | (cases u<;>first
        | exact wpAny_pure hQ
        | (refine wpAny_bind (wpAny_load ho ?_)
           rw [hc,hd]
           show wpAny M A (if (["enumerate","zip","dict_itemiterator","dict_reverseitemiterator","odict_iterator","itertools.zip_longest","itertools.pairwise"].contains n && vs[0]? == some (rawInt _))=true then _ else _) Q E s
           rw [if_neg (by intro h; rw [hn,Bool.false_and] at h; cases h)]
           exact wpAny_pure hQ))
noncomputable def Itl (K:PySem.W.Frag) (a:Addr):It :=
 ⟨fun i H=>∃ xs x,SqL K H a xs/\xs[i]?=some x,fun i H x H'=>H'=H/\∀ xs,SqL K H a xs->xs[i]?=some x,fun i H=>∃ xs,SqL K H a xs/\xs.length<=i⟩
noncomputable def Itt (K:PySem.W.Frag) (a:Addr):It :=
 ⟨fun i H=>∃ xs x,SqT K H a xs/\xs[i]?=some x,fun i H x H'=>H'=H/\∀ xs,SqT K H a xs->xs[i]?=some x,fun i H=>∃ xs,SqT K H a xs/\xs.length<=i⟩
noncomputable def Itr (lo:Int) (n:Nat):It:=⟨fun i _=>i < n,fun i H x H'=>H'=H/\x=.int (lo+i),fun i _=>n<=i⟩
theorem turn_list {P:Program} {w:World} {K:PySem.W.Frag} {tg:Expr} (a it:Addr):Turn P w K tg (Itl K a) [it] it (fun i h=>h.IsListIter it a i) where
 mem:=by simp
 obj:=fun i h st b hb=>by
  have e:b=it:=by simpa using hb
  subst e
  obtain ⟨o,e,c,d⟩:=st
  exact ⟨o,e,fun v z=>by rw [d] at z; cases z⟩
 keep:=fun i h h' st k=>st.at fun o e=>k it (by simp) o e
 item:=by
  intro X hP hw hK hc i pins s σ H E I hf st hg
  subst hP hw hK
  obtain ⟨xs,x,hq,hx⟩:=hg
  obtain ⟨its,rv,p,hz⟩:=I.list hq
  obtain ⟨u,hu,ru⟩:=rv.get hx
  obtain ⟨f0,f1,f2,f3,f4,f5⟩:=hf it (by simp)
  refine wpAny_pyNext_list_item st p.isList (x:=u) (by simpa using hu) fun h' st' sb=>?_
  have I1:Inv X pins σ H { s with heap:=h' }:=I.turned (t':=s.toks) (fun b o hb e=>(sb.2 b hb).trans e) f0 f1 f3 f4 f5
  obtain ⟨o,e,c,d⟩:=id st'
  exact ⟨u,rfl,go_of (s:={ s with heap:=h' }) e c d (by decide) ⟨x,H,I1,ru,⟨rfl,fun ys hy=>by rw [I.list_inj hy hq]; exact hx⟩,st',fun b hb=>(hf b hb).1⟩⟩
 done:=by
  intro X hP hw hK hc i pins s σ H E I hf st hg
  subst hP hw hK
  obtain ⟨xs,hq,hx⟩:=hg
  obtain ⟨its,rv,p,hz⟩:=I.list hq
  obtain ⟨f0,f1,f2,f3,f4,f5⟩:=hf it (by simp)
  have hl:=rv.length
  exact wpAny_pyNext_list_end (I.ok.hd hc) st p.isList (by simp; omega) fun h' eb=>⟨rfl,I.turned (t':=s.toks) (fun b o hb e=>eb b o hb e) f0 f1 f3 f4 f5⟩
 self:=fun _ _ _ _ _ st h=>wpAny_pyIter_listiter st h
theorem turn_tuple {P:Program} {w:World} {K:PySem.W.Frag} {tg:Expr} (a it:Addr):Turn P w K tg (Itt K a) [it] it (fun i h=>h.IsTupleIter it a i) where
 mem:=by simp
 obj:=fun i h st b hb=>by
  have e:b=it:=by simpa using hb
  subst e
  obtain ⟨o,e,c,d⟩:=st
  exact ⟨o,e,fun v z=>by rw [d] at z; cases z⟩
 keep:=fun i h h' st k=>st.at fun o e=>k it (by simp) o e
 item:=by
  intro X hP hw hK hc i pins s σ H E I hf st hg
  subst hP hw hK
  obtain ⟨xs,x,hq,hx⟩:=hg
  obtain ⟨its,rv,p,hz⟩:=I.tuple hq
  obtain ⟨u,hu,ru⟩:=rv.get hx
  obtain ⟨f0,f1,f2,f3,f4,f5⟩:=hf it (by simp)
  refine wpAny_pyNext_tuple_item st (show s.heap.IsTuple a its.toArray from p) (x:=u) (by simpa using hu) fun h' st' sb=>?_
  have I1:Inv X pins σ H { s with heap:=h' }:=I.turned (t':=s.toks) (fun b o hb e=>(sb.2 b hb).trans e) f0 f1 f3 f4 f5
  obtain ⟨o,e,c,d⟩:=id st'
  exact ⟨u,rfl,go_of (s:={ s with heap:=h' }) e c d (by decide) ⟨x,H,I1,ru,⟨rfl,fun ys hy=>by rw [I.tuple_inj hy hq]; exact hx⟩,st',fun b hb=>(hf b hb).1⟩⟩
 done:=by
  intro X hP hw hK hc i pins s σ H E I hf st hg
  subst hP hw hK
  obtain ⟨xs,hq,hx⟩:=hg
  obtain ⟨its,rv,p,hz⟩:=I.tuple hq
  obtain ⟨f0,f1,f2,f3,f4,f5⟩:=hf it (by simp)
  have hl:=rv.length
  exact wpAny_pyNext_tuple_end (I.ok.hd hc) st (show s.heap.IsTuple a its.toArray from p) (by simp; omega) fun h' eb=>⟨rfl,I.turned (t':=s.toks) (fun b o hb e=>eb b o hb e) f0 f1 f3 f4 f5⟩
 self:=fun _ _ _ _ _ st h=>wpAny_pyIter_tupleiter st h
theorem turn_range {P:Program} {w:World} {K:PySem.W.Frag} {tg:Expr} (it:Addr) (lo:Int) (n:Nat):Turn P w K tg (Itr lo n) [it] it (fun i h=>IsRangeIter h it (lo+(i:Nat) * 1) ((n:Int) - (i:Nat)) 1) where
 mem:=by simp
 obj:=fun i h st b hb=>by
  have e:b=it:=by simpa using hb
  subst e
  exact ⟨_,st,fun v z=>by
   have z':Data.fields _=Data.cell v:=z
   cases z'⟩
 keep:=fun i h h' st k=>k it (by simp) _ st
 item:=by
  intro X hP hw hK hc i pins s σ H E I hf st hg
  subst hP hw hK
  obtain ⟨f0,f1,f2,f3,f4,f5⟩:=hf it (by simp)
  have W:=Walks.range (prog:=X.prog) (w:=X.w) (I.ok.hd hc) it lo 1 n
  refine W.item i s _ _ hg st fun v h' tk hv st' kk=>?_
  obtain ⟨t,rfl⟩:=hv
  have I1:Inv X pins σ H { s with heap:=h',toks:=tk }:=I.turned (fun b o hb e=>kk b o (by simpa using hb) e) f0 f1 f3 f4 f5
  refine ⟨_,rfl,go_of (s:={ s with heap:=h',toks:=tk }) (n:="range_iterator") st' rfl rfl (by decide) ⟨.int (lo+i),H,I1,⟨t,?_⟩,⟨rfl,rfl⟩,st',fun b hb=>(hf b hb).1⟩⟩
  rw [Int.mul_one]
 done:=by
  intro X hP hw hK hc i pins s σ H E I hf st hg
  subst hP hw hK
  obtain ⟨f0,f1,f2,f3,f4,f5⟩:=hf it (by simp)
  exact wpAny_pyNext_range_end (I.ok.hd hc) st (by have:n<=i:=hg; omega) fun h' eb=>⟨rfl,I.turned (t':=s.toks) (fun b o hb e=>eb b o hb e) f0 f1 f3 f4 f5⟩
 self:=fun _ _ _ _ _ st h=>wpAny_pyIter_rangeiter st h
end L2
namespace L2
open PySem PySem.Spec PyProof.Rows
section
variable {X:Cx} {tg:Expr}
theorem range_it {pins:List (Addr × Obj)} {σ:St} {H:Hp} {s:Shared} {R:It->Hp->Prop} {E:Value->Shared->Prop} {lo hi:Int} {t u v:Tok} {tk:Nat} (I:Inv X pins σ H s) (h1:-(2 ^ 62)<=lo) (h2:lo < 2 ^ 62) (h3:-(2 ^ 62)<=hi) (h4:hi < 2 ^ 62)
  (q:R (Itr lo (hi - lo).toNat) H):wpAny (model X.prog X.w) X.A (pyIter (.ref s.heap.objs.size)) (PIE X pins σ tg R) E { s with heap:=s.heap.push { cls:=.type "range",data:=.fields #[.int lo t,.int hi u,.int 1 v] },toks:=tk }:=by
 refine wpAny_pyIter_range (IsRange.new ..) (small_one h1 h2 h3 h4) ?_
 have I1:Inv X pins σ H { s with heap:=s.heap.push { cls:=.type "range",data:=.fields #[.int lo t,.int hi u,.int 1 v] },toks:=tk }:=I.kept fun b o e=>Heap.get?_push_of_some _ e
 refine ⟨(s.heap.push { cls:=.type "range",data:=.fields #[.int lo t,.int hi u,.int 1 v] }).objs.size,[(s.heap.push { cls:=.type "range",data:=.fields #[.int lo t,.int hi u,.int 1 v] }).objs.size],_,_,H,rfl,
  I1.kept (t':=tk) fun b o e=>Heap.get?_push_of_some _ e,turn_range _ lo (hi - lo).toNat,?_,fun b hb=>?_,q⟩
 ·have e1:lo+((0:Nat):Int) * 1=lo:=by simp
  have e2:(((hi - lo).toNat:Nat):Int) - ((0:Nat):Int)=Builtin.Range.rangeSize lo hi 1:=by rw [rangeSize_one]; split<;>omega
  show IsRangeIter _ _ (lo+((0:Nat):Int) * 1) ((((hi - lo).toNat:Nat):Int) - ((0:Nat):Int)) 1
  rw [e1,e2]
  exact Heap.get?_push_size _ rfl
 ·have e:b=(s.heap.push { cls:=.type "range",data:=.fields #[.int lo t,.int hi u,.int 1 v] }).objs.size:=by simpa using hb
  subst e
  exact I1.fpOk (Nat.le_refl _) (I1.hok.fresh (Nat.le_refl _))
noncomputable def tFor (wi:TI) (g:TG) (tb:TS):TS:=fun D σ H=>wi σ H fun J H1=>∃ W:Nat->Nat->St->Hp->Prop,(∃ m,W 0 m σ H1)/\∀ i m σ H,W i m σ H ->
 (J.stop i H/\D.nx σ H)∨(J.go i H/\∃ N:St->Hp->Prop,(∀ σ' H',N σ' H'->∃ m',m' < m/\W (i+1) m' σ' H')/\∀ x H',J.yld i H x H'->g x σ H' fun σ2 H2=>tb { D with nx:=N,ct:=N,bk:=D.nx } σ2 H2)
noncomputable def pinsAt (fp:List Addr) (h:Heap):List (Addr × Obj):=fp.filterMap fun b=>(h.get? b).map fun o=>(b,o)
theorem mem_pinsAt {fp:List Addr} {h:Heap} {b:Addr} {o:Obj} (hb:b ∈ fp) (e:h.get? b=some o):(b,o) ∈ pinsAt fp h:=List.mem_filterMap.mpr ⟨b,hb,by rw [e]; rfl⟩
theorem of_pinsAt {fp:List Addr} {h:Heap} {p:Addr × Obj} (hp:p ∈ pinsAt fp h):p.1 ∈ fp/\h.get? p.1=some p.2:=by
 obtain ⟨b,hb,e⟩:=List.mem_filterMap.mp hp
 cases q:h.get? b with
 | none=>rw [q] at e; cases e
 | some o =>
  rw [q] at e
  have e':(b,o)=p:=Option.some.inj e
  subst e'
  exact ⟨hb,q⟩
theorem Inv.pinned {pins:List (Addr × Obj)} {σ:St} {H:Hp} {s:Shared} {fp:List Addr} (I:Inv X pins σ H s) (hf:∀ b ∈ fp,FpOk X pins H b) (ho:∀ b ∈ fp,∃ o,s.heap.get? b=some o/\∀ v,o.data≠.cell v):Inv X (pins++pinsAt fp s.heap) σ H s :=
 I.pins_of fun p hp=>(List.mem_append.mp hp).elim (fun z=>I.pin p (List.mem_append_right _ z)) fun z=>by
  obtain ⟨hb,e⟩:=of_pinsAt z
  obtain ⟨f0,f1,f2,_⟩:=hf p.1 hb
  obtain ⟨o,e',d⟩:=ho p.1 hb
  rw [e] at e'; cases e'
  exact ⟨e,f0,f1,f2,d⟩
theorem Inv.unpinned {pins pl:List (Addr × Obj)} {σ:St} {H:Hp} {s:Shared} (I:Inv X (pins++pl) σ H s):Inv X pins σ H s:=I.pins_of fun p hp=>I.pin p (List.mem_append_right _ (List.mem_append_left _ hp))
theorem ps_for {iter:Expr} {body:List Stmt} {wi:TI} {g:TG} {tb:TS} {pos:Pos} (hp:PassesOwn (model X.prog X.w) X.A X.env X.xe) (hc:X.calm=true) (hi:PI X tg iter wi) (hg:PG X tg g) (hb:PSs X body tb)
  (hs:∀ x,foldedSetIterable iter X.env x=pure x:=by intro _; rfl):PS X (.For tg iter body [] pos) (tFor wi g tb):=by
 intro pins s σ H D I h
 refine wpAny_For (thn (hi pins s σ H _ I h) fun v s1 h1=>thn h1 fun itv s2 h2=>?_) hs
 obtain ⟨it,fp,tn,J,H2,e,I2,T,st2,f2,W,⟨m0,w0⟩,turn⟩:=h2
 subst e
 have stat:∀ {H':Hp},(∀ b ∈ fp,H' b=none)->∀ b ∈ fp,FpOk X pins H' b:=fun hn b hb=>⟨hn b hb,(f2 b hb).2⟩
 refine codeAny_forLoop_any (fun n s'=>∃ i σ' H',Inv X pins σ' H' s'/\tn i s'.heap/\(∀ b ∈ fp,H' b=none)/\W i n σ' H') ?_ m0 ⟨0,σ,H2,I2,st2,fun b hb=>(f2 b hb).1,w0⟩
 rintro n s3 ⟨i,σ3,H3,I3,st3,fr3,w3⟩
 rcases turn i n σ3 H3 w3 with ⟨stop,qn⟩ | ⟨go,N,hN,step⟩
 ·refine wpAny_passesOwn hp (thn (T.done X rfl rfl rfl hc i pins s3 σ3 H3 X.xe I3 (stat fr3) st3 stop) fun r s4 ⟨hr,I4⟩=>?_)
  subst hr
  exact wpAny_execs_nil ⟨σ3,H3,I4,qn⟩
 ·refine wpAny_passesOwn hp (thn (T.item X rfl rfl rfl hc i pins s3 σ3 H3 X.xe I3 (stat fr3) st3 go) fun r s4 ⟨u,hr,h4⟩=>?_)
  subst hr
  refine wpAny_passesOwn hp (thn h4 fun _ s5 ⟨x,H5,I5,r5,y5,st5,fr5⟩=>?_)
  have I5':=I5.pinned (stat fr5) (T.obj _ _ st5)
  refine wpAny_passesOwn hp (thn (hg _ s5 σ3 H5 x u _ I5' r5 (step x H5 y5)) fun _ s6 ⟨σ6,H6,I6,q6⟩=>?_)
  refine wpAny_passesOwn hp (thn (hb _ s6 σ6 H6 _ I6 q6) fun f s7 q7=>?_)
  have again:∀ {σ7:St} {H7:Hp},Inv X (pins++pinsAt fp s5.heap) σ7 H7 s7->N σ7 H7->∃ m,m < n/\∃ i σ' H',Inv X pins σ' H' s7/\tn i s7.heap/\(∀ b ∈ fp,H' b=none)/\W i m σ' H':=fun {σ7 H7} I7 n7=>by
   obtain ⟨m',hm,w7⟩:=hN σ7 H7 n7
   refine ⟨m',hm,i+1,σ7,H7,I7.unpinned,T.keep _ _ _ st5 fun b hb o e=>(I7.pin (b,o) (List.mem_append_right _ (List.mem_append_right _ (mem_pinsAt hb e)))).1,fun b hb=>?_,w7⟩
   obtain ⟨o,e,d⟩:=T.obj _ _ st5 b hb
   exact (I7.pin (b,o) (List.mem_append_right _ (List.mem_append_right _ (mem_pinsAt hb e)))).2.1
  cases f with
  | next=>obtain ⟨σ7,H7,I7,n7⟩:=q7; exact again I7 n7
  | cont=>obtain ⟨σ7,H7,I7,n7⟩:=q7; exact again I7 n7
  | brk=>obtain ⟨σ7,H7,I7,q7⟩:=q7; exact ⟨σ7,H7,I7.unpinned,q7⟩
  | ret v=>obtain ⟨x7,σ7,H7,I7,r7,q7⟩:=q7; exact ⟨x7,σ7,H7,I7.unpinned,r7,q7⟩
end
end L2
namespace L2
open PySem PySem.Spec PyProof.Rows
noncomputable abbrev R2:=V->V->Hp->VK->Prop
noncomputable def OpR (X:Cx) (f:Value->Value->Sem Value) (r:R2):Prop :=
 ∀ (pins:List (Addr × Obj)) (s:Shared) (σ:St) (H:Hp) (x y:V) (v u:Value) (Q:VK),Inv X pins σ H s->RelV x v->RelV y u->r x y H Q ->
  wpAny (model X.prog X.w) X.A (f v u) (EP X pins σ Q) X.xe s
noncomputable def CallR (X:Cx) (f:Value) (r:List V->Hp->VK->Prop):Prop :=
 ∀ (pins:List (Addr × Obj)) (s:Shared) (σ:St) (H:Hp) (xs:List V) (us:List Value) (Q:VK),Inv X pins σ H s->Vals xs us->r xs H Q ->
  wpAny (model X.prog X.w) X.A (call f us) (EP X pins σ Q) X.xe s
noncomputable def TruR (X:Cx) (r:V->Hp->(Bool->Hp->Prop)->Prop):Prop :=
 ∀ (pins:List (Addr × Obj)) (s:Shared) (σ:St) (H:Hp) (x:V) (v:Value) (Q:Bool->Hp->Prop),Inv X pins σ H s->RelV x v->r x H Q ->
  wpAny (model X.prog X.w) X.A (truthy v) (TP X pins σ Q) X.xe s
noncomputable def tOp (r:R2) (ta tb:TE):TE:=fun σ H Q=>ta σ H fun x H1=>tb σ H1 fun y H2=>r x y H2 Q
noncomputable def rI (C:Int->Int->Prop) (g:Int->Int->V):R2:=fun x y H Q=>∃ i j,x=.int i/\y=.int j/\C i j/\Q (g i j) H
noncomputable def rI0 (g:Int->Int->V):R2:=fun x y H Q=>∃ i j,x=.int i/\y=.int j/\Q (g i j) H
section
variable {X:Cx} {a b c:Expr} {ta tb tc:TE} {pos:Pos}
theorem binT (ha:PE X a ta) (hb:PE X b tb) {pins:List (Addr × Obj)} {s:Shared} {σ:St} {H:Hp} {R:V->V->Hp->Prop} (I:Inv X pins σ H s)
  (h:ta σ H fun x H1=>tb σ H1 fun y H2=>R x y H2) {Q:Value->Shared->Prop} {f:Value->Value->Sem Value}
  (hf:∀ v u s2 x y H2,Inv X pins σ H2 s2->RelV x v->RelV y u->R x y H2->wpAny (model X.prog X.w) X.A (f v u) Q X.xe s2) :
  wpAny (model X.prog X.w) X.A (eval a X.env) (fun v s₁=>wpAny (model X.prog X.w) X.A (eval b X.env) (fun u s₂=>wpAny (model X.prog X.w) X.A (f v u) Q X.xe s₂) X.xe s₁) X.xe s:=by
 refine thn (ha pins s σ H _ I h) fun v s1 ⟨x,H1,I1,r1,q1⟩=>?_
 refine thn (hb pins s1 σ H1 _ I1 q1) fun u s2 ⟨y,H2,I2,r2,q2⟩=>?_
 exact hf v u s2 x y H2 I2 r1 r2 q2
theorem pe_op {op:Operator} {r:R2} (ho:OpR X (binaryOp op) r) (ha:PE X a ta) (hb:PE X b tb):PE X (.BinOp a op b pos) (tOp r ta tb):=by
 intro pins s σ H Q I h
 exact wpAny_BinOp (binT ha hb I h fun v u s2 x y H2 I2 rx ry q=>ho pins s2 σ H2 x y v u Q I2 rx ry q)
theorem opI {f:Value->Value->Sem Value} {C:Int->Int->Prop} {g:Int->Int->Int}
  (rule:∀ (i j:Int) (t u:Tok) (s:Shared) (Q:Value->Shared->Prop) (E:Value->Shared->Prop),C i j->Q (.int (g i j) s.toks) { s with toks:=s.toks+1 }->wpAny (model X.prog X.w) X.A (f (.int i t) (.int j u)) Q E s) :
  OpR X f (rI C fun i j=>.int (g i j)):=by
 intro pins s σ H x y v u Q I rx ry h
 obtain ⟨i,j,rfl,rfl,hc,q⟩:=h
 obtain ⟨t,rfl⟩:=rx
 obtain ⟨t',rfl⟩:=ry
 exact rule i j t t' s _ _ hc ⟨.int (g i j),H,I.tok _,⟨_,rfl⟩,q⟩
theorem opI0 {f:Value->Value->Sem Value} {g:Int->Int->Int}
  (rule:∀ (i j:Int) (t u:Tok) (s:Shared) (Q:Value->Shared->Prop) (E:Value->Shared->Prop),Q (.int (g i j) s.toks) { s with toks:=s.toks+1 }->wpAny (model X.prog X.w) X.A (f (.int i t) (.int j u)) Q E s) :
  OpR X f (rI0 fun i j=>.int (g i j)):=by
 intro pins s σ H x y v u Q I rx ry h
 obtain ⟨i,j,rfl,rfl,q⟩:=h
 obtain ⟨t,rfl⟩:=rx
 obtain ⟨t',rfl⟩:=ry
 exact rule i j t t' s _ _ ⟨.int (g i j),H,I.tok _,⟨_,rfl⟩,q⟩
theorem opB0 {f:Value->Value->Sem Value} {g:Int->Int->Bool}
  (rule:∀ (i j:Int) (t u:Tok) (s:Shared) (Q:Value->Shared->Prop) (E:Value->Shared->Prop),Q (.bool (g i j)) s->wpAny (model X.prog X.w) X.A (f (.int i t) (.int j u)) Q E s) :
  OpR X f (rI0 fun i j=>.bl (g i j)):=by
 intro pins s σ H x y v u Q I rx ry h
 obtain ⟨i,j,rfl,rfl,q⟩:=h
 obtain ⟨t,rfl⟩:=rx
 obtain ⟨t',rfl⟩:=ry
 exact rule i j t t' s _ _ ⟨.bl (g i j),H,I,rfl,q⟩
noncomputable def CDiv (i j:Int):Prop:=0 < j/\j < 1073741824
noncomputable def CPow (i j:Int):Prop:=0<=j/\j<=1000000/\i.natAbs < 2 ^ 64
noncomputable def CMul (i j:Int):Prop:=(-(2 ^ 64) < i/\i < 2 ^ 64)∨(-(2 ^ 64) < j/\j < 2 ^ 64)
theorem CMul.ok {i j:Int} (h:CMul i j):IntMulOk i j:=by
 rcases h with ⟨h1,h2⟩ | ⟨h1,h2⟩
 ·exact .of_left (intBits_le_64 h1 h2)
 ·exact .of_right (intBits_le_64 h1 h2)
theorem op_add:OpR X (binaryOp .Add) (rI0 fun i j=>.int (i+j)):=opI0 fun _ _ _ _ _ _ _ q=>add_int q
theorem op_sub:OpR X (binaryOp .Sub) (rI0 fun i j=>.int (i - j)):=opI0 fun _ _ _ _ _ _ _ q=>sub_int q
theorem op_mul:OpR X (binaryOp .Mult) (rI CMul fun i j=>.int (i * j)):=opI fun _ _ _ _ _ _ _ hc q=>mul_int q hc.ok
theorem op_fdiv:OpR X (binaryOp .FloorDiv) (rI CDiv fun i j=>.int (i / j)):=opI fun i j _ _ _ _ _ hc q=>by
 have h1:(0:Int) < j:=hc.1
 have h2:j < 1073741824:=hc.2
 exact floordiv_int (by omega) (by rw [Int.fdiv_eq_ediv_of_nonneg i (by omega)]; exact q) (.inl (PyProof.noPylong_small (by omega)))
theorem op_mod:OpR X (binaryOp .Mod) (rI (fun _ j=>0 < j) fun i j=>.int (i % j)):=opI fun i j _ _ _ _ _ hc q=>by
 have h1:(0:Int) < j:=hc
 exact mod_int' (by omega) (by rw [Int.fmod_eq_emod_of_nonneg i (by omega)]; exact q)
theorem op_pow:OpR X (binaryOp .Pow) (rI CPow fun i j=>.int (i ^ j.toNat)):=opI fun _ _ _ _ _ _ _ hc q=>pow_int_small hc.1 hc.2.1 hc.2.2 q
end
noncomputable def scal:V->V->Bool
 | .non,.non=>true | .non,.int _=>true | .int _,.non=>true | .non,.bl _=>true | .bl _,.non=>true | .non,.str _=>true | .str _,.non=>true
 | .int _,.int _=>true | .bl _,.bl _=>true | .str _,.str _=>true | .byt _,.byt _=>true
 | .int _,.str _=>true | .str _,.int _=>true | .bl _,.str _=>true | .str _,.bl _=>true
 | _,_=>false
noncomputable def rEq:R2:=fun x y H Q=>scal x y=true/\Q (.bl (decide (x=y))) H
noncomputable def rNe:R2:=fun x y H Q=>scal x y=true/\Q (.bl (!decide (x=y))) H
theorem dec_int {i j:Int}:decide (V.int i=V.int j)=(i == j):=by
 rw [Bool.eq_iff_iff]
 simp
theorem dec_bl {i j:Bool}:decide (V.bl i=V.bl j)=(i == j):=by
 rw [Bool.eq_iff_iff]
 simp
theorem dec_str {i j:Str}:decide (V.str i=V.str j)=(i == j):=by
 rw [Bool.eq_iff_iff]
 simp
theorem dec_byt {i j:Array UInt8}:decide (V.byt i=V.byt j)=(i.toList == j.toList):=by
 rw [Bool.eq_iff_iff]
 cases i
 cases j
 simp
section
variable {X:Cx} {a b c:Expr} {ta tb tc:TE} {pos:Pos}
theorem fin_bl {pins:List (Addr × Obj)} {σ:St} {H:Hp} {s:Shared} {Q:VK} {k k':Bool} (I:Inv X pins σ H s) (q:Q (.bl k) H) (e:k=k'):EP X pins σ Q (.bool k') s:=by
 subst e
 exact ⟨.bl k,H,I,rfl,q⟩
theorem op_eq:OpR X (compareOp .Eq) rEq:=by
 intro pins s σ H x y v u Q I rx ry h
 obtain ⟨hs,q⟩:=h
 cases x with
 | non =>
  cases rx
  cases y with
  | non=>cases ry; exact PySem.EqNone.eq_none_none (fin_bl I q (by simp))
  | bl j=>cases ry; exact PySem.EqNone.eq_none_bool (fin_bl I q (by simp))
  | int j=>obtain ⟨t',rfl⟩:=ry; exact PySem.EqNone.eq_none_int (fin_bl I q (by simp))
  | str j=>obtain ⟨t',rfl⟩:=ry; exact PySem.EqNone.eq_none_str (fin_bl I q (by simp))
  | _=>exact absurd (show false=true from hs) Bool.false_ne_true
 | bl i =>
  cases rx
  cases y with
  | non=>cases ry; exact PySem.EqNone.eq_bool_none (fin_bl I q (by simp))
  | bl j=>cases ry; exact eq_bool (fin_bl I q dec_bl)
  | str j=>obtain ⟨t',rfl⟩:=ry; exact PySem.EqMixed.eq_bool_str (fin_bl I q (by simp))
  | _=>exact absurd (show false=true from hs) Bool.false_ne_true
 | int i =>
  obtain ⟨t,rfl⟩:=rx
  cases y with
  | non=>cases ry; exact PySem.EqNone.eq_int_none (fin_bl I q (by simp))
  | int j=>obtain ⟨t',rfl⟩:=ry; exact eq_int (fin_bl I q dec_int)
  | str j=>obtain ⟨t',rfl⟩:=ry; exact PySem.EqMixed.eq_int_str (fin_bl I q (by simp))
  | _=>exact absurd (show false=true from hs) Bool.false_ne_true
 | str i =>
  obtain ⟨t,rfl⟩:=rx
  cases y with
  | non=>cases ry; exact PySem.EqNone.eq_str_none (fin_bl I q (by simp))
  | bl j=>cases ry; exact PySem.EqMixed.eq_str_bool (fin_bl I q (by simp))
  | int j=>obtain ⟨t',rfl⟩:=ry; exact PySem.EqMixed.eq_str_int (fin_bl I q (by simp))
  | str j=>obtain ⟨t',rfl⟩:=ry; exact eq_str (fin_bl I q dec_str)
  | _=>exact absurd (show false=true from hs) Bool.false_ne_true
 | byt i =>
  obtain ⟨t,rfl⟩:=rx
  cases y with
  | byt j=>obtain ⟨t',rfl⟩:=ry; exact PySem.W.eq_bytes (fin_bl I q dec_byt)
  | _=>exact absurd (show false=true from hs) Bool.false_ne_true
 | _=>cases y<;>exact absurd (show false=true from hs) Bool.false_ne_true
theorem op_ne:OpR X (compareOp .NotEq) rNe:=by
 intro pins s σ H x y v u Q I rx ry h
 obtain ⟨hs,q⟩:=h
 cases x with
 | non =>
  cases rx
  cases y with
  | non=>cases ry; exact PySem.EqNone.ne_none_none (fin_bl I q (by simp))
  | bl j=>cases ry; exact PySem.EqNone.ne_none_bool (fin_bl I q (by simp))
  | int j=>obtain ⟨t',rfl⟩:=ry; exact PySem.EqNone.ne_none_int (fin_bl I q (by simp))
  | str j=>obtain ⟨t',rfl⟩:=ry; exact PySem.EqNone.ne_none_str (fin_bl I q (by simp))
  | _=>exact absurd (show false=true from hs) Bool.false_ne_true
 | bl i =>
  cases rx
  cases y with
  | non=>cases ry; exact PySem.EqNone.ne_bool_none (fin_bl I q (by simp))
  | bl j=>cases ry; exact ne_bool (fin_bl I q (congrArg not dec_bl))
  | str j=>obtain ⟨t',rfl⟩:=ry; exact PySem.EqMixed.ne_bool_str (fin_bl I q (by simp))
  | _=>exact absurd (show false=true from hs) Bool.false_ne_true
 | int i =>
  obtain ⟨t,rfl⟩:=rx
  cases y with
  | non=>cases ry; exact PySem.EqNone.ne_int_none (fin_bl I q (by simp))
  | int j=>obtain ⟨t',rfl⟩:=ry; exact ne_int (fin_bl I q (congrArg not dec_int))
  | str j=>obtain ⟨t',rfl⟩:=ry; exact PySem.EqMixed.ne_int_str (fin_bl I q (by simp))
  | _=>exact absurd (show false=true from hs) Bool.false_ne_true
 | str i =>
  obtain ⟨t,rfl⟩:=rx
  cases y with
  | non=>cases ry; exact PySem.EqNone.ne_str_none (fin_bl I q (by simp))
  | bl j=>cases ry; exact PySem.EqMixed.ne_str_bool (fin_bl I q (by simp))
  | int j=>obtain ⟨t',rfl⟩:=ry; exact PySem.EqMixed.ne_str_int (fin_bl I q (by simp))
  | str j=>obtain ⟨t',rfl⟩:=ry; exact ne_str (fin_bl I q (congrArg not dec_str))
  | _=>exact absurd (show false=true from hs) Bool.false_ne_true
 | byt i =>
  obtain ⟨t,rfl⟩:=rx
  cases y with
  | byt j=>obtain ⟨t',rfl⟩:=ry; exact PySem.W.ne_bytes (fin_bl I q (congrArg not dec_byt))
  | _=>exact absurd (show false=true from hs) Bool.false_ne_true
 | _=>cases y<;>exact absurd (show false=true from hs) Bool.false_ne_true
theorem op_lt:OpR X (compareOp .Lt) (rI0 fun i j=>.bl (decide (i < j))):=opB0 fun _ _ _ _ _ _ _ q=>lt_int q
theorem op_le:OpR X (compareOp .LtE) (rI0 fun i j=>.bl (decide (i<=j))):=opB0 fun _ _ _ _ _ _ _ q=>le_int q
theorem op_gt:OpR X (compareOp .Gt) (rI0 fun i j=>.bl (decide (j < i))):=opB0 fun _ _ _ _ _ _ _ q=>gt_int q
theorem op_ge:OpR X (compareOp .GtE) (rI0 fun i j=>.bl (decide (j<=i))):=opB0 fun _ _ _ _ _ _ _ q=>ge_int q
theorem op_in_str:OpR X (compareOp .In) (fun x y H Q=>∃ i j,x=.str i/\y=.str j/\Q (.bl (!(Builtin.Str.occurrences j i 0 j.length 1).isEmpty)) H):=by
 intro pins s σ H x y v u Q I rx ry h
 obtain ⟨i,j,rfl,rfl,q⟩:=h
 obtain ⟨t,rfl⟩:=rx
 obtain ⟨t',rfl⟩:=ry
 exact in_str (fin_bl I q rfl)
theorem op_isN:OpR X (compareOp .Is) (fun x y H Q=>y=.non/\Q (.bl (decide (x=.non))) H):=by
 intro pins s σ H x y v u Q I rx ry h
 obtain ⟨rfl,q⟩:=h
 cases ry
 refine is_none_gen (fin_bl I q ?_)
 cases x<;>first
  | (cases rx; rfl)
  | (obtain ⟨t,rfl⟩:=rx; rfl)
theorem op_notN:OpR X (compareOp .IsNot) (fun x y H Q=>y=.non/\Q (.bl (!decide (x=.non))) H):=by
 intro pins s σ H x y v u Q I rx ry h
 obtain ⟨rfl,q⟩:=h
 cases ry
 refine isnot_none_gen (fin_bl I q ?_)
 cases x<;>first
  | (cases rx; rfl)
  | (obtain ⟨t,rfl⟩:=rx; rfl)
theorem op_notin_str:OpR X (compareOp .NotIn) (fun x y H Q=>∃ i j,x=.str i/\y=.str j/\Q (.bl (!(!(Builtin.Str.occurrences j i 0 j.length 1).isEmpty))) H):=by
 intro pins s σ H x y v u Q I rx ry h
 obtain ⟨i,j,rfl,rfl,q⟩:=h
 obtain ⟨t,rfl⟩:=rx
 obtain ⟨t',rfl⟩:=ry
 exact notIn_str (fin_bl I q rfl)
theorem OpR.or {f:Value->Value->Sem Value} {r r':R2} (h:OpR X f r) (h':OpR X f r'):OpR X f (fun x y H Q=>r x y H Q∨r' x y H Q):=by
 intro pins s σ H x y v u Q I rx ry q
 rcases q with q | q
 ·exact h pins s σ H x y v u Q I rx ry q
 ·exact h' pins s σ H x y v u Q I rx ry q
theorem pe_cmpR {op:CmpOp} {r:R2} (ho:OpR X (compareOp op) r) (ha:PE X a ta) (hb:PE X b tb) (hm:behindInMarks op b=false):PE X (.Compare a [op] [b] pos) (tOp r ta tb):=by
 intro pins s σ H Q I h
 exact wpAny_Compare1 (binT ha hb I h fun v u s2 x y H2 I2 rx ry q=>ho pins s2 σ H2 x y v u Q I2 rx ry q) hm
noncomputable def tTest (t:TE):TT:=fun σ H Q=>t σ H fun x H'=>∃ k,x=.bl k/\Q k H'
theorem pt_cmpR {op:CmpOp} {r:R2} (ho:OpR X (compareOp op) r) (ha:PE X a ta) (hb:PE X b tb) (hm:behindInMarks op b=false):PT X (.Compare a [op] [b] pos) (tTest (tOp r ta tb)):=by
 intro pins s σ H Q I h
 refine wpAny_isTrue_Compare1 (thn (ha pins s σ H _ I h) fun v s1 ⟨x,H1,I1,r1,q1⟩=>thn (hb pins s1 σ H1 _ I1 q1) fun u s2 ⟨y,H2,I2,r2,q2⟩ =>
  thn (ho pins s2 σ H2 x y v u _ I2 r1 r2 q2) fun c s3 ⟨z,H3,I3,r3,k,e,q3⟩=>?_) hm
 subst e
 cases r3
 exact wpAny_truthy_bool ⟨H3,I3,q3⟩
noncomputable def tChain (r r':R2) (ta tb tc:TE):TE:=fun σ H Q=>ta σ H fun x H1=>tb σ H1 fun y H2=>r x y H2 fun z H3=>∃ k,z=.bl k /\
 (if k=true then tc σ H3 fun w' H4=>r' y w' H4 Q else Q (.bl false) H3)
theorem pe_chain {op op':CmpOp} {r r':R2} (ho:OpR X (compareOp op) r) (ho':OpR X (compareOp op') r') (ha:PE X a ta) (hb:PE X b tb) (hc:PE X c tc)
  (hm:lastMarks [op,op'] [b,c]=false:=by with_unfolding_all rfl):PE X (.Compare a [op,op'] [b,c] pos) (tChain r r' ta tb tc):=by
 intro pins s σ H Q I h
 refine Compare_chain (thn (ha pins s σ H _ I h) fun v s1 ⟨x,H1,I1,r1,q1⟩=>chain_link (thn (hb pins s1 σ H1 _ I1 q1) fun u s2 ⟨y,H2,I2,r2,q2⟩ =>
  thn (ho pins s2 σ H2 x y v u _ I2 r1 r2 q2) fun d s3 ⟨z,H3,I3,r3,k,e,q3⟩=>?_)) hm
 subst e
 cases r3
 refine wpAny_truthy_bool ?_
 cases k with
 | false=>exact ite_ff ⟨.bl false,H3,I3,rfl,q3⟩
 | true=>exact ite_tt (chain_last (thn (hc pins s3 σ H3 _ I3 q3) fun w' s4 ⟨z',H4,I4,r4,q4⟩=>ho' pins s4 σ H4 y z' u w' Q I4 r2 r4 q4))
theorem pt_chain {op op':CmpOp} {r r':R2} (ho:OpR X (compareOp op) r) (ho':OpR X (compareOp op') r') (ha:PE X a ta) (hb:PE X b tb) (hc:PE X c tc)
  (hm:lastMarks [op,op'] [b,c]=false:=by with_unfolding_all rfl):PT X (.Compare a [op,op'] [b,c] pos) (tTest (tChain r r' ta tb tc)):=by
 intro pins s σ H Q I h
 refine isTrue_chain (thn (ha pins s σ H _ I h) fun v s1 ⟨x,H1,I1,r1,q1⟩=>test_link (thn (hb pins s1 σ H1 _ I1 q1) fun u s2 ⟨y,H2,I2,r2,q2⟩ =>
  thn (ho pins s2 σ H2 x y v u _ I2 r1 r2 q2) fun d s3 ⟨z,H3,I3,r3,k,e,q3⟩=>?_)) hm
 subst e
 cases r3
 refine wpAny_truthy_bool ?_
 cases k with
 | false =>
  obtain ⟨k',e',q'⟩:=q3
  cases e'
  exact ite_ff ⟨H3,I3,q'⟩
 | true =>
  refine ite_tt (test_last (thn (hc pins s3 σ H3 _ I3 q3) fun w' s4 ⟨z',H4,I4,r4,q4⟩=>thn (ho' pins s4 σ H4 y z' u w' _ I4 r2 r4 q4) fun d' s5 ⟨z2,H5,I5,r5,k2,e2,q5⟩=>?_))
  subst e2
  cases r5
  exact wpAny_truthy_bool ⟨H5,I5,q5⟩
noncomputable def TruV (K:PySem.W.Frag) (x:V) (H:Hp) (k:Bool):Prop :=
 match x with
 | .non=>k=false
 | .bl b=>k=b
 | .int i=>k=(i != 0)
 | .str y=>y.length<=sizeLine/\k=((y.length:Int) != 0)
 | .byt y=>y.size<=sizeLine/\k=((y.size:Int) != 0)
 | .ref p=>(∃ xs,SqL K H p xs/\k=!xs.isEmpty)∨(∃ xs,SqT K H p xs/\k=!xs.isEmpty)∨∃ kvs,H p=some (.dK kvs)/\k=!kvs.isEmpty
 | _=>False
theorem isEmpty_kv {κ:Type} {kvs:List (κ × V)} {vs:List (κ × Value)} (r:KV kvs vs):(!vs.isEmpty)=!kvs.isEmpty:=by
 cases r<;>rfl
theorem isEmpty_of {xs:List V} {its:List Value} (r:Vals xs its):(!its.toArray.isEmpty)=!xs.isEmpty:=by
 cases r<;>simp
theorem line63:(sizeLine:Nat) < 2 ^ 63:=by rw [sizeLine_eq]; decide
theorem tru_ok:TruR X (fun x H Q=>∃ k,TruV X.K x H k/\Q k H):=by
 intro pins s σ H x v Q I rx h
 obtain ⟨k,e,q⟩:=h
 have hl:=line63
 have hs:sizeLine=16777216:=sizeLine_eq
 cases x with
 | non =>
  cases rx
  have e':k=false:=e
  subst e'
  exact truthy_none ⟨H,I,q⟩
 | bl b =>
  cases rx
  have e':k=b:=e
  subst e'
  exact wpAny_truthy_bool ⟨H,I,q⟩
 | int i =>
  obtain ⟨t,rfl⟩:=rx
  have e':k=(i != 0):=e
  subst e'
  exact PySem.P.truthy_int ⟨H,I,q⟩
 | str y =>
  obtain ⟨t,rfl⟩:=rx
  obtain ⟨hy,e'⟩:y.length<=sizeLine/\k=((y.length:Int) != 0):=e
  subst e'
  exact PySem.P.truthy_str (by omega) ⟨H,I.tok _,q⟩
 | byt y =>
  obtain ⟨t,rfl⟩:=rx
  obtain ⟨hy,e'⟩:y.size<=sizeLine/\k=((y.size:Int) != 0):=e
  subst e'
  exact PySem.W.truthy_bytes (by omega) ⟨H,I.tok _,q⟩
 | ref p =>
  cases rx
  have e':(∃ xs,SqL X.K H p xs/\k=!xs.isEmpty)∨(∃ xs,SqT X.K H p xs/\k=!xs.isEmpty)∨∃ kvs,H p=some (.dK kvs)/\k=!kvs.isEmpty:=e
  rcases e' with ⟨xs,hx,e'⟩ | ⟨xs,hx,e'⟩ | ⟨kvs,hx,e'⟩
  ·subst e'
   obtain ⟨its,r,pl,hz⟩:=I.list hx
   have hlen:=r.length
   exact wpAny_truthy_list pl.isList (by simp only [List.size_toArray]; omega) ⟨H,I.tok _,by rw [isEmpty_of r]; exact q⟩
  ·subst e'
   obtain ⟨its,r,pl,hz⟩:=I.tuple hx
   have hlen:=r.length
   exact truthy_tuple pl (by simp only [List.size_toArray]; omega) ⟨H,I.tok _,by rw [isEmpty_of r]; exact q⟩
  ·subst e'
   obtain ⟨hz,hS,vs,r,m⟩:kvs.length<=sizeLine/\(p == sysModules)=false/\∃ vs,KV kvs vs/\s.heap.DictOf (mixKind X.prog X.w) p vs:=I.hok p _ hx
   have hlen:kvs.length=vs.length:=Paired.length r
   exact wpAny_truthy_dict hS m (by omega) ⟨H,I.tok _,by rw [isEmpty_kv r]; exact q⟩
 | _=>exact (show False from e).elim
theorem op_add_str:OpR X (binaryOp .Add) (fun x y H Q=>∃ i j,x=.str i/\y=.str j/\i.length+j.length<=sizeLine/\Q (.str (i++j)) H):=by
 intro pins s σ H x y v u Q I rx ry h
 obtain ⟨i,j,rfl,rfl,hz,q⟩:=h
 obtain ⟨t,rfl⟩:=rx
 obtain ⟨t',rfl⟩:=ry
 exact add_str (fun t' tk=>⟨.str (i++j),H,I.tok _,⟨_,rfl⟩,q⟩) hz
theorem vals1 {x:V} {us:List Value} (r:Vals [x] us):∃ u,us=[u]/\RelV x u:=by
 cases r with
 | cons r1 r2=>cases r2; exact ⟨_,rfl,r1⟩
theorem vals2 {x y:V} {us:List Value} (r:Vals [x,y] us):∃ u w',us=[u,w']/\RelV x u/\RelV y w':=by
 cases r with
 | cons r1 r2 =>
  cases r2 with
  | cons r3 r4=>cases r4; exact ⟨_,_,rfl,r1,r3⟩
theorem call_min2 (hc:X.calm=true):CallR X (.builtin "min") (fun xs H Q=>∃ i j,xs=[.int i,.int j]/\Q (.int (if j < i then j else i)) H):=by
 intro pins s σ H xs us Q I r h
 obtain ⟨i,j,rfl,q⟩:=h
 obtain ⟨u,w',rfl,⟨t,rfl⟩,⟨t',rfl⟩⟩:=vals2 r
 refine min_two_ints (I.ok.hd hc) fun h' tk k=>⟨_,H,I.kept k,?_,q⟩
 by_cases hj:j < i
 ·rw [if_pos hj,if_pos hj]; exact ⟨_,rfl⟩
 ·rw [if_neg hj,if_neg hj]; exact ⟨_,rfl⟩
theorem call_int1:CallR X (.type "int") (fun xs H Q=>(∃ i,xs=[.int i]/\Q (.int i) H)∨∃ k,xs=[.bl k]/\Q (.int (if k then 1 else 0)) H):=by
 intro pins s σ H xs us Q I r h
 rcases h with ⟨i,rfl,q⟩ | ⟨k,rfl,q⟩
 ·obtain ⟨u,rfl,t,rfl⟩:=vals1 r
  exact call_int_int ⟨.int i,H,I,⟨_,rfl⟩,q⟩
 ·obtain ⟨u,rfl,r1⟩:=vals1 r
  cases r1
  exact call_int_bool ⟨.int (if k then 1 else 0),H,I.tok _,⟨_,rfl⟩,q⟩
theorem call_str_int:CallR X (.type "str") (fun xs H Q=>∃ i,xs=[.int i]/\i.natAbs.log2 < 1920/\Q (.str (toString i)) H):=by
 intro pins s σ H xs us Q I r h
 obtain ⟨i,rfl,hz,q⟩:=h
 obtain ⟨u,rfl,t,rfl⟩:=vals1 r
 exact PySem.P.str_of_int hz ⟨.str _,H,I.tok _,⟨_,rfl⟩,q⟩
noncomputable def LenV (K:PySem.W.Frag) (x:V) (H:Hp) (n:Nat):Prop :=
 match x with
 | .str y=>y.length<=sizeLine/\n=y.length
 | .byt y=>y.size<=sizeLine/\n=y.size
 | .ref p=>(∃ xs,SqL K H p xs/\n=xs.length)∨∃ xs,SqT K H p xs/\n=xs.length
 | _=>False
end
end L2
namespace L2
open PySem PySem.Spec PyProof.Rows
structure ObjM (h:Heap) (x dx C:Addr) (mA:Str->Option Value):Prop where
 obj:h.get? x=some (PySem.W.instObj C dx)
 ns:h.Ns1 dx mA
 ne:dx≠x
theorem lookIn_ns {h:Heap} {dx:Addr} {mA:Str->Option Value} (n:h.Ns1 dx mA):∃ od,h.get? dx=some od/\∀ name,PySem.W.lookIn name od=some (mA name):=by
 obtain ⟨o,es,ep,ho,hd,hk,_,hm⟩:=n
 refine ⟨o,ho,fun name=>?_⟩
 have e:=hm name
 unfold nsFind findBy at e
 rw [<- Array.find?_toList] at e
 unfold PySem.W.lookIn
 rw [hd]
 dsimp only
 split
 ·rename_i y q
  rw [q] at e
  exact congrArg some e
 ·rename_i q
  rw [q] at e
  have a:es.toList.any (·.refKey)=false:=by
   rw [List.any_eq_false]
   intro y hy
   obtain ⟨z,t,hkey⟩:=hk y (Array.mem_toList_iff.mp hy)
   simp [DictEntry.refKey,hkey]
  have a':¬ es.toList.any (·.refKey)=true:=by rw [a]; exact Bool.false_ne_true
  rw [if_neg a']
  exact congrArg some e
theorem ObjM.look {h:Heap} {x dx C:Addr} {mA:Str->Option Value} (I:ObjM h x dx C mA):∃ od,PySem.W.InstAt h x (PySem.W.instObj C dx) C (some od)/\∀ name,PySem.W.lookIn name od=some (mA name) :=
 let ⟨od,ho,hl⟩:=lookIn_ns I.ns
 ⟨od,⟨I.obj,rfl,rfl,ho⟩,hl⟩
section
variable {prog:Program} {w:World} {A:Around} {E:Value->Shared->Prop} {s:Shared} {K:PySem.W.Frag} {x dx C f:Addr} {mA:Str->Option Value} {name:Str} {v:Value}
end
section
variable {P:Program} {w:World} {H H':Hp} {h h':Heap} {a C dx:Addr} {fs fs':List (Str × V)}
theorem ins_get (hok:HOk P w H h) (e:H a=some (.ins C dx fs)):∃ mA,ObjM h a dx C mA/\(∀ f,RelO (fs.lookup f) (mA f))/\PySem.Within mA (fs.map (·.1))/\fs.length<=1000/\H dx=some (.own a):=by
 obtain ⟨d,z,ne,ob,mA,n,r,q⟩:=(show ObjOk P w H h a (.ins C dx fs) from hok a _ e)
 exact ⟨mA,⟨ob,n,ne⟩,r,q,z,d⟩
end
structure Cls (K:PySem.W.Frag) (C:Addr):Prop where
 pg:PySem.W.plainGet K C Str.empty=true
 hd:PySem.W.hasDictIn K C=true
 po:PySem.W.plainOver K C=true
 sa:PySem.W.findIn K (.ref C) "__setattr__"=some (some (.builtin "object.__setattr__"))
theorem Cls.get {K:PySem.W.Frag} {C:Addr} (c:Cls K C) (f:Str):PySem.W.plainGet K C f=true:=c.pg
structure Con (K:PySem.W.Frag) (C:Addr) (f:Str) (v:V) (u:Value):Prop where
 at_:PySem.W.findIn K (.ref C) f=some (some u)
 rel:RelV v u
 get:PySem.W.specialIn K u "__get__"=some none
 cp:PySem.W.copiedNames.contains f=false
structure Meth (K:PySem.W.Frag) (C:Addr) (m:Str) (f:Addr):Prop where
 at_:PySem.W.findIn K (.ref C) m=some (some (.ref f))
 fn:PySem.W.isFn K (.ref f)=true
 kp:PySem.W.keepIn K (.ref f)=true
section
variable {X:Cx} {pins:List (Addr × Obj)} {σ:St} {H:Hp} {s:Shared} {a C dx:Addr} {fs:List (Str × V)} {f:Str} {v:V} {A:Around} {E:Value->Shared->Prop}
end
section
variable {X:Cx} {o e value:Expr} {f:Str} {pos pos' tpos:Pos} {ta tv:TE}
noncomputable def rAdd:V->V->Hp->VK->Prop:=fun x y H Q=>∃ i j,x=.int i/\y=.int j/\Q (.int (i+j)) H
noncomputable def rSub:V->V->Hp->VK->Prop:=fun x y H Q=>∃ i j,x=.int i/\y=.int j/\Q (.int (i - j)) H
end
section
variable {X:Cx} {pins:List (Addr × Obj)} {σ:St} {H:Hp} {s:Shared} {A:Around} {E:Value->Shared->Prop} {Q:Value->Shared->Prop} {c:Value} {b:Bool}
inductive TyOf (K:PySem.W.Frag) (H:Hp):V->Value->Prop where
 | non:TyOf K H .non (.type "NoneType")
 | bl (x:Bool):TyOf K H (.bl x) (.type "bool")
 | int (i:Int):TyOf K H (.int i) (.type "int")
 | str (x:Str):TyOf K H (.str x) (.type "str")
 | flt (x:UInt64):TyOf K H (.flt x) (.type "float")
 | lst {a:Addr} {xs:List V} (e:H a=some (.lst xs)):TyOf K H (.ref a) (.type "list")
 | frz {a:Addr} {o:Obj} {xs:List V} (e:H a=some (.frz o (.lst xs))):TyOf K H (.ref a) (.type "list")
 | tup {a:Addr} {xs:List V} (e:H a=some (.tup xs)):TyOf K H (.ref a) (.type "tuple")
 | dK {a:Addr} {kvs:List (Key × V)} (e:H a=some (.dK kvs)):TyOf K H (.ref a) (.type "dict")
 | dT {a:Addr} {kvs:List (List Key × V)} (e:H a=some (.dT kvs)):TyOf K H (.ref a) (.type "dict")
 | ins {a C dx:Addr} {fs:List (Str × V)} (e:H a=some (.ins C dx fs)) (cl:Cls K C) (ha:PySem.W.findIn K (.ref C) "__class__"=some (some (.builtin "object.__class__")))
   (hn:PySem.W.specialIn K (.builtin "object.__class__") "__get__"=some (some (.builtin "getset_descriptor.__get__"))) (htk:PySem.W.takesIn K (.builtin "object.__class__")=some true)
   (hm:PySem.W.mroIn K C (.type "object")=some true):TyOf K H (.ref a) (.ref C)
theorem isinst_ok {x:V} {u t:Value} (I:Inv X pins σ H s) (rx:RelV x u) (ty:TyOf X.K H x t) (e:PySem.W.kitOne X.K t c=some b) (h:∀ tk,Q (.bool b) { s with toks:=tk }) :
  wpAny (model X.prog X.w) A (call (.builtin "isinstance") [u,c]) Q E s:=by
 cases ty with
 | non=>cases (show u=Value.none from rx); exact PySem.W.kia_one PySem.W.kitx_none I.kIn True.intro e (fun z=>nomatch z) h
 | bl y=>cases (show u=Value.bool y from rx); exact PySem.W.kia_one PySem.W.kitx_bool I.kIn True.intro e (fun z=>nomatch z) h
 | int i=>obtain ⟨t,q⟩:=(show ∃ t,u=Value.int i t from rx); cases q; exact PySem.W.kia_one PySem.W.kitx_int I.kIn True.intro e (fun z=>nomatch z) h
 | str y=>obtain ⟨t,q⟩:=(show ∃ t,u=Value.str y t from rx); cases q; exact PySem.W.kia_one PySem.W.kitx_str I.kIn True.intro e (fun z=>nomatch z) h
 | flt y=>obtain ⟨t,q⟩:=(show ∃ t,u=Value.float y t from rx); cases q; exact PySem.W.kia_one PySem.W.kitx_float I.kIn True.intro e (fun z=>nomatch z) h
 | @lst a xs ea =>
  cases (show u=Value.ref a from rx)
  obtain ⟨_,_,n,_,h1⟩:=(show ObjOk X.prog X.w H s.heap a (.lst xs) from I.hok a _ ea)
  exact PySem.W.kia_one PySem.W.kitx_list I.kIn ⟨_,h1,rfl⟩ e (fun z=>nomatch z) h
 | @frz a ob xs ea =>
  cases (show u=Value.ref a from rx)
  obtain ⟨_,_,_,n,_,h1⟩:=(show ObjOk X.prog X.w H s.heap a (.frz ob (.lst xs)) from I.hok a _ ea)
  exact PySem.W.kia_one PySem.W.kitx_list I.kIn ⟨_,h1,rfl⟩ e (fun z=>nomatch z) h
 | @tup a xs ea =>
  cases (show u=Value.ref a from rx)
  obtain ⟨_,_,_,p⟩:=(show ObjOk X.prog X.w H s.heap a (.tup xs) from I.hok a _ ea)
  obtain ⟨o,h1,h2,_⟩:=p
  exact PySem.W.kia_one PySem.W.kitx_tuple I.kIn ⟨o,h1,h2⟩ e (fun z=>nomatch z) h
 | @dK a kvs ea =>
  cases (show u=Value.ref a from rx)
  obtain ⟨_,_,vs,_,p⟩:=(show ObjOk X.prog X.w H s.heap a (.dK kvs) from I.hok a _ ea)
  obtain ⟨o,es,ep,h1,h2,_⟩:=p
  exact PySem.W.kia_one PySem.W.kitx_dict I.kIn ⟨o,h1,h2.1⟩ e (fun z=>nomatch z) h
 | @dT a kvs ea =>
  cases (show u=Value.ref a from rx)
  obtain ⟨_,_,xs,_,o,es,ep,h1,h2,_⟩:=(show ObjOk X.prog X.w H s.heap a (.dT kvs) from I.hok a _ ea)
  exact PySem.W.kia_one PySem.W.kitx_dict I.kIn ⟨o,h1,h2.1⟩ e (fun z=>nomatch z) h
 | @ins a C dx fs ea cl ha hn htk hm =>
  cases (show u=Value.ref a from rx)
  obtain ⟨mA,O,_⟩:=ins_get I.hok ea
  obtain ⟨od,J,_⟩:=O.look
  exact PySem.W.kia_one (PySem.W.kitx_own (cl.get _) cl.hd ha hn htk hm) I.kIn J e (fun z=>nomatch z) h
end
end L2
namespace L2
open PySem PySem.Spec PyProof.Rows
structure Room (k:Nat) (A:Around):Prop where
 hd:A.handled=none
 dp:A.depth+3 * k+5 < recursionLimit
 un:A.units+16 * k+200 < cLine
theorem Room.mono {j k:Nat} {A:Around} (r:Room k A) (h:j<=k):Room j A:=⟨r.hd,by have:=r.dp; omega,by have:=r.un; omega⟩
theorem Room.deeper {k:Nat} {A:Around} (r:Room (k+1) A) (env:Env):Room k (A.deeper env) :=
 ⟨r.hd,by have:=r.dp; show A.depth+1+3 * k+5 < _; omega,by have:=r.un; show A.units+3+16 * k+200 < _; omega⟩
theorem Room.depth {k:Nat} {A:Around} (r:Room k A):A.depth < recursionLimit:=by have:=r.dp; omega
noncomputable def tNil:TA:=fun _ H Q=>Q [] H
noncomputable def tCons (ta:TE) (tr:TA):TA:=fun σ H Q=>ta σ H fun x H1=>tr σ H1 fun xs H2=>Q (x::xs) H2
section
variable {X:Cx} {e:Expr} {es:List Expr} {te:TE} {t:TA} {pos:Pos}
theorem pa_nil:PA X [] tNil:=fun _ _ _ _ H Q I h=>Calls.spliced_nil ⟨[],H,I,.nil,h⟩
theorem pa_cons (ha:PE X e te) (hr:PA X es t) (hs:starEach (e::es) X.env=(false,eval e X.env)::starEach es X.env:=by rfl):PA X (e::es) (tCons te t):=by
 intro pos pins s σ H Q I h
 rw [hs]
 show wpAny _ _ (spliced ((false,eval e X.env)::backTo pos (starEach es X.env))) _ _ s
 refine Calls.spliced_cons (thn (ha pins s σ H _ I h) fun u s1 ⟨x,H1,I1,r1,q1⟩=>?_)
 exact thn (hr pos pins s1 σ H1 _ I1 q1) fun us s2 ⟨xs,H2,I2,r2,q2⟩=>⟨x::xs,H2,I2,.cons r1 r2,q2⟩
noncomputable def tTup (t:TA):TE:=fun σ H Q=>t σ H fun xs H1=>xs.length<=sizeLine/\∀ p,H1 p=none->Q (.ref p) (upd H1 p (.tup xs))
noncomputable def tLst (t:TA):TE:=fun σ H Q=>t σ H fun xs H1=>xs.length<=sizeLine/\∀ p,H1 p=none->Q (.ref p) (upd H1 p (.lst xs))
theorem pe_tup {x1} (h:PA X es t):PE X (.Tuple es x1 pos) (tTup t):=by
 intro pins s σ H Q I hq
 refine wpAny_Tuple_spliced (thn (h pos pins s σ H _ I hq) fun us s1 ⟨xs,H1,I1,r,z,q⟩=>⟨by rw [<- r.length]; exact z,?_⟩)
 have hf:H1 s1.heap.objs.size=none:=I1.hok.fresh (Nat.le_refl _)
 refine ⟨.ref s1.heap.objs.size,upd H1 s1.heap.objs.size (.tup xs),I1.laid (t':=s1.toks) (fun b u e=>Heap.get?_push_of_some _ e) (Nat.le_refl _) ?_,rfl,q _ hf⟩
 exact ⟨z,us,r,⟨_,Heap.get?_push_size _ rfl,rfl,_,rfl⟩⟩
theorem pe_lst (h:PA X es t):PE X (.List es pos) (tLst t):=by
 intro pins s σ H Q I hq
 refine wpAny_List_spliced (thn (h pos pins s σ H _ I hq) fun us s1 ⟨xs,H1,I1,r,z,q⟩=>⟨by rw [<- r.length]; exact z,?_⟩)
 have hf:H1 s1.heap.objs.size=none:=I1.hok.fresh (Nat.le_refl _)
 refine ⟨.ref s1.heap.objs.size,upd H1 s1.heap.objs.size (.lst xs),I1.laid (t':=s1.toks) (fun b u e=>Heap.get?_push_of_some _ e) (Nat.le_refl _) ?_,rfl,q _ hf⟩
 exact ⟨z,us,0,r,Heap.get?_push_size _ rfl⟩
end
noncomputable abbrev Sp:=List V->Hp->VK->XK->Prop
noncomputable abbrev CXT:=List Env->Hp->Shared->XK->Value->Shared->Prop
structure Env0 (P:Program) (w:World) (K:PySem.W.Frag) (mg:Str->Option Value) (base:Heap) (A:Around) (outer:List Env) (s:Shared) (H:Hp):Prop where
 frames:A.frames=some outer
 mod:Mod K mg base
 bs:∀ b o,base.get? b=some o->s.heap.get? b=some o/\H b=none
 bsz:base.objs.size<=s.heap.objs.size
 funs:s.heap.FunFrames base outer
 frf:∀ b ∈ frs outer,H b=none
 hok:HOk P w H s.heap
 bare:AllBare s.gens
noncomputable def CE (outer:List Env) (P:Program) (w:World) (H:Hp) (s:Shared) (Q:VK) (u:Value) (s':Shared):Prop :=
 ∃ v H',s'.os=s.os/\AllBare s'.gens/\Un (frs outer) [] H H' s.heap s'.heap/\HOk P w H' s'.heap/\RelV v u/\Q v H'
noncomputable def CR (CX:CXT) (outer:List Env) (P:Program) (w:World) (H:Hp) (s:Shared) (Q:VK) (E:XK) (r:Result) (s':Shared):Prop :=
 match r with
 | .ok (.ret u)=>CE outer P w H s Q u s'
 | .ok _=>False
 | .error e=>CX outer H s E e s'
structure FnOk (P:Program) (w:World) (K:PySem.W.Frag) (mg:Str->Option Value) (base:Heap) (CX:CXT) (k:Nat) (f:Addr) (fd:FuncData) (ps:List Str) (sp:Sp):Prop where
 len:∀ vs H Q E,sp vs H Q E->vs.length=ps.length
 run:∀ (A:Around) (outer:List Env) (s:Shared) (H:Hp) (args:Args) (us:List Value) (vs:List V) (Q:VK) (E:XK),Room k A->Env0 P w K mg base A outer s H->BindsTo s fd args (ps.zip us)->Vals vs us->sp vs H Q E ->
  codeAny (model P w) A (.call (.ref f) args) (CR CX outer P w H s Q E) s
theorem FnOk.mono {P:Program} {w:World} {K:PySem.W.Frag} {mg:Str->Option Value} {base:Heap} {CX:CXT} {j k:Nat} {f:Addr} {fd:FuncData} {ps:List Str} {sp:Sp} (F:FnOk P w K mg base CX j f fd ps sp) (h:j<=k) :
  FnOk P w K mg base CX k f fd ps sp:=⟨F.len,fun A outer s H args us vs Q E hr=>F.run A outer s H args us vs Q E (hr.mono h)⟩
section
variable {X:Cx} {pins:List (Addr × Obj)} {σ:St} {H:Hp} {s s':Shared}
theorem Inv.env0 (I:Inv X pins σ H s):Env0 X.prog X.w X.K X.mg X.base X.A X.stack s H :=
 ⟨I.ok.frames,I.ok.mod,I.bs,Nat.le_trans I.ok.bsz I.sz,I.stack,I.stkFree,I.hok,I.bare⟩
theorem Inv.after {Q:VK} {u:Value} (I:Inv X pins σ H s) (h:CE X.stack X.prog X.w H s Q u s'):EP X pins σ Q u s':=by
 obtain ⟨v,H',os,bare,un,hok,r,q⟩:=h
 obtain ⟨hh,g,d,t,os'⟩:=s'
 obtain rfl:os'=s.os:=os
 exact ⟨v,H',I.call (h':=hh) (g':=g) (d':=d) (t':=t) (ch:=[]) un hok bare (fun b z=>absurd z (by simp)),r,q⟩
end
noncomputable def tCall (sp:Sp) (dvs:List V) (E:XK) (t:TA):TE:=fun σ H Q=>t σ H fun vs H1=>sp (vs++dvs) H1 Q E
noncomputable def Binds (K:PySem.W.Frag) (fd:FuncData) (ps:List Str) (ds:List Value):Prop :=
 ∀ (s:Shared) (us:List Value),K.In s.heap->(us++ds).length=ps.length->BindsTo s fd ⟨us,[]⟩ (ps.zip (us++ds))
theorem Binds.all {K:PySem.W.Frag} {fd:FuncData} {ps:List Str} (h:∀ us:List Value,us.length=ps.length->bindArgs fd ⟨us,[]⟩=pure (ps.zip us)):Binds K fd ps []:=fun s us _ hl=>by
 rw [List.append_nil] at hl ⊢
 exact .of_eq (h us hl)
noncomputable def Passes (CX:CXT) (X:Cx) (E:XK):Prop:=∀ (pins:List (Addr × Obj)) (σ:St) (H:Hp) (s:Shared) (e:Value) (s':Shared),Inv X pins σ H s->CX X.stack H s E e s'->X.xe e s'
section
variable {X:Cx} {CX:CXT} {k:Nat} {f C:Addr} {fd:FuncData} {ps:List Str} {sp:Sp} {dvs:List V} {ds:List Value} {E:XK} {x m:Str} {p pos apos:Pos} {e o:Expr} {es:List Expr} {ta:TE} {t:TA}
theorem run_fn {pins:List (Addr × Obj)} {σ:St} {H:Hp} {s:Shared} {Q:VK} {us:List Value} {vs:List V} (F:FnOk X.prog X.w X.K X.mg X.base CX k f fd ps sp) (hr:Room k X.A) (hb:Binds X.K fd ps ds) (hd:Vals dvs ds) (hx:Passes CX X E)
  (I:Inv X pins σ H s) (r:Vals vs us) (h:sp (vs++dvs) H Q E):wpAny (model X.prog X.w) X.A (call (.ref f) us) (EP X pins σ Q) X.xe s:=by
 have r2:Vals (vs++dvs) (us++ds):=r.append hd
 have hl:(us++ds).length=ps.length:=by rw [<- r2.length]; exact F.len _ _ _ _ h
 refine wpAny_call (codeAny_mono (F.run X.A X.stack s H ⟨us,[]⟩ (us++ds) (vs++dvs) Q E hr I.env0 (hb s us I.kIn hl) r2 h) fun r s' hq=>?_)
 cases r with
 | error e=>exact hx pins σ H s e s' I hq
 | ok fl =>
  cases fl with
  | ret u=>exact I.after hq
  | next=>exact False.elim hq
  | brk=>exact False.elim hq
  | cont=>exact False.elim hq
theorem pe_call (F:FnOk X.prog X.w X.K X.mg X.base CX k f fd ps sp) (hr:Room k X.A) (hg:Gl X x) (hm:X.mg x=some (.ref f)) (hk:PySem.W.keepIn X.K (.ref f)=true) (hb:Binds X.K fd ps ds) (hd:Vals dvs ds) (hx:Passes CX X E)
  (ha:PA X (e::es) t) (hdb:(x == ("__debug__":Str))=false:=by decide) (he:starEach (e::es) X.env=(false,eval e X.env)::starEach es X.env:=by rfl) (hpl:(backTo pos (starEach es X.env)).any (·.1)=false:=by rfl) :
  PE X (.Call (.Name x p) (e::es) [] pos) (tCall sp dvs E t):=by
 intro pins s σ H Q I h
 refine wpAny_Call_Name_kw (ld_glob I hg hm ?_ hdb)
 refine PySem.W.callWith_K (h₀:=X.base) I.ok.mod.kin hk (thn (ha pos pins s σ H _ I h) fun us s1 ⟨vs,H1,I1,r,q⟩=>⟨I1.kIn,?_⟩) he hpl
 exact run_fn F hr hb hd hx I1 r q
theorem pe_call0 (F:FnOk X.prog X.w X.K X.mg X.base CX k f fd ps sp) (hr:Room k X.A) (hg:Gl X x) (hm:X.mg x=some (.ref f)) (hk:PySem.W.keepIn X.K (.ref f)=true) (hb:Binds X.K fd ps ds) (hd:Vals dvs ds) (hx:Passes CX X E)
  (hdb:(x == ("__debug__":Str))=false:=by decide):PE X (.Call (.Name x p) [] [] pos) (tCall sp dvs E tNil):=by
 intro pins s σ H Q I h
 refine wpAny_Call_Name_kw (ld_glob I hg hm ?_ hdb)
 exact PySem.W.callWith_K0 I.kIn hk (run_fn (us:=[]) F hr hb hd hx I .nil h)
structure Mk (K:PySem.W.Frag) (C f:Addr):Prop where
 makes:PySem.W.makesIn K C=true
 init:PySem.W.findIn K (.ref C) "__init__"=some (some (.ref f))
 fn:PySem.W.isFn K (.ref f)=true
 kp:PySem.W.keepIn K (.ref C)=true
end
section
variable {X:Cx} {CX:CXT} {k:Nat} {f C:Addr} {fd:FuncData} {ps ks:List Str} {sp:Sp} {E:XK} {x m:Str} {p pos apos kpos:Pos} {e o:Expr} {es:List Expr} {kws:List Keyword} {te ta:TE} {t tk:TA} {nm:Option Str}
structure KBinds (K:PySem.W.Frag) (fd:FuncData) (ps ks:List Str) (g:List Value->List Value->List Value) (gV:List V->List V->List V):Prop where
 to:∀ (s:Shared) (us ws:List Value),K.In s.heap->(g us ws).length=ps.length->BindsTo s fd ⟨us,ks.zip ws⟩ (ps.zip (g us ws))
 rel:∀ {vs:List V} {us:List Value} {zs:List V} {ws:List Value},Vals vs us->Vals zs ws->Vals (gV vs zs) (g us ws)
variable {g:List Value->List Value->List Value} {gV:List V->List V->List V}
end
structure FnScope (N P:List Str) (sc:Scope):Prop where
 kind:sc.kind=.function
 co:sc.isCoroutine=false
 gen:sc.isGenerator=false
 nd:N.Nodup
 pre:N.take P.length=P
 par:∀ x ∈ P,sc.names.lookup x=some .local∨sc.names.lookup x=some .cell
 nofree:∀ y ∈ sc.names,y.2≠.free
theorem bindL_out {kindOf:Str->Option NameKind} {x:Str}:∀ {binds:List (Str × Value)} {m:Str->Option Value},(∀ v,(x,v) ∉ binds)->bindL kindOf binds m x=m x
 | [],_,_=>rfl
 | (n,v)::r,m,h=>by
  unfold bindL
  rw [bindL_out fun w hw=>h w (List.mem_cons_of_mem _ hw)]
  split
  ·have:x≠n:=by rintro rfl; exact h v List.mem_cons_self
   simp [this]
  ·rfl
theorem bindC_out {kindOf:Str->Option NameKind} {x:Str}:∀ {binds:List (Str × Value)} {m:Str->Option Value},(∀ v,(x,v) ∉ binds)->bindC kindOf binds m x=m x
 | [],_,_=>rfl
 | (n,v)::r,m,h=>by
  unfold bindC
  rw [bindC_out fun w hw=>h w (List.mem_cons_of_mem _ hw)]
  split
  ·rfl
  ·have:x≠n:=by rintro rfl; exact h v List.mem_cons_self
   simp [this]
theorem bindL_get {kindOf:Str->Option NameKind} {x:Str} {v:Value}:∀ {P:List Str} {vs:List Value} {i:Nat} {m:Str->Option Value},P.Nodup->P[i]?=some x->vs[i]?=some v->kindOf x=some .local ->
  bindL kindOf (P.zip vs) m x=some v
 | [],_,_,_,_,h,_,_=>by simp at h
 | _::_,[],_,_,_,_,h,_=>by simp at h
 | p::P,w::vs,0,m,nd,h1,h2,hk=>by
  simp at h1 h2; subst h1; subst h2
  show bindL kindOf ((p,w)::P.zip vs) m p=_
  unfold bindL
  rw [bindL_out fun v hv=>(List.nodup_cons.mp nd).1 (List.of_mem_zip hv).1,if_pos hk]
  simp
 | p::P,w::vs,i+1,m,nd,h1,h2,hk=>by
  show bindL kindOf ((p,w)::P.zip vs) m x=_
  unfold bindL
  exact bindL_get (i:=i) (List.nodup_cons.mp nd).2 (by simpa using h1) (by simpa using h2) hk
theorem bindC_get {kindOf:Str->Option NameKind} {x:Str} {v:Value}:∀ {P:List Str} {vs:List Value} {i:Nat} {m:Str->Option Value},P.Nodup->P[i]?=some x->vs[i]?=some v->kindOf x≠some .local ->
  bindC kindOf (P.zip vs) m x=some v
 | [],_,_,_,_,h,_,_=>by simp at h
 | _::_,[],_,_,_,_,h,_=>by simp at h
 | p::P,w::vs,0,m,nd,h1,h2,hk=>by
  simp at h1 h2; subst h1; subst h2
  show bindC kindOf ((p,w)::P.zip vs) m p=_
  unfold bindC
  rw [bindC_out fun v hv=>(List.nodup_cons.mp nd).1 (List.of_mem_zip hv).1,if_neg hk]
  simp
 | p::P,w::vs,i+1,m,nd,h1,h2,hk=>by
  show bindC kindOf ((p,w)::P.zip vs) m x=_
  unfold bindC
  exact bindC_get (i:=i) (List.nodup_cons.mp nd).2 (by simpa using h1) (by simpa using h2) hk
noncomputable def start (N:List Str) (vs:List V):St:=vs.map some++List.replicate (N.length - vs.length) none
noncomputable def cxOf (CX:CXT) (P:Program) (w:World) (K:PySem.W.Frag) (mg:Str->Option Value) (base:Heap) (N:List Str) (qual:Str) (scope:Scope) (f:Addr) (cd:Value) (A:Around) (outer:List Env) (s:Shared) (H:Hp) (E:XK):Cx where
 prog:=P
 w:=w
 K:=K
 mg:=mg
 base:=base
 A:=A.deeper (envOfC qual scope s.heap.objs.size f cd)
 N:=N
 s₀:=s
 H₀:=H
 env:=envOfC qual scope s.heap.objs.size f cd
 outer:=outer
 stack:=envOfC qual scope s.heap.objs.size f cd::outer
 ex:=[]
 calm:=true
 fn:=fun _=>true
 pn:=[]
 xe:=fun e s'=>wpAny (model P w) (A.deeper (envOfC qual scope s.heap.objs.size f cd)) (leaving (envOfC qual scope s.heap.objs.size f cd) e) (fun _ s''=>CX outer H s E e s'') (fun e' s''=>CX outer H s E e' s'') s'
theorem cell_has {sc:Scope} {n:Nat} {x:Str} (h:sc.names.lookup x=some .cell):∃ c,(cellsFrom n sc.names []).lookup x=some c:=by
 have q:=PySem.W.cellsFrom_some sc.names n [] (.inl h)
 exact Option.isSome_iff_exists.mp q
theorem inv_start {CX:CXT} {P:Program} {w:World} {K:PySem.W.Frag} {mg:Str->Option Value} {base:Heap} {N ps:List Str} {qual:Str} {scope:Scope} {f:Addr} {cd:Value} {A:Around} {outer:List Env} {s s1:Shared} {H:Hp} {E:XK} {us:List Value} {vs:List V}
  (S:FnScope N ps scope) (hd:A.handled=none) (e0:Env0 P w K mg base A outer s H) (hl:vs.length=ps.length) (r:Vals vs us)
  (x:InCallC s s.heap.objs.size (bindL (envOfC qual scope s.heap.objs.size f cd).kindOf (ps.zip us) fun _=>none) (cellsFrom (s.heap.objs.size+1) scope.names []) (bindC (envOfC qual scope s.heap.objs.size f cd).kindOf (ps.zip us) fun _=>none) s1) :
  Inv (cxOf CX P w K mg base N qual scope f cd A outer s H E) [] (start N vs) H s1:=by
 have hpl:ps.length<=N.length:=by have:=congrArg List.length S.pre; rw [List.length_take] at this; omega
 obtain ⟨h1,tk,rfl,hk⟩:=x.done
 have noA:∀ b:Addr,b ∉ (cxOf CX P w K mg base N qual scope f cd A outer s H E).ex:=fun b z=>absurd (show b ∈ ([]:List Addr) from z) (by simp)
 refine ⟨⟨e0.mod,S.kind,rfl,rfl,Nat.le_refl _,fun y z c h1 h2=>?_,fun y hy=>?_,fun y c _ h=>?_,fun _=>hd,Around.frames_deeper e0.frames,.inr ⟨rfl,rfl⟩,fun b z=>absurd z (noA b),e0.bs,e0.bsz,fun b _ _=>noA b,fun b z=>absurd z (noA b),e0.funs,e0.frf⟩,
  rfl,e0.bare,Un.kept hk,⟨_,x.toInCall.ns,fun i y v h1 h2 h3=>?_⟩,fun y c h=>⟨_,x.cell y c h⟩,e0.hok.fresh (Nat.le_refl _),fun y c h=>?_,fun p hp=>absurd (show p ∈ ([]:List (Addr × Obj)) from hp) (by simp),e0.hok.kept hk,?_⟩
 ·exact name_of_addr x.apart (PySem.mem_of_lookup h1) (PySem.mem_of_lookup h2)
 ·have hy:scope.names.lookup y=some .cell∨scope.names.lookup y=some .free:=hy
  rcases hy with hy | hy
  ·exact cell_has hy
  ·exact absurd rfl (S.nofree _ (PySem.mem_of_lookup hy))
 ·exact Nat.le_of_lt (x.above y c (PySem.mem_of_lookup h))
 ·have hi:i < vs.length:=by
   unfold start at h2
   by_cases hi:i < vs.length
   ·exact hi
   ·rw [List.getElem?_append_right (by simpa using hi)] at h2
    rw [List.getElem?_replicate] at h2
    split at h2<;>cases h2
  have ha:vs[i]?=some v:=by
   unfold start at h2
   rw [List.getElem?_append_left (by simpa using hi),List.getElem?_map] at h2
   cases e:vs[i]? with
   | none=>rw [e] at h2; cases h2
   | some a=>rw [e] at h2; cases h2; rfl
  obtain ⟨u,hu,rv⟩:=r.get ha
  have hp:ps[i]?=some y:=by
   rw [<- S.pre,List.getElem?_take_of_lt (by omega)]; exact h1
  have ndP:ps.Nodup:=by rw [<- S.pre]; exact S.nd.sublist (List.take_sublist _ _)
  refine ⟨u,rv,?_⟩
  rcases S.par y (List.mem_of_getElem? hp) with k | k
  ·exact .inl ⟨k,bindL_get ndP hp hu k⟩
  ·obtain ⟨c,e⟩:=cell_has (n:=s.heap.objs.size+1) k
   refine .inr ⟨.inl k,c,e,?_⟩
   have q:=x.cell y c e
   rw [bindC_get ndP hp hu (by show scope.names.lookup y≠_; rw [k]; decide)] at q
   exact q
 ·exact e0.hok.fresh (Nat.le_of_lt (x.above y c (PySem.mem_of_lookup h)))
 ·unfold start
  show _=N.length
  rw [List.length_append,List.length_map,List.length_replicate]
  omega
theorem fn_of {CX:CXT} {P:Program} {w:World} {K:PySem.W.Frag} {mg:Str->Option Value} {base:Heap} {k:Nat} {f:Addr} {name qual:Str} {params:Arguments} {body:List Stmt} {scope:Scope} {dV kV doc pm cdv ct oc:Value} {an od:Option Addr}
  {osl:Array (Option Value)} {N ps:List Str} {sp:Sp} (lk:K.lookup f=some ⟨oc,od,.func (PySem.W.fnOf name qual params body scope dV kV doc pm an cdv ct),osl⟩) (hcd:PySem.W.codeIn K cdv qual=true) (S:FnScope N ps scope)
  (len:∀ vs H Q E,sp vs H Q E->vs.length=ps.length)
  (hbody:∀ (A:Around) (outer:List Env) (s:Shared) (H:Hp) (vs:List V) (Q:VK) (E:XK),Room k (A.deeper (envOfC qual scope s.heap.objs.size f cdv))->sp vs H Q E ->
   ∃ t,PSs (cxOf CX P w K mg base N qual scope f cdv A outer s H E) body t/\t { nx:=fun _ H'=>Q .non H',rt:=Q } (start N vs) H) :
  FnOk P w K mg base CX (k+1) f (PySem.W.fnOf name qual params body scope dV kV doc pm an cdv ct) ps sp:=by
 refine ⟨len,fun A outer s H args us vs Q E hr e0 hb r hsp=>?_⟩
 have hl:=len _ _ _ _ hsp
 have KX:K.In s.heap:=e0.mod.kin.keeps fun b o e=>(e0.bs b o e).1
 have lim:s.heap.NoLimit:=e0.mod.nolimit.keeps fun b o e=>(e0.bs b o e).1
 have hkind:∀ y ∈ ps.zip us,scope.names.lookup y.1=some .local∨(scope.names.lookup y.1=some .cell/\((cellsFrom (s.heap.objs.size+1) scope.names []).lookup y.1).isSome=true):=fun ⟨n,v⟩ hy=>by
  rcases S.par n (List.of_mem_zip hy).1 with q | q
  ·exact .inl q
  ·exact .inr ⟨q,PySem.W.cellsFrom_some _ _ _ (.inl q)⟩
 refine codeAny_call_function hr.depth (KX _ _ lk) rfl S.co S.gen rfl (PySem.W.codeRec_of KX hcd) (hb _ _ _ _ ?_)
 refine wpAny_newFunctionEnv_cells S.kind hkind fun env he s1 x=>?_
 subst he
 refine ⟨lim.keeps x.toInCall.keep,codeAny_func ?_⟩
 obtain ⟨t,ht,hq⟩:=hbody A outer s H vs Q E (hr.deeper _) hsp
 have I:Inv (cxOf CX P w K mg base N qual scope f cdv A outer s H E) [] (start N vs) H s1:=inv_start S hr.hd e0 hl r x
 refine wpAny_mono (ht [] s1 (start N vs) H _ I hq) (fun fl s' hs=>?_) fun e s' hs=>hs
 have fin:∀ {σ':St} {H':Hp} {v:V} {u:Value},Inv (cxOf CX P w K mg base N qual scope f cdv A outer s H E) [] σ' H' s'->RelV v u->Q v H'->CE outer P w H s Q u s' :=
  fun {σ' H' v u} J rv q=>⟨v,H',J.os,J.bare,J.base,J.hok,rv,q⟩
 cases fl with
 | ret u =>
  obtain ⟨v,σ',H',J,rv,q⟩:=hs
  exact fin J rv q
 | next =>
  obtain ⟨σ',H',J,q⟩:=hs
  exact fin (v:=V.non) (u:=Value.none) J rfl q
 | brk =>
  obtain ⟨_,_,_,q⟩:=hs
  exact False.elim q
 | cont =>
  obtain ⟨_,_,_,q⟩:=hs
  exact False.elim q
end L2
namespace L2
open PySem PySem.Spec PyProof.Rows
section
variable {X:Cx} {x:Str} {p pos:Pos} {e:Expr} {es:List Expr} {t:TA} {id T:String} {r:List V->Hp->VK->Prop}
noncomputable def tCB (r:List V->Hp->VK->Prop) (t:TA):TE:=fun σ H Q=>t σ H fun vs H1=>r vs H1 Q
theorem pe_callB (hc:CallR X (.builtin id) r) (hg:Gl X x) (hm:X.mg x=none) (hv:bootBuiltins x=some (.builtin id)) (ha:PA X (e::es) t) (hn:x≠"__name__":=by decide) (hdb:(x == ("__debug__":Str))=false:=by decide)
  (he:starEach (e::es) X.env=(false,eval e X.env)::starEach es X.env:=by rfl) (hpl:(backTo pos (starEach es X.env)).any (·.1)=false:=by rfl):PE X (.Call (.Name x p) (e::es) [] pos) (tCB r t):=by
 intro pins s σ H Q I h
 refine wpAny_Call_Name_kw (ld_blt I hg hm hv ?_ hn hdb)
 exact PyProof.Rows.callWith_builtin1 (thn (ha pos pins s σ H _ I h) fun us s1 ⟨vs,H1,I1,r1,q1⟩=>hc pins s1 σ H1 vs us Q I1 r1 q1) he hpl
theorem pe_callTy (hc:CallR X (.type T) r) (hg:Gl X x) (hm:X.mg x=none) (hv:bootBuiltins x=some (.type T)) (ha:PA X (e::es) t) (hn:x≠"__name__":=by decide) (hdb:(x == ("__debug__":Str))=false:=by decide)
  (he:starEach (e::es) X.env=(false,eval e X.env)::starEach es X.env:=by rfl) (hpl:(backTo pos (starEach es X.env)).any (·.1)=false:=by rfl):PE X (.Call (.Name x p) (e::es) [] pos) (tCB r t):=by
 intro pins s σ H Q I h
 refine wpAny_Call_Name_kw (ld_blt I hg hm hv ?_ hn hdb)
 exact PyProof.Rows.callWith_type1 (thn (ha pos pins s σ H _ I h) fun us s1 ⟨vs,H1,I1,r1,q1⟩=>hc pins s1 σ H1 vs us Q I1 r1 q1) he hpl
end
end L2
namespace HT
open PySem PyProof.Rows
section
open PySem.SeqAt
open PySem.AutoSeq1 (wpAny_loadPart')
open PySem.MeetsSeq PySem.MeetsSeq2 PySem.MeetsSeq3
end
section
variable {prog:Program} {w:World} {A:Around} {E:Value->Shared->Prop} {s:Shared}
theorem cat_tup {t b:Addr} {vs ws:List Value} {Q:Value->Shared->Prop} (ht:IsTup s.heap t vs.toArray) (hb:IsTup s.heap b ws.toArray) (hv:vs≠[])
  (h1:ws=[]->Q (.ref t) s) (h2:ws≠[]->Q (.ref s.heap.objs.size) { s with heap:=s.heap.push { cls:=.type "tuple",data:=.seq (vs++ws).toArray } })
  (hsz:vs.length+ws.length<=sizeLine):wpAny (model prog w) A (binaryOp .Add (.ref t) (.ref b)) Q E s:=by
 obtain ⟨⟨cls,dd,data,sl⟩,ho,hc,n,hd⟩:=id ht
 obtain ⟨⟨cls2,dd2,data2,sl2⟩,ho2,hc2,n2,hd2⟩:=id hb
 simp only at hc hd hc2 hd2
 subst hc hd hc2 hd2
 have e:vs.toArray++ws.toArray=(vs++ws).toArray:=by simp
 by_cases hw:ws=[]
 ·exact concat_meets ⟨_,ho,rfl⟩ ⟨_,ho2,rfl⟩ noFill_tuple_add seq_tuple_add PySem.F.slot_tuple_add PySem.F.entry_tuple_add (PySem.F.args_tuple_add_2 _ _)
   (tuple_addW1 t b vs.toArray ws.toArray n n2 dd dd2 sl sl2 (by simpa using hv) (by simp [hw])) ⟨ho,ho2,h1 hw⟩
 ·refine concat_meets ⟨_,ho,rfl⟩ ⟨_,ho2,rfl⟩ noFill_tuple_add seq_tuple_add PySem.F.slot_tuple_add PySem.F.entry_tuple_add (PySem.F.args_tuple_add_2 _ _)
   (tuple_addW2 t b vs.toArray ws.toArray n n2 dd dd2 sl sl2 (by simpa using hv) (by simpa using hw) (by rw [List.size_toArray,List.size_toArray]; exact hsz)) ⟨ho,ho2,?_⟩
  rw [e]
  exact h2 hw
noncomputable def sIx (n d:Nat):Option Int->Nat
 | none=>d
 | some v=>if v < 0 then (v+(n:Int)).toNat else min v.toNat n
theorem sIx_le (n d:Nat) (hd:d<=n) (o:Option Int):sIx n d o<=n:=by
 cases o with
 | none=>exact hd
 | some v =>
  show (if v < 0 then (v+(n:Int)).toNat else min v.toNat n)<=n
  by_cases hv:v < 0
  ·rw [if_pos hv]; omega
  ·rw [if_neg hv]; exact Nat.min_le_right _ _
theorem clip_eq (v:Int) (n d:Nat):(if v < 0 then max (v+(n:Int)) 0 else min v (n:Int))=((sIx n d (some v):Nat):Int):=by
 show (if v < 0 then max (v+(n:Int)) 0 else min v (n:Int))=(((if v < 0 then (v+(n:Int)).toNat else min v.toNat n):Nat):Int)
 by_cases hv:v < 0
 ·simp only [if_pos hv]; omega
 ·simp only [if_neg hv]; omega
theorem adjust_gen (lo hi:Option Int) (n:Nat):Builtin.Slice.sliceAdjust lo hi 1 (n:Int)=(((sIx n 0 lo:Nat):Int),((sIx n n hi:Nat):Int)):=by
 have h1:¬ ((1:Int) < 0):=by omega
 unfold Builtin.Slice.sliceAdjust
 simp only [h1,if_false]
 refine Prod.ext ?_ ?_
 ·cases lo with
  | none=>rfl
  | some v=>exact clip_eq v n 0
 ·cases hi with
  | none=>rfl
  | some v=>exact clip_eq v n n
theorem places_gen (i j:Nat):Builtin.Slice.slicePlaces (i:Int) (j:Int) 1=j - i:=by
 unfold Builtin.Slice.slicePlaces
 have h1:(1:Int) > 0:=by omega
 simp only [h1,if_true,Int.ediv_one]
 split<;>omega
theorem slicePart_ {v:Value} {o:Option Int} {Q:Option Int->Shared->Prop} (p:IsPart v o) (h:Q o s):wpAny (model prog w) A (Builtin.Slice.slicePartIndex v) Q E s:=by
 cases p with
 | none=>exact slicePart_none h
 | int i t=>exact slicePart_int h
theorem sliceApplied_gen {sl:Addr} {vl vu:Value} {lo hi:Option Int} {n:Nat} {Q:Int × Int × Nat->Shared->Prop} (hs:s.heap.IsSliceOf sl vl vu .none) (pl:IsPart vl lo) (pu:IsPart vu hi)
  (h:Q (((sIx n 0 lo:Nat):Int),1,sIx n n hi - sIx n 0 lo) s):wpAny (model prog w) A (Builtin.Slice.sliceApplied (.ref sl) (pure (n:Int))) Q E s:=by
 obtain ⟨os,hos,hcs,hds⟩:=id hs
 unfold Builtin.Slice.sliceApplied Builtin.Slice.sliceFields
 refine wpAny_bind (wpAny_bind (wpAny_field hos hds (x:=vl) rfl (wpAny_bind (wpAny_field hos hds (x:=vu) rfl (wpAny_bind (wpAny_field hos hds (x:=.none) rfl (wpAny_pure ?_)))))))
 refine wpAny_bind (slicePart_none ?_)
 show wpAny _ _ (if ((1:Int) == 0)=true then _ else _) _ _ s
 rw [if_neg (by decide)]
 refine wpAny_bind (slicePart_ pl (wpAny_bind (slicePart_ pu (wpAny_bind (wpAny_pure ?_)))))
 show wpAny _ _ (match Builtin.Slice.sliceAdjust lo hi 1 (n:Int) with | (lo,hi)=>pure (lo,(1:Int),Builtin.Slice.slicePlaces lo hi 1)) _ _ s
 rw [adjust_gen lo hi n]
 show wpAny _ _ (pure (((sIx n 0 lo:Nat):Int),(1:Int),Builtin.Slice.slicePlaces ((sIx n 0 lo:Nat):Int) ((sIx n n hi:Nat):Int) 1)) _ _ s
 rw [places_gen]
 exact wpAny_pure h
theorem pick_gen (xs:Array Value) (i k:Nat):((List.range k).filterMap fun (m:Nat)=>xs[((i:Int)+(m:Int) * 1).toNat]?).toArray=((xs.toList.drop i).take k).toArray:=by
 have e:(fun (m:Nat)=>xs[((i:Int)+(m:Int) * 1).toNat]?)=fun m=>xs[i+m]?:=by
  funext m
  have:((i:Int)+(m:Int) * 1).toNat=i+m:=by omega
  rw [this]
 rw [e]
 have:=pick_run xs i k
 rw [List.filterMap_map] at this
 have e2:((fun x=>xs[x]?) ∘ fun x=>i+x)=fun m=>xs[i+m]?:=rfl
 rw [e2] at this
 rw [this]
theorem getItem_tuple_cut {t sl:Addr} {items:Array Value} {vl vu:Value} {lo hi:Option Int} {Q:Value->Shared->Prop} (ht:IsTup s.heap t items) (hs:s.heap.IsSliceOf sl vl vu .none) (pl:IsPart vl lo) (pu:IsPart vu hi)
  (hw:¬ (sIx items.size 0 lo=0/\sIx items.size items.size hi=items.size))
  (h:Q (.ref s.heap.objs.size) { s with heap:=s.heap.push { cls:=.type "tuple",data:=.seq ((items.toList.drop (sIx items.size 0 lo)).take (sIx items.size items.size hi - sIx items.size 0 lo)).toArray } })
  (hsz:items.size<=sizeLine):wpAny (model prog w) A (getItem (.ref t) (.ref sl)) Q E s:=by
 have htake:sizeOk (.seq ((items.toList.drop (sIx items.size 0 lo)).take (sIx items.size items.size hi - sIx items.size 0 lo)).toArray):=by
  show ((items.toList.drop (sIx items.size 0 lo)).take (sIx items.size items.size hi - sIx items.size 0 lo)).toArray.size<=sizeLine
  rw [List.size_toArray,List.length_take,List.length_drop,Array.length_toList]
  omega
 have hj:sIx items.size items.size hi<=items.size:=sIx_le _ _ (Nat.le_refl _) hi
 obtain ⟨os,hos,hcs,hds⟩:=id hs
 have hTs:s.TypeIs (.ref sl) "slice":=⟨os,hos,hcs⟩
 unfold getItem
 try with_reducible refine wpAny_holding ?_
 first | refine wpAny_bind (wpAny_pure ?_) | skip
 refine wpAny_bind (wpAny_sequenceKey ht.typeIs (by decide) ?_)
 refine wpAny_bind (wpAny_callSpecial?_slot (name:=Str.ofString "__getitem__") ht.typeIs PyProof.Rows.slot_tuple_getitem
  (wpAny_call_entry PyProof.Rows.slot_tuple_getitem ht.typeIs entry_tuple_getitem ?_ (args_tuple_getitem _ _)))
 show wpAny _ _ (Builtin.Tuple.tupleItemsOf (.ref t) >>= _) _ _ s
 refine wpAny_bind (tupleItemsOf_ ht ?_)
 refine wpAny_bind (wpAny_typeOf hTs ?_)
 rw [if_pos (by decide)]
 refine wpAny_bind (sliceApplied_gen hs pl pu ?_)
 have hno:¬ ((((sIx items.size 0 lo:Nat):Int) == 0 && (1:Int) == 1 && (sIx items.size items.size hi - sIx items.size 0 lo) == items.size)=true):=by
  intro q
  rw [Bool.and_eq_true,Bool.and_eq_true] at q
  have q1:((sIx items.size 0 lo:Nat):Int)=0:=eq_of_beq q.1.1
  have q2:sIx items.size items.size hi - sIx items.size 0 lo=items.size:=eq_of_beq q.2
  exact hw ⟨by omega,by omega⟩
 show wpAny _ _ (if (((sIx items.size 0 lo:Nat):Int) == 0 && (1:Int) == 1 && (sIx items.size items.size hi - sIx items.size 0 lo) == items.size)=true then _ else _) _ _ s
 rw [if_neg hno,pick_gen]
 first
  | exact wpAny_bind (m:=Builtin.Tuple.tupleExact _) (wpAny_newObj_type (wpAny_pure ⟨_,rfl,wpAny_pure h⟩) htake)
  | exact wpAny_bind (m:=Builtin.Tuple.tupleExact _) (wpAny_newObj_type (wpAny_bind (wpAny_pure (wpAny_pure ⟨_,rfl,wpAny_pure h⟩))) htake)
  | exact wpAny_bind (wpAny_bind (m:=Builtin.Tuple.tupleExact _) (wpAny_newObj_type (wpAny_pure (wpAny_pure ⟨_,rfl,wpAny_pure h⟩)) htake))
  | exact wpAny_bind (wpAny_bind (m:=Builtin.Tuple.tupleExact _) (wpAny_newObj_type (wpAny_pure ⟨_,rfl,wpAny_pure h⟩) htake))
end
end HT
namespace L2
open PySem PySem.Spec PyProof.Rows
noncomputable abbrev TO:=St->Hp->(Option Int->Hp->Prop)->Prop
noncomputable def PO (X:Cx) (e:Option Expr) (t:TO):Prop :=
 ∀ (pins:List (Addr × Obj)) (s:Shared) (σ:St) (H:Hp) (Q:Option Int->Hp->Prop),Inv X pins σ H s->t σ H Q ->
  wpAny (model X.prog X.w) X.A (evalPart e X.env) (fun u s'=>∃ o H',Inv X pins σ H' s'/\IsPart u o/\Q o H') X.xe s
noncomputable def tNoPart:TO:=fun _ H Q=>Q none H
noncomputable def tPart (t:TE):TO:=fun σ H Q=>t σ H fun x H1=>∃ i,x=.int i/\Q (some i) H1
section
variable {X:Cx} {e:Expr} {te:TE} {lo hi:Option Expr} {tl th:TO} {pos p2:Pos}
theorem po_none:PO X none tNoPart:=by
 intro pins s σ H Q I h
 rw [evalPart_none]
 exact wpAny_pure ⟨none,H,I,.none,h⟩
theorem po_some (h:PE X e te):PO X (some e) (tPart te):=by
 intro pins s σ H Q I hw
 rw [evalPart_some]
 refine thn (h pins s σ H _ I hw) fun u s1 ⟨x,H1,I1,r1,q1⟩=>?_
 obtain ⟨i,rfl,q⟩:=q1
 obtain ⟨t,rfl⟩:=r1
 exact ⟨some i,H1,I1,.int i t,q⟩
noncomputable def SlR (X:Cx) (r:V->Option Int->Option Int->Hp->VK->Prop):Prop :=
 ∀ (pins:List (Addr × Obj)) (s:Shared) (σ:St) (H:Hp) (x:V) (v vl vu:Value) (lo hi:Option Int) (sl:Addr) (Q:VK),Inv X pins σ H s->RelV x v->s.heap.IsSliceOf sl vl vu .none->IsPart vl lo->IsPart vu hi->r x lo hi H Q ->
  ∃ T id,typeLookup (.type T) "__getitem__"=pure (some (.builtin id))/\s.TypeIs v T/\wpAny (model X.prog X.w) X.A (getItem v (.ref sl)) (EP X pins σ Q) X.xe s
theorem SlR.or {r r':V->Option Int->Option Int->Hp->VK->Prop} (h:SlR X r) (h':SlR X r'):SlR X (fun x lo hi H Q=>r x lo hi H Q∨r' x lo hi H Q):=by
 intro pins s σ H x v vl vu lo hi sl Q I rx hs pl pu q
 rcases q with q | q
 ·exact h pins s σ H x v vl vu lo hi sl Q I rx hs pl pu q
 ·exact h' pins s σ H x v vl vu lo hi sl Q I rx hs pl pu q
noncomputable def tSl (r:V->Option Int->Option Int->Hp->VK->Prop) (te:TE) (tl th:TO):TE:=fun σ H Q=>te σ H fun x H1=>tl σ H1 fun l H2=>th σ H2 fun u H3=>r x l u H3 Q
theorem pe_slice {r:V->Option Int->Option Int->Hp->VK->Prop} (hr:SlR X r) (he:PE X e te) (hl:PO X lo tl) (hu:PO X hi th):PE X (.Subscript e (.Slice lo hi none p2) pos) (tSl r te tl th):=by
 intro pins s σ H Q I h
 refine Subscript_ (thn (he pins s σ H _ I h) fun v s1 ⟨x,H1,I1,r1,q1⟩=>?_)
 refine wpAny_Slice (thn (hl pins s1 σ H1 _ I1 q1) fun vl s2 ⟨l,H2,I2,pl,q2⟩=>thn (hu pins s2 σ H2 _ I2 q2) fun vu s3 ⟨u,H3,I3,pu,q3⟩=>?_)
 rw [evalPart_none]
 refine wpAny_pure ?_
 have I4:Inv X pins σ H3 { s3 with heap:=s3.heap.push { cls:=.type "slice",data:=.fields #[vl,vu,.none] } }:=I3.kept (t':=s3.toks) fun b ob q=>Heap.get?_push_of_some _ q
 obtain ⟨T,id,hT,ht,hg⟩:=hr pins { s3 with heap:=s3.heap.push { cls:=.type "slice",data:=.fields #[vl,vu,.none] } } σ H3 x v vl vu l u s3.heap.objs.size Q I4 r1 (Heap.IsSliceOf.new ..) pl pu q3
 show wpAny (model X.prog X.w) X.A (subscriptTail e (.Slice lo hi none p2) v (.ref s3.heap.objs.size)) (EP X pins σ Q) X.xe { s3 with heap:=s3.heap.push { cls:=.type "slice",data:=.fields #[vl,vu,.none] } }
 exact tail_any (ops:=[.ref s3.heap.objs.size,v]) ht hT hg (by with_unfolding_all rfl)
noncomputable def cutV (xs:List V) (lo hi:Option Int):List V:=(xs.drop (HT.sIx xs.length 0 lo)).take (HT.sIx xs.length xs.length hi - HT.sIx xs.length 0 lo)
theorem cutV_length (xs:List V) (lo hi:Option Int):(cutV xs lo hi).length<=xs.length:=by
 unfold cutV
 rw [List.length_take,List.length_drop]
 omega
noncomputable def rSlT (K:PySem.W.Frag):V->Option Int->Option Int->Hp->VK->Prop:=fun x lo hi H Q=>∃ a xs,x=.ref a/\SqT K H a xs /\
 ¬ (HT.sIx xs.length 0 lo=0/\HT.sIx xs.length xs.length hi=xs.length)/\∀ p,H p=none->Q (.ref p) (upd H p (.tup (cutV xs lo hi)))
theorem sl_tup:SlR X (rSlT X.K):=by
 intro pins s σ H x v vl vu lo hi sl Q I rx hs pl pu h
 obtain ⟨a,xs,rfl,hx,hw,q⟩:=h
 cases rx
 obtain ⟨its,r,ht,hz⟩:=I.tuple hx
 have hlen:its.toArray.size=xs.length:=by rw [List.size_toArray]; exact r.length.symm
 refine ⟨"tuple",_,PyProof.Rows.slot_tuple_getitem.lookup,ht.typeIs,?_⟩
 refine HT.getItem_tuple_cut ht hs pl pu (by rw [hlen]; exact hw) ?_ (by rw [hlen]; exact hz)
 rw [hlen]
 refine ⟨.ref s.heap.objs.size,_,I.laid (t':=s.toks) (o:=.tup (cutV xs lo hi)) (fun b ob q=>Heap.get?_push_of_some _ q) (Nat.le_refl _) ?_,rfl,q _ (I.hok.fresh (Nat.le_refl _))⟩
 exact ⟨Nat.le_trans (cutV_length xs lo hi) hz,_,(r.drop (HT.sIx xs.length 0 lo)).take (HT.sIx xs.length xs.length hi - HT.sIx xs.length 0 lo),IsTup.new _ _⟩
noncomputable def rCatT (K:PySem.W.Frag):R2:=fun x y H Q=>∃ a b xs ys,x=.ref a/\y=.ref b/\SqT K H a xs/\SqT K H b ys/\xs≠[]/\xs.length+ys.length<=sizeLine /\
 (ys=[]->Q (.ref a) H)/\(ys≠[]->∀ p,H p=none->Q (.ref p) (upd H p (.tup (xs++ys))))
theorem Vals.nil_iff {xs:List V} {us:List Value} (r:Vals xs us):us=[] ↔ xs=[]:=by
 cases r with
 | nil=>simp
 | cons _ _=>simp
theorem op_catT:OpR X (binaryOp .Add) (rCatT X.K):=by
 intro pins s σ H x y v u Q I rx ry h
 obtain ⟨a,b,xs,ys,rfl,rfl,ha,hb,hx,hz,q1,q2⟩:=h
 cases rx
 cases ry
 obtain ⟨its,r1,p1,_⟩:=I.tuple ha
 obtain ⟨its2,r2,p2,_⟩:=I.tuple hb
 refine HT.cat_tup p1 p2 (fun z=>hx (r1.nil_iff.mp z)) (fun z=>⟨.ref a,H,I,rfl,q1 (r2.nil_iff.mp z)⟩) (fun z=>?_) (by rw [<- r1.length,<- r2.length]; exact hz)
 refine ⟨.ref s.heap.objs.size,_,I.laid (t':=s.toks) (o:=.tup (xs++ys)) (fun b ob q=>Heap.get?_push_of_some _ q) (Nat.le_refl _) ?_,rfl,q2 (fun w=>z (r2.nil_iff.mpr w)) _ (I.hok.fresh (Nat.le_refl _))⟩
 exact ⟨by rw [List.length_append]; exact hz,_,r1.append r2,IsTup.new _ _⟩
end
end L2
namespace L2
open PySem PySem.Spec PyProof.Rows
noncomputable def ixN (n:Nat) (i:Int):Option Nat:=if 0<=i then (if i < n then some i.toNat else none) else if -(n:Int)<=i then some (i+n).toNat else none
noncomputable def atI {α:Type} (xs:List α) (i:Int):Option α:=(ixN xs.length i).bind fun j=>xs[j]?
theorem ixN_seq {n:Nat} {i:Int} {j:Nat} (h:ixN n i=some j):seqIndex? i n=some j/\j < n/\-(n:Int)<=i/\i < n:=by
 unfold ixN at h
 by_cases h0:0<=i
 ·rw [if_pos h0] at h
  by_cases h1:i < n
  ·rw [if_pos h1] at h
   have e:i.toNat=j:=Option.some.inj h
   exact ⟨by rw [seqIndex_of h0 h1,e],by omega,by omega,h1⟩
  ·rw [if_neg h1] at h; cases h
 ·rw [if_neg h0] at h
  by_cases h1:-(n:Int)<=i
  ·rw [if_pos h1] at h
   have e:(i+n).toNat=j:=Option.some.inj h
   exact ⟨by rw [seqIndex_neg (by omega) h1,e],by omega,h1,by omega⟩
  ·rw [if_neg h1] at h; cases h
theorem atI_get {α:Type} {xs:List α} {i:Int} {v:α} (h:atI xs i=some v):∃ j,seqIndex? i xs.length=some j/\xs[j]?=some v/\j < xs.length/\-(xs.length:Int)<=i/\i < xs.length:=by
 unfold atI at h
 cases e:ixN xs.length i with
 | none=>rw [e] at h; cases h
 | some j =>
  rw [e] at h
  obtain ⟨h1,h2,h3,h4⟩:=ixN_seq e
  exact ⟨j,h1,h,h2,h3,h4⟩
theorem atI_nat {α:Type} {xs:List α} {j:Nat} {v:α} (h:xs[j]?=some v):atI xs (j:Int)=some v:=by
 have hj:j < xs.length:=(List.getElem?_eq_some_iff.mp h).1
 have e:ixN xs.length (j:Int)=some j:=by
  unfold ixN
  rw [if_pos (by omega),if_pos (by omega)]; simp
 unfold atI; rw [e]; exact h
noncomputable def PlainIx (b:Expr):Prop:=∀ o i,subscripted b false o i=operate [o,i] (getItem o i)
noncomputable def IxR (X:Cx) (r:R2):Prop :=
 ∀ (value slice:Expr) (pins:List (Addr × Obj)) (s:Shared) (σ:St) (H:Hp) (x y:V) (v u:Value) (Q:VK),Inv X pins σ H s->RelV x v->RelV y u->r x y H Q ->
  subscripted slice false v u=operate [v,u] (getItem v u)->wpAny (model X.prog X.w) X.A (subscriptTail value slice v u) (EP X pins σ Q) X.xe s
noncomputable def MtR (X:Cx) (id:String) (r:V->List V->Hp->VK->Prop):Prop :=
 ∀ (pins:List (Addr × Obj)) (s:Shared) (σ:St) (H:Hp) (x:V) (xs:List V) (v:Value) (us:List Value) (Q:VK),Inv X pins σ H s->RelV x v->Vals xs us->r x xs H Q ->
  wpAny (model X.prog X.w) X.A (call (.builtin id) (v::us)) (EP X pins σ Q) X.xe s
section
variable {X:Cx} {a b:Expr} {ta tb:TE} {pos:Pos}
theorem IxR.or {r r':R2} (h:IxR X r) (h':IxR X r'):IxR X (fun x y H Q=>r x y H Q∨r' x y H Q):=by
 intro value slice pins s σ H x y v u Q I rx ry q hs
 rcases q with q | q
 ·exact h value slice pins s σ H x y v u Q I rx ry q hs
 ·exact h' value slice pins s σ H x y v u Q I rx ry q hs
theorem MtR.or {id:String} {r r':V->List V->Hp->VK->Prop} (h:MtR X id r) (h':MtR X id r'):MtR X id (fun x xs H Q=>r x xs H Q∨r' x xs H Q):=by
 intro pins s σ H x xs v us Q I rx rs q
 rcases q with q | q
 ·exact h pins s σ H x xs v us Q I rx rs q
 ·exact h' pins s σ H x xs v us Q I rx rs q
theorem pe_ix {r:R2} (hr:IxR X r) (ha:PE X a ta) (hb:PE X b tb) (hs:PlainIx b):PE X (.Subscript a b pos) (tOp r ta tb):=by
 intro pins s σ H Q I h
 exact Subscript_ (binT ha hb I h fun v u s2 x y H2 I2 rx ry q=>hr a b pins s2 σ H2 x y v u Q I2 rx ry q (hs _ _))
noncomputable def rIxL (K:PySem.W.Frag):R2:=fun x y H Q=>∃ p xs i v,x=.ref p/\y=.int i/\SqL K H p xs/\atI xs i=some v/\Q v H
noncomputable def rIxT (K:PySem.W.Frag):R2:=fun x y H Q=>∃ p xs i v,x=.ref p/\y=.int i/\SqT K H p xs/\atI xs i=some v/\Q v H
noncomputable def rIxS:R2:=fun x y H Q=>∃ z i c,x=.str z/\y=.int i/\z.length<=sizeLine/\atI z.cps.toList i=some c/\Q (.str ⟨#[c]⟩) H
theorem ix_list:IxR X (rIxL X.K):=by
 intro value slice pins s σ H x y v u Q I rx ry h hs
 obtain ⟨p,xs,i,z,rfl,rfl,hq,he,q⟩:=h
 cases rx
 obtain ⟨t,rfl⟩:=ry
 obtain ⟨its,r,pl,hz⟩:=I.list hq
 obtain ⟨j,h1,h2,h3,h4,h5⟩:=atI_get he
 obtain ⟨w,ew,rw'⟩:=r.get h2
 have hl:=r.length
 have hn:=line63
 have fin:EP X pins σ Q w s:=⟨z,H,I,rw',q⟩
 by_cases h0:0<=i
 ·have hj:i.toNat=j:=by
   rw [seqIndex_of h0 h5] at h1
   exact Option.some.inj h1
  exact item_listR pl.isList h0 (by omega) (by rw [hj]; simpa using ew) fin hs
 ·have hj:(i+(its.toArray.size:Int)).toNat=j:=by
   rw [seqIndex_neg (by omega) h4] at h1
   rw [List.size_toArray,<- hl]
   exact Option.some.inj h1
  exact subscriptTail_builtinR (x:=w) pl.isList.typeIs slot_list_getitem.lookup
   (wpAny_getItem_list_neg (Q:=fun r s'=>r=w/\EP X pins σ Q r s') pl.isList (by omega) (by rw [List.size_toArray]<;>omega) (by omega) (by rw [hj]; simpa using ew) ⟨rfl,fin⟩) hs
theorem ix_tup:IxR X (rIxT X.K):=by
 intro value slice pins s σ H x y v u Q I rx ry h hs
 obtain ⟨p,xs,i,z,rfl,rfl,hq,he,q⟩:=h
 cases rx
 obtain ⟨t,rfl⟩:=ry
 obtain ⟨its,r,pl,hz⟩:=I.tuple hq
 obtain ⟨j,h1,h2,h3,h4,h5⟩:=atI_get he
 obtain ⟨w,ew,rw'⟩:=r.get h2
 have hl:=r.length
 have hn:=line63
 have fin:EP X pins σ Q w s:=⟨z,H,I,rw',q⟩
 exact subscriptTail_builtinR (x:=w) pl.typeIs slot_tuple_getitem.lookup
  (getItem_tuple (j:=j) (Q:=fun r s'=>r=w/\EP X pins σ Q r s') pl (by omega) (by omega) (by rw [List.size_toArray,<- hl]; exact h1) (by simpa using ew) ⟨rfl,fin⟩) hs
theorem ix_str:IxR X rIxS:=by
 intro value slice pins s σ H x y v u Q I rx ry h hs
 obtain ⟨z,i,c,rfl,rfl,hz,he,q⟩:=h
 obtain ⟨t,rfl⟩:=rx
 obtain ⟨t',rfl⟩:=ry
 obtain ⟨j,h1,h2,h3,h4,h5⟩:=atI_get he
 have hl:z.cps.toList.length=z.length:=by simp [Str.length]
 rw [hl] at h1 h4 h5
 have hn:=line63
 exact tail_any (typeIs_str s z t) slot_str_getitem.lookup (getItem_str (c:=c) (by
  have e1:decide (i < -(2 ^ 63:Int))=false:=decide_eq_false (by omega)
  have e2:decide (i ≥ 2 ^ 63)=false:=decide_eq_false (by omega)
  rw [e1,e2,Bool.or_false]) (by rw [h1]; simpa using h2) ⟨.str ⟨#[c]⟩,H,I.tok _,⟨_,rfl⟩,q⟩) hs
noncomputable def rIx (K:PySem.W.Frag):R2:=fun x y H Q=>rIxL K x y H Q∨rIxT K x y H Q∨rIxS x y H Q
theorem ix_seq:IxR X (rIx X.K):=ix_list.or (ix_tup.or ix_str)
theorem Inv.lst {pins:List (Addr × Obj)} {σ:St} {H:Hp} {s:Shared} {p:Addr} {xs:List V} (I:Inv X pins σ H s) (h:H p=some (.lst xs)) :
  ∃ (its:List Value) (n:Nat),Vals xs its/\s.heap.get? p=some { cls:=.type "list",data:=.seq its.toArray n }/\xs.length<=sizeLine:=by
 obtain ⟨z,its,n,r,e⟩:=I.hok p _ h
 exact ⟨its,n,r,e,z⟩
theorem slice_bounds (lo hi:Option Int) (n:Nat):(sliceBounds lo hi none n).1=((HT.sIx n 0 lo:Nat):Int)/\(sliceBounds lo hi none n).2.1=((HT.sIx n n hi:Nat):Int)/\(sliceBounds lo hi none n).2.2=1:=by
 refine ⟨?_,?_,rfl⟩
 ·cases lo with
  | none=>simp [sliceBounds,HT.sIx]
  | some i =>
   simp only [sliceBounds,HT.sIx,Option.getD_none,show (1:Int) > 0 by decide,if_true]
   by_cases h:i < 0
   ·simp only [h,if_true]<;>omega
   ·simp only [h,if_false]<;>omega
 ·cases hi with
  | none=>simp [sliceBounds,HT.sIx]
  | some i =>
   simp only [sliceBounds,HT.sIx,Option.getD_none,show (1:Int) > 0 by decide,if_true]
   by_cases h:i < 0
   ·simp only [h,if_true]<;>omega
   ·simp only [h,if_false]<;>omega
theorem slicePick_cut (its:List Value) (lo hi:Option Int):slicePick its.toArray lo hi none=((its.drop (HT.sIx its.length 0 lo)).take (HT.sIx its.length its.length hi - HT.sIx its.length 0 lo)).toArray:=by
 obtain ⟨h1,h2,h3⟩:=slice_bounds lo hi its.toArray.size
 unfold slicePick
 rw [h1,h2,h3]
 simp only [sliceRange_one,pick_run,List.size_toArray]<;>rfl
noncomputable def rSlL (K:PySem.W.Frag):V->Option Int->Option Int->Hp->VK->Prop:=fun x lo hi H Q=>∃ a xs,x=.ref a/\SqL K H a xs/\∀ p,H p=none->Q (.ref p) (upd H p (.lst (cutV xs lo hi)))
theorem sl_list:SlR X (rSlL X.K):=by
 intro pins s σ H x v vl vu lo hi sl Q I rx hs pl pu h
 obtain ⟨a,xs,rfl,hx,q⟩:=h
 cases rx
 obtain ⟨its,r,ht,hz⟩:=I.list hx
 have hlen:=r.length
 refine ⟨"list",_,slot_list_getitem.lookup,ht.isList.typeIs,?_⟩
 refine wpAny_getItem_list_slice ht.isList hs pl pu .none (by simp) ?_ (by rw [List.size_toArray]<;>omega)
 rw [slicePick_cut,<- hlen]
 refine ⟨.ref s.heap.objs.size,_,I.laid (t':=s.toks) (o:=.lst (cutV xs lo hi)) (fun b ob q=>Heap.get?_push_of_some _ q) (Nat.le_refl _) ?_,rfl,q _ (I.hok.fresh (Nat.le_refl _))⟩
 exact ⟨Nat.le_trans (cutV_length xs lo hi) hz,_,0,(r.drop (HT.sIx xs.length 0 lo)).take (HT.sIx xs.length xs.length hi - HT.sIx xs.length 0 lo),Heap.get?_push_size _ rfl⟩
noncomputable def flatV:V->Bool
 | .non=>true
 | .bl _=>true
 | .int _=>true
 | .str _=>true
 | _=>false
noncomputable def eqV:V->V->Bool
 | .non,.non=>true
 | .bl a,.bl b=>a == b
 | .bl a,.int b=>(if a then 1 else 0) == b
 | .int a,.bl b=>a == (if b then 1 else 0)
 | .int a,.int b=>a == b
 | .str a,.str b=>a == b
 | _,_=>false
theorem eqAt_V {A:Around} {s:Shared} {y x:V} {u v:Value} (ry:RelV y u) (rx:RelV x v) (fy:flatV y=true) (fx:flatV x=true):SeqAt.EqAt A s u v (eqV y x):=by
 cases y with
 | non =>
  cases ry
  cases x with
  | non=>cases rx; exact SeqAt.EqAt.same _
  | bl b=>cases rx; exact SeqAt.EqAt.none_bool b
  | int b=>obtain ⟨t,rfl⟩:=rx; exact SeqAt.EqAt.none_int b t
  | str b=>obtain ⟨t,rfl⟩:=rx; exact SeqAt.EqAt.none_str b t
  | _=>exact absurd (show false=true from fx) Bool.false_ne_true
 | bl a =>
  cases ry
  cases x with
  | non=>cases rx; exact SeqAt.EqAt.bool_none a
  | bl b=>cases rx; exact SeqAt.EqAt.bool_bool a b
  | int b=>obtain ⟨t,rfl⟩:=rx; exact SeqAt.EqAt.bool_int a b t
  | str b=>obtain ⟨t,rfl⟩:=rx; exact SeqAt.EqAt.bool_str a b t
  | _=>exact absurd (show false=true from fx) Bool.false_ne_true
 | int a =>
  obtain ⟨t',rfl⟩:=ry
  cases x with
  | non=>cases rx; exact SeqAt.EqAt.int_none a t'
  | bl b=>cases rx; exact SeqAt.EqAt.int_bool a t' b
  | int b=>obtain ⟨t,rfl⟩:=rx; exact SeqAt.EqAt.int_int a t' b t
  | str b=>obtain ⟨t,rfl⟩:=rx; exact SeqAt.EqAt.int_str a t' b t
  | _=>exact absurd (show false=true from fx) Bool.false_ne_true
 | str a =>
  obtain ⟨t',rfl⟩:=ry
  cases x with
  | non=>cases rx; exact SeqAt.EqAt.str_none a t'
  | bl b=>cases rx; exact SeqAt.EqAt.str_bool a t' b
  | int b=>obtain ⟨t,rfl⟩:=rx; exact SeqAt.EqAt.str_int a t' b t
  | str b=>obtain ⟨t,rfl⟩:=rx; exact SeqAt.EqAt.str_str a t' b t
  | _=>exact absurd (show false=true from fx) Bool.false_ne_true
 | _=>exact absurd (show false=true from fy) Bool.false_ne_true
noncomputable def eqU (x:V) (u:Value):Bool:=match u with
 | .none=>eqV .non x
 | .bool b=>eqV (.bl b) x
 | .int i _=>eqV (.int i) x
 | .str z _=>eqV (.str z) x
 | _=>false
theorem eqU_of {x y:V} {u:Value} (r:RelV y u) (f:flatV y=true):eqU x u=eqV y x:=by
 cases y with
 | non=>cases r; rfl
 | bl b=>cases r; rfl
 | int i=>obtain ⟨t,rfl⟩:=r; rfl
 | str z=>obtain ⟨t,rfl⟩:=r; rfl
 | _=>exact absurd (show false=true from f) Bool.false_ne_true
theorem any_eqU {x:V}:∀ {xs:List V} {us:List Value},Vals xs us->xs.all flatV=true->us.any (eqU x)=xs.any fun y=>eqV y x
 | _,_,.nil,_=>rfl
 | y::xs,u::us,.cons r t,f=>by
  rw [List.all_cons,Bool.and_eq_true] at f
  rw [List.any_cons,List.any_cons,eqU_of r f.1,any_eqU t f.2]
theorem mem_eqAt {A:Around} {s:Shared} {x:V} {v:Value} (rx:RelV x v) (fx:flatV x=true):∀ {xs:List V} {us:List Value},Vals xs us->xs.all flatV=true->∀ u ∈ us,SeqAt.EqAt A s u v (eqU x u)
 | _,_,.nil,_=>fun u hu=>by cases hu
 | y::xs,u::us,.cons r t,f=>fun u' hu=>by
  rw [List.all_cons,Bool.and_eq_true] at f
  rcases List.mem_cons.mp hu with rfl | hu
  ·rw [eqU_of r f.1]; exact eqAt_V r rx f.1 fx
  ·exact mem_eqAt rx fx t f.2 u' hu
noncomputable def inV (x:V) (xs:List V):Bool:=xs.any fun y=>eqV y x
noncomputable def rIn (K:PySem.W.Frag) (neg:Bool):R2:=fun x y H Q=>∃ p xs,y=.ref p/\(SqL K H p xs∨SqT K H p xs)/\flatV x=true/\xs.all flatV=true/\Q (.bl (if neg then !inV x xs else inV x xs)) H
theorem op_in_seq:OpR X (compareOp .In) (rIn X.K false):=by
 intro pins s σ H x y v u Q I rx ry h
 obtain ⟨p,xs,rfl,hq,fx,fs,q⟩:=h
 cases ry
 rcases hq with hq | hq
 ·obtain ⟨its,r,pl,hz⟩:=I.list hq
  refine SeqAt.in_listAt (eqU x) pl.isList (fun w hw=>mem_eqAt rx fx r fs w (by simpa using hw)) ⟨.bl _,H,I,rfl,?_⟩
  rw [show its.toArray.any (eqU x)=its.any (eqU x) by simp,any_eqU r fs]
  exact q
 ·obtain ⟨its,r,pl,hz⟩:=I.tuple hq
  refine SeqAt.in_tupleAt (eqU x) pl (fun w hw=>mem_eqAt rx fx r fs w (by simpa using hw)) ⟨.bl _,H,I,rfl,?_⟩
  rw [show its.toArray.any (eqU x)=its.any (eqU x) by simp,any_eqU r fs]
  exact q
theorem op_notIn_seq:OpR X (compareOp .NotIn) (rIn X.K true):=by
 intro pins s σ H x y v u Q I rx ry h
 obtain ⟨p,xs,rfl,hq,fx,fs,q⟩:=h
 cases ry
 rcases hq with hq | hq
 ·obtain ⟨its,r,pl,hz⟩:=I.list hq
  refine SeqAt.notIn_listAt (eqU x) pl.isList (fun w hw=>mem_eqAt rx fx r fs w (by simpa using hw)) ⟨.bl _,H,I,rfl,?_⟩
  rw [show its.toArray.any (eqU x)=its.any (eqU x) by simp,any_eqU r fs]
  exact q
 ·obtain ⟨its,r,pl,hz⟩:=I.tuple hq
  refine SeqAt.notIn_tupleAt (eqU x) pl (fun w hw=>mem_eqAt rx fx r fs w (by simpa using hw)) ⟨.bl _,H,I,rfl,?_⟩
  rw [show its.toArray.any (eqU x)=its.any (eqU x) by simp,any_eqU r fs]
  exact q
theorem call_len_seq:CallR X (.builtin "len") (fun xs H Q=>∃ p ys,xs=[.ref p]/\(SqL X.K H p ys∨SqT X.K H p ys)/\Q (.int ys.length) H):=by
 intro pins s σ H xs us Q I r h
 obtain ⟨p,ys,rfl,hq,q⟩:=h
 obtain ⟨u,rfl,rx⟩:=vals1 r
 cases rx
 have hn:=line63
 rcases hq with hq | hq
 ·obtain ⟨its,r',pl,hz⟩:=I.list hq
  have hlen:=r'.length
  exact Calls.call_len_list pl.isList (by simp only [List.size_toArray]<;>omega) ⟨.int ys.length,H,I.tok _,⟨s.toks+1,by rw [List.size_toArray,hlen]⟩,q⟩
 ·obtain ⟨its,r',pl,hz⟩:=I.tuple hq
  have hlen:=r'.length
  exact len_tuple pl (by simp only [List.size_toArray]<;>omega) ⟨.int ys.length,H,I.tok _,⟨s.toks+1,by rw [List.size_toArray,hlen]⟩,q⟩
theorem call_len_str:CallR X (.builtin "len") (fun xs H Q=>∃ z,xs=[.str z]/\z.length<=sizeLine/\Q (.int z.length) H):=by
 intro pins s σ H xs us Q I r h
 obtain ⟨z,rfl,hz,q⟩:=h
 obtain ⟨u,rfl,t,rfl⟩:=vals1 r
 have hn:=line63
 exact len_str (by omega) ⟨.int z.length,H,I.tok _,⟨_,rfl⟩,q⟩
theorem CallR.or {f:Value} {r r':List V->Hp->VK->Prop} (h:CallR X f r) (h':CallR X f r'):CallR X f (fun xs H Q=>r xs H Q∨r' xs H Q):=by
 intro pins s σ H xs us Q I rs q
 rcases q with q | q
 ·exact h pins s σ H xs us Q I rs q
 ·exact h' pins s σ H xs us Q I rs q
theorem call_tuple_of:CallR X (.type "tuple") (fun xs H Q=>∃ p ys,xs=[.ref p]/\((SqL X.K H p ys/\∀ l,H l=none->Q (.ref l) (upd H l (.tup ys)))∨(SqT X.K H p ys/\Q (.ref p) H))):=by
 intro pins s σ H xs us Q I r h
 obtain ⟨p,ys,rfl,h⟩:=h
 obtain ⟨u,rfl,rx⟩:=vals1 r
 cases rx
 rcases h with ⟨hq,q⟩ | ⟨hq,q⟩
 ·obtain ⟨its,r',pl,hz⟩:=I.list hq
  have hlen:=r'.length
  refine call_tuple_list pl.isList (fun h' kp=>?_) (by simp only [List.size_toArray]<;>omega)
  have I1:Inv X pins σ H { s with heap:=h' }:=I.kept (t':=s.toks) kp
  have I2:Inv X pins σ (upd H h'.objs.size (.tup ys)) { s with heap:=h'.push { cls:=.type "tuple",data:=.seq its.toArray } } :=
   I1.laid (t':=s.toks) (fun b o e=>Heap.get?_push_of_some _ e) (Nat.le_refl _) (show ObjOk X.prog X.w _ _ _ (.tup ys) from ⟨hz,its,r',IsTup.new _ _⟩)
  exact ⟨.ref h'.objs.size,_,I2,rfl,q _ (I1.hok.fresh (Nat.le_refl _))⟩
 ·obtain ⟨its,r',pl,hz⟩:=I.tuple hq
  exact call_tuple_same pl ⟨.ref p,H,I,rfl,q⟩
noncomputable def tyV (K:PySem.W.Frag) (T:String) (x:V) (H:Hp):Prop:=match x with
 | .str _=>T="str"
 | .int _=>T="int"
 | .ref p=>(T="list"/\∃ xs,SqL K H p xs)∨(T="tuple"/\∃ o,K.lookup p=some o/\o.cls=.type "tuple"/\o.dict=none) ∨
   (T="dict"/\((∃ kvs,H p=some (.dK kvs))∨∃ kvs,H p=some (.dT kvs)))∨(T="set"/\∃ S n,H p=some (.set S n))
 | _=>False
theorem tyV_is {pins:List (Addr × Obj)} {σ:St} {H:Hp} {s:Shared} {T:String} {x:V} {v:Value} (I:Inv X pins σ H s) (r:RelV x v) (ty:tyV X.K T x H) :
  s.TypeIs v T/\∀ a,v=.ref a->∃ ob,s.heap.get? a=some ob/\ob.dict=none:=by
 cases x with
 | str z =>
  obtain ⟨t,rfl⟩:=r
  cases (show T="str" from ty)
  exact ⟨typeIs_str s z t,fun _ e=>nomatch e⟩
 | int i =>
  obtain ⟨t,rfl⟩:=r
  cases (show T="int" from ty)
  exact ⟨typeIs_int s i t,fun _ e=>nomatch e⟩
 | ref p =>
  cases r
  rcases ty with ⟨rfl,xs,hq⟩ | ⟨rfl,o,hk,hc,hd⟩ | ⟨rfl,hk⟩ | ⟨rfl,S,n,hk⟩
  ·obtain ⟨its,_,pl,_⟩:=I.list hq
   refine ⟨pl.isList.typeIs,fun a e=>?_⟩
   cases e
   obtain ⟨o,n,e,c,hd,_⟩:=pl
   exact ⟨o,e,hd⟩
  ·refine ⟨⟨o,I.kIn p o hk,hc⟩,fun a e=>?_⟩
   cases e
   exact ⟨o,I.kIn _ o hk,hd⟩
  ·have z:∃ o,s.heap.get? p=some o/\o.ExactDict:=by
    rcases hk with ⟨kvs,hk⟩ | ⟨kvs,hk⟩
    ·obtain ⟨_,_,_,_,o,_,_,e,ex,_⟩:=I.hok p _ hk
     exact ⟨o,e,ex⟩
    ·obtain ⟨_,_,_,_,o,_,_,e,ex,_⟩:=I.hok p _ hk
     exact ⟨o,e,ex⟩
   obtain ⟨o,e,ex⟩:=z
   refine ⟨⟨o,e,ex.1⟩,fun a e2=>?_⟩
   cases e2
   exact ⟨o,e,ex.2.1⟩
  ·obtain ⟨o,_,_,_,e,ex,_⟩:=I.hok p _ hk
   refine ⟨⟨o,e,ex.1⟩,fun a e2=>?_⟩
   cases e2
   exact ⟨o,e,ex.2.1⟩
 | _=>exact False.elim ty
noncomputable def tBM0 (K:PySem.W.Frag) (T:String) (r:V->List V->Hp->VK->Prop) (to:TE):TE:=fun σ H Q=>to σ H fun x H1=>tyV K T x H1/\r x [] H1 Q
noncomputable def tBM (K:PySem.W.Frag) (T:String) (r:V->List V->Hp->VK->Prop) (to:TE) (t:TA):TE:=fun σ H Q=>to σ H fun x H1=>tyV K T x H1/\t σ H1 fun xs H2=>r x xs H2 Q
variable {o e:Expr} {es:List Expr} {to:TE} {t:TA} {name:Str} {apos cpos:Pos} {T id:String} {r:V->List V->Hp->VK->Prop}
theorem pe_bm0 (pa:PlainAttrs T) (slot:Slot T name id) (hty:typeOf (.builtin id)=pure (.type "method_descriptor")) (hm:MtR X id r) (ho:PE X o to)
  (hbase:attributeBase o name X.env (eval o X.env)=eval o X.env:=by rfl) (hline:(apos.endLine == cpos.line)=true:=by rfl):PE X (.Call (.Attribute o name apos) [] [] cpos) (tBM0 X.K T r to):=by
 intro pins s σ H Q I h
 refine wpAny_Call_method0_late hbase hline (thn (ho pins s σ H _ I h) fun v s1 ⟨x,H1,I1,r1,ty,q1⟩=>?_)
 obtain ⟨h1,h2⟩:=tyV_is I1 r1 ty
 exact ⟨T,id,pa,slot,hty,h1,h2,Calls.callWith_builtin rfl (PySem.evalArgs_none (hm pins s1 σ H1 x [] v [] Q I1 r1 .nil q1))⟩
theorem pe_bm (pa:PlainAttrs T) (slot:Slot T name id) (hty:typeOf (.builtin id)=pure (.type "method_descriptor")) (hm:MtR X id r) (ho:PE X o to) (ha:PA X (e::es) t)
  (hbase:attributeBase o name X.env (eval o X.env)=eval o X.env:=by rfl)
  (hfew:((backTo cpos (starEach (e::es) X.env)).all (fun x=>!x.1) && (backToKw cpos (keywordEach [] X.env)).all (fun x=>x.1.isSome)
   && decide ((e::es).length+([]:List Keyword).length+(if ([]:List Keyword).isEmpty then 0 else 1) < 30))=true:=by rfl)
  (hline:(apos.endLine == cpos.line)=true:=by rfl) (hs:starEach (e::es) X.env=(false,eval e X.env)::starEach es X.env:=by rfl) (hplain:(backTo cpos (starEach es X.env)).any (·.1)=false:=by rfl) :
  PE X (.Call (.Attribute o name apos) (e::es) [] cpos) (tBM X.K T r to t):=by
 intro pins s σ H Q I h
 refine wpAny_Call_method_late hbase hfew hline rfl (thn (ho pins s σ H _ I h) fun v s1 ⟨x,H1,I1,r1,ty,q1⟩=>?_)
 obtain ⟨h1,h2⟩:=tyV_is I1 r1 ty
 refine ⟨T,id,pa,slot,hty,h1,h2,?_⟩
 have hA:=ha cpos pins s1 σ H1 _ I1 q1
 rw [hs] at hA ⊢
 refine Calls.callWith_builtin (by show (false || (backTo cpos (starEach es X.env)).any (·.1))=false; rw [hplain]<;>rfl) (Calls.evalArgs_plain ?_)
 exact thn hA fun us s2 ⟨vs,H2,I2,r2,q2⟩=>hm pins s2 σ H2 x vs v us Q I2 r1 r2 q2
end
end L2
namespace L2
open PySem PySem.Spec PyProof.Rows
noncomputable def MtM (X:Cx) (id:String) (r:V->List V->Hp->VK->Prop):Prop :=
 ∀ (pins:List (Addr × Obj)) (s:Shared) (σ:St) (H:Hp) (x:V) (xs:List V) (v:Value) (us:List Value) (Q:VK),Inv X pins σ H s->RelV x v->Vals xs us->r x xs H Q ->
  wpAny (model X.prog X.w) X.A (call (.builtin id) (v::us)) (EP X pins σ Q) X.xe s
theorem Vals.one:∀ {x:V} {us:List Value},Vals [x] us->∃ u,us=[u]/\RelV x u
 | _,_,.cons r .nil=>⟨_,rfl,r⟩
theorem Vals.rep {xs:List V} {us:List Value} (h:Vals xs us):∀ k:Nat,Vals (List.replicate k xs).flatten (List.replicate k us).flatten
 | 0=>.nil
 | k+1=>by
  rw [List.replicate_succ,List.replicate_succ,List.flatten_cons,List.flatten_cons]
  exact Vals.append h (Vals.rep h k)
theorem foldl_rep (its:List Value):∀ (k:Nat) (acc:List Value),
  List.foldl (fun x1 x2=>x1++x2) acc.toArray (List.replicate k its.toArray)=(acc++(List.replicate k its).flatten).toArray
 | 0,acc=>by simp
 | k+1,acc=>by
  have e:acc.toArray++its.toArray=(acc++its).toArray:=by simp
  have e2:(acc++its)++(List.replicate k its).flatten=acc++(List.replicate (k+1) its).flatten:=by
   rw [List.replicate_succ,List.flatten_cons,List.append_assoc]
  rw [<- e2,<- foldl_rep its k (acc++its),<- e,List.replicate_succ,List.foldl_cons]
section
variable {X:Cx} {pins:List (Addr × Obj)} {σ:St} {H:Hp} {s:Shared} {l b:Addr} {xs ys zs:List V}
theorem Inv.lset {its its':List Value} {n:Nat} {f:Array Value->Array Value} {t':Nat} (I:Inv X pins σ H s) (hH:H l=some (.lst xs))
  (e:s.heap.get? l=some { cls:=.type "list",data:=.seq its.toArray n }) (hf:f its.toArray=its'.toArray) (hv:Vals ys its') (hz:ys.length<=sizeLine) :
  Inv X pins σ (upd H l (.lst ys)) { s with heap:=s.heap.update l (Obj.mapSeq f),toks:=t' }:=by
 have q:=PySem.IsL.update e f
 rw [hf] at q
 refine I.write (x:=l) (e:=l) (by rw [hH]; exact trivial) (.inl rfl) (fun b' u hb hu=>(Heap.get?_update_other s.heap (Obj.mapSeq f) (Ne.symm hb)).trans hu) ⟨_,q⟩ ?_
 exact ⟨hz,its',_,hv,q⟩
theorem Inv.lnew {its:List Value} {t':Nat} (I:Inv X pins σ H s) (hv:Vals ys its) (hz:ys.length<=sizeLine) :
  Inv X pins σ (upd H s.heap.objs.size (.lst ys)) { s with heap:=s.heap.push { cls:=.type "list",data:=.seq its.toArray },toks:=t' } :=
 I.laid (fun _ _ q=>Heap.get?_push_of_some _ q) (Nat.le_refl _) ⟨hz,its,0,hv,Heap.get?_push_size _ rfl⟩
theorem Inv.fresh (I:Inv X pins σ H s):H s.heap.objs.size=none:=I.hok.fresh (Nat.le_refl _)
theorem Inv.lstM (I:Inv X pins σ H s) (hH:H l=some (.lst xs)):xs.length<=sizeLine/\∃ (its:List Value) (n:Nat),Vals xs its/\xs.length=its.length/\s.heap.get? l=some { cls:=.type "list",data:=.seq its.toArray n }:=by
 obtain ⟨z,its,n,r,e⟩:=I.hok l _ hH
 exact ⟨z,its,n,r,r.length,e⟩
theorem notLongL {n:Nat} (h:n<=sizeLine):Builtin.List.listTooLong n=false:=by
 unfold Builtin.List.listTooLong
 exact decide_eq_false (by omega)
end
section
variable {X:Cx}
noncomputable def rAppend:V->List V->Hp->VK->Prop:=fun x vs H Q=>∃ l xs y,x=.ref l/\vs=[y]/\H l=some (.lst xs)/\xs.length < sizeLine/\Q .non (upd H l (.lst (xs++[y])))
theorem mt_append:MtM X "list.append" rAppend:=by
 intro pins s σ H x vs v us Q I rx rv h
 obtain ⟨l,xs,y,rfl,rfl,hH,hz,q⟩:=h
 cases rx
 obtain ⟨u,rfl,ru⟩:=rv.one
 obtain ⟨z,its,n,r,hl,e⟩:=I.lstM hH
 refine call_meets F.slot_list_append ⟨_,e,rfl⟩ F.entry_list_append (F.args_list_append_2 _ _) (PySem.list_append l its.toArray n u (by rw [List.size_toArray]; omega)) ⟨e,?_⟩
 refine ⟨.non,_,I.lset (its':=its++[u]) hH e (by simp) (r.append (.cons ru .nil)) ?_,rfl,q⟩
 rw [List.length_append,List.length_singleton]
 omega
theorem len_rep {α:Type} (xs:List α) (k:Nat):(List.replicate k xs).flatten.length=k * xs.length:=by
 induction k with
 | zero=>simp
 | succ k ih=>rw [List.replicate_succ,List.flatten_cons,List.length_append,ih,Nat.succ_mul,Nat.add_comm]
end
section
variable {prog:Program} {w:World} {A:Around} {E:Value->Shared->Prop} {s:Shared}
theorem bounds_run {a c n:Nat} (hac:a<=c) (hc:c<=n):sliceBounds (some (a:Int)) (some (c:Int)) none n=((a:Int),(c:Int),1):=by
 simp only [sliceBounds,Option.getD_none]
 have h1:¬ ((a:Int) < 0):=by omega
 have h2:¬ ((c:Int) < 0):=by omega
 simp only [h1,h2,if_false,show (1:Int) > 0 by decide,if_true]
 congr 1
 ·omega
 ·congr 1; omega
end
section
variable {X:Cx}
end
end L2
namespace Att
open PySem PySem.W PySem.Calls PyProof.Rows
theorem ints_of_wellAll {P:Params} {h:Heap}:∀ (ns:List Int) (vs:List Value),WellAll P h vs (ns.map WData.int)->IntsAre vs ns:=by
 intro ns
 induction ns with
 | nil =>
  intro vs w
  rw [List.map_nil] at w
  cases w
  exact .nil
 | cons n ns ih =>
  intro vs w
  rw [List.map_cons] at w
  cases w with
  | cons a b =>
   cases a
   exact .cons _ _ (ih _ b)
theorem script_of {l:OpenLaw} {n:Nat} (hn:l.most=some n) {P:Params} {h:Heap} {args:List WData} {vals:List Value}
  (hpre:l.row.toRowW.claim.pre args=true) (hwl:WellAll P h vals args) :
  ∃ a vs ns,vals=[Value.ref a]/\args=[WData.list (ns.map WData.int)]/\h.get? a=some { cls:=.type "list",data:=.seq vs.toArray }/\IntsAre vs ns/\ns.length<=n:=by
 have hsh:WShape.hasAll [] args [.list .int]=true:=(pre_splitW hpre).1
 have hc:l.pre.holds [] { args:=args }=true:=(pre_splitW hpre).2
 obtain ⟨d,r,rfl,h1,h2⟩:=hasAllW_cons hsh
 obtain rfl:=hasAllW_nil h2
 obtain ⟨xs,rfl,h3⟩:=hasW_list h1
 obtain ⟨ns,rfl⟩:=items_int h3
 have hlen:ns.length<=n:=by
  unfold OpenLaw.pre at hc
  have h4:(WTm.not (.lt (.lit (.int (n:Int))) (.len (.arg 0)))).holds [] { args:=[.list (ns.map .int)] }=true:=by
   have h4:=(holds_andW hc).1
   rw [hn] at h4
   exact h4
  have h5:=condW_of h4 (w_not (w_lt w_lit (w_len_list (w_arg rfl))))
  rw [List.length_map] at h5
  refine Nat.le_of_not_lt fun q=>?_
  have q':(n:Int) < ((ns.length:Nat):Int):=by omega
  first
   | (rw [decide_eq_true q'] at h5; exact absurd h5 (by decide))
   | (simp at h5; omega)
 cases hwl with
 | cons w1 w2 =>
  cases w2
  cases w1 with
  | list ho hall=>exact ⟨_,_,ns,rfl,rfl,ho,ints_of_wellAll ns _ hall,hlen⟩
theorem post_true (l:OpenLaw) (args:List WData):l.row.toRowW.claim.post args (.bool true) args=true :=
 postW_of (r:=l.row.toRowW) (X:=(true == true))
  (show WShape.has [] (.bool true) .bool=true by first | rfl | decide | simp [WShape.has,WShape.arms,WShape.armsAll])
  (show (WTm.eq .res (.lit (.bool true))).value [] { args:=args,res:=some (.bool true),after:=args }=some (.bool (true == true)) from w_eq_bool (w_res rfl) w_lit) rfl
section
variable {prog:Program} {w:World} {A:Around} {E:Value->Shared->Prop} {s:Shared} {K:Frag}
end
end Att
namespace L2
open PySem PySem.Spec PyProof.Rows
theorem vals_ints:∀ {vs:List Value} {ns:List Int},IntsAre vs ns->Vals (ns.map V.int) vs
 | _,_,.nil=>.nil
 | _,_,.cons n t h=>.cons ⟨t,rfl⟩ (vals_ints h)
noncomputable def Only (H:Hp):Prop:=∀ b,H b=none∨∃ o xs,H b=some (.frz o (.lst xs))
theorem law_call {P:Program} {w:World} {K:PySem.W.Frag} {mg mb:Str->Option Value} {CX:CXT} {k:Nat} {fa a:Addr} {fd:FuncData} {x:Str} {sp:Sp} {s₁:Shared} {vs:List Value} {ns:List Int}
  (KX:K.In s₁.heap) (hns:s₁.heap.Ns mainGlobals mg) (hb:s₁.heap.Ns builtinsNs mb) (hbb:∀ x:Str,x≠"__name__"->mb x=bootBuiltins x) (hlim:s₁.heap.NoLimit) (hg:s₁.gens=#[])
  (ha:s₁.heap.get? a=some { cls:=.type "list",data:=.seq vs.toArray }) (hi:IntsAre vs ns) (hl:ns.length<=sizeLine) (hr:Room k callerA)
  (F:∀ base:Heap,K.In base->base.Ns mainGlobals mg->FnOk P w K mg base CX k fa fd [x] sp) (hbind:∀ (s:Shared) (u:Value),BindsTo s fd ⟨[u],[]⟩ [(x,u)])
  (hsp:∀ H:Hp,Only H->SqL K H a (ns.map V.int)->sp [.ref a] H (fun v _=>v=.bl true) fun _ _ _=>False)
  (hCX:∀ H e s',CX [] H s₁ (fun _ _ _=>False) e s'->False) :
  codeAny (model P w) callerA (.call (.ref fa) ⟨[.ref a],[]⟩) (fun r s'=>r=.ok (.ret (.bool true))/\OldK s₁.heap s'.heap/\s'.os=s₁.os/\AllBare s'.gens) s₁:=by
 have rv:=vals_ints hi
 have lenV:=hi.length
 have core:∀ H:Hp,Only H->SqL K H a (ns.map V.int)->HOk P w H s₁.heap->(∀ b,H b≠none->b=a)->(H a≠none->K.lookup a=none) ->
   codeAny (model P w) callerA (.call (.ref fa) ⟨[.ref a],[]⟩) (fun r s'=>r=.ok (.ret (.bool true))/\OldK s₁.heap s'.heap/\s'.os=s₁.os/\AllBare s'.gens) s₁:=by
  intro H hO hS hok hA hK
  have base_of:∀ {b:Addr} {o:Obj},s₁.heap.get? b=some o->H b=none->(hidT s₁.heap H).get? b=some o:=fun e n=>hidT_get e n
  have noA:∀ {b:Addr} {o:Obj} {es:Array DictEntry} {ep:Nat},s₁.heap.get? b=some o->o.data=.dict es ep->H b=none:=fun {b o es ep} e d=>by
   cases q:H b with
   | none=>rfl
   | some u =>
    have e':b=a:=hA b (by rw [q]; simp)
    subst e'
    rw [ha] at e; cases e
    have d':Data.seq vs.toArray _=Data.dict es ep:=d
    cases d'
  have nsK:∀ {b:Addr} {m:Str->Option Value},s₁.heap.Ns b m->(hidT s₁.heap H).Ns b m:=fun {b m} ⟨o,es,ep,e,d,r⟩=>⟨o,es,ep,base_of e (noA e d),d,r⟩
  have hKb:K.In (hidT s₁.heap H):=fun b o e=>base_of (KX b o e) (by
   cases q:H b with
   | none=>rfl
   | some u =>
    have e':b=a:=hA b (by rw [q]; simp)
    subst e'
    rw [hK (by rw [q]; simp)] at e; cases e)
  have hM:Mod K mg (hidT s₁.heap H):=⟨hKb,nsK hns,⟨mb,nsK hb,hbb⟩,let ⟨mc,h1,h2⟩:=hlim; ⟨mc,nsK h1,h2⟩⟩
  have e0:Env0 P w K mg (hidT s₁.heap H) callerA [] s₁ H:=⟨rfl,hM,fun b o e=>of_hidT e,Nat.le_of_eq (hidT_size _ _),trivial,fun b hb=>absurd (show b ∈ ([]:List Addr) from hb) (by simp),hok,.of_eq hg⟩
  refine codeAny_mono ((F _ hKb (nsK hns)).run callerA [] s₁ H ⟨[.ref a],[]⟩ [.ref a] [.ref a] _ _ hr e0 (hbind s₁ (.ref a)) (.cons rfl .nil) (hsp H hO hS)) fun r s' h=>?_
  cases r with
  | error e=>exact (hCX H e s' h).elim
  | ok fl =>
   cases fl with
   | next=>exact False.elim h
   | brk=>exact False.elim h
   | cont=>exact False.elim h
   | ret u =>
    obtain ⟨v,H',os,bare,un,hok',r',q⟩:=h
    have q':v=.bl true:=q
    subst q'
    obtain rfl:u=Value.bool true:=r'
    refine ⟨rfl,OldK.of_keep fun b o e=>?_,os,bare⟩
    cases q:H b with
    | none=>exact un.keep b o e q (by intro z; exact absurd (show b ∈ ([]:List Addr) from z) (by simp)) (by simp)
    | some u =>
     rcases hO b with z | ⟨ob,xs,z⟩
     ·rw [q] at z; cases z
     ·have z2:=un.frzs b ob _ z
      obtain ⟨e1,_⟩:=hok b _ z
      obtain ⟨e2,_⟩:=hok' b _ z2
      rw [e] at e1; cases e1
      exact e2
 cases hk:K.lookup a with
 | some o =>
  have e:=KX a o hk
  rw [ha] at e
  cases e
  refine core (fun _=>none) (fun _=>.inl rfl) (.inr ⟨_,vs.toArray,_,hk,rfl,rfl,rfl,by rw [List.size_toArray,lenV]; exact hl,by simpa using rv⟩) (fun b u z=>by have z':(none:Option HO)=some u:=z; cases z') (fun b z=>absurd rfl z) fun z=>absurd rfl z
 | none =>
  refine core (fun b=>if b=a then some (.frz { cls:=.type "list",data:=.seq vs.toArray } (.lst (ns.map V.int))) else none) (fun b=>?_) (.inl (.inr ⟨{ cls:=.type "list",data:=.seq vs.toArray },if_pos rfl⟩)) (fun b u z=>?_) (fun b z=>?_) fun _=>hk
  ·by_cases hb:b=a
   ·exact .inr ⟨_,_,if_pos hb⟩
   ·exact .inl (if_neg hb)
  ·by_cases hb:b=a
   ·have z':=(if_pos hb).symm.trans z
    cases z'
    subst hb
    exact ⟨ha,by rw [List.length_map]; exact hl,vs,_,rv,ha⟩
   ·have z':=(if_neg hb).symm.trans z
    cases z'
  ·by_cases hb:b=a
   ·exact hb
   ·exact absurd (if_neg hb) z
end L2
namespace L2
open PySem PySem.Spec PyProof.Rows
end L2
namespace L2
open PySem PySem.Spec PyProof.Rows
noncomputable def defArgs (s:Stmt):Arguments:=match s with
 | .FunctionDef _ a _ _ _ _ _ _ _ _=>a
 | _=>{ posonlyargs:=[],args:=[],vararg:=none,kwonlyargs:=[],kw_defaults:=[],kwarg:=none,defaults:=[] }
noncomputable def defBody (s:Stmt):List Stmt:=match s with
 | .FunctionDef _ _ b _ _ _ _ _ _ _=>b
 | _=>[]
noncomputable def defScope (s:Stmt):Scope:=match s with
 | .FunctionDef _ _ _ _ _ _ sc _ _ _=>sc
 | _=>{ kind:=.function,names:=[],isGenerator:=false,isCoroutine:=false }
noncomputable abbrev CX0:CXT:=fun _ _ _ _ _ _=>False
noncomputable abbrev E0:XK:=fun _ _ _=>False
theorem pass0 {X:Cx}:Passes CX0 X E0:=fun _ _ _ _ _ _ _ h=>h.elim
structure Fun (K:PySem.W.Frag) (x qual:Str) (st:Stmt) (f:Addr) (fd:FuncData):Prop where
 ex:∃ (oc:Value) (od:Option Addr) (kV doc pm:Value) (an:Option Addr) (cdv ct:Value) (osl:Array (Option Value)),
  fd=PySem.W.fnOf x qual (defArgs st) (defBody st) (defScope st) .none kV doc pm an cdv ct/\K.lookup f=some ⟨oc,od,.func fd,osl⟩/\PySem.W.codeIn K cdv qual=true
 kp:PySem.W.keepIn K (.ref f)=true
section
variable {P:Program} {w:World} {K:PySem.W.Frag} {mg:Str->Option Value} {base:Heap}
theorem Fun.ok {x qual:Str} {st:Stmt} {f:Addr} {fd:FuncData} {N ps:List Str} {k:Nat} {sp:Sp} (F:Fun K x qual st f fd) (S:FnScope N ps (defScope st)) (len:∀ vs H Q E,sp vs H Q E->vs.length=ps.length)
  (hbody:∀ (cdv:Value) (A:Around) (outer:List Env) (s:Shared) (H:Hp) (vs:List V) (Q:VK) (E:XK),Room k (A.deeper (envOfC qual (defScope st) s.heap.objs.size f cdv))->sp vs H Q E ->
   ∃ t,PSs (cxOf CX0 P w K mg base N qual (defScope st) f cdv A outer s H E).nox (defBody st) t/\t { nx:=fun _ H'=>Q .non H',rt:=Q } (start N vs) H):FnOk P w K mg base CX0 (k+1) f fd ps sp:=by
 obtain ⟨oc,od,kV,doc,pm,an,cdv,ct,osl,rfl,lk,hcd⟩:=F.ex
 refine fn_of lk hcd S len fun A outer s H vs Q E hr hsp=>?_
 obtain ⟨t,h,q⟩:=hbody cdv A outer s H vs Q E hr hsp
 exact ⟨t,h.nox,q⟩
theorem Fun.binds {x qual:Str} {st:Stmt} {f:Addr} {fd:FuncData} {ps:List Str} (F:Fun K x qual st f fd)
  (h:∀ (kV doc pm:Value) (an:Option Addr) (cdv ct:Value) (us:List Value),us.length=ps.length->bindArgs (PySem.W.fnOf x qual (defArgs st) (defBody st) (defScope st) .none kV doc pm an cdv ct) ⟨us,[]⟩=pure (ps.zip us)):Binds K fd ps []:=by
 obtain ⟨oc,od,kV,doc,pm,an,cdv,ct,osl,rfl,lk,hcd⟩:=F.ex
 exact .all (h kV doc pm an cdv ct)
theorem fun_mk {x qual:Str} {st:Stmt} {f:Addr} {oc:Value} {od an:Option Addr} {osl:Array (Option Value)} {kV doc pm cdv ct:Value} (l:K.lookup f=some ⟨oc,od,.func (PySem.W.fnOf x qual (defArgs st) (defBody st) (defScope st) .none kV doc pm an cdv ct),osl⟩)
  (c:PySem.W.codeIn K cdv qual=true) (k:PySem.W.keepIn K (.ref f)=true):Fun K x qual st f (PySem.W.fnOf x qual (defArgs st) (defBody st) (defScope st) .none kV doc pm an cdv ct):=⟨⟨oc,od,kV,doc,pm,an,cdv,ct,osl,rfl,l,c⟩,k⟩
end
section
variable {X:Cx}
theorem pv (i:Nat) {x:Str} {pos:Pos} (hN:X.N[i]?=some x:=by rfl) (hv:Vis X.env.scope x:=by first | exact Or.inl rfl | exact Or.inr (Or.inl rfl) | exact Or.inr (Or.inr rfl)) (hd:(x == ("__debug__":Str))=false:=by decide)
  (hcd:(x == ("__classdict__":Str))=false:=by decide):PE X (.Name x pos) (tVar i):=pe_var hN hv hd hcd
end
theorem ite2 {c A B:Prop} [Decidable c] (h1:c->A) (h2:¬ c->B):if c then A else B:=by
 by_cases h:c
 ·rw [if_pos h]
  exact h1 h
 ·rw [if_neg h]
  exact h2 h
noncomputable def Same (H H':Hp):Prop:=∀ b o,H b=some o->H' b=some o
theorem Same.refl (H:Hp):Same H H:=fun _ _ h=>h
theorem Same.trans {H H1 H2:Hp} (a:Same H H1) (b:Same H1 H2):Same H H2:=fun c o h=>b c o (a c o h)
theorem Same.free {H H':Hp} (e:Same H H') {l:Addr} (h:H' l=Option.none):H l=Option.none:=by
 cases q:H l with
 | none=>rfl
 | some o =>
  rw [e l o q] at h
  cases h
theorem Same.seq {K:PySem.W.Frag} {H H':Hp} {a:Addr} {xs:List V} (e:Same H H') (h:SqL K H a xs):SqL K H' a xs:=by
 rcases h with (h | ⟨o,h⟩) | h
 ·exact .inl (.inl (e _ _ h))
 ·exact .inl (.inr ⟨o,e _ _ h⟩)
 ·exact .inr h
end L2
namespace L2
open PySem PySem.Spec PyProof.Rows
noncomputable def clOf (env:Env):List (Str × NameKind)->List (Str × Addr)->List (Str × Addr)
 | [],cs=>cs
 | (n,k)::r,cs=>clOf env r (if k == .free then (n,(env.cells.lookup n).getD 0)::cs else cs)
theorem closure_eq {scope:Scope} {env:Env} (h:∀ y ∈ scope.names,y.2=.free->∃ c,env.cells.lookup y.1=some c):closureFor scope env=pure (clOf env scope.names []):=by
 have key:∀ (l:List (Str × NameKind)) (cs:List (Str × Addr)),(∀ y ∈ l,y.2=.free->∃ c,env.cells.lookup y.1=some c) ->
   (forIn l cs fun (x:Str × NameKind) (r:List (Str × Addr))=>(if (x.2 == NameKind.free)=true then (do let c <- cellOf env x.1; pure (ForInStep.yield ((x.1,c)::r))) else pure (ForInStep.yield r):Sem (ForInStep (List (Str × Addr)))))=pure (clOf env l cs):=by
  intro l
  induction l with
  | nil=>intro cs _; rfl
  | cons y l ih =>
   intro cs hl
   obtain ⟨n,k⟩:=y
   rw [List.forIn_cons]
   by_cases hk:k=.free
   ·subst hk
    obtain ⟨c,hc⟩:=hl (n,.free) List.mem_cons_self rfl
    have hc:env.cells.lookup n=some c:=hc
    simp only [beq_self_eq_true,if_true,cellOf,hc,pure_bind,clOf,Option.getD_some]
    exact ih _ fun z hz=>hl z (List.mem_cons_of_mem _ hz)
   ·have hb:(k == NameKind.free)=false:=by simpa using hk
    simp only [hb,Bool.false_eq_true,if_false,pure_bind,clOf]
    exact ih _ fun z hz=>hl z (List.mem_cons_of_mem _ hz)
 have e:=key scope.names [] h
 unfold closureFor
 exact (congrArg (· >>= pure) e).trans (pure_bind _ _)
theorem clOf_look {env:Env} {x:Str} {c:Addr}:∀ (l:List (Str × NameKind)) (cs:List (Str × Addr)),(∀ y ∈ l,y.2=.free->∃ c,env.cells.lookup y.1=some c)->(∀ c,cs.lookup x=some c->env.cells.lookup x=some c) ->
  (clOf env l cs).lookup x=some c->env.cells.lookup x=some c
 | [],cs,_,hc,h=>hc c h
 | (n,k)::r,cs,hl,hc,h=>by
  refine clOf_look r _ (fun z hz=>hl z (List.mem_cons_of_mem _ hz)) (fun d hd=>?_) h
  by_cases hk:k=.free
  ·subst hk
   obtain ⟨e,he⟩:=hl (n,.free) List.mem_cons_self rfl
   have he:env.cells.lookup n=some e:=he
   simp only [beq_self_eq_true,if_true,he,Option.getD_some,List.lookup_cons] at hd
   cases hx:x == n with
   | true =>
    rw [hx] at hd
    cases hd
    rw [eq_of_beq hx]
    exact he
   | false =>
    rw [hx] at hd
    exact hc d hd
  ·have hb:(k == NameKind.free)=false:=by simpa using hk
   simp only [hb,Bool.false_eq_true,if_false] at hd
   exact hc d hd
theorem clOf_has {env:Env} {x:Str}:∀ (l:List (Str × NameKind)) (cs:List (Str × Addr)),((∃ c,cs.lookup x=some c)∨(x,NameKind.free) ∈ l)->∃ c,(clOf env l cs).lookup x=some c
 | [],cs,h=>by
  rcases h with h | h
  ·exact h
  ·cases h
 | (n,k)::r,cs,h=>by
  refine clOf_has r _ ?_
  rcases h with ⟨c,h⟩ | h
  ·refine .inl ?_
   split
   ·rw [List.lookup_cons]
    split
    ·exact ⟨_,rfl⟩
    ·exact ⟨c,h⟩
   ·exact ⟨c,h⟩
  ·rcases List.mem_cons.mp h with h | h
   ·cases h
    refine .inl ?_
    simp
   ·exact .inr h
end L2
namespace L2
open PySem PySem.Spec PyProof.Rows
noncomputable def hideN:List Bool->Nat->List Str->List Str
 | b::m,j,x::N=>(if b then ⟨#[46,j]⟩ else x)::hideN m (j+1) N
 | _,_,N=>N
noncomputable def maskS:List Bool->St->St
 | b::m,v::σ=>(if b then none else v)::maskS m σ
 | _,σ=>σ
theorem maskS_len:∀ (m:List Bool) (σ:St),(maskS m σ).length=σ.length
 | [],σ=>by unfold maskS; rfl
 | _::_,[]=>by unfold maskS; rfl
 | b::m,v::σ=>by unfold maskS; rw [List.length_cons,List.length_cons,maskS_len m σ]
theorem hideN_len:∀ (m:List Bool) (j:Nat) (N:List Str),(hideN m j N).length=N.length
 | [],_,N=>by unfold hideN; rfl
 | _::_,_,[]=>by unfold hideN; rfl
 | b::m,j,x::N=>by unfold hideN; rw [List.length_cons,List.length_cons,hideN_len m (j+1) N]
theorem mask_get:∀ (m:List Bool) (j:Nat) (N:List Str) (σ:St) (i:Nat) (v:V),(maskS m σ)[i]?=some (some v)->σ[i]?=some (some v)/\(hideN m j N)[i]?=N[i]?
 | [],_,N,σ,i,v,h=>by unfold maskS at h; unfold hideN; exact ⟨h,rfl⟩
 | _::_,_,N,[],i,v,h=>by unfold maskS at h; simp at h
 | b::m,j,[],w::σ,i,v,h=>by
  unfold maskS at h
  cases i with
  | zero =>
   cases b with
   | true=>simp at h
   | false=>simp at h; subst h; exact ⟨by simp,by unfold hideN; rfl⟩
  | succ i =>
   have q:=(mask_get m (j+1) [] σ i v (by simpa using h)).1
   exact ⟨by simpa using q,by unfold hideN; rfl⟩
 | b::m,j,x::N,w::σ,0,v,h=>by
  unfold maskS at h
  cases b with
  | true=>simp at h
  | false=>simp at h; subst h; exact ⟨by simp,by unfold hideN; simp⟩
 | b::m,j,x::N,w::σ,i+1,v,h=>by
  unfold maskS at h
  have q:=mask_get m (j+1) N σ i v (by simpa using h)
  unfold hideN
  exact ⟨by simpa using q.1,by simpa using q.2⟩
noncomputable def relabelS (scope sc:Scope):Scope :=
  { scope with names:=scope.names.map fun (n,k)=>if (k == .free && sc.kind == .function && sc.names.lookup n == some .cell) then (n,.cell) else (n,k) }
theorem relabelS_look (sc:Scope) (x:Str):∀ (l:List (Str × NameKind)),
  (l.map fun (n,k)=>if (k == NameKind.free && sc.kind == .function && sc.names.lookup n == some .cell) then (n,NameKind.cell) else (n,k)).lookup x =
   (l.lookup x).map fun k=>if (k == NameKind.free && sc.kind == .function && sc.names.lookup x == some .cell) then NameKind.cell else k
 | []=>rfl
 | (n,k)::r=>by
  rw [List.map_cons]
  have e:(if (k == NameKind.free && sc.kind == .function && sc.names.lookup n == some .cell)=true then (n,NameKind.cell) else (n,k)) =
    (n,if (k == NameKind.free && sc.kind == .function && sc.names.lookup n == some .cell)=true then NameKind.cell else k):=by split<;>rfl
  show List.lookup x ((if (k == NameKind.free && sc.kind == .function && sc.names.lookup n == some .cell)=true then (n,NameKind.cell) else (n,k))::_)=_
  rw [e,List.lookup_cons,List.lookup_cons]
  cases hx:x == n with
  | true=>rw [eq_of_beq hx]; simp
  | false=>exact relabelS_look sc x r
structure CompSt (N:List Str) (sc scope:Scope) (tgs:List Str) (mask:List Bool):Prop where
 kind:scope.kind=.function
 nocell:∀ y ∈ scope.names,y.2≠.cell
 names:∀ y ∈ scope.names,y.2=.local->scope.names.lookup y.1=some .local
 free:∀ y ∈ scope.names,y.2=.free->sc.names.lookup y.1=some .cell∨sc.names.lookup y.1=some .free
 loc:∀ y ∈ scope.names,y.2=.local->y.1 ∈ tgs∨y.1=(".0":Str)
 nd:(tgs++hideN mask 0 N).Nodup
 no0:(".0":Str) ∉ tgs++hideN mask 0 N
noncomputable def cxComp (X:Cx) (scope:Scope) (tgs:List Str) (mask:List Bool) (s:Shared) (H:Hp) (ex:List Addr):Cx :=
  { X with N:=tgs++hideN mask 0 X.N,s₀:=s,H₀:=H,env:=compEnvC scope (clOf X.env scope.names []) s.heap.objs.size X.env,outer:=X.stack,stack:=X.stack,ex:=ex,fn:=fun _=>false,pn:=[],xe:=fun _ _=>False }
noncomputable def entS (k:Nat) (mask:List Bool) (σ:St):St:=List.replicate k none++maskS mask σ
section
variable {X:Cx} {pins:List (Addr × Obj)} {σ:St} {H:Hp} {s:Shared} {scope:Scope} {tgs:List Str} {mask:List Bool} {ex:List Addr}
theorem CompSt.cells (C:CompSt X.N X.env.scope scope tgs mask) (ok:X.Ok):∀ y ∈ scope.names,y.2=.free->∃ c,X.env.cells.lookup y.1=some c:=fun y hy hf =>
 ok.has y.1 (C.free y hy hf)
theorem CompSt.kindCF (C:CompSt X.N X.env.scope scope tgs mask) {x:Str} (h:(relabel scope X.env).names.lookup x=some .cell∨(relabel scope X.env).names.lookup x=some .free):(x,NameKind.free) ∈ scope.names:=by
 have e:=relabelS_look X.env.scope x scope.names
 have e':(relabel scope X.env).names.lookup x=(scope.names.lookup x).map fun k=>if (k == NameKind.free && X.env.scope.kind == .function && X.env.scope.names.lookup x == some .cell) then NameKind.cell else k:=e
 rw [e'] at h
 cases q:scope.names.lookup x with
 | none=>rw [q] at h; simp at h
 | some k =>
  have hm:=PySem.mem_of_lookup q
  have nc:=C.nocell _ hm
  cases k with
  | free=>exact hm
  | cell=>exact absurd rfl nc
  | «local»=>rw [q] at h; simp at h
  | _=>rw [q] at h; simp at h
theorem comp_start (I:Inv X pins σ H s) (C:CompSt X.N X.env.scope scope tgs mask) (hex:∀ b ∈ ex,FpOk X pins H b/\b < s.heap.objs.size) {h':Heap} {t':Nat}
  (hn:h'.Ns s.heap.objs.size (fun _=>none)) (hs:Heap.SameBut s.heap.objs.size (s.heap.push { cls:=.type "dict",data:=.dict #[] }) h') :
  Inv (cxComp X scope tgs mask s H ex) [] (entS tgs.length mask σ) H { s with heap:=h',toks:=t' }:=by
 have kept:∀ b u,s.heap.get? b=some u->h'.get? b=some u:=fun b u e=>hs.extBut b u (Nat.ne_of_lt (Heap.lt_size e)) (Heap.get?_push_of_some _ e)
 have look:∀ x c,(clOf X.env scope.names []).lookup x=some c->X.env.cells.lookup x=some c:=fun x c e=>clOf_look scope.names [] (C.cells I.ok) (fun c z=>by simp at z) e
 have nofs:∀ b ∈ ex,b ∉ frs X.stack:=fun b hb z=>by
  obtain ⟨⟨_,f1,f2,_⟩,_⟩:=hex b hb
  rcases List.mem_cons.mp (I.stkSub b z) with e | e
  ·exact f1 e
  ·exact f2 e
 refine ⟨⟨I.ok.mod,C.kind,I.ok.glob,I.ok.blt,Nat.le_refl _,fun x y c h1 h2=>I.ok.inj x y c (look x c h1) (look y c h2),fun x hx=>?_,fun x c hf _=>absurd (show false=true from hf) Bool.false_ne_true,I.ok.hd,I.ok.frames,.inl rfl,fun b hb=>?_,I.bs,Nat.le_trans I.ok.bsz I.sz,fun b o e hb=>?_,nofs,I.stack,I.stkFree⟩,
  rfl,I.bare,Un.kept kept,⟨_,hn,fun i x v h1 h2 h3=>?_⟩,fun x c h=>?_,I.hok.fresh (Nat.le_refl _),fun x c h=>I.freeC x c (look x c h),fun p hp=>absurd (show p ∈ ([]:List (Addr × Obj)) from hp) (by simp),I.hok.kept kept,?_⟩
 ·exact clOf_has scope.names [] (.inr (C.kindCF hx))
 ·obtain ⟨⟨_,_,_,_,f4,_⟩,lt⟩:=hex b hb
  exact ⟨Nat.ne_of_lt lt,fun x c e=>f4 x c (look x c e)⟩
 ·obtain ⟨⟨_,_,_,f3,_⟩,_⟩:=hex b hb
  rcases f3 with z | z
  ·exact I.ok.noex b o e z
  ·exact absurd (Nat.lt_of_lt_of_le (Heap.lt_size (I.ok.bs b o e).1) z) (Nat.lt_irrefl _)
 ·
  have hi:tgs.length<=i:=by
   rcases Nat.lt_or_ge i tgs.length with z | z
   ·unfold entS at h2
    rw [List.getElem?_append_left (by simpa using z),List.getElem?_replicate] at h2
    split at h2<;>cases h2
   ·exact z
  have h1':(hideN mask 0 X.N)[i - tgs.length]?=some x:=by
   have:(tgs++hideN mask 0 X.N)[i]?=some x:=h1
   rw [List.getElem?_append_right hi] at this
   exact this
  have h2':(maskS mask σ)[i - tgs.length]?=some (some v):=by
   unfold entS at h2
   rw [List.getElem?_append_right (by simpa using hi)] at h2
   simpa using h2
  obtain ⟨g1,g2⟩:=mask_get mask 0 X.N σ _ v h2'
  rw [g2] at h1'
  have hxm:x ∈ tgs++hideN mask 0 X.N:=List.mem_of_getElem? (show (tgs++hideN mask 0 X.N)[i]?=some x from h1)
  have hxt:x ∉ tgs:=fun z=>by
   have nd:=C.nd
   rw [List.nodup_append] at nd
   exact nd.2.2 x z x (List.mem_of_getElem? (by rw [g2]; exact h1')) rfl
  have hfree:(x,NameKind.free) ∈ scope.names:=by
   rcases h3 with z | z | z
   ·exfalso
    have e:(relabel scope X.env).names.lookup x=some .local:=z
    have e2:=relabelS_look X.env.scope x scope.names
    have e3:(relabel scope X.env).names.lookup x=(scope.names.lookup x).map fun k=>if (k == NameKind.free && X.env.scope.kind == .function && X.env.scope.names.lookup x == some .cell) then NameKind.cell else k:=e2
    rw [e3] at e
    cases q:scope.names.lookup x with
    | none=>rw [q] at e; cases e
    | some k =>
     rw [q] at e
     have hm:=PySem.mem_of_lookup q
     have kl:k=.local:=by
      cases k with
      | «local»=>rfl
      | free=>simp at e; split at e<;>cases e
      | _=>simp at e
     subst kl
     rcases C.loc _ hm rfl with z | z
     ·exact hxt z
     ·exact C.no0 (z▸hxm)
   ·exact C.kindCF (.inl z)
   ·exact C.kindCF (.inr z)
  obtain ⟨m,hnm,hl⟩:=I.loc
  have vis:Vis X.env.scope x:=.inr (C.free _ hfree rfl)
  obtain ⟨u,r,l⟩:=hl _ x v h1' g1 vis
  refine ⟨u,r,?_⟩
  rcases l with ⟨k,_⟩ | ⟨_,c,hc,hcell⟩
  ·exfalso
   have k':X.env.scope.names.lookup x=some .local:=k
   rcases C.free _ hfree rfl with z | z
   ·have z':X.env.scope.names.lookup x=some .cell:=z
    rw [k'] at z'; cases z'
   ·have z':X.env.scope.names.lookup x=some .free:=z
    rw [k'] at z'; cases z'
  ·obtain ⟨c',hc'⟩:=clOf_has (env:=X.env) scope.names [] (.inr hfree)
   have:c'=c:=by
    have:=look x c' hc'
    rw [hc] at this; exact (Option.some.inj this).symm
   subst this
   refine .inr ⟨?_,c',hc',?_⟩
   ·rcases h3 with z | z | z
    ·exfalso
     have e:(relabel scope X.env).names.lookup x=some .local:=z
     have e2:=relabelS_look X.env.scope x scope.names
     have e3:(relabel scope X.env).names.lookup x=(scope.names.lookup x).map fun k=>if (k == NameKind.free && X.env.scope.kind == .function && X.env.scope.names.lookup x == some .cell) then NameKind.cell else k:=e2
     rw [e3] at e
     cases q:scope.names.lookup x with
     | none=>rw [q] at e; cases e
     | some k =>
      rw [q] at e
      have hm:=PySem.mem_of_lookup q
      have kl:k=.local:=by
       cases k with
       | «local»=>rfl
       | free=>simp at e; split at e<;>cases e
       | _=>simp at e
      subst kl
      rcases C.loc _ hm rfl with z | z
      ·exact hxt z
      ·exact C.no0 (z▸hxm)
    ·exact .inl z
    ·exact .inr z
   ·obtain ⟨o,ho,hd⟩:=hcell
    exact ⟨o,kept _ _ ho,hd⟩
 ·obtain ⟨v,o,ho,hd⟩:=I.cell x c (look x c h)
  exact ⟨v,o,kept _ _ ho,hd⟩
 ·show (entS tgs.length mask σ).length=(tgs++hideN mask 0 X.N).length
  unfold entS
  rw [List.length_append,List.length_append,List.length_replicate,maskS_len,hideN_len,I.len]
end
end L2
namespace L2
open PySem PySem.Spec PyProof.Rows
section
variable {X:Cx} {pins:List (Addr × Obj)} {σ σ':St} {H H':Hp} {s s':Shared} {scope:Scope} {tgs:List Str} {mask:List Bool} {ex:List Addr} {D:Addr} {acc:List V} {its:List Value}
theorem comp_leave (I:Inv X pins σ H s) (hex:∀ b ∈ ex,FpOk X pins H b/\b < s.heap.objs.size) (hD:D ∈ ex) (J:Inv (cxComp X scope tgs mask s H ex) [] σ' H' s') (hD':H' D=none) (hv:Vals acc its) (hz:acc.length<=sizeLine)
  (hl:s'.heap.PlainList D its.toArray) {h'':Heap} (hs:Heap.SameBut s.heap.objs.size s'.heap h''):Inv X pins σ (upd H' D (.lst acc)) { s' with heap:=h'' }:=by
 have un:Un (frs X.stack) ex H H' s.heap s'.heap:=J.base
 have neC:∀ b o,s.heap.get? b=some o->b≠s.heap.objs.size:=fun b o e=>Nat.ne_of_lt (Heap.lt_size e)
 have fD:=hex D hD
 have lC:H' s.heap.objs.size=none:=J.free
 have DC:D≠s.heap.objs.size:=Nat.ne_of_lt fD.2
 have go:∀ b u,b≠s.heap.objs.size->s'.heap.get? b=some u->h''.get? b=some u:=fun b u nb e=>hs.extBut b u nb e
 refine I.call' (s':={ s' with heap:=h'' }) (ch:=ex) J.os ⟨fun b o e n hb hx=>?_,fun b o e n hb hx=>?_,fun b o e n hx=>?_,fun b o e hx=>?_,fun b xs e=>?_,fun b o u e=>?_,fun b ps e=>?_⟩ ?_ J.bare fun b hb=>?_
 ·exact go b o (neC b o e) (un.keep b o e n hb hx)
 ·obtain ⟨sl,q⟩:=un.slot b o e n hb hx
  exact ⟨sl,go b _ (neC b o e) q⟩
 ·have q:=un.free b o e n hx
  rw [upd_ne (fun (z:b=D)=>hx (by rw [z]; exact hD))]
  exact q
 ·obtain ⟨o',q⟩:=un.there b o e hx
  exact ⟨o',go b o' (neC b o e) q⟩
 ·rw [upd_ne (ne_of_none (un.tups b xs e) hD')]
  exact un.tups b xs e
 ·rw [upd_ne (ne_of_none (un.frzs b o u e) hD')]
  exact un.frzs b o u e
 ·obtain ⟨more,q⟩:=un.tbls b ps e
  exact ⟨more,by rw [upd_ne (ne_of_none q hD')]; exact q⟩
 ·intro b u e
  by_cases hb:b=D
  ·subst hb
   rw [upd_same] at e
   cases e
   obtain ⟨n,q⟩:=hl
   exact ⟨hz,its,n,hv,go _ _ DC q⟩
  ·rw [upd_ne hb] at e
   refine (J.hok b u e).stay (fun c v hc q=>go c v ?_ q) (fun c q=>?_) fun c xs q=>?_
   ·rintro rfl
    rcases hc with z | z
    ·subst z; rw [lC] at e; cases e
    ·rw [lC] at z; cases z
   ·rw [upd_ne (ne_of_none q hD')]; exact q
   ·rw [upd_ne (ne_of_none q hD')]; exact q
 ·obtain ⟨⟨f0,f1,f2,f3,f4,f5⟩,_⟩:=hex b hb
  exact ⟨f3,f1,f4,f5⟩
end
noncomputable def PIf (X:Cx) (ifs:List Expr) (t:TT):Prop:=∀ (pins:List (Addr × Obj)) (s:Shared) (σ:St) (H:Hp) (Q:Bool->Hp->Prop),Inv X pins σ H s->t σ H Q ->
 wpAny (model X.prog X.w) X.A (forIn ifs true fun c r=>if r=true then do let ok <- isTrue c X.env (eval c X.env); pure (ForInStep.yield ok) else pure (ForInStep.yield r)) (TP X pins σ Q) X.xe s
theorem pif_nil {X:Cx}:PIf X [] (fun _ H Q=>Q true H):=fun pins s σ H Q I h=>by
 rw [List.forIn_nil]
 exact wpAny_pure ⟨H,I,h⟩
theorem pif_one {X:Cx} {c:Expr} {t:TT} (hc:PT X c t):PIf X [c] t:=fun pins s σ H Q I h=>by
 rw [List.forIn_cons]
 simp only [if_true]
 refine wpAny_bind (wpAny_bind (thn (hc pins s σ H Q I h) fun b s1 q=>wpAny_pure ?_))
 dsimp only
 rw [List.forIn_nil]
 exact wpAny_pure q
theorem codeAny_compLoop_go {prog:Program} {w:World} {A:Around} {R:Result->Shared->Prop} {s:Shared} {elt target iter:Expr} {ifs:List Expr} {scope:Scope} {pos:Pos} {it acc:Value} {env:Env} (I:Nat->Shared->Prop)
  (turn:∀ n s,I n s->wpAny (model prog w) A (pyNext it) (fun r s₁=>match r with
   | none=>R (.ok .next) s₁
   | some v=>wpAny (model prog w) A (letOwnedTupleGo target it v) (fun _ s₁'=>wpAny (model prog w) A (assign target env v) (fun _ s₂ =>
     wpAny (model prog w) A (forIn ifs true fun c r=>if r=true then do let ok <- isTrue c env (eval c env); pure (ForInStep.yield ok) else pure (ForInStep.yield r)) (fun ok s₃ =>
      if ok=true then wpAny (model prog w) A (eval elt env) (fun x s₄ =>
       wpAny (model prog w) A (call (.builtin "list.append") [acc,x]) (fun _ s₅=>∃ m,m < n/\I m s₅) (fun _ _=>False) s₄) (fun _ _=>False) s₃
      else ∃ m,m < n/\I m s₃) (fun _ _=>False) s₂) (fun _ _=>False) s₁') (fun _ _=>False) s₁) (fun _ _=>False) s)
  (n:Nat) (h:I n s) :
  codeAny (model prog w) A (.compLoop (.ListComp elt [⟨target,iter,ifs,0⟩] scope pos) 0 it acc env) R s:=by
 refine codeAny_loop rfl I (fun n s hI=>?_) n h
 show wpAny _ A ((compTurn (.ListComp elt [⟨target,iter,ifs,0⟩] scope pos) 0 it acc env).onRaise (fun x=>do noteFrame x env; theTreesLotGoes x)) _ _ s
 refine wpAny_noted ?_
 rw [compTurn_list]
 refine wpAny_bind (wpAny_standAt (wpAny_bind (wpAny_mono (turn n s hI) (fun r s₁ h₁=>?_) fun _ _ h'=>h'.elim)))
 cases r with
 | none=>exact wpAny_pure h₁
 | some v =>
  refine wpAny_bind (wpAny_mono h₁ (fun _ s₁' h₁'=>?_) fun _ _ h'=>h'.elim)
  refine wpAny_bind (wpAny_mono h₁' (fun _ s₂ h₂=>wpAny_bind (wpAny_mono h₂ (fun ok s₃ h₃=>?_) fun _ _ h'=>h'.elim)) fun _ _ h'=>h'.elim)
  cases ok with
  | false=>exact wpAny_pure ⟨rfl,h₃⟩
  | true =>
   exact wpAny_bind (wpAny_bind (wpAny_mono h₃ (fun x s₄ h₄=>wpAny_bind (wpAny_mono h₄ (fun _ s₅ h₅=>wpAny_pure (wpAny_pure ⟨rfl,h₅⟩)) fun _ _ h'=>h'.elim)) fun _ _ h'=>h'.elim))
noncomputable def tComp (wi:TI) (g:TG) (tc:TT) (te:TE) (k:Nat) (mask:List Bool):TE:=fun σ H Q=>wi σ H fun J H1=>∃ W:Nat->Nat->List V->St->Hp->Prop,(∃ m,W 0 m [] (entS k mask σ) H1) /\
 ∀ i m acc σ' H',W i m acc σ' H'->(J.stop i H'/\acc.length<=sizeLine/\∀ p,H' p=none->Q (.ref p) (upd H' p (.lst acc))) ∨
  (J.go i H'/\∀ x H2,J.yld i H' x H2->g x σ' H2 fun σ3 H3=>tc σ3 H3 fun b H4=>if b=true then te σ3 H4 fun y H5=>acc.length < sizeLine/\∃ m',m' < m/\W (i+1) m' (acc++[y]) σ3 H5 else ∃ m',m' < m/\W (i+1) m' acc σ3 H4)
noncomputable def FrOk (X:Cx) (pins:List (Addr × Obj)) (H:Hp) (s:Shared) (C:Addr):Prop :=
 H C=none/\C≠X.env.locals/\X.s₀.heap.objs.size<=C/\(∀ x c,X.env.cells.lookup x=some c->c≠C)/\(∀ p ∈ X.pn++pins,p.1≠C)/\∃ m,s.heap.Ns C m
theorem comp_gen {X:Cx} {elt tg iter:Expr} {ifs:List Expr} {scope:Scope} {pos pos':Pos} {wi:TI} {g:TG} {tc:TT} {te:TE} {tgs:List Str} {mask:List Bool} {use:Option (Value->Sem Unit)} (hc:X.calm=true) (hi:PI X tg iter wi) (C:CompSt X.N X.env.scope scope tgs mask)
  (inner:∀ s H ex,PG (cxComp X scope tgs mask s H ex) tg g/\PIf (cxComp X scope tgs mask s H ex) ifs tc/\PE (cxComp X scope tgs mask s H ex) elt te)
  (hs:∀ x,foldedSetIterable iter X.env x=pure x) {pins:List (Addr × Obj)} {s:Shared} {σ:St} {H:Hp} {Q:VK} {QQ:Value->Shared->Prop} (I:Inv X pins σ H s) (h:tComp wi g tc te tgs.length mask σ H Q)
  (fin:∀ (D:Addr) (H':Hp) (s6:Shared) (F:Addr),Inv X pins σ H' s6->FrOk X pins H' s6 F->Q (.ref D) H'->compPost (model X.prog X.w) X.A X.xe use QQ (.ref D) F (.ok .next) s6) :
  wpAny (model X.prog X.w) X.A (comprehension (.ListComp elt [⟨tg,iter,ifs,0⟩] scope pos) scope X.env pos' (newList []) false (eval iter X.env) use) QQ X.xe s:=by
 refine wpAny_comprehension_free (use:=use) rfl hs (closure_eq (C.cells I.ok)) C.kind C.names (thn (hi pins s σ H _ I h) fun v s1 h1=>thn h1 fun itv s2 h2=>?_)
 obtain ⟨it,fp,tn,J,H2,e,I2,T,st2,f2,W,⟨m0,w0⟩,turn⟩:=h2
 subst e
 refine wpAny_newObj_type ?_
 have I3:Inv X pins σ H2 { s2 with heap:=s2.heap.push { cls:=.type "list",data:=.seq ([]:List Value).toArray } }:=I2.kept (t':=s2.toks) fun b o e=>Heap.get?_push_of_some _ e
 generalize hS:({ s2 with heap:=s2.heap.push { cls:=.type "list",data:=.seq ([]:List Value).toArray } }:Shared)=s3 at I3
 have sz3:s3.heap.objs.size=s2.heap.objs.size+1:=by rw [<- hS]; exact Heap.size_push ..
 have lst3:s3.heap.PlainList s2.heap.objs.size ([]:List Value).toArray:=⟨0,by rw [<- hS]; exact Heap.get?_push_size _ rfl⟩
 have old3:∀ b o,s2.heap.get? b=some o->s3.heap.get? b=some o:=fun b o e=>by rw [<- hS]; exact Heap.get?_push_of_some _ e
 generalize hDd:s2.heap.objs.size=D at sz3 lst3
 have fD:FpOk X pins H2 D:=by rw [<- hDd]; exact I2.fpOk (Nat.le_refl _) (I2.hok.fresh (Nat.le_refl _))
 have fpl:∀ b ∈ fp,b < D:=fun b hb=>by
  obtain ⟨o,e,_⟩:=T.obj _ _ st2 b hb
  rw [<- hDd]
  exact Heap.lt_size e
 have hex:∀ b ∈ D::fp,FpOk X pins H2 b/\b < s3.heap.objs.size:=fun b hb=>by
  rcases List.mem_cons.mp hb with z | z
  ·subst z; exact ⟨fD,by rw [sz3]; exact Nat.lt_succ_self _⟩
  ·exact ⟨f2 b z,by rw [sz3]; exact Nat.lt_succ_of_lt (fpl b z)⟩
 refine wpAny_newFunctionEnv C.nocell (by intro y hy; simp at hy) (fun h' hn hsb=>?_) C.kind
 have J0:Inv (cxComp X scope tgs mask s3 H2 (D::fp)) [] (entS tgs.length mask σ) H2 { s3 with heap:=h',toks:=s3.toks+([]:List (Str × Value)).length }:=comp_start I3 C hex hn hsb
 have kept:∀ b u,s3.heap.get? b=some u->h'.get? b=some u:=fun b u e=>hsb.extBut b u (Nat.ne_of_lt (Heap.lt_size e)) (Heap.get?_push_of_some _ e)
 obtain ⟨pg,pf,pl⟩:=inner s3 H2 (D::fp)
 have loop:∀ s4:Shared,s4={ s3 with heap:=h',toks:=s3.toks+([]:List (Str × Value)).length } ->
   codeAny (model X.prog X.w) X.A (.compLoop (.ListComp elt [⟨tg,iter,ifs,0⟩] scope pos) 0 (.ref it) (.ref D) (compEnvC scope (clOf X.env scope.names []) s3.heap.objs.size X.env))
    (compPost (model X.prog X.w) X.A X.xe use QQ (.ref D) s3.heap.objs.size) s4:=by
  rintro s4 rfl
  have exok:∀ {H':Hp},(∀ b ∈ D::fp,H' b=none)->∀ (pp:List (Addr × Obj)),(∀ p ∈ pp,p.1 ∉ fp)->∀ b ∈ fp,FpOk (cxComp X scope tgs mask s3 H2 (D::fp)) pp H' b:=fun {H'} hn pp hpp b hb=>by
   have g:=J0.ok.exf b (List.mem_cons_of_mem _ hb)
   exact ⟨hn b (List.mem_cons_of_mem _ hb),g.1,J0.ok.exfs b (List.mem_cons_of_mem _ hb),.inl (List.mem_cons_of_mem _ hb),g.2,fun p hp z=>hpp p (by simpa [cxComp] using hp) (z▸hb)⟩
  have DX:=J0.ok.exf D List.mem_cons_self
  have Dfp:D ∉ fp:=fun z=>Nat.lt_irrefl _ (fpl D z)
  refine codeAny_compLoop_go (fun n s'=>∃ i σ' H' acc its,Inv (cxComp X scope tgs mask s3 H2 (D::fp)) [] σ' H' s'/\tn i s'.heap/\(∀ b ∈ D::fp,H' b=none)/\Vals acc its/\s'.heap.PlainList D its.toArray/\W i n acc σ' H') ?_ m0
   ⟨0,_,H2,[],[],J0,T.keep _ _ _ (T.keep _ _ _ st2 fun b hb o e=>old3 b o e) fun b hb o e=>kept b o e,fun b hb=>((hex b hb).1).1,.nil,lst3.at fun o e=>kept _ _ e,w0⟩
  rintro n s5 ⟨i,σ5,H5,acc,its,I5,st5,fr5,va5,ls5,w5⟩
  obtain ⟨nL,lo⟩:=id ls5
  have pinD:∀ {σ':St} {H':Hp} {s':Shared},Inv (cxComp X scope tgs mask s3 H2 (D::fp)) [] σ' H' s'->(∀ b ∈ D::fp,H' b=none)->s'.heap.get? D=some { cls:=.type "list",dict:=none,data:=.seq its.toArray nL } ->
    Inv (cxComp X scope tgs mask s3 H2 (D::fp)) [(D,{ cls:=.type "list",dict:=none,data:=.seq its.toArray nL })] σ' H' s':=fun {σ' H' s'} I' fr' e' =>
   I'.pins_of fun p hp=>by
    have e:p=(D,{ cls:=.type "list",dict:=none,data:=.seq its.toArray nL }):=by simpa using hp
    subst e
    exact ⟨e',fr' D List.mem_cons_self,DX.1,J0.ok.exfs D List.mem_cons_self,fun v z=>by cases z⟩
  have hppD:∀ p ∈ [(D,({ cls:=.type "list",dict:=none,data:=.seq its.toArray nL }:Obj))],p.1 ∉ fp:=fun p hp=>by
   have e:p=(D,{ cls:=.type "list",dict:=none,data:=.seq its.toArray nL }):=by simpa using hp
   subst e
   exact Dfp
  have I5':=pinD I5 fr5 lo
  rcases turn i n acc σ5 H5 w5 with ⟨stop,hz,qn⟩ | ⟨go,step⟩
  ·refine thn (T.done (cxComp X scope tgs mask s3 H2 (D::fp)) rfl rfl rfl hc i _ s5 σ5 H5 (fun _ _=>False) I5' (exok fr5 _ hppD) st5 stop) fun r s6 ⟨hr,I6⟩=>?_
   subst hr
   obtain ⟨m6,hn6,_⟩:=I6.loc
   have l6:s6.heap.PlainList D its.toArray:=⟨nL,(I6.pin _ (List.mem_append_right _ (List.mem_singleton.mpr rfl))).1⟩
   have I6':Inv (cxComp X scope tgs mask s3 H2 (D::fp)) [] σ5 H5 s6:=I6.pins_of fun p hp=>by simp at hp
   have Iout:Inv X pins σ (upd H5 D (.lst acc)) s6:=comp_leave I3 hex List.mem_cons_self I6' (fr5 D List.mem_cons_self) va5 hz l6 (Heap.SameBut.refl _ _)
   have lC:H5 s3.heap.objs.size=none:=I6'.free
   refine fin D _ s6 s3.heap.objs.size Iout ⟨?_,Nat.ne_of_gt I3.lt,I3.sz,fun x c e z=>?_,fun p hp z=>?_,m6,hn6⟩ (qn D (fr5 D List.mem_cons_self))
   ·rw [upd_ne (fun (z:s3.heap.objs.size=D)=>absurd (hex D List.mem_cons_self).2 (by rw [z]; exact Nat.lt_irrefl _))]
    exact lC
   ·obtain ⟨v,q⟩:=I3.cell x c e
    exact absurd q.lt (by rw [z]; exact Nat.lt_irrefl _)
   ·exact absurd (Heap.lt_size (I3.pin p hp).1) (by rw [z]; exact Nat.lt_irrefl _)
  ·refine thn (T.item (cxComp X scope tgs mask s3 H2 (D::fp)) rfl rfl rfl hc i _ s5 σ5 H5 (fun _ _=>False) I5' (exok fr5 _ hppD) st5 go) fun r s6 ⟨u,hr,h6⟩=>?_
   subst hr
   refine thn h6 fun _ s7 ⟨x,H7,I7,r7,y7,st7,fr7⟩=>?_
   have hD7:=(I7.pin _ (List.mem_append_right _ (List.mem_singleton.mpr rfl)))
   have fr7':∀ b ∈ D::fp,H7 b=none:=fun b hb=>by
    rcases List.mem_cons.mp hb with z | z
    ·subst z; exact hD7.2.1
    ·exact fr7 b z
   have I7':=I7.pinned (exok fr7' _ hppD) (T.obj _ _ st7)
   have bk:∀ {σ':St} {H':Hp} {s':Shared},Inv (cxComp X scope tgs mask s3 H2 (D::fp)) ([(D,{ cls:=.type "list",dict:=none,data:=.seq its.toArray nL })]++pinsAt fp s7.heap) σ' H' s' ->
     s'.heap.get? D=some { cls:=.type "list",dict:=none,data:=.seq its.toArray nL }/\tn (i+1) s'.heap/\(∀ b ∈ D::fp,H' b=none):=fun {σ' H' s'} I'=>by
    have hD:=I'.pin (D,{ cls:=.type "list",dict:=none,data:=.seq its.toArray nL }) (List.mem_append_right _ (List.mem_append_left _ (List.mem_singleton.mpr rfl)))
    refine ⟨hD.1,T.keep _ _ _ st7 fun b hb o e=>(I'.pin (b,o) (List.mem_append_right _ (List.mem_append_right _ (mem_pinsAt hb e)))).1,fun b hb=>?_⟩
    rcases List.mem_cons.mp hb with z | z
    ·subst z; exact hD.2.1
    ·obtain ⟨o,e,_⟩:=T.obj _ _ st7 b z
     exact (I'.pin (b,o) (List.mem_append_right _ (List.mem_append_right _ (mem_pinsAt z e)))).2.1
   refine thn (pg _ s7 σ5 H7 x u _ I7' r7 (step x H7 y7)) fun _ s8 ⟨σ8,H8,I8,q8⟩=>?_
   refine thn (pf _ s8 σ8 H8 _ I8 q8) fun ok s9 ⟨H9,I9,q9⟩=>?_
   cases ok with
   | false =>
    obtain ⟨m',hm,w'⟩:=q9
    obtain ⟨b1,b2,b3⟩:=bk I9
    exact ⟨m',hm,i+1,σ8,H9,acc,its,I9.pins_of fun p hp=>by simp at hp,b2,b3,va5,⟨nL,b1⟩,w'⟩
   | true =>
    refine thn (pl _ s9 σ8 H9 _ I9 q9) fun y s10 ⟨yv,H10,I10,r10,hz,m',hm,w'⟩=>?_
    obtain ⟨b1,b2,b3⟩:=bk I10
    have hlen:=va5.length
    refine wpAny_list_append_plain (hsz:=by rw [List.size_toArray]; omega) (show s10.heap.PlainList D its.toArray from ⟨nL,b1⟩) fun h11 hl11 hs11=>?_
    refine ⟨m',hm,i+1,σ8,H10,acc++[yv],its++[y],?_,T.keep _ _ _ b2 fun b hb o e=>(hs11.2 b (fun z=>Dfp (z▸hb))).trans e,b3,va5.append (.cons r10 .nil),by simpa using hl11,w'⟩
    have I10':Inv (cxComp X scope tgs mask s3 H2 (D::fp)) [] σ8 H10 s10:=I10.pins_of fun p hp=>by simp at hp
    exact I10'.turned (t':=s10.toks) (fun b o hb e=>(hs11.2 b hb).trans e) (b3 D List.mem_cons_self) DX.1 (.inl List.mem_cons_self) DX.2 fun p hp=>by simp [cxComp] at hp
 refine codeAny_compStart_list (loop _ rfl) (T.self X.A 0 _ _ _ (T.keep _ _ _ (T.keep _ _ _ st2 fun b hb o e=>old3 b o e) fun b hb o e=>kept b o e) (loop _ rfl))
theorem frame_gone {X:Cx} {pins:List (Addr × Obj)} {σ:St} {H:Hp} {s:Shared} {F:Addr} (I:Inv X pins σ H s) (f:FrOk X pins H s F) {h':Heap} (hs:Heap.SameBut F s.heap h'):Inv X pins σ H { s with heap:=h' }:=by
 obtain ⟨f0,f1,f2,f3,f4,_⟩:=f
 exact I.turned (t':=s.toks) (fun b o hb e=>(hs.2 b hb).trans e) f0 f1 (.inr f2) f3 f4
theorem pe_comp {X:Cx} {elt tg iter:Expr} {ifs:List Expr} {scope:Scope} {pos:Pos} {wi:TI} {g:TG} {tc:TT} {te:TE} {tgs:List Str} {mask:List Bool} (hc:X.calm=true) (hi:PI X tg iter wi) (C:CompSt X.N X.env.scope scope tgs mask)
  (inner:∀ s H ex,PG (cxComp X scope tgs mask s H ex) tg g/\PIf (cxComp X scope tgs mask s H ex) ifs tc/\PE (cxComp X scope tgs mask s H ex) elt te)
  (hs:∀ x,foldedSetIterable iter X.env x=pure x:=by intro _; rfl):PE X (.ListComp elt [⟨tg,iter,ifs,0⟩] scope pos) (tComp wi g tc te tgs.length mask):=by
 intro pins s σ H Q I h
 rw [eval_ListComp]
 refine comp_gen hc hi C inner hs I h fun D H' s6 F I6 f q=>?_
 obtain ⟨m,hn⟩:=f.2.2.2.2.2
 exact ⟨m,hn,fun h' hs'=>⟨.ref D,H',frame_gone I6 f hs',rfl,q⟩⟩
end L2
namespace L2.L3
open PySem PySem.Spec PyProof.Rows
noncomputable def rAdd (K:PySem.W.Frag):R2:=fun x y H Q=>match x,y with
 | .int i,.int j=>Q (.int (i+j)) H
 | .str a,.str b=>a.length+b.length<=sizeLine/\Q (.str (a++b)) H
 | .ref a,.ref b=>(∃ xs ys,SqL K H a xs/\SqL K H b ys/\xs.length+ys.length<=sizeLine/\∀ p,H p=none->Q (.ref p) (upd H p (.lst (xs++ys))))∨rCatT K (.ref a) (.ref b) H Q
 | _,_=>False
noncomputable def rSub:R2:=fun x y H Q=>match x,y with
 | .int i,.int j=>Q (.int (i - j)) H
 | _,_=>False
noncomputable def repS (x:Str) (n:Int):Str:=Txt.mul x n
noncomputable def rMul (K:PySem.W.Frag):R2:=fun x y H Q=>match x,y with
 | .int i,.int j=>IntMulOk i j/\Q (.int (i * j)) H
 | .str a,.int k=>(-(2 ^ 31)<=k/\k < 2 ^ 31/\a.length * k.toNat<=sizeLine)/\Q (.str (repS a k)) H
 | .ref a,.int k=>∃ xs,SqL K H a xs/\(-(2 ^ 31)<=k/\k < 2 ^ 31/\xs.length * k.toNat<=sizeLine)/\∀ p,H p=none->Q (.ref p) (upd H p (.lst (List.replicate k.toNat xs).flatten))
 | _,_=>False
noncomputable def rFdiv:R2:=fun x y H Q=>match x,y with
 | .int i,.int j=>(0 < j/\j < 2 ^ 200)/\Q (.int (i / j)) H
 | _,_=>False
noncomputable def rMod:R2:=fun x y H Q=>match x,y with
 | .int i,.int j=>0 < j/\Q (.int (i % j)) H
 | _,_=>False
noncomputable def rPow:R2:=fun x y H Q=>match x,y with
 | .int i,.int j=>CPow i j/\Q (.int (i ^ j.toNat)) H
 | _,_=>False
section
variable {X:Cx}
theorem op_add:OpR X (binaryOp .Add) (rAdd X.K):=by
 intro pins s σ H x y v u Q I rx ry h
 cases x with
 | int i =>
  cases y with
  | int j=>exact _root_.L2.op_add pins s σ H _ _ v u Q I rx ry ⟨i,j,rfl,rfl,h⟩
  | _=>exact False.elim h
 | str a =>
  cases y with
  | str b=>exact op_add_str pins s σ H _ _ v u Q I rx ry ⟨a,b,rfl,rfl,h.1,h.2⟩
  | _=>exact False.elim h
 | ref a =>
  cases y with
  | ref b =>
   rcases h with ⟨xs,ys,hx,hy,hz,q⟩ | h
   ·cases rx
    cases ry
    obtain ⟨its,r,⟨⟨cls,dd,data,sl⟩,n1,e1,c1,d1,s1⟩,z1⟩:=I.list hx
    obtain ⟨its2,r2,⟨⟨cls2,dd2,data2,sl2⟩,n2,e2,c2,d2,s2⟩,z2⟩:=I.list hy
    simp only at c1 s1 c2 s2
    subst c1 s1 c2 s2
    have hl:=r.length
    have hl2:=r2.length
    refine concat_meets ⟨_,e1,rfl⟩ ⟨_,e2,rfl⟩ noFill_list_add seq_list_add PySem.F.slot_list_add PySem.F.entry_list_add (PySem.F.args_list_add_2 _ _) (list_addW a b its.toArray its2.toArray n1 n2 dd dd2 sl sl2 (by simp; omega)) ⟨e1,e2,?_⟩
    have ea:its.toArray++its2.toArray=(its++its2).toArray:=by simp
    rw [ea]
    exact ⟨.ref _,_,I.lnew (t':=s.toks) (r.append r2) (by rw [List.length_append]; omega),rfl,q _ I.fresh⟩
   ·exact op_catT pins s σ H _ _ v u Q I rx ry h
  | _=>exact False.elim h
 | _=>exact False.elim h
theorem op_sub:OpR X (binaryOp .Sub) rSub:=by
 intro pins s σ H x y v u Q I rx ry h
 cases x with
 | int i =>
  cases y with
  | int j=>exact _root_.L2.op_sub pins s σ H _ _ v u Q I rx ry ⟨i,j,rfl,rfl,h⟩
  | _=>exact False.elim h
 | _=>exact False.elim h
theorem op_fdiv:OpR X (binaryOp .FloorDiv) rFdiv:=by
 intro pins s σ H x y v u Q I rx ry h
 cases x with
 | int i =>
  cases y with
  | int j =>
   obtain ⟨t,rfl⟩:=rx
   obtain ⟨t',rfl⟩:=ry
   obtain ⟨⟨h1,h2⟩,q⟩:=h
   refine floordiv_int (by omega) ?_ (.inl (PyProof.noPylong_of_log2 ?_))
   ·rw [Int.fdiv_eq_ediv_of_nonneg i (by omega)]
    exact ⟨.int _,H,I.tok _,⟨_,rfl⟩,q⟩
   ·have:j.natAbs < 2 ^ 200:=by omega
    have:=(Nat.log2_lt (show j.natAbs≠0 by omega)).mpr this
    omega
  | _=>exact False.elim h
 | _=>exact False.elim h
theorem op_mod:OpR X (binaryOp .Mod) rMod:=by
 intro pins s σ H x y v u Q I rx ry h
 cases x with
 | int i =>
  cases y with
  | int j=>exact _root_.L2.op_mod pins s σ H _ _ v u Q I rx ry ⟨i,j,rfl,rfl,h.1,h.2⟩
  | _=>exact False.elim h
 | _=>exact False.elim h
theorem op_pow:OpR X (binaryOp .Pow) rPow:=by
 intro pins s σ H x y v u Q I rx ry h
 cases x with
 | int i =>
  cases y with
  | int j=>exact _root_.L2.op_pow pins s σ H _ _ v u Q I rx ry ⟨i,j,rfl,rfl,h.1,h.2⟩
  | _=>exact False.elim h
 | _=>exact False.elim h
theorem irm_lst (i:Int) (t:Tok) (l:Addr) (items:Array Value) (n:Nat) (sl:Array (Option Value)) :
  Meets (Builtin.«int.__rmul__» ⟨[.int i t,.ref l],[]⟩) (fun _ R s=>s.heap.get? l=some ⟨.type "list",none,.seq items n,sl⟩/\R (.ok (.ret Value.notImplemented)) s) :=
 .of_wp fun prog w A R s h=>by
  obtain ⟨hp,g,d,tk,os⟩:=s
  obtain ⟨hl,h⟩:=h
  wp_walk
  exact ⟨_,rfl,h⟩
theorem lmul_n (l:Addr) (items:Array Value) (n:Nat) (sl:Array (Option Value)) (x:Int) (u:Tok) (hc0:¬(!Builtin.List.listFitsIndex x)=true) (hc1:¬items.size * x.toNat > (2 ^ 63 - 1) / 8) (hc2:¬Builtin.List.listTooLong (items.size * x.toNat)=true) :
  Meets (Builtin.«list.__mul__» ⟨[.ref l,.int x u],[]⟩) (fun _ R s=>s.heap.get? l=some ⟨.type "list",none,.seq items n,sl⟩/\R (.ok (.ret (Value.ref s.heap.objs.size))) { s with heap:=s.heap.push { cls:=Value.type "list",data:=Data.seq (List.foldl (fun x1 x2=>x1++x2) #[] (List.replicate (if items.isEmpty=true then 0 else x.toNat) items)) },toks:=s.toks }) :=
 .of_wp fun prog w A R s h=>by
  obtain ⟨hp,g,d,tk,os⟩:=s
  obtain ⟨hl,h⟩:=h
  have hsz:=AutoListH.joined_fits hc2
  wp_walk
  refine wpAny_ite_false (decide_eq_false (Nat.not_lt.mpr hsz)) ?_
  wp_walk
  exact ⟨_,rfl,h⟩
theorem op_lmul {pins:List (Addr × Obj)} {s:Shared} {σ:St} {H:Hp} {l:Addr} {k:Int} {t:Tok} {xs:List V} {Q:VK} (I:Inv X pins σ H s) (hq:SqL X.K H l xs) (h1:-(2 ^ 31)<=k) (h2:k < 2 ^ 31) (hz:xs.length * k.toNat<=sizeLine) (q:∀ p,H p=none->Q (.ref p) (upd H p (.lst (List.replicate k.toNat xs).flatten))) :
  wpAny (model X.prog X.w) X.A (binaryOp .Mult (.ref l) (.int k t)) (EP X pins σ Q) X.xe s:=by
 obtain ⟨its,r,⟨⟨cl,od,dt,sl⟩,n,e,rfl,rfl,rfl⟩,_⟩:=I.list hq
 have hl:=r.length
 have hlen:its.toArray.size * k.toNat<=sizeLine:=by rw [List.size_toArray,<- hl]; exact hz
 have hcap:¬ its.toArray.size * k.toNat > (2 ^ 63 - 1) / 8:=by
  have:(sizeLine:Nat)<=(2 ^ 63 - 1) / 8:=by decide
  omega
 have hfit:¬ (!Builtin.List.listFitsIndex k)=true:=by
  rw [fitsIndex_both (by omega) (by omega)]
  exact Bool.false_ne_true
 have hlong:¬ Builtin.List.listTooLong (its.toArray.size * k.toNat)=true:=by
  rw [notLongL hlen]
  exact Bool.false_ne_true
 have hnew:List.foldl (fun x1 x2=>x1++x2) #[] (List.replicate (if its.toArray.isEmpty=true then 0 else k.toNat) its.toArray)=(List.replicate k.toNat its).flatten.toArray:=by
  have f0:∀ m:Nat,List.foldl (fun x1 x2=>x1++x2) #[] (List.replicate m its.toArray)=(List.replicate m its).flatten.toArray:=fun m=>by
   have:=foldl_rep its m []
   rw [List.nil_append] at this
   exact this
  rw [f0]
  cases its with
  | nil=>simp
  | cons a r'=>rw [if_neg (by simp)]
 refine wpAny_binaryOp_repeat_ref (T:="list") (U:="int") (by decide) ⟨_,e,rfl⟩ (fun s'=>typeIs_int s' k t) noFill_list_mul F.fills_int_mul F.slot_int_rmul repeat_list F.slot_int_index.lookup
  (call_meets F.slot_int_rmul (typeIs_int s k t) F.entry_int_rmul (F.args_int_rmul_2 _ _) (irm_lst k t l its.toArray n sl)
   ⟨e,rfl,⟨_,e,rfl⟩,call_meets F.slot_list_mul ⟨_,e,rfl⟩ F.entry_list_mul (F.args_list_mul_2 _ _) (lmul_n l its.toArray n sl k t hfit hcap hlong) ⟨e,?_⟩⟩)
 rw [hnew]
 exact ⟨.ref _,_,I.lnew (t':=s.toks) (r.rep k.toNat) (by rw [len_rep,Nat.mul_comm]; exact hz),rfl,q _ I.fresh⟩
theorem op_mul:OpR X (binaryOp .Mult) (rMul X.K):=by
 intro pins s σ H x y v u Q I rx ry h
 cases x with
 | int i =>
  cases y with
  | int j =>
   obtain ⟨t,rfl⟩:=rx
   obtain ⟨t',rfl⟩:=ry
   exact mul_int ⟨.int _,H,I.tok _,⟨_,rfl⟩,h.2⟩ h.1
  | _=>exact False.elim h
 | str a =>
  cases y with
  | int k =>
   obtain ⟨t,rfl⟩:=rx
   obtain ⟨t',rfl⟩:=ry
   obtain ⟨⟨h1,h2,h3⟩,q⟩:=h
   refine SB.mul ⟨?_,fun _ _=>?_,fun _ _=>?_⟩ fun t' kk=>⟨.str (repS a k),H,I.tok _,⟨_,rfl⟩,q⟩
   ·have e1:decide (k < -(2 ^ 63:Int))=false:=decide_eq_false (by omega)
    have e2:decide (k ≥ 2 ^ 63)=false:=decide_eq_false (by omega)
    rw [e1,e2]; rfl
   ·have e:(a.length:Int) * k=((a.length * k.toNat:Nat):Int):=by
     rw [Int.natCast_mul,Int.toNat_of_nonneg (by omega)]
    have hz:sizeLine=16777216:=sizeLine_eq
    have:=Int.le_ediv_of_mul_le (a:=(a.length:Int)) (b:=2 ^ 63 - 1) (c:=k) (by omega) (by rw [e]; omega)
    omega
   ·unfold Builtin.Str.tooLong
    exact decide_eq_false (by omega)
  | _=>exact False.elim h
 | ref a =>
  cases y with
  | int k =>
   obtain ⟨xs,hq,⟨h1,h2,h3⟩,q⟩:=h
   cases rx
   obtain ⟨t,rfl⟩:=ry
   exact op_lmul I hq h1 h2 h3 q
  | _=>exact False.elim h
 | _=>exact False.elim h
end
end L2.L3
namespace L2.L3
open PySem PySem.Spec PyProof.Rows
mutual
inductive Rep (K:PySem.W.Frag) (H:Hp):V->PyData->Prop where
 | non:Rep K H .non .none
 | bl (b:Bool):Rep K H (.bl b) (.bool b)
 | int (i:Int):Rep K H (.int i) (.int i)
 | str (x:Str):Rep K H (.str x) (.str x)
 | lst {a:Addr} {xs:List V} {ds:List PyData}:SqL K H a xs->Reps K H xs ds->Rep K H (.ref a) (.list ds)
 | tup {a:Addr} {xs:List V} {ds:List PyData}:SqT K H a xs->Reps K H xs ds->Rep K H (.ref a) (.tuple ds)
inductive Reps (K:PySem.W.Frag) (H:Hp):List V->List PyData->Prop where
 | nil:Reps K H [] []
 | cons {x:V} {d:PyData} {xs:List V} {ds:List PyData}:Rep K H x d->Reps K H xs ds->Reps K H (x::xs) (d::ds)
end
theorem Reps.length {K:PySem.W.Frag} {H:Hp}:∀ {xs:List V} {ds:List PyData},Reps K H xs ds->xs.length=ds.length
 | _,_,.nil=>rfl
 | _,_,.cons _ t=>by rw [List.length_cons,List.length_cons,Reps.length t]
section
variable {X:Cx} {pins:List (Addr × Obj)} {σ:St} {H:Hp} {s:Shared}
mutual
theorem Rep.reads (I:Inv X pins σ H s):∀ {x:V} {d:PyData} {u:Value},Rep X.K H x d->RelV x u->∃ as,Reads s.heap u d as
 | _,_,u,.non,r=>by cases r; exact ⟨_,.none⟩
 | _,_,u,.bl b,r=>by cases r; exact ⟨_,.bool b⟩
 | _,_,u,.int i,r=>by obtain ⟨t,rfl⟩:=r; exact ⟨_,.int i t⟩
 | _,_,u,.str x,r=>by obtain ⟨t,rfl⟩:=r; exact ⟨_,.str x t⟩
 | _,_,u,.lst h q,r=>by
  cases r
  obtain ⟨its,rv,⟨o,n,e,c,_,d⟩,_⟩:=I.list h
  obtain ⟨as,ra⟩:=Reps.reads I q rv
  exact ⟨_,.list e c d (by simpa using ra)⟩
 | _,_,u,.tup h q,r=>by
  cases r
  obtain ⟨its,rv,⟨o,e,c,n,d⟩,_⟩:=I.tuple h
  obtain ⟨as,ra⟩:=Reps.reads I q rv
  exact ⟨_,.tuple e c d (by simpa using ra)⟩
theorem Reps.reads (I:Inv X pins σ H s):∀ {xs:List V} {ds:List PyData} {us:List Value},Reps X.K H xs ds->Vals xs us->∃ as,ReadsAll s.heap us ds as
 | _,_,_,.nil,.nil=>⟨_,.nil⟩
 | _,_,_,.cons h t,.cons r rs=>by
  obtain ⟨as,ra⟩:=Rep.reads I h r
  obtain ⟨bs,rb⟩:=Reps.reads I t rs
  exact ⟨_,.cons ra rb⟩
end
noncomputable def okD (d:PyData):Prop:=d.canLay0=true/\d.depth<=64
noncomputable def rEq (K:PySem.W.Frag) (neg:Bool):R2:=fun x y H Q=>match x,y with
 | .int i,.int j=>Q (.bl (if neg then !decide (i=j) else decide (i=j))) H
 | .str a,.str b=>Q (.bl (if neg then !decide (a=b) else decide (a=b))) H
 | .bl a,.bl b=>Q (.bl (if neg then !decide (a=b) else decide (a=b))) H
 | x,y=>∃ dx dy,Rep K H x dx/\Rep K H y dy/\okD dx/\okD dy/\Q (.bl (if neg then !PyData.eqv dx dy else PyData.eqv dx dy)) H
theorem op_eq (hu:X.A.units+64 < cLine):OpR X (compareOp .Eq) (rEq X.K false):=by
 intro pins s σ H x y v u Q I rx ry h
 have gen:(∃ dx dy,Rep X.K H x dx/\Rep X.K H y dy/\okD dx/\okD dy/\Q (.bl (if false=true then !PyData.eqv dx dy else PyData.eqv dx dy)) H)->wpAny (model X.prog X.w) X.A (compareOp .Eq v u) (EP X pins σ Q) X.xe s:=by
  rintro ⟨dx,dy,h1,h2,⟨o1,o2⟩,⟨o3,o4⟩,q⟩
  obtain ⟨as,ra⟩:=h1.reads I rx
  obtain ⟨bs,rb⟩:=h2.reads I ry
  exact SeqAt.compareEq_reads ra rb o1 o3 (by omega) ⟨.bl _,H,I,rfl,q⟩
 have sc:scal x y=true->Q (.bl (decide (x=y))) H->wpAny (model X.prog X.w) X.A (compareOp .Eq v u) (EP X pins σ Q) X.xe s:=fun h1 h2=>_root_.L2.op_eq pins s σ H x y v u Q I rx ry ⟨h1,h2⟩
 cases x with
 | int i =>
  cases y with
  | int j=>exact sc rfl (by simpa [rEq] using h)
  | _=>exact gen h
 | str a =>
  cases y with
  | str b=>exact sc rfl (by simpa [rEq] using h)
  | _=>exact gen h
 | bl a =>
  cases y with
  | bl b=>exact sc rfl (by simpa [rEq] using h)
  | _=>exact gen h
 | _=>exact gen h
theorem op_ne (hu:X.A.units+64 < cLine):OpR X (compareOp .NotEq) (rEq X.K true):=by
 intro pins s σ H x y v u Q I rx ry h
 have gen:(∃ dx dy,Rep X.K H x dx/\Rep X.K H y dy/\okD dx/\okD dy/\Q (.bl (if true=true then !PyData.eqv dx dy else PyData.eqv dx dy)) H)->wpAny (model X.prog X.w) X.A (compareOp .NotEq v u) (EP X pins σ Q) X.xe s:=by
  rintro ⟨dx,dy,h1,h2,⟨o1,o2⟩,⟨o3,o4⟩,q⟩
  obtain ⟨as,ra⟩:=h1.reads I rx
  obtain ⟨bs,rb⟩:=h2.reads I ry
  exact SeqAt.compareNe_reads ra rb o1 o3 (by omega) ⟨.bl _,H,I,rfl,q⟩
 have sc:scal x y=true->Q (.bl (!decide (x=y))) H->wpAny (model X.prog X.w) X.A (compareOp .NotEq v u) (EP X pins σ Q) X.xe s:=fun h1 h2=>_root_.L2.op_ne pins s σ H x y v u Q I rx ry ⟨h1,h2⟩
 cases x with
 | int i =>
  cases y with
  | int j=>exact sc rfl (by simpa [rEq] using h)
  | _=>exact gen h
 | str a =>
  cases y with
  | str b=>exact sc rfl (by simpa [rEq] using h)
  | _=>exact gen h
 | bl a =>
  cases y with
  | bl b=>exact sc rfl (by simpa [rEq] using h)
  | _=>exact gen h
 | _=>exact gen h
noncomputable def rOrd (f:Int->Int->Bool):R2:=fun x y H Q=>match x,y with
 | .int i,.int j=>Q (.bl (f i j)) H
 | _,_=>False
theorem op_ord {op:CmpOp} {f:Int->Int->Bool} (h0:OpR X (compareOp op) (rI0 fun i j=>.bl (f i j))):OpR X (compareOp op) (rOrd f):=by
 intro pins s σ H x y v u Q I rx ry h
 cases x with
 | int i =>
  cases y with
  | int j=>exact h0 pins s σ H _ _ v u Q I rx ry ⟨i,j,rfl,rfl,h⟩
  | _=>exact False.elim h
 | _=>exact False.elim h
noncomputable def inStr (b a:Str):Bool:=match a.cps.toList with
 | [c]=>decide (c ∈ b.cps.toList)
 | _=>!(Builtin.Str.occurrences b a 0 b.length 1).isEmpty
theorem inStr_eq (b a:Str):inStr b a=!(Builtin.Str.occurrences b a 0 b.length 1).isEmpty:=by
 unfold inStr
 split
 ·rename_i c e
  have ea:a=⟨#[c]⟩:=by
   obtain ⟨cps⟩:=a
   have:cps=#[c]:=by
    apply Array.toList_inj.mp
    simpa using e
   rw [this]
  rw [ea]
  exact (StrLaws.found_one b c).symm
 ·rfl
noncomputable def rInU (K:PySem.W.Frag) (neg:Bool):R2:=fun x y H Q=>match y with
 | .str b=>match x with
  | .str a=>Q (.bl (if neg then !inStr b a else inStr b a)) H
  | _=>False
 | .ref p=>rIn K neg x (.ref p) H Q∨(∃ d ds,Rep K H x d/\(Rep K H (.ref p) (.list ds)∨Rep K H (.ref p) (.tuple ds))/\okD d/\okD (.list ds)/\Q (.bl (if neg then !(ds.any fun y=>PyData.eqv y d) else ds.any fun y=>PyData.eqv y d)) H)
 | _=>False
theorem okD_items {ds:List PyData} (h:okD (.list ds)):PyData.canLayAll0 ds=true/\PyData.depthAll ds<=63:=by
 obtain ⟨h1,h2⟩:=h
 simp only [PyData.canLay0] at h1
 simp only [PyData.depth] at h2
 exact ⟨h1,by omega⟩
theorem op_in (hu:X.A.units+66 < cLine):OpR X (compareOp .In) (rInU X.K false):=by
 intro pins s σ H x y v u Q I rx ry h
 cases y with
 | str b =>
  cases x with
  | str a =>
   refine op_in_str pins s σ H _ _ v u Q I rx ry ⟨a,b,rfl,rfl,?_⟩
   rw [<- inStr_eq]
   simpa [rInU] using h
  | _=>exact False.elim h
 | ref p =>
  rcases h with h | ⟨d,ds,hx,hp,o1,o2,q⟩
  ·exact op_in_seq pins s σ H _ _ v u Q I rx ry h
  ·obtain ⟨as,ra⟩:=hx.reads I rx
   obtain ⟨c1,c2⟩:=okD_items o2
   rcases hp with hp | hp
   ·obtain ⟨bs,rb⟩:=hp.reads I ry
    exact SeqAt.in_list_reads rb ra c1 o1.1 (by omega) ⟨.bl _,H,I,rfl,q⟩
   ·obtain ⟨bs,rb⟩:=hp.reads I ry
    exact SeqAt.in_tuple_reads rb ra c1 o1.1 (by omega) ⟨.bl _,H,I,rfl,q⟩
 | _=>exact False.elim h
theorem op_notin (hu:X.A.units+66 < cLine):OpR X (compareOp .NotIn) (rInU X.K true):=by
 intro pins s σ H x y v u Q I rx ry h
 cases y with
 | str b =>
  cases x with
  | str a =>
   refine op_notin_str pins s σ H _ _ v u Q I rx ry ⟨a,b,rfl,rfl,?_⟩
   rw [<- inStr_eq]
   simpa [rInU] using h
  | _=>exact False.elim h
 | ref p =>
  rcases h with h | ⟨d,ds,hx,hp,o1,o2,q⟩
  ·exact op_notIn_seq pins s σ H _ _ v u Q I rx ry h
  ·obtain ⟨as,ra⟩:=hx.reads I rx
   obtain ⟨c1,c2⟩:=okD_items o2
   rcases hp with hp | hp
   ·obtain ⟨bs,rb⟩:=hp.reads I ry
    exact SeqAt.notIn_list_reads rb ra c1 o1.1 (by omega) ⟨.bl _,H,I,rfl,q⟩
   ·obtain ⟨bs,rb⟩:=hp.reads I ry
    exact SeqAt.notIn_tuple_reads rb ra c1 o1.1 (by omega) ⟨.bl _,H,I,rfl,q⟩
 | _=>exact False.elim h
end
end L2.L3
namespace L2.L3
open PySem PySem.Spec PyProof.Rows
noncomputable def Its (z:Str):It:=⟨fun i _=>i < z.cps.size,fun i H x H'=>H'=H/\∃ c,z.cps[i]?=some c/\x=.str ⟨#[c]⟩,fun i _=>z.cps.size<=i⟩
theorem turn_str {P:Program} {w:World} {K:PySem.W.Frag} {tg:Expr} (it:Addr) (z:Str) (t:Tok):Turn P w K tg (Its z) [it] it (fun i h=>h.IsStrIter it (strIterType z) z t i) where
 mem:=by simp
 obj:=fun i h st b hb=>by
  have e:b=it:=by simpa using hb
  subst e
  obtain ⟨o,e,c,d⟩:=st
  exact ⟨o,e,fun v z=>by rw [d] at z; cases z⟩
 keep:=fun i h h' st k=>by
  obtain ⟨o,e,r⟩:=st
  exact ⟨o,k it (by simp) o e,r⟩
 item:=by
  intro X hP hw hK hc i pins s σ H E I hf st hg
  subst hP hw hK
  obtain ⟨f0,f1,f2,f3,f4,f5⟩:=hf it (by simp)
  have hg':i < z.cps.size:=hg
  obtain ⟨ch,hx⟩:∃ ch,z.cps[i]?=some ch:=⟨_,Array.getElem?_eq_getElem hg'⟩
  have key:∀ h',h'.IsStrIter it (strIterType z) z t (i+1)->Heap.SameBut it s.heap h'->∃ u,some (Value.str ⟨#[ch]⟩ s.toks)=some u /\
    wpAny (model X.prog X.w) X.A (letOwnedTupleGo tg (.ref it) u) (fun _ s2=>∃ x H',Inv X pins σ H' s2/\RelV x u/\(Its z).yld i H x H'/\s2.heap.IsStrIter it (strIterType z) z t (i+1)/\∀ b ∈ [it],H' b=none) E { s with heap:=h',toks:=s.toks+1 }:=fun h' st' sb=>by
   have I1:Inv X pins σ H { s with heap:=h',toks:=s.toks+1 }:=I.turned (fun b o hb e=>(sb.2 b hb).trans e) f0 f1 f3 f4 f5
   obtain ⟨o,e,c,d⟩:=id st'
   refine ⟨_,rfl,go_of (s:={ s with heap:=h',toks:=s.toks+1 }) (n:=strIterType z) e c d ?_ ⟨.str ⟨#[ch]⟩,H,I1,⟨_,rfl⟩,⟨rfl,_,hx,rfl⟩,st',fun b hb=>(hf b hb).1⟩⟩
   unfold strIterType
   split<;>decide
  cases ha:z.cps.all (· < 128) with
  | false =>
   have e1:strIterType z="str_iterator":=by simp [strIterType,ha]
   exact wpAny_pyNext_wide_item (by rw [<- e1]; exact st) hx fun h' st' sb=>key h' (by rw [e1]; exact st') sb
  | true =>
   have e1:strIterType z="str_ascii_iterator":=by simp [strIterType,ha]
   exact wpAny_pyNext_ascii_item (by rw [<- e1]; exact st) hx fun h' st' sb=>key h' (by rw [e1]; exact st') sb
 done:=by
  intro X hP hw hK hc i pins s σ H E I hf st hg
  subst hP hw hK
  obtain ⟨f0,f1,f2,f3,f4,f5⟩:=hf it (by simp)
  have hx:z.cps[i]?=none:=by
   rw [Array.getElem?_eq_none_iff]
   exact hg
  cases ha:z.cps.all (· < 128) with
  | false =>
   have e1:strIterType z="str_iterator":=by simp [strIterType,ha]
   rw [e1] at st
   exact wpAny_pyNext_wide_end (I.ok.hd hc) st hx fun h' eb=>⟨rfl,I.turned (t':=s.toks) (fun b o hb e=>eb b o hb e) f0 f1 f3 f4 f5⟩
  | true =>
   have e1:strIterType z="str_ascii_iterator":=by simp [strIterType,ha]
   rw [e1] at st
   exact wpAny_pyNext_ascii_end (I.ok.hd hc) st hx fun h' eb=>⟨rfl,I.turned (t':=s.toks) (fun b o hb e=>eb b o hb e) f0 f1 f3 f4 f5⟩
 self:=by
  intro A i s Q E st h
  cases ha:z.cps.all (· < 128) with
  | false =>
   have e1:strIterType z="str_iterator":=by simp [strIterType,ha]
   rw [e1] at st
   exact wpAny_pyIter_striter_wide st h
  | true =>
   have e1:strIterType z="str_ascii_iterator":=by simp [strIterType,ha]
   rw [e1] at st
   exact wpAny_pyIter_striter_ascii st h
noncomputable def iVal (K:PySem.W.Frag) (t:TE):TI:=fun σ H R=>t σ H fun v H1=>match v with
 | .str z=>R (Its z) H1
 | .ref a=>((∃ xs,SqL K H1 a xs)/\R (Itl K a) H1)∨((∃ xs,SqT K H1 a xs)/\R (Itt K a) H1)
 | _=>False
section
variable {X:Cx}
theorem bools_of:∀ {bs:List Bool} {us:List Value},Vals (bs.map V.bl) us->∀ (i:Nat) (v:Value),us[i]?=some v->∃ b,bs[i]?=some b/\v=Value.bool b
 | [],_,.nil,i,v,h=>by simp at h
 | b::bs,_,.cons r t,0,v,h=>by
  simp at h
  subst h
  exact ⟨b,by simp,r⟩
 | b::bs,_,.cons r t,i+1,v,h=>by
  obtain ⟨c,h1,h2⟩:=bools_of (bs:=bs) t i v (by simpa using h)
  exact ⟨c,by simpa using h1,h2⟩
theorem range_all (bs:List Bool):(List.range bs.length).all (fun i=>bs.getD i true)=bs.all id:=by
 rw [Bool.eq_iff_iff,List.all_eq_true,List.all_eq_true]
 constructor
 ·intro h b hb
  obtain ⟨i,hi,e⟩:=List.getElem_of_mem hb
  have:=h i (by simpa using hi)
  simp [List.getD,hi,e] at this
  simpa using this
 ·intro h i hi
  have hi':i < bs.length:=by simpa using hi
  have:=h bs[i] (List.getElem_mem hi')
  simpa [List.getD,hi'] using this
noncomputable def rAll (K:PySem.W.Frag):List V->Hp->VK->Prop:=fun vs H Q=>match vs with
 | [.ref a]=>∃ bs:List Bool,SqL K H a (bs.map V.bl)/\Q (.bl (bs.all id)) H
 | _=>False
theorem call_all (hh:X.calm=true):CallR X (.builtin "all") (rAll X.K):=by
 intro pins s σ H xs us Q I r h
 match xs,h with
 | [.ref a],⟨bs,hq,q⟩ =>
  obtain ⟨u,rfl,ru⟩:=vals1 r
  cases ru
  obtain ⟨its,rv,p,hz⟩:=I.list hq
  have hl:=rv.length
  rw [List.length_map] at hl
  refine call_all_walk (wpAny_pyIter_list p.isList ?_)
  have hlt:a < s.heap.objs.size:=by obtain ⟨o,n,e,_⟩:=p; exact Heap.lt_size e
  refine ⟨s.heap.objs.size,_,_,_,_,_,fun i=>bs.getD i true,rfl,Walks.list (A:=X.A.in1) (I.ok.hd hh) s.heap.objs.size a (Nat.ne_of_lt hlt) its.toArray,⟨⟨_,Heap.get?_push_size _ rfl,rfl,rfl⟩,?_⟩,?_,?_⟩
  ·obtain ⟨o,n,e,c,d,sq⟩:=p
   exact ⟨o,Heap.get?_push_of_some _ e,c,n,sq⟩
  ·intro i v s' Q' E' hP hQ'
   obtain ⟨b,hb,rfl⟩:=bools_of rv i v (by simpa using hP)
   refine wpAny_truthy_bool ?_
   have:bs.getD i true=b:=by simp [List.getD,hb]
   rw [<- this]
   exact hQ'
  ·intro h' tk hk
   have e1:(List.range its.toArray.size).all (fun i=>bs.getD i true)=bs.all id:=by
    rw [List.size_toArray,<- hl,range_all]
   rw [e1]
   exact ⟨.bl _,H,I.kept (t':=tk) (fun b o e=>hk b o (by simp; exact Nat.ne_of_lt (Heap.lt_size e)) (Heap.get?_push_of_some _ e)),rfl,q⟩
noncomputable def rLen (K:PySem.W.Frag):List V->Hp->VK->Prop:=fun vs H Q=>match vs with
 | [.str z]=>z.length<=sizeLine/\Q (.int z.length) H
 | [.ref a]=>(∃ xs,SqL K H a xs/\Q (.int xs.length) H)∨(∃ xs,SqT K H a xs/\Q (.int xs.length) H)
 | _=>False
theorem call_len:CallR X (.builtin "len") (rLen X.K):=by
 intro pins s σ H xs us Q I r h
 match xs,h with
 | [.str z],h=>exact call_len_str pins s σ H _ us Q I r ⟨z,rfl,h⟩
 | [.ref a],.inl ⟨xs,hq,q⟩=>exact call_len_seq pins s σ H _ us Q I r ⟨a,xs,rfl,.inl hq,q⟩
 | [.ref a],.inr ⟨xs,hq,q⟩=>exact call_len_seq pins s σ H _ us Q I r ⟨a,xs,rfl,.inr hq,q⟩
noncomputable def cV:V->Option Value
 | .ty n=>some (.type n)
 | .ref C=>some (.ref C)
 | _=>none
noncomputable def TyQ (K:PySem.W.Frag) (H:Hp) (x:V) (t:Value):Prop:=(∃ a xs,x=.ref a/\SqL K H a xs/\t=.type "list")∨∃ a xs,x=.ref a/\SqT K H a xs/\t=.type "tuple"
noncomputable def rIsI (K:PySem.W.Frag):List V->Hp->VK->Prop:=fun vs H Q=>match vs with
 | [x,c]=>∃ t cv b,(TyOf K H x t∨TyQ K H x t)/\cV c=some cv/\PySem.W.kitOne K t cv=some b/\Q (.bl b) H
 | _=>False
theorem call_isi:CallR X (.builtin "isinstance") (rIsI X.K):=by
 intro pins s σ H xs us Q I r h
 match xs,h with
 | [x,c],⟨t,cv,b,ty,hc,hk,q⟩ =>
  obtain ⟨u,w',rfl,ru,rw'⟩:=vals2 r
  have e:w'=cv:=by
   cases c with
   | ty n =>
    have h1:w'=Value.type n:=rw'
    have h2:some (Value.type n)=some cv:=hc
    rw [h1]; exact Option.some.inj h2
   | ref C =>
    have h1:w'=Value.ref C:=rw'
    have h2:some (Value.ref C)=some cv:=hc
    rw [h1]; exact Option.some.inj h2
   | _=>cases hc
  subst e
  rcases ty with ty | ⟨a,xs,rfl,hq,rfl⟩ | ⟨a,xs,rfl,hq,rfl⟩
  ·exact isinst_ok I ru ty hk fun tk=>⟨.bl b,H,I.tok tk,rfl,q⟩
  ·cases ru
   obtain ⟨its,rv,⟨o,n,e,c,_,d⟩,_⟩:=I.list hq
   exact PySem.W.kia_one PySem.W.kitx_list I.kIn ⟨o,e,c⟩ hk (fun z=>nomatch z) fun tk=>⟨.bl b,H,I.tok tk,rfl,q⟩
  ·cases ru
   obtain ⟨its,rv,⟨o,e,c,n,d⟩,_⟩:=I.tuple hq
   exact PySem.W.kia_one PySem.W.kitx_tuple I.kIn ⟨o,e,c⟩ hk (fun z=>nomatch z) fun tk=>⟨.bl b,H,I.tok tk,rfl,q⟩
noncomputable def rSl (K:PySem.W.Frag):V->Option Int->Option Int->Hp->VK->Prop:=fun x lo hi H Q=>match x with
 | .str z=>z.length<=sizeLine/\Q (.str (Txt.slice z lo hi)) H
 | .ref a=>rSlL K (.ref a) lo hi H Q∨rSlT K (.ref a) lo hi H Q
 | _=>False
theorem sl_any:SlR X (rSl X.K):=by
 intro pins s σ H x v vl vu lo hi sl Q I rx hs pl pu h
 cases x with
 | str z =>
  obtain ⟨t,rfl⟩:=rx
  obtain ⟨hz,q⟩:=h
  refine ⟨"str",_,F.slot_str_getitem.lookup,typeIs_str _ _ _,?_⟩
  have fin:∀ l u:Option (Int × Tok),l.map (·.1)=lo->u.map (·.1)=hi->s.heap.IsSlice sl l u none->wpAny (model X.prog X.w) X.A (getItem (.str z t) (.ref sl)) (EP X pins σ Q) X.xe s:=fun l u e1 e2 hsl=>by
   refine wpAny_getItem_str_slice hsl rfl ?_
   subst e1 e2
   exact post_val_or_str ⟨Nat.le_trans (Txt.slice_le z _ _) hz,fun t' k=>⟨.str (Txt.slice z _ _),H,I.tok k,⟨_,rfl⟩,q⟩⟩
  obtain ⟨o,ho,hc,hd⟩:=hs
  cases pl with
  | none =>
   cases pu with
   | none=>exact fin none none rfl rfl ⟨o,ho,hc,hd⟩
   | int j tj=>exact fin none (some (j,tj)) rfl rfl ⟨o,ho,hc,hd⟩
  | int i ti =>
   cases pu with
   | none=>exact fin (some (i,ti)) none rfl rfl ⟨o,ho,hc,hd⟩
   | int j tj=>exact fin (some (i,ti)) (some (j,tj)) rfl rfl ⟨o,ho,hc,hd⟩
 | ref a =>
  rcases h with h | h
  ·exact sl_list pins s σ H _ v vl vu lo hi sl Q I rx hs pl pu h
  ·exact sl_tup pins s σ H _ v vl vu lo hi sl Q I rx hs pl pu h
 | _=>exact False.elim h
theorem vals_strs:∀ {l:List (Str × Tok)},Vals (l.map fun p=>V.str p.1) (strValues l)
 | []=>.nil
 | p::r=>.cons ⟨p.2,rfl⟩ vals_strs
theorem vals_strs' {l:List (Str × Tok)} {ts:List Str} (e:l.map (·.1)=ts):Vals (ts.map V.str) (strValues l):=by
 subst e
 rw [List.map_map]
 exact vals_strs
noncomputable def rSplit:V->List V->Hp->VK->Prop:=fun x vs H Q=>match x,vs with
 | .str z,[.str y]=>z.length<=sizeLine/\0 < y.length/\(Txt.split z y).length<=sizeLine/\∀ p,H p=none->Q (.ref p) (upd H p (.lst ((Txt.split z y).map V.str)))
 | _,_=>False
theorem mt_split:MtR X "str.split" rSplit:=by
 intro pins s σ H x xs v us Q I rx rs h
 match x,xs,h with
 | .str z,[.str y],⟨hz,hy,hn,q⟩ =>
  obtain ⟨t,rfl⟩:=rx
  obtain ⟨u,rfl,t',rfl⟩:=vals1 rs
  have hy':(y.length == 0)=false:=by simp; omega
  cases h1:(decide (z.length < y.length) || decide (Builtin.Str.strKind z < Builtin.Str.strKind y))
  ·cases hf:(Builtin.Str.occurrences z y 0 z.length (z.length+1)).isEmpty
   ·have e:Txt.split z y=Builtin.Str.partsBetween z (Builtin.Str.occurrences z y 0 z.length (z.length+1)) y.length:=(if_neg (ne_true_of_eq_false h1)).trans (if_neg (ne_true_of_eq_false hf))
    rw [e] at hn q
    refine call_meets F.slot_str_split (typeIs_str s z t) F.entry_str_split (F.args_str_split_2 _ _) (meets_str_split_sep z y t t' h1 hy' hf hz hn) ?_
    rw [strsFrom_eq]
    exact ⟨.ref _,_,I.lnew (t':=_) (vals_strs' (numbered_texts _ _)) (by rw [List.length_map]; exact hn),rfl,q _ I.fresh⟩
   ·have e:Txt.split z y=[z]:=(if_neg (ne_true_of_eq_false h1)).trans (if_pos hf)
    rw [e] at hn q
    refine call_meets F.slot_str_split (typeIs_str s z t) F.entry_str_split (F.args_str_split_2 _ _) (meets_str_split_not_found z y t t' h1 hy' hf) ?_
    exact ⟨.ref _,_,I.lnew (t':=s.toks) (ys:=[V.str z]) (its:=[.str z t]) (.cons ⟨t,rfl⟩ .nil) hn,rfl,q _ I.fresh⟩
  ·have e:Txt.split z y=[z]:=if_pos h1
   rw [e] at hn q
   refine call_meets F.slot_str_split (typeIs_str s z t) F.entry_str_split (F.args_str_split_2 _ _) (meets_str_split_cannot_occur z y t t' h1) ?_
   exact ⟨.ref _,_,I.lnew (t':=s.toks) (ys:=[V.str z]) (its:=[.str z t]) (.cons ⟨t,rfl⟩ .nil) hn,rfl,q _ I.fresh⟩
end
end L2.L3
namespace L2.L3
open PySem PySem.Spec PyProof.Rows
inductive Src where
 | l (a:Addr) | t (a:Addr)
noncomputable def Src.adr:Src->Addr
 | .l a=>a
 | .t a=>a
noncomputable def SrcIt (h:Heap) (j:Addr):Src->Nat->Prop
 | .l a,k=>h.IsListIter j a k
 | .t a,k=>h.IsTupleIter j a k
noncomputable def SrcHas (h:Heap):Src->Array Value->Prop
 | .l a,xs=>h.IsList a xs
 | .t a,xs=>h.IsTuple a xs
theorem SrcIt.ext {h h':Heap} {j b:Addr} {z:Src} {k:Nat} (x:SrcIt h j z k) (e:Heap.ExtBut b h h') (n:j≠b):SrcIt h' j z k:=by
 cases z with
 | l a=>exact Heap.IsListIter.extBut x e n
 | t a=>exact Heap.IsTupleIter.extBut x e n
theorem SrcIt.keep {h h':Heap} {j:Addr} {z:Src} {k:Nat} (x:SrcIt h j z k) (e:∀ o,h.get? j=some o->h'.get? j=some o):SrcIt h' j z k:=by
 cases z with
 | l a=>obtain ⟨o,g1,g2⟩:=x; exact ⟨o,e o g1,g2⟩
 | t a=>obtain ⟨o,g1,g2⟩:=x; exact ⟨o,e o g1,g2⟩
theorem SrcIt.obj {h:Heap} {j:Addr} {z:Src} {k:Nat} (x:SrcIt h j z k):∃ o,h.get? j=some o/\∀ v,o.data≠.cell v:=by
 cases z with
 | l a=>obtain ⟨o,g1,g2,g3⟩:=x; exact ⟨o,g1,fun v q=>by rw [g3] at q; cases q⟩
 | t a=>obtain ⟨o,g1,g2,g3⟩:=x; exact ⟨o,g1,fun v q=>by rw [g3] at q; cases q⟩
theorem SrcHas.ext {h h':Heap} {b:Addr} {z:Src} {xs:Array Value} (x:SrcHas h z xs) (e:Heap.ExtBut b h h') (n:z.adr≠b):SrcHas h' z xs:=by
 cases z with
 | l a=>exact Heap.IsList.extBut x e n
 | t a=>exact Heap.IsTuple.extBut x e n
theorem SrcHas.lt {h:Heap} {z:Src} {xs:Array Value} (x:SrcHas h z xs):z.adr < h.objs.size:=by
 cases z with
 | l a=>obtain ⟨o,g1,_⟩:=x; exact Heap.lt_size g1
 | t a=>obtain ⟨o,g1,_⟩:=x; exact Heap.lt_size g1
theorem SrcIt.lt {h:Heap} {j:Addr} {z:Src} {k:Nat} (x:SrcIt h j z k):j < h.objs.size:=by
 obtain ⟨o,g1,_⟩:=x.obj
 exact Heap.lt_size g1
section
variable {prog:Program} {w:World} {A:Around} {E:Value->Shared->Prop} {s:Shared}
theorem nx_tup {j t:Addr} {k:Nat} {xs:Array Value} {x:Value} {Q:Value->Shared->Prop} (p:s.heap.IsTupleIter j t k) (pt:s.heap.IsTuple t xs) (px:xs[k]?=some x)
  (q:∀ h',h'.IsTupleIter j t (k+1)->Heap.SameBut j s.heap h'->Q x { s with heap:=h' }):wpAny (model prog w) A (Builtin.SmallTypes.nextOf (.ref j)) Q E s:=by
 obtain ⟨ob,g1,g2,g3⟩:=id p
 obtain ⟨ot,t1,_,nt,t3⟩:=pt
 unfold Builtin.SmallTypes.nextOf
 refine wpAny_bind (wpAny_callSpecial?_slot (name:=Str.ofString "__next__") p.typeIs PySem.F.slot_tuple_iterator_next (wpAny_call_entry PySem.F.slot_tuple_iterator_next p.typeIs PySem.F.entry_tuple_iterator_next ?_ (PySem.F.args_tuple_iterator_next_1 _)))
 show wpAny _ _ (field (.ref j) 0 >>= _) _ _ _
 refine wpAny_bind (wpAny_field g1 g3 (x:=.ref t) rfl ?_)
 show wpAny _ _ (if (Value.ref t == Value.none)=true then _ else _) _ _ _
 rw [if_neg (show ¬ (Value.ref t == Value.none)=true from Bool.false_ne_true)]
 show wpAny _ _ (field (.ref j) 1 >>= _) _ _ _
 refine wpAny_bind (wpAny_field g1 g3 (x:=.int k 0) rfl ?_)
 show wpAny _ _ (seqItems? (.ref t) >>= _) _ _ _
 refine wpAny_bind (wpAny_seqItems t1 t3 ?_)
 simp only [Int.toNat_natCast,px]
 refine wpAny_bind (wpAny_setField g1 g3 (by simp) (wpAny_pure ⟨x,rfl,wpAny_pure (q _ ?_ (Heap.SameBut.update ..))⟩))
 refine ⟨_,Heap.get?_update_self _ g1 (Obj.isFreed_of_fields (Obj.data_mapFields g3 _)),(Obj.cls_mapFields ..).trans g2,?_⟩
 rw [Obj.data_mapFields g3]
 simp [rawInt]
theorem nx_tup_end {j t:Addr} {k:Nat} {xs:Array Value} {Q:Value->Shared->Prop} (ah:A.handled=none) (p:s.heap.IsTupleIter j t k) (pt:s.heap.IsTuple t xs) (px:xs[k]?=none)
  (q:∀ h' e,Heap.ExtBut j s.heap h'->(∃ o,h'.get? e=some o/\o.cls=.type "StopIteration")->E (.ref e) { s with heap:=h' }):wpAny (model prog w) A (Builtin.SmallTypes.nextOf (.ref j)) Q E s:=by
 obtain ⟨ob,g1,g2,g3⟩:=id p
 obtain ⟨ot,t1,_,nt,t3⟩:=pt
 unfold Builtin.SmallTypes.nextOf
 refine wpAny_bind (wpAny_callSpecial?_slot (name:=Str.ofString "__next__") p.typeIs PySem.F.slot_tuple_iterator_next (wpAny_call_entry PySem.F.slot_tuple_iterator_next p.typeIs PySem.F.entry_tuple_iterator_next ?_ (PySem.F.args_tuple_iterator_next_1 _)))
 show wpAny _ _ (field (.ref j) 0 >>= _) _ _ _
 refine wpAny_bind (wpAny_field g1 g3 (x:=.ref t) rfl ?_)
 show wpAny _ _ (if (Value.ref t == Value.none)=true then _ else _) _ _ _
 rw [if_neg (show ¬ (Value.ref t == Value.none)=true from Bool.false_ne_true)]
 show wpAny _ _ (field (.ref j) 1 >>= _) _ _ _
 refine wpAny_bind (wpAny_field g1 g3 (x:=.int k 0) rfl ?_)
 show wpAny _ _ (seqItems? (.ref t) >>= _) _ _ _
 refine wpAny_bind (wpAny_seqItems t1 t3 ?_)
 simp only [Int.toNat_natCast,px]
 refine wpAny_bind (wpAny_rule (wpAny_bind (wpAny_setField g1 g3 (by simp) ?_)))
 refine wpAny_bind (m:=newExc (.type "StopIteration") []) ?_
 simp only [newExc,newTuple]
 refine wpAny_bind (wpAny_newObj_type ?made (by size_fits))
 refine wpAny_bind (m:=firstArgMember _ _) (wpAny_of_eq (a:=Value.none) (by first | rfl | (rw [firstArgMember]; rfl)) ?arg)
 refine wpAny_newObj_type ?made2 (by size_fits)
 simp only [raiseNew]
 refine wpAny_bind (wpAny_handled ?_)
 first | rw [show A.in1.handled=none from ah] | rw [ah]
 refine wpAny_bind (wpAny_pure (wpAny_throw (q _ _ (((Heap.SameBut.update ..).extBut.push _).push _) ⟨_,Heap.get?_push_size _ rfl,rfl⟩)))
theorem nx_item {j:Addr} {z:Src} {k:Nat} {xs:Array Value} {x:Value} {Q:Value->Shared->Prop} (p:SrcIt s.heap j z k) (pt:SrcHas s.heap z xs) (px:xs[k]?=some x)
  (q:∀ h',SrcIt h' j z (k+1)->Heap.SameBut j s.heap h'->Q x { s with heap:=h' }):wpAny (model prog w) A (Builtin.SmallTypes.nextOf (.ref j)) Q E s:=by
 cases z with
 | l a=>exact wpAny_nextOf_list_item p pt px q
 | t a=>exact nx_tup p pt px q
theorem nx_end {j:Addr} {z:Src} {k:Nat} {xs:Array Value} {Q:Value->Shared->Prop} (ah:A.handled=none) (p:SrcIt s.heap j z k) (pt:SrcHas s.heap z xs) (px:xs[k]?=none)
  (q:∀ h' e,Heap.ExtBut j s.heap h'->(∃ o,h'.get? e=some o/\o.cls=.type "StopIteration")->E (.ref e) { s with heap:=h' }):wpAny (model prog w) A (Builtin.SmallTypes.nextOf (.ref j)) Q E s:=by
 cases z with
 | l a=>exact wpAny_nextOf_list_end ah p pt px q
 | t a=>exact nx_tup_end ah p pt px q
noncomputable def Src.it:Src->Obj
 | .l a=>{ cls:=.type "list_iterator",data:=.fields #[.ref a,.int 0 0] }
 | .t a=>{ cls:=.type "tuple_iterator",data:=.fields #[.ref a,.int 0 0] }
theorem src_iter {z:Src} {xs:Array Value} {Q:Value->Shared->Prop} (pt:SrcHas s.heap z xs) (q:Q (.ref s.heap.objs.size) { s with heap:=s.heap.push z.it }):wpAny (model prog w) A (pyIter (.ref z.adr)) Q E s:=by
 cases z with
 | l a=>exact wpAny_pyIter_list pt q
 | t a=>exact wpAny_pyIter_tuple pt q
theorem src_it0 (h:Heap) (z:Src):SrcIt (h.push z.it) h.objs.size z 0:=by
 cases z with
 | l a=>exact ⟨_,Heap.get?_push_size _ rfl,rfl,rfl⟩
 | t a=>exact ⟨_,Heap.get?_push_size _ rfl,rfl,rfl⟩
end
end L2.L3
namespace L2.L3
open PySem PySem.Spec PyProof.Rows
section
variable {prog:Program} {w:World} {A:Around} {E:Value->Shared->Prop} {s:Shared}
theorem sb_it {h h':Heap} {j b:Addr} {z:Src} {k:Nat} (x:SrcIt h j z k) (e:Heap.SameBut b h h') (n:j≠b):SrcIt h' j z k:=x.ext e.extBut n
theorem sb_has {h h':Heap} {b:Addr} {z:Src} {xs:Array Value} (x:SrcHas h z xs) (e:Heap.SameBut b h h') (n:z.adr≠b):SrcHas h' z xs:=x.ext e.extBut n
theorem zipS_item {z TI TO i1 i2:Addr} {z1 z2:Src} {k1 k2:Nat} {xs ys:Array Value} {x y a b:Value} {Q:Value->Shared->Prop} (D:ZipApart z TI TO i1 i2 z1.adr z2.adr)
  (hz:IsZip s.heap z TI TO .none) (pI:IsPair s.heap TI (.ref i1) (.ref i2)) (pO:IsPair s.heap TO a b) (p1:SrcIt s.heap i1 z1 k1) (p2:SrcIt s.heap i2 z2 k2) (q1:SrcHas s.heap z1 xs) (q2:SrcHas s.heap z2 ys)
  (ex:xs[k1]?=some x) (ey:ys[k2]?=some y)
  (q:∀ h',IsZip h' z TI TO (rawInt s.heap.objs.size)->IsPair h' TO x y->SrcIt h' i1 z1 (k1+1)->SrcIt h' i2 z2 (k2+1)->IsPair h' s.heap.objs.size x y->h'.objs.size=s.heap.objs.size+1 ->
   (∀ c o,c≠z->c≠TO->c≠i1->c≠i2->s.heap.get? c=some o->h'.get? c=some o)->Q (.ref s.heap.objs.size) { s with heap:=h' }) :
  wpAny (model prog w) A (Builtin.«zip.__next__» ⟨[.ref z],[]⟩) (fun fin s'=>∃ v,fin=.done (.ret v)/\Q v s') E s:=by
 show wpAny (model prog w) A (field (.ref z) 2 >>= _) _ _ _
 refine wpAny_bind (wpAny_field hz rfl (x:=.bool false) rfl ?f2)
 show wpAny (model prog w) A (field (.ref z) 3 >>= _) _ _ _
 refine wpAny_bind (wpAny_field hz rfl (x:=.ref TI) rfl ?f3)
 refine wpAny_bind (wpAny_seqItems pI rfl ?fi)
 show wpAny (model prog w) A (Builtin.SmallTypes.ownedTupleIsFree (.ref z) >>= _) _ _ _
 refine wpAny_bind ?free
 unfold Builtin.SmallTypes.ownedTupleIsFree
 refine wpAny_bind (wpAny_field hz rfl (x:=.none) rfl (wpAny_pure ?f0))
 simp only [if_true]
 refine wpAny_bind (wpAny_rule ?ru)
 refine wpAny_bind (wpAny_field hz rfl (x:=.ref TO) rfl ?fo)
 refine wpAny_bind (wpAny_setField_rec hz (by simp) fun ha hza hsa=>?_)
 replace hza:IsZip ha z TI TO .ellipsis:=hza
 refine wpAny_bind ?lp
 simp only [List.zipIdx_cons,List.zipIdx_nil,List.forIn_cons,List.forIn_nil]
 refine wpAny_bind (wpAny_bind (wpAny_onRaise ?r1))
 show wpAny (model prog w) A (Builtin.SmallTypes.nextOf (.ref i1) >>= _) _ _ _
 refine wpAny_bind (nx_item (sb_it p1 hsa D.i1z) (sb_has q1 hsa D.l1z) ex fun hb p1b hsb=>wpAny_pure ?_)
 have pOb:IsPair hb TO a b:=hsb.extBut _ _ D.TOi1 (hsa.extBut _ _ D.TOz pO)
 refine wpAny_bind (wpAny_seqItems pOb rfl ?sb)
 refine wpAny_bind (wpAny_updateSeq_pair pOb fun hc pOc hsc=>?_)
 replace pOc:IsPair hc TO x b:=pOc
 refine wpAny_bind (wpAny_letGo (wpAny_pure ?g1))
 refine wpAny_bind (wpAny_bind (wpAny_onRaise ?r2))
 show wpAny (model prog w) A (Builtin.SmallTypes.nextOf (.ref i2) >>= _) _ _ _
 refine wpAny_bind (nx_item (sb_it (sb_it (sb_it p2 hsa D.i2z) hsb D.i12.symm) hsc D.TOi2.symm) (sb_has (sb_has (sb_has q2 hsa D.l2z) hsb D.l2i1) hsc D.l2TO) ey fun hd p2d hsd=>wpAny_pure ?_)
 have pOd:IsPair hd TO x b:=hsd.extBut _ _ D.TOi2 pOc
 refine wpAny_bind (wpAny_seqItems pOd rfl ?sd)
 refine wpAny_bind (wpAny_updateSeq_pair pOd fun he pOe hse=>?_)
 replace pOe:IsPair he TO x y:=pOe
 refine wpAny_bind (wpAny_letGo (wpAny_pure (wpAny_pure ?g2)))
 refine wpAny_bind (wpAny_seqItems pOe rfl ?se)
 refine wpAny_bind (wpAny_newTuple ?nt)
 have size:he.objs.size=s.heap.objs.size:=by rw [hse.1,hsd.1,hsc.1,hsb.1,hsa.1]
 have hze:IsZip he z TI TO .ellipsis:=hse.extBut _ _ D.TOz.symm (hsd.extBut _ _ D.i2z.symm (hsc.extBut _ _ D.TOz.symm (hsb.extBut _ _ D.i1z.symm hza)))
 have kept:∀ c o,c≠z->c≠TO->c≠i1->c≠i2->s.heap.get? c=some o->he.get? c=some o:=fun c o c1 c2 c3 c4 e=>hse.extBut _ _ c2 (hsd.extBut _ _ c4 (hsc.extBut _ _ c2 (hsb.extBut _ _ c3 (hsa.extBut _ _ c1 e))))
 have p1e:SrcIt he i1 z1 (k1+1):=sb_it (sb_it (sb_it p1b hsc D.TOi1.symm) hsd D.i12) hse D.TOi1.symm
 have p2e:SrcIt he i2 z2 (k2+1):=sb_it p2d hse D.TOi2.symm
 have zlt:z < he.objs.size:=Heap.lt_size hze
 show wpAny (model prog w) A (Builtin.SmallTypes.ownedTupleHandOut (.ref z) (.ref he.objs.size) >>= _) _ _ _
 refine wpAny_bind ?ho
 unfold Builtin.SmallTypes.ownedTupleHandOut
 have hzf:IsZip (he.push { cls:=.type "tuple",data:=.seq #[x,y] }) z TI TO .ellipsis:=Heap.get?_push_of_some _ hze
 refine wpAny_bind (wpAny_setField_rec hzf (by simp) fun hg hzg hsg=>?_)
 replace hzg:IsZip hg z TI TO (rawInt he.objs.size):=hzg
 refine wpAny_setField_rec hzg (by simp) fun hh hzh hsh=>?_
 replace hzh:IsZip hh z TI TO (rawInt he.objs.size):=hzh
 have up:∀ c o,c≠z->he.get? c=some o->hh.get? c=some o:=fun c o c1 e=>hsh.extBut _ _ c1 (hsg.extBut _ _ c1 (Heap.get?_push_of_some _ e))
 have pT:IsPair hh he.objs.size x y:=hsh.extBut _ _ (Nat.ne_of_gt zlt) (hsg.extBut _ _ (Nat.ne_of_gt zlt) (Heap.get?_push_size _ rfl))
 have sizeh:hh.objs.size=he.objs.size+1:=by rw [hsh.1,hsg.1,Heap.size_push]
 rw [size] at hzh pT sizeh
 refine wpAny_pure ⟨_,rfl,?_⟩
 show Q (.ref he.objs.size) _
 rw [size]
 exact q hh hzh (up _ _ D.TOz pOe) (p1e.keep fun o e=>up _ o D.i1z e) (p2e.keep fun o e=>up _ o D.i2z e) pT sizeh fun c o c1 c2 c3 c4 e=>up c o c1 (kept c o c1 c2 c3 c4 e)
theorem zipS_end {z TI TO i1 i2:Addr} {z1 z2:Src} {k1 k2:Nat} {xs ys:Array Value} {a b:Value} {Q:PySem.Fin->Shared->Prop} (ah:A.handled=none) (D:ZipApart z TI TO i1 i2 z1.adr z2.adr)
  (hz:IsZip s.heap z TI TO .none) (pI:IsPair s.heap TI (.ref i1) (.ref i2)) (pO:IsPair s.heap TO a b) (p1:SrcIt s.heap i1 z1 k1) (p2:SrcIt s.heap i2 z2 k2) (q1:SrcHas s.heap z1 xs) (q2:SrcHas s.heap z2 ys)
  (en:xs[k1]?=none∨ys[k2]?=none)
  (qE:∀ h' e,(∀ c o,c≠z->c≠TO->c≠i1->c≠i2->s.heap.get? c=some o->h'.get? c=some o)->(∃ o,h'.get? e=some o/\o.cls=.type "StopIteration")->E (.ref e) { s with heap:=h' }) :
  wpAny (model prog w) A (Builtin.«zip.__next__» ⟨[.ref z],[]⟩) Q E s:=by
 show wpAny (model prog w) A (field (.ref z) 2 >>= _) _ _ _
 refine wpAny_bind (wpAny_field hz rfl (x:=.bool false) rfl ?f2)
 show wpAny (model prog w) A (field (.ref z) 3 >>= _) _ _ _
 refine wpAny_bind (wpAny_field hz rfl (x:=.ref TI) rfl ?f3)
 refine wpAny_bind (wpAny_seqItems pI rfl ?fi)
 show wpAny (model prog w) A (Builtin.SmallTypes.ownedTupleIsFree (.ref z) >>= _) _ _ _
 refine wpAny_bind ?free
 unfold Builtin.SmallTypes.ownedTupleIsFree
 refine wpAny_bind (wpAny_field hz rfl (x:=.none) rfl (wpAny_pure ?f0))
 simp only [if_true]
 refine wpAny_bind (wpAny_rule ?ru)
 refine wpAny_bind (wpAny_field hz rfl (x:=.ref TO) rfl ?fo)
 refine wpAny_bind (wpAny_setField_rec hz (by simp) fun ha hza hsa=>?_)
 replace hza:IsZip ha z TI TO .ellipsis:=hza
 refine wpAny_bind ?lp
 simp only [List.zipIdx_cons,List.zipIdx_nil,List.forIn_cons,List.forIn_nil]
 refine wpAny_bind (wpAny_bind (wpAny_onRaise ?r1))
 show wpAny (model prog w) A (Builtin.SmallTypes.nextOf (.ref i1) >>= _) _ _ _
 cases ex:xs[k1]? with
 | none =>
  refine wpAny_bind (nx_end ah (sb_it p1 hsa D.i1z) (sb_has q1 hsa D.l1z) ex fun hb e hsb he=>?_)
  obtain ⟨oe,e1,e2⟩:=he
  have hzb:IsZip hb z TI TO .ellipsis:=hsb _ _ D.i1z.symm hza
  have ne:e≠z:=fun x=>by subst x; rw [hzb] at e1; cases e1; simp at e2
  refine wpAny_setField_rec hzb (by simp) fun hc _ hsc=>qE hc e (fun c o c1 _ c3 _ x=>hsc.extBut _ _ c1 (hsb _ _ c3 (hsa.extBut _ _ c1 x))) ⟨oe,hsc.extBut _ _ ne e1,e2⟩
 | some x =>
  have ey:ys[k2]?=none:=by rcases en with h | h; rw [ex] at h; cases h; exact h
  refine wpAny_bind (nx_item (sb_it p1 hsa D.i1z) (sb_has q1 hsa D.l1z) ex fun hb p1b hsb=>wpAny_pure ?_)
  have pOb:IsPair hb TO a b:=hsb.extBut _ _ D.TOi1 (hsa.extBut _ _ D.TOz pO)
  refine wpAny_bind (wpAny_seqItems pOb rfl ?sb)
  refine wpAny_bind (wpAny_updateSeq_pair pOb fun hc pOc hsc=>?_)
  refine wpAny_bind (wpAny_letGo (wpAny_pure ?g1))
  refine wpAny_bind (wpAny_bind (wpAny_onRaise ?r2))
  show wpAny (model prog w) A (Builtin.SmallTypes.nextOf (.ref i2) >>= _) _ _ _
  refine wpAny_bind (nx_end ah (sb_it (sb_it (sb_it p2 hsa D.i2z) hsb D.i12.symm) hsc D.TOi2.symm) (sb_has (sb_has (sb_has q2 hsa D.l2z) hsb D.l2i1) hsc D.l2TO) ey fun hd e hsd he=>?_)
  obtain ⟨oe,e1,e2⟩:=he
  have hzd:IsZip hd z TI TO .ellipsis:=hsd _ _ D.i2z.symm (hsc.extBut _ _ D.TOz.symm (hsb.extBut _ _ D.i1z.symm hza))
  have ne:e≠z:=fun x=>by subst x; rw [hzd] at e1; cases e1; simp at e2
  refine wpAny_setField_rec hzd (by simp) fun hf _ hsf=>qE hf e (fun c o c1 c2 c3 c4 x=>hsf.extBut _ _ c1 (hsd _ _ c4 (hsc.extBut _ _ c2 (hsb.extBut _ _ c3 (hsa.extBut _ _ c1 x))))) ⟨oe,hsf.extBut _ _ ne e1,e2⟩
theorem zipS_next {z TI TO i1 i2:Addr} {z1 z2:Src} {k1 k2:Nat} {xs ys:Array Value} {x y a b:Value} {Q:Option Value->Shared->Prop} (D:ZipApart z TI TO i1 i2 z1.adr z2.adr)
  (hz:IsZip s.heap z TI TO .none) (pI:IsPair s.heap TI (.ref i1) (.ref i2)) (pO:IsPair s.heap TO a b) (p1:SrcIt s.heap i1 z1 k1) (p2:SrcIt s.heap i2 z2 k2) (q1:SrcHas s.heap z1 xs) (q2:SrcHas s.heap z2 ys)
  (ex:xs[k1]?=some x) (ey:ys[k2]?=some y)
  (q:∀ h',IsZip h' z TI TO (rawInt s.heap.objs.size)->IsPair h' TO x y->SrcIt h' i1 z1 (k1+1)->SrcIt h' i2 z2 (k2+1)->IsPair h' s.heap.objs.size x y->h'.objs.size=s.heap.objs.size+1 ->
   (∀ c o,c≠z->c≠TO->c≠i1->c≠i2->s.heap.get? c=some o->h'.get? c=some o)->Q (some (.ref s.heap.objs.size)) { s with heap:=h' }):wpAny (model prog w) A (pyNext (.ref z)) Q E s:=by
 have ht:s.TypeIs (.ref z) "zip":=⟨_,hz,rfl⟩
 unfold pyNext
 exact wpAny_bind (wpAny_attempt (wpAny_callSpecial?_slot (name:=Str.ofString "__next__") ht PySem.F.slot_zip_next (wpAny_call_entry PySem.F.slot_zip_next ht PySem.F.entry_zip_next
  (zipS_item D hz pI pO p1 p2 q1 q2 ex ey fun h' a1 a2 a3 a4 a5 a6 a7=>wpAny_pure (q h' a1 a2 a3 a4 a5 a6 a7)) (PySem.F.args_zip_next_1 _))))
theorem zipS_done {z TI TO i1 i2:Addr} {z1 z2:Src} {k1 k2:Nat} {xs ys:Array Value} {a b:Value} {Q:Option Value->Shared->Prop} (ah:A.handled=none) (D:ZipApart z TI TO i1 i2 z1.adr z2.adr)
  (hz:IsZip s.heap z TI TO .none) (pI:IsPair s.heap TI (.ref i1) (.ref i2)) (pO:IsPair s.heap TO a b) (p1:SrcIt s.heap i1 z1 k1) (p2:SrcIt s.heap i2 z2 k2) (q1:SrcHas s.heap z1 xs) (q2:SrcHas s.heap z2 ys)
  (en:xs[k1]?=none∨ys[k2]?=none) (q:∀ h',(∀ c o,c≠z->c≠TO->c≠i1->c≠i2->s.heap.get? c=some o->h'.get? c=some o)->Q none { s with heap:=h' }):wpAny (model prog w) A (pyNext (.ref z)) Q E s:=by
 have ht:s.TypeIs (.ref z) "zip":=⟨_,hz,rfl⟩
 unfold pyNext
 refine wpAny_bind (wpAny_attempt (wpAny_callSpecial?_slot (name:=Str.ofString "__next__") ht PySem.F.slot_zip_next (wpAny_call_entry PySem.F.slot_zip_next ht PySem.F.entry_zip_next
  (zipS_end ah D hz pI pO p1 p2 q1 q2 en fun h' e hk he=>?_) (PySem.F.args_zip_next_1 _))))
 obtain ⟨o,ho,hc⟩:=he
 exact wpAny_bind (wpAny_isInstance (T:="StopIteration") (b:=true) ⟨o,ho,hc⟩ isSubtype_stop (wpAny_pure (q _ hk)))
end
noncomputable abbrev zh1 (h:Heap) (z1:Src):Heap:=h.push z1.it
noncomputable abbrev zh2 (h:Heap) (z1 z2:Src):Heap:=(zh1 h z1).push z2.it
noncomputable abbrev zh3 (h:Heap) (z1 z2:Src):Heap:=(zh2 h z1 z2).push { cls:=.type "tuple",data:=.seq #[.ref h.objs.size,.ref (zh1 h z1).objs.size] }
noncomputable abbrev zh4 (h:Heap) (z1 z2:Src):Heap:=(zh3 h z1 z2).push { cls:=.type "tuple",data:=.seq #[.none,.none] }
noncomputable abbrev zh5 (h:Heap) (z1 z2:Src):Heap:=(zh4 h z1 z2).push { cls:=.type "zip",data:=.fields #[.none,.bool false,.bool false,.ref (zh2 h z1 z2).objs.size,.ref (zh3 h z1 z2).objs.size] }
theorem SrcHas.push {h:Heap} {z:Src} {xs:Array Value} (x:SrcHas h z xs) (o:Obj):SrcHas (h.push o) z xs:=by
 cases z with
 | l a=>exact Heap.IsList.push x o
 | t a=>exact Heap.IsTuple.push x o
theorem zipS_new (z1 z2:Src) (xs ys:Array Value):Meets (Builtin.«zip.__new__» ⟨[.type "zip",.ref z1.adr,.ref z2.adr],[]⟩) (fun _ R s=>SrcHas s.heap z1 xs/\SrcHas s.heap z2 ys /\
   R (.ok (.ret (.ref (zh4 s.heap z1 z2).objs.size))) { s with heap:=zh5 s.heap z1 z2 }) :=
 .of_wp fun prog w A R s h=>by
  obtain ⟨hp,g,d,tk,os⟩:=s
  obtain ⟨q1,q2,h⟩:=h
  have hsub:=sub_zip
  have hL1:SrcHas (Shared.heap ⟨hp,g,d,tk,os⟩) z1 xs:=q1
  have hL2:SrcHas (Shared.heap ⟨hp.push z1.it,g,d,tk,os⟩) z2 ys:=SrcHas.push q2 _
  wp_walk using src_iter hL1,src_iter hL2
  exact ⟨_,rfl,h⟩
end L2.L3
namespace L2.L3
open PySem PySem.Spec PyProof.Rows
section
variable {X:Cx} {pins:List (Addr × Obj)} {σ:St} {H:Hp} {s:Shared} {h':Heap}
theorem _root_.L2.Inv.turnedL {t':Nat} {ch:List Addr} (I:Inv X pins σ H s) (k:∀ b o,b ∉ ch->s.heap.get? b=some o->h'.get? b=some o) (f:∀ b ∈ ch,FpOk X pins H b):Inv X pins σ H { s with heap:=h',toks:=t' }:=by
 have away:∀ b u,H b=some u->b ∉ ch:=fun b u e z=>by rw [(f b z).1] at e; cases e
 have hL:X.env.locals ∉ ch:=fun z=>(f _ z).2.1 rfl
 refine I.step (g':=s.gens) (d':=s.drawn) (ch:=ch) (fun b hb=>?_) (fun b o _ _ hc e _=>k b o hc e) (fun b o _ _ hc e _=>⟨o.slots,k b o hc e⟩) (fun _ _ _ _ n=>n)
  (fun b o hc e=>⟨o,k b o hc e⟩) (fun _ _ e=>e) (fun _ _ _ e=>e) (fun b ps e=>⟨#[],by rw [e]; simp⟩) (fun m hm=>?_) (fun b u e=>?_) I.bare
 ·obtain ⟨_,f1,_,f3,f4,f5⟩:=f b hb
  exact ⟨f3,f1,f4,f5⟩
 ·obtain ⟨o,es,ep,ho,r⟩:=hm
  exact ⟨o,es,ep,k _ o hL ho,r⟩
 ·refine (I.hok b u e).stay (fun c v hc q=>k c v ?_ q) (fun _ q=>q) fun _ _ q=>q
  rcases hc with z | z
  ·rw [z]; exact away b u e
  ·exact away c _ z
noncomputable def SqS (K:PySem.W.Frag) (H:Hp):Src->List V->Prop
 | .l a,xs=>SqL K H a xs
 | .t a,xs=>SqT K H a xs
theorem _root_.L2.Inv.src (I:Inv X pins σ H s) {z:Src} {xs:List V} (h:SqS X.K H z xs):∃ its:List Value,Vals xs its/\SrcHas s.heap z its.toArray/\xs.length<=sizeLine:=by
 cases z with
 | l a =>
  obtain ⟨its,rv,p,hz⟩:=I.list h
  exact ⟨its,rv,p.isList,hz⟩
 | t a =>
  obtain ⟨its,rv,p,hz⟩:=I.tuple h
  exact ⟨its,rv,p,hz⟩
theorem _root_.L2.Inv.src_inj (I:Inv X pins σ H s) {z:Src} {xs ys:List V} (h:SqS X.K H z xs) (h':SqS X.K H z ys):xs=ys:=by
 cases z with
 | l a=>exact I.list_inj h h'
 | t a=>exact I.tuple_inj h h'
theorem _root_.L2.Inv.pair {p:Addr} {a b:Value} {x y:V} {t':Nat} (I:Inv X pins σ H s) (k:∀ b u,s.heap.get? b=some u->h'.get? b=some u) (hp:s.heap.objs.size<=p) (ho:h'.get? p=some { cls:=.type "tuple",data:=.seq #[a,b] }) (ra:RelV x a) (rb:RelV y b) :
  Inv X pins σ (upd H p (.tup [x,y])) { s with heap:=h',toks:=t' } :=
 I.laid k hp ⟨by rw [sizeLine_eq]; show 2<=_; decide,[a,b],.cons ra (.cons rb .nil),_,ho,rfl,_,rfl⟩
end
noncomputable def Itz (K:PySem.W.Frag) (z1 z2:Src):It :=
  ⟨fun i H=>∃ xs ys x y,SqS K H z1 xs/\SqS K H z2 ys/\xs[i]?=some x/\ys[i]?=some y,
   fun i H v H'=>∃ p x y,H p=none/\v=.ref p/\H'=upd H p (.tup [x,y])/\∀ xs ys,SqS K H z1 xs->SqS K H z2 ys->xs[i]?=some x/\ys[i]?=some y,
   fun i H=>∃ xs ys,SqS K H z1 xs/\SqS K H z2 ys/\(xs.length<=i∨ys.length<=i)⟩
noncomputable def ZipSt (z TI TO i1 i2:Addr) (z1 z2:Src) (f0:Value) (i:Nat) (h:Heap):Prop:=IsZip h z TI TO f0/\IsPair h TI (.ref i1) (.ref i2)/\(∃ a b,IsPair h TO a b)/\SrcIt h i1 z1 i/\SrcIt h i2 z2 i
theorem ZipSt.keep {z TI TO i1 i2:Addr} {z1 z2:Src} {f0:Value} {i:Nat} {h h':Heap} (st:ZipSt z TI TO i1 i2 z1 z2 f0 i h) (k:∀ b ∈ [z,TI,TO,i1,i2],∀ o,h.get? b=some o->h'.get? b=some o):ZipSt z TI TO i1 i2 z1 z2 f0 i h':=by
 obtain ⟨a1,a2,⟨u,v,a3⟩,a4,a5⟩:=st
 exact ⟨k z (by simp) _ a1,k TI (by simp) _ a2,⟨u,v,k TO (by simp) _ a3⟩,a4.keep fun o e=>k i1 (by simp) o e,a5.keep fun o e=>k i2 (by simp) o e⟩
theorem turn_zip {P:Program} {w:World} {K:PySem.W.Frag} {es:List Expr} {kk:Nat} {pp:Pos} {z TI TO i1 i2:Addr} {z1 z2:Src} (D:ZipApart z TI TO i1 i2 z1.adr z2.adr) :
  Turn P w K (.Tuple es kk pp) (Itz K z1 z2) [z,TI,TO,i1,i2] z (ZipSt z TI TO i1 i2 z1 z2 .none) where
 mem:=by simp
 obj:=fun i h st b hb=>by
  obtain ⟨a1,a2,⟨u,v,a3⟩,a4,a5⟩:=st
  simp only [List.mem_cons,List.not_mem_nil,or_false] at hb
  rcases hb with rfl | rfl | rfl | rfl | rfl
  ·exact ⟨_,a1,fun v q=>by cases (show Data.fields _=Data.cell v from q)⟩
  ·exact ⟨_,a2,fun v q=>by cases (show Data.seq _ _=Data.cell v from q)⟩
  ·exact ⟨_,a3,fun v q=>by cases (show Data.seq _ _=Data.cell v from q)⟩
  ·exact a4.obj
  ·exact a5.obj
 keep:=fun i h h' st k=>st.keep k
 item:=by
  intro X hP hw hK hc i pins s σ H E I hf st hg
  subst hP hw hK
  obtain ⟨xs,ys,x,y,h1,h2,ex,ey⟩:=hg
  obtain ⟨its,rv,sh1,_⟩:=I.src h1
  obtain ⟨jts,rw',sh2,_⟩:=I.src h2
  obtain ⟨u,hu,ru⟩:=rv.get ex
  obtain ⟨v,hv,rvv⟩:=rw'.get ey
  obtain ⟨a1,a2,⟨c,d,a3⟩,a4,a5⟩:=st
  refine zipS_next D a1 a2 a3 a4 a5 sh1 sh2 (x:=u) (y:=v) (by simpa using hu) (by simpa using hv) fun h' b1 b2 b3 b4 b5 b6 b7=>?_
  refine ⟨_,rfl,wpAny_letOwnedTupleGo_zip b1 fun h'' c1 sb=>?_⟩
  have kept:∀ b o,b ∉ [z,TI,TO,i1,i2]->s.heap.get? b=some o->h''.get? b=some o:=fun b o hb e=>by
   simp only [List.mem_cons,List.not_mem_nil,or_false,not_or] at hb
   exact (sb.2 b hb.1).trans (b7 b o hb.1 hb.2.2.1 hb.2.2.2.1 hb.2.2.2.2 e)
  have hp:=I.hok.fresh (Nat.le_refl s.heap.objs.size)
  have zlt:z < s.heap.objs.size:=Heap.lt_size a1
  have pairAt:h''.get? s.heap.objs.size=some { cls:=.type "tuple",data:=.seq #[u,v] }:=(sb.2 _ (Nat.ne_of_gt zlt)).trans b5
  have old:∀ b ∈ [z,TI,TO,i1,i2],b < s.heap.objs.size:=fun b hb=>by
   simp only [List.mem_cons,List.not_mem_nil,or_false] at hb
   rcases hb with rfl | rfl | rfl | rfl | rfl
   ·exact zlt
   ·exact Heap.lt_size a2
   ·exact Heap.lt_size a3
   ·exact a4.lt
   ·exact a5.lt
  have I1:=I.pair (h':=s.heap.push { cls:=.type "tuple",data:=.seq #[u,v] }) (t':=s.toks) (fun b o e=>Heap.get?_push_of_some _ e) (Nat.le_refl _) (Heap.get?_push_size _ rfl) ru rvv
  have I2:=I1.turnedL (h':=h'') (t':=s.toks) (ch:=[z,TI,TO,i1,i2]) (fun b o hb e=>by
   rcases Heap.get?_push_cases e with ⟨q1,q2⟩ | q
   ·subst q1 q2; exact pairAt
   ·exact kept b o hb q) fun b hb=>by
    obtain ⟨f0,f1,f2,f3,f4,f5⟩:=hf b hb
    exact ⟨by rw [upd_ne (Nat.ne_of_lt (old b hb))]; exact f0,f1,f2,f3,f4,f5⟩
  refine ⟨.ref s.heap.objs.size,_,I2,rfl,⟨s.heap.objs.size,x,y,hp,rfl,rfl,fun xs' ys' g1 g2=>?_⟩,⟨c1,?_,⟨_,_,(sb.2 _ D.TOz).trans b2⟩,b3.keep fun o e=>(sb.2 _ D.i1z).trans e,b4.keep fun o e=>(sb.2 _ D.i2z).trans e⟩,fun b hb=>?_⟩
  ·rw [I.src_inj g1 h1,I.src_inj g2 h2]
   exact ⟨ex,ey⟩
  ·exact (sb.2 _ D.TIz).trans (b7 _ _ D.TIz D.TITO D.TIi1 D.TIi2 a2)
  ·rw [upd_ne (Nat.ne_of_lt (old b hb))]; exact (hf b hb).1
 done:=by
  intro X hP hw hK hc i pins s σ H E I hf st hg
  subst hP hw hK
  obtain ⟨xs,ys,h1,h2,en⟩:=hg
  obtain ⟨its,rv,sh1,_⟩:=I.src h1
  obtain ⟨jts,rw',sh2,_⟩:=I.src h2
  obtain ⟨a1,a2,⟨c,d,a3⟩,a4,a5⟩:=st
  have l1:=rv.length
  have l2:=rw'.length
  have en':its.toArray[i]?=none∨jts.toArray[i]?=none:=by
   rcases en with q | q
   ·exact .inl (by simp; omega)
   ·exact .inr (by simp; omega)
  refine zipS_done (I.ok.hd hc) D a1 a2 a3 a4 a5 sh1 sh2 en' fun h' kp=>⟨rfl,I.turnedL (t':=s.toks) (ch:=[z,TI,TO,i1,i2]) (fun b o hb e=>?_) hf⟩
  simp only [List.mem_cons,List.not_mem_nil,or_false,not_or] at hb
  exact kp b o hb.1 hb.2.2.1 hb.2.2.2.1 hb.2.2.2.2 e
 self:=fun _ _ _ _ _ st h=>wpAny_pyIter_zip st.1 h
end L2.L3
namespace L2.L3
open PySem PySem.Spec PyProof.Rows
theorem drawsS {prog:Program} {w:World} {A:Around} (ah:A.handled=none) (j:Addr) (z:Src) (ne:z.adr≠j) (items:Array Value) (c:Nat) :
  Draws prog w A j [j,z.adr] (c+items.size) (fun i v=>∃ k,i=c+k/\items[k]?=some v) (fun i h=>∃ k,i=c+k/\SrcIt h j z k/\SrcHas h z items) where
 live:=fun _ _ ⟨_,_,p,_⟩=>let ⟨o,e,_⟩:=p.obj; ⟨o,e⟩
 frame:=fun _ h h' ⟨k,e,p,q⟩ kp=>⟨k,e,p.keep fun o x=>kp j (by simp) o x,by
  cases z with
  | l a=>exact Heap.IsList.at q fun o x=>kp a (by simp [Src.adr]) o x
  | t a=>obtain ⟨o,g1,g2⟩:=q; exact ⟨o,kp a (by simp [Src.adr]) o g1,g2⟩⟩
 item:=fun i s Q E hi ⟨k,e,p,q⟩ hQ=>by
  have hk:k < items.size:=by omega
  exact nx_item p q (x:=items[k]) (by simp [hk]) fun h' p' sb=>hQ _ h' s.toks ⟨k,e,by simp [hk]⟩ ⟨k+1,by omega,p',sb_has q sb ne⟩ sb
 done:=fun s Q E ⟨k,e,p,q⟩ hE=>by
  have hk:k=items.size:=by omega
  exact nx_end ah p q (by simp [hk]) hE
theorem drawsE {prog:Program} {w:World} {A:Around} (ah:A.handled=none) (j:Addr) (z:Src) (items:Array Value) (n k:Nat) (hx:items[k]?=none) :
  Draws prog w A j [j,z.adr] n (fun _ _=>False) (fun i h=>i=n/\SrcIt h j z k/\SrcHas h z items) where
 live:=fun _ _ ⟨_,p,_⟩=>let ⟨o,e,_⟩:=p.obj; ⟨o,e⟩
 frame:=fun _ h h' ⟨e,p,q⟩ kp=>⟨e,p.keep fun o x=>kp j (by simp) o x,by
  cases z with
  | l a=>exact Heap.IsList.at q fun o x=>kp a (by simp [Src.adr]) o x
  | t a=>obtain ⟨o,g1,g2⟩:=q; exact ⟨o,kp a (by simp [Src.adr]) o g1,g2⟩⟩
 item:=fun i s Q E hi ⟨e,_,_⟩ hQ=>absurd hi (by omega)
 done:=fun s Q E ⟨_,p,q⟩ hE=>nx_end ah p q hx hE
noncomputable def Ite (K:PySem.W.Frag) (z:Src) (c:Nat):It :=
  ⟨fun i H=>∃ xs x,SqS K H z xs/\xs[i]?=some x,
   fun i H v H'=>∃ p x,H p=none/\v=.ref p/\H'=upd H p (.tup [.int ((c+i:Nat):Int),x])/\∀ xs,SqS K H z xs->xs[i]?=some x,
   fun i H=>∃ xs,SqS K H z xs/\xs.length<=i⟩
noncomputable def EnumSt (e j:Addr) (z:Src) (c i:Nat) (h:Heap):Prop:=(∃ old,IsEnum h e j ((c+i:Nat):Int) old)/\SrcIt h j z i
theorem turn_enum {P:Program} {w:World} {K:PySem.W.Frag} {es:List Expr} {kk:Nat} {pp:Pos} {e j:Addr} {z:Src} {c:Nat} (n1:e≠j) (n2:z.adr≠e) (n3:z.adr≠j) :
  Turn P w K (.Tuple es kk pp) (Ite K z c) [e,j] e (EnumSt e j z c) where
 mem:=by simp
 obj:=fun i h st b hb=>by
  obtain ⟨⟨old,a1⟩,a2⟩:=st
  simp only [List.mem_cons,List.not_mem_nil,or_false] at hb
  rcases hb with rfl | rfl
  ·exact ⟨_,a1,fun v q=>by cases (show Data.fields _=Data.cell v from q)⟩
  ·exact a2.obj
 keep:=fun i h h' st k=>by
  obtain ⟨⟨old,a1⟩,a2⟩:=st
  exact ⟨⟨old,k e (by simp) _ a1⟩,a2.keep fun o x=>k j (by simp) o x⟩
 item:=by
  intro X hP hw hK hc i pins s σ H E I hf st hg
  subst hP hw hK
  obtain ⟨xs,x,h1,ex⟩:=hg
  obtain ⟨its,rv,sh,_⟩:=I.src h1
  obtain ⟨u,hu,ru⟩:=rv.get ex
  obtain ⟨⟨old,a1⟩,a2⟩:=st
  have hi:i < its.toArray.size:=by
   have:=(List.getElem?_eq_some_iff.mp hu).1
   simpa using this
  refine wpAny_pyNext_enum_itemD (drawsS (show X.A.in1.handled=none from I.ok.hd hc) j z n3 its.toArray c) a1 ⟨i,rfl,a2,sh⟩ (by omega) n1 (by simp [n1,Ne.symm n2]) fun y h' tk ⟨k,ek,hy⟩ b1 b2 b3 b4 b5=>?_
  have ek:k=i:=by omega
  subst ek
  have ey:y=u:=by
   have:its.toArray[k]?=some u:=by simpa using hu
   rw [this] at hy
   exact (Option.some.inj hy).symm
  subst ey
  refine ⟨_,rfl,wpAny_letOwnedTupleGo_enum b1 fun h'' c1 sb=>?_⟩
  obtain ⟨k2,ek2,b2,b2'⟩:=b2
  have ek2:k2=k+1:=by omega
  subst ek2
  have hp:=I.hok.fresh (Nat.le_refl s.heap.objs.size)
  have elt:e < s.heap.objs.size:=Heap.lt_size a1
  have old':∀ b ∈ [e,j],b < s.heap.objs.size:=fun b hb=>by
   simp only [List.mem_cons,List.not_mem_nil,or_false] at hb
   rcases hb with rfl | rfl
   ·exact elt
   ·exact a2.lt
  have kept:∀ b o,b ∉ [e,j]->s.heap.get? b=some o->h''.get? b=some o:=fun b o hb q=>by
   simp only [List.mem_cons,List.not_mem_nil,or_false,not_or] at hb
   exact (sb.2 b hb.1).trans (b5 b o hb.1 hb.2 q)
  have pairAt:h''.get? s.heap.objs.size=some { cls:=.type "tuple",data:=.seq #[.int ((c+k:Nat):Int) tk,y] }:=(sb.2 _ (Nat.ne_of_gt elt)).trans b3
  have I1:=I.pair (x:=.int ((c+k:Nat):Int)) (h':=s.heap.push { cls:=.type "tuple",data:=.seq #[.int ((c+k:Nat):Int) tk,y] }) (t':=tk+1) (fun b o e=>Heap.get?_push_of_some _ e) (Nat.le_refl _) (Heap.get?_push_size _ rfl) ⟨_,rfl⟩ ru
  have I2:=I1.turnedL (h':=h'') (t':=tk+1) (ch:=[e,j]) (fun b o hb e=>by
   rcases Heap.get?_push_cases e with ⟨q1,q2⟩ | q
   ·subst q1 q2; exact pairAt
   ·exact kept b o hb q) fun b hb=>by
    obtain ⟨f0,f1,f2,f3,f4,f5⟩:=hf b hb
    exact ⟨by rw [upd_ne (Nat.ne_of_lt (old' b hb))]; exact f0,f1,f2,f3,f4,f5⟩
  refine ⟨.ref s.heap.objs.size,_,I2,rfl,⟨s.heap.objs.size,x,hp,rfl,rfl,fun xs' g1=>?_⟩,⟨⟨y,?_⟩,b2.keep fun o q=>(sb.2 _ (Ne.symm n1)).trans q⟩,fun b hb=>?_⟩
  ·rw [I.src_inj g1 h1]; exact ex
  ·have:(((c+(k+1):Nat)):Int)=((c+k:Nat):Int)+1:=by omega
   rw [this]
   exact c1
  ·rw [upd_ne (Nat.ne_of_lt (old' b hb))]; exact (hf b hb).1
 done:=by
  intro X hP hw hK hc i pins s σ H E I hf st hg
  subst hP hw hK
  obtain ⟨xs,h1,en⟩:=hg
  obtain ⟨its,rv,sh,_⟩:=I.src h1
  obtain ⟨⟨old,a1⟩,a2⟩:=st
  have l1:=rv.length
  obtain ⟨f0,f1,f2,f3,f4,f5⟩:=hf j (by simp)
  exact wpAny_pyNext_enum_endD (drawsE (show X.A.in1.handled=none from I.ok.hd hc) j z its.toArray 0 i (by simp; omega)) a1 ⟨rfl,a2,sh⟩ fun h' eb=>⟨rfl,I.turned (t':=s.toks) (fun b o hb e=>eb b o hb e) f0 f1 f3 f4 f5⟩
 self:=fun _ _ _ _ _ st h=>by
  obtain ⟨⟨old,a1⟩,_⟩:=st
  exact wpAny_pyIter_enum a1 h
end L2.L3
namespace L2.L3
open PySem PySem.Spec PyProof.Rows
section
variable {prog:Program} {w:World} {A:Around} {E:Value->Shared->Prop} {s:Shared}
theorem call_zipS {z1 z2:Src} {xs ys:Array Value} {Q:Value->Shared->Prop} (q1:SrcHas s.heap z1 xs) (q2:SrcHas s.heap z2 ys)
  (h:∀ h',ZipSt (s.heap.objs.size+4) (s.heap.objs.size+2) (s.heap.objs.size+3) s.heap.objs.size (s.heap.objs.size+1) z1 z2 .none 0 h'->(∀ c o,s.heap.get? c=some o->h'.get? c=some o)->Q (.ref (s.heap.objs.size+4)) { s with heap:=h' }) :
  wpAny (model prog w) A (call (.type "zip") [.ref z1.adr,.ref z2.adr]) Q E s:=by
 refine callType_new PySem.F.called_zip (by decide) (PySem.F.typeCall_zip_2 _ _) (PySem.F.newCall_zip_2 _ _) (fun obj=>PySem.F.args_object_init_3 obj _ _) PySem.F.entry_zip_new (zipS_new z1 z2 xs ys) ⟨q1,q2,?_⟩
 have s1:(zh1 s.heap z1).objs.size=s.heap.objs.size+1:=Heap.size_push ..
 have s2:(zh2 s.heap z1 z2).objs.size=s.heap.objs.size+2:=by rw [Heap.size_push,s1]
 have s3:(zh3 s.heap z1 z2).objs.size=s.heap.objs.size+3:=by rw [Heap.size_push,s2]
 have s4:(zh4 s.heap z1 z2).objs.size=s.heap.objs.size+4:=by rw [Heap.size_push,s3]
 have g5:(zh5 s.heap z1 z2).get? (zh4 s.heap z1 z2).objs.size=some _:=Heap.get?_push_size _ rfl
 have g4:(zh5 s.heap z1 z2).get? (zh3 s.heap z1 z2).objs.size=some _:=Heap.get?_push_of_some _ (Heap.get?_push_size _ rfl)
 have g3:(zh5 s.heap z1 z2).get? (zh2 s.heap z1 z2).objs.size=some _:=Heap.get?_push_of_some _ (Heap.get?_push_of_some _ (Heap.get?_push_size _ rfl))
 have g2:SrcIt (zh5 s.heap z1 z2) (zh1 s.heap z1).objs.size z2 0:=(src_it0 (zh1 s.heap z1) z2).keep fun o e=>Heap.get?_push_of_some _ (Heap.get?_push_of_some _ (Heap.get?_push_of_some _ e))
 have g1:SrcIt (zh5 s.heap z1 z2) s.heap.objs.size z1 0:=(src_it0 s.heap z1).keep fun o e=>Heap.get?_push_of_some _ (Heap.get?_push_of_some _ (Heap.get?_push_of_some _ (Heap.get?_push_of_some _ e)))
 show _/\_
 rw [s2,s3,s4] at g5
 rw [s1,s2] at g3
 rw [s3] at g4
 rw [s1] at g2
 rw [s4]
 exact ⟨⟨_,g5,rfl⟩,h _ ⟨g5,g3,⟨_,_,g4⟩,g1,g2⟩ fun c o x=>Heap.get?_push_of_some _ (Heap.get?_push_of_some _ (Heap.get?_push_of_some _ (Heap.get?_push_of_some _ (Heap.get?_push_of_some _ x))))⟩
end
theorem enumS_new (z:Src) (xs:Array Value):Meets (Builtin.«enumerate.__new__» ⟨[.type "enumerate",.ref z.adr],[]⟩) (fun _ R s=>SrcHas s.heap z xs /\
   R (.ok (.ret (.ref (s.heap.push z.it).objs.size))) { s with heap:=(s.heap.push z.it).push { cls:=.type "enumerate",data:=.fields #[.none,.bool false,.ref s.heap.objs.size,rawInt 0,.none,.none] } }) :=
 .of_wp fun prog w A R s h=>by
  obtain ⟨hp,g,d,tk,os⟩:=s
  obtain ⟨q1,h⟩:=h
  have hsub:=sub_enumerate
  have hL1:SrcHas (Shared.heap ⟨hp,g,d,tk,os⟩) z xs:=q1
  wp_walk
  refine wpAny_stack_any fun st=>wpAny_pure ?_
  split
  ·rename_i cl _ _ _ _ _
   cases (cl == Value.type "enumerate")<;>(wp_walk using src_iter hL1; exact ⟨_,rfl,h⟩)
  ·wp_walk using src_iter hL1
   exact ⟨_,rfl,h⟩
theorem enumS_new1 (z:Src) (xs:Array Value) (n:Int) (t:Tok) (hn:Builtin.SmallTypes.fitsIndex n=true):Meets (Builtin.«enumerate.__new__» ⟨[.type "enumerate",.ref z.adr],[("start",.int n t)]⟩) (fun _ R s=>SrcHas s.heap z xs /\
   R (.ok (.ret (.ref (s.heap.push z.it).objs.size))) { s with heap:=(s.heap.push z.it).push { cls:=.type "enumerate",data:=.fields #[.none,.bool false,.ref s.heap.objs.size,rawInt n,.none,.none] } }) :=
 .of_wp fun prog w A R s h=>by
  obtain ⟨hp,g,d,tk,os⟩:=s
  obtain ⟨q1,h⟩:=h
  have hsub:=sub_enumerate
  have hL1:SrcHas (Shared.heap ⟨hp,g,d,tk,os⟩) z xs:=q1
  wp_walk
  refine wpAny_stack_any fun st=>wpAny_pure ?_
  split
  ·rename_i cl _ _ _ _ _
   cases (cl == Value.type "enumerate")<;>(wp_walk using src_iter hL1; (try simp only [hn,Bool.not_true,Bool.false_eq_true,if_false]); wp_walk using src_iter hL1; exact ⟨_,rfl,h⟩)
  ·wp_walk using src_iter hL1; (try simp only [hn,Bool.not_true,Bool.false_eq_true,if_false]); wp_walk using src_iter hL1
   exact ⟨_,rfl,h⟩
section
variable {prog:Program} {w:World} {A:Around} {E:Value->Shared->Prop} {s:Shared}
theorem callKw {T newId initId:String} {Bn Bi:Builtin} {args:List Value} {kw:List (Str × Value)} {S:PySem.Spec} {Q Q₁:Value->Shared->Prop} (ft:TypeCalled T newId initId) (hct:checkTypeCall T ⟨args,kw⟩=pure ()) (hcn:checkBuiltinCall newId ⟨.type T::args,kw⟩=pure ())
  (eN:entryFor table newId=some Bn) (eI:entryFor table initId=some Bi) (g:Meets (Bn ⟨.type T::args,kw⟩) S) (h:S A.in1 (wants Q₁ E) s)
  (hnx:∀ obj s₁,Q₁ obj s₁->s₁.TypeIs obj T/\argsOk initId ⟨obj::args,kw⟩/\∃ Si,Meets (Bi ⟨obj::args,kw⟩) Si/\Si A.in1 (wants (fun r s₂=>r=.none/\Q obj s₂) E) s₁):wpAny (model prog w) A (call (.type T) args kw) Q E s:=by
 obtain ⟨c,tl,hmro⟩:=ft.mro
 have hmade:=ft.made
 have hsub:=ft.sub
 refine wpAny_call (codeAny_of_tree ?tr)
 show wpAny _ _ (callAny (.type T) ⟨args,kw⟩) _ _ _
 refine wpAny_pure ⟨Code.quiet_builtin _ (by decide +kernel),codeAny_builtin PySem.F.entry_type_call ?bt⟩
 rw [Around.under_plain (weight_type_call_type T args kw) (units_type_call_type T args kw)]
 have h1:=ft.notType
 have h2:=ft.canCreate
 repeat any_goals (first | assumption | wp_step)
 refine codeAny_mono (codeAny_call_builtin ft.plain eN (wpAny_of_eq hcn (g prog w A.in1 _ s h))) fun r s₁ hr=>?_
 cases r with
 | error e=>exact hr
 | ok fl =>
  cases fl with
  | ret obj =>
   obtain ⟨hT,hok,Si,gi,hsi⟩:=hnx _ _ hr
   have hli:=ft.init.lookup
   have hbi:=ft.init.bind obj
   repeat any_goals (first | assumption | wp_step)
   refine codeAny_mono (codeAny_call_builtin ft.init.plain eI (ft.init.check _ _ _ _ _ _ _ _ hT hok (gi prog w A.in1 _ s₁ hsi))) fun r2 s2 hr2=>?_
   cases r2 with
   | error e=>exact hr2
   | ok fl2 =>
    cases fl2 with
    | ret r =>
     obtain ⟨rfl,hq⟩:=hr2
     repeat any_goals (first | assumption | wp_step)
    | _=>exact hr2.elim
  | _=>exact hr.elim
end
end L2.L3
namespace L2.L3
open PySem PySem.Spec PyProof.Rows
theorem ct_enum1 (a v:Value):checkTypeCall "enumerate" ⟨[a],[("start",v)]⟩=pure ():=by kernel_rfl
theorem cn_enum1 (a v:Value):checkBuiltinCall "enumerate.__new__" ⟨[.type "enumerate",a],[("start",v)]⟩=pure ():=by kernel_rfl
theorem ao_kw (a b v:Value):argsOk "object.__init__" ⟨[a,b],[("start",v)]⟩:=by
 unfold argsOk; rw [signature?_of (id:="object.__init__") (n:="__init__".toList.reverse) (o:="object".toList.reverse) (by kernel_rfl) PySem.F.owner_object]; kernel_rfl
theorem oi_kw {T newId:String} {self a:Value} {kw:List (Str × Value)} (hl:typeLookup (.type T) "__init__"=pure (some (.builtin "object.__init__"))) (hm:Bind.madeBy (.type T)=pure (some newId)) (hne:(some newId != some "object.__new__")=true) :
  Meets (Builtin.«object.__init__» ⟨[self,a],kw⟩) (fun _ R s=>s.TypeIs self T/\R (.ok (.ret .none)) s):=by
 refine Meets.of_wp fun prog w A R s hs=>?_
 obtain ⟨hT,hq⟩:=hs
 repeat any_goals (first | assumption | wp_step)
 exact ⟨_,rfl,hq⟩
section
variable {prog:Program} {w:World} {A:Around} {E:Value->Shared->Prop} {s:Shared}
theorem enum_at {h:Heap} {z:Src} {n:Int}:IsEnum ((h.push z.it).push { cls:=.type "enumerate",data:=.fields #[.none,.bool false,.ref h.objs.size,rawInt n,.none,.none] }) (h.objs.size+1) h.objs.size n .none:=by
 have:=Heap.get?_push_size (h.push z.it) (o:={ cls:=.type "enumerate",data:=.fields #[.none,.bool false,.ref h.objs.size,rawInt n,.none,.none] }) rfl
 rw [Heap.size_push] at this
 exact this
theorem call_enumS {z:Src} {xs:Array Value} {Q:Value->Shared->Prop} (q1:SrcHas s.heap z xs)
  (h:∀ h',EnumSt (s.heap.objs.size+1) s.heap.objs.size z 0 0 h'->(∀ c o,s.heap.get? c=some o->h'.get? c=some o)->Q (.ref (s.heap.objs.size+1)) { s with heap:=h' }):wpAny (model prog w) A (call (.type "enumerate") [.ref z.adr]) Q E s:=by
 refine callType_new PySem.F.called_enumerate (by decide) (PySem.F.typeCall_enumerate_1 _) (PySem.F.newCall_enumerate_1 _) (fun obj=>PySem.F.args_object_init_2 obj _) PySem.F.entry_enumerate_new (enumS_new z xs) ⟨q1,?_⟩
 show _/\_
 rw [Heap.size_push]
 exact ⟨⟨_,enum_at,rfl⟩,h _ ⟨⟨.none,enum_at⟩,(src_it0 s.heap z).keep fun o e=>Heap.get?_push_of_some _ e⟩ fun c o x=>Heap.get?_push_of_some _ (Heap.get?_push_of_some _ x)⟩
theorem call_enumS1 {z:Src} {xs:Array Value} {n:Nat} {t:Tok} {Q:Value->Shared->Prop} (hn:Builtin.SmallTypes.fitsIndex (n:Int)=true) (q1:SrcHas s.heap z xs)
  (h:∀ h',EnumSt (s.heap.objs.size+1) s.heap.objs.size z n 0 h'->(∀ c o,s.heap.get? c=some o->h'.get? c=some o)->Q (.ref (s.heap.objs.size+1)) { s with heap:=h' }):wpAny (model prog w) A (call (.type "enumerate") [.ref z.adr] [("start",.int n t)]) Q E s:=by
 refine callKw (Q₁:=fun obj s₁=>s₁.TypeIs obj "enumerate"/\Q obj s₁) PySem.F.called_enumerate (ct_enum1 _ _) (cn_enum1 _ _) PySem.F.entry_enumerate_new PySem.F.entry_object_init (enumS_new1 z xs n t hn) ⟨q1,?_⟩ fun obj _ hq=>⟨hq.1,ao_kw _ _ _,_,oi_kw PySem.F.called_enumerate.init.lookup PySem.F.called_enumerate.made (by decide),hq.1,rfl,hq.2⟩
 show _/\_
 rw [Heap.size_push]
 exact ⟨⟨_,enum_at,rfl⟩,h _ ⟨⟨.none,enum_at⟩,(src_it0 s.heap z).keep fun o e=>Heap.get?_push_of_some _ e⟩ fun c o x=>Heap.get?_push_of_some _ (Heap.get?_push_of_some _ x)⟩
theorem callWith_tyKw {M:Model} {A:Around} {E:Value->Shared->Prop} {s:Shared} {env:Env} {pos:Pos} {T:String} {e v:Expr} {nm:Str} {kp:Pos} {Q:Value->Shared->Prop}
  (he:starEach [e] env=[(false,eval e env)])
  (h:wpAny M A (spliced (backTo pos (starEach [e] env))) (fun vs s₁=>wpAny M A (eval v env) (fun kv s₂=>wpAny M A (call (.type T) vs [(nm,kv)]) Q E s₂) E s₁) E s) :
  wpAny M A (callWith pos (.type T) [] (backTo pos (starEach [e] env)) (backToKw pos (keywordEach [⟨some nm,v,kp⟩] env))) Q E s:=by
 unfold callWith
 have ev:wpAny M A (evalArgs (.type T) true (backTo pos (starEach [e] env)) (backToKw pos (keywordEach [⟨some nm,v,kp⟩] env))) (fun a s₁=>wpAny M A (call (.type T) ([]++a.pos) a.kw) Q E s₁) E s:=by
  rw [he] at h ⊢
  refine evalArgs_kwB (by rfl) (wpAny_mono h (fun vs s₁ h₁=>?_) fun _ _ x=>x)
  exact kws_cons (wpAny_mono h₁ (fun kv s₂ h₂=>kws_nil h₂) fun _ _ x=>x)
 refine wpAny_bind (wpAny_holding (wpAny_mono ev (fun a s₁ h₁=>wpAny_bind (wpAny_standAt ?st)) fun _ _ x=>x))
 have pl:((backTo pos (starEach [e] env)).any (·.1) || (backToKw pos (keywordEach [⟨some nm,v,kp⟩] env)).any (·.1.isNone))=false:=by rw [he]; rfl
 simp only [Bool.or_eq_false_iff] at pl
 simp only [pl.1,pl.2,Bool.or_false]
 refine wpAny_bind (wpAny_pure ?pr)
 exact wpAny_bind (wpAny_mono h₁ (fun r s₂ hr=>wpAny_bind (wpAny_holding (wpAny_point (wpAny_pure hr)))) fun _ _ x=>x)
end
theorem nne {a b:Nat} (h:a≠b):((a:Addr)≠(b:Addr)):=h
theorem zipOf_apart {n l1 l2:Nat} (h1:l1 < n) (h2:l2 < n):ZipApart ((n+4:Nat):Addr) ((n+2:Nat):Addr) ((n+3:Nat):Addr) (n:Addr) ((n+1:Nat):Addr) (l1:Addr) (l2:Addr):=by
 constructor<;>(apply nne; omega)
end L2.L3
namespace L2.L3
open PySem PySem.Spec PyProof.Rows
noncomputable def DcAt (P:Program) (w:World) (K:PySem.W.Frag) (a:Addr) (kvs:List (Str × V)):Prop :=
 (a == sysModules)=false/\∃ us:List (Str × Value),KV kvs us/\∀ h:Heap,K.In h->h.DictOf (PySem.strKind P w) a us
theorem kv_look {kvs:List (Str × V)} {us:List (Str × Value)} (r:KV kvs us) (x:Str):RelO (kvs.lookup x) (valueAt us x):=by
 unfold KV at r
 induction r with
 | nil=>exact True.intro
 | @cons p q ps qs h t ih =>
  obtain ⟨h1,h2⟩:=h
  obtain ⟨p1,p2⟩:=p
  obtain ⟨q1,q2⟩:=q
  have h1:p1=q1:=h1
  subst h1
  by_cases e:p1=x
  ·subst e
   have l:valueAt ((p1,q2)::qs) p1=some q2:=by simp [valueAt]
   have m:List.lookup p1 ((p1,p2)::ps)=some p2:=by simp
   rw [l,m]
   exact h2
  ·have l:valueAt ((p1,q2)::qs) x=valueAt qs x:=by simp [valueAt,e]
   have e':(x == p1)=false:=by simpa using fun z=>e z.symm
   have m:List.lookup x ((p1,p2)::ps)=List.lookup x ps:=by rw [List.lookup_cons,e']
   rw [l,m]
   exact ih
theorem relO_d {o:Option V} {u:Option Value} (r:RelO o u):RelV (o.getD .non) (u.getD .none):=by
 cases o with
 | none=>cases u with
  | none=>rfl
  | some _=>exact (show False from r).elim
 | some _=>cases u with
  | none=>exact (show False from r).elim
  | some _=>exact r
section
variable {X:Cx} {a:Addr} {kvs:List (Str × V)}
theorem ix_const (D:DcAt X.prog X.w X.K a kvs):IxR X (fun x y H Q=>∃ z v,x=.ref a/\y=.str z/\kvs.lookup z=some v/\Q v H):=by
 intro value slice pins s σ H x y v u Q I rx ry h hs
 obtain ⟨z,r,rfl,rfl,l,q⟩:=h
 cases rx
 obtain ⟨t,rfl⟩:=ry
 obtain ⟨hd,us,rel,dd⟩:=D
 have dd:=dd _ I.kIn
 have rl:=kv_look rel z
 rw [l] at rl
 cases eu:valueAt us z with
 | none=>rw [eu] at rl; exact (show False from rl).elim
 | some w' =>
  rw [eu] at rl
  exact subscriptTail_builtinR (x:=w') dd.typeIs PySem.F.slot_dict_getitem.lookup
   (wpAny_getItem_of (Q:=fun r s'=>r=w'/\EP X pins σ Q r s') (strKind_is X.prog X.w z t) dd.mapOf eu ⟨rfl,r,H,I.tok _,rl,q⟩) hs
theorem pe_cget {o e:Expr} {ty:TE} {apos cpos:Pos} (D:DcAt X.prog X.w X.K a kvs) (ho:PE X o fun _ H Q=>Q (.ref a) H) (he:PE X e ty)
  (hbase:attributeBase o "get" X.env (eval o X.env)=eval o X.env)
  (hfew:((backTo cpos (starEach [e] X.env)).all (fun x=>!x.1) && (backToKw cpos (keywordEach [] X.env)).all (fun x=>x.1.isSome)
   && decide (([e]:List Expr).length+([]:List Keyword).length+(if ([]:List Keyword).isEmpty then 0 else 1) < 30))=true)
  (hline:(apos.endLine == cpos.line)=true) (hs:starEach [e] X.env=[(false,eval e X.env)]) :
  PE X (.Call (.Attribute o "get" apos) [e] [] cpos) (fun σ H Q=>ty σ H fun y H1=>∃ z,y=.str z/\Q ((kvs.lookup z).getD .non) H1):=by
 intro pins s σ H Q I h
 refine wpAny_Call_method_late hbase hfew hline rfl (thn (ho pins s σ H (fun x H1=>x=.ref a/\ty σ H1 fun y H2=>∃ z,y=.str z/\Q ((kvs.lookup z).getD .non) H2) I ⟨rfl,h⟩) fun v s1 ⟨x,H1,I1,r1,ex,q1⟩=>?_)
 subst ex
 obtain rfl:v=Value.ref a:=r1
 obtain ⟨hd,us,rel,dd0⟩:=D
 have d1:=dd0 _ I1.kIn
 refine ⟨"dict",_,PySem.F.plainAttrs_dict,PySem.F.slot_dict_get,PySem.F.type_dict_get,d1.typeIs,fun b q=>?_,?_⟩
 ·cases q
  obtain ⟨ob,_,_,g1,g2,_⟩:=d1
  exact ⟨ob,g1,g2.2.1⟩
 ·rw [hs]
  refine Calls.callWith_builtin rfl (Calls.evalArgs_plain (Calls.spliced_cons (thn (he pins s1 σ H1 _ I1 q1) fun iv s2 ⟨y,H2,I2,ry,z,ey,q2⟩=>Calls.spliced_nil ?_)))
  subst ey
  obtain ⟨t,rfl⟩:=ry
  have d2:=dd0 _ I2.kIn
  refine call_meetsIn PySem.F.slot_dict_get d2.typeIs PySem.F.entry_dict_get (PySem.F.args_dict_get_2 _ _) (meets_dict_get (PySem.strKind X.prog X.w) a (strKind_is X.prog X.w z t) hd) ⟨_,d2.mapOf,_,H2,I2.tok _,?_,q2⟩
  exact relO_d (kv_look rel z)
end
end L2.L3
namespace L2.L3
open PySem PySem.Spec PyProof.Rows
inductive Bi where
 | len | all | int | str | min | tuple
 deriving DecidableEq
inductive Mt where
 | split | append | join
 deriving DecidableEq
inductive Prm where
 | dget (x:Str) | dix (x:Str)
 deriving DecidableEq
inductive ItK where
 | val | rng1 | zip2 | enum | enumA
 deriving DecidableEq
inductive Tg where
 | nm (i:Nat) | tp (is:List Nat)
 deriving DecidableEq
set_option genInjectivity false in
inductive PX where
 | var (i:Nat) | int (i:Int) | str (x:Str) | bl (b:Bool) | non
 | glo (x:Str) | bty (x:Str) (n:String)
 | bin (op:Operator) (a b:PX)
 | cmp (op:CmpOp) (a b:PX) | chn (o p:CmpOp) (a b c:PX)
 | and (a b:PX) | or (a b:PX) | not (a:PX) | ife (c a b:PX)
 | call (f:Str) (as:PX)
 | bi (f:Bi) (as:PX) | isi (a c:PX) | prm (o:Prm) (as:PX)
 | mt (m:Mt) (o as:PX)
 | idx (a b:PX) | slc (a lo hi:PX) | nop
 | lst (as:PX) | tup (as:PX)
 | comp (mask:List Bool) (tgs:List Str) (tg:Tg) (ik:ItK) (its cond elt:PX)
 | anil | acons (a as:PX)
structure Ev where
 sp:Str->Sp
 va:Str->V
 dc:Str->Option (List (Str × V))
structure W3 where
 e:TE
 t:TT
 a:TA
noncomputable def never:W3:=⟨fun _ _ _=>False,fun _ _ _=>False,fun _ _ _=>False⟩
noncomputable def truQ (K:PySem.W.Frag) (x:V) (H:Hp) (Q:Bool->Hp->Prop):Prop:=match x with
 | .bl b=>Q b H
 | .int i=>Q (i != 0) H
 | .non=>Q false H
 | .str z=>z.length<=sizeLine/\Q ((z.length:Int) != 0) H
 | x=>∃ k,TruV K x H k/\Q k H
noncomputable def asB (x:V) (H:Hp) (Q:Bool->Hp->Prop):Prop:=match x with
 | .bl b=>Q b H
 | _=>False
noncomputable def binR (K:PySem.W.Frag):Operator->R2
 | .Add=>rAdd K
 | .Sub=>rSub
 | .Mult=>rMul K
 | .FloorDiv=>rFdiv
 | .Mod=>rMod
 | .Pow=>rPow
 | _=>fun _ _ _ _=>False
noncomputable def isNoneR (neg:Bool):R2:=fun x y H Q=>match y with
 | .non=>Q (.bl (if neg then !decide (x=.non) else decide (x=.non))) H
 | _=>False
noncomputable def cmpR (K:PySem.W.Frag):CmpOp->R2
 | .Eq=>rEq K false
 | .NotEq=>rEq K true
 | .Lt=>rOrd fun i j=>decide (i < j)
 | .LtE=>rOrd fun i j=>decide (i<=j)
 | .Gt=>rOrd fun i j=>decide (j < i)
 | .GtE=>rOrd fun i j=>decide (j<=i)
 | .In=>rInU K false
 | .NotIn=>rInU K true
 | .Is=>isNoneR false
 | .IsNot=>isNoneR true
noncomputable def rIxU (K:PySem.W.Frag):R2:=fun x y H Q=>match x,y with
 | .str z,.int i=>z.length<=sizeLine/\∃ c,atI z.cps.toList i=some c/\Q (.str ⟨#[c]⟩) H
 | .ref a,.int i=>∃ xs v,(SqL K H a xs∨SqT K H a xs)/\atI xs i=some v/\Q v H
 | _,_=>False
noncomputable def rInt:List V->Hp->VK->Prop:=fun vs H Q=>match vs with
 | [.int i]=>Q (.int i) H
 | [.bl b]=>Q (.int (if b then 1 else 0)) H
 | [.str z]=>z.length<=640/\∃ n,intText? z=some n/\Q (.int n) H
 | _=>False
noncomputable def rStr:List V->Hp->VK->Prop:=fun vs H Q=>match vs with
 | [.int i]=>i.natAbs.log2 < 1920/\Q (.str (toString i)) H
 | [.str z]=>Q (.str z) H
 | _=>False
noncomputable def rMax (g:Bool):List V->Hp->VK->Prop:=fun vs H Q=>match vs with
 | [.int i,.int j]=>Q (.int (if g then (if j > i then j else i) else (if j < i then j else i))) H
 | _=>False
noncomputable def rListOf (K:PySem.W.Frag):List V->Hp->VK->Prop:=fun vs H Q=>match vs with
 | [.ref p]=>∃ ys,(SqL K H p ys∨SqT K H p ys)/\∀ l,H l=none->Q (.ref l) (upd H l (.lst ys))
 | _=>False
noncomputable def rTupOf (K:PySem.W.Frag):List V->Hp->VK->Prop:=fun vs H Q=>match vs with
 | [.ref p]=>∃ ys,(SqL K H p ys/\∀ l,H l=none->Q (.ref l) (upd H l (.tup ys)))∨(SqT K H p ys/\Q (.ref p) H)
 | _=>False
noncomputable def biR (K:PySem.W.Frag):Bi->List V->Hp->VK->Prop
 | .len=>rLen K
 | .all=>rAll K
 | .int=>rInt
 | .str=>rStr
 | .min=>rMax false
 | .tuple=>rTupOf K
noncomputable def rAppU:V->List V->Hp->VK->Prop:=fun x vs H Q=>match x,vs with
 | .ref l,[y]=>∃ xs,H l=some (.lst xs)/\xs.length < sizeLine/\Q .non (upd H l (.lst (xs++[y])))
 | _,_=>False
noncomputable def rJoin (K:PySem.W.Frag):V->List V->Hp->VK->Prop:=fun x vs H Q=>match x,vs with
 | .str z,[.ref b]=>∃ ys:List Str,SqL K H b (ys.map V.str)/\(ys.map (·.length)).sum+ys.length * z.length<=16777216/\Q (.str (Txt.join z ys)) H
 | _,_=>False
noncomputable def mtR (K:PySem.W.Frag):Mt->V->List V->Hp->VK->Prop
 | .split=>rSplit
 | .append=>rAppU
 | .join=>rJoin K
noncomputable def Mt.ty:Mt->String
 | .split=>"str"
 | .join=>"str"
 | .append=>"list"
noncomputable def partQ (x:V) (H:Hp) (Q:Option Int->Hp->Prop):Prop:=match x with
 | .int i=>Q (some i) H
 | _=>False
inductive Item where
 | one (v:V) | tup (vs:List V)
noncomputable def itemsR (K:PySem.W.Frag):ItK->List V->Hp->(List Item->(Hp->Prop)->Hp->Prop)->Prop
 | .val,[.str z],H,R=>R (z.cps.toList.map fun c=>.one (.str ⟨#[c]⟩)) (fun _=>True) H
 | .val,[.ref a],H,R=>(∃ xs,SqL K H a xs/\R (xs.map .one) (fun H=>SqL K H a xs) H)∨(∃ xs,SqT K H a xs/\R (xs.map .one) (fun H=>SqT K H a xs) H)
 | .rng1,[.int j],H,R=>(-(2 ^ 62)<=j/\j < 2 ^ 62)/\R ((List.range j.toNat).map fun (i:Nat)=>.one (.int (i:Int))) (fun _=>True) H
 | .zip2,[.ref a,.ref b],H,R=>∃ z1 z2 xs ys,Src.adr z1=a/\Src.adr z2=b/\SqS K H z1 xs/\SqS K H z2 ys/\R ((xs.zip ys).map fun p=>.tup [p.1,p.2]) (fun H=>SqS K H z1 xs/\SqS K H z2 ys) H
 | .enum,[.ref a],H,R=>∃ z xs,Src.adr z=a/\SqS K H z xs/\R (xs.zipIdx.map fun p=>.tup [.int (p.2:Int),p.1]) (fun H=>SqS K H z xs) H
 | .enumA,[.ref a,.int n],H,R=>∃ z xs,Src.adr z=a/\SqS K H z xs/\(0<=n/\n < 2 ^ 62)/\R (xs.zipIdx.map fun p=>.tup [.int (((n.toNat+p.2:Nat)):Int),p.1]) (fun H=>SqS K H z xs) H
 | _,_,_,_=>False
noncomputable def setAll:List Nat->List V->St->Option St
 | [],[],σ=>some σ
 | i::is,v::vs,σ=>setAll is vs (σ.set i (some v))
 | _,_,_=>none
noncomputable def bindT (K:PySem.W.Frag):Tg->TG
 | .nm i=>fun v σ H Q=>Q (σ.set i (some v)) H
 | .tp is=>fun v σ H Q=>match v with
  | .ref p=>∃ xs σ',SqT K H p xs/\setAll is xs σ=some σ'/\Q σ' H
  | _=>False
noncomputable def bindI (K:PySem.W.Frag) (tg:Tg):Item->St->Hp->(St->Hp->Prop)->Prop
 | .one v=>bindT K tg v
 | .tup vs=>fun σ H Q=>match tg with
  | .tp is=>∀ H',Same H H'->∃ σ',setAll is vs σ=some σ'/\Q σ' H'
  | .nm i=>∀ p,H p=none->Q (σ.set i (some (.ref p))) (upd H p (.tup vs))
noncomputable def compR (K:PySem.W.Frag) (xs:List Item) (st:Hp->Prop) (bind:Item->St->Hp->(St->Hp->Prop)->Prop) (tc:TT) (te:TE) (σ:St) (H:Hp) (Q:VK):Prop :=
 ∃ W:Nat->List V->Hp->Prop,W 0 [] H/\(∀ i acc H,i<=xs.length->W i acc H->st H) /\
  (∀ i x acc H,xs[i]?=some x->W i acc H->bind x σ H fun σ2 H2=>tc σ2 H2 fun b H3=>if b=true then te σ2 H3 fun y H4=>acc.length < sizeLine/\W (i+1) (acc++[y]) H4 else W (i+1) acc H3) /\
  ∀ acc H2,W xs.length acc H2->acc.length<=sizeLine/\∀ p,H2 p=none->Q (.ref p) (upd H2 p (.lst acc))
structure Yields (J:It) (xs:List Item) (st:Hp->Prop):Prop where
 go:∀ i H,st H->i < xs.length->J.go i H
 yld:∀ i H x H',st H->i < xs.length->J.yld i H x H'->∃ it,xs[i]?=some it/\match it with
  | .one v=>x=v/\H'=H
  | .tup vs=>∃ p,H p=none/\x=.ref p/\H'=upd H p (.tup vs)
 stop:∀ i H,st H->xs.length<=i->J.stop i H
noncomputable def compJ (J:It) (g:TG) (tc:TT) (te:TE) (σ0:St) (H1:Hp) (Q:VK):Prop:=∃ W:Nat->Nat->List V->St->Hp->Prop,(∃ m,W 0 m [] σ0 H1) /\
 ∀ i m acc σ' H',W i m acc σ' H'->(J.stop i H'/\acc.length<=sizeLine/\∀ p,H' p=none->Q (.ref p) (upd H' p (.lst acc))) ∨
  (J.go i H'/\∀ x H2,J.yld i H' x H2->g x σ' H2 fun σ3 H3=>tc σ3 H3 fun b H4=>if b=true then te σ3 H4 fun y H5=>acc.length < sizeLine/\∃ m',m' < m/\W (i+1) m' (acc++[y]) σ3 H5 else ∃ m',m' < m/\W (i+1) m' acc σ3 H4)
noncomputable def CompB (K:PySem.W.Frag) (xs:List Item) (st:Hp->Prop) (tg:Tg) (tc:TT) (te:TE) (σ0:St) (H:Hp) (Q:VK):Prop:=∀ J,Yields J xs st->compJ J (bindT K tg) tc te σ0 H Q
noncomputable def prmR (K:PySem.W.Frag) (Γ:Ev):Prm->List V->Hp->VK->Prop
 | .dget x,[.str z],H,Q=>∃ kvs,Γ.dc x=some kvs/\Q ((kvs.lookup z).getD .non) H
 | .dix x,[.str z],H,Q=>∃ kvs v,Γ.dc x=some kvs/\kvs.lookup z=some v/\Q v H
 | _,_,_,_=>False
noncomputable def isNop:PX->Bool
 | .nop=>true
 | _=>false
noncomputable def wp (K:PySem.W.Frag) (Γ:Ev):PX->XK->W3
 | .var i,E=>let e:TE:=fun σ H Q=>match σ[i]? with
   | some (some v)=>Q v H
   | _=>False
  ⟨e,fun σ H Q=>e σ H fun x H1=>truQ K x H1 Q,never.a⟩
 | .int i,E=>⟨fun _ H Q=>Q (.int i) H,fun _ H Q=>Q (i != 0) H,never.a⟩
 | .str x,E=>⟨fun _ H Q=>Q (.str x) H,never.t,never.a⟩
 | .bl b,E=>⟨fun _ H Q=>Q (.bl b) H,fun _ H Q=>Q b H,never.a⟩
 | .non,E=>⟨fun _ H Q=>Q .non H,fun _ H Q=>Q false H,never.a⟩
 | .glo x,E=>⟨fun _ H Q=>Q (Γ.va x) H,fun _ H Q=>truQ K (Γ.va x) H Q,never.a⟩
 | .bty _ n,E=>⟨fun _ H Q=>Q (.ty n) H,never.t,never.a⟩
 | .bin op a b,E=>let e:TE:=fun σ H Q=>(wp K Γ a E).e σ H fun x H1=>(wp K Γ b E).e σ H1 fun y H2=>binR K op x y H2 Q
  ⟨e,fun σ H Q=>e σ H fun x H1=>truQ K x H1 Q,never.a⟩
 | .cmp op a b,E=>let e:TE:=fun σ H Q=>(wp K Γ a E).e σ H fun x H1=>(wp K Γ b E).e σ H1 fun y H2=>cmpR K op x y H2 Q
  ⟨e,fun σ H Q=>e σ H fun x H1=>asB x H1 Q,never.a⟩
 | .chn o p a b c,E=>let e:TE:=fun σ H Q=>(wp K Γ a E).e σ H fun x H1=>(wp K Γ b E).e σ H1 fun y H2=>cmpR K o x y H2 fun z H3=>asB z H3 fun k H4=>if k=true then (wp K Γ c E).e σ H4 fun w' H5=>cmpR K p y w' H5 Q else Q (.bl false) H4
  ⟨e,fun σ H Q=>e σ H fun x H1=>asB x H1 Q,never.a⟩
 | .and a b,E=>⟨fun σ H Q=>(wp K Γ a E).e σ H fun x H1=>asB x H1 fun c H2=>if c=true then (wp K Γ b E).e σ H2 Q else Q (.bl false) H2,
   fun σ H Q=>(wp K Γ a E).t σ H fun c H1=>if c=true then (wp K Γ b E).t σ H1 Q else Q false H1,never.a⟩
 | .or a b,E=>⟨fun σ H Q=>(wp K Γ a E).e σ H fun x H1=>asB x H1 fun c H2=>if c=true then Q (.bl true) H2 else (wp K Γ b E).e σ H2 Q,
   fun σ H Q=>(wp K Γ a E).t σ H fun c H1=>if c=true then Q true H1 else (wp K Γ b E).t σ H1 Q,never.a⟩
 | .not a,E=>⟨fun σ H Q=>(wp K Γ a E).e σ H fun x H1=>truQ K x H1 fun c H2=>Q (.bl (!c)) H2,fun σ H Q=>(wp K Γ a E).t σ H fun c H1=>Q (!c) H1,never.a⟩
 | .ife c a b,E=>⟨fun σ H Q=>(wp K Γ c E).t σ H fun k H1=>if k=true then (wp K Γ a E).e σ H1 Q else (wp K Γ b E).e σ H1 Q,never.t,never.a⟩
 | .call f as,E=>let e:TE:=fun σ H Q=>(wp K Γ as E).a σ H fun vs H1=>Γ.sp f vs H1 Q E
  ⟨e,fun σ H Q=>e σ H fun x H1=>truQ K x H1 Q,never.a⟩
 | .bi f as,E=>let e:TE:=fun σ H Q=>(wp K Γ as E).a σ H fun vs H1=>biR K f vs H1 Q
  ⟨e,fun σ H Q=>e σ H fun x H1=>truQ K x H1 Q,never.a⟩
 | .prm o as,E=>let e:TE:=fun σ H Q=>(wp K Γ as E).a σ H fun vs H1=>prmR K Γ o vs H1 Q
  ⟨e,fun σ H Q=>e σ H fun x H1=>truQ K x H1 Q,never.a⟩
 | .isi a c,E=>let e:TE:=fun σ H Q=>(wp K Γ a E).e σ H fun x H1=>(wp K Γ c E).e σ H1 fun y H2=>rIsI K [x,y] H2 Q
  ⟨e,fun σ H Q=>e σ H fun x H1=>truQ K x H1 Q,never.a⟩
 | .mt m o as,E=>let e:TE:=fun σ H Q=>(wp K Γ o E).e σ H fun x H1=>tyV K m.ty x H1/\(wp K Γ as E).a σ H1 fun vs H2=>mtR K m x vs H2 Q
  ⟨e,fun σ H Q=>e σ H fun x H1=>truQ K x H1 Q,never.a⟩
 | .idx a b,E=>let e:TE:=fun σ H Q=>(wp K Γ a E).e σ H fun x H1=>(wp K Γ b E).e σ H1 fun y H2=>rIxU K x y H2 Q
  ⟨e,fun σ H Q=>e σ H fun x H1=>truQ K x H1 Q,never.a⟩
 | .slc a lo hi,E=>⟨fun σ H Q=>(wp K Γ a E).e σ H fun x H1 =>
   (if isNop lo=true then fun (R:Option Int->Hp->Prop)=>R none H1 else fun R=>(wp K Γ lo E).e σ H1 fun l H2=>partQ l H2 R) fun l H2 =>
   (if isNop hi=true then fun (R:Option Int->Hp->Prop)=>R none H2 else fun R=>(wp K Γ hi E).e σ H2 fun u H3=>partQ u H3 R) fun u H3=>rSl K x l u H3 Q,never.t,never.a⟩
 | .nop,E=>never
 | .lst as,E=>⟨fun σ H Q=>(wp K Γ as E).a σ H fun xs H1=>xs.length<=sizeLine/\∀ p,H1 p=none->Q (.ref p) (upd H1 p (.lst xs)),never.t,never.a⟩
 | .tup as,E=>⟨fun σ H Q=>(wp K Γ as E).a σ H fun xs H1=>xs.length<=sizeLine/\∀ p,H1 p=none->Q (.ref p) (upd H1 p (.tup xs)),never.t,never.a⟩
 | .comp mask tgs tg ik its cond elt,E=>⟨fun σ H Q=>(wp K Γ its E).a σ H fun vs H1=>itemsR K ik vs H1 fun xs st H2 =>
   CompB K xs st tg (if isNop cond=true then fun _ H Q=>Q true H else (wp K Γ cond (fun _ _ _=>False)).t) (wp K Γ elt (fun _ _ _=>False)).e (entS tgs.length mask σ) H2 Q,never.t,never.a⟩
 | .anil,E=>⟨never.e,never.t,fun _ H Q=>Q [] H⟩
 | .acons a as,E=>⟨never.e,never.t,fun σ H Q=>(wp K Γ a E).e σ H fun x H1=>(wp K Γ as E).a σ H1 fun xs H2=>Q (x::xs) H2⟩
structure Glob where
 ev:Ev
 fn:Str->Prop
 val:Str->Prop
 no:Str->Prop
 dc:Str->Prop
noncomputable def Bi.nm:Bi->Str
 | .len=>"len"
 | .all=>"all"
 | .int=>"int"
 | .str=>"str"
 | .min=>"min"
 | .tuple=>"tuple"
noncomputable def Mt.nm:Mt->Str
 | .split=>"split"
 | .append=>"append"
 | .join=>"join"
noncomputable def ikN (G:Glob):ItK->Prop
 | .val=>True
 | .rng1=>G.no "range"
 | .zip2=>G.no "zip"
 | .enum | .enumA=>G.no "enumerate"
noncomputable def prmN (G:Glob):Prm->Prop
 | .dget x | .dix x=>G.dc x
noncomputable def needs (G:Glob):PX->Prop
 | .glo x=>G.val x
 | .bty x n=>G.no x/\bootBuiltins x=some (.type n)
 | .bin _ a b | .cmp _ a b | .and a b | .or a b | .idx a b | .acons a b=>needs G a/\needs G b
 | .not a | .lst a | .tup a=>needs G a
 | .chn _ _ a b c | .ife a b c | .slc a b c=>needs G a/\needs G b/\needs G c
 | .call f as=>G.fn f/\needs G as
 | .bi f as=>G.no f.nm/\needs G as
 | .prm o as=>prmN G o/\needs G as
 | .isi a c=>G.no "isinstance"/\needs G a/\needs G c
 | .mt _ o as=>needs G o/\needs G as
 | .comp _ _ _ ik its cond elt=>ikN G ik/\needs G its/\needs G cond/\needs G elt
 | _=>True
structure SC where
 N:List Str
 sc:Scope
noncomputable def notStar:Expr->Bool
 | .Starred _ _=>false
 | _=>true
noncomputable def visB (S:SC) (i:Nat) (x:Str):Bool :=
 S.N[i]? == some x && (S.sc.names.lookup x == some .local || S.sc.names.lookup x == some .cell || S.sc.names.lookup x == some .free) && x != "__debug__" && x != "__classdict__"
noncomputable def locB (S:SC) (i:Nat) (x:Str):Bool:=S.N[i]? == some x && S.sc.names.lookup x == some .local
noncomputable def gloB (S:SC) (x:Str):Bool:=S.sc.names.lookup x == some .globalImplicit && x != "__debug__" && x != "__name__"
noncomputable def compS (S:SC) (scope:Scope) (tgs:List Str) (mask:List Bool):SC:=⟨tgs++hideN mask 0 S.N,relabelS scope S.sc⟩
noncomputable def nodupB:List Str->Bool
 | []=>true
 | x::r=>!r.contains x && nodupB r
noncomputable def compB (S:SC) (scope:Scope) (tgs:List Str) (mask:List Bool):Bool :=
 scope.kind == .function && scope.names.all (fun y=>y.2 != .cell && (y.2 != .local || (scope.names.lookup y.1 == some .local && (tgs.contains y.1 || y.1 == (".0":Str)))) &&
  (y.2 != .free || S.sc.names.lookup y.1 == some .cell || S.sc.names.lookup y.1 == some .free)) && nodupB (tgs++hideN mask 0 S.N) && !(tgs++hideN mask 0 S.N).contains (".0":Str)
noncomputable def tgB (S:SC):Tg->Expr->Bool
 | .nm i,.Name x _=>locB S i x
 | .tp is,.Tuple es _ _=>is.length == es.length && (is.zip es).all fun p=>match p.2 with
  | .Name x _=>locB S p.1 x
  | _=>false
 | _,_=>false
noncomputable def noSuper:Expr->Bool
 | .Call (.Name _ _) [] [] _=>false
 | _=>true
noncomputable def noSet:Expr->Bool
 | .Set _ _ _=>false
 | _=>true
noncomputable def noSlice:Expr->Bool
 | .Slice _ _ _ _=>false
 | _=>true
noncomputable def isArgs:PX->Bool
 | .anil=>true
 | .acons _ r=>isArgs r
 | _=>false
noncomputable def isTupE:Expr->Bool
 | .Tuple _ _ _=>true
 | _=>false
section
variable {α:Type}
noncomputable def onName (e:Expr) (f:Str->Pos->Bool):Bool:=match e with | .Name x p=>f x p | _=>false
noncomputable def onConst (e:Expr) (f:Const->Bool):Bool:=match e with | .Constant c _ _=>f c | _=>false
noncomputable def onBin (e:Expr) (f:Expr->Operator->Expr->Pos->Bool):Bool:=match e with | .BinOp l o r p=>f l o r p | _=>false
noncomputable def onUn (e:Expr) (f:UnaryOp->Expr->Bool):Bool:=match e with | .UnaryOp o x _=>f o x | _=>false
noncomputable def onCmp (e:Expr) (f:Expr->List CmpOp->List Expr->Bool):Bool:=match e with | .Compare l os rs _=>f l os rs | _=>false
noncomputable def onBool (e:Expr) (f:BoolOp->List Expr->Pos->Bool):Bool:=match e with | .BoolOp o es p=>f o es p | _=>false
noncomputable def onIf (e:Expr) (f:Expr->Expr->Expr->Bool):Bool:=match e with | .IfExp t l r _=>f t l r | _=>false
noncomputable def onCall (e:Expr) (f:Expr->List Expr->List Keyword->Pos->Bool):Bool:=match e with | .Call g es ks p=>f g es ks p | _=>false
noncomputable def onAttr (e:Expr) (f:Expr->Str->Pos->Bool):Bool:=match e with | .Attribute v n p=>f v n p | _=>false
noncomputable def onSub (e:Expr) (f:Expr->Expr->Pos->Bool):Bool:=match e with | .Subscript v i p=>f v i p | _=>false
noncomputable def onSlice (e:Expr) (f:Option Expr->Option Expr->Option Expr->Bool):Bool:=match e with | .Slice l h s _=>f l h s | _=>false
noncomputable def onList (e:Expr) (f:List Expr->Pos->Bool):Bool:=match e with | .List es p=>f es p | _=>false
noncomputable def onTup (e:Expr) (f:List Expr->Nat->Pos->Bool):Bool:=match e with | .Tuple es k p=>f es k p | _=>false
noncomputable def onLC (e:Expr) (f:Expr->List Comprehension->Scope->Pos->Bool):Bool:=match e with | .ListComp x gs sc p=>f x gs sc p | _=>false
noncomputable def on1 (l:List α) (f:α->Bool):Bool:=match l with | [x]=>f x | _=>false
noncomputable def on2 (l:List α) (f:α->α->Bool):Bool:=match l with | [x,y]=>f x y | _=>false
noncomputable def onC (l:List α) (f:α->List α->Bool):Bool:=match l with | x::r=>f x r | _=>false
noncomputable def onO (o:Option α) (n:Bool) (f:α->Bool):Bool:=match o with | none=>n | some x=>f x
theorem onName_i {e:Expr} {f:Str->Pos->Bool} (h:onName e f=true):∃ x p,e=.Name x p/\f x p=true:=by
 cases e with
 | Name x p=>exact ⟨x,p,rfl,h⟩
 | _=>exact (Bool.false_ne_true h).elim
theorem onConst_i {e:Expr} {f:Const->Bool} (h:onConst e f=true):∃ c k p,e=.Constant c k p/\f c=true:=by
 cases e with
 | Constant c k p=>exact ⟨c,k,p,rfl,h⟩
 | _=>exact (Bool.false_ne_true h).elim
theorem onBin_i {e:Expr} {f:Expr->Operator->Expr->Pos->Bool} (h:onBin e f=true):∃ l o r p,e=.BinOp l o r p/\f l o r p=true:=by
 cases e with
 | BinOp l o r p=>exact ⟨l,o,r,p,rfl,h⟩
 | _=>exact (Bool.false_ne_true h).elim
theorem onUn_i {e:Expr} {f:UnaryOp->Expr->Bool} (h:onUn e f=true):∃ o x p,e=.UnaryOp o x p/\f o x=true:=by
 cases e with
 | UnaryOp o x p=>exact ⟨o,x,p,rfl,h⟩
 | _=>exact (Bool.false_ne_true h).elim
theorem onCmp_i {e:Expr} {f:Expr->List CmpOp->List Expr->Bool} (h:onCmp e f=true):∃ l os rs p,e=.Compare l os rs p/\f l os rs=true:=by
 cases e with
 | Compare l os rs p=>exact ⟨l,os,rs,p,rfl,h⟩
 | _=>exact (Bool.false_ne_true h).elim
theorem onBool_i {e:Expr} {f:BoolOp->List Expr->Pos->Bool} (h:onBool e f=true):∃ o es p,e=.BoolOp o es p/\f o es p=true:=by
 cases e with
 | BoolOp o es p=>exact ⟨o,es,p,rfl,h⟩
 | _=>exact (Bool.false_ne_true h).elim
theorem onIf_i {e:Expr} {f:Expr->Expr->Expr->Bool} (h:onIf e f=true):∃ t l r p,e=.IfExp t l r p/\f t l r=true:=by
 cases e with
 | IfExp t l r p=>exact ⟨t,l,r,p,rfl,h⟩
 | _=>exact (Bool.false_ne_true h).elim
theorem onCall_i {e:Expr} {f:Expr->List Expr->List Keyword->Pos->Bool} (h:onCall e f=true):∃ g es ks p,e=.Call g es ks p/\f g es ks p=true:=by
 cases e with
 | Call g es ks p=>exact ⟨g,es,ks,p,rfl,h⟩
 | _=>exact (Bool.false_ne_true h).elim
theorem onAttr_i {e:Expr} {f:Expr->Str->Pos->Bool} (h:onAttr e f=true):∃ v n p,e=.Attribute v n p/\f v n p=true:=by
 cases e with
 | Attribute v n p=>exact ⟨v,n,p,rfl,h⟩
 | _=>exact (Bool.false_ne_true h).elim
theorem onSub_i {e:Expr} {f:Expr->Expr->Pos->Bool} (h:onSub e f=true):∃ v i p,e=.Subscript v i p/\f v i p=true:=by
 cases e with
 | Subscript v i p=>exact ⟨v,i,p,rfl,h⟩
 | _=>exact (Bool.false_ne_true h).elim
theorem onSlice_i {e:Expr} {f:Option Expr->Option Expr->Option Expr->Bool} (h:onSlice e f=true):∃ l u s p,e=.Slice l u s p/\f l u s=true:=by
 cases e with
 | Slice l u s p=>exact ⟨l,u,s,p,rfl,h⟩
 | _=>exact (Bool.false_ne_true h).elim
theorem onList_i {e:Expr} {f:List Expr->Pos->Bool} (h:onList e f=true):∃ es p,e=.List es p/\f es p=true:=by
 cases e with
 | List es p=>exact ⟨es,p,rfl,h⟩
 | _=>exact (Bool.false_ne_true h).elim
theorem onTup_i {e:Expr} {f:List Expr->Nat->Pos->Bool} (h:onTup e f=true):∃ es k p,e=.Tuple es k p/\f es k p=true:=by
 cases e with
 | Tuple es k p=>exact ⟨es,k,p,rfl,h⟩
 | _=>exact (Bool.false_ne_true h).elim
theorem onLC_i {e:Expr} {f:Expr->List Comprehension->Scope->Pos->Bool} (h:onLC e f=true):∃ x gs sc p,e=.ListComp x gs sc p/\f x gs sc p=true:=by
 cases e with
 | ListComp x gs sc p=>exact ⟨x,gs,sc,p,rfl,h⟩
 | _=>exact (Bool.false_ne_true h).elim
theorem onC_i {l:List α} {f:α->List α->Bool} (h:onC l f=true):∃ x r,l=x::r/\f x r=true:=by
 cases l with
 | nil=>exact (Bool.false_ne_true h).elim
 | cons x r=>exact ⟨x,r,rfl,h⟩
theorem on1_i {l:List α} {f:α->Bool} (h:on1 l f=true):∃ x,l=[x]/\f x=true:=by
 cases l with
 | nil=>exact (Bool.false_ne_true h).elim
 | cons x r =>
  cases r with
  | nil=>exact ⟨x,rfl,h⟩
  | cons _ _=>exact (Bool.false_ne_true h).elim
theorem on2_i {l:List α} {f:α->α->Bool} (h:on2 l f=true):∃ x y,l=[x,y]/\f x y=true:=by
 cases l with
 | nil=>exact (Bool.false_ne_true h).elim
 | cons x r =>
  obtain ⟨y,e,h⟩:=on1_i (l:=r) (f:=f x) (by
   cases r with
   | nil=>exact h
   | cons y r=>cases r<;>exact h)
  exact ⟨x,y,by rw [e],h⟩
end
noncomputable def cInt (c:Const) (f:Int->Bool):Bool:=match c with | .int i=>f i | _=>false
noncomputable def cStr (c:Const) (f:Str->Bool):Bool:=match c with | .str i=>f i | _=>false
noncomputable def cBool (c:Const) (f:Bool->Bool):Bool:=match c with | .bool i=>f i | _=>false
noncomputable def cNone (c:Const):Bool:=match c with | .none=>true | _=>false
theorem cInt_i {c:Const} {f:Int->Bool} (h:cInt c f=true):∃ i,c=.int i/\f i=true:=by
 cases c with
 | int i=>exact ⟨i,rfl,h⟩
 | _=>exact (Bool.false_ne_true h).elim
theorem cStr_i {c:Const} {f:Str->Bool} (h:cStr c f=true):∃ i,c=.str i/\f i=true:=by
 cases c with
 | str i=>exact ⟨i,rfl,h⟩
 | _=>exact (Bool.false_ne_true h).elim
theorem cBool_i {c:Const} {f:Bool->Bool} (h:cBool c f=true):∃ i,c=.bool i/\f i=true:=by
 cases c with
 | bool i=>exact ⟨i,rfl,h⟩
 | _=>exact (Bool.false_ne_true h).elim
theorem cNone_i {c:Const} (h:cNone c=true):c=.none:=by
 cases c with
 | none=>rfl
 | _=>exact (Bool.false_ne_true h).elim
theorem and2 {a b:Bool} (h:(a && b)=true):a=true/\b=true:=by cases a<;>cases b<;>first | exact ⟨rfl,rfl⟩ | exact (Bool.false_ne_true h).elim
noncomputable def callC (S:SC) (n:Str) (e:Expr) (f:List Expr->List Keyword->Pos->Bool):Bool:=onCall e fun g es ks p=>onName g fun x _=>n == x && (gloB S x && f es ks p)
theorem callC_i {S:SC} {n:Str} {e:Expr} {f:List Expr->List Keyword->Pos->Bool} (h:callC S n e f=true):∃ px es ks p,e=.Call (.Name n px) es ks p/\gloB S n=true/\f es ks p=true:=by
 obtain ⟨g,es,ks,p,rfl,q1⟩:=onCall_i h
 obtain ⟨x,px,rfl,q2⟩:=onName_i q1
 have q3:=and2 q2
 have q4:=and2 q3.2
 have e:=eq_of_beq q3.1
 exact ⟨px,es,ks,p,by rw [e],by rw [e]; exact q4.1,q4.2⟩
noncomputable def methC (n:Str) (e:Expr) (f:Expr->List Expr->Pos->Pos->Bool):Bool:=onCall e fun g es ks p=>onAttr g fun v x ap=>n == x && (ks.isEmpty && (ap.endLine == p.line && f v es ap p))
theorem methC_i {n:Str} {e:Expr} {f:Expr->List Expr->Pos->Pos->Bool} (h:methC n e f=true):∃ v ap es p,e=.Call (.Attribute v n ap) es [] p/\(ap.endLine == p.line)=true/\f v es ap p=true:=by
 obtain ⟨g,es,ks,p,rfl,q1⟩:=onCall_i h
 obtain ⟨v,x,ap,rfl,q2⟩:=onAttr_i q1
 have q3:=and2 q2
 have q4:=and2 q3.2
 have q5:=and2 q4.2
 have e:=eq_of_beq q3.1
 have e2:=List.isEmpty_iff.mp q4.1
 exact ⟨v,ap,es,p,by rw [e,e2],q5.1,q5.2⟩
noncomputable def moreE (op:BoolOp) (r:Expr) (rest:List Expr) (pos:Pos):Expr:=match rest with
 | []=>r
 | q::t=>.BoolOp op (r::q::t) pos
noncomputable def itC (ia:Bool) (S:SC) (ik:ItK) (c:List Expr->Pos->Bool) (t it:Expr) (pos:Pos):Bool:=match ik with
 | .val=>ia && c [it] pos
 | .rng1=>callC S "range" it fun es ks p=>ks.isEmpty && on1 es fun a=>c [a] p
 | .zip2=>isTupE t && callC S "zip" it fun es ks p=>ks.isEmpty && on2 es fun a b=>c [a,b] p
 | .enum=>isTupE t && callC S "enumerate" it fun es ks p=>ks.isEmpty && on1 es fun a=>c [a] p
 | .enumA=>isTupE t && (ia && callC S "enumerate" it fun es ks p=>on1 es fun a=>on1 ks fun k=>k.arg == some ("start":Str) && c [a,k.value] p)
noncomputable def prmC (S:SC) (c:List Expr->Pos->Bool) (e:Expr):Prm->Bool
 | .dget y=>methC "get" e fun v es _ p=>onName v fun x _=>y == x && (gloB S x && on1 es fun a=>c [a] p)
 | .dix y=>onSub e fun v i p=>onName v fun x _=>y == x && (gloB S x && (noSlice i && c [i] p))
noncomputable def ifsC (ifs:List Expr) (n:Bool) (f:Expr->Bool):Bool:=match ifs with
 | []=>n
 | c::r=>r.isEmpty && (!n && f c)
noncomputable def chk:PX->SC->Expr->Bool
 | .var i,S,e=>onName e fun x _=>visB S i x
 | .int i,_,e=>onConst e fun c=>cInt c fun j=>i == j
 | .str x,_,e=>onConst e fun c=>cStr c fun y=>x == y
 | .bl b,_,e=>onConst e fun c=>cBool c fun k=>b == k
 | .non,_,e=>onConst e cNone
 | .glo x,S,e=>onName e fun y _=>x == y && gloB S x
 | .bty x _,S,e=>onName e fun y _=>x == y && gloB S x
 | .bin op a b,S,e=>onBin e fun l o r _=>op == o && (chk a S l && chk b S r)
 | .cmp op a b,S,e=>onCmp e fun l os rs=>on1 os fun o=>on1 rs fun r=>op == o && (noSet r && (chk a S l && chk b S r))
 | .chn o p a b c,S,e=>onCmp e fun l os rs=>on2 os fun o' p'=>on2 rs fun r q=>o == o' && (p == p' && (noSet q && (chk a S l && (chk b S r && chk c S q))))
 | .and a b,S,e=>onBool e fun o es p=>o == .And && onC es fun l t=>onC t fun r t=>chk a S l && chk b S (moreE .And r t p)
 | .or a b,S,e=>onBool e fun o es p=>o == .Or && onC es fun l t=>onC t fun r t=>chk a S l && chk b S (moreE .Or r t p)
 | .not a,S,e=>onUn e fun o x=>o == .Not && chk a S x
 | .ife c a b,S,e=>onIf e fun t l r=>chk c S t && (chk a S l && chk b S r)
 | .call f as,S,e=>callC S f e fun es ks p=>ks.isEmpty && chk as S (.List es p)
 | .bi f as,S,e=>callC S f.nm e fun es ks p=>ks.isEmpty && onC es fun x t=>chk as S (.List (x::t) p)
 | .prm o as,S,e=>isArgs as && prmC S (fun es p=>chk as S (.List es p)) e o
 | .isi a c,S,e=>callC S "isinstance" e fun es ks _=>ks.isEmpty && on2 es fun l r=>notStar l && (notStar r && (chk a S l && chk c S r))
 | .mt m o as,S,e=>methC m.nm e fun v es _ p=>isArgs as && (noSuper v && (decide (es.length < 20) && (chk o S v && chk as S (.List es p))))
 | .idx a b,S,e=>onSub e fun v i _=>noSlice i && (chk a S v && chk b S i)
 | .slc a lo hi,S,e=>onSub e fun v sl _=>onSlice sl fun l h s=>s.isNone && (chk a S v && (onO l (isNop lo) (fun e=>!isNop lo && chk lo S e) && onO h (isNop hi) fun e=>!isNop hi && chk hi S e))
 | .nop,_,_=>false
 | .lst as,S,e=>onList e fun es p=>chk as S (.List es p)
 | .tup as,S,e=>onTup e fun es _ p=>chk as S (.List es p)
 | .comp mask tgs tg ik its cond elt,S,e=>onLC e fun el gs scope p=>on1 gs fun g=>g.is_async == 0 && (compB S scope tgs mask && (tgB (compS S scope tgs mask) tg g.target && (noSet g.iter &&
   (itC (isArgs its) S ik (fun es p=>chk its S (.List es p)) g.target g.iter p && (ifsC g.ifs (isNop cond) (fun c=>chk cond (compS S scope tgs mask) c) && chk elt (compS S scope tgs mask) el)))))
 | .anil,_,e=>onList e fun es _=>es.isEmpty
 | .acons a as,S,e=>onList e fun es p=>onC es fun x t=>notStar x && (chk a S x && chk as S (.List t p))
end L2.L3
namespace L2.L3
open PySem PySem.Spec PyProof.Rows
variable {Γ:Ev}
theorem asB_eq (x:V) (H:Hp) (Q:Bool->Hp->Prop):asB x H Q=∃ k,x=.bl k/\Q k H:=by
 apply propext
 cases x with
 | bl b=>exact ⟨fun h=>⟨b,rfl,h⟩,fun ⟨k,e,h⟩=>by cases e; exact h⟩
 | _=>exact ⟨fun h=>False.elim h,fun ⟨k,e,h⟩=>by cases e⟩
theorem partQ_eq (x:V) (H:Hp) (Q:Option Int->Hp->Prop):partQ x H Q=∃ i,x=.int i/\Q (some i) H:=by
 apply propext
 cases x with
 | int b=>exact ⟨fun h=>⟨b,rfl,h⟩,fun ⟨k,e,h⟩=>by cases e; exact h⟩
 | _=>exact ⟨fun h=>False.elim h,fun ⟨k,e,h⟩=>by cases e⟩
theorem truQ_eq (K:PySem.W.Frag) (x:V) (H:Hp) (Q:Bool->Hp->Prop):truQ K x H Q=∃ k,TruV K x H k/\Q k H:=by
 apply propext
 cases x with
 | bl b=>exact ⟨fun h=>⟨b,rfl,h⟩,fun ⟨k,(e:k=b),h⟩=>by subst e; exact h⟩
 | int i=>exact ⟨fun h=>⟨i != 0,rfl,h⟩,fun ⟨k,(e:k=(i != 0)),h⟩=>by subst e; exact h⟩
 | non=>exact ⟨fun h=>⟨false,rfl,h⟩,fun ⟨k,(e:k=false),h⟩=>by subst e; exact h⟩
 | str z=>exact ⟨fun h=>⟨_,⟨h.1,rfl⟩,h.2⟩,fun ⟨k,⟨e1,e2⟩,h⟩=>by subst e2; exact ⟨e1,h⟩⟩
 | _=>exact Iff.rfl
section
variable {X:Cx}
theorem pe_never {e:Expr}:PE X e never.e:=fun _ _ _ _ _ _ h=>False.elim h
theorem pt_never {e:Expr}:PT X e never.t:=fun _ _ _ _ _ _ h=>False.elim h
theorem pa_never {es:List Expr}:PA X es never.a:=fun _ _ _ _ _ _ _ h=>False.elim h
theorem pt_tru {a:Expr} {ta:TE} (ha:PE X a ta) (he:∀ whole,isTrue a X.env whole=(do let v <- whole; standAt a.pos; holding [v] (truthy v))) :
  PT X a (fun σ H Q=>ta σ H fun x H'=>truQ X.K x H' Q):=by
 intro pins s σ H Q I h
 refine isTrue_plain (thn (ha pins s σ H _ I h) fun v s1 ⟨x,H1,I1,r1,q1⟩=>?_) (he _)
 have q1:truQ X.K x H1 Q:=q1
 rw [truQ_eq] at q1
 exact tru_ok pins s1 σ H1 x v Q I1 r1 q1
theorem op_never {f:Value->Value->Sem Value}:OpR X f (fun _ _ _ _=>False):=fun _ _ _ _ _ _ _ _ _ _ _ _ h=>h.elim
theorem op_bin (op:Operator):OpR X (binaryOp op) (binR X.K op):=by
 cases op with
 | Add=>exact op_add
 | Sub=>exact op_sub
 | Mult=>exact op_mul
 | FloorDiv=>exact op_fdiv
 | Mod=>exact op_mod
 | Pow=>exact op_pow
 | _=>exact op_never
theorem op_cmp (hu:X.A.units+66 < cLine) (op:CmpOp):OpR X (compareOp op) (cmpR X.K op):=by
 cases op with
 | Eq=>exact op_eq (by omega)
 | NotEq=>exact op_ne (by omega)
 | Lt=>exact op_ord _root_.L2.op_lt
 | LtE=>exact op_ord _root_.L2.op_le
 | Gt=>exact op_ord _root_.L2.op_gt
 | GtE=>exact op_ord _root_.L2.op_ge
 | In=>exact op_in hu
 | NotIn=>exact op_notin hu
 | Is =>
  intro pins s σ H x y v u Q I rx ry h
  cases y with
  | non=>exact op_isN pins s σ H x _ v u Q I rx ry ⟨rfl,h⟩
  | _=>exact False.elim h
 | IsNot =>
  intro pins s σ H x y v u Q I rx ry h
  cases y with
  | non=>exact op_notN pins s σ H x _ v u Q I rx ry ⟨rfl,h⟩
  | _=>exact False.elim h
theorem ix_any:IxR X (rIxU X.K):=by
 intro value slice pins s σ H x y v u Q I rx ry h hs
 refine ix_seq value slice pins s σ H x y v u Q I rx ry ?_ hs
 cases x with
 | str z =>
  cases y with
  | int i=>obtain ⟨h1,c,h2,q⟩:=h; exact .inr (.inr ⟨z,i,c,rfl,rfl,h1,h2,q⟩)
  | _=>exact False.elim h
 | ref a =>
  cases y with
  | int i =>
   obtain ⟨xs,w',hq,h2,q⟩:=h
   rcases hq with hq | hq
   ·exact .inl ⟨a,xs,i,w',rfl,rfl,hq,h2,q⟩
   ·exact .inr (.inl ⟨a,xs,i,w',rfl,rfl,hq,h2,q⟩)
  | _=>exact False.elim h
 | _=>exact False.elim h
theorem noMark {op:CmpOp} {b:Expr} (h:noSet b=true):behindInMarks op b=false:=by
 cases b<;>first | rfl | cases h
theorem plainIx {b:Expr} (h:noSlice b=true):PlainIx b:=by
 intro o i
 cases b<;>first | rfl | cases h
theorem star_cons {e:Expr} {es:List Expr} (env:Env) (h:notStar e=true):starEach (e::es) env=(false,eval e env)::starEach es env:=by
 cases e<;>first | rfl | cases h
theorem noFold {e:Expr} {env:Env} (h:noSet e=true) (x:Value):foldedSetIterable e env x=pure x:=by
 cases e<;>first | rfl | cases h
theorem noSup {o:Expr} {n:Str} {env:Env} (h:noSuper o=true):attributeBase o n env (eval o env)=eval o env:=by
 unfold attributeBase
 split
 ·cases h
 ·rfl
theorem mt_appU:MtR X "list.append" rAppU:=by
 intro pins s σ H x xs v us Q I rx rs h
 match x,xs,h with
 | .ref l,[y],⟨xs,hH,hz,q⟩=>exact mt_append pins s σ H _ _ v us Q I rx rs ⟨l,xs,y,rfl,rfl,hH,hz,q⟩
theorem strs_are:∀ {ys:List Str} {its:List Value},Vals (ys.map V.str) its->StrsAre its ys
 | [],[],_=>.nil
 | y::ys,u::its,h=>by
  rw [List.map_cons] at h
  cases h with
  | cons h t =>
   obtain ⟨k,rfl⟩:=h
   exact .cons _ _ (strs_are t)
 | _::_,[],h=>by cases h
 | [],_::_,h=>by cases h
theorem mt_join:MtR X "str.join" (rJoin X.K):=by
 intro pins s σ H x xs v us Q I rx rs h
 match x,xs,h with
 | .str z,[.ref b],⟨ys,hq,hz,q⟩ =>
  obtain ⟨t,rfl⟩:=rx
  obtain ⟨u,rfl,ru⟩:=vals1 rs
  cases ru
  obtain ⟨its,rv,p,_⟩:=I.list hq
  exact join_list p.isList (by simpa using strs_are rv) hz fun t' k=>⟨.str _,H,I.tok _,⟨_,rfl⟩,q⟩
theorem call_int:CallR X (.type "int") rInt:=by
 intro pins s σ H xs us Q I r h
 match xs,h with
 | [.int i],h=>exact call_int1 pins s σ H _ us Q I r (.inl ⟨i,rfl,h⟩)
 | [.bl b],h=>exact call_int1 pins s σ H _ us Q I r (.inr ⟨b,rfl,h⟩)
 | [.str z],⟨hl,n,hn,q⟩ =>
  obtain ⟨u,rfl,t,rfl⟩:=vals1 r
  exact PySem.W.KIN.call_text hn hl ⟨.int n,H,I.tok _,⟨_,rfl⟩,q⟩
theorem call_str:CallR X (.type "str") rStr:=by
 intro pins s σ H xs us Q I r h
 match xs,h with
 | [.int i],h=>exact call_str_int pins s σ H _ us Q I r ⟨i,rfl,h⟩
 | [.str z],h =>
  obtain ⟨u,rfl,t,rfl⟩:=vals1 r
  exact PySem.P.str_of_str ⟨.str z,H,I,⟨_,rfl⟩,h⟩
theorem call_minU (hc:X.calm=true):CallR X (.builtin "min") (rMax false):=by
 intro pins s σ H xs us Q I r h
 match xs,h with
 | [.int i,.int j],h=>exact call_min2 hc pins s σ H _ us Q I r ⟨i,j,rfl,h⟩
theorem call_tupU:CallR X (.type "tuple") (rTupOf X.K):=by
 intro pins s σ H xs us Q I r h
 match xs,h with
 | [.ref p],⟨ys,h1⟩=>exact call_tuple_of pins s σ H _ us Q I r ⟨p,ys,rfl,h1⟩
theorem bi_ok (hc:X.calm=true) (f:Bi):(∃ id,bootBuiltins f.nm=some (.builtin id)/\CallR X (.builtin id) (biR X.K f))∨∃ T,bootBuiltins f.nm=some (.type T)/\CallR X (.type T) (biR X.K f):=by
 cases f with
 | len=>exact .inl ⟨_,PySem.boot_len,call_len⟩
 | all=>exact .inl ⟨_,PyProof.Rows.boot_all,call_all hc⟩
 | int=>exact .inr ⟨_,PyProof.Rows.boot_int,call_int⟩
 | str=>exact .inr ⟨_,PyProof.Rows.boot_str,call_str⟩
 | min=>exact .inl ⟨_,by kernel_rfl,call_minU hc⟩
 | tuple=>exact .inr ⟨_,by kernel_rfl,call_tupU⟩
end
end L2.L3
namespace L2.L3
open PySem PySem.Spec PyProof.Rows
structure OkX (X:Cx) (S:SC) (G:Glob) (E:XK):Prop where
 N:X.N=S.N
 sc:X.env.scope=S.sc
 calm:X.calm=true
 un:X.A.units+66 < cLine
 fn:∀ f,G.fn f->∃ (CX:CXT) (k:Nat) (a:Addr) (fd:FuncData) (ps:List Str),FnOk X.prog X.w X.K X.mg X.base CX k a fd ps (G.ev.sp f)/\Room k X.A/\X.mg f=some (.ref a)/\PySem.W.keepIn X.K (.ref a)=true/\Binds X.K fd ps [] /\
  Passes CX X E/\∀ l H s e s',CX l H s (fun _ _ _=>False) e s'->False
 val:∀ x,G.val x->∃ u,X.mg x=some u/\RelV (G.ev.va x) u
 no:∀ x,G.no x->X.mg x=none
 dic:∀ x,G.dc x->∃ a kvs,X.mg x=some (.ref a)/\G.ev.dc x=some kvs/\DcAt X.prog X.w X.K a kvs
noncomputable def ArgsPE (X:Cx) (Γ:Ev) (E:XK):PX->List Expr->Prop
 | .acons a as,e::es=>PE X e (wp X.K Γ a E).e/\ArgsPE X Γ E as es
 | _,_=>True
structure Snd (X:Cx) (Γ:Ev) (E:XK) (p:PX) (e:Expr):Prop where
 pe:PE X e (wp X.K Γ p E).e
 pt:PT X e (wp X.K Γ p E).t
 pw:∀ op es pos,e=.BoolOp op es pos->PW X e (wp X.K Γ p E).t
 pa:∀ es pos,e=.List es pos->PA X es (wp X.K Γ p E).a
 pas:∀ es pos,e=.List es pos->ArgsPE X Γ E p es
theorem visB_ok {S:SC} {i:Nat} {x:Str} (h:visB S i x=true):S.N[i]?=some x/\Vis S.sc x/\(x == ("__debug__":Str))=false/\(x == ("__classdict__":Str))=false:=by
 simp only [visB,Bool.and_eq_true,Bool.or_eq_true,beq_iff_eq,bne_iff_ne,ne_eq] at h
 obtain ⟨⟨⟨h1,h2⟩,h3⟩,h4⟩:=h
 refine ⟨h1,?_,by simpa using h3,by simpa using h4⟩
 rcases h2 with (h2 | h2) | h2
 ·exact .inl h2
 ·exact .inr (.inl h2)
 ·exact .inr (.inr h2)
theorem locB_ok {S:SC} {i:Nat} {x:Str} (h:locB S i x=true):S.N[i]?=some x/\S.sc.names.lookup x=some .local:=by
 simp only [locB,Bool.and_eq_true,beq_iff_eq] at h
 exact h
theorem gloB_ok {S:SC} {x:Str} (h:gloB S x=true):S.sc.names.lookup x=some .globalImplicit/\(x == ("__debug__":Str))=false/\x≠"__name__":=by
 simp only [gloB,Bool.and_eq_true,beq_iff_eq,bne_iff_ne,ne_eq] at h
 exact ⟨h.1.1,by simpa using h.1.2,h.2⟩
theorem nodupB_ok:∀ {l:List Str},nodupB l=true->l.Nodup
 | [],_=>List.nodup_nil
 | x::r,h=>by
  simp only [nodupB,Bool.and_eq_true,Bool.not_eq_true'] at h
  exact List.nodup_cons.mpr ⟨by simpa using h.1,nodupB_ok h.2⟩
theorem compB_ok {S:SC} {scope:Scope} {tgs:List Str} {mask:List Bool} (h:compB S scope tgs mask=true):CompSt S.N S.sc scope tgs mask:=by
 simp only [compB,Bool.and_eq_true,List.all_eq_true,beq_iff_eq,Bool.not_eq_true'] at h
 obtain ⟨⟨⟨h1,h2⟩,h3⟩,h4⟩:=h
 refine ⟨h1,fun y hy e=>?_,fun y hy e=>?_,fun y hy e=>?_,fun y hy e=>?_,nodupB_ok h3,by simpa using h4⟩
 ·have:=(h2 y hy).1.1
  rw [e] at this
  exact absurd this (by decide)
 ·have:=(h2 y hy).1.2
  rw [e] at this
  simp at this
  exact this.1
 ·have:=(h2 y hy).2
  rw [e] at this
  simp at this
  exact this
 ·have:=(h2 y hy).1.2
  rw [e] at this
  simp at this
  exact this.2
theorem OkX.comp {X:Cx} {S:SC} {G:Glob} {E:XK} (ok:OkX X S G E) (scope:Scope) (tgs:List Str) (mask:List Bool) (s:Shared) (H:Hp) (ex:List Addr):OkX (cxComp X scope tgs mask s H ex) (compS S scope tgs mask) G (fun _ _ _=>False) where
 N:=by show tgs++hideN mask 0 X.N=tgs++hideN mask 0 S.N; rw [ok.N]
 sc:=by show relabelS scope X.env.scope=relabelS scope S.sc; rw [ok.sc]
 calm:=ok.calm
 un:=ok.un
 fn:=fun f h=>by
  obtain ⟨CX,k,a,fd,ps,h1,h2,h3,h4,h5,h6,h7⟩:=ok.fn f h
  exact ⟨CX,k,a,fd,ps,h1,h2,h3,h4,h5,fun _ _ _ _ _ _ _ z=>(h7 _ _ _ _ _ z).elim,h7⟩
 val:=ok.val
 no:=ok.no
 dic:=ok.dic
section
variable {X:Cx}
theorem setAll_ok {S:SC} (hN:X.N=S.N) (hsc:X.env.scope=S.sc) (nd:X.N.Nodup):∀ (is:List Nat) (es:List Expr),is.length=es.length->((is.zip es).all fun p=>match p.2 with | .Name x _=>locB S p.1 x | _=>false)=true ->
  PGs X es (fun vs σ H Q=>∃ σ',setAll is vs σ=some σ'/\Q σ' H)
 | [],[],_,_=>by
  intro pins s σ H vs us Q I r h
  obtain ⟨σ',e,q⟩:=h
  cases vs with
  | nil =>
   cases r
   simp only [setAll] at e
   cases e
   exact assignInOrder_nil ⟨σ,H,I,q⟩
  | cons _ _=>simp [setAll] at e
 | [],_::_,h,_=>by cases h
 | _::_,[],h,_=>by cases h
 | i::is,e::es,hl,hz=>by
  simp only [List.zip_cons_cons,List.all_cons,Bool.and_eq_true] at hz
  obtain ⟨h1,h2⟩:=hz
  cases e with
  | Name x pos =>
   obtain ⟨g1,g2⟩:=locB_ok h1
   have g1':X.N[i]?=some x:=by rw [hN]; exact g1
   have g2':X.env.scope.names.lookup x=some .local:=by rw [hsc]; exact g2
   have ih:=setAll_ok hN hsc nd is es (by simpa using hl) h2
   intro pins s σ H vs us Q I r h
   obtain ⟨σ',e,q⟩:=h
   cases vs with
   | nil=>simp [setAll] at e
   | cons v vs =>
    simp only [setAll] at e
    cases r with
    | cons r rr =>
     show wpAny _ _ (assignInOrder (assign (.Name x pos) X.env::(assignEach es X.env).map (·.2)) _) _ _ _
     refine assignInOrder_cons (thn (pg_name (pos:=pos) nd g1' (.inl g2') (.inr g2') pins s σ H v _ _ I r (show gName i v σ H (fun σ1 H1=>σ1=σ.set i (some v)/\H1=H) from ⟨rfl,rfl⟩)) fun _ s1 ⟨σ1,H1,I1,e1,e2⟩=>?_)
     subst e1 e2
     exact ih pins s1 _ _ vs _ Q I1 rr ⟨σ',e,q⟩
  | _=>simp at h1
theorem len_each:∀ (is:List Nat) (es:List Expr) (S:SC),is.length=es.length->((is.zip es).all fun p=>match p.2 with | .Name x _=>locB S p.1 x | _=>false)=true->(assignEach es X.env).length=es.length/\(assignEach es X.env).findIdx? (·.1)=none
 | [],[],_,_,_=>⟨rfl,rfl⟩
 | [],_::_,_,h,_=>by cases h
 | _::_,[],_,h,_=>by cases h
 | i::is,e::es,S,hl,hz=>by
  simp only [List.zip_cons_cons,List.all_cons,Bool.and_eq_true] at hz
  obtain ⟨h1,h2⟩:=hz
  cases e with
  | Name x pos =>
   have ih:=len_each is es S (by simpa using hl) h2
   have e1:assignEach (.Name x pos::es) X.env=(false,assign (.Name x pos) X.env)::assignEach es X.env:=rfl
   rw [e1]
   refine ⟨by rw [List.length_cons,List.length_cons,ih.1],?_⟩
   rw [List.findIdx?_cons]
   simp [ih.2]
  | _=>simp at h1
theorem setAll_len:∀ {is:List Nat} {vs:List V} {σ σ':St},setAll is vs σ=some σ'->vs.length=is.length
 | [],[],_,_,_=>rfl
 | [],_::_,_,_,h=>by simp [setAll] at h
 | _::_,[],_,_,h=>by simp [setAll] at h
 | _::is,_::vs,σ,σ',h=>by
  simp only [setAll] at h
  rw [List.length_cons,List.length_cons,setAll_len h]
theorem pg_tg {S:SC} {G:Glob} {E:XK} (ok:OkX X S G E) (nd:X.N.Nodup) {tg:Tg} {e:Expr} (h:tgB S tg e=true):PG X e (bindT X.K tg):=by
 cases tg with
 | nm i =>
  cases e with
  | Name x pos =>
   obtain ⟨g1,g2⟩:=locB_ok h
   have g1':X.N[i]?=some x:=by rw [ok.N]; exact g1
   have g2':X.env.scope.names.lookup x=some .local:=by rw [ok.sc]; exact g2
   exact pg_name nd g1' (.inl g2') (.inr g2')
  | _=>cases h
 | tp is =>
  cases e with
  | Tuple es k pos =>
   simp only [tgB,Bool.and_eq_true,beq_iff_eq] at h
   obtain ⟨h1,h2⟩:=h
   obtain ⟨l1,l2⟩:=len_each (X:=X) is es S h1 h2
   have base:=pg_tup (pos:=pos) (k:=k) (n:=es.length) ok.calm (setAll_ok ok.N ok.sc nd is es h1 h2) l1 l2
   intro pins s σ H v u Q I r hw
   refine base pins s σ H v u Q I r ?_
   cases v with
   | ref p =>
    obtain ⟨xs,σ',hq,e,q⟩:=hw
    exact ⟨p,xs,rfl,hq,by rw [setAll_len e,h1],σ',e,q⟩
   | _=>exact False.elim hw
  | _=>cases h
end
end L2.L3
namespace L2.L3
open PySem PySem.Spec PyProof.Rows
variable {Γ:Ev}
theorem yl_list (K:PySem.W.Frag) (a:Addr) (xs:List V):Yields (Itl K a) (xs.map .one) (fun H=>SqL K H a xs) :=
  { go:=fun i H h hi=>by
      have hi':i < xs.length:=by simpa using hi
      exact ⟨xs,xs[i],h,by simp [hi']⟩
    yld:=fun i H x H' h _ ⟨e,y⟩=>⟨.one x,by rw [List.getElem?_map,y xs h]; rfl,rfl,e⟩
    stop:=fun i H h hi=>⟨xs,h,by simpa using hi⟩ }
theorem yl_tup (K:PySem.W.Frag) (a:Addr) (xs:List V):Yields (Itt K a) (xs.map .one) (fun H=>SqT K H a xs) :=
  { go:=fun i H h hi=>by
      have hi':i < xs.length:=by simpa using hi
      exact ⟨xs,xs[i],h,by simp [hi']⟩
    yld:=fun i H x H' h _ ⟨e,y⟩=>⟨.one x,by rw [List.getElem?_map,y xs h]; rfl,rfl,e⟩
    stop:=fun i H h hi=>⟨xs,h,by simpa using hi⟩ }
theorem yl_str (z:Str):Yields (Its z) (z.cps.toList.map fun c=>.one (.str ⟨#[c]⟩)) (fun _=>True) :=
  { go:=fun i H h hi=>by
      have hi':i < z.cps.size:=by simpa using hi
      exact hi'
    yld:=fun i H x H' h _ ⟨e,c,hc,ex⟩=>⟨.one x,by rw [List.getElem?_map,Array.getElem?_toList,hc,ex]; rfl,rfl,e⟩
    stop:=fun i H h hi=>by
      have hi':z.cps.size<=i:=by simpa using hi
      exact hi' }
theorem yl_rng (lo:Int) (n:Nat):Yields (Itr lo n) ((List.range n).map fun (k:Nat)=>.one (.int (lo+(k:Int)))) (fun _=>True) :=
  { go:=fun i H h hi=>by
      have hi':i < n:=by simpa using hi
      exact hi'
    yld:=fun i H x H' h hi ⟨e,ex⟩=>by
      have hi':i < n:=by simpa using hi
      exact ⟨.one x,by rw [List.getElem?_map,List.getElem?_range hi',ex]; rfl,rfl,e⟩
    stop:=fun i H h hi=>by
      have hi':n<=i:=by simpa using hi
      exact hi' }
theorem yl_zip (K:PySem.W.Frag) (z1 z2:Src) (xs ys:List V):Yields (Itz K z1 z2) ((xs.zip ys).map fun p=>.tup [p.1,p.2]) (fun H=>SqS K H z1 xs/\SqS K H z2 ys) :=
  { go:=fun i H h hi=>by
      have hi':i < xs.length/\i < ys.length:=by
        simp only [List.length_map,List.length_zip] at hi
        omega
      exact ⟨xs,ys,xs[i],ys[i],h.1,h.2,by simp [hi'.1],by simp [hi'.2]⟩
    yld:=fun i H x H' h hi ⟨p,a,b,hp,e,eH,k⟩=>by
      obtain ⟨e1,e2⟩:=k xs ys h.1 h.2
      refine ⟨.tup [a,b],?_,p,hp,e,eH⟩
      rw [List.getElem?_map,(List.getElem?_zip_eq_some (z:=(a,b))).mpr ⟨e1,e2⟩]
      rfl
    stop:=fun i H h hi=>⟨xs,ys,h.1,h.2,by
      simp only [List.length_map,List.length_zip] at hi
      omega⟩ }
theorem yl_enum (K:PySem.W.Frag) (z:Src) (c:Nat) (xs:List V):Yields (Ite K z c) (xs.zipIdx.map fun p=>.tup [.int ((c+p.2:Nat):Int),p.1]) (fun H=>SqS K H z xs) :=
  { go:=fun i H h hi=>by
      have hi':i < xs.length:=by simpa using hi
      exact ⟨xs,xs[i],h,by simp [hi']⟩
    yld:=fun i H x H' h hi ⟨p,a,hp,e,eH,k⟩=>by
      have hi':i < xs.length:=by simpa using hi
      have e1:=k xs h
      refine ⟨.tup [.int ((c+i:Nat):Int),a],?_,p,hp,e,eH⟩
      have e2:xs.zipIdx[i]?=some (a,i):=by
        rw [List.getElem?_zipIdx,e1]
        simp
      rw [List.getElem?_map,e2]
      rfl
    stop:=fun i H h hi=>⟨xs,h,by simpa using hi⟩ }
noncomputable def wiOf (wi0:St->Hp->(List Item->(Hp->Prop)->Hp->Prop)->Prop):TI:=fun σ H R=>wi0 σ H fun xs st H'=>∀ J,Yields J xs st->R J H'
section
variable {X:Cx} {tg:Expr}
theorem pi_val' {l:Expr} {t:TE} (hl:PE X l t):PI X tg l (wiOf fun σ H R=>t σ H fun v H1=>itemsR X.K .val [v] H1 R):=by
 intro pins s σ H R I h
 refine thn (hl pins s σ H _ I h) fun v s1 ⟨x,H1,I1,r1,q1⟩=>?_
 have fp1:∀ b ∈ [s1.heap.objs.size],FpOk X pins H1 b:=fun b hb=>by
  have e:b=s1.heap.objs.size:=by simpa using hb
  subst e
  exact I1.fpOk (Nat.le_refl _) (I1.hok.fresh (Nat.le_refl _))
 cases x with
 | str z =>
  obtain ⟨t,rfl⟩:=r1
  refine wpAny_pyIter_strU ?_
  exact ⟨s1.heap.objs.size,[s1.heap.objs.size],_,_,H1,rfl,I1.kept (t':=s1.toks) fun b o e=>Heap.get?_push_of_some _ e,turn_str _ z t,⟨_,Heap.get?_push_size _ rfl,rfl,rfl⟩,fp1,q1 _ (yl_str z)⟩
 | ref a =>
  cases r1
  rcases q1 with ⟨xs,hq,q⟩ | ⟨xs,hq,q⟩
  ·obtain ⟨its,rv,p,hz⟩:=I1.list hq
   refine wpAny_pyIter_list p.isList ?_
   exact ⟨s1.heap.objs.size,[s1.heap.objs.size],_,_,H1,rfl,I1.kept (t':=s1.toks) fun b o e=>Heap.get?_push_of_some _ e,turn_list a _,⟨_,Heap.get?_push_size _ rfl,rfl,rfl⟩,fp1,q _ (yl_list _ a xs)⟩
  ·obtain ⟨its,rv,p,hz⟩:=I1.tuple hq
   refine wpAny_pyIter_tuple (show s1.heap.IsTuple a its.toArray from p) ?_
   exact ⟨s1.heap.objs.size,[s1.heap.objs.size],_,_,H1,rfl,I1.kept (t':=s1.toks) fun b o e=>Heap.get?_push_of_some _ e,turn_tuple a _,⟨_,Heap.get?_push_size _ rfl,rfl,rfl⟩,fp1,q _ (yl_tup _ a xs)⟩
 | _=>exact False.elim q1
theorem pi_rng1 {a:Expr} {ta:TA} {p pos:Pos} {x:Str} (hx:x="range") (hg:Gl X x) (hm:X.mg x=none) (ha:PA X [a] ta) (hs:notStar a=true) :
  PI X tg (.Call (.Name x p) [a] [] pos) (wiOf fun σ H R=>ta σ H fun vs H1=>itemsR X.K .rng1 vs H1 R):=by
 subst hx
 intro pins s σ H R I h
 refine Call_ (ld_blt I hg hm boot_range (PyProof.Rows.callWith_type1 (thn (ha pos pins s σ H _ I h) fun us s1 ⟨vs,H1,I1,r1,q1⟩=>?_) (star_cons _ hs) rfl))
 match vs,q1 with
 | [.int j],⟨⟨q1,q2⟩,q⟩ =>
  cases r1 with
  | cons r rr =>
   cases rr
   obtain ⟨t,rfl⟩:=r
   refine call_range_1 (range_it I1 (by omega) (by omega) q1 q2 ?_)
   have e:(j - 0).toNat=j.toNat:=by simp
   rw [e]
   have y:=yl_rng 0 j.toNat
   refine q _ ?_
   simpa using y
theorem boot_zip:bootBuiltins ("zip":Str)=some (.type "zip"):=by kernel_rfl
theorem boot_enum:bootBuiltins ("enumerate":Str)=some (.type "enumerate"):=by kernel_rfl
theorem pi_zip {a b:Expr} {ta:TA} {p pos pt:Pos} {x:Str} {es:List Expr} {kt:Nat} (hx:x="zip") (hg:Gl X x) (hm:X.mg x=none) (ha:PA X [a,b] ta) (hs:notStar a=true) (hs2:notStar b=true) :
  PI X (.Tuple es kt pt) (.Call (.Name x p) [a,b] [] pos) (wiOf fun σ H R=>ta σ H fun vs H1=>itemsR X.K .zip2 vs H1 R):=by
 subst hx
 intro pins s σ H R I h
 refine Call_ (ld_blt I hg hm boot_zip (PyProof.Rows.callWith_type1 (thn (ha pos pins s σ H _ I h) fun us s1 ⟨vs,H1,I1,r1,q1⟩=>?_) (star_cons _ hs) (by rw [star_cons _ hs2]; rfl)))
 match vs,q1 with
 | [.ref l1,.ref l2],⟨z1,z2,xs,ys,e1,e2,h1,h2,q⟩ =>
  subst e1 e2
  cases r1 with
  | cons r rr =>
   cases rr with
   | cons r' rr =>
    cases rr
    cases r
    cases r'
    obtain ⟨its,_,sh1,_⟩:=I1.src h1
    obtain ⟨jts,_,sh2,_⟩:=I1.src h2
    refine call_zipS sh1 sh2 fun h' st kp=>wpAny_pyIter_zip st.1 ?_
    have I2:=I1.kept (h':=h') (t':=s1.toks) kp
    refine ⟨_,[s1.heap.objs.size+4,s1.heap.objs.size+2,s1.heap.objs.size+3,s1.heap.objs.size,s1.heap.objs.size+1],_,_,H1,rfl,I2,turn_zip (zipOf_apart sh1.lt sh2.lt),st,fun b hb=>?_,q _ (yl_zip _ z1 z2 xs ys)⟩
    have hb':s1.heap.objs.size<=b:=by
     simp only [List.mem_cons,List.not_mem_nil,or_false] at hb
     rcases hb with rfl | rfl | rfl | rfl | rfl
     ·exact Nat.le_add_right _ _
     ·exact Nat.le_add_right _ _
     ·exact Nat.le_add_right _ _
     ·exact Nat.le_refl _
     ·exact Nat.le_add_right _ _
    exact I1.fpOk hb' (I1.hok.fresh hb')
theorem enum_pie {pins:List (Addr × Obj)} {σ:St} {H1:Hp} {s1:Shared} {R:It->Hp->Prop} {es:List Expr} {kt c:Nat} {pt:Pos} {z:Src} {xs:List V} {its:Array Value} {h':Heap} (I1:Inv X pins σ H1 s1) (sh:SrcHas s1.heap z its) (st:EnumSt (s1.heap.objs.size+1) s1.heap.objs.size z c 0 h') (kp:∀ c o,s1.heap.get? c=some o->h'.get? c=some o)
  (q:∀ J,Yields J (xs.zipIdx.map fun p=>.tup [.int ((c+p.2:Nat):Int),p.1]) (fun H=>SqS X.K H z xs)->R J H1):wpAny (model X.prog X.w) X.A (pyIter (.ref (s1.heap.objs.size+1))) (PIE X pins σ (.Tuple es kt pt) R) X.xe { s1 with heap:=h' }:=by
 obtain ⟨⟨old,a1⟩,_⟩:=id st
 refine wpAny_pyIter_enum a1 ?_
 have I2:=I1.kept (h':=h') (t':=s1.toks) kp
 have lt:=sh.lt
 refine ⟨_,[s1.heap.objs.size+1,s1.heap.objs.size],_,_,H1,rfl,I2,turn_enum (nne (Nat.succ_ne_self _)) (Nat.ne_of_lt (Nat.lt_succ_of_lt lt)) (Nat.ne_of_lt lt),st,fun b hb=>?_,q _ (yl_enum _ z c xs)⟩
 have hb':s1.heap.objs.size<=b:=by
  simp only [List.mem_cons,List.not_mem_nil,or_false] at hb
  rcases hb with rfl | rfl
  ·exact Nat.le_add_right _ _
  ·exact Nat.le_refl _
 exact I1.fpOk hb' (I1.hok.fresh hb')
theorem pi_enum {a:Expr} {ta:TA} {p pos pt:Pos} {x:Str} {es:List Expr} {kt:Nat} (hx:x="enumerate") (hg:Gl X x) (hm:X.mg x=none) (ha:PA X [a] ta) (hs:notStar a=true) :
  PI X (.Tuple es kt pt) (.Call (.Name x p) [a] [] pos) (wiOf fun σ H R=>ta σ H fun vs H1=>itemsR X.K .enum vs H1 R):=by
 subst hx
 intro pins s σ H R I h
 refine Call_ (ld_blt I hg hm boot_enum (PyProof.Rows.callWith_type1 (thn (ha pos pins s σ H _ I h) fun us s1 ⟨vs,H1,I1,r1,q1⟩=>?_) (star_cons _ hs) rfl))
 match vs,q1 with
 | [.ref l1],⟨z,xs,e1,h1,q⟩ =>
  subst e1
  cases r1 with
  | cons r rr =>
   cases rr
   cases r
   obtain ⟨its,_,sh1,_⟩:=I1.src h1
   refine call_enumS sh1 fun h' st kp=>enum_pie (xs:=xs) I1 sh1 st kp ?_
   simpa using q
theorem enumA_inv {K:PySem.W.Frag} {u n:V} {H:Hp} {R:List Item->(Hp->Prop)->Hp->Prop} (h:itemsR K .enumA [u,n] H R):∃ l i,u=.ref l/\n=.int i/\itemsR K .enumA [.ref l,.int i] H R:=by
 cases u with
 | ref l =>
  cases n with
  | int i=>exact ⟨l,i,rfl,rfl,h⟩
  | _=>exact False.elim h
 | _=>cases n<;>exact False.elim h
theorem pi_enumA {a v:Expr} {ta tv:TE} {p pos pt kp:Pos} {x k:Str} {es:List Expr} {kt:Nat} (hx:x="enumerate") (hk:k="start") (hg:Gl X x) (hm:X.mg x=none) (ha:PE X a ta) (hv:PE X v tv) (hs:notStar a=true) :
  PI X (.Tuple es kt pt) (.Call (.Name x p) [a] [⟨some k,v,kp⟩] pos) (wiOf fun σ H R=>ta σ H fun u H1=>tv σ H1 fun n H2=>itemsR X.K .enumA [u,n] H2 R):=by
 subst hx
 intro pins s σ H R I h
 refine wpAny_Call_Name_kw (ld_blt I hg hm boot_enum (callWith_tyKw (star_cons _ hs) ?_))
 have hh:(tCons ta tNil) σ H fun vs H1=>∃ u,vs=[u]/\tv σ H1 fun n H2=>itemsR X.K .enumA [u,n] H2 fun xs st H'=>∀ J,Yields J xs st->R J H':=by
  have e:∀ (x:V) (H1:Hp),(tv σ H1 fun n H2=>itemsR X.K .enumA [x,n] H2 fun xs st H'=>∀ J,Yields J xs st->R J H')=∃ u,[x]=[u]/\tv σ H1 fun n H2=>itemsR X.K .enumA [u,n] H2 fun xs st H'=>∀ J,Yields J xs st->R J H':=fun x H1=>propext ⟨fun q=>⟨x,rfl,q⟩,fun ⟨u,e,q⟩=>by cases e; exact q⟩
  have h2:ta σ H fun x H1=>tv σ H1 fun n H2=>itemsR X.K .enumA [x,n] H2 fun xs st H'=>∀ J,Yields J xs st->R J H':=h
  have e2:(fun (x:V) (H1:Hp)=>tv σ H1 fun n H2=>itemsR X.K .enumA [x,n] H2 fun xs st H'=>∀ J,Yields J xs st->R J H')=fun (x:V) (H1:Hp)=>∃ u,[x]=[u]/\tv σ H1 fun n H2=>itemsR X.K .enumA [u,n] H2 fun xs st H'=>∀ J,Yields J xs st->R J H':=by
   funext x H1
   exact e x H1
  rw [e2] at h2
  exact h2
 refine thn ((pa_cons ha pa_nil (star_cons _ hs)) pos pins s σ H _ I hh) fun us s1 ⟨vs,H1,I1,r1,u,ev,q1⟩=>?_
 subst ev
 cases r1 with
 | cons r rr =>
  cases rr
  refine thn (hv pins s1 σ H1 _ I1 q1) fun kv s2 ⟨n,H2,I2,r2,q2⟩=>?_
  obtain ⟨l1,n',rfl,rfl,q2⟩:=enumA_inv q2
  obtain ⟨z,xs,e1,h1,⟨n0,n1⟩,q⟩:=q2
  subst e1
  cases r
  obtain ⟨t,rfl⟩:=r2
  obtain ⟨its,_,sh1,_⟩:=I2.src h1
  have en:n'=((n'.toNat:Nat):Int):=by omega
  have fits:Builtin.SmallTypes.fitsIndex ((n'.toNat:Nat):Int)=true:=by
   rw [<- en]
   unfold Builtin.SmallTypes.fitsIndex
   simp only [Bool.and_eq_true,decide_eq_true_eq]
   omega
  rw [en,hk]
  exact call_enumS1 fits sh1 fun h' st kp=>enum_pie (xs:=xs) I2 sh1 st kp q
end
noncomputable def Tg.at:Tg->List Nat
 | .nm i=>[i]
 | .tp is=>is
noncomputable def Agree (tg:Tg) (σ' σ:St):Prop:=σ'.length=σ.length/\∀ (j:Nat),j ∉ tg.at->σ'[j]?=σ[j]?
theorem set_agree {i:Nat} {v:Option V} {σ' σ:St} (h:σ'.length=σ.length) (hj:∀ j,j≠i->σ'[j]?=σ[j]?):σ'.set i v=σ.set i v:=by
 apply List.ext_getElem?
 intro j
 by_cases e:j=i
 ·subst e
  by_cases hl:j < σ.length
  ·rw [List.getElem?_set_self (by omega),List.getElem?_set_self hl]
  ·rw [List.getElem?_eq_none (by rw [List.length_set]; omega),List.getElem?_eq_none (by rw [List.length_set]; omega)]
 ·rw [List.getElem?_set_ne (Ne.symm e),List.getElem?_set_ne (Ne.symm e)]
  exact hj j e
theorem setAll_agree:∀ (is:List Nat) (vs:List V) (σ' σ:St),σ'.length=σ.length->(∀ j,j ∉ is->σ'[j]?=σ[j]?)->setAll is vs σ'=setAll is vs σ
 | [],[],σ',σ,hl,h=>by
  have:σ'=σ:=List.ext_getElem? fun j=>h j (by simp)
  rw [this]
 | [],_::_,_,_,_,_=>rfl
 | _::_,[],_,_,_,_=>rfl
 | i::is,v::vs,σ',σ,hl,h=>by
  simp only [setAll]
  refine setAll_agree is vs _ _ (by simp [hl]) fun j hj=>?_
  by_cases e:j=i
  ·subst e
   by_cases hl':j < σ.length
   ·rw [List.getElem?_set_self (by omega),List.getElem?_set_self hl']
   ·rw [List.getElem?_eq_none (by rw [List.length_set]; omega),List.getElem?_eq_none (by rw [List.length_set]; omega)]
  ·rw [List.getElem?_set_ne (Ne.symm e),List.getElem?_set_ne (Ne.symm e)]
   exact h j (by simp [e,hj])
theorem setAll_keeps:∀ (is:List Nat) (vs:List V) (σ σ':St),setAll is vs σ=some σ'->σ'.length=σ.length/\∀ j,j ∉ is->σ'[j]?=σ[j]?
 | [],[],σ,σ',e=>by simp only [setAll] at e; cases e; exact ⟨rfl,fun _ _=>rfl⟩
 | [],_::_,_,_,e=>by simp [setAll] at e
 | _::_,[],_,_,e=>by simp [setAll] at e
 | i::is,v::vs,σ,σ',e=>by
  simp only [setAll] at e
  obtain ⟨h1,h2⟩:=setAll_keeps is vs _ _ e
  refine ⟨by rw [h1,List.length_set],fun j hj=>?_⟩
  rw [h2 j (fun z=>hj (List.mem_cons_of_mem _ z)),List.getElem?_set_ne (fun z=>hj (by simp [z]))]
theorem bindT_agree {K:PySem.W.Frag} {tg:Tg} {v:V} {σ' σ:St} {H:Hp} {Q:St->Hp->Prop} (a:Agree tg σ' σ) (h:bindT K tg v σ H Q):bindT K tg v σ' H fun σ3 H3=>Agree tg σ3 σ/\Q σ3 H3:=by
 obtain ⟨al,aj⟩:=a
 cases tg with
 | nm i =>
  have e:σ'.set i (some v)=σ.set i (some v):=set_agree al fun j hj=>aj j (by simpa [Tg.at] using hj)
  show Agree (.nm i) (σ'.set i (some v)) σ/\Q (σ'.set i (some v)) H
  rw [e]
  exact ⟨⟨by simp,fun j hj=>List.getElem?_set_ne (fun z=>hj (by simp [Tg.at,z]))⟩,h⟩
 | tp is =>
  cases v with
  | ref p =>
   obtain ⟨xs,σ3,hq,e,q⟩:=h
   exact ⟨xs,σ3,hq,by rw [setAll_agree is xs σ' σ al fun j hj=>aj j hj]; exact e,⟨(setAll_keeps is xs σ σ3 e).1,fun j hj=>(setAll_keeps is xs σ σ3 e).2 j hj⟩,q⟩
  | _=>exact False.elim h
theorem bindT_mono {K:PySem.W.Frag} {tg:Tg} {v:V} {σ:St} {H:Hp} {Q Q':St->Hp->Prop} (m:∀ σ H,Q σ H->Q' σ H) (h:bindT K tg v σ H Q):bindT K tg v σ H Q':=by
 cases tg with
 | nm i=>exact m _ _ h
 | tp is =>
  cases v with
  | ref p=>obtain ⟨xs,σ3,hq,e,q⟩:=h; exact ⟨xs,σ3,hq,e,m _ _ q⟩
  | _=>exact False.elim h
theorem bindI_step {K:PySem.W.Frag} {tg:Tg} {it:Item} {x:V} {σ:St} {H H':Hp} {Q:St->Hp->Prop} (hi:match it with | .one v=>x=v/\H'=H | .tup vs=>∃ p,H p=none/\x=.ref p/\H'=upd H p (.tup vs)) (h:bindI K tg it σ H Q):bindT K tg x σ H' Q:=by
 cases it with
 | one v=>obtain ⟨rfl,rfl⟩:=hi; exact h
 | tup vs =>
  obtain ⟨p,hp,rfl,rfl⟩:=hi
  cases tg with
  | nm i=>exact h p hp
  | tp is =>
   obtain ⟨σ',e,q⟩:=h (upd H p (.tup vs)) fun b o e=>by rw [upd_ne (ne_of_none e hp)]; exact e
   exact ⟨vs,σ',SqT.of upd_same,e,q⟩
theorem compB_of {K:PySem.W.Frag} {xs:List Item} {st:Hp->Prop} {tg:Tg} {tc:TT} {te:TE} {σ0:St} {H:Hp} {Q:VK} (h:compR K xs st (bindI K tg) tc te σ0 H Q):CompB K xs st tg tc te σ0 H Q:=by
 obtain ⟨W,w0,hst,turn,done⟩:=h
 intro J Y
 refine ⟨fun i m acc σ' H'=>m=xs.length - i/\i<=xs.length/\Agree tg σ' σ0/\W i acc H',⟨xs.length,by simp,Nat.zero_le _,⟨rfl,fun _ _=>rfl⟩,w0⟩,?_⟩
 rintro i m acc σ' H' ⟨rfl,hi,ag,w⟩
 have s':=hst i acc H' hi w
 by_cases hlt:i < xs.length
 ·refine .inr ⟨Y.go i H' s' hlt,fun x H2 y=>?_⟩
  obtain ⟨it,hit,hy⟩:=Y.yld i H' x H2 s' hlt y
  have b:=bindT_agree ag (bindI_step hy (turn i it acc H' hit w))
  refine bindT_mono (fun σ3 H3 q=>?_) b
  obtain ⟨ag3,q⟩:=q
  have e1:∀ (acc':List V) (H5:Hp),(∃ m',m' < xs.length - i/\m'=xs.length - (i+1)/\i+1<=xs.length/\Agree tg σ3 σ0/\W (i+1) acc' H5)=W (i+1) acc' H5:=fun acc' H5 =>
   propext ⟨fun ⟨_,_,_,_,_,w⟩=>w,fun w=>⟨_,by omega,rfl,hlt,ag3,w⟩⟩
  simp only [e1]
  exact q
 ·have e:i=xs.length:=by omega
  subst e
  obtain ⟨hz,q⟩:=done acc H' w
  exact .inl ⟨Y.stop _ H' s' (Nat.le_refl _),hz,q⟩
end L2.L3
namespace L2.L3
open PySem PySem.Spec PyProof.Rows
variable {Γ:Ev}
noncomputable def notArgs:PX->Bool
 | .acons _ _=>false
 | _=>true
theorem argsPE_triv {X:Cx} {E:XK} {p:PX} {es:List Expr} (h:notArgs p=true):ArgsPE X Γ E p es:=by
 cases p<;>first | trivial | cases h
theorem asB_eq' (Q:Bool->Hp->Prop):(fun (x:V) (H1:Hp)=>asB x H1 Q)=fun (x:V) (H1:Hp)=>∃ k,x=.bl k/\Q k H1:=by funext x H1; exact asB_eq x H1 Q
theorem Snd.of {X:Cx} {E:XK} {p:PX} {e:Expr} (pe:PE X e (wp X.K Γ p E).e) (pt:PT X e (wp X.K Γ p E).t) (hb:∀ op es pos,e≠.BoolOp op es pos) (ha:(wp X.K Γ p E).a=never.a) (hn:notArgs p=true:=by rfl):Snd X Γ E p e :=
 ⟨pe,pt,fun op es pos z=>absurd z (hb op es pos),fun es pos z=>by rw [ha]; exact pa_never,fun _ _ _=>argsPE_triv hn⟩
theorem Snd.lit {X:Cx} {E:XK} {p:PX} {e:Expr} (pe:PE X e (wp X.K Γ p E).e) (ht:(wp X.K Γ p E).t=never.t) (hb:∀ op es pos,e≠.BoolOp op es pos) (ha:(wp X.K Γ p E).a=never.a) (hn:notArgs p=true:=by rfl):Snd X Γ E p e :=
 Snd.of pe (by rw [ht]; exact pt_never) hb ha hn
theorem Snd.args {X:Cx} {E:XK} {p:PX} {es:List Expr} {pos:Pos} (ha:PA X es (wp X.K Γ p E).a) (hp:ArgsPE X Γ E p es) (he:(wp X.K Γ p E).e=never.e) (ht:(wp X.K Γ p E).t=never.t):Snd X Γ E p (.List es pos) :=
 ⟨by rw [he]; exact pe_never,by rw [ht]; exact pt_never,fun _ _ _ z=>(by cases z),fun es' pos' z=>by cases z; exact ha,fun es' pos' z=>by cases z; exact hp⟩
theorem pe_glo {X:Cx} {S:SC} {x:Str} {v:V} {u:Value} {pos:Pos} (hsc:X.env.scope=S.sc) (h:gloB S x=true) (hm:X.mg x=some u) (r:RelV v u):PE X (.Name x pos) (fun _ H Q=>Q v H):=by
 obtain ⟨h1,h2,h3⟩:=gloB_ok h
 exact pe_glob (show X.env.scope.names.lookup x=some .globalImplicit by rw [hsc]; exact h1) hm r h2
theorem args_star {S:SC} {pos:Pos}:∀ (p:PX) {es:List Expr},chk p S (.List es pos)=true->es.all notStar=true:=by
 intro p
 induction p with
 | anil =>
  intro es h
  have h:es.isEmpty=true:=h
  rw [List.isEmpty_iff.mp h]
  rfl
 | acons a as _ ih =>
  intro es h
  have h:onC es _=true:=h
  obtain ⟨x,t,rfl,h⟩:=onC_i h
  have h1:=and2 h
  rw [List.all_cons,h1.1,ih (and2 h1.2).2]
  rfl
 | lst as ih=>exact fun h=>ih h
 | prm o as =>
  intro es h
  have h:=(and2 h).2
  cases o<;>exact (Bool.false_ne_true h).elim
 | _=>exact fun h=>(Bool.false_ne_true h).elim
theorem args_nil {K:PySem.W.Frag} {E:XK} {S:SC} {pos:Pos} {σ:St} {H:Hp} {Q:List V->Hp->Prop}:∀ (p:PX),isArgs p=true->chk p S (.List [] pos)=true->((wp K Γ p E).a σ H Q ↔ Q [] H):=by
 intro p
 cases p with
 | anil=>exact fun _ _=>Iff.rfl
 | acons _ _=>exact fun _ h=>(Bool.false_ne_true h).elim
 | _=>exact fun h=>(Bool.false_ne_true h).elim
theorem args_nil0 {K:PySem.W.Frag} {E:XK} {S:SC} {pos:Pos} {σ:St} {H:Hp} {Q:List V->Hp->Prop} (p:PX) (h:chk p S (.List [] pos)=true) (q:(wp K Γ p E).a σ H Q):Q [] H:=by
 cases hi:isArgs p with
 | true=>exact (args_nil p hi h).mp q
 | false =>
  cases p with
  | anil=>exact q
  | acons _ _=>exact (Bool.false_ne_true h).elim
  | _=>exact q.elim
theorem args_one {S:SC} {a:Expr} {pos:Pos} (p:PX) (h0:isArgs p=true) (h:chk p S (.List [a] pos)=true):∃ a1,p=.acons a1 .anil:=by
 cases p with
 | acons a1 r =>
  have h2:chk r S (.List [] pos)=true:=(and2 (and2 h).2).2
  cases r with
  | anil=>exact ⟨a1,rfl⟩
  | acons _ _=>exact (Bool.false_ne_true h2).elim
  | _=>exact (Bool.false_ne_true h0).elim
 | anil=>exact (Bool.false_ne_true h).elim
 | _=>exact (Bool.false_ne_true h0).elim
theorem args_two {S:SC} {a b:Expr} {pos:Pos} (p:PX) (h0:isArgs p=true) (h:chk p S (.List [a,b] pos)=true):∃ a1 b1,p=.acons a1 (.acons b1 .anil):=by
 cases p with
 | acons a1 r =>
  obtain ⟨b1,e⟩:=args_one r h0 (and2 (and2 h).2).2
  exact ⟨a1,b1,by rw [e]⟩
 | anil=>exact (Bool.false_ne_true h).elim
 | _=>exact (Bool.false_ne_true h0).elim
theorem mt_ok {X:Cx} (m:Mt):∃ id,PlainAttrs m.ty/\Slot m.ty m.nm id/\typeOf (.builtin id)=pure (.type "method_descriptor")/\MtR X id (mtR X.K m):=by
 cases m with
 | split=>exact ⟨_,PySem.F.plainAttrs_str,PySem.F.slot_str_split,PySem.F.type_str_split,mt_split⟩
 | append=>exact ⟨_,PySem.F.plainAttrs_list,PySem.F.slot_list_append,PySem.F.type_list_append,mt_appU⟩
 | join=>exact ⟨_,PySem.F.plainAttrs_str,PySem.F.slot_str_join,PySem.F.type_str_join,mt_join⟩
theorem any_star {env:Env} {pos:Pos}:∀ {es:List Expr},es.all notStar=true->(backTo pos (starEach es env)).any (·.1)=false
 | [],_=>rfl
 | e::es,h=>by
  rw [List.all_cons] at h
  obtain ⟨h1,h2⟩:=and2 h
  rw [star_cons env h1]
  show (false || (backTo pos (starEach es env)).any (·.1))=false
  rw [any_star h2]
  rfl
theorem all_star {env:Env} {pos:Pos}:∀ {es:List Expr},es.all notStar=true->(backTo pos (starEach es env)).all (fun x=>!x.1)=true
 | [],_=>rfl
 | e::es,h=>by
  rw [List.all_cons] at h
  obtain ⟨h1,h2⟩:=and2 h
  rw [star_cons env h1]
  show (true && (backTo pos (starEach es env)).all (fun x=>!x.1))=true
  rw [all_star h2]
  rfl
theorem pi_ofS {X:Cx} {S:SC} {G:Glob} {E:XK} (ok:OkX X S G E) {ik:ItK} {its:PX} {t it:Expr} {pos:Pos} (hik:itC (isArgs its) S ik (fun es p=>chk its S (.List es p)) t it pos=true) (n1:ikN G ik)
  (sn:∀ es p,chk its S (.List es p)=true->Snd X G.ev E its (.List es p)):PI X t it (wiOf fun σ H R=>(wp X.K G.ev its E).a σ H fun vs H1=>itemsR X.K ik vs H1 R):=by
 have glo:∀ {x:Str},gloB S x=true->Gl X x:=fun {x} h=>by
  show X.env.scope.names.lookup x=some .globalImplicit
  rw [ok.sc]; exact (gloB_ok h).1
 have tupT:isTupE t=true->∃ es k p,t=.Tuple es k p:=fun h=>by
  cases t with
  | Tuple es k p=>exact ⟨es,k,p,rfl⟩
  | _=>exact (Bool.false_ne_true h).elim
 cases ik with
 | val =>
  have i:=and2 hik
  have pas:=(sn _ pos i.2).pas _ pos rfl
  obtain ⟨a,rfl⟩:=args_one its i.1 i.2
  exact pi_val' pas.1
 | rng1 =>
  obtain ⟨px,es,ks,p,rfl,hg,h⟩:=callC_i hik
  have h1:=and2 h
  cases List.isEmpty_iff.mp h1.1
  obtain ⟨a,rfl,h3⟩:=on1_i h1.2
  exact pi_rng1 rfl (glo hg) (ok.no _ n1) ((sn _ p h3).pa _ p rfl) (by simpa using args_star its h3)
 | zip2 =>
  have i:=and2 hik
  obtain ⟨es,k,pt,rfl⟩:=tupT i.1
  obtain ⟨px,es,ks,p,rfl,hg,h⟩:=callC_i i.2
  have h1:=and2 h
  cases List.isEmpty_iff.mp h1.1
  obtain ⟨a,b,rfl,h3⟩:=on2_i h1.2
  have st:=and2 (args_star its h3)
  exact pi_zip rfl (glo hg) (ok.no _ n1) ((sn _ p h3).pa _ p rfl) st.1 (and2 st.2).1
 | enum =>
  have i:=and2 hik
  obtain ⟨es,k,pt,rfl⟩:=tupT i.1
  obtain ⟨px,es,ks,p,rfl,hg,h⟩:=callC_i i.2
  have h1:=and2 h
  cases List.isEmpty_iff.mp h1.1
  obtain ⟨a,rfl,h3⟩:=on1_i h1.2
  exact pi_enum rfl (glo hg) (ok.no _ n1) ((sn _ p h3).pa _ p rfl) (by simpa using args_star its h3)
 | enumA =>
  have i:=and2 hik
  obtain ⟨es,k,pt,rfl⟩:=tupT i.1
  have i2:=and2 i.2
  obtain ⟨px,es,ks,p,rfl,hg,h⟩:=callC_i i2.2
  obtain ⟨a,rfl,h1⟩:=on1_i h
  obtain ⟨⟨ka,kv,kp⟩,rfl,h2⟩:=on1_i h1
  have h3:=and2 h2
  have ek:ka=some ("start":Str):=eq_of_beq h3.1
  cases ek
  have st:=and2 (args_star its h3.2)
  have pas:=(sn _ p h3.2).pas _ p rfl
  obtain ⟨c,d,rfl⟩:=args_two its i2.1 h3.2
  exact pi_enumA rfl rfl (glo hg) (ok.no _ n1) pas.1 pas.2.1 st.1
theorem pe_cont {X:Cx} {e:Expr} {te te':TE} (h:PE X e te) (q:∀ σ H Q,te' σ H Q->te σ H Q):PE X e te':=fun pins s σ H Q I z=>h pins s σ H Q I (q σ H Q z)
theorem snd {G:Glob}:∀ (p:PX) {X:Cx} {S:SC} {E:XK} (ok:OkX X S G E) {e:Expr},chk p S e=true->needs G p->Snd X G.ev E p e:=by
 intro p
 induction p with
 | var i =>
  intro X S E ok e h _
  obtain ⟨x,pos,rfl,h⟩:=onName_i h
  obtain ⟨h1,h2,h3,h4⟩:=visB_ok h
  have base:=pe_var (pos:=pos) (show X.N[i]?=some x by rw [ok.N]; exact h1) (show Vis X.env.scope x by rw [ok.sc]; exact h2) h3 h4
  have pe:PE X (.Name x pos) (wp X.K G.ev (.var i) E).e:=pe_cont base fun σ H Q q=>by
   have q:(match σ[i]? with | some (some v)=>Q v H | _=>False):=q
   cases hs:σ[i]? with
   | none=>rw [hs] at q; exact q.elim
   | some o =>
    rw [hs] at q
    cases o with
    | none=>exact q.elim
    | some v=>exact ⟨v,hs,q⟩
  exact Snd.of pe (pt_tru pe fun _=>rfl) (fun _ _ _ z=>by cases z) rfl
 | int i =>
  intro X S E ok e h _
  obtain ⟨c,k,pos,rfl,h⟩:=onConst_i h
  obtain ⟨j,rfl,h⟩:=cInt_i h
  cases eq_of_beq h
  exact Snd.of pe_int (pt_tru (ta:=fun _ H Q=>Q (.int i) H) pe_int fun _=>rfl) (fun _ _ _ z=>by cases z) rfl
 | str x =>
  intro X S E ok e h _
  obtain ⟨c,k,pos,rfl,h⟩:=onConst_i h
  obtain ⟨j,rfl,h⟩:=cStr_i h
  cases eq_of_beq h
  exact Snd.lit pe_str rfl (fun _ _ _ z=>by cases z) rfl
 | bl b =>
  intro X S E ok e h _
  obtain ⟨c,k,pos,rfl,h⟩:=onConst_i h
  obtain ⟨j,rfl,h⟩:=cBool_i h
  cases eq_of_beq h
  exact Snd.of pe_bl (pt_tru (ta:=fun _ H Q=>Q (.bl b) H) pe_bl fun _=>rfl) (fun _ _ _ z=>by cases z) rfl
 | non =>
  intro X S E ok e h _
  obtain ⟨c,k,pos,rfl,h⟩:=onConst_i h
  cases cNone_i h
  exact Snd.of pe_non (pt_tru (ta:=fun _ H Q=>Q .non H) pe_non fun _=>rfl) (fun _ _ _ z=>by cases z) rfl
 | glo x =>
  intro X S E ok e h nd
  obtain ⟨y,pos,rfl,h⟩:=onName_i h
  have h:=and2 h
  cases eq_of_beq h.1
  obtain ⟨u,hm,r⟩:=ok.val x nd
  have pe:=pe_glo (pos:=pos) ok.sc h.2 hm r
  exact Snd.of pe (pt_tru pe fun _=>rfl) (fun _ _ _ z=>by cases z) rfl
 | bty x n =>
  intro X S E ok e h nd
  obtain ⟨y,pos,rfl,h⟩:=onName_i h
  have h:=and2 h
  cases eq_of_beq h.1
  obtain ⟨g1,g2,g3⟩:=gloB_ok h.2
  exact Snd.lit (pe_bltn (show X.env.scope.names.lookup x=some .globalImplicit by rw [ok.sc]; exact g1) (ok.no x nd.1) nd.2 rfl g3 g2) rfl (fun _ _ _ z=>by cases z) rfl
 | bin op a b iha ihb =>
  intro X S E ok e h nd
  obtain ⟨l,o,r,pos,rfl,h⟩:=onBin_i h
  have h1:=and2 h
  have h2:=and2 h1.2
  cases eq_of_beq h1.1
  have pe:=pe_op (pos:=pos) (op_bin op) (iha ok h2.1 nd.1).pe (ihb ok h2.2 nd.2).pe
  exact Snd.of pe (pt_tru pe fun _=>rfl) (fun _ _ _ z=>by cases z) rfl
 | cmp op a b iha ihb =>
  intro X S E ok e h nd
  obtain ⟨l,os,rs,pos,rfl,h⟩:=onCmp_i h
  obtain ⟨o,rfl,h⟩:=on1_i h
  obtain ⟨r,rfl,h⟩:=on1_i h
  have h1:=and2 h
  have h2:=and2 h1.2
  have h3:=and2 h2.2
  cases eq_of_beq h1.1
  have pa:=(iha ok h3.1 nd.1).pe
  have pb:=(ihb ok h3.2 nd.2).pe
  refine Snd.of (pe_cmpR (pos:=pos) (op_cmp ok.un op) pa pb (noMark h2.1)) (fun pins s σ H Q I q=>pt_cmpR (pos:=pos) (op_cmp ok.un op) pa pb (noMark h2.1) pins s σ H Q I ?_) (fun _ _ _ z=>by cases z) rfl
  show tOp _ _ _ σ H (fun (x:V) (H1:Hp)=>∃ k,x=.bl k/\Q k H1)
  rw [<- asB_eq' Q]
  exact q
 | chn o p a b c iha ihb ihc =>
  intro X S E ok e h nd
  obtain ⟨l,os,rs,pos,rfl,h⟩:=onCmp_i h
  obtain ⟨o',p',rfl,h⟩:=on2_i h
  obtain ⟨r,q',rfl,h⟩:=on2_i h
  have h1:=and2 h
  have h2:=and2 h1.2
  have h3:=and2 h2.2
  have h4:=and2 h3.2
  have h5:=and2 h4.2
  cases eq_of_beq h1.1
  cases eq_of_beq h2.1
  have pa:=(iha ok h4.1 nd.1).pe
  have pb:=(ihb ok h5.1 nd.2.1).pe
  have pc:=(ihc ok h5.2 nd.2.2).pe
  have lm:lastMarks [o,p] [r,q']=false:=noMark h3.1
  have eq:∀ (Q:VK) (σ:St) (y:V),(fun (z:V) (H3:Hp)=>∃ k,z=.bl k/\(if k=true then (wp X.K G.ev c E).e σ H3 fun w' H4=>cmpR X.K p y w' H4 Q else Q (.bl false) H3)) =
    fun (z:V) (H3:Hp)=>asB z H3 fun k H4=>if k=true then (wp X.K G.ev c E).e σ H4 fun w' H5=>cmpR X.K p y w' H5 Q else Q (.bl false) H4:=fun Q σ y=>(asB_eq' _).symm
  have pe:PE X (.Compare l [o,p] [r,q'] pos) (wp X.K G.ev (.chn o p a b c) E).e:=fun pins s σ H Q I q=>pe_chain (pos:=pos) (op_cmp ok.un o) (op_cmp ok.un p) pa pb pc lm pins s σ H Q I (by
   show (wp X.K G.ev a E).e σ H fun x H1=>(wp X.K G.ev b E).e σ H1 fun y H2=>cmpR X.K o x y H2 ((fun (y:V) (z:V) (H3:Hp)=>∃ k,z=.bl k/\(if k=true then (wp X.K G.ev c E).e σ H3 fun w' H4=>cmpR X.K p y w' H4 Q else Q (.bl false) H3)) y)
   simp only [eq]
   exact q)
  refine Snd.of pe (fun pins s σ H Q I q=>pt_chain (pos:=pos) (op_cmp ok.un o) (op_cmp ok.un p) pa pb pc lm pins s σ H Q I ?_) (fun _ _ _ z=>by cases z) rfl
  show tChain _ _ _ _ _ σ H (fun (x:V) (H1:Hp)=>∃ k,x=.bl k/\Q k H1)
  rw [<- asB_eq' Q]
  show (wp X.K G.ev a E).e σ H fun x H1=>(wp X.K G.ev b E).e σ H1 fun y H2=>cmpR X.K o x y H2 ((fun (y:V) (z:V) (H3:Hp)=>∃ k,z=.bl k/\(if k=true then (wp X.K G.ev c E).e σ H3 fun w' H4=>cmpR X.K p y w' H4 (fun (x:V) (H1:Hp)=>asB x H1 Q) else (fun (x:V) (H1:Hp)=>asB x H1 Q) (.bl false) H3)) y)
  simp only [eq]
  exact q
 | and a b iha ihb =>
  intro X S E ok e h nd
  obtain ⟨o,es,pos,rfl,h⟩:=onBool_i h
  have h1:=and2 h
  cases eq_of_beq h1.1
  obtain ⟨l,t,rfl,h2⟩:=onC_i h1.2
  obtain ⟨r,t,rfl,h3⟩:=onC_i h2
  have h4:=and2 h3
  have sa:=iha ok h4.1 nd.1
  have sb:=ihb ok h4.2 nd.2
  have eqA:∀ (σ:St) (Q:VK),(fun (x:V) (H1:Hp)=>∃ c,x=.bl c/\if c=true then (wp X.K G.ev b E).e σ H1 Q else Q (.bl false) H1)=fun (x:V) (H1:Hp)=>asB x H1 fun c H2=>if c=true then (wp X.K G.ev b E).e σ H2 Q else Q (.bl false) H2:=fun σ Q=>(asB_eq' _).symm
  have key:PW X (.BoolOp .And (l::r::t) pos) (wp X.K G.ev (.and a b) E).t/\PE X (.BoolOp .And (l::r::t) pos) (fun σ H Q=>(wp X.K G.ev a E).e σ H fun x H1=>∃ c,x=.bl c/\if c=true then (wp X.K G.ev b E).e σ H1 Q else Q (.bl false) H1):=by
   cases t with
   | nil=>exact ⟨pw_and sa.pt (pw_and1 sb.pt),pe_and (pos:=pos) sa.pe (pe_one sb.pe)⟩
   | cons q t=>exact ⟨pw_and sa.pt (sb.pw _ _ _ rfl),pe_and (pos:=pos) sa.pe sb.pe⟩
  refine ⟨pe_cont key.2 fun σ H Q q=>?_,key.1.pt,fun _ _ _ _=>key.1,fun _ _ z=>(by cases z),fun _ _ z=>trivial⟩
  rw [eqA]
  exact q
 | or a b iha ihb =>
  intro X S E ok e h nd
  obtain ⟨o,es,pos,rfl,h⟩:=onBool_i h
  have h1:=and2 h
  cases eq_of_beq h1.1
  obtain ⟨l,t,rfl,h2⟩:=onC_i h1.2
  obtain ⟨r,t,rfl,h3⟩:=onC_i h2
  have h4:=and2 h3
  have sa:=iha ok h4.1 nd.1
  have sb:=ihb ok h4.2 nd.2
  have eqA:∀ (σ:St) (Q:VK),(fun (x:V) (H1:Hp)=>∃ c,x=.bl c/\if c=true then Q (.bl true) H1 else (wp X.K G.ev b E).e σ H1 Q)=fun (x:V) (H1:Hp)=>asB x H1 fun c H2=>if c=true then Q (.bl true) H2 else (wp X.K G.ev b E).e σ H2 Q:=fun σ Q=>(asB_eq' _).symm
  have key:PW X (.BoolOp .Or (l::r::t) pos) (wp X.K G.ev (.or a b) E).t/\PE X (.BoolOp .Or (l::r::t) pos) (fun σ H Q=>(wp X.K G.ev a E).e σ H fun x H1=>∃ c,x=.bl c/\if c=true then Q (.bl true) H1 else (wp X.K G.ev b E).e σ H1 Q):=by
   cases t with
   | nil=>exact ⟨pw_or sa.pt (pw_or1 sb.pt),pe_or (pos:=pos) sa.pe (pe_one sb.pe)⟩
   | cons q t=>exact ⟨pw_or sa.pt (sb.pw _ _ _ rfl),pe_or (pos:=pos) sa.pe sb.pe⟩
  refine ⟨pe_cont key.2 fun σ H Q q=>?_,key.1.pt,fun _ _ _ _=>key.1,fun _ _ z=>(by cases z),fun _ _ z=>trivial⟩
  rw [eqA]
  exact q
 | not a iha =>
  intro X S E ok e h nd
  obtain ⟨o,x,pos,rfl,h⟩:=onUn_i h
  have h1:=and2 h
  cases eq_of_beq h1.1
  have sa:=iha ok h1.2 nd
  refine Snd.of (fun pins s σ H Q I q=>?_) (pt_not sa.pt) (fun _ _ _ z=>by cases z) rfl
  refine UnaryOp_ (thn (sa.pe pins s σ H _ I q) fun v s1 ⟨x,H1,I1,r1,q1⟩=>?_)
  have q1:truQ X.K x H1 (fun c H2=>Q (.bl (!c)) H2):=q1
  rw [truQ_eq] at q1
  refine not_of (thn (tru_ok pins s1 σ H1 x v _ I1 r1 q1) fun c s2 ⟨H2,I2,q2⟩=>?_)
  exact ⟨.bl (!c),H2,I2,rfl,q2⟩
 | ife c a b ihc iha ihb =>
  intro X S E ok e h nd
  obtain ⟨t,l,r,pos,rfl,h⟩:=onIf_i h
  have h1:=and2 h
  have h2:=and2 h1.2
  exact Snd.lit (pe_ifExp (pos:=pos) (ihc ok h1.1 nd.1).pt (iha ok h2.1 nd.2.1).pe (ihb ok h2.2 nd.2.2).pe) rfl (fun _ _ _ z=>by cases z) rfl
 | call f as ih =>
  intro X S E ok e h nd
  obtain ⟨p,es,ks,pos,rfl,hg,h⟩:=callC_i h
  have h1:=and2 h
  cases List.isEmpty_iff.mp h1.1
  obtain ⟨g1,g2,g3⟩:=gloB_ok hg
  have hg:Gl X f:=show X.env.scope.names.lookup f=some .globalImplicit by rw [ok.sc]; exact g1
  obtain ⟨CX,k,a,fd,ps,F,hr,hm,hk,hb,hx,_⟩:=ok.fn f nd.1
  have pa:=(ih ok h1.2 nd.2).pa es pos rfl
  have st:=args_star as h1.2
  have pe:PE X (.Call (.Name f p) es [] pos) (wp X.K G.ev (.call f as) E).e:=by
   cases es with
   | nil=>exact pe_cont (pe_call0 (pos:=pos) (p:=p) F hr hg hm hk hb .nil hx g2) fun σ H Q q=>args_nil0 as h1.2 q
   | cons e1 es1 =>
    have st:=and2 st
    refine pe_cont (pe_call (pos:=pos) (p:=p) F hr hg hm hk hb .nil hx pa g2 (star_cons _ st.1) (any_star st.2)) fun σ H Q q=>?_
    show (wp X.K G.ev as E).a σ H fun vs H1=>G.ev.sp f (vs++[]) H1 Q E
    simp only [List.append_nil]
    exact q
  exact Snd.of pe (pt_tru pe fun _=>rfl) (fun _ _ _ z=>by cases z) rfl
 | idx a b iha ihb =>
  intro X S E ok e h nd
  obtain ⟨v,i,pos,rfl,h⟩:=onSub_i h
  have h1:=and2 h
  have h2:=and2 h1.2
  have pe:=pe_ix (pos:=pos) ix_any (iha ok h2.1 nd.1).pe (ihb ok h2.2 nd.2).pe (plainIx h1.1)
  exact Snd.of pe (pt_tru pe fun _=>rfl) (fun _ _ _ z=>by cases z) rfl
 | nop =>
  intro X S E ok e h nd
  exact (Bool.false_ne_true h).elim
 | lst as ih =>
  intro X S E ok e h nd
  obtain ⟨es,pos,rfl,h⟩:=onList_i h
  have pa:=(ih ok h nd).pa es pos rfl
  exact ⟨pe_lst pa,pt_never,fun _ _ _ z=>(by cases z),fun _ _ z=>pa_never,fun _ _ z=>trivial⟩
 | tup as ih =>
  intro X S E ok e h nd
  obtain ⟨es,k,pos,rfl,h⟩:=onTup_i h
  exact Snd.lit (pe_tup ((ih ok h nd).pa es pos rfl)) rfl (fun _ _ _ z=>by cases z) rfl
 | anil =>
  intro X S E ok e h nd
  obtain ⟨es,pos,rfl,h⟩:=onList_i h
  cases List.isEmpty_iff.mp h
  exact Snd.args pa_nil trivial rfl rfl
 | acons a as iha ih =>
  intro X S E ok e h nd
  obtain ⟨es,pos,rfl,h⟩:=onList_i h
  obtain ⟨e1,es1,rfl,h⟩:=onC_i h
  have h1:=and2 h
  have h2:=and2 h1.2
  have sa:=(iha ok h2.1 nd.1).pe
  have ss:=ih ok h2.2 nd.2
  exact Snd.args (pa_cons sa (ss.pa es1 pos rfl) (star_cons _ h1.1)) ⟨sa,ss.pas es1 pos rfl⟩ rfl rfl
 | bi f as ih =>
  intro X S E ok e h nd
  obtain ⟨p,es,ks,pos,rfl,hg,h⟩:=callC_i h
  have h1:=and2 h
  cases List.isEmpty_iff.mp h1.1
  obtain ⟨e1,es1,rfl,h3⟩:=onC_i h1.2
  obtain ⟨g1,g2,g3⟩:=gloB_ok hg
  have hg:Gl X f.nm:=show X.env.scope.names.lookup f.nm=some .globalImplicit by rw [ok.sc]; exact g1
  have pa:=(ih ok h3 nd.2).pa _ pos rfl
  have st:=and2 (args_star as h3)
  have pe:PE X (.Call (.Name f.nm p) (e1::es1) [] pos) (wp X.K G.ev (.bi f as) E).e:=by
   rcases bi_ok ok.calm f with ⟨id,hb,hc⟩ | ⟨T,hb,hc⟩
   ·exact pe_callB (pos:=pos) (p:=p) hc hg (ok.no _ nd.1) hb pa g3 g2 (star_cons _ st.1) (any_star st.2)
   ·exact pe_callTy (pos:=pos) (p:=p) hc hg (ok.no _ nd.1) hb pa g3 g2 (star_cons _ st.1) (any_star st.2)
  exact Snd.of pe (pt_tru pe fun _=>rfl) (fun _ _ _ z=>by cases z) rfl
 | prm o as ih =>
  intro X S E ok e h nd
  have h0:=and2 h
  cases o with
  | dget x =>
   obtain ⟨v,ap,es,cp,rfl,hl,h1⟩:=methC_i h0.2
   obtain ⟨y,p,rfl,h2⟩:=onName_i h1
   have h3:=and2 h2
   have h4:=and2 h3.2
   cases eq_of_beq h3.1
   obtain ⟨a,rfl,h5⟩:=on1_i h4.2
   obtain ⟨ad,kvs,hm,hd,D⟩:=ok.dic x nd.1
   have po:PE X (.Name x p) (fun _ H Q=>Q (.ref ad) H):=pe_glo (pos:=p) ok.sc h4.1 hm rfl
   have st:=args_star as h5
   have pas:=(ih ok h5 nd.2).pas _ cp rfl
   obtain ⟨a1,rfl⟩:=args_one as h0.1 h5
   have base:=pe_cget (apos:=ap) (cpos:=cp) D po pas.1 rfl (by rw [all_star st]; rfl) hl (star_cons _ (and2 st).1)
   have pe:PE X (.Call (.Attribute (.Name x p) "get" ap) [a] [] cp) (wp X.K G.ev (.prm (.dget x) (.acons a1 .anil)) E).e:=by
    refine pe_cont base fun σ H Q q=>?_
    have e:(fun (y:V) (H1:Hp)=>∃ z,y=.str z/\Q ((kvs.lookup z).getD .non) H1)=fun (y:V) (H1:Hp)=>prmR X.K G.ev (.dget x) [y] H1 Q:=by
     funext y H1
     apply propext
     constructor
     ·rintro ⟨z,rfl,q⟩
      exact ⟨kvs,hd,q⟩
     ·intro q
      cases y with
      | str z =>
       obtain ⟨k2,e2,q⟩:=q
       rw [hd] at e2
       cases e2
       exact ⟨z,rfl,q⟩
      | _=>exact q.elim
    rw [e]
    exact q
   exact Snd.of pe (pt_tru pe fun _=>rfl) (fun _ _ _ z=>by cases z) rfl
  | dix x =>
   obtain ⟨v,i,pos,rfl,h1⟩:=onSub_i h0.2
   obtain ⟨y,p,rfl,h2⟩:=onName_i h1
   have h3:=and2 h2
   have h4:=and2 h3.2
   have h5:=and2 h4.2
   cases eq_of_beq h3.1
   obtain ⟨ad,kvs,hm,hd,D⟩:=ok.dic x nd.1
   have po:PE X (.Name x p) (fun _ H Q=>Q (.ref ad) H):=pe_glo (pos:=p) ok.sc h4.1 hm rfl
   have pas:=(ih ok h5.2 nd.2).pas _ pos rfl
   obtain ⟨a1,rfl⟩:=args_one as h0.1 h5.2
   have base:=pe_ix (pos:=pos) (ix_const D) po pas.1 (plainIx h5.1)
   have pe:PE X (.Subscript (.Name x p) i pos) (wp X.K G.ev (.prm (.dix x) (.acons a1 .anil)) E).e:=by
    refine pe_cont base fun σ H Q q=>?_
    have e:(fun (y:V) (H1:Hp)=>∃ z v,(V.ref ad)=.ref ad/\y=.str z/\kvs.lookup z=some v/\Q v H1)=fun (y:V) (H1:Hp)=>prmR X.K G.ev (.dix x) [y] H1 Q:=by
     funext y H1
     apply propext
     constructor
     ·rintro ⟨z,v,_,rfl,l,q⟩
      exact ⟨kvs,v,hd,l,q⟩
     ·intro q
      cases y with
      | str z =>
       obtain ⟨k2,v,e2,l,q⟩:=q
       rw [hd] at e2
       cases e2
       exact ⟨z,v,rfl,rfl,l,q⟩
      | _=>exact q.elim
    show (wp X.K G.ev a1 E).e σ H (fun (y:V) (H1:Hp)=>∃ z v,(V.ref ad)=.ref ad/\y=.str z/\kvs.lookup z=some v/\Q v H1)
    rw [e]
    exact q
   exact Snd.of pe (pt_tru pe fun _=>rfl) (fun _ _ _ z=>by cases z) rfl
 | isi a c iha ihc =>
  intro X S E ok e h nd
  obtain ⟨p,es,ks,pos,rfl,hg,h⟩:=callC_i h
  have h1:=and2 h
  cases List.isEmpty_iff.mp h1.1
  obtain ⟨l,r,rfl,h2⟩:=on2_i h1.2
  have h3:=and2 h2
  have h4:=and2 h3.2
  have h5:=and2 h4.2
  obtain ⟨g1,g2,g3⟩:=gloB_ok hg
  have hg:Gl X "isinstance":=show X.env.scope.names.lookup ("isinstance":Str)=some .globalImplicit by rw [ok.sc]; exact g1
  have pe:PE X (.Call (.Name "isinstance" p) [l,r] [] pos) (wp X.K G.ev (.isi a c) E).e :=
   pe_callB (pos:=pos) (p:=p) call_isi hg (ok.no _ nd.1) (by kernel_rfl) (pa_cons (iha ok h5.1 nd.2.1).pe (pa_cons (ihc ok h5.2 nd.2.2).pe pa_nil (star_cons _ h4.1)) (star_cons _ h3.1)) g3 g2 (star_cons _ h3.1) (any_star (by rw [List.all_cons,h4.1]; rfl))
  exact Snd.of pe (pt_tru pe fun _=>rfl) (fun _ _ _ z=>by cases z) rfl
 | mt m o as iho ih =>
  intro X S E ok e h nd
  obtain ⟨v,ap,es,pos,rfl,h2,h⟩:=methC_i h
  have h0:=and2 h
  have h1:=and2 h0.2
  have h3:=and2 h1.2
  have h4:=and2 h3.2
  have po:=(iho ok h4.1 nd.1).pe
  have pa:=(ih ok h4.2 nd.2).pa _ pos rfl
  have st:=args_star as h4.2
  obtain ⟨id,pat,sl,ty,mr⟩:=mt_ok (X:=X) m
  have pe:PE X (.Call (.Attribute v m.nm ap) es [] pos) (wp X.K G.ev (.mt m o as) E).e:=by
   cases es with
   | nil =>
    refine pe_cont (pe_bm0 (apos:=ap) (cpos:=pos) pat sl ty mr po (noSup h1.1) h2) fun σ H Q q=>?_
    have e:(fun (x:V) (H1:Hp)=>tyV X.K m.ty x H1/\mtR X.K m x [] H1 Q)=fun (x:V) (H1:Hp)=>tyV X.K m.ty x H1/\(wp X.K G.ev as E).a σ H1 fun vs H2=>mtR X.K m x vs H2 Q:=by
     funext x H1
     rw [propext (args_nil as h0.1 h4.2)]
    show (wp X.K G.ev o E).e σ H (fun (x:V) (H1:Hp)=>tyV X.K m.ty x H1/\mtR X.K m x [] H1 Q)
    rw [e]
    exact q
   | cons e1 es1 =>
    have s2:=and2 st
    refine pe_bm (apos:=ap) (cpos:=pos) pat sl ty mr po pa (noSup h1.1) ?_ h2 (star_cons _ s2.1) (any_star s2.2)
    rw [all_star st]
    have hl':(e1::es1).length < 20:=of_decide_eq_true h3.1
    show (true && true && decide ((e1::es1).length+0+0 < 30))=true
    rw [decide_eq_true (Nat.lt_of_lt_of_le hl' (by decide:20<=30):(e1::es1).length+0+0 < 30)]
    rfl
  exact Snd.of pe (pt_tru pe fun _=>rfl) (fun _ _ _ z=>by cases z) rfl
 | slc a lo hi iha ihl ihh =>
  intro X S E ok e h nd
  obtain ⟨v,sl,pos,rfl,h⟩:=onSub_i h
  obtain ⟨l,u,st,p2,rfl,h⟩:=onSlice_i h
  have h1:=and2 h
  have h2:=and2 h1.2
  have h3:=and2 h2.2
  have part:∀ (q:PX) (w:Option Expr),(∀ {e:Expr},chk q S e=true->PE X e (wp X.K G.ev q E).e)->onO w (isNop q) (fun e=>!isNop q && chk q S e)=true ->
    PO X w (fun σ H R=>(if isNop q=true then fun (R:Option Int->Hp->Prop)=>R none H else fun R=>(wp X.K G.ev q E).e σ H fun l H2=>partQ l H2 R) R):=by
   intro q w ihq hq
   cases w with
   | none =>
    have e:isNop q=true:=hq
    simp only [e,if_true]
    exact po_none
   | some e' =>
    have q1:=and2 hq
    have e:isNop q=false:=(Bool.not_eq_true' _).mp q1.1
    simp only [e,Bool.false_eq_true,if_false]
    intro pins s σ H Q I w
    refine po_some (ihq q1.2) pins s σ H Q I ?_
    show (wp X.K G.ev q E).e σ H (fun (x:V) (H1:Hp)=>∃ i,x=.int i/\Q (some i) H1)
    have e2:(fun (x:V) (H1:Hp)=>∃ i,x=.int i/\Q (some i) H1)=fun (x:V) (H1:Hp)=>partQ x H1 Q:=by funext x H1; exact (partQ_eq x H1 Q).symm
    rw [e2]
    exact w
  cases Option.isNone_iff_eq_none.mp h1.1
  exact Snd.lit (pe_slice (pos:=pos) (p2:=p2) sl_any (iha ok h2.1 nd.1).pe (part lo l (fun hc=>(ihl ok hc nd.2.1).pe) h3.1) (part hi u (fun hc=>(ihh ok hc nd.2.2).pe) h3.2)) rfl (fun _ _ _ z=>by cases z) rfl
 | comp mask tgs tg ik its cond elt ihi ihc ihe =>
  intro X S E ok e h nd
  obtain ⟨e,gens,scope,pos,rfl,h⟩:=onLC_i h
  obtain ⟨⟨t,it,ifs,asy⟩,rfl,h⟩:=on1_i h
  have h0:=and2 h
  have h1:=and2 h0.2
  have h2:=and2 h1.2
  have h3:=and2 h2.2
  have h4:=and2 h3.2
  have h5:=and2 h4.2
  have ea:asy=0:=eq_of_beq h0.1
  cases ea
  have C:CompSt X.N X.env.scope scope tgs mask:=by rw [ok.N,ok.sc]; exact compB_ok h1.1
  obtain ⟨n1,n2,n3,n4⟩:=nd
  have pi:PI X t it (wiOf fun σ H R=>(wp X.K G.ev its E).a σ H fun vs H1=>itemsR X.K ik vs H1 R):=pi_ofS ok h4.1 n1 fun es p q=>ihi ok q n2
  refine Snd.lit (pe_comp (pos:=pos) (g:=bindT X.K tg) (tc:=if isNop cond=true then fun _ H Q=>Q true H else (wp X.K G.ev cond (fun _ _ _=>False)).t) (te:=(wp X.K G.ev elt (fun _ _ _=>False)).e) ok.calm pi C (fun s H ex=>?_) (fun x=>noFold h3.1 x)) rfl (fun _ _ _ z=>by cases z) rfl
  have okc:=ok.comp scope tgs mask s H ex
  refine ⟨pg_tg okc C.nd h2.1,?_,(ihe okc h5.2 n4).pe⟩
  have hif:=h5.1
  cases ifs with
  | nil =>
   have e:isNop cond=true:=hif
   simp only [e,if_true]
   exact pif_nil
  | cons c r =>
   have q1:=and2 hif
   have q2:=and2 q1.2
   cases List.isEmpty_iff.mp q1.1
   have e:isNop cond=false:=(Bool.not_eq_true' _).mp q2.1
   simp only [e,Bool.false_eq_true,if_false]
   exact pif_one (ihc okc q2.2 n3).pt
end L2.L3
namespace L2.L3
open PySem PySem.Spec PyProof.Rows
set_option genInjectivity false in
inductive PT where
 | nil | seq (s r:PT)
 | set (i:Nat) (e:PX)
 | expr (e:PX) | ret (e:PX)
 | ife (c:PX) (a b:PT)
 | for_ (tg:Tg) (ik:ItK) (its:PX) (body:PT)
 | own (i:Nat) (e:PX) | frz (is:List Nat) (s:PT) | rse
noncomputable def forJ (J:It) (g:TG) (tb:TS) (D:Ends) (σ:St) (H1:Hp):Prop:=∃ W:Nat->Nat->St->Hp->Prop,(∃ m,W 0 m σ H1)/\∀ i m σ H,W i m σ H ->
 (J.stop i H/\D.nx σ H)∨(J.go i H/\∃ N:St->Hp->Prop,(∀ σ' H',N σ' H'->∃ m',m' < m/\W (i+1) m' σ' H')/\∀ x H',J.yld i H x H'->g x σ H' fun σ2 H2=>tb { D with nx:=N,ct:=N,bk:=D.nx } σ2 H2)
noncomputable def ForB (K:PySem.W.Frag) (xs:List Item) (st:Hp->Prop) (tg:Tg) (tb:TS) (D:Ends) (σ:St) (H:Hp):Prop:=∀ J,Yields J xs st->forJ J (bindT K tg) tb D σ H
noncomputable def wps (K:PySem.W.Frag) (Γ:Ev) (E:XK):PT->TS
 | .nil=>fun D σ H=>D.nx σ H
 | .seq s r=>fun D σ H=>wps K Γ E s { D with nx:=fun σ H=>wps K Γ E r D σ H } σ H
 | .set i e=>fun D σ H=>(wp K Γ e E).e σ H fun x H1=>D.nx (σ.set i (some x)) H1
 | .own i e=>fun D σ H=>(wp K Γ e E).e σ H fun x H1=>D.nx (σ.set i (some x)) H1
 | .expr e=>fun D σ H=>(wp K Γ e E).e σ H fun _ H1=>D.nx σ H1
 | .ret e=>fun D σ H=>(wp K Γ e E).e σ H D.rt
 | .ife c a b=>fun D σ H=>(wp K Γ c E).t σ H fun k H1=>if k=true then wps K Γ E a D σ H1 else wps K Γ E b D σ H1
 | .for_ tg ik its body=>fun D σ H=>(wp K Γ its E).a σ H fun vs H1=>itemsR K ik vs H1 fun xs st H2=>ForB K xs st tg (wps K Γ E body) D σ H2
 | .frz _ s=>wps K Γ E s
 | .rse=>tNever
noncomputable def needsS (G:Glob):PT->Prop
 | .nil=>True
 | .rse=>True
 | .seq s r=>needsS G s/\needsS G r
 | .set _ e=>needs G e
 | .own _ e=>needs G e
 | .expr e=>needs G e
 | .ret e=>needs G e
 | .ife c a b=>needs G c/\needsS G a/\needsS G b
 | .for_ _ ik its body=>ikN G ik/\needs G its/\needsS G body
 | .frz _ s=>needsS G s
noncomputable def noComp:Expr->Bool
 | .ListComp _ _ _ _ | .SetComp _ _ _ _ | .DictComp _ _ _ _ _=>false
 | _=>true
noncomputable def storeB (S:SC) (i:Nat) (x:Str):Bool:=S.N[i]? == some x && (S.sc.names.lookup x == some .local || S.sc.names.lookup x == some .cell)
noncomputable def isOne:PT->Bool
 | .nil=>false
 | .seq _ _=>false
 | .frz _ s=>isOne s
 | _=>true
noncomputable def onAsg (s:Stmt) (f:List Expr->Expr->Bool):Bool:=match s with | .Assign ts v _=>f ts v | _=>false
noncomputable def onEx (s:Stmt) (f:Expr->Bool):Bool:=match s with | .Expr v _=>f v | _=>false
noncomputable def onRet (s:Stmt) (f:Option Expr->Bool):Bool:=match s with | .Return v _=>f v | _=>false
noncomputable def onIfS (s:Stmt) (f:Expr->List Stmt->List Stmt->Bool):Bool:=match s with | .If t x y _=>f t x y | _=>false
noncomputable def onFor (s:Stmt) (f:Expr->Expr->List Stmt->List Stmt->Pos->Bool):Bool:=match s with | .For t it x y p=>f t it x y p | _=>false
noncomputable def isRse (s:Stmt):Bool:=match s with | .Raise _ _ _=>true | _=>false
theorem onAsg_i {s:Stmt} {f:List Expr->Expr->Bool} (h:onAsg s f=true):∃ ts v p,s=.Assign ts v p/\f ts v=true:=by
 cases s with
 | Assign ts v p=>exact ⟨ts,v,p,rfl,h⟩
 | _=>exact (Bool.false_ne_true h).elim
theorem onEx_i {s:Stmt} {f:Expr->Bool} (h:onEx s f=true):∃ v p,s=.Expr v p/\f v=true:=by
 cases s with
 | Expr v p=>exact ⟨v,p,rfl,h⟩
 | _=>exact (Bool.false_ne_true h).elim
theorem onRet_i {s:Stmt} {f:Option Expr->Bool} (h:onRet s f=true):∃ v p,s=.Return v p/\f v=true:=by
 cases s with
 | Return v p=>exact ⟨v,p,rfl,h⟩
 | _=>exact (Bool.false_ne_true h).elim
theorem onIfS_i {s:Stmt} {f:Expr->List Stmt->List Stmt->Bool} (h:onIfS s f=true):∃ t x y p,s=.If t x y p/\f t x y=true:=by
 cases s with
 | If t x y p=>exact ⟨t,x,y,p,rfl,h⟩
 | _=>exact (Bool.false_ne_true h).elim
theorem onFor_i {s:Stmt} {f:Expr->Expr->List Stmt->List Stmt->Pos->Bool} (h:onFor s f=true):∃ t it x y p,s=.For t it x y p/\f t it x y p=true:=by
 cases s with
 | For t it x y p=>exact ⟨t,it,x,y,p,rfl,h⟩
 | _=>exact (Bool.false_ne_true h).elim
theorem isRse_i {s:Stmt} (h:isRse s=true):∃ a b p,s=.Raise a b p:=by
 cases s with
 | Raise a b p=>exact ⟨a,b,p,rfl⟩
 | _=>exact (Bool.false_ne_true h).elim
noncomputable def setB (S:SC) (i:Nat) (c:Expr->Bool) (l:List Stmt):Bool:=on1 l fun st=>onAsg st fun ts v=>on1 ts fun t=>onName t fun x _=>storeB S i x && ((noComp v || S.sc.names.lookup x == some .cell) && c v)
noncomputable def chkS:PT->SC->List Stmt->Bool
 | .nil,_,l=>l.isEmpty
 | .seq s r,S,l=>onC l fun st l=>isOne s && (chkS s S [st] && chkS r S l)
 | .set i e,S,l=>setB S i (chk e S) l
 | .own i e,S,l=>setB S i (chk e S) l
 | .expr e,S,l=>on1 l fun st=>onEx st fun v=>noComp v && chk e S v
 | .ret e,S,l=>on1 l fun st=>onRet st fun v=>onO v false (chk e S)
 | .ife c a b,S,l=>on1 l fun st=>onIfS st fun t x y=>chk c S t && (chkS a S x && chkS b S y)
 | .for_ tg ik its body,S,l=>on1 l fun st=>onFor st fun t it x y pos=>y.isEmpty && (tgB S tg t && (noSet it && (itC (isArgs its) S ik (fun es p=>chk its S (.List es p)) t it pos && chkS body S x)))
 | .frz _ s,S,l=>chkS s S l
 | .rse,_,l=>on1 l isRse
structure OkS (X:Cx) (S:SC) (G:Glob) (E:XK):Prop extends OkX X S G E where
 po:PassesOwn (model X.prog X.w) X.A X.env X.xe
 nd:X.N.Nodup
 cel:∀ x,X.fn x=true
section
variable {X:Cx} {S:SC} {G:Glob} {E:XK}
theorem noSwap {e:Expr} {t:Option Expr} {n:Nat} {env:Env} (h:noComp e=true):swapsWith e t n env=pure false:=by
 cases e<;>first | rfl | cases h
theorem storeB_ok {i:Nat} {x:Str} (ok:OkX X S G E) (h:storeB S i x=true):X.N[i]?=some x/\Loc X.env.scope x:=by
 simp only [storeB,Bool.and_eq_true,Bool.or_eq_true,beq_iff_eq] at h
 rw [ok.N,ok.sc]
 exact ⟨h.1,h.2⟩
theorem ps_setAny (ok:OkS X S G E) {i:Nat} {x:Str} {e:PX} {v:Expr} {px pos:Pos} (h1:storeB S i x=true) (h2:(noComp v || S.sc.names.lookup x == some .cell)=true) (pe:PE X v (wp X.K G.ev e E).e) :
  PS X (.Assign [.Name x px] v pos) (wps X.K G.ev E (.set i e)):=by
 obtain ⟨g1,g2⟩:=storeB_ok ok.toOkX h1
 refine ps_set (pos':=px) ok.nd g1 g2 pe ?_ (.inl (ok.cel x))
 cases hn:noComp v with
 | true=>exact noSwap hn
 | false =>
  rw [hn,Bool.false_or,beq_iff_eq,<- ok.sc] at h2
  have hk:X.env.kindOf x=some .cell:=h2
  have key:∀ (b c:Bool) (p1 p2:Nat),(pure (b && X.env.kindOf x == some .local && p1 == p2 && !c):Sem Bool)=pure false:=fun b c p1 p2=>by
   rw [hk]
   have:(b && (some NameKind.cell == some NameKind.local) && p1 == p2 && !c)=false:=by
    cases b<;>rfl
   rw [this]
  cases v with
  | ListComp el gs sc cp=>exact key _ _ _ _
  | SetComp el gs sc cp=>exact key _ _ _ _
  | DictComp k v gs sc cp=>exact key _ _ _ _
  | _=>cases hn
theorem snds:∀ (p:PT) {l:List Stmt},OkS X S G E->chkS p S l=true->needsS G p->PSs X l (wps X.K G.ev E p)/\(isOne p=true->∀ st,l=[st]->PS X st (wps X.K G.ev E p)):=by
 intro p
 have one:∀ {p:PT} {st:Stmt},PS X st (wps X.K G.ev E p)->PSs X [st] (wps X.K G.ev E p)/\(isOne p=true->∀ st',[st]=[st']->PS X st' (wps X.K G.ev E p)):=fun h=>⟨pss_one h,fun _ st' e=>by cases e; exact h⟩
 have stor:∀ {i:Nat} {e:PX} {l:List Stmt},OkS X S G E->setB S i (chk e S) l=true->needs G e->∃ st,l=[st]/\PS X st (wps X.K G.ev E (.set i e)):=fun {i e l} ok h nd=>by
  obtain ⟨st,e1,q1⟩:=on1_i h
  obtain ⟨ts,v,p,e2,q2⟩:=onAsg_i q1
  obtain ⟨t,e3,q3⟩:=on1_i q2
  obtain ⟨x,px,e4,q4⟩:=onName_i q3
  subst e1 e2 e3 e4
  have h1:=and2 q4
  have h2:=and2 h1.2
  exact ⟨_,rfl,ps_setAny ok h1.1 h2.1 (snd e ok.toOkX h2.2 nd).pe⟩
 induction p with
 | nil =>
  intro l ok h nd
  cases List.isEmpty_iff.mp h
  exact ⟨pss_nil,fun h=>(Bool.false_ne_true h).elim⟩
 | seq s r ihs ihr =>
  intro l ok h nd
  obtain ⟨st,l,rfl,h⟩:=onC_i h
  have h1:=and2 h
  have h2:=and2 h1.2
  exact ⟨pss_cons ((ihs ok h2.1 nd.1).2 h1.1 st rfl) (ihr ok h2.2 nd.2).1,fun h=>(Bool.false_ne_true h).elim⟩
 | set i e =>
  intro l ok h nd
  obtain ⟨st,rfl,q⟩:=stor ok h nd
  exact one q
 | own i e =>
  intro l ok h nd
  obtain ⟨st,rfl,q⟩:=stor ok h nd
  exact one q
 | expr e =>
  intro l ok h nd
  obtain ⟨st,rfl,h⟩:=on1_i h
  obtain ⟨v,p,rfl,h⟩:=onEx_i h
  have h1:=and2 h
  exact one (ps_expr (snd e ok.toOkX h1.2 nd).pe (noSwap h1.1))
 | ret e =>
  intro l ok h nd
  obtain ⟨st,rfl,h⟩:=on1_i h
  obtain ⟨v,p,rfl,h⟩:=onRet_i h
  cases v with
  | none=>exact (Bool.false_ne_true h).elim
  | some v=>exact one (ps_ret (snd e ok.toOkX h nd).pe)
 | ife c a b iha ihb =>
  intro l ok h nd
  obtain ⟨st,rfl,h⟩:=on1_i h
  obtain ⟨t,x,y,p,rfl,h⟩:=onIfS_i h
  have h1:=and2 h
  have h2:=and2 h1.2
  exact one (ps_if (snd c ok.toOkX h1.1 nd.1).pt (iha ok h2.1 nd.2.1).1 (ihb ok h2.2 nd.2.2).1)
 | for_ tg ik its body ih =>
  intro l ok h nd
  obtain ⟨st,rfl,h⟩:=on1_i h
  obtain ⟨t,it,x,y,p,rfl,h⟩:=onFor_i h
  have h0:=and2 h
  have h1:=and2 h0.2
  have h2:=and2 h1.2
  have h3:=and2 h2.2
  cases List.isEmpty_iff.mp h0.1
  exact one (ps_for ok.po ok.calm (pi_ofS ok.toOkX h3.1 nd.1 fun es p q=>snd its ok.toOkX q nd.2.1) (pg_tg ok.toOkX ok.nd h1.1) (ih ok h3.2 nd.2.2).1 fun x=>noFold h2.1 x)
 | frz is s ih=>exact fun ok h nd=>ih ok h nd
 | rse =>
  intro l ok h nd
  obtain ⟨st,rfl,h⟩:=on1_i h
  obtain ⟨a,b,p,rfl⟩:=isRse_i h
  exact one ps_never
end
end L2.L3
namespace L2.L3
open PySem PySem.Spec PyProof.Rows
noncomputable abbrev D:=PyData
inductive T where
 | d (x:D) | lst (ts:List T) | tup (ts:List T) | dct (ks:List D) (ts:List T)
mutual
noncomputable def T.er:T->D
 | .d x=>x
 | .lst ts=>.list (ersT ts)
 | .tup ts=>.tuple (ersT ts)
 | .dct ks ts=>.dict (ks.zip (ersT ts))
noncomputable def ersT:List T->List D
 | []=>[]
 | t::r=>t.er::ersT r
end
theorem ersT_map (ds:List D):ersT (ds.map T.d)=ds:=by
 induction ds with
 | nil=>rfl
 | cons d r ih=>simp only [List.map_cons,ersT,ih,T.er]
noncomputable def T.isD:T->Bool
 | .d _=>true
 | _=>false
inductive Sl where
 | own (t:T) | bor (t:T)
noncomputable abbrev PSt:=List (Option Sl)
noncomputable def esc (t:T) (n:Bool):Bool:=n || t.isD
noncomputable def frzN (t:T):Bool->T
 | true=>.d t.er
 | false=>t
theorem frzN_d (x:D) (n:Bool):frzN (.d x) n=.d x:=by cases n<;>rfl
theorem frzN_er (t:T) (n:Bool):(frzN t n).er=t.er:=by cases n<;>rfl
noncomputable def unD:List T->Option (List D)
 | []=>some []
 | .d x::r=>(unD r).map (x::·)
 | _::_=>none
theorem unD_map (ds:List D):unD (ds.map T.d)=some ds:=by
 induction ds with
 | nil=>rfl
 | cons d r ih=>simp only [List.map_cons,unD,ih,Option.map_some]
theorem unD_some:∀ {ts:List T} {ds:List D},unD ts=some ds->ts=ds.map T.d
 | [],ds,h=>by simp only [unD,Option.some.injEq] at h; subst h; rfl
 | .d x::r,ds,h=>by
  simp only [unD] at h
  cases e:unD r with
  | none=>rw [e] at h; cases h
  | some es =>
   rw [e] at h
   cases h
   rw [List.map_cons,unD_some e]
 | .lst _::_,_,h=>by simp [unD] at h
 | .tup _::_,_,h=>by simp [unD] at h
 | .dct _ _::_,_,h=>by simp [unD] at h
inductive Vw where
 | sc (x:D) | ls (ts:List T) | tp (ts:List T) | dc (ks:List D) (ts:List T)
noncomputable def T.vw:T->Vw
 | .lst ts=>.ls ts
 | .tup ts=>.tp ts
 | .dct ks ts=>.dc ks ts
 | .d x=>match x with
  | .list ds=>.ls (ds.map T.d)
  | .tuple ds=>.tp (ds.map T.d)
  | .dict kvs=>.dc (kvs.map (·.1)) (kvs.map fun p=>T.d p.2)
  | .none=>.sc .none
  | .bool b=>.sc (.bool b)
  | .int i=>.sc (.int i)
  | .str s=>.sc (.str s)
noncomputable def mkTup (ts:List T):T:=match unD ts with
 | some ds=>.d (.tuple ds)
 | none=>.tup ts
noncomputable abbrev XD:=Value × List (Str × D)
noncomputable abbrev XE:=XD->Prop
noncomputable abbrev TK:=T->Bool->PSt->Prop
inductive Md where
 | fro | shal | bor | chg
 deriving DecidableEq
structure PSp where
 md:List Md
 run:List T->(T->List T->Prop)->XE->Prop
 mono:∀ {ts:List T} {Q Q':T->List T->Prop} {E E':XE},(∀ t os,Q t os->Q' t os)->(∀ x,E x->E' x)->run ts Q E->run ts Q' E'
structure PEv where
 sp:Str->PSp
 va:Str->Option D
 dc:Str->Option (List (Str × D))
noncomputable def binT (op:Operator) (x y:Vw) (Q:T->Bool->Prop):Prop:=match op with
 | .Add=>(∃ i j,x=.sc (.int i)/\y=.sc (.int j)/\Q (.d (.int (i+j))) false)∨(∃ a b,x=.sc (.str a)/\y=.sc (.str b)/\a.length+b.length<=sizeLine/\Q (.d (.str (a++b))) false) ∨
  (∃ xs ys ds es,x=.ls xs/\y=.ls ys/\unD xs=some ds/\unD ys=some es/\ds.length+es.length<=sizeLine/\Q (.lst ((ds++es).map T.d)) true) ∨
  (∃ xs ys ds es,x=.tp xs/\y=.tp ys/\unD xs=some ds/\unD ys=some es/\ds≠[]/\es≠[]/\ds.length+es.length<=sizeLine/\Q (.d (.tuple (ds++es))) false)
 | .Sub=>∃ i j,x=.sc (.int i)/\y=.sc (.int j)/\Q (.d (.int (i - j))) false
 | .Mult=>(∃ i j,x=.sc (.int i)/\y=.sc (.int j)/\IntMulOk i j/\Q (.d (.int (i * j))) false)∨(∃ a k,x=.sc (.str a)/\y=.sc (.int k)/\(-(2 ^ 31)<=k/\k < 2 ^ 31/\a.length * k.toNat<=sizeLine)/\Q (.d (.str (repS a k))) false) ∨
  (∃ ts ds k,x=.ls ts/\y=.sc (.int k)/\unD ts=some ds/\(-(2 ^ 31)<=k/\k < 2 ^ 31/\ds.length * k.toNat<=sizeLine)/\Q (.lst ((List.replicate k.toNat ds).flatten.map T.d)) true)
 | .FloorDiv=>∃ i j,x=.sc (.int i)/\y=.sc (.int j)/\(0 < j/\j < 2 ^ 200)/\Q (.d (.int (i / j))) false
 | .Mod=>∃ i j,x=.sc (.int i)/\y=.sc (.int j)/\0 < j/\Q (.d (.int (i % j))) false
 | .Pow=>∃ i j,x=.sc (.int i)/\y=.sc (.int j)/\CPow i j/\Q (.d (.int (i ^ j.toNat))) false
 | _=>False
section
variable {Q:T->Bool->Prop}
theorem binT_1 (i j:Int):binT .Add (.sc (.int i)) (.sc (.int j)) Q=Q (.d (.int (i+j))) false:=by simp [binT]
theorem binT_2 (a b:Str):binT .Add (.sc (.str a)) (.sc (.str b)) Q=(a.length+b.length<=sizeLine/\Q (.d (.str (a++b))) false):=by simp [binT]
theorem binT_3 (xs ys:List T):binT .Add (.ls xs) (.ls ys) Q=∃ ds es,unD xs=some ds/\unD ys=some es/\ds.length+es.length<=sizeLine/\Q (.lst ((ds++es).map T.d)) true:=by simp [binT]
theorem binT_4 (xs ys:List T):binT .Add (.tp xs) (.tp ys) Q=∃ ds es,unD xs=some ds/\unD ys=some es/\ds≠[]/\es≠[]/\ds.length+es.length<=sizeLine/\Q (.d (.tuple (ds++es))) false:=by simp [binT]
theorem binT_5 (i j:Int):binT .Sub (.sc (.int i)) (.sc (.int j)) Q=Q (.d (.int (i - j))) false:=by simp [binT]
theorem binT_6 (i j:Int):binT .Mult (.sc (.int i)) (.sc (.int j)) Q=(IntMulOk i j/\Q (.d (.int (i * j))) false):=by simp [binT]
theorem binT_7 (a:Str) (k:Int):binT .Mult (.sc (.str a)) (.sc (.int k)) Q=((-(2 ^ 31)<=k/\k < 2 ^ 31/\a.length * k.toNat<=sizeLine)/\Q (.d (.str (repS a k))) false):=by simp [binT]
theorem binT_11 (ts:List T) (k:Int):binT .Mult (.ls ts) (.sc (.int k)) Q=∃ ds,unD ts=some ds/\(-(2 ^ 31)<=k/\k < 2 ^ 31/\ds.length * k.toNat<=sizeLine)/\Q (.lst ((List.replicate k.toNat ds).flatten.map T.d)) true:=by simp [binT]
theorem binT_8 (i j:Int):binT .FloorDiv (.sc (.int i)) (.sc (.int j)) Q=((0 < j/\j < 2 ^ 200)/\Q (.d (.int (i / j))) false):=by simp [binT]
theorem binT_9 (i j:Int):binT .Mod (.sc (.int i)) (.sc (.int j)) Q=(0 < j/\Q (.d (.int (i % j))) false):=by simp [binT]
theorem binT_10 (i j:Int):binT .Pow (.sc (.int i)) (.sc (.int j)) Q=(CPow i j/\Q (.d (.int (i ^ j.toNat))) false):=by simp [binT]
end
noncomputable def eqD:D->D->(Bool->Prop)->Prop
 | .int i,.int j,Q=>Q (decide (i=j))
 | .str x,.str y,Q=>Q (decide (x=y))
 | .bool x,.bool y,Q=>Q (decide (x=y))
 | a,b,Q=>okD a/\okD b/\Q (PyData.eqv a b)
noncomputable def flatD:D->Bool
 | .none | .bool _ | .int _ | .str _=>true
 | _=>false
noncomputable def inD:D->D->(Bool->Prop)->Prop
 | .str x,.str y,Q=>Q (inStr y x)
 | a,.list ds,Q | a,.tuple ds,Q=>((flatD a=true/\ds.all flatD=true)∨(okD a/\okD (.list ds)))/\Q (ds.any fun y=>PyData.eqv y a)
 | _,_,_=>False
noncomputable def ordD (f:Int->Int->Bool):D->D->(Bool->Prop)->Prop
 | .int i,.int j,Q=>Q (f i j)
 | _,_,_=>False
noncomputable def isNonD:D->Bool
 | .none=>true
 | _=>false
noncomputable def isND:D->D->(Bool->Prop)->Prop
 | a,.none,Q=>Q (isNonD a)
 | _,_,_=>False
noncomputable def cmpD:CmpOp->D->D->(Bool->Prop)->Prop
 | .Eq,a,b,Q=>eqD a b Q
 | .NotEq,a,b,Q=>eqD a b fun k=>Q (!k)
 | .Lt,a,b,Q=>ordD (fun i j=>decide (i < j)) a b Q
 | .LtE,a,b,Q=>ordD (fun i j=>decide (i<=j)) a b Q
 | .Gt,a,b,Q=>ordD (fun i j=>decide (j < i)) a b Q
 | .GtE,a,b,Q=>ordD (fun i j=>decide (j<=i)) a b Q
 | .In,a,b,Q=>inD a b Q
 | .NotIn,a,b,Q=>inD a b fun k=>Q (!k)
 | .Is,a,b,Q=>isND a b Q
 | .IsNot,a,b,Q=>isND a b fun k=>Q (!k)
noncomputable def truD:D->(Bool->Prop)->Prop
 | .bool b,Q=>Q b
 | .int i,Q=>Q (i != 0)
 | .none,Q=>Q false
 | .str z,Q=>z.length<=sizeLine/\Q ((z.length:Int) != 0)
 | .list ds,Q=>Q (!ds.isEmpty)
 | .tuple ds,Q=>Q (!ds.isEmpty)
 | _,_=>False
noncomputable def asD:D->(Bool->Prop)->Prop
 | .bool b,Q=>Q b
 | _,_=>False
noncomputable def idxT (x y:Vw) (Q:T->Prop):Prop:=(∃ z i c,x=.sc (.str z)/\y=.sc (.int i)/\z.length<=sizeLine/\atI z.cps.toList i=some c/\Q (.d (.str ⟨#[c]⟩))) ∨
 (∃ ts i t,x=.ls ts/\y=.sc (.int i)/\atI ts i=some t/\Q t)∨(∃ ts i t,x=.tp ts/\y=.sc (.int i)/\atI ts i=some t/\Q t)
theorem idxT_1 {Q:T->Prop} (z:Str) (i:Int):idxT (.sc (.str z)) (.sc (.int i)) Q=(z.length<=sizeLine/\∃ c,atI z.cps.toList i=some c/\Q (.d (.str ⟨#[c]⟩))):=by simp [idxT]
theorem idxT_2 {Q:T->Prop} (ts:List T) (i:Int):idxT (.ls ts) (.sc (.int i)) Q=∃ t,atI ts i=some t/\Q t:=by simp [idxT]
theorem idxT_3 {Q:T->Prop} (ts:List T) (i:Int):idxT (.tp ts) (.sc (.int i)) Q=∃ t,atI ts i=some t/\Q t:=by simp [idxT]
noncomputable def cutD {α:Type} (xs:List α) (lo hi:Option Int):List α:=(xs.drop (HT.sIx xs.length 0 lo)).take (HT.sIx xs.length xs.length hi - HT.sIx xs.length 0 lo)
noncomputable def slcT (x:Vw) (lo hi:Option Int) (Q:T->Bool->Prop):Prop:=(∃ z,x=.sc (.str z)/\z.length<=sizeLine/\Q (.d (.str (Txt.slice z lo hi))) false)∨(∃ ts ds,x=.ls ts/\unD ts=some ds/\Q (.lst ((cutD ds lo hi).map T.d)) true) ∨
 (∃ ts ds,x=.tp ts/\unD ts=some ds/\¬ (HT.sIx ds.length 0 lo=0/\HT.sIx ds.length ds.length hi=ds.length)/\Q (.d (.tuple (cutD ds lo hi))) false)
section
variable {Q:T->Bool->Prop} {lo hi:Option Int}
theorem slcT_1 (z:Str):slcT (.sc (.str z)) lo hi Q=(z.length<=sizeLine/\Q (.d (.str (Txt.slice z lo hi))) false):=by simp [slcT]
theorem slcT_2 (ts:List T):slcT (.ls ts) lo hi Q=∃ ds,unD ts=some ds/\Q (.lst ((cutD ds lo hi).map T.d)) true:=by simp [slcT]
theorem slcT_3 (ts:List T):slcT (.tp ts) lo hi Q=∃ ds,unD ts=some ds/\¬ (HT.sIx ds.length 0 lo=0/\HT.sIx ds.length ds.length hi=ds.length)/\Q (.d (.tuple (cutD ds lo hi))) false:=by simp [slcT]
end
noncomputable def partD:D->(Option Int->Prop)->Prop
 | .int i,Q=>Q (some i)
 | _,_=>False
noncomputable def isD (n:String):D->Option Bool
 | .none=>some false
 | .bool _=>some (n == "bool" || n == "int")
 | .int _=>some (n == "int")
 | .str _=>some (n == "str")
 | .list _=>some (n == "list")
 | .tuple _=>some (n == "tuple")
 | .dict _=>none
noncomputable def isTyN (n:String):Bool:=n == "bool" || n == "int" || n == "str" || n == "list" || n == "tuple" || n == "ValueError"
noncomputable def biT (f:Bi) (vs:List Vw) (Q:T->Bool->Prop):Prop:=match f with
 | .len=>(∃ z,vs=[.sc (.str z)]/\z.length<=sizeLine/\Q (.d (.int z.length)) false)∨(∃ ts,vs=[.ls ts]/\Q (.d (.int ts.length)) false)∨(∃ ts,vs=[.tp ts]/\Q (.d (.int ts.length)) false)
 | .all=>∃ ts,∃ bs:List Bool,vs=[.ls ts]/\unD ts=some (bs.map PyData.bool)/\Q (.d (.bool (bs.all id))) false
 | .int=>(∃ i,vs=[.sc (.int i)]/\Q (.d (.int i)) false)∨(∃ b,vs=[.sc (.bool b)]/\Q (.d (.int (if b then 1 else 0))) false)∨(∃ z n,vs=[.sc (.str z)]/\z.length<=640/\intText? z=some n/\Q (.d (.int n)) false)
 | .str=>(∃ i,vs=[.sc (.int i)]/\i.natAbs.log2 < 1920/\Q (.d (.str (toString i))) false)∨(∃ z,vs=[.sc (.str z)]/\Q (.d (.str z)) false)
 | .min=>∃ i j,vs=[.sc (.int i),.sc (.int j)]/\Q (.d (.int (if j < i then j else i))) false
 | .tuple=>∃ ts ds,vs=[.ls ts]/\unD ts=some ds/\Q (.d (.tuple ds)) false
section
variable {Q:T->Bool->Prop}
theorem biT_1 (z:Str):biT .len [.sc (.str z)] Q=(z.length<=sizeLine/\Q (.d (.int z.length)) false):=by simp [biT]
theorem biT_2 (ts:List T):biT .len [.ls ts] Q=Q (.d (.int ts.length)) false:=by simp [biT]
theorem biT_3 (ts:List T):biT .len [.tp ts] Q=Q (.d (.int ts.length)) false:=by simp [biT]
theorem biT_4 (ts:List T):biT .all [.ls ts] Q=∃ bs:List Bool,unD ts=some (bs.map PyData.bool)/\Q (.d (.bool (bs.all id))) false:=by simp [biT]
theorem biT_5 (i:Int):biT .int [.sc (.int i)] Q=Q (.d (.int i)) false:=by simp [biT]
theorem biT_6 (b:Bool):biT .int [.sc (.bool b)] Q=Q (.d (.int (if b then 1 else 0))) false:=by simp [biT]
theorem biT_7 (z:Str):biT .int [.sc (.str z)] Q=(z.length<=640/\∃ n,intText? z=some n/\Q (.d (.int n)) false):=by simp [biT]
theorem biT_8 (i:Int):biT .str [.sc (.int i)] Q=(i.natAbs.log2 < 1920/\Q (.d (.str (toString i))) false):=by simp [biT]
theorem biT_9 (z:Str):biT .str [.sc (.str z)] Q=Q (.d (.str z)) false:=by simp [biT]
theorem biT_11 (i j:Int):biT .min [.sc (.int i),.sc (.int j)] Q=Q (.d (.int (if j < i then j else i))) false:=propext ⟨fun ⟨_,_,e,h⟩=>by cases e; exact h,fun h=>⟨_,_,rfl,h⟩⟩
theorem biT_12 (ts:List T):biT .tuple [.ls ts] Q=∃ ds,unD ts=some ds/\Q (.d (.tuple ds)) false:=by simp [biT]
end
noncomputable def mtT (m:Mt) (x:Vw) (vs:List Vw) (Q:T->Bool->Prop):Prop:=match m with
 | .split=>∃ z y,x=.sc (.str z)/\vs=[.sc (.str y)]/\z.length<=sizeLine/\0 < y.length/\(Txt.split z y).length<=sizeLine/\Q (.lst (((Txt.split z y).map PyData.str).map T.d)) true
 | .join=>∃ z ts,∃ ys:List Str,x=.sc (.str z)/\vs=[.ls ts]/\unD ts=some (ys.map PyData.str)/\(ys.map (·.length)).sum+ys.length * z.length<=16777216/\Q (.d (.str (Txt.join z ys))) false
 | .append=>False
theorem mtT_1 {Q:T->Bool->Prop} (z y:Str):mtT .split (.sc (.str z)) [.sc (.str y)] Q=(z.length<=sizeLine/\0 < y.length/\(Txt.split z y).length<=sizeLine/\Q (.lst (((Txt.split z y).map PyData.str).map T.d)) true):=by simp [mtT]
theorem mtT_2 {Q:T->Bool->Prop} (z:Str) (ts:List T):mtT .join (.sc (.str z)) [.ls ts] Q=∃ ys:List Str,unD ts=some (ys.map PyData.str)/\(ys.map (·.length)).sum+ys.length * z.length<=16777216/\Q (.d (.str (Txt.join z ys))) false :=
 propext ⟨fun ⟨_,_,ys,e1,e2,h⟩=>by cases e1; cases e2; exact ⟨ys,h⟩,fun ⟨ys,h⟩=>⟨_,_,ys,rfl,rfl,h⟩⟩
noncomputable def Vw.isS:Vw->Bool
 | .sc (.str _)=>true
 | _=>false
noncomputable def isMut:Mt->Bool
 | .append=>true
 | .split=>false
 | .join=>false
noncomputable def mtTy (m:Mt) (x:Vw):Bool:=x.isS && !isMut m
theorem mtTy_1 (m:Mt) (z:Str):mtTy m (.sc (.str z))=!isMut m:=rfl
noncomputable def mutT (m:Mt) (s:T) (us:List T) (N:T->T->Prop):Prop:=m=.append/\∃ ts t,s=.lst ts/\us=[t]/\ts.length < sizeLine/\N (.d .none) (.lst (ts++[t]))
theorem mutT_1 {N:T->T->Prop} (ts:List T) (t:T):mutT .append (.lst ts) [t] N=(ts.length < sizeLine/\N (.d .none) (.lst (ts++[t]))):=by simp [mutT]
noncomputable def mutTy (m:Mt):T->Bool
 | .lst _=>isMut m
 | _=>false
noncomputable def Vw.seq:Vw->Option (List T)
 | .ls ts=>some ts
 | .tp ts=>some ts
 | _=>none
noncomputable def itemsT (ik:ItK) (vs:List Vw) (R:List T->Prop):Prop:=match ik with
 | .val=>(∃ z,vs=[.sc (.str z)]/\R (z.cps.toList.map fun c=>.d (.str ⟨#[c]⟩)))∨(∃ ts,vs=[.ls ts]/\R ts)∨(∃ ts,vs=[.tp ts]/\R ts)
 | .rng1=>∃ j,vs=[.sc (.int j)]/\(-(2 ^ 62)<=j/\j < 2 ^ 62)/\R ((List.range j.toNat).map fun (i:Nat)=>.d (.int (i:Int)))
 | .zip2=>∃ x y ts us ds es,vs=[x,y]/\x.seq=some ts/\y.seq=some us/\unD ts=some ds/\unD us=some es/\R ((ds.zip es).map fun p=>.d (.tuple [p.1,p.2]))
 | .enum=>∃ x ts ds,vs=[x]/\x.seq=some ts/\unD ts=some ds/\R (ds.zipIdx.map fun p=>.d (.tuple [.int (p.2:Int),p.1]))
 | .enumA=>∃ x n ts ds,vs=[x,.sc (.int n)]/\x.seq=some ts/\unD ts=some ds/\(0<=n/\n < 2 ^ 62)/\R (ds.zipIdx.map fun p=>.d (.tuple [.int ((n.toNat+p.2:Nat):Int),p.1]))
section
variable {R:List T->Prop}
theorem itemsT_1 (z:Str):itemsT .val [.sc (.str z)] R=R (z.cps.toList.map fun c=>.d (.str ⟨#[c]⟩)):=by simp [itemsT]
theorem itemsT_2 (ts:List T):itemsT .val [.ls ts] R=R ts:=by simp [itemsT]
theorem itemsT_3 (ts:List T):itemsT .val [.tp ts] R=R ts:=by simp [itemsT]
theorem itemsT_4 (j:Int):itemsT .rng1 [.sc (.int j)] R=((-(2 ^ 62)<=j/\j < 2 ^ 62)/\R ((List.range j.toNat).map fun (i:Nat)=>.d (.int (i:Int)))):=by simp [itemsT]
theorem itemsT_6 (x y:Vw):itemsT .zip2 [x,y] R=∃ ts us ds es,x.seq=some ts/\y.seq=some us/\unD ts=some ds/\unD us=some es/\R ((ds.zip es).map fun p=>.d (.tuple [p.1,p.2])):=by
 apply propext
 constructor
 ·rintro ⟨_,_,ts,us,ds,es,⟨⟩,h⟩
  exact ⟨ts,us,ds,es,h⟩
 ·rintro ⟨ts,us,ds,es,h⟩
  exact ⟨_,_,ts,us,ds,es,rfl,h⟩
theorem itemsT_7 (x:Vw):itemsT .enum [x] R=∃ ts ds,x.seq=some ts/\unD ts=some ds/\R (ds.zipIdx.map fun p=>.d (.tuple [.int (p.2:Int),p.1])):=by
 apply propext
 constructor
 ·rintro ⟨_,ts,ds,⟨⟩,h⟩
  exact ⟨ts,ds,h⟩
 ·rintro ⟨ts,ds,h⟩
  exact ⟨_,ts,ds,rfl,h⟩
theorem itemsT_8 (x:Vw) (n:Int):itemsT .enumA [x,.sc (.int n)] R=∃ ts ds,x.seq=some ts/\unD ts=some ds/\(0<=n/\n < 2 ^ 62)/\R (ds.zipIdx.map fun p=>.d (.tuple [.int ((n.toNat+p.2:Nat):Int),p.1])):=by
 apply propext
 constructor
 ·rintro ⟨_,_,ts,ds,⟨⟩,h⟩
  exact ⟨ts,ds,h⟩
 ·rintro ⟨ts,ds,h⟩
  exact ⟨_,_,ts,ds,rfl,h⟩
end
noncomputable def setAllT:List Nat->List T->PSt->Option PSt
 | [],[],ρ=>some ρ
 | i::is,t::ts,ρ=>setAllT is ts (ρ.set i (some (.bor t)))
 | _,_,_=>none
noncomputable def bindV:Tg->T->PSt->(PSt->Prop)->Prop
 | .nm i,t,ρ,Q=>Q (ρ.set i (some (.bor t)))
 | .tp is,t,ρ,Q=>match t.vw with
  | .tp ts=>∃ ρ',setAllT is ts ρ=some ρ'/\Q ρ'
  | _=>False
noncomputable def Tg.ix:Tg->List Nat
 | .nm i=>[i]
 | .tp is=>is
noncomputable def rootOf:PX->Option Nat
 | .var i=>some i
 | .idx a _=>rootOf a
 | _=>none
noncomputable def stepP:T->D->Option T
 | .lst ts,.int i=>atI ts i
 | .tup ts,.int i=>atI ts i
 | _,_=>none
noncomputable def updP:T->D->T->T
 | .lst ts,.int i,x=>match ixN ts.length i with
  | some p=>.lst (ts.set p x)
  | none=>.lst ts
 | .tup ts,.int i,x=>match ixN ts.length i with
  | some p=>.tup (ts.set p x)
  | none=>.tup ts
 | t,_,_=>t
noncomputable def setP:T->List D->T->T
 | _,[],x=>x
 | t,k::ks,x=>match stepP t k with
  | some s=>updP t k (setP s ks x)
  | none=>t
noncomputable def lockS:Option Sl->Option Sl
 | some (.own t)=>some (.bor t)
 | s=>s
noncomputable def lockA (ρ:PSt):PSt:=ρ.map lockS
noncomputable def lock:List Nat->PSt->PSt
 | [],ρ=>ρ
 | i::is,ρ=>lock is (ρ.modify i lockS)
noncomputable def frzS:Option Sl->Option Sl
 | some (.own t)=>some (.bor (.d t.er))
 | s=>s
noncomputable def frzAt:List Nat->PSt->PSt
 | [],ρ=>ρ
 | i::is,ρ=>frzAt is (ρ.modify i frzS)
noncomputable def killS:Option Sl->Option Sl
 | some (.bor t)=>if t.isD=true then some (.bor t) else none
 | s=>s
noncomputable def kill:List Nat->PSt->PSt
 | [],ρ=>ρ
 | i::is,ρ=>kill is (ρ.modify i killS)
noncomputable def clear:List Nat->PSt->PSt
 | [],ρ=>ρ
 | i::is,ρ=>clear is (ρ.set i none)
noncomputable def ownsAt:List Nat->PSt->Option (List T)
 | [],_=>some []
 | i::is,ρ=>match ρ[i]? with
  | some (some (.own t))=>(ownsAt is ρ).map (t::·)
  | _=>none
noncomputable def putOwns:List Nat->List T->PSt->Option PSt
 | [],[],ρ=>some ρ
 | i::is,t::ts,ρ=>putOwns is ts (ρ.set i (some (.own t)))
 | _,_,_=>none
noncomputable def maskP:List Bool->PSt->PSt
 | b::m,v::ρ=>(if b then none else v)::maskP m ρ
 | _,ρ=>ρ
noncomputable def entP (k:Nat) (mask:List Bool) (ρ:PSt):PSt:=List.replicate k none++maskP mask ρ
noncomputable def sq {α:Type} (x:T) (ρ:PSt) (b:PSt->(α->PSt->Prop)->Prop) (K:α->PSt->Prop):Prop :=
 if x.isD=true then b ρ K else b (lockA ρ) fun y _=>K y ρ
noncomputable def cu (f:PSt->TK->Prop):PSt->(T × Bool->PSt->Prop)->Prop:=fun ρ K=>f ρ fun x n ρ'=>K (x,n) ρ'
noncomputable def tsOf:List (T × Bool)->List T
 | []=>[]
 | p::r=>p.1::tsOf r
noncomputable def fzOf:List (T × Bool)->List T
 | []=>[]
 | p::r=>frzN p.1 p.2::fzOf r
noncomputable def vwOf:List (T × Bool)->List Vw
 | []=>[]
 | p::r=>(frzN p.1 p.2).vw::vwOf r
noncomputable def escB:List (T × Bool)->Bool
 | []=>true
 | p::r=>esc p.1 p.2 && escB r
noncomputable def allD:List (T × Bool)->Bool
 | []=>true
 | p::r=>esc p.1 p.2 && allD r
noncomputable def shalT (t:T):Option T:=match t.vw with
 | .ls ts=>(unD ts).map fun ds=>.lst (ds.map T.d)
 | _=>if t.isD=true then some t else none
noncomputable def passT:List Md->List (T × Bool)->List T->Option (List T)
 | _,[],[]=>some []
 | _,[],_::_=>none
 | md,(x,n)::xs,os=>match md.headD .fro with
  | .fro=>match frzN x n with
   | .d d=>(passT md.tail xs os).map (.d d::·)
   | _=>none
  | .shal=>match shalT (frzN x n) with
   | some t=>(passT md.tail xs os).map (t::·)
   | none=>none
  | .bor=>(passT md.tail xs os).map (frzN x n::·)
  | .chg=>match os with
   | o::os=>(passT md.tail xs os).map (o::·)
   | []=>none
noncomputable def mutTs:List Md->List T->List T
 | _,[]=>[]
 | md,t::ts=>match md.headD .fro with
  | .chg=>t::mutTs md.tail ts
  | _=>mutTs md.tail ts
noncomputable def mutRoots:List Md->PX->List Nat
 | .chg::md,.acons (.var j) as=>j::mutRoots md as
 | _::md,.acons _ as=>mutRoots md as
 | _,_=>[]
noncomputable def Md.isMut:Md->Bool
 | .chg=>true
 | _=>false
noncomputable def prmT (Ψ:PEv) (o:Prm) (ts:List T) (Q:T->Bool->Prop):Prop:=match o with
 | .dget x=>∃ z kds,ts=[.d (.str z)]/\Ψ.dc x=some kds/\Q (.d ((kds.lookup z).getD .none)) false
 | .dix x=>∃ z kds d,ts=[.d (.str z)]/\Ψ.dc x=some kds/\kds.lookup z=some d/\Q (.d d) false
theorem prmT_1 {Ψ:PEv} {Q:T->Bool->Prop} (x z:Str):prmT Ψ (.dget x) [.d (.str z)] Q=∃ kds,Ψ.dc x=some kds/\Q (.d ((kds.lookup z).getD .none)) false:=by simp [prmT]
theorem prmT_2 {Ψ:PEv} {Q:T->Bool->Prop} (x z:Str):prmT Ψ (.dix x) [.d (.str z)] Q=∃ kds d,Ψ.dc x=some kds/\kds.lookup z=some d/\Q (.d d) false:=by simp [prmT]
structure D3 where
 e:PSt->TK->Prop
 t:PSt->(Bool->PSt->Prop)->Prop
 a:List Md->PSt->(List (T × Bool)->PSt->Prop)->Prop
 p:T->PSt->(List D->T->PSt->Prop)->Prop
noncomputable def nev:D3:=⟨fun _ _=>False,fun _ _=>False,fun _ _ _=>False,fun _ _ _=>False⟩
noncomputable def compV (body:T->(Option T->Prop)->Prop):List T->List T->(List T->Prop)->Prop
 | [],acc,Q=>acc.length<=sizeLine/\Q acc
 | x::xs,acc,Q=>body x fun
  | some y=>acc.length < sizeLine/\compV body xs (acc++[y]) Q
  | none=>compV body xs acc Q
noncomputable def compBody (tg:Tg) (ρ0:PSt) (c:PSt->(Bool->PSt->Prop)->Prop) (e:PSt->TK->Prop) (x:T) (R:Option T->Prop):Prop :=
 bindV tg x ρ0 fun ρ1=>c ρ1 fun b ρ2=>if b=true then e ρ2 fun y n _=>esc y n=true/\R (some y) else R none
noncomputable def isiD:PX->D->(Bool->Prop)->Prop
 | .bty _ n,d,Q=>∃ b,isD n d=some b/\isTyN n=true/\Q b
 | _,_,_=>False
noncomputable def rdV:Option (Option Sl)->(T->Prop)->Prop
 | some (some (.own t)),Q=>Q t
 | some (some (.bor t)),Q=>Q t
 | some none,_=>False
 | none,_=>False
noncomputable def ownV:Option (Option Sl)->(T->Prop)->Prop
 | some (some (.own t)),Q=>Q t
 | some (some (.bor _)),_=>False
 | some none,_=>False
 | none,_=>False
noncomputable def rootV:Option Nat->(Nat->Prop)->Prop
 | none,_=>False
 | some j,Q=>Q j
noncomputable def isVar:PX->Bool
 | .var _=>true
 | _=>false
noncomputable def pe (Ψ:PEv):PX->XE->D3
 | .var i,_=>let e:PSt->TK->Prop:=fun ρ Q=>rdV ρ[i]? fun t=>Q t false ρ
  ⟨e,fun ρ Q=>e ρ fun t _ ρ1=>truD t.er fun b=>Q b ρ1,nev.a,fun t ρ K=>K [] t ρ⟩
 | .int i,_=>⟨fun ρ Q=>Q (.d (.int i)) false ρ,fun ρ Q=>Q (i != 0) ρ,nev.a,nev.p⟩
 | .str x,_=>⟨fun ρ Q=>Q (.d (.str x)) false ρ,nev.t,nev.a,nev.p⟩
 | .bl b,_=>⟨fun ρ Q=>Q (.d (.bool b)) false ρ,fun ρ Q=>Q b ρ,nev.a,nev.p⟩
 | .non,_=>⟨fun ρ Q=>Q (.d .none) false ρ,fun ρ Q=>Q false ρ,nev.a,nev.p⟩
 | .glo x,_=>let e:PSt->TK->Prop:=fun ρ Q=>match Ψ.va x with
   | some d=>Q (.d d) false ρ
   | none=>False
  ⟨e,fun ρ Q=>e ρ fun t _ ρ1=>truD t.er fun b=>Q b ρ1,nev.a,nev.p⟩
 | .bty _ _,_=>nev
 | .bin op a b,E=>let e:PSt->TK->Prop:=fun ρ Q=>(pe Ψ a E).e ρ fun x n ρ1=>sq (frzN x n) ρ1 (cu (pe Ψ b E).e) fun y ρ2=>binT op (frzN x n).vw (frzN y.1 y.2).vw fun z k=>Q z k ρ2
  ⟨e,fun ρ Q=>e ρ fun t _ ρ1=>truD t.er fun b=>Q b ρ1,nev.a,nev.p⟩
 | .cmp op a b,E=>let t:PSt->(Bool->PSt->Prop)->Prop:=fun ρ Q=>(pe Ψ a E).e ρ fun x n ρ1=>sq (frzN x n) ρ1 (cu (pe Ψ b E).e) fun y ρ2=>cmpD op x.er y.1.er fun k=>Q k ρ2
  ⟨fun ρ Q=>t ρ fun k ρ1=>Q (.d (.bool k)) false ρ1,t,nev.a,nev.p⟩
 | .chn o p a b c,E=>let t:PSt->(Bool->PSt->Prop)->Prop:=fun ρ Q=>(pe Ψ a E).e ρ fun x n ρ1=>sq (frzN x n) ρ1 (cu (pe Ψ b E).e) fun y ρ2=>cmpD o x.er y.1.er fun k=>if k=true then sq (frzN y.1 y.2) ρ2 (cu (pe Ψ c E).e) fun z ρ3=>cmpD p y.1.er z.1.er fun k=>Q k ρ3 else Q false ρ2
  ⟨fun ρ Q=>t ρ fun k ρ1=>Q (.d (.bool k)) false ρ1,t,nev.a,nev.p⟩
 | .and a b,E=>⟨fun ρ Q=>(pe Ψ a E).e ρ fun x _ ρ1=>asD x.er fun c=>if c=true then (pe Ψ b E).e ρ1 Q else Q (.d (.bool false)) false ρ1,
   fun ρ Q=>(pe Ψ a E).t ρ fun c ρ1=>if c=true then (pe Ψ b E).t ρ1 Q else Q false ρ1,nev.a,nev.p⟩
 | .or a b,E=>⟨fun ρ Q=>(pe Ψ a E).e ρ fun x _ ρ1=>asD x.er fun c=>if c=true then Q (.d (.bool true)) false ρ1 else (pe Ψ b E).e ρ1 Q,
   fun ρ Q=>(pe Ψ a E).t ρ fun c ρ1=>if c=true then Q true ρ1 else (pe Ψ b E).t ρ1 Q,nev.a,nev.p⟩
 | .not a,E=>⟨fun ρ Q=>(pe Ψ a E).e ρ fun x _ ρ1=>truD x.er fun c=>Q (.d (.bool (!c))) false ρ1,fun ρ Q=>(pe Ψ a E).t ρ fun c ρ1=>Q (!c) ρ1,nev.a,nev.p⟩
 | .ife c a b,E=>⟨fun ρ Q=>(pe Ψ c E).t ρ fun k ρ1=>if k=true then (pe Ψ a E).e ρ1 Q else (pe Ψ b E).e ρ1 Q,nev.t,nev.a,nev.p⟩
 | .call f as,E=>let e:PSt->TK->Prop:=fun ρ Q=>∃ os,ownsAt (mutRoots (Ψ.sp f).md as) ρ=some os/\(mutRoots (Ψ.sp f).md as).Nodup/\(pe Ψ as E).a (Ψ.sp f).md (clear (mutRoots (Ψ.sp f).md as) ρ) fun xs ρ1=>∃ ts,passT (Ψ.sp f).md xs os=some ts/\(Ψ.sp f).run ts (fun r os'=>∃ ρ2,putOwns (mutRoots (Ψ.sp f).md as) os' ρ1=some ρ2/\Q r true ρ2) E
  ⟨e,fun ρ Q=>e ρ fun t _ ρ1=>truD t.er fun b=>Q b ρ1,nev.a,nev.p⟩
 | .isi a c,E=>let t:PSt->(Bool->PSt->Prop)->Prop:=fun ρ Q=>(pe Ψ a E).e ρ fun x _ ρ1=>isiD c x.er fun b=>Q b ρ1
  ⟨fun ρ Q=>t ρ fun k ρ1=>Q (.d (.bool k)) false ρ1,t,nev.a,nev.p⟩
 | .bi f as,E=>let e:PSt->TK->Prop:=fun ρ Q=>(pe Ψ as E).a [] ρ fun xs ρ1=>biT f (vwOf xs) fun z k=>Q z k ρ1
  ⟨e,fun ρ Q=>e ρ fun t _ ρ1=>truD t.er fun b=>Q b ρ1,nev.a,nev.p⟩
 | .prm o as,E=>let e:PSt->TK->Prop:=fun ρ Q=>(pe Ψ as E).a [] ρ fun xs ρ1=>prmT Ψ o (fzOf xs) fun z k=>Q z k ρ1
  ⟨e,fun ρ Q=>e ρ fun t _ ρ1=>truD t.er fun b=>Q b ρ1,nev.a,nev.p⟩
 | .mt m o as,E=>let e:PSt->TK->Prop:=fun ρ Q=>if isMut m=true then rootV (rootOf o) fun j=>ownV ρ[j]? fun t=>(pe Ψ o E).p t (ρ.set j (some (.bor t))) fun ks s ρ1=>mutTy m s=true/\(pe Ψ as E).a [] ρ1 fun xs ρ2=>escB xs=true/\ρ2[j]?=some (some (.bor t))/\mutT m s (tsOf xs) fun r s'=>Q r true (ρ2.set j (some (.own (setP t ks s')))) else (pe Ψ o E).e ρ fun x n ρ1=>mtTy m (frzN x n).vw=true/\sq (frzN x n) ρ1 ((pe Ψ as E).a []) fun xs ρ2=>mtT m (frzN x n).vw (vwOf xs) fun z k=>Q z k ρ2
  ⟨e,fun ρ Q=>e ρ fun t _ ρ1=>truD t.er fun b=>Q b ρ1,nev.a,nev.p⟩
 | .idx a b,E=>let e:PSt->TK->Prop:=fun ρ Q=>(pe Ψ a E).e ρ fun x n ρ1=>sq (frzN x n) ρ1 (cu (pe Ψ b E).e) fun y ρ2=>idxT (frzN x n).vw (frzN y.1 y.2).vw fun z=>Q z false ρ2
  ⟨e,fun ρ Q=>e ρ fun t _ ρ1=>truD t.er fun b=>Q b ρ1,nev.a,fun t ρ K=>(pe Ψ a E).p t ρ fun ks s ρ1=>(pe Ψ b E).e ρ1 fun x n ρ2=>∃ d s',frzN x n=.d d/\stepP s d=some s'/\K (ks++[d]) s' ρ2⟩
 | .slc a lo hi,E=>⟨fun ρ Q=>(pe Ψ a E).e ρ fun x n ρ1 =>
   sq (α:=Option Int) (frzN x n) ρ1 (if isNop lo=true then fun ρ (R:Option Int->PSt->Prop)=>R none ρ else fun ρ R=>(pe Ψ lo E).e ρ fun l _ ρ2=>partD l.er fun o=>R o ρ2) fun l ρ2 =>
   sq (α:=Option Int) (frzN x n) ρ2 (if isNop hi=true then fun ρ (R:Option Int->PSt->Prop)=>R none ρ else fun ρ R=>(pe Ψ hi E).e ρ fun u _ ρ3=>partD u.er fun o=>R o ρ3) fun u ρ3=>slcT (frzN x n).vw l u fun z k=>Q z k ρ3,nev.t,nev.a,nev.p⟩
 | .nop,_=>nev
 | .lst as,E=>⟨fun ρ Q=>(pe Ψ as E).a [] ρ fun xs ρ1=>escB xs=true/\xs.length<=sizeLine/\Q (.lst (tsOf xs)) true ρ1,nev.t,nev.a,nev.p⟩
 | .tup as,E=>⟨fun ρ Q=>(pe Ψ as E).a [] ρ fun xs ρ1=>escB xs=true/\xs.length<=sizeLine/\Q (mkTup (tsOf xs)) true ρ1,nev.t,nev.a,nev.p⟩
 | .comp mask tgs tg ik its cond elt,E=>⟨fun ρ Q=>(pe Ψ its E).a [] ρ fun xs ρ1=>itemsT ik (vwOf xs) fun items =>
   compV (compBody tg (entP tgs.length mask (lockA ρ1)) (if isNop cond=true then fun ρ R=>R true ρ else (pe Ψ cond (fun _=>False)).t) (pe Ψ elt (fun _=>False)).e) items [] fun ys=>Q (.lst ys) true ρ1,nev.t,nev.a,nev.p⟩
 | .anil,_=>⟨nev.e,nev.t,fun _ ρ Q=>Q [] ρ,nev.p⟩
 | .acons a as,E=>⟨nev.e,nev.t,fun md ρ Q=>if (md.headD .fro).isMut=true then isVar a=true/\(pe Ψ as E).a md.tail ρ fun xs ρ1=>Q ((.d .none,true)::xs) ρ1
   else (pe Ψ a E).e ρ fun x n ρ1=>sq (α:=List (T × Bool)) (if n=true then .d .none else x) ρ1 ((pe Ψ as E).a md.tail) fun xs ρ2=>Q ((x,n)::xs) ρ2,nev.p⟩
structure PEnds where
 nx:PSt->Prop
 rt:T->PSt->Prop
 bk:PSt->Prop:=fun _=>False
 ct:PSt->Prop:=fun _=>False
noncomputable def vrs:PX->List Nat
 | .var i=>[i]
 | .idx a _=>vrs a
 | .ife _ a b=>vrs a++vrs b
 | .and a b | .or a b=>vrs a++vrs b
 | .acons a as=>vrs a++vrs as
 | _=>[]
noncomputable def ownO:Option (Option Sl)->Bool
 | some (some (.own _))=>true
 | some (some (.bor _))=>false
 | some none=>false
 | none=>false
noncomputable def ownsIn (ρ:PSt):List Nat->List Nat
 | []=>[]
 | i::is=>if ownO ρ[i]?=true then i::ownsIn ρ is else ownsIn ρ is
noncomputable def unlockF:List Nat->PSt->PSt->PSt
 | [],_,ρ=>ρ
 | i::L,ρ0,ρ=>unlockF L ρ0 (ρ.set i (ρ0[i]?.getD none))
noncomputable def unlock (J L:List Nat) (ρ0:PSt) (N:PSt->Prop) (ρ:PSt):Prop:=(∀ i ∈ L,i ∉ J/\ρ[i]?=ρ0[i]?.map lockS)/\N (unlockF L ρ0 ρ)
noncomputable def forV (body:PEnds->PSt->Prop) (tg:Tg) (Z:PEnds):List T->PSt->Prop
 | [],ρ=>Z.nx ρ
 | x::xs,ρ=>bindV tg x ρ fun ρ1=>body { Z with nx:=fun ρ2=>forV body tg Z xs ρ2,ct:=fun ρ2=>forV body tg Z xs ρ2,bk:=Z.nx } ρ1
noncomputable def rdR (ρ:PSt) (i:Nat) (R:T->PSt->Prop):Option (Option Sl)->Prop
 | some (some (.own t))=>R t (ρ.set i none)
 | some (some (.bor t))=>t.isD=true/\R t ρ
 | some none=>False
 | none=>False
noncomputable def retP (Ψ:PEv) (E:XE) (Rt:T->PSt->Prop):PX->PSt->Prop
 | .var i,ρ=>rdR ρ i Rt ρ[i]?
 | .ife c a b,ρ=>(pe Ψ c E).t ρ fun k ρ1=>if k=true then retP Ψ E Rt a ρ1 else retP Ψ E Rt b ρ1
 | e,ρ=>(pe Ψ e E).e ρ fun x n ρ1=>esc x n=true/\Rt x ρ1
noncomputable def pws (Ψ:PEv) (E:XE):PT->PEnds->PSt->Prop
 | .nil,Z,ρ=>Z.nx ρ
 | .seq s r,Z,ρ=>pws Ψ E s { Z with nx:=fun ρ'=>pws Ψ E r Z ρ' } ρ
 | .set i e,Z,ρ=>(pe Ψ e E).e ρ fun x n ρ1=>esc x n=true/\Z.nx (ρ1.set i (some (.bor (.d x.er))))
 | .expr e,Z,ρ=>(pe Ψ e E).e ρ fun _ _ ρ1=>Z.nx ρ1
 | .ret e,Z,ρ=>retP Ψ E Z.rt e ρ
 | .ife c a b,Z,ρ=>(pe Ψ c E).t ρ fun k ρ1=>if k=true then pws Ψ E a Z ρ1 else pws Ψ E b Z ρ1
 | .for_ tg ik its body,Z,ρ=>(pe Ψ its E).a [] ρ fun xs ρ1=>itemsT ik (vwOf xs) fun items =>
   if allD xs=true then forV (pws Ψ E body) tg { Z with nx:=fun ρ2=>Z.nx (kill tg.ix ρ2) } items ρ1
   else forV (pws Ψ E body) tg { Z with nx:=fun ρ2=>unlock tg.ix (ownsIn ρ1 (vrs its)) ρ1 Z.nx (kill tg.ix ρ2) } items (lock (ownsIn ρ1 (vrs its)) ρ1)
 | .own i e,Z,ρ=>(pe Ψ e E).e ρ fun x n ρ1=>esc x n=true/\Z.nx (ρ1.set i (some (.own x)))
 | .frz is s,Z,ρ=>pws Ψ E s Z (frzAt is ρ)
 | .rse,_,_=>False
end L2.L3
namespace L2.L3
open PySem PySem.Spec PyProof.Rows
theorem _root_.L2.Same.rd {H H':Hp} (e:Same H H') {a:Addr} {u:HO} (h:Rd H a u):Rd H' a u:=by
 rcases h with h | ⟨o,h⟩
 ·exact .inl (e _ _ h)
 ·exact .inr ⟨o,e _ _ h⟩
theorem _root_.L2.Same.tupl {K:PySem.W.Frag} {H H':Hp} {a:Addr} {xs:List V} (e:Same H H') (h:SqT K H a xs):SqT K H' a xs:=by
 rcases h with h | h
 ·exact .inl (e.rd h)
 ·exact .inr h
mutual
theorem Rep.mono {K:PySem.W.Frag} {H H':Hp} (e:Same H H'):∀ {v:V} {d:D},Rep K H v d->Rep K H' v d
 | _,_,.non=>.non
 | _,_,.bl b=>.bl b
 | _,_,.int i=>.int i
 | _,_,.str x=>.str x
 | _,_,.lst h r=>.lst (e.seq h) (Reps.mono e r)
 | _,_,.tup h r=>.tup (e.tupl h) (Reps.mono e r)
theorem Reps.mono {K:PySem.W.Frag} {H H':Hp} (e:Same H H'):∀ {vs:List V} {ds:List D},Reps K H vs ds->Reps K H' vs ds
 | _,_,.nil=>.nil
 | _,_,.cons h t=>.cons (Rep.mono e h) (Reps.mono e t)
end
theorem Reps.append {K:PySem.W.Frag} {H:Hp}:∀ {vs ws:List V} {ds es:List D},Reps K H vs ds->Reps K H ws es->Reps K H (vs++ws) (ds++es)
 | _,_,_,_,.nil,r=>r
 | _,_,_,_,.cons h t,r=>.cons h (Reps.append t r)
theorem Reps.drop {K:PySem.W.Frag} {H:Hp}:∀ {vs:List V} {ds:List D} (n:Nat),Reps K H vs ds->Reps K H (vs.drop n) (ds.drop n)
 | _,_,0,r=>r
 | _,_,_+1,.nil=>.nil
 | _,_,n+1,.cons _ t=>Reps.drop n t
theorem Reps.take {K:PySem.W.Frag} {H:Hp}:∀ {vs:List V} {ds:List D} (n:Nat),Reps K H vs ds->Reps K H (vs.take n) (ds.take n)
 | _,_,0,_=>.nil
 | _,_,_+1,.nil=>.nil
 | _,_,n+1,.cons h t=>.cons h (Reps.take n t)
theorem Reps.map_str {K:PySem.W.Frag} {H:Hp}:∀ (xs:List Str),Reps K H (xs.map V.str) (xs.map PyData.str)
 | []=>.nil
 | x::r=>.cons (.str x) (Reps.map_str r)
theorem Reps.strs {K:PySem.W.Frag} {H:Hp}:∀ {vs:List V} {ys:List Str},Reps K H vs (ys.map PyData.str)->vs=ys.map V.str
 | _,[],.nil=>rfl
 | _,b::bs,.cons h t=>by
  cases h
  rw [List.map_cons,Reps.strs t]
theorem Reps.bools {K:PySem.W.Frag} {H:Hp}:∀ {vs:List V} {bs:List Bool},Reps K H vs (bs.map PyData.bool)->vs=bs.map V.bl
 | _,[],.nil=>rfl
 | _,b::bs,.cons h t=>by
  cases h
  rw [List.map_cons,Reps.bools t]
theorem upd_same' {H:Hp} {p:Addr} {o:HO} (h:H p=none):Same H (upd H p o):=fun b u q=>by rw [upd_ne (ne_of_none q h)]; exact q
mutual
inductive Tr (K:PySem.W.Frag) (F H:Hp):Bool->V->T->(Addr->Prop)->Prop where
 | d {st:Bool} {v:V} {x:D} {S:Addr->Prop}:Rep K F v x->(∀ b,¬ S b)->Tr K F H st v (.d x) S
 | lst {st:Bool} {a:Addr} {vs:List V} {ts:List T} {S S':Addr->Prop}:H a=some (.lst vs)->F a=none->Trs K F H st vs ts S'->¬ S' a->(∀ b,S b ↔ b=a∨S' b)->Tr K F H st (.ref a) (.lst ts) S
 | tup {st:Bool} {a:Addr} {vs:List V} {ts:List T} {S S':Addr->Prop}:H a=some (.tup vs)->F a=none->Trs K F H st vs ts S'->¬ S' a->(∀ b,S b ↔ b=a∨S' b)->Tr K F H st (.ref a) (.tup ts) S
 | lstF {a:Addr} {vs:List V} {ds:List D} {S:Addr->Prop}:SqL K F a vs->Reps K F vs ds->(∀ b,¬ S b)->Tr K F H false (.ref a) (.lst (ds.map T.d)) S
inductive Trs (K:PySem.W.Frag) (F H:Hp):Bool->List V->List T->(Addr->Prop)->Prop where
 | nil {st:Bool} {S:Addr->Prop}:(∀ b,¬ S b)->Trs K F H st [] [] S
 | cons {st:Bool} {v:V} {t:T} {vs:List V} {ts:List T} {S S1 S2:Addr->Prop}:Tr K F H st v t S1->Trs K F H st vs ts S2->(∀ b,S1 b->¬ S2 b)->(∀ b,S b ↔ S1 b∨S2 b)->Trs K F H st (v::vs) (t::ts) S
end
section
variable {K:PySem.W.Frag} {F H F' H':Hp}
mutual
theorem Tr.mono (e:Same F F'):∀ {st:Bool} {v:V} {t:T} {S:Addr->Prop},Tr K F H st v t S->(∀ b,S b->H' b=H b/\F' b=none)->Tr K F' H' st v t S
 | _,_,_,_,.d r n,_=>.d (r.mono e) n
 | _,_,_,S,.lst (a:=a) h f r n q,k=>.lst ((k a ((q a).mpr (.inl rfl))).1.trans h) (k a ((q a).mpr (.inl rfl))).2 (Trs.mono e r fun b hb=>k b ((q b).mpr (.inr hb))) n q
 | _,_,_,S,.tup (a:=a) h f r n q,k=>.tup ((k a ((q a).mpr (.inl rfl))).1.trans h) (k a ((q a).mpr (.inl rfl))).2 (Trs.mono e r fun b hb=>k b ((q b).mpr (.inr hb))) n q
 | _,_,_,_,.lstF h r n,_=>.lstF (e.seq h) (r.mono e) n
theorem Trs.mono (e:Same F F'):∀ {st:Bool} {vs:List V} {ts:List T} {S:Addr->Prop},Trs K F H st vs ts S->(∀ b,S b->H' b=H b/\F' b=none)->Trs K F' H' st vs ts S
 | _,_,_,_,.nil n,_=>.nil n
 | _,_,_,_,.cons h t n q,k=>.cons (Tr.mono e h fun b hb=>k b ((q b).mpr (.inl hb))) (Trs.mono e t fun b hb=>k b ((q b).mpr (.inr hb))) n q
end
mutual
theorem Tr.weak:∀ {st:Bool} {v:V} {t:T} {S:Addr->Prop},Tr K F H st v t S->Tr K F H false v t S
 | _,_,_,_,.d r n=>.d r n
 | _,_,_,_,.lst h f r n q=>.lst h f (Trs.weak r) n q
 | _,_,_,_,.tup h f r n q=>.tup h f (Trs.weak r) n q
 | _,_,_,_,.lstF h r n=>.lstF h r n
theorem Trs.weak:∀ {st:Bool} {vs:List V} {ts:List T} {S:Addr->Prop},Trs K F H st vs ts S->Trs K F H false vs ts S
 | _,_,_,_,.nil n=>.nil n
 | _,_,_,_,.cons h t n q=>.cons (Tr.weak h) (Trs.weak t) n q
end
mutual
theorem Tr.dom:∀ {st:Bool} {v:V} {t:T} {S:Addr->Prop},Tr K F H st v t S->∀ b,S b->H b≠none/\F b=none
 | _,_,_,_,.d r n=>fun b hb=>absurd hb (n b)
 | _,_,_,_,.lst h f r n q=>fun b hb=>by
  rcases (q b).mp hb with e | e
  ·subst e; exact ⟨by rw [h]; simp,f⟩
  ·exact Trs.dom r b e
 | _,_,_,_,.tup h f r n q=>fun b hb=>by
  rcases (q b).mp hb with e | e
  ·subst e; exact ⟨by rw [h]; simp,f⟩
  ·exact Trs.dom r b e
 | _,_,_,_,.lstF h r n=>fun b hb=>absurd hb (n b)
theorem Trs.dom:∀ {st:Bool} {vs:List V} {ts:List T} {S:Addr->Prop},Trs K F H st vs ts S->∀ b,S b->H b≠none/\F b=none
 | _,_,_,_,.nil n=>fun b hb=>absurd hb (n b)
 | _,_,_,_,.cons h t n q=>fun b hb=>by
  rcases (q b).mp hb with e | e
  ·exact Tr.dom h b e
  ·exact Trs.dom t b e
end
mutual
theorem Tr.rep (f:Same F H):∀ {st:Bool} {v:V} {t:T} {S:Addr->Prop},Tr K F H st v t S->Rep K H v t.er
 | _,_,_,_,.d r n=>r.mono f
 | _,_,_,_,.lst h _ r n q=>by unfold T.er; exact .lst (SqL.of h) (Trs.reps f r)
 | _,_,_,_,.tup h _ r n q=>by unfold T.er; exact .tup (SqT.of h) (Trs.reps f r)
 | _,_,_,_,.lstF h r n=>by unfold T.er; rw [ersT_map]; exact .lst (f.seq h) (r.mono f)
theorem Trs.reps (f:Same F H):∀ {st:Bool} {vs:List V} {ts:List T} {S:Addr->Prop},Trs K F H st vs ts S->Reps K H vs (ersT ts)
 | _,_,_,_,.nil n=>.nil
 | _,_,_,_,.cons h t n q=>.cons (Tr.rep f h) (Trs.reps f t)
end
mutual
theorem Tr.kept (e:Same F F'):∀ {st:Bool} {v:V} {t:T} {S:Addr->Prop},Tr K F H st v t S->(∀ b u,S b->H b=some u->F' b=some u)->Rep K F' v t.er
 | _,_,_,_,.d r n,_=>r.mono e
 | _,_,_,_,.lst (a:=a) h f r n q,k=>by
  unfold T.er
  exact .lst (SqL.of (k a _ ((q a).mpr (.inl rfl)) h)) (Trs.kept e r fun b u hb=>k b u ((q b).mpr (.inr hb)))
 | _,_,_,_,.tup (a:=a) h f r n q,k=>by
  unfold T.er
  exact .tup (SqT.of (k a _ ((q a).mpr (.inl rfl)) h)) (Trs.kept e r fun b u hb=>k b u ((q b).mpr (.inr hb)))
 | _,_,_,_,.lstF h r n,_=>by unfold T.er; rw [ersT_map]; exact .lst (e.seq h) (r.mono e)
theorem Trs.kept (e:Same F F'):∀ {st:Bool} {vs:List V} {ts:List T} {S:Addr->Prop},Trs K F H st vs ts S->(∀ b u,S b->H b=some u->F' b=some u)->Reps K F' vs (ersT ts)
 | _,_,_,_,.nil n,_=>.nil
 | _,_,_,_,.cons h t n q,k=>.cons (Tr.kept e h fun b u hb=>k b u ((q b).mpr (.inl hb))) (Trs.kept e t fun b u hb=>k b u ((q b).mpr (.inr hb)))
end
theorem Trs.length:∀ {st:Bool} {vs:List V} {ts:List T} {S:Addr->Prop},Trs K F H st vs ts S->vs.length=ts.length
 | _,_,_,_,.nil n=>rfl
 | _,_,_,_,.cons h t n q=>by rw [List.length_cons,List.length_cons,Trs.length t]
theorem Trs.of_reps {st:Bool}:∀ {vs:List V} {ds:List D},Reps K F vs ds->Trs K F H st vs (ds.map T.d) (fun _=>False)
 | _,_,.nil=>.nil fun _ z=>z
 | _,_,.cons h t=>.cons (.d h fun _ z=>z) (Trs.of_reps t) (fun _ z=>z.elim) fun b=>by simp
theorem Trs.un:∀ {st:Bool} {vs:List V} {ts:List T} {S:Addr->Prop} {ds:List D},Trs K F H st vs ts S->unD ts=some ds->Reps K F vs ds/\∀ b,¬ S b
 | _,_,_,_,_,.nil n,e=>by
  simp only [unD,Option.some.injEq] at e
  subst e
  exact ⟨.nil,n⟩
 | st,_,_,S,ds,.cons h t n q,e=>by
  have ed:=unD_some e
  cases ds with
  | nil=>cases ed
  | cons d r =>
   rw [List.map_cons] at ed
   injection ed with e1 e2
   subst e1
   have e3:=congrArg unD e2
   rw [unD_map] at e3
   obtain ⟨h1,h2⟩:=Trs.un t e3
   cases h with
   | d rep m =>
    refine ⟨.cons rep h1,fun b hb=>?_⟩
    rcases (q b).mp hb with z | z
    ·exact m b z
    ·exact h2 b z
theorem Trs.get:∀ {st:Bool} {vs:List V} {ts:List T} {S:Addr->Prop} {i:Nat} {t:T},Trs K F H st vs ts S->ts[i]?=some t->∃ v S1,vs[i]?=some v/\Tr K F H st v t S1/\∀ b,S1 b->S b
 | _,_,_,_,i,_,.nil n,e=>by simp at e
 | _,_,_,_,0,_,.cons h t n q,e=>by simp at e; subst e; exact ⟨_,_,rfl,h,fun b hb=>(q b).mpr (.inl hb)⟩
 | _,_,_,_,i+1,_,.cons h t n q,e=>by
  obtain ⟨v,S1,h1,h2,h3⟩:=Trs.get (i:=i) t (by simpa using e)
  exact ⟨v,S1,by simpa using h1,h2,fun b hb=>(q b).mpr (.inr (h3 b hb))⟩
theorem Trs.at {st:Bool} {vs:List V} {ts:List T} {S:Addr->Prop} {i:Int} {t:T} (r:Trs K F H st vs ts S) (h:atI ts i=some t):∃ v S1,atI vs i=some v/\Tr K F H st v t S1/\∀ b,S1 b->S b:=by
 unfold atI at h ⊢
 rw [r.length]
 cases e:ixN ts.length i with
 | none=>rw [e] at h; cases h
 | some j =>
  rw [e] at h
  exact r.get h
theorem Trs.append:∀ {st:Bool} {vs ws:List V} {ts us:List T} {S1 S2:Addr->Prop},Trs K F H st vs ts S1->Trs K F H st ws us S2->(∀ b,S1 b->¬ S2 b)->Trs K F H st (vs++ws) (ts++us) (fun b=>S1 b∨S2 b)
 | _,_,_,_,_,_,_,.nil n,r,k=>by
  cases r with
  | nil m=>exact .nil fun b hb=>hb.elim (n b) (m b)
  | cons h t m q=>exact .cons h t m fun b=>by rw [<- q b]; simp [n b]
 | _,_,_,_,_,_,_,.cons (S1:=P1) (S2:=P2) h t n q,r,k=>by
  refine .cons h (Trs.append t r fun b hb=>k b ((q b).mpr (.inr hb))) (fun b hb z=>?_) fun b=>by rw [q b,or_assoc]
  rcases z with z | z
  ·exact n b hb z
  ·exact k b ((q b).mpr (.inl hb)) z
theorem Trs.one {st:Bool} {v:V} {t:T} {S:Addr->Prop} (h:Tr K F H st v t S):Trs K F H st [v] [t] S:=.cons h (.nil (S:=fun _=>False) fun _ z=>z) (fun _ _ z=>z) fun b=>by simp
theorem Tr.eqv {st:Bool} {v:V} {t:T} {S S':Addr->Prop} (h:Tr K F H st v t S) (e:∀ b,S' b ↔ S b):Tr K F H st v t S':=by
 have:S'=S:=funext fun b=>propext (e b)
 rw [this]; exact h
theorem Tr.ls {st:Bool} {v:V} {t:T} {S:Addr->Prop} {ts:List T} (f:Same F H) (h:Tr K F H st v t S) (e:t.vw=.ls ts):∃ a vs S',v=.ref a/\SqL K H a vs/\Trs K F H false vs ts S'/\∀ b,S' b->S b:=by
 cases h with
 | d r n =>
  cases r with
  | lst q r=>injection e with e; subst e; exact ⟨_,_,_,rfl,f.seq q,Trs.of_reps r,fun b hb=>hb.elim⟩
  | _=>cases e
 | lst h _ r n q=>injection e with e; subst e; exact ⟨_,_,_,rfl,SqL.of h,r.weak,fun b hb=>(q b).mpr (.inr hb)⟩
 | tup=>cases e
 | lstF h r n=>injection e with e; subst e; exact ⟨_,_,_,rfl,f.seq h,Trs.of_reps r,fun b hb=>hb.elim⟩
theorem Tr.tp {st:Bool} {v:V} {t:T} {S:Addr->Prop} {ts:List T} (f:Same F H) (h:Tr K F H st v t S) (e:t.vw=.tp ts):∃ a vs S',v=.ref a/\SqT K H a vs/\Trs K F H false vs ts S'/\∀ b,S' b->S b:=by
 cases h with
 | d r n =>
  cases r with
  | tup q r=>injection e with e; subst e; exact ⟨_,_,_,rfl,f.tupl q,Trs.of_reps r,fun b hb=>hb.elim⟩
  | _=>cases e
 | tup h _ r n q=>injection e with e; subst e; exact ⟨_,_,_,rfl,SqT.of h,r.weak,fun b hb=>(q b).mpr (.inr hb)⟩
 | lst=>cases e
 | lstF=>cases e
theorem Tr.sc {st:Bool} {v:V} {t:T} {S:Addr->Prop} {x:D} (h:Tr K F H st v t S) (e:t.vw=.sc x):t=.d x/\Rep K F v x:=by
 cases h with
 | @d _ _ y _ r n =>
  cases y with
  | list ds=>cases e
  | tuple ds=>cases e
  | dict ds=>cases e
  | _=>injection e with e; subst e; exact ⟨rfl,r⟩
 | tup=>cases e
 | lst=>cases e
 | lstF=>cases e
theorem Tr.int {st:Bool} {v:V} {t:T} {S:Addr->Prop} {i:Int} (h:Tr K F H st v t S) (e:t.vw=.sc (.int i)):v=.int i:=by
 obtain ⟨_,r⟩:=h.sc e; cases r; rfl
theorem Tr.str {st:Bool} {v:V} {t:T} {S:Addr->Prop} {i:Str} (h:Tr K F H st v t S) (e:t.vw=.sc (.str i)):v=.str i:=by
 obtain ⟨_,r⟩:=h.sc e; cases r; rfl
theorem Tr.bool {st:Bool} {v:V} {t:T} {S:Addr->Prop} {i:Bool} (h:Tr K F H st v t S) (e:t.vw=.sc (.bool i)):v=.bl i:=by
 obtain ⟨_,r⟩:=h.sc e; cases r; rfl
theorem Trs.part:∀ {vs:List V} {ts:List T} {S:Addr->Prop} {i:Nat} {t:T},Trs K F H true vs ts S->ts[i]?=some t->∃ v S1,vs[i]?=some v/\Tr K F H true v t S1/\(∀ b,S1 b->S b) /\
  ∀ (F' H':Hp) t' S1',Same F F'->(∀ b,S b->¬ S1 b->H' b=H b/\F' b=none)->Tr K F' H' true v t' S1'->(∀ b,S1' b->S b->S1 b)->Trs K F' H' true vs (ts.set i t') (fun b=>(S b/\¬ S1 b)∨S1' b)
 | _,_,_,i,_,.nil n,e=>by simp at e
 | _,_,S,0,_,.cons (S1:=P1) (S2:=P2) h t n q,e=>by
  simp at e; subst e
  refine ⟨_,P1,rfl,h,fun b hb=>(q b).mpr (.inl hb),fun F' H' t' S1' ef k r k2=>?_⟩
  have hk:∀ b,P2 b->H' b=H b/\F' b=none:=fun b hb=>k b ((q b).mpr (.inr hb)) fun z=>n b z hb
  refine .cons r (t.mono ef hk) (fun b hb z=>n b (k2 b hb ((q b).mpr (.inr z))) z) fun b=>?_
  constructor
  ·rintro (⟨h1,h2⟩ | h1)
   ·rcases (q b).mp h1 with z | z
    ·exact absurd z h2
    ·exact .inr z
   ·exact .inl h1
  ·rintro (h1 | h1)
   ·exact .inr h1
   ·exact .inl ⟨(q b).mpr (.inr h1),fun z=>n b z h1⟩
 | _,_,S,i+1,_,.cons (S1:=P1) (S2:=P2) h t n q,e=>by
  obtain ⟨v,S1,h1,h2,h3,h4⟩:=Trs.part (i:=i) t (by simpa using e)
  refine ⟨v,S1,by simpa using h1,h2,fun b hb=>(q b).mpr (.inr (h3 b hb)),fun F' H' t' S1' ef k r k2=>?_⟩
  have hk:∀ b,P1 b->H' b=H b/\F' b=none:=fun b hb=>k b ((q b).mpr (.inl hb)) fun z=>n b hb (h3 b z)
  have rest:=h4 F' H' t' S1' ef (fun b hb hn=>k b ((q b).mpr (.inr hb)) hn) r fun b hb hs=>k2 b hb ((q b).mpr (.inr hs))
  rw [List.set_cons_succ]
  refine .cons (h.mono ef hk) rest (fun b hb z=>?_) fun b=>?_
  ·rcases z with z | z
   ·exact n b hb z.1
   ·exact n b hb (h3 b (k2 b z ((q b).mpr (.inl hb))))
  ·constructor
   ·rintro (⟨z1,z2⟩ | z1)
    ·rcases (q b).mp z1 with z | z
     ·exact .inl z
     ·exact .inr (.inl ⟨z,z2⟩)
    ·exact .inr (.inr z1)
   ·rintro (z | z | z)
    ·exact .inl ⟨(q b).mpr (.inl z),fun y=>n b z (h3 b y)⟩
    ·exact .inl ⟨(q b).mpr (.inr z.1),z.2⟩
    ·exact .inr z
noncomputable def Step1 (H:Hp) (v:V) (k:D) (w:V):Prop:=∃ a vs i,v=.ref a/\k=.int i/\(H a=some (.lst vs)∨H a=some (.tup vs))/\atI vs i=some w
noncomputable def PathV (H:Hp):V->List D->V->Prop
 | v,[],w=>v=w
 | v,k::ks,w=>∃ u,Step1 H v k u/\PathV H u ks w
theorem Step1.det {v w w':V} {k:D} (a:Step1 H v k w) (b:Step1 H v k w'):w=w':=by
 obtain ⟨p,vs,i,rfl,rfl,h1,h2⟩:=a
 obtain ⟨p',vs',i',e1,e2,h1',h2'⟩:=b
 cases e1; cases e2
 have:vs=vs':=by rcases h1 with h1 | h1<;>rcases h1' with h1' | h1'<;>rw [h1] at h1'<;>cases h1'<;>rfl
 subst this
 rw [h2] at h2'
 cases h2'
 rfl
theorem PathV.det:∀ {ks:List D} {v w w':V},PathV H v ks w->PathV H v ks w'->w=w'
 | [],_,_,_,a,b=>a.symm.trans b
 | _::_,_,_,_,⟨u,a1,a2⟩,⟨u',b1,b2⟩=>by
  cases a1.det b1
  exact PathV.det a2 b2
theorem PathV.snoc:∀ {v w z:V} {ks:List D} {k:D},PathV H v ks w->Step1 H w k z->PathV H v (ks++[k]) z
 | _,_,z,[],k,h,s=>by cases h; exact ⟨z,s,rfl⟩
 | _,_,z,_::ks,k,⟨u,h1,h2⟩,s=>⟨u,h1,PathV.snoc h2 s⟩
noncomputable def Parts (K:PySem.W.Frag) (F H:Hp) (v:V) (S:Addr->Prop) (w:V) (s:T) (S1:Addr->Prop) (put:T->T):Prop:=Tr K F H true w s S1/\(∀ b,S1 b->S b) /\
  ∀ (F' H':Hp) s' S1',Same F F'->(∀ b,S b->¬ S1 b->H' b=H b/\F' b=none)->Tr K F' H' true w s' S1'->(∀ b,S1' b->S b->S1 b)->Tr K F' H' true v (put s') (fun b=>(S b/\¬ S1 b)∨S1' b)
theorem Tr.step {v:V} {t s:T} {k:D} {S:Addr->Prop} (h:Tr K F H true v t S) (e:stepP t k=some s):∃ w S1,(∀ H',(∀ b,S b->H' b=H b)->Step1 H' v k w)/\Parts K F H v S w s S1 (updP t k):=by
 have key:∀ {a:Addr} {vs:List V} {ts:List T} {S':Addr->Prop} {i:Int} (mk:List T->T) (o:List V->HO),atI ts i=some s->Trs K F H true vs ts S'->¬ S' a->(∀ b,S b ↔ b=a∨S' b)->H a=some (o vs)->F a=none->(∀ H':Hp,H' a=some (o vs)->H' a=some (.lst vs)∨H' a=some (.tup vs)) ->
   (∀ (F' H':Hp) ts' S2 S3,H' a=some (o vs)->F' a=none->Trs K F' H' true vs ts' S2->¬ S2 a->(∀ b,S3 b ↔ b=a∨S2 b)->Tr K F' H' true (.ref a) (mk ts') S3) ->
   (∀ p x,ixN ts.length i=some p->updP t (.int i) x=mk (ts.set p x))->∃ w S1,(∀ H',(∀ b,S b->H' b=H b)->Step1 H' (.ref a) (.int i) w)/\Parts K F H (.ref a) S w s S1 (updP t (.int i)):=by
  intro a vs ts S' i mk o e r n q ha fa ha' mkr hu
  unfold atI at e
  cases ei:ixN ts.length i with
  | none=>rw [ei] at e; cases e
  | some p =>
   rw [ei] at e
   obtain ⟨w,S1,h1,h2,h3,h4⟩:=r.part e
   refine ⟨w,S1,fun H' hH=>⟨a,vs,i,rfl,rfl,ha' H' ((hH a ((q a).mpr (.inl rfl))).trans ha),by unfold atI; rw [r.length,ei]; exact h1⟩,h2,fun b hb=>(q b).mpr (.inr (h3 b hb)),fun F' H' s' S1' ef k rs k2=>?_⟩
   have na:¬ S1 a:=fun z=>n (h3 a z)
   have ka:=k a ((q a).mpr (.inl rfl)) na
   rw [hu p s' ei]
   refine mkr F' H' _ _ _ (ka.1.trans ha) ka.2 (h4 F' H' s' S1' ef (fun b hb hn=>k b ((q b).mpr (.inr hb)) hn) rs fun b hb hs=>k2 b hb ((q b).mpr (.inr hs))) (fun z=>?_) fun b=>?_
   ·rcases z with z | z
    ·exact n z.1
    ·exact na (k2 a z ((q a).mpr (.inl rfl)))
   ·constructor
    ·rintro (⟨z1,z2⟩ | z1)
     ·rcases (q b).mp z1 with z | z
      ·exact .inl z
      ·exact .inr (.inl ⟨z,z2⟩)
     ·exact .inr (.inr z1)
    ·rintro (z | z | z)
     ·exact .inl ⟨(q b).mpr (.inl z),by rw [z]; exact na⟩
     ·exact .inl ⟨(q b).mpr (.inr z.1),z.2⟩
     ·exact .inr z
 cases h with
 | d r n=>cases e
 | @lst _ a vs ts _ S' h f r n q =>
  cases k with
  | int i=>exact key (fun ts=>.lst ts) (fun vs=>.lst vs) e r n q h f (fun _=>.inl) (fun F' H' ts' S2 S3 z1 z2 z3 z4 z5=>.lst z1 z2 z3 z4 z5) fun p x hp=>by simp only [updP,hp]
  | _=>cases e
 | @tup _ a vs ts _ S' h f r n q =>
  cases k with
  | int i=>exact key (fun ts=>.tup ts) (fun vs=>.tup vs) e r n q h f (fun _=>.inr) (fun F' H' ts' S2 S3 z1 z2 z3 z4 z5=>.tup z1 z2 z3 z4 z5) fun p x hp=>by simp only [updP,hp]
  | _=>cases e
noncomputable def getP:T->List D->Option T
 | t,[]=>some t
 | t,k::ks=>(stepP t k).bind fun s=>getP s ks
theorem getP_snoc:∀ {t s s':T} {ks:List D} {k:D},getP t ks=some s->stepP s k=some s'->getP t (ks++[k])=some s'
 | t,s,s',[],k,h,e=>by simp only [getP,Option.some.injEq] at h; subst h; simp [getP,e]
 | t,s,s',j::ks,k,h,e=>by
  simp only [getP,List.cons_append] at h ⊢
  cases q:stepP t j with
  | none=>rw [q] at h; cases h
  | some u=>rw [q] at h; exact getP_snoc (t:=u) h e
theorem Tr.path:∀ {ks:List D} {v:V} {t s:T} {S:Addr->Prop},Tr K F H true v t S->getP t ks=some s->∃ w S1,(∀ H',(∀ b,S b->H' b=H b)->PathV H' v ks w)/\Parts K F H v S w s S1 (setP t ks)
 | [],v,t,s,S,h,e=>by
  simp only [getP,Option.some.injEq] at e
  subst e
  refine ⟨v,S,fun _ _=>rfl,h,fun _ z=>z,fun F' H' s' S1' ef k r k2=>?_⟩
  exact r.eqv fun b=>⟨fun z=>z.elim (fun q=>absurd q.1 q.2) id,.inr⟩
 | k::ks,v,t,s,S,h,e=>by
  simp only [getP] at e
  cases q:stepP t k with
  | none=>rw [q] at e; cases e
  | some u =>
   rw [q] at e
   obtain ⟨w1,S1,p1,r1,k1,put1⟩:=h.step q
   obtain ⟨w,S2,p2,r2,k2,put2⟩:=Tr.path (ks:=ks) r1 e
   refine ⟨w,S2,fun H' hH=>⟨w1,p1 H' hH,p2 H' fun b hb=>hH b (k1 b hb)⟩,r2,fun b hb=>k1 b (k2 b hb),fun F' H' s' S2' ef kk r kk2=>?_⟩
   have a:=put2 F' H' s' S2' ef (fun b hb hn=>kk b (k1 b hb) hn) r fun b hb hs=>kk2 b hb (k1 b hs)
   have b1:=put1 F' H' _ _ ef (fun b hb hn=>kk b hb fun z=>hn (k2 b z)) a fun b hb hs=>by
    rcases hb with z | z
    ·exact z.1
    ·exact k2 b (kk2 b z hs)
   unfold setP
   rw [q]
   refine b1.eqv fun b=>?_
   constructor
   ·rintro (⟨z1,z2⟩ | z)
    ·by_cases hs:S1 b
     ·exact .inr (.inl ⟨hs,z2⟩)
     ·exact .inl ⟨z1,hs⟩
    ·exact .inr (.inr z)
   ·rintro (⟨z1,z2⟩ | z | z)
    ·exact .inl ⟨z1,fun y=>z2 (k2 b y)⟩
    ·exact .inl ⟨k1 b z.1,z.2⟩
    ·exact .inr z
end
end L2.L3
namespace L2.L3
open PySem PySem.Spec PyProof.Rows
noncomputable def Sl.t:Sl->T
 | .own t=>t
 | .bor t=>t
noncomputable def Sl.st:Sl->Bool
 | .own _=>true
 | .bor _=>false
noncomputable abbrev Ft:=Nat->Addr->Prop
structure Rl (K:PySem.W.Frag) (F H:Hp) (S:Ft) (ρ:PSt) (σ:St):Prop where
 fh:Same F H
 len:ρ.length=σ.length
 sl:∀ (i:Nat) s,ρ[i]?=some (some s)->∃ v,σ[i]?=some (some v)/\Tr K F H s.st v s.t (S i)
 dj:∀ (i j:Nat) t s,i≠j->ρ[i]?=some (some (.own t))->ρ[j]?=some (some s)->∀ b,S i b->¬ S j b
noncomputable def U (ρ:PSt) (S:Ft) (b:Addr):Prop:=∃ (i:Nat) (t:T),ρ[i]?=some (some (.own t))/\S i b
structure Stp (F H:Hp) (S:Ft) (ρ:PSt) (F' H':Hp) (S':Ft) (ρ':PSt):Prop where
 ff:Same F F'
 hh:∀ b u,H b=some u->¬ U ρ S b->H' b=some u
 dm:∀ b,H' b=none->H b=none
 fn:∀ b,F b=none->F' b≠none->U ρ S b∨H b=none
 uu:∀ b,U ρ' S' b->U ρ S b∨H b=none
 bo:∀ (j:Nat) t,ρ'[j]?=some (some (.bor t))->t.isD=false->ρ[j]?=some (some (.bor t))/\S' j=S j
structure Ste (F H:Hp) (S:Ft) (ρ:PSt) (F' H':Hp) (S':Ft) (ρ':PSt):Prop extends Stp F H S ρ F' H' S' ρ' where
 ow:∀ (j:Nat) t,ρ'[j]?=some (some (.own t))->∃ t0,ρ[j]?=some (some (.own t0))
section
variable {K:PySem.W.Frag} {F H F1 H1 F2 H2:Hp} {S S1 S2:Ft} {ρ ρ1 ρ2:PSt} {σ:St}
theorem Stp.refl:Stp F H S ρ F H S ρ:=⟨.refl _,fun _ _ h _=>h,fun _ h=>h,fun b h z=>absurd h z,fun _ h=>.inl h,fun _ _ h _=>⟨h,rfl⟩⟩
theorem Ste.refl:Ste F H S ρ F H S ρ:=⟨Stp.refl,fun _ t h=>⟨t,h⟩⟩
theorem Stp.trans (a:Stp F H S ρ F1 H1 S1 ρ1) (b:Stp F1 H1 S1 ρ1 F2 H2 S2 ρ2):Stp F H S ρ F2 H2 S2 ρ2 where
 ff:=a.ff.trans b.ff
 hh:=fun x u h n=>b.hh x u (a.hh x u h n) fun z=>by
  rcases a.uu x z with q | q
  ·exact n q
  ·rw [q] at h; cases h
 dm:=fun x h=>a.dm x (b.dm x h)
 fn:=fun x h z=>by
  by_cases q:F1 x=none
  ·rcases b.fn x q z with w | w
   ·exact a.uu x w
   ·exact .inr (a.dm x w)
  ·exact a.fn x h q
 uu:=fun x h=>by
  rcases b.uu x h with w | w
  ·exact a.uu x w
  ·exact .inr (a.dm x w)
 bo:=fun j t h n=>by
  obtain ⟨h1,h2⟩:=b.bo j t h n
  obtain ⟨h3,h4⟩:=a.bo j t h1 n
  exact ⟨h3,h2.trans h4⟩
theorem Ste.trans (a:Ste F H S ρ F1 H1 S1 ρ1) (b:Ste F1 H1 S1 ρ1 F2 H2 S2 ρ2):Ste F H S ρ F2 H2 S2 ρ2:=⟨a.toStp.trans b.toStp,fun j t h=>by
 obtain ⟨t1,h1⟩:=b.ow j t h
 exact a.ow j t1 h1⟩
theorem Stp.keep (s:Stp F H S ρ F1 H1 S1 ρ1) {st:Bool} {v:V} {t:T} {Z:Addr->Prop} (h:Tr K F H st v t Z) (n:∀ b,Z b->¬ U ρ S b):Tr K F1 H1 st v t Z :=
 h.mono s.ff fun b hb=>by
  obtain ⟨h1,h2⟩:=h.dom b hb
  refine ⟨?_,?_⟩
  ·cases e:H b with
   | none=>exact absurd e h1
   | some u=>exact s.hh b u e (n b hb)
  ·by_cases q:F1 b=none
   ·exact q
   ·rcases s.fn b h2 q with z | z
    ·exact absurd z (n b hb)
    ·exact absurd z h1
theorem Rl.dom (I:Rl K F H S ρ σ) {i:Nat} {s:Sl} (h:ρ[i]?=some (some s)) {b:Addr} (hb:S i b):H b≠none/\F b=none:=by
 obtain ⟨v,_,r⟩:=I.sl i s h
 exact r.dom b hb
theorem Rl.isD (I:Rl K F H S ρ σ) {i:Nat} {s:Sl} (h:ρ[i]?=some (some s)) (hd:s.t.isD=true) {b:Addr}:¬ S i b:=by
 obtain ⟨v,_,r⟩:=I.sl i s h
 generalize s.t=t at r hd
 generalize s.st=st at r
 cases r with
 | d r n=>exact n b
 | _=>cases hd
structure Held (F H:Hp) (S:Ft) (ρ:PSt) (Z:Addr->Prop):Prop where
 dom:∀ b,Z b->H b≠none/\F b=none
 nw:∀ (i:Nat) s,ρ[i]?=some (some s)->∀ b,Z b->¬ S i b
theorem Held.nu {Z:Addr->Prop} (h:Held F H S ρ Z):∀ b,Z b->¬ U ρ S b:=fun b hb ⟨i,t,h1,h2⟩=>h.nw i _ h1 b hb h2
theorem Held.step {Z:Addr->Prop} (h:Held F H S ρ Z) (s:Stp F H S ρ F1 H1 S1 ρ1) (I1:Rl K F1 H1 S1 ρ1 σ):Held F1 H1 S1 ρ1 Z where
 dom:=fun b hb=>by
  obtain ⟨h1,h2⟩:=h.dom b hb
  refine ⟨fun z=>h1 (s.dm b z),?_⟩
  by_cases q:F1 b=none
  ·exact q
  ·rcases s.fn b h2 q with z | z
   ·exact absurd z (h.nu b hb)
   ·exact absurd z h1
 nw:=fun i sl e b hb z=>by
  cases sl with
  | own t =>
   rcases s.uu b ⟨i,t,e,z⟩ with q | q
   ·exact h.nu b hb q
   ·exact (h.dom b hb).1 q
  | bor t =>
   cases hd:t.isD with
   | true=>exact I1.isD e hd z
   | false =>
    obtain ⟨e1,e2⟩:=s.bo i t e hd
    rw [e2] at z
    exact h.nw i _ e1 b hb z
theorem Held.none:Held F H S ρ fun _=>False:=⟨fun _ z=>z.elim,fun _ _ _ _ z=>z.elim⟩
theorem Held.or {Z Y:Addr->Prop} (a:Held F H S ρ Z) (b:Held F H S ρ Y):Held F H S ρ fun x=>Z x∨Y x:=⟨fun x h=>h.elim (a.dom x) (b.dom x),fun i s e x h=>h.elim (a.nw i s e x) (b.nw i s e x)⟩
noncomputable def frzH (F H:Hp) (W:Addr->Prop):Hp:=open Classical in fun b=>if W b then H b else F b
theorem frzH_in {W:Addr->Prop} {b:Addr} (h:W b):frzH F H W b=H b:=if_pos h
theorem frzH_out {W:Addr->Prop} {b:Addr} (h:¬ W b):frzH F H W b=F b:=if_neg h
theorem frzH_ff {W:Addr->Prop} (h:∀ b,W b->F b=none):Same F (frzH F H W):=fun b u e=>by
 rw [frzH_out fun z=>by rw [h b z] at e; cases e]; exact e
theorem frzH_fh {W:Addr->Prop} (f:Same F H):Same (frzH F H W) H:=fun b u e=>by
 by_cases hb:W b
 ·rw [frzH_in hb] at e; exact e
 ·rw [frzH_out hb] at e; exact f b u e
theorem Rl.frz (I:Rl K F H S ρ σ) {W:Addr->Prop} (hw:Held F H S ρ W):Rl K (frzH F H W) H S ρ σ where
 fh:=frzH_fh I.fh
 len:=I.len
 sl:=fun i s e=>by
  obtain ⟨v,h1,h2⟩:=I.sl i s e
  refine ⟨v,h1,h2.mono (frzH_ff fun b hb=>(hw.dom b hb).2) fun b hb=>⟨rfl,?_⟩⟩
  rw [frzH_out fun z=>hw.nw i s e b z hb]
  exact (h2.dom b hb).2
 dj:=I.dj
theorem Stp.frz (s:Stp F H S ρ F1 H1 S1 ρ1) {W:Addr->Prop} (hw:∀ b,W b->F1 b=none) (fr:∀ b,W b->H b=none∨U ρ S b):Stp F H S ρ (frzH F1 H1 W) H1 S1 ρ1 :=
 ⟨s.ff.trans (frzH_ff hw),s.hh,s.dm,fun b h z=>by
  by_cases q:W b
  ·exact (fr b q).symm
  ·rw [frzH_out q] at z; exact s.fn b h z,s.uu,s.bo⟩
theorem Ste.frz (s:Ste F H S ρ F1 H1 S1 ρ1) {W:Addr->Prop} (hw:∀ b,W b->F1 b=none) (fr:∀ b,W b->H b=none∨U ρ S b):Ste F H S ρ (frzH F1 H1 W) H1 S1 ρ1:=⟨s.toStp.frz hw fr,s.ow⟩
theorem Stp.new (s:Stp F H S ρ F1 H1 S1 ρ1) {p:Addr} (h:H1 p=none) (o:HO):Stp F H S ρ F1 (upd H1 p o) S1 ρ1 :=
 ⟨s.ff,fun b u e n=>upd_same' h b u (s.hh b u e n),fun b e=>by
  by_cases hb:b=p
  ·rw [hb,upd_same] at e; cases e
  ·rw [upd_ne hb] at e; exact s.dm b e,s.fn,s.uu,s.bo⟩
theorem Ste.new (s:Ste F H S ρ F1 H1 S1 ρ1) {p:Addr} (h:H1 p=none) (o:HO):Ste F H S ρ F1 (upd H1 p o) S1 ρ1:=⟨s.toStp.new h o,s.ow⟩
theorem Rl.same (I:Rl K F H S ρ σ) (h:Same H H1):Rl K F H1 S ρ σ where
 fh:=I.fh.trans h
 len:=I.len
 sl:=fun i s e=>by
  obtain ⟨v,h1,h2⟩:=I.sl i s e
  refine ⟨v,h1,h2.mono (.refl _) fun b hb=>⟨?_,(h2.dom b hb).2⟩⟩
  cases e:H b with
  | none=>exact absurd e (h2.dom b hb).1
  | some u=>exact h b u e
 dj:=I.dj
theorem Rl.new (I:Rl K F H S ρ σ) {p:Addr} (h:H p=none) (o:HO):Rl K F (upd H p o) S ρ σ:=I.same (upd_same' h)
theorem Stp.newT (s:Stp F H S ρ F1 H1 S1 ρ1) {p:Addr} (h:H1 p=none) (hf:F1 p=none) (o:HO):Stp F H S ρ (upd F1 p o) (upd H1 p o) S1 ρ1 :=
 let s':=s.new h o
 ⟨s.ff.trans (upd_same' hf),s'.hh,s'.dm,fun b e z=>by
  by_cases hb:b=p
  ·rw [hb]; exact .inr (s.dm p h)
  ·rw [upd_ne hb] at z; exact s.fn b e z,s.uu,s.bo⟩
theorem Ste.newT (s:Ste F H S ρ F1 H1 S1 ρ1) {p:Addr} (h:H1 p=none) (hf:F1 p=none) (o:HO):Ste F H S ρ (upd F1 p o) (upd H1 p o) S1 ρ1:=⟨s.toStp.newT h hf o,s.ow⟩
theorem Rl.newT (I:Rl K F H S ρ σ) {p:Addr} (h:H p=none) (o:HO):Rl K (upd F p o) (upd H p o) S ρ σ where
 fh:=fun b u e=>by
  by_cases hb:b=p
  ·rw [hb,upd_same] at e ⊢; exact e
  ·rw [upd_ne hb] at e ⊢; exact I.fh b u e
 len:=I.len
 sl:=fun i s e=>by
  obtain ⟨v,h1,h2⟩:=I.sl i s e
  refine ⟨v,h1,h2.mono (upd_same' (I.fh.free h)) fun b hb=>?_⟩
  have hn:b≠p:=fun z=>(h2.dom b hb).1 (by rw [z]; exact h)
  rw [upd_ne hn,upd_ne hn]
  exact ⟨rfl,(h2.dom b hb).2⟩
 dj:=I.dj
theorem lockA_get (ρ:PSt) (i:Nat):(lockA ρ)[i]?=ρ[i]?.map lockS:=by unfold lockA; rw [List.getElem?_map]
theorem lockA_some {ρ:PSt} {i:Nat} {s:Sl} (h:(lockA ρ)[i]?=some (some s)):∃ s0,ρ[i]?=some (some s0)/\s=.bor s0.t:=by
 rw [lockA_get] at h
 cases e:ρ[i]? with
 | none=>rw [e] at h; cases h
 | some o =>
  rw [e] at h
  cases o with
  | none=>cases h
  | some s0 =>
   cases s0 with
   | own t=>injection h with h; injection h with h; subst h; exact ⟨_,rfl,rfl⟩
   | bor t=>injection h with h; injection h with h; subst h; exact ⟨_,rfl,rfl⟩
theorem lockA_U (b:Addr):¬ U (lockA ρ) S b:=fun ⟨i,t,h,_⟩=>by
 obtain ⟨s0,_,e⟩:=lockA_some h
 cases e
theorem Rl.lockA (I:Rl K F H S ρ σ):Rl K F H S (lockA ρ) σ where
 fh:=I.fh
 len:=by unfold L3.lockA; rw [List.length_map]; exact I.len
 sl:=fun i s e=>by
  obtain ⟨s0,h,rfl⟩:=lockA_some e
  obtain ⟨v,h1,h2⟩:=I.sl i s0 h
  exact ⟨v,h1,h2.weak⟩
 dj:=fun i j t s _ h=>by
  obtain ⟨s0,_,e⟩:=lockA_some h
  cases e
theorem Stp.unlockA (s:Stp F H S (L3.lockA ρ) F1 H1 S1 ρ1):Stp F H S ρ F1 H1 S ρ :=
 ⟨s.ff,fun b u e _=>s.hh b u e (lockA_U b),s.dm,fun b h z=>(s.fn b h z).elim (fun q=>absurd q (lockA_U b)) .inr,fun _ h=>.inl h,fun _ _ h _=>⟨h,rfl⟩⟩
theorem Rl.unlockA (I:Rl K F H S ρ σ) (s:Stp F H S (L3.lockA ρ) F1 H1 S1 ρ1) (f:Same F1 H1):Rl K F1 H1 S ρ σ where
 fh:=f
 len:=I.len
 sl:=fun i sl e=>by
  obtain ⟨v,h1,h2⟩:=I.sl i sl e
  exact ⟨v,h1,s.keep h2 fun b _=>lockA_U b⟩
 dj:=I.dj
structure VR (K:PySem.W.Frag) (vs:List Nat) (H0:Hp) (S0:Ft) (ρ0:PSt) (F H:Hp) (S:Ft) (ρ:PSt) (v:V) (t:T) (n:Bool) (Z:Addr->Prop):Prop where
 tr:Tr K F H n v t Z
 fr:n=true->∀ b,Z b->H0 b=none∨U ρ0 S0 b
 tm:n=false->∀ b,Z b->∃ (i:Nat) (s:Sl),i ∈ vs/\ρ[i]?=some (some s)/\S i b
 nw:n=true->∀ (i:Nat) s,ρ[i]?=some (some s)->∀ b,Z b->¬ S i b
theorem VR.d {vs:List Nat} {H0:Hp} {S0:Ft} {ρ0:PSt} {v:V} {x:D} (n:Bool) (r:Rep K F v x):VR K vs H0 S0 ρ0 F H S ρ v (.d x) n (fun _=>False) :=
 ⟨.d r fun _ z=>z,fun _ _ z=>z.elim,fun _ _ z=>z.elim,fun _ _ _ _ _ z=>z.elim⟩
theorem VR.held {vs:List Nat} {H0:Hp} {S0:Ft} {ρ0:PSt} {v:V} {t:T} {Z:Addr->Prop} (h:VR K vs H0 S0 ρ0 F H S ρ v t true Z):Held F H S ρ Z:=⟨fun b hb=>h.tr.dom b hb,h.nw rfl⟩
theorem VR.vars {vs ws:List Nat} {H0:Hp} {S0:Ft} {ρ0:PSt} {v:V} {t:T} {n:Bool} {Z:Addr->Prop} (h:VR K vs H0 S0 ρ0 F H S ρ v t n Z) (k:∀ i ∈ vs,i ∈ ws):VR K ws H0 S0 ρ0 F H S ρ v t n Z :=
 ⟨h.tr,h.fr,fun e b hb=>let ⟨i,s,h1,h2⟩:=h.tm e b hb; ⟨i,s,k i h1,h2⟩,h.nw⟩
theorem VR.from {vs:List Nat} {v:V} {t:T} {n:Bool} {Z:Addr->Prop} (s:Stp F H S ρ F1 H1 S1 ρ1) (h:VR K vs H1 S1 ρ1 F2 H2 S2 ρ2 v t n Z):VR K vs H S ρ F2 H2 S2 ρ2 v t n Z :=
 ⟨h.tr,fun e b hb=>by
  rcases h.fr e b hb with q | q
  ·exact .inl (s.dm b q)
  ·exact (s.uu b q).symm,h.tm,h.nw⟩
theorem VR.frz {vs:List Nat} {v:V} {t:T} {n:Bool} {Z:Addr->Prop} (s:Ste F H S ρ F1 H1 S1 ρ1) (I:Rl K F1 H1 S1 ρ1 σ) (h:VR K vs H S ρ F1 H1 S1 ρ1 v t n Z) :
  ∃ F2 Z2,Ste F H S ρ F2 H1 S1 ρ1/\Rl K F2 H1 S1 ρ1 σ/\Tr K F2 H1 false v (frzN t n) Z2/\(esc t n=true->Rep K F2 v t.er)/\(∀ b,Z2 b->∃ (i:Nat) (s:Sl),i ∈ vs/\ρ1[i]?=some (some s)/\S1 i b) /\
   ∀ st v' t' Z',Tr K F1 H1 st v' t' Z'->(∀ b,Z' b->∃ (i:Nat) (s:Sl),ρ1[i]?=some (some s)/\S1 i b)->Tr K F2 H1 st v' t' Z':=by
 cases n with
 | true =>
  have hw:=h.held
  have ff:=frzH_ff (H:=H1) fun b hb=>(hw.dom b hb).2
  have kp:=h.tr.kept ff fun b u hb e=>by rw [frzH_in hb]; exact e
  refine ⟨frzH F1 H1 Z,fun _=>False,s.frz (fun b hb=>(hw.dom b hb).2) (h.fr rfl),I.frz hw,.d kp fun _ z=>z,fun _=>kp,fun b z=>z.elim,fun st v' t' Z' r hz=>r.mono ff fun b hb=>⟨rfl,?_⟩⟩
  obtain ⟨i,sl,h1,h2⟩:=hz b hb
  rw [frzH_out fun z=>hw.nw i sl h1 b z h2]
  exact (r.dom b hb).2
 | false =>
  refine ⟨F1,Z,s,I,h.tr,?_,h.tm rfl,fun _ _ _ _ r _=>r⟩
  intro e
  have tr:=h.tr
  cases t with
  | d x=>cases tr with | d r n=>exact r
  | _=>cases e
end
end L2.L3
namespace L2.L3
open PySem PySem.Spec PyProof.Rows
noncomputable abbrev Kont (K:PySem.W.Frag) (vs:List Nat) (F H:Hp) (S:Ft) (ρ:PSt) (σ:St) (Q:TK) (R:VK):Prop :=
 ∀ v F' H' S' ρ' t n Z,Ste F H S ρ F' H' S' ρ'->Rl K F' H' S' ρ' σ->VR K vs H S ρ F' H' S' ρ' v t n Z->Q t n ρ'->R v H'
noncomputable abbrev KontB (K:PySem.W.Frag) (F H:Hp) (S:Ft) (ρ:PSt) (σ:St) (Q:Bool->PSt->Prop) (R:Bool->Hp->Prop):Prop :=
 ∀ b F' H' S' ρ',Ste F H S ρ F' H' S' ρ'->Rl K F' H' S' ρ' σ->Q b ρ'->R b H'
section
variable {K:PySem.W.Frag} {ws:List Nat} {F H F1 H1:Hp} {S S1:Ft} {ρ ρ1:PSt} {σ:St} {v w:V} {a b:T} {Za Zb:Addr->Prop} {Q:TK} {R:VK} {sa sb:Bool}
theorem Kont.from {F2 H2:Hp} {S2:Ft} {ρ2:PSt} (k:Kont K ws F H S ρ σ Q R) (s:Ste F H S ρ F2 H2 S2 ρ2):Kont K ws F2 H2 S2 ρ2 σ Q R:=fun v F' H' S' ρ' t n Z s' I' r q=>k v F' H' S' ρ' t n Z (s.trans s') I' (r.from s.toStp) q
theorem KontB.from {F2 H2:Hp} {S2:Ft} {ρ2:PSt} {Q:Bool->PSt->Prop} {R:Bool->Hp->Prop} (k:KontB K F H S ρ σ Q R) (s:Ste F H S ρ F2 H2 S2 ρ2):KontB K F2 H2 S2 ρ2 σ Q R:=fun b F' H' S' ρ' s' I' q=>k b F' H' S' ρ' (s.trans s') I' q
theorem Kont.vars {us:List Nat} (k:Kont K ws F H S ρ σ Q R) (h:∀ i ∈ us,i ∈ ws):Kont K us F H S ρ σ Q R:=fun v F' H' S' ρ' t n Z s I r q=>k v F' H' S' ρ' t n Z s I (r.vars h) q
theorem Kont.d (k:Kont K ws F H S ρ σ Q R) (s:Ste F H S ρ F1 H1 S1 ρ1) (I:Rl K F1 H1 S1 ρ1 σ) {x:D} {n:Bool} (r:Rep K F1 v x) (q:Q (.d x) n ρ1):R v H1:=k v F1 H1 S1 ρ1 _ n _ s I (VR.d n r) q
theorem Kont.list (k:Kont K ws F H S ρ σ Q R) (s:Ste F H S ρ F1 H1 S1 ρ1) (I:Rl K F1 H1 S1 ρ1 σ) {p:Addr} (hp:H1 p=none) {vs:List V} {ts:List T} {W:Addr->Prop} (r:Trs K F1 H1 true vs ts W)
  (fr:∀ b,W b->H b=none∨U ρ S b) (hw:Held F1 H1 S1 ρ1 W) (q:Q (.lst ts) true ρ1):R (.ref p) (upd H1 p (.lst vs)):=by
 have np:∀ b,H1 b≠none->b≠p:=fun b h z=>h (by rw [z]; exact hp)
 refine k _ F1 _ S1 ρ1 _ true (fun b=>b=p∨W b) (s.new hp _) (I.new hp _) ⟨.lst upd_same (I.fh.free hp) (r.mono (.refl _) fun b hb=>⟨?_,(hw.dom b hb).2⟩) (fun z=>(hw.dom p z).1 hp) (fun b=>Iff.rfl),fun _ b hb=>?_,fun z=>(by cases z),fun _ i sl e b hb z=>?_⟩ q
 ·rw [upd_ne (np b (hw.dom b hb).1)]
 ·rcases hb with rfl | hb
  ·exact .inl (s.dm _ hp)
  ·exact fr b hb
 ·rcases hb with rfl | hb
  ·exact (I.dom e z).1 hp
  ·exact hw.nw i sl e b hb z
theorem Kont.listD (k:Kont K ws F H S ρ σ Q R) (s:Ste F H S ρ F1 H1 S1 ρ1) (I:Rl K F1 H1 S1 ρ1 σ) {p:Addr} (hp:H1 p=none) {vs:List V} {ds:List D} (r:Reps K F1 vs ds) (q:Q (.lst (ds.map T.d)) true ρ1):R (.ref p) (upd H1 p (.lst vs)) :=
 k.list s I hp (Trs.of_reps r) (fun b z=>z.elim) .none q
theorem Kont.tupD (k:Kont K ws F H S ρ σ Q R) (s:Ste F H S ρ F1 H1 S1 ρ1) (I:Rl K F1 H1 S1 ρ1 σ) {p:Addr} (hp:H1 p=none) {vs:List V} {ds:List D} {n:Bool} (r:Reps K F1 vs ds) (q:Q (.d (.tuple ds)) n ρ1):R (.ref p) (upd H1 p (.tup vs)) :=
 Kont.d k (s.newT hp (I.fh.free hp) _) (I.newT hp _) (.tup (SqT.of upd_same) (r.mono (upd_same' (I.fh.free hp)))) q
theorem Kont.tup (k:Kont K ws F H S ρ σ Q R) (s:Ste F H S ρ F1 H1 S1 ρ1) (I:Rl K F1 H1 S1 ρ1 σ) {p:Addr} (hp:H1 p=none) {vs:List V} {ts:List T} {W:Addr->Prop} (r:Trs K F1 H1 true vs ts W)
  (fr:∀ b,W b->H b=none∨U ρ S b) (hw:Held F1 H1 S1 ρ1 W) (q:Q (mkTup ts) true ρ1):R (.ref p) (upd H1 p (.tup vs)):=by
 unfold mkTup at q
 cases e:unD ts with
 | some ds =>
  rw [e] at q
  exact k.tupD s I hp (r.un e).1 q
 | none =>
  rw [e] at q
  have np:∀ b,H1 b≠none->b≠p:=fun b h z=>h (by rw [z]; exact hp)
  refine k _ F1 _ S1 ρ1 _ true (fun b=>b=p∨W b) (s.new hp _) (I.new hp _) ⟨.tup upd_same (I.fh.free hp) (r.mono (.refl _) fun b hb=>⟨?_,(hw.dom b hb).2⟩) (fun z=>(hw.dom p z).1 hp) (fun b=>Iff.rfl),fun _ b hb=>?_,fun z=>(by cases z),fun _ i sl e b hb z=>?_⟩ q
  ·rw [upd_ne (np b (hw.dom b hb).1)]
  ·rcases hb with rfl | hb
   ·exact .inl (s.dm _ hp)
   ·exact fr b hb
  ·rcases hb with rfl | hb
   ·exact (I.dom e z).1 hp
   ·exact hw.nw i sl e b hb z
theorem Reps.rep {vs:List V} {ds:List D} (h:Reps K F vs ds):∀ (k:Nat),Reps K F (List.replicate k vs).flatten (List.replicate k ds).flatten
 | 0=>.nil
 | k+1=>by
  rw [List.replicate_succ,List.replicate_succ,List.flatten_cons,List.flatten_cons]
  exact h.append (Reps.rep h k)
theorem bin_ok {op:Operator} (s:Ste F H S ρ F1 H1 S1 ρ1) (I:Rl K F1 H1 S1 ρ1 σ) (ra:Tr K F1 H1 sa v a Za) (rb:Tr K F1 H1 sb w b Zb) (h:binT op a.vw b.vw fun z n=>Q z n ρ1) (k:Kont K ws F H S ρ σ Q R):binR K op v w H1 R:=by
 have ii:∀ {i j:Int},a.vw=.sc (.int i)->b.vw=.sc (.int j)->v=.int i/\w=.int j:=fun ea eb=>⟨ra.int ea,rb.int eb⟩
 cases op with
 | Add =>
  rcases h with ⟨i,j,ea,eb,h⟩ | ⟨x,y,ea,eb,h⟩ | ⟨xs0,ys0,ds,es,ea,eb,e1,e2,hl,q⟩ | ⟨xs0,ys0,ds,es,ea,eb,e1,e2,hn,hn2,hl,q⟩
  ·obtain ⟨rfl,rfl⟩:=ii ea eb
   exact k.d s I (.int _) h
  ·obtain rfl:=ra.str ea
   obtain rfl:=rb.str eb
   exact ⟨h.1,k.d s I (.str _) h.2⟩
  ·obtain ⟨p,xs,_,rfl,hp,rp,_⟩:=ra.ls I.fh ea
   obtain ⟨p2,ys,_,rfl,hq,rq,_⟩:=rb.ls I.fh eb
   have r1:=(rp.un e1).1
   have r2:=(rq.un e2).1
   exact .inl ⟨xs,ys,hp,hq,by rw [r1.length,r2.length]; exact hl,fun l hl=>k.listD s I hl (r1.append r2) q⟩
  ·obtain ⟨p,xs,_,rfl,hp,rp,_⟩:=ra.tp I.fh ea
   obtain ⟨p2,ys,_,rfl,hq,rq,_⟩:=rb.tp I.fh eb
   have r1:=(rp.un e1).1
   have r2:=(rq.un e2).1
   refine .inr ⟨p,p2,xs,ys,rfl,rfl,hp,hq,?_,by rw [r1.length,r2.length]; exact hl,fun z=>?_,fun _ l hl=>?_⟩
   ·intro z
    subst z
    cases r1
    exact hn rfl
   ·subst z
    cases r2
    exact absurd rfl hn2
   ·exact k.tupD s I hl (r1.append r2) q
 | Sub =>
  obtain ⟨i,j,ea,eb,h⟩:=h
  obtain ⟨rfl,rfl⟩:=ii ea eb
  exact k.d s I (.int _) h
 | Mult =>
  rcases h with ⟨i,j,ea,eb,h⟩ | ⟨x,y,ea,eb,h⟩ | ⟨us,ds,n,ea,eb,e1,⟨h1,h2,h3⟩,q⟩
  ·obtain ⟨rfl,rfl⟩:=ii ea eb
   exact ⟨h.1,k.d s I (.int _) h.2⟩
  ·obtain rfl:=ra.str ea
   obtain rfl:=rb.int eb
   exact ⟨h.1,k.d s I (.str _) h.2⟩
  ·obtain ⟨p,xs,_,rfl,hp,rp,_⟩:=ra.ls I.fh ea
   obtain rfl:=rb.int eb
   have r1:=(rp.un e1).1
   exact ⟨xs,hp,⟨h1,h2,by rw [r1.length]; exact h3⟩,fun l hl=>k.listD s I hl (r1.rep _) q⟩
 | FloorDiv =>
  obtain ⟨i,j,ea,eb,h⟩:=h
  obtain ⟨rfl,rfl⟩:=ii ea eb
  exact ⟨h.1,k.d s I (.int _) h.2⟩
 | Mod =>
  obtain ⟨i,j,ea,eb,h⟩:=h
  obtain ⟨rfl,rfl⟩:=ii ea eb
  exact ⟨h.1,k.d s I (.int _) h.2⟩
 | Pow =>
  obtain ⟨i,j,ea,eb,h⟩:=h
  obtain ⟨rfl,rfl⟩:=ii ea eb
  exact ⟨h.1,k.d s I (.int _) h.2⟩
 | _=>exact h.elim
theorem eq_ok {x y:D} {QB:Bool->Prop} (neg:Bool) (ra:Rep K H1 v x) (rb:Rep K H1 w y) (h:eqD x y fun k=>QB (if neg then !k else k)) (k:∀ c,QB c->R (.bl c) H1):rEq K neg v w H1 R:=by
 have gen:okD x/\okD y/\QB (if neg then !PyData.eqv x y else PyData.eqv x y)->(∃ dx dy,Rep K H1 v dx/\Rep K H1 w dy/\okD dx/\okD dy/\R (.bl (if neg then !PyData.eqv dx dy else PyData.eqv dx dy)) H1):=fun ⟨o1,o2,q⟩ =>
  ⟨x,y,ra,rb,o1,o2,k _ q⟩
 unfold eqD at h
 split at h
 ·cases ra; cases rb
  exact k _ h
 ·cases ra; cases rb
  exact k _ h
 ·cases ra; cases rb
  exact k _ h
 ·have g:=gen h
  rename_i n1 n2 n3
  cases ra with
  | int i =>
   cases rb with
   | int j=>exact absurd rfl (n1 i j rfl)
   | _=>exact g
  | str i =>
   cases rb with
   | str j=>exact absurd rfl (n2 i j rfl)
   | _=>exact g
  | bl i =>
   cases rb with
   | bl j=>exact absurd rfl (n3 i j rfl)
   | _=>exact g
  | _=>exact g
theorem flat_rep {F:Hp} {v w:V} {a b:D} (ra:Rep K F v a) (rb:Rep K F w b) (fa:flatD a=true) (fb:flatD b=true):eqV v w=PyData.eqv a b:=by
 cases ra<;>cases rb<;>first | exact absurd (show false=true from fa) Bool.false_ne_true | exact absurd (show false=true from fb) Bool.false_ne_true | (simp only [eqV,PyData.eqv])
theorem flat_v {F:Hp} {v:V} {a:D} (ra:Rep K F v a) (fa:flatD a=true):flatV v=true:=by
 cases ra<;>first | rfl | exact absurd (show false=true from fa) Bool.false_ne_true
theorem flat_all {F:Hp}:∀ {vs:List V} {ds:List D},Reps K F vs ds->ds.all flatD=true->vs.all flatV=true
 | _,_,.nil,_=>rfl
 | _,_,.cons h t,f=>by
  rw [List.all_cons,Bool.and_eq_true] at f ⊢
  exact ⟨flat_v h f.1,flat_all t f.2⟩
theorem flat_any {F:Hp} {v:V} {a:D} (ra:Rep K F v a) (fa:flatD a=true):∀ {vs:List V} {ds:List D},Reps K F vs ds->ds.all flatD=true->inV v vs=ds.any fun y=>PyData.eqv y a
 | _,_,.nil,_=>rfl
 | _,_,.cons h t,f=>by
  rw [List.all_cons,Bool.and_eq_true] at f
  have e:=flat_any ra fa t f.2
  unfold inV at e ⊢
  rw [List.any_cons,List.any_cons,flat_rep h ra f.1 fa,e]
theorem in_ok {x y:D} {QB:Bool->Prop} (neg:Bool) (ra:Rep K H1 v x) (rb:Rep K H1 w y) (h:inD x y fun k=>QB (if neg then !k else k)) (k:∀ c,QB c->R (.bl c) H1):rInU K neg v w H1 R:=by
 unfold inD at h
 split at h
 ·cases ra; cases rb
  exact k _ h
 ·rename_i ds
  have rb':=rb
  cases rb with
  | lst hp rp =>
   rcases h.1 with ⟨fa,fs⟩ | ⟨o1,o2⟩
   ·refine .inl ⟨_,_,rfl,.inl hp,flat_v ra fa,flat_all rp fs,?_⟩
    rw [flat_any ra fa rp fs]
    exact k _ h.2
   ·exact .inr ⟨_,ds,ra,.inl rb',o1,o2,k _ h.2⟩
 ·rename_i ds
  have rb':=rb
  cases rb with
  | tup hp rp =>
   rcases h.1 with ⟨fa,fs⟩ | ⟨o1,o2⟩
   ·refine .inl ⟨_,_,rfl,.inr hp,flat_v ra fa,flat_all rp fs,?_⟩
    rw [flat_any ra fa rp fs]
    exact k _ h.2
   ·exact .inr ⟨_,ds,ra,.inr rb',o1,o2,k _ h.2⟩
 ·exact h.elim
theorem ord_ok {x y:D} {QB:Bool->Prop} {g:Int->Int->Bool} (ra:Rep K H1 v x) (rb:Rep K H1 w y) (h:ordD g x y QB) (k:∀ c,QB c->R (.bl c) H1):rOrd g v w H1 R:=by
 unfold ordD at h
 split at h
 ·cases ra; cases rb
  exact k _ h
 ·exact h.elim
theorem Rep.non_iff {x:D} (h:Rep K H1 v x):decide (v=.non)=isNonD x:=by cases h<;>rfl
theorem cmp_ok {x y:D} {op:CmpOp} {QB:Bool->Prop} (ra:Rep K H1 v x) (rb:Rep K H1 w y) (h:cmpD op x y QB) (k:∀ c,QB c->R (.bl c) H1):cmpR K op v w H1 R:=by
 cases op with
 | Eq=>exact eq_ok false ra rb h k
 | NotEq=>exact eq_ok true ra rb h k
 | Lt=>exact ord_ok ra rb h k
 | LtE=>exact ord_ok ra rb h k
 | Gt=>exact ord_ok ra rb h k
 | GtE=>exact ord_ok ra rb h k
 | In=>exact in_ok false ra rb h k
 | NotIn=>exact in_ok true ra rb h k
 | Is =>
  have h':isND x y QB:=h
  unfold isND at h'
  split at h'
  ·cases rb
   have e:=ra.non_iff
   show R (.bl (decide (v=.non))) H1
   rw [e]
   exact k _ h'
  ·exact h'.elim
 | IsNot =>
  have h':isND x y fun k=>QB (!k):=h
  unfold isND at h'
  split at h'
  ·cases rb
   have e:=ra.non_iff
   show R (.bl (!decide (v=.non))) H1
   rw [e]
   exact k _ h'
  ·exact h'.elim
theorem isEmpty_reps {xs:List V} {ds:List D} (r:Reps K F xs ds):(!ds.isEmpty)=!xs.isEmpty:=by
 cases r<;>rfl
theorem tru_okD {x:D} {QB:Bool->Prop} {RB:Bool->Hp->Prop} (ra:Rep K H1 v x) (h:truD x QB) (k:∀ c,QB c->RB c H1):truQ K v H1 RB:=by
 unfold truD at h
 split at h
 ·cases ra; exact k _ h
 ·cases ra; exact k _ h
 ·cases ra; exact k _ h
 ·cases ra; exact ⟨h.1,k _ h.2⟩
 ·cases ra with
  | lst hp rp =>
   rw [isEmpty_reps rp] at h
   exact ⟨_,.inl ⟨_,hp,rfl⟩,k _ h⟩
 ·cases ra with
  | tup hp rp =>
   rw [isEmpty_reps rp] at h
   exact ⟨_,.inr (.inl ⟨_,hp,rfl⟩),k _ h⟩
 ·exact h.elim
theorem as_okD {x:D} {QB:Bool->Prop} {RB:Bool->Hp->Prop} (ra:Rep K H1 v x) (h:asD x QB) (k:∀ c,QB c->RB c H1):asB v H1 RB:=by
 unfold asD at h
 split at h
 ·cases ra; exact k _ h
 ·exact h.elim
theorem idx_ok (s:Ste F H S ρ F1 H1 S1 ρ1) (I:Rl K F1 H1 S1 ρ1 σ) (ra:Tr K F1 H1 sa v a Za) (za:∀ b,Za b->∃ (i:Nat) (s:Sl),i ∈ ws/\ρ1[i]?=some (some s)/\S1 i b) (rb:Tr K F1 H1 sb w b Zb) (h:idxT a.vw b.vw fun z=>Q z false ρ1) (k:Kont K ws F H S ρ σ Q R):rIxU K v w H1 R:=by
 rcases h with ⟨z,i,c,ea,eb,h1,h2,q⟩ | ⟨ts,i,d,ea,eb,h1,q⟩ | ⟨ts,i,d,ea,eb,h1,q⟩
 ·obtain rfl:=ra.str ea
  obtain rfl:=rb.int eb
  exact ⟨h1,c,h2,k.d s I (.str _) q⟩
 ·obtain ⟨p,xs,Z',rfl,hp,rp,hz⟩:=ra.ls I.fh ea
  obtain rfl:=rb.int eb
  obtain ⟨x,Z,h2,r,hz2⟩:=rp.at h1
  exact ⟨xs,x,.inl hp,h2,k _ F1 H1 S1 ρ1 _ false Z s I ⟨r,fun z=>(by cases z),fun _ b hb=>za b (hz b (hz2 b hb)),fun z=>(by cases z)⟩ q⟩
 ·obtain ⟨p,xs,Z',rfl,hp,rp,hz⟩:=ra.tp I.fh ea
  obtain rfl:=rb.int eb
  obtain ⟨x,Z,h2,r,hz2⟩:=rp.at h1
  exact ⟨xs,x,.inr hp,h2,k _ F1 H1 S1 ρ1 _ false Z s I ⟨r,fun z=>(by cases z),fun _ b hb=>za b (hz b (hz2 b hb)),fun z=>(by cases z)⟩ q⟩
theorem Reps.cut {xs:List V} {ds:List D} (r:Reps K F xs ds) (lo hi:Option Int):Reps K F (cutV xs lo hi) (cutD ds lo hi):=by
 unfold cutV cutD
 rw [r.length]
 exact (r.drop _).take _
theorem slc_ok {lo hi:Option Int} (s:Ste F H S ρ F1 H1 S1 ρ1) (I:Rl K F1 H1 S1 ρ1 σ) (ra:Tr K F1 H1 sa v a Za) (h:slcT a.vw lo hi fun z n=>Q z n ρ1) (k:Kont K ws F H S ρ σ Q R):rSl K v lo hi H1 R:=by
 rcases h with ⟨z,ea,h⟩ | ⟨ts,ds,ea,e,q⟩ | ⟨ts,ds,ea,e,n,q⟩
 ·obtain rfl:=ra.str ea
  exact ⟨h.1,k.d s I (.str _) h.2⟩
 ·obtain ⟨p,xs,_,rfl,hp,rp,_⟩:=ra.ls I.fh ea
  exact .inl ⟨p,xs,rfl,hp,fun l hl=>k.listD s I hl ((rp.un e).1.cut _ _) q⟩
 ·obtain ⟨p,xs,_,rfl,hp,rp,_⟩:=ra.tp I.fh ea
  refine .inr ⟨p,xs,rfl,hp,by rw [(rp.un e).1.length]; exact n,fun l hl=>k.tupD s I hl ((rp.un e).1.cut _ _) q⟩
theorem part_ok {x:D} {P:Option Int->Prop} {RP:Option Int->Hp->Prop} (ra:Rep K H1 v x) (h:partD x P) (k:∀ o,P o->RP o H1):partQ v H1 RP:=by
 unfold partD at h
 split at h
 ·cases ra; exact k _ h
 ·exact h.elim
noncomputable def tyD:D->Value
 | .none=>.type "NoneType"
 | .bool _=>.type "bool"
 | .int _=>.type "int"
 | .str _=>.type "str"
 | .list _=>.type "list"
 | .tuple _=>.type "tuple"
 | .dict _=>.type "dict"
theorem Rep.ty {x:D} (ra:Rep K H1 v x):TyOf K H1 v (tyD x)∨TyQ K H1 v (tyD x):=by
 cases ra with
 | non=>exact .inl .non
 | bl b=>exact .inl (.bl _)
 | int b=>exact .inl (.int _)
 | str b=>exact .inl (.str _)
 | lst hp rp=>exact .inr (.inl ⟨_,_,rfl,hp,rfl⟩)
 | tup hp rp=>exact .inr (.inr ⟨_,_,rfl,hp,rfl⟩)
theorem kit_ok {x:D} {n:String} {k:Bool} (h:isD n x=some k) (ht:isTyN n=true):PySem.W.kitOne K (tyD x) (.type n)=some k:=by
 simp only [isTyN,Bool.or_eq_true,beq_iff_eq] at ht
 rcases ht with ((((rfl | rfl) | rfl) | rfl) | rfl) | rfl<;>cases x<;>simp [isD] at h<;>subst h<;>rfl
theorem isi_ok {x:D} {n:String} {k:Bool} (ra:Rep K H1 v x) (h:isD n x=some k) (ht:isTyN n=true) (q:R (.bl k) H1):rIsI K [v,.ty n] H1 R :=
 ⟨tyD x,.type n,k,ra.ty,rfl,kit_ok h ht,q⟩
inductive Tn (K:PySem.W.Frag) (F H:Hp) (Y:Addr->Prop):List V->List T->Prop where
 | nil:Tn K F H Y [] []
 | cons {v:V} {t:T} {vs:List V} {ts:List T} {Z:Addr->Prop}:Tr K F H false v t Z->(∀ b,Z b->Y b)->Tn K F H Y vs ts->Tn K F H Y (v::vs) (t::ts)
theorem vw_map (ts:List T):∀ {xs:List (T × Bool)},fzOf xs=ts->vwOf xs=ts.map T.vw
 | [],h=>by subst h; rfl
 | p::r,h=>by subst h; simp only [vwOf,fzOf,List.map_cons,vw_map _ rfl]
theorem Tn.one {Y:Addr->Prop} {vs:List V} {ts:List T} {x:Vw} (h:Tn K F H Y vs ts) (e:ts.map T.vw=[x]):∃ v t Z,vs=[v]/\ts=[t]/\t.vw=x/\Tr K F H false v t Z/\∀ b,Z b->Y b:=by
 cases h with
 | nil=>cases e
 | cons r z t =>
  simp only [List.map_cons,List.cons.injEq] at e
  cases t with
  | nil=>exact ⟨_,_,_,rfl,rfl,e.1,r,z⟩
  | cons _ _ _=>simp at e
theorem Tn.two {Y:Addr->Prop} {vs:List V} {ts:List T} {x y:Vw} (h:Tn K F H Y vs ts) (e:ts.map T.vw=[x,y]):∃ v w t u Z Z',vs=[v,w]/\ts=[t,u]/\t.vw=x/\u.vw=y/\Tr K F H false v t Z/\Tr K F H false w u Z'/\(∀ b,Z b->Y b)/\(∀ b,Z' b->Y b):=by
 cases h with
 | nil=>cases e
 | cons r z t =>
  simp only [List.map_cons,List.cons.injEq] at e
  obtain ⟨v,u,Z',rfl,rfl,h1,h2,h3⟩:=t.one e.2
  exact ⟨_,_,_,_,_,_,rfl,rfl,e.1,h1,r,h2,z,h3⟩
theorem bi_okT {bi:Bi} {Y:Addr->Prop} {vs:List V} {ts:List T} (s:Ste F H S ρ F1 H1 S1 ρ1) (I:Rl K F1 H1 S1 ρ1 σ) (ra:Tn K F1 H1 Y vs ts) (h:biT bi (ts.map T.vw) fun z n=>Q z n ρ1) (k:Kont K ws F H S ρ σ Q R):biR K bi vs H1 R:=by
 cases bi with
 | len =>
  rcases h with ⟨z,e,h⟩ | ⟨us,e,h⟩ | ⟨us,e,h⟩
  ·obtain ⟨v,t,Z,rfl,rfl,e,r,_⟩:=ra.one e
   obtain rfl:=r.str e
   exact ⟨h.1,k.d s I (.int _) h.2⟩
  ·obtain ⟨v,t,Z,rfl,rfl,e,r,_⟩:=ra.one e
   obtain ⟨p,xs,_,rfl,hp,rp,_⟩:=r.ls I.fh e
   exact .inl ⟨xs,hp,by rw [rp.length]; exact k.d s I (.int _) h⟩
  ·obtain ⟨v,t,Z,rfl,rfl,e,r,_⟩:=ra.one e
   obtain ⟨p,xs,_,rfl,hp,rp,_⟩:=r.tp I.fh e
   exact .inr ⟨xs,hp,by rw [rp.length]; exact k.d s I (.int _) h⟩
 | all =>
  obtain ⟨us,bs,e,hb,q⟩:=h
  obtain ⟨v,t,Z,rfl,rfl,e,r,_⟩:=ra.one e
  obtain ⟨p,xs,_,rfl,hp,rp,_⟩:=r.ls I.fh e
  obtain rfl:=(rp.un hb).1.bools
  exact ⟨bs,hp,k.d s I (.bl _) q⟩
 | int =>
  rcases h with ⟨i,e,h⟩ | ⟨b,e,h⟩ | ⟨z,n,e,h1,h2,q⟩
  ·obtain ⟨v,t,Z,rfl,rfl,e,r,_⟩:=ra.one e
   obtain rfl:=r.int e
   exact k.d s I (.int _) h
  ·obtain ⟨v,t,Z,rfl,rfl,e,r,_⟩:=ra.one e
   obtain rfl:=r.bool e
   exact k.d s I (.int _) h
  ·obtain ⟨v,t,Z,rfl,rfl,e,r,_⟩:=ra.one e
   obtain rfl:=r.str e
   exact ⟨h1,n,h2,k.d s I (.int _) q⟩
 | str =>
  rcases h with ⟨i,e,h⟩ | ⟨z,e,h⟩
  ·obtain ⟨v,t,Z,rfl,rfl,e,r,_⟩:=ra.one e
   obtain rfl:=r.int e
   exact ⟨h.1,k.d s I (.str _) h.2⟩
  ·obtain ⟨v,t,Z,rfl,rfl,e,r,_⟩:=ra.one e
   obtain rfl:=r.str e
   exact k.d s I (.str _) h
 | min =>
  obtain ⟨i,j,e,h⟩:=h
  obtain ⟨v,w,t,u,Z,Z',rfl,rfl,e1,e2,r1,r2,_,_⟩:=ra.two e
  obtain rfl:=r1.int e1
  obtain rfl:=r2.int e2
  exact k.d s I (.int _) h
 | tuple =>
  obtain ⟨us,ds,e,hb,q⟩:=h
  obtain ⟨v,t,Z,rfl,rfl,e,r,_⟩:=ra.one e
  obtain ⟨p,xs,_,rfl,hp,rp,_⟩:=r.ls I.fh e
  exact ⟨xs,.inl ⟨hp,fun l hl=>k.tupD s I hl (rp.un hb).1 q⟩⟩
theorem mt_okT {m:Mt} {Y:Addr->Prop} {vs:List V} {ts:List T} (s:Ste F H S ρ F1 H1 S1 ρ1) (I:Rl K F1 H1 S1 ρ1 σ) (rv:Tr K F1 H1 sa v a Za) (ra:Tn K F1 H1 Y vs ts) (h:mtT m a.vw (ts.map T.vw) fun z n=>Q z n ρ1) (k:Kont K ws F H S ρ σ Q R):mtR K m v vs H1 R:=by
 cases m with
 | split =>
  obtain ⟨z,y,ea,e,h⟩:=h
  obtain ⟨w,t,Z,rfl,rfl,e,r,_⟩:=ra.one e
  obtain rfl:=rv.str ea
  obtain rfl:=r.str e
  exact ⟨h.1,h.2.1,h.2.2.1,fun p hp=>k.listD s I hp (Reps.map_str _) h.2.2.2⟩
 | join =>
  obtain ⟨z,us,ys,ea,e,hu,hz,q⟩:=h
  obtain ⟨w,t,Z,rfl,rfl,e,r,_⟩:=ra.one e
  obtain rfl:=rv.str ea
  obtain ⟨p,xs,_,rfl,hp,rp,_⟩:=r.ls I.fh e
  obtain rfl:=(rp.un hu).1.strs
  exact ⟨ys,hp,hz,k.d s I (.str _) q⟩
 | append=>exact h.elim
theorem isS_i {x:Vw} (h:x.isS=true):∃ z,x=.sc (.str z):=by
 cases x with
 | sc d=>cases d with
  | str z=>exact ⟨z,rfl⟩
  | _=>exact (Bool.false_ne_true h).elim
 | _=>exact (Bool.false_ne_true h).elim
theorem mt_ty {m:Mt} (rv:Tr K F1 H1 sa v a Za) (h:mtTy m a.vw=true):tyV K m.ty v H1:=by
 have h:=and2 h
 obtain ⟨z,ea⟩:=isS_i h.1
 obtain rfl:=rv.str ea
 cases m with
 | append=>exact (Bool.false_ne_true h.2).elim
 | _=>rfl
end
end L2.L3
namespace L2.L3
open PySem PySem.Spec PyProof.Rows
inductive AV (K:PySem.W.Frag) (F H:Hp):List Md->List V->List (T × Bool)->(Addr->Prop)->(Addr->Prop)->Prop where
 | nil {md:List Md} {W Y:Addr->Prop}:(∀ b,¬ W b)->AV K F H md [] [] W Y
 | chg {md:List Md} {v:V} {vs:List V} {x:T} {xs:List (T × Bool)} {W Y:Addr->Prop}:(md.headD .fro).isMut=true->AV K F H md.tail vs xs W Y->AV K F H md (v::vs) ((x,true)::xs) W Y
 | new {md:List Md} {v:V} {vs:List V} {x:T} {xs:List (T × Bool)} {Z W W' Y:Addr->Prop}:(md.headD .fro).isMut=false->Tr K F H true v x Z->AV K F H md.tail vs xs W' Y->(∀ b,Z b->¬ W' b)->(∀ b,W b ↔ Z b∨W' b) ->
   AV K F H md (v::vs) ((x,true)::xs) W Y
 | tmp {md:List Md} {v:V} {vs:List V} {x:T} {xs:List (T × Bool)} {Z W Y:Addr->Prop}:(md.headD .fro).isMut=false->Tr K F H false v x Z->(∀ b,Z b->Y b)->AV K F H md.tail vs xs W Y ->
   AV K F H md (v::vs) ((x,false)::xs) W Y
section
variable {K:PySem.W.Frag} {F H F1 H1:Hp} {S S1:Ft} {ρ ρ1:PSt} {σ:St}
theorem AV.sub {Y Y':Addr->Prop} {md:List Md} {vs:List V} {xs:List (T × Bool)} {W:Addr->Prop} (h:AV K F H md vs xs W Y) (k:∀ b,Y b->Y' b):AV K F H md vs xs W Y':=by
 induction h with
 | nil h=>exact .nil h
 | chg h t ih=>exact .chg h (ih k)
 | new h r t n q ih=>exact .new h r (ih k) n q
 | tmp h r z t ih=>exact .tmp h r (fun b hb=>k b (z b hb)) (ih k)
theorem AV.dom {Y:Addr->Prop} {md:List Md} {vs:List V} {xs:List (T × Bool)} {W:Addr->Prop} (h:AV K F H md vs xs W Y):∀ b,W b->H b≠none/\F b=none:=by
 induction h with
 | nil h=>exact fun b hb=>absurd hb (h b)
 | chg h t ih=>exact ih
 | new h r t n q ih=>exact fun b hb=>((q b).mp hb).elim (r.dom b) (ih b)
 | tmp h r z t ih=>exact ih
theorem AV.length {Y:Addr->Prop} {md:List Md} {vs:List V} {xs:List (T × Bool)} {W:Addr->Prop} (h:AV K F H md vs xs W Y):vs.length=xs.length:=by
 induction h with
 | nil h=>rfl
 | chg h t ih=>simp [ih]
 | new h r t n q ih=>simp [ih]
 | tmp h r z t ih=>simp [ih]
theorem AV.trs {Y:Addr->Prop} {md:List Md} {vs:List V} {xs:List (T × Bool)} {W:Addr->Prop} (h:AV K F H md vs xs W Y):(∀ (i:Nat),(md.getD i .fro).isMut=false)->escB xs=true->Trs K F H true vs (tsOf xs) W:=by
 induction h with
 | nil h=>exact fun _ _=>.nil h
 | @chg md _ _ _ _ _ _ h t ih =>
  intro m
  have:=m 0
  cases md with
  | nil=>cases h
  | cons a r=>exact absurd h (by simpa using this)
 | @new md v vs x xs Z W W' Y h r t n q ih =>
  intro m e
  simp only [escB,Bool.and_eq_true] at e
  exact .cons r (ih (fun i=>by cases md with
   | nil=>exact m i
   | cons a md=>exact m (i+1)) e.2) n q
 | @tmp md v vs x xs Z W Y h r z t ih =>
  intro m e
  simp only [escB,Bool.and_eq_true] at e
  refine .cons (S1:=fun _=>False) ?_ (ih (fun i=>by cases md with
   | nil=>exact m i
   | cons a md=>exact m (i+1)) e.2) (fun _ z=>z.elim) fun b=>by simp
  cases x with
  | d x=>cases r with | d r n=>exact .d r fun _ z=>z
  | _=>exact absurd e.1 (by simp [esc,T.isD])
theorem noMd (i:Nat):((([]:List Md).getD i .fro).isMut)=false:=rfl
theorem AV.tn {Y:Addr->Prop} {md:List Md} {vs:List V} {xs:List (T × Bool)} {W:Addr->Prop} (h:AV K F H md vs xs W Y) (e:Same F F1) (k:∀ b,W b->F1 b=H b) (k2:∀ b,Y b->F b=none->F1 b=none) (hm:md=[]):Tn K F1 H Y vs (fzOf xs):=by
 induction h with
 | nil h=>exact .nil
 | chg h t ih=>subst hm; cases h
 | @new md v vs x xs Z W W' Y h r t n q ih =>
  subst hm
  refine .cons (Z:=fun _=>False) ?_ (fun b z=>z.elim) (ih (fun b hb=>k b ((q b).mpr (.inr hb))) k2 rfl)
  exact .d (r.kept e fun b u hb eu=>by rw [k b ((q b).mpr (.inl hb))]; exact eu) fun _ z=>z
 | @tmp md v vs x xs Z W Y h r z t ih =>
  subst hm
  exact .cons (r.mono e fun b hb=>⟨rfl,k2 b (z b hb) (r.dom b hb).2⟩) z (ih k k2 rfl)
structure AR (K:PySem.W.Frag) (ws:List Nat) (md:List Md) (H0:Hp) (S0:Ft) (ρ0:PSt) (F H:Hp) (S:Ft) (ρ:PSt) (vs:List V) (xs:List (T × Bool)) (W Y:Addr->Prop):Prop where
 av:AV K F H md vs xs W Y
 fr:∀ b,W b->H0 b=none∨U ρ0 S0 b
 tm:∀ b,Y b->∃ (i:Nat) (s:Sl),i ∈ ws/\ρ[i]?=some (some s)/\S i b
 nw:∀ (i:Nat) s,ρ[i]?=some (some s)->∀ b,W b->¬ S i b
theorem AR.held {ws:List Nat} {md:List Md} {H0:Hp} {S0:Ft} {ρ0:PSt} {vs:List V} {xs:List (T × Bool)} {W Y:Addr->Prop} (h:AR K ws md H0 S0 ρ0 F H S ρ vs xs W Y):Held F H S ρ W:=⟨h.av.dom,h.nw⟩
theorem AR.from {ws:List Nat} {md:List Md} {F2 H2:Hp} {S2:Ft} {ρ2:PSt} {vs:List V} {xs:List (T × Bool)} {W Y:Addr->Prop} (s:Stp F H S ρ F1 H1 S1 ρ1) (h:AR K ws md H1 S1 ρ1 F2 H2 S2 ρ2 vs xs W Y):AR K ws md H S ρ F2 H2 S2 ρ2 vs xs W Y :=
 ⟨h.av,fun b hb=>by
  rcases h.fr b hb with q | q
  ·exact .inl (s.dm b q)
  ·exact (s.uu b q).symm,h.tm,h.nw⟩
theorem AR.vars {ws us:List Nat} {md:List Md} {H0:Hp} {S0:Ft} {ρ0:PSt} {vs:List V} {xs:List (T × Bool)} {W Y:Addr->Prop} (h:AR K ws md H0 S0 ρ0 F H S ρ vs xs W Y) (k:∀ i ∈ ws,i ∈ us):AR K us md H0 S0 ρ0 F H S ρ vs xs W Y :=
 ⟨h.av,h.fr,fun b hb=>let ⟨i,s,h1,h2⟩:=h.tm b hb; ⟨i,s,k i h1,h2⟩,h.nw⟩
theorem AR.frz {ws:List Nat} {vs:List V} {xs:List (T × Bool)} {W Y:Addr->Prop} (s:Ste F H S ρ F1 H1 S1 ρ1) (I:Rl K F1 H1 S1 ρ1 σ) (h:AR K ws [] H S ρ F1 H1 S1 ρ1 vs xs W Y) :
  ∃ F2,Ste F H S ρ F2 H1 S1 ρ1/\Rl K F2 H1 S1 ρ1 σ/\Tn K F2 H1 Y vs (fzOf xs) /\
   ∀ st v' t' Z',Tr K F1 H1 st v' t' Z'->(∀ b,Z' b->∃ (i:Nat) (s:Sl),ρ1[i]?=some (some s)/\S1 i b)->Tr K F2 H1 st v' t' Z':=by
 have hw:=h.held
 have ff:=frzH_ff (H:=H1) fun b hb=>(hw.dom b hb).2
 refine ⟨frzH F1 H1 W,s.frz (fun b hb=>(hw.dom b hb).2) h.fr,I.frz hw,h.av.tn ff (fun b hb=>frzH_in hb) (fun b hy hf=>?_) rfl,fun st v' t' Z' r hz=>r.mono ff fun b hb=>⟨rfl,?_⟩⟩
 ·obtain ⟨i,sl,_,h2,h3⟩:=h.tm b hy
  rw [frzH_out fun z=>h.nw i sl h2 b z h3]
  exact hf
 ·obtain ⟨i,sl,h1,h2⟩:=hz b hb
  rw [frzH_out fun z=>hw.nw i sl h1 b z h2]
  exact (r.dom b hb).2
noncomputable def mutVs:List Md->List V->List V
 | _,[]=>[]
 | md,v::vs=>match md.headD .fro with
  | .chg=>v::mutVs md.tail vs
  | _=>mutVs md.tail vs
noncomputable abbrev KontA (K:PySem.W.Frag) (p:PX) (md:List Md) (F H:Hp) (S:Ft) (ρ:PSt) (σ:St) (Q:List (T × Bool)->PSt->Prop) (R:List V->Hp->Prop):Prop :=
 ∀ vs F' H' S' ρ' xs W Y,Ste F H S ρ F' H' S' ρ'->Rl K F' H' S' ρ' σ->AR K (vrs p) md H S ρ F' H' S' ρ' vs xs W Y->(mutVs md vs).map (fun v=>some (some v))=(mutRoots md p).map (fun j=>σ[j]?)->Q xs ρ'->R vs H'
noncomputable def XRel (K:PySem.W.Frag) (F H:Hp) (x:XD) (dx:Option Addr):Prop:=∃ a fs,dx=some a/\H a=some (.xd fs)/\Paired (fun (p:Str × V) (q:Str × D)=>p.1=q.1/\Rep K F p.2 q.2) fs x.2
noncomputable def XOk (K:PySem.W.Frag) (F H:Hp) (S:Ft) (ρ:PSt) (E:XE) (EK:XK):Prop:=∀ x dx F' H' S' ρ',Stp F H S ρ F' H' S' ρ'->Same F' H'->XRel K F' H' x dx->E x->EK x.1 dx H'
theorem XOk.from {E:XE} {EK:XK} (h:XOk K F H S ρ E EK) (s:Stp F H S ρ F1 H1 S1 ρ1):XOk K F1 H1 S1 ρ1 E EK:=fun x dx F2 H2 S2 ρ2 s2 f r q=>h x dx F2 H2 S2 ρ2 (s.trans s2) f r q
theorem XOk.never:XOk K F H S ρ (fun _=>False) (fun _ _ _=>False):=fun _ _ _ _ _ _ _ _ _ z=>z
inductive ArgsR (K:PySem.W.Frag) (F H:Hp) (Y:Addr->Prop):List Md->List V->List T->Prop where
 | nil {md:List Md}:ArgsR K F H Y md [] []
 | chg {md:List Md} {v:V} {vs:List V} {t:T} {ts:List T}:md.headD .fro=.chg->ArgsR K F H Y md.tail vs ts->ArgsR K F H Y md (v::vs) (t::ts)
 | rd {md:List Md} {v:V} {vs:List V} {t:T} {ts:List T} {Z:Addr->Prop}:md.headD .fro≠.chg->Tr K F H false v t Z->(∀ b,Z b->Y b)->ArgsR K F H Y md.tail vs ts->ArgsR K F H Y md (v::vs) (t::ts)
structure Frm (M:Addr->Prop) (F H F' H':Hp):Prop where
 ff:Same F F'
 fh:Same F' H'
 hh:∀ b u,H b=some u->¬ M b->H' b=some u
 dm:∀ b,H' b=none->H b=none
 fn:∀ b,F b=none->F' b≠none->M b∨H b=none
noncomputable def lift (K:PySem.W.Frag) (P:PSp):Sp:=fun vs H Q E=>∃ (F:Hp) (ts:List T) (M Y:Addr->Prop),Same F H/\ArgsR K F H Y P.md vs ts/\Trs K F H true (mutVs P.md vs) (mutTs P.md ts) M/\(∀ b,Y b->¬ M b) /\
 P.run ts (fun r os=>∀ v F' H' Z M',Frm M F H F' H'->Tr K F' H' true v r Z->Trs K F' H' true (mutVs P.md vs) os M'->(∀ b,Z b->¬ M' b)->(∀ b,Z b∨M' b->M b∨H b=none)->Q v H')
  (fun x=>∀ dx F' H',Frm M F H F' H'->XRel K F' H' x dx->E x.1 dx H')
structure GOk (K:PySem.W.Frag) (Γ:Ev) (Ψ:PEv):Prop where
 sp:∀ f vs H Q E,lift K (Ψ.sp f) vs H Q E->Γ.sp f vs H Q E
 va:∀ x d,Ψ.va x=some d->∀ F,Rep K F (Γ.va x) d
 dc:∀ x kds,Ψ.dc x=some kds->∃ kvs,Γ.dc x=some kvs/\Paired (fun (p:Str × V) (q:Str × D)=>p.1=q.1/\∀ F,Rep K F p.2 q.2) kvs kds
structure PSnd (K:PySem.W.Frag) (Γ:Ev) (Ψ:PEv) (p:PX):Prop where
 e:∀ {E:XE} {EK:XK} {F H:Hp} {S:Ft} {ρ:PSt} {σ:St} {Q:TK} {R:VK},Rl K F H S ρ σ->XOk K F H S ρ E EK->(pe Ψ p E).e ρ Q->Kont K (vrs p) F H S ρ σ Q R->(wp K Γ p EK).e σ H R
 t:∀ {E:XE} {EK:XK} {F H:Hp} {S:Ft} {ρ:PSt} {σ:St} {Q:Bool->PSt->Prop} {R:Bool->Hp->Prop},Rl K F H S ρ σ->XOk K F H S ρ E EK->(pe Ψ p E).t ρ Q->KontB K F H S ρ σ Q R->(wp K Γ p EK).t σ H R
 a:∀ {E:XE} {EK:XK} {F H:Hp} {S:Ft} {ρ:PSt} {σ:St} {md:List Md} {Q:List (T × Bool)->PSt->Prop} {R:List V->Hp->Prop},Rl K F H S ρ σ->XOk K F H S ρ E EK->(∀ j ∈ mutRoots md p,∃ v,σ[j]?=some (some v))->(pe Ψ p E).a md ρ Q->KontA K p md F H S ρ σ Q R->(wp K Γ p EK).a σ H R
 p:∀ {E:XE} {EK:XK} {F H:Hp} {S:Ft} {ρ:PSt} {σ:St} {j:Nat} {v0:V} {t0:T} {Z0:Addr->Prop} {Q:List D->T->PSt->Prop} {R:VK},Rl K F H S ρ σ->XOk K F H S ρ E EK->rootOf p=some j->σ[j]?=some (some v0)->Tr K F H true v0 t0 Z0->(∀ b,Z0 b->¬ U ρ S b)->(pe Ψ p E).p t0 ρ Q ->
  (∀ ks s v F' H' S' ρ',Ste F H S ρ F' H' S' ρ'->Rl K F' H' S' ρ' σ->getP t0 ks=some s->PathV H' v0 ks v->Q ks s ρ'->R v H')->(wp K Γ p EK).e σ H R
end
end L2.L3
namespace L2.L3
open PySem PySem.Spec PyProof.Rows
section
variable {K:PySem.W.Frag} {Γ:Ev} {Ψ:PEv} {E:XE} {EK:XK} {F H F1 H1:Hp} {S S1:Ft} {ρ ρ1:PSt} {σ:St}
theorem sq_e {b:PX} (ib:PSnd K Γ Ψ b) (I:Rl K F H S ρ σ) (X:XOk K F H S ρ E EK) {x:T} {P:T × Bool->PSt->Prop} {RR:VK} (h:sq x ρ (cu (pe Ψ b E).e) P)
  (kk:∀ w F' H' S' ρ' y m Z,Ste F H S ρ F' H' S' ρ'->Rl K F' H' S' ρ' σ->(∀ st v Zx,Tr K F H st v x Zx->Tr K F' H' st v x Zx)->(x.isD=false->ρ'=ρ/\S'=S)->VR K (vrs b) H S ρ F' H' S' ρ' w y m Z->P (y,m) ρ'->RR w H') :
  (wp K Γ b EK).e σ H RR:=by
 unfold sq at h
 cases hd:x.isD with
 | true =>
  rw [hd,if_pos rfl] at h
  refine ib.e I X h fun w F' H' S' ρ' y m Z s I' r q=>kk w F' H' S' ρ' y m Z s I' (fun st v Zx rx=>?_) (fun z=>(by rw [hd] at z; cases z)) r q
  cases x with
  | d x=>cases rx with | d r n=>exact .d (r.mono s.ff) n
  | _=>cases hd
 | false =>
  rw [hd,if_neg (by simp)] at h
  have X':XOk K F H S (lockA ρ) E EK:=fun x dx F2 H2 S2 ρ2 s2 f r q=>X x dx F2 H2 S ρ s2.unlockA f r q
  refine ib.e I.lockA X' h fun w F' H' S' ρ' y m Z s I' r q=>?_
  have kp:∀ st v t Zx,Tr K F H st v t Zx->Tr K F' H' st v t Zx:=fun st v t Zx rx=>s.keep rx fun b _=>lockA_U b
  refine kk w F' H' S ρ y m Z ⟨s.unlockA,fun j t h=>⟨t,h⟩⟩ (I.unlockA s.toStp I'.fh) (fun st v Zx rx=>kp st v _ Zx rx) (fun _=>⟨rfl,rfl⟩) ⟨r.tr,fun e b hb=>?_,fun e b hb=>?_,fun e i sl hi b hb z=>?_⟩ q
  ·exact .inl ((r.fr e b hb).elim id fun z=>absurd z (lockA_U b))
  ·obtain ⟨i,sl,h1,h2,h3⟩:=r.tm e b hb
   cases sl with
   | own t =>
    obtain ⟨t0,h0⟩:=s.ow i t h2
    obtain ⟨_,_,e0⟩:=lockA_some h0
    cases e0
   | bor t =>
    cases hd:t.isD with
    | true=>exact absurd h3 (I'.isD h2 hd)
    | false =>
     obtain ⟨g1,g2⟩:=s.bo i t h2 hd
     obtain ⟨s0,g3,_⟩:=lockA_some g1
     rw [g2] at h3
     exact ⟨i,s0,h1,g3,h3⟩
  ·rcases r.fr e b hb with q | q
   ·exact (I.dom hi z).1 q
   ·exact absurd q (lockA_U b)
theorem sq_a {b:PX} {md:List Md} (ib:PSnd K Γ Ψ b) (I:Rl K F H S ρ σ) (X:XOk K F H S ρ E EK) (hm:∀ j ∈ mutRoots md b,∃ v,σ[j]?=some (some v)) {x:T} {P:List (T × Bool)->PSt->Prop} {RR:List V->Hp->Prop} (h:sq x ρ ((pe Ψ b E).a md) P)
  (kk:∀ ws F' H' S' ρ' ys W Y,Ste F H S ρ F' H' S' ρ'->Rl K F' H' S' ρ' σ->(∀ st v Zx,Tr K F H st v x Zx->Tr K F' H' st v x Zx)->(x.isD=false->ρ'=ρ/\S'=S)->AR K (vrs b) md H S ρ F' H' S' ρ' ws ys W Y->(mutVs md ws).map (fun v=>some (some v))=(mutRoots md b).map (fun j=>σ[j]?)->P ys ρ'->RR ws H') :
  (wp K Γ b EK).a σ H RR:=by
 unfold sq at h
 cases hd:x.isD with
 | true =>
  rw [hd,if_pos rfl] at h
  refine ib.a I X hm h fun w F' H' S' ρ' y W Y s I' r mv q=>kk w F' H' S' ρ' y W Y s I' (fun st v Zx rx=>?_) (fun z=>(by rw [hd] at z; cases z)) r mv q
  cases x with
  | d x=>cases rx with | d r n=>exact .d (r.mono s.ff) n
  | _=>cases hd
 | false =>
  rw [hd,if_neg (by simp)] at h
  have X':XOk K F H S (lockA ρ) E EK:=fun x dx F2 H2 S2 ρ2 s2 f r q=>X x dx F2 H2 S ρ s2.unlockA f r q
  refine ib.a I.lockA X' hm h fun w F' H' S' ρ' y W Y s I' r mv q=>?_
  have kp:∀ st v t Zx,Tr K F H st v t Zx->Tr K F' H' st v t Zx:=fun st v t Zx rx=>s.keep rx fun b _=>lockA_U b
  refine kk w F' H' S ρ y W Y ⟨s.unlockA,fun j t h=>⟨t,h⟩⟩ (I.unlockA s.toStp I'.fh) (fun st v Zx rx=>kp st v _ Zx rx) (fun _=>⟨rfl,rfl⟩) ⟨r.av,fun b hb=>?_,fun b hb=>?_,fun i sl hi b hb z=>?_⟩ mv q
  ·exact .inl ((r.fr b hb).elim id fun z=>absurd z (lockA_U b))
  ·obtain ⟨i,sl,h1,h2,h3⟩:=r.tm b hb
   cases sl with
   | own t =>
    obtain ⟨t0,h0⟩:=s.ow i t h2
    obtain ⟨_,_,e0⟩:=lockA_some h0
    cases e0
   | bor t =>
    cases hd:t.isD with
    | true=>exact absurd h3 (I'.isD h2 hd)
    | false =>
     obtain ⟨g1,g2⟩:=s.bo i t h2 hd
     obtain ⟨s0,g3,_⟩:=lockA_some g1
     rw [g2] at h3
     exact ⟨i,s0,h1,g3,h3⟩
  ·rcases r.fr b hb with q | q
   ·exact (I.dom hi z).1 q
   ·exact absurd q (lockA_U b)
theorem one_f {a:PX} (ia:PSnd K Γ Ψ a) (I:Rl K F H S ρ σ) (X:XOk K F H S ρ E EK) {P:TK} {RR:VK} (h:(pe Ψ a E).e ρ P)
  (kk:∀ v F' H' S' ρ' x n Z,Ste F H S ρ F' H' S' ρ'->Rl K F' H' S' ρ' σ->XOk K F' H' S' ρ' E EK->Tr K F' H' false v (frzN x n) Z->(esc x n=true->Rep K F' v x.er)->(∀ b,Z b->∃ (i:Nat) (s:Sl),i ∈ vrs a/\ρ'[i]?=some (some s)/\S' i b)->P x n ρ'->RR v H') :
  (wp K Γ a EK).e σ H RR:=by
 refine ia.e I X h fun v F' H' S' ρ' x n Z s I' r q=>?_
 obtain ⟨F2,Z2,s2,I2,r2,e2,z2,_⟩:=r.frz s I'
 exact kk v F2 H' S' ρ' x n Z2 s2 I2 (X.from s2.toStp) r2 e2 z2 q
theorem two_f {a b:PX} (ia:PSnd K Γ Ψ a) (ib:PSnd K Γ Ψ b) (I:Rl K F H S ρ σ) (X:XOk K F H S ρ E EK) {P:T->Bool->T->Bool->PSt->Prop} {RR:V->V->Hp->Prop}
  (h:(pe Ψ a E).e ρ fun x n ρ1=>sq (frzN x n) ρ1 (cu (pe Ψ b E).e) fun y ρ2=>P x n y.1 y.2 ρ2)
  (kk:∀ v w F' H' S' ρ' x n y m Za Zb,Ste F H S ρ F' H' S' ρ'->Rl K F' H' S' ρ' σ->XOk K F' H' S' ρ' E EK->Tr K F' H' false v (frzN x n) Za->(∀ b,Za b->∃ (i:Nat) (s:Sl),i ∈ vrs a/\ρ'[i]?=some (some s)/\S' i b)->Tr K F' H' false w (frzN y m) Zb ->
   P x n y m ρ'->RR v w H'):(wp K Γ a EK).e σ H fun v H1=>(wp K Γ b EK).e σ H1 fun w H2=>RR v w H2:=by
 refine one_f ia I X h fun v F1 H1 S1 ρ1 x n Za s1 I1 X1 r1 _ z1 q1=>?_
 refine sq_e ib I1 X1 q1 fun w F2 H2 S2 ρ2 y m Z s2 I2 kp hs r2 q2=>?_
 obtain ⟨F3,Z3,s3,I3,r3,_,_,k3⟩:=r2.frz s2 I2
 have za:∀ b,Za b->∃ (i:Nat) (s:Sl),i ∈ vrs a/\ρ2[i]?=some (some s)/\S2 i b:=by
  cases hd:(frzN x n).isD with
  | true =>
   intro b hb
   exfalso
   generalize frzN x n=t at r1 hd
   cases r1 with
   | d r n=>exact n b hb
   | _=>cases hd
  | false =>
   obtain ⟨e1,e2⟩:=hs hd
   rw [e1,e2]
   exact z1
 have s13:=s1.trans s3
 exact kk v w F3 H2 S2 ρ2 x n y m Za Z3 s13 I3 (X.from s13.toStp) (k3 _ _ _ _ (kp _ _ _ r1) fun b hb=>let ⟨i,s,_,h2⟩:=za b hb; ⟨i,s,h2⟩) za r3 q2
theorem args_f {as:PX} (ia:PSnd K Γ Ψ as) (I:Rl K F H S ρ σ) (X:XOk K F H S ρ E EK) {P:List (T × Bool)->PSt->Prop} {RR:List V->Hp->Prop} (h:(pe Ψ as E).a [] ρ P)
  (kk:∀ vs F' H' S' ρ' xs Y,Ste F H S ρ F' H' S' ρ'->Rl K F' H' S' ρ' σ->XOk K F' H' S' ρ' E EK->Tn K F' H' Y vs (fzOf xs)->(∀ b,Y b->∃ (i:Nat) (s:Sl),i ∈ vrs as/\ρ'[i]?=some (some s)/\S' i b)->P xs ρ'->RR vs H'):(wp K Γ as EK).a σ H RR:=by
 refine ia.a (md:=[]) I X (fun j hj=>by cases as<;>cases hj) h fun vs F' H' S' ρ' xs W Y s I' r _ q=>?_
 obtain ⟨F2,s2,I2,t,_⟩:=r.frz s I'
 exact kk vs F2 H' S' ρ' xs Y s2 I2 (X.from s2.toStp) t r.tm q
theorem two_a {a as:PX} (ia:PSnd K Γ Ψ a) (ib:PSnd K Γ Ψ as) (I:Rl K F H S ρ σ) (X:XOk K F H S ρ E EK) {P1:T->Bool->Prop} {P:T->Bool->List (T × Bool)->PSt->Prop} {R1:V->Hp->Prop} {RR:V->List V->Hp->Prop}
  (h:(pe Ψ a E).e ρ fun x n ρ1=>P1 x n/\sq (frzN x n) ρ1 ((pe Ψ as E).a []) fun xs ρ2=>P x n xs ρ2)
  (k1:∀ v F' H' x n Za,Tr K F' H' false v (frzN x n) Za->P1 x n->R1 v H')
  (kk:∀ v vs F' H' S' ρ' x n xs Za Y,Ste F H S ρ F' H' S' ρ'->Rl K F' H' S' ρ' σ->XOk K F' H' S' ρ' E EK->Tr K F' H' false v (frzN x n) Za->(∀ b,Za b->∃ (i:Nat) (s:Sl),i ∈ vrs a/\ρ'[i]?=some (some s)/\S' i b)->Tn K F' H' Y vs (fzOf xs) ->
   P x n xs ρ'->RR v vs H'):(wp K Γ a EK).e σ H fun v H1=>R1 v H1/\(wp K Γ as EK).a σ H1 fun vs H2=>RR v vs H2:=by
 refine one_f ia I X h fun v F1 H1 S1 ρ1 x n Za s1 I1 X1 r1 _ z1 ⟨p1,q1⟩=>⟨k1 v F1 H1 x n Za r1 p1,?_⟩
 refine sq_a ib I1 X1 (fun j hj=>by cases as<;>cases hj) q1 fun vs F2 H2 S2 ρ2 xs W Y s2 I2 kp hs r2 _ q2=>?_
 obtain ⟨F3,s3,I3,tn,k3⟩:=r2.frz s2 I2
 have za:∀ b,Za b->∃ (i:Nat) (s:Sl),i ∈ vrs a/\ρ2[i]?=some (some s)/\S2 i b:=by
  cases hd:(frzN x n).isD with
  | true =>
   intro b hb
   exfalso
   generalize frzN x n=t at r1 hd
   cases r1 with
   | d r n=>exact n b hb
   | _=>cases hd
  | false =>
   obtain ⟨e1,e2⟩:=hs hd
   rw [e1,e2]
   exact z1
 have s13:=s1.trans s3
 exact kk v vs F3 H2 S2 ρ2 x n xs Za Y s13 I3 (X.from s13.toStp) (k3 _ _ _ _ (kp _ _ _ r1) fun b hb=>let ⟨i,s,_,h2⟩:=za b hb; ⟨i,s,h2⟩) za tn q2
noncomputable def ItV (K:PySem.W.Frag) (F H:Hp) (Y:Addr->Prop):Item->T->Prop
 | .one v,t=>∃ Z,Tr K F H false v t Z/\∀ b,Z b->Y b
 | .tup vs,t=>∃ ds,t=.d (.tuple ds)/\Reps K F vs ds
theorem ItV.mono {Y:Addr->Prop} {it:Item} {t:T} (h:ItV K F H Y it t) (e:Same F F1) (k:∀ b,Y b->H1 b=H b/\F1 b=none):ItV K F1 H1 Y it t:=by
 cases it with
 | one v=>obtain ⟨Z,r,z⟩:=h; exact ⟨Z,r.mono e fun b hb=>k b (z b hb),z⟩
 | tup vs=>obtain ⟨ts,e1,r⟩:=h; exact ⟨ts,e1,r.mono e⟩
theorem its_of {Y:Addr->Prop} {st:Bool}:∀ {xs:List V} {ts:List T} {Z:Addr->Prop},Trs K F H st xs ts Z->(∀ b,Z b->Y b)->Paired (ItV K F H Y) (xs.map .one) ts
 | _,_,_,.nil _,_=>.nil
 | _,_,_,.cons h t n q,z=>.cons ⟨_,h.weak,fun b hb=>z b ((q b).mpr (.inl hb))⟩ (its_of t fun b hb=>z b ((q b).mpr (.inr hb)))
theorem its_map {Y:Addr->Prop} {α:Type} (f:α->V) (g:α->D) (h:∀ x,Rep K F (f x) (g x)):∀ (l:List α),Paired (ItV K F H Y) (l.map fun x=>.one (f x)) (l.map fun x=>T.d (g x))
 | []=>.nil
 | x::r=>.cons ⟨fun _=>False,.d (h x) fun _ z=>z,fun _ z=>z.elim⟩ (its_map f g h r)
theorem Tr.lsS {st:Bool} {v:V} {t:T} {Z:Addr->Prop} {ts:List T} (f:Same F H) (h:Tr K F H st v t Z) (e:t.vw=.ls ts):∃ a vs S',v=.ref a/\SqL K H a vs/\Trs K F H false vs ts S'/\(∀ b,S' b->Z b)/\∀ F' H',Same F F'->Same F' H'->(∀ b,Z b->H' b=H b)->SqL K H' a vs:=by
 cases h with
 | d r n =>
  cases r with
  | lst q r=>injection e with e; subst e; exact ⟨_,_,_,rfl,f.seq q,Trs.of_reps r,fun b hb=>hb.elim,fun F' H' e1 e2 _=>(e1.trans e2).seq q⟩
  | _=>cases e
 | lst h _ r n q=>injection e with e; subst e; exact ⟨_,_,_,rfl,SqL.of h,r.weak,fun b hb=>(q b).mpr (.inr hb),fun F' H' _ _ k=>SqL.of ((k _ ((q _).mpr (.inl rfl))).trans h)⟩
 | tup=>cases e
 | lstF h r n=>injection e with e; subst e; exact ⟨_,_,_,rfl,f.seq h,Trs.of_reps r,fun b hb=>hb.elim,fun F' H' e1 e2 _=>(e1.trans e2).seq h⟩
theorem Tr.tpS {st:Bool} {v:V} {t:T} {Z:Addr->Prop} {ts:List T} (f:Same F H) (h:Tr K F H st v t Z) (e:t.vw=.tp ts):∃ a vs S',v=.ref a/\SqT K H a vs/\Trs K F H false vs ts S'/\(∀ b,S' b->Z b)/\∀ F' H',Same F F'->Same F' H'->(∀ b,Z b->H' b=H b)->SqT K H' a vs:=by
 cases h with
 | d r n =>
  cases r with
  | tup q r=>injection e with e; subst e; exact ⟨_,_,_,rfl,f.tupl q,Trs.of_reps r,fun b hb=>hb.elim,fun F' H' e1 e2 _=>(e1.trans e2).tupl q⟩
  | _=>cases e
 | tup h _ r n q=>injection e with e; subst e; exact ⟨_,_,_,rfl,SqT.of h,r.weak,fun b hb=>(q b).mpr (.inr hb),fun F' H' _ _ k=>SqT.of ((k _ ((q _).mpr (.inl rfl))).trans h)⟩
 | lst=>cases e
 | lstF=>cases e
theorem Tr.seqS {st:Bool} {v:V} {t:T} {Z:Addr->Prop} {ts:List T} (f:Same F H) (h:Tr K F H st v t Z) (e:t.vw.seq=some ts):∃ a vs sz,v=.ref (Src.adr sz)/\SqS K H sz vs/\(∃ S',Trs K F H false vs ts S')/\a=Src.adr sz/\∀ F' H',Same F F'->Same F' H'->(∀ b,Z b->H' b=H b)->SqS K H' sz vs:=by
 generalize ev:t.vw=w at e
 cases w with
 | ls us =>
  cases e
  obtain ⟨a,vs,S',rfl,hq,rp,_,hs⟩:=h.lsS f ev
  exact ⟨a,vs,.l a,rfl,hq,⟨S',rp⟩,rfl,hs⟩
 | tp us =>
  cases e
  obtain ⟨a,vs,S',rfl,hq,rp,_,hs⟩:=h.tpS f ev
  exact ⟨a,vs,.t a,rfl,hq,⟨S',rp⟩,rfl,hs⟩
 | _=>cases e
theorem its_zip {Y:Addr->Prop}:∀ {xs ys:List V} {ds es:List D},Reps K F xs ds->Reps K F ys es->Paired (ItV K F H Y) ((xs.zip ys).map fun p=>.tup [p.1,p.2]) ((ds.zip es).map fun p=>T.d (.tuple [p.1,p.2]))
 | _,_,_,_,.nil,_=>by simp only [List.zip_nil_left,List.map_nil]; exact .nil
 | _,_,_,_,.cons _ _,.nil=>by simp only [List.zip_nil_right,List.map_nil]; exact .nil
 | _,_,_,_,.cons h t,.cons h' t'=>by
  simp only [List.zip_cons_cons,List.map_cons]
  exact .cons ⟨[_,_],rfl,.cons h (.cons h' .nil)⟩ (its_zip t t')
theorem its_enum {Y:Addr->Prop}:∀ {xs:List V} {ds:List D} (_:Reps K F xs ds) (g:Nat->Int) (n:Nat),Paired (ItV K F H Y) ((xs.zipIdx n).map fun p=>.tup [.int (g p.2),p.1]) ((ds.zipIdx n).map fun p=>T.d (.tuple [.int (g p.2),p.1]))
 | _,_,.nil,g,n=>by simp only [List.zipIdx_nil,List.map_nil]; exact .nil
 | _,_,.cons h t,g,n=>by
  simp only [List.zipIdx_cons,List.map_cons]
  exact .cons ⟨[_,_],rfl,.cons (.int _) (.cons h .nil)⟩ (its_enum t g (n+1))
theorem items_okT {ik:ItK} {Y:Addr->Prop} {vs:List V} {ts:List T} {RD:List T->Prop} {RR:List Item->(Hp->Prop)->Hp->Prop} (f:Same F H) (ra:Tn K F H Y vs ts) (h:itemsT ik (ts.map T.vw) RD)
  (k:∀ xs ys st,Paired (ItV K F H Y) xs ys->(∀ F' H',Same F F'->Same F' H'->(∀ b,Y b->H' b=H b)->st H')->RD ys->RR xs st H):itemsR K ik vs H RR:=by
 cases ik with
 | val =>
  rcases h with ⟨z,e,h⟩ | ⟨us,e,h⟩ | ⟨us,e,h⟩
  ·obtain ⟨v,t,Z,rfl,rfl,e,r,_⟩:=ra.one e
   obtain rfl:=r.str e
   exact k _ _ _ (its_map (fun c=>.str ⟨#[c]⟩) (fun c=>.str ⟨#[c]⟩) (fun c=>.str _) _) (fun _ _ _ _ _=>trivial) h
  ·obtain ⟨v,t,Z,rfl,rfl,e,r,z⟩:=ra.one e
   obtain ⟨p,xs,S',rfl,hp,rp,z2,hs⟩:=r.lsS f e
   exact .inl ⟨xs,hp,k _ _ _ (its_of rp fun b hb=>z b (z2 b hb)) (fun F' H' e1 e2 q=>hs F' H' e1 e2 fun b hb=>q b (z b hb)) h⟩
  ·obtain ⟨v,t,Z,rfl,rfl,e,r,z⟩:=ra.one e
   obtain ⟨p,xs,S',rfl,hp,rp,z2,hs⟩:=r.tpS f e
   exact .inr ⟨xs,hp,k _ _ _ (its_of rp fun b hb=>z b (z2 b hb)) (fun F' H' e1 e2 q=>hs F' H' e1 e2 fun b hb=>q b (z b hb)) h⟩
 | rng1 =>
  obtain ⟨j,e,h⟩:=h
  obtain ⟨v,t,Z,rfl,rfl,e,r,_⟩:=ra.one e
  obtain rfl:=r.int e
  exact ⟨h.1,k _ _ _ (its_map (fun (i:Nat)=>.int (i:Int)) (fun (i:Nat)=>.int (i:Int)) (fun c=>.int _) _) (fun _ _ _ _ _=>trivial) h.2⟩
 | zip2 =>
  obtain ⟨x,y,us,ws,ds,es,e,g1,g2,g3,g4,q⟩:=h
  obtain ⟨v,w,t,u,Z,Z',rfl,rfl,e1,e2,r1,r2,y1,y2⟩:=ra.two e
  obtain ⟨a,xs,sz,rfl,hq,⟨_,rp⟩,_,hs⟩:=r1.seqS f (by rw [e1]; exact g1)
  obtain ⟨b,ys,sz2,rfl,hq2,⟨_,rp2⟩,_,hs2⟩:=r2.seqS f (by rw [e2]; exact g2)
  exact ⟨sz,sz2,xs,ys,rfl,rfl,hq,hq2,k _ _ _ (its_zip (rp.un g3).1 (rp2.un g4).1) (fun F' H' e1 e2 q=>⟨hs F' H' e1 e2 fun b hb=>q b (y1 b hb),hs2 F' H' e1 e2 fun b hb=>q b (y2 b hb)⟩) q⟩
 | enum =>
  obtain ⟨x,us,ds,e,g1,g3,q⟩:=h
  obtain ⟨v,t,Z,rfl,rfl,e,r,y1⟩:=ra.one e
  obtain ⟨a,xs,sz,rfl,hq,⟨_,rp⟩,_,hs⟩:=r.seqS f (by rw [e]; exact g1)
  exact ⟨sz,xs,rfl,hq,k _ _ _ (its_enum (rp.un g3).1 (fun i=>((i:Nat):Int)) 0) (fun F' H' e1 e2 q=>hs F' H' e1 e2 fun b hb=>q b (y1 b hb)) q⟩
 | enumA =>
  obtain ⟨x,n,us,ds,e,g1,g3,g4,q⟩:=h
  obtain ⟨v,w,t,u,Z,Z',rfl,rfl,e1,e2,r1,r2,y1,y2⟩:=ra.two e
  obtain ⟨a,xs,sz,rfl,hq,⟨_,rp⟩,_,hs⟩:=r1.seqS f (by rw [e1]; exact g1)
  obtain rfl:=r2.int e2
  exact ⟨sz,xs,rfl,hq,g4,k _ _ _ (its_enum (rp.un g3).1 (fun i=>(((_+i:Nat)):Int)) 0) (fun F' H' e1 e2 q=>hs F' H' e1 e2 fun b hb=>q b (y1 b hb)) q⟩
end
end L2.L3
namespace L2.L3
open PySem PySem.Spec PyProof.Rows
noncomputable def updF (S:Ft) (i:Nat) (Z:Addr->Prop):Ft:=fun j=>if j=i then Z else S j
theorem updF_same {S:Ft} {i:Nat} {Z:Addr->Prop}:updF S i Z i=Z:=if_pos rfl
theorem updF_ne {S:Ft} {i j:Nat} {Z:Addr->Prop} (h:j≠i):updF S i Z j=S j:=if_neg h
theorem get_set {α:Type} {l:List α} {i j:Nat} {x y:α} (h:(l.set i x)[j]?=some y):(i=j/\y=x/\i < l.length)∨(i≠j/\l[j]?=some y):=by
 rw [List.getElem?_set] at h
 by_cases e:i=j
 ·subst e
  rw [if_pos rfl] at h
  by_cases hl:i < l.length
  ·rw [if_pos hl] at h; cases h; exact .inl ⟨rfl,rfl,hl⟩
  ·rw [if_neg hl] at h; cases h
 ·rw [if_neg e] at h; exact .inr ⟨e,h⟩
theorem set_get {α:Type} {l:List α} {i:Nat} {x:α} (h:i < l.length):(l.set i x)[i]?=some x:=by
 rw [List.getElem?_set,if_pos rfl,if_pos h]
theorem set_ne {α:Type} {l:List α} {i j:Nat} {x:α} (h:i≠j):(l.set i x)[j]?=l[j]?:=by
 rw [List.getElem?_set,if_neg h]
section
variable {K:PySem.W.Frag} {Γ:Ev} {Ψ:PEv} {E:XE} {EK:XK} {F H F1 H1:Hp} {S S1:Ft} {ρ ρ1:PSt} {σ:St}
theorem Rl.setB (I:Rl K F H S ρ σ) (i:Nat) {v:V} {t:T} {Z:Addr->Prop} (r:Tr K F H false v t Z) (hz:∀ (j:Nat) u,j≠i->ρ[j]?=some (some (.own u))->∀ b,Z b->¬ S j b):Rl K F H (updF S i Z) (ρ.set i (some (.bor t))) (σ.set i (some v)) where
 fh:=I.fh
 len:=by simpa using I.len
 sl:=fun j s h=>by
  rcases get_set h with ⟨rfl,e,hl⟩ | ⟨hn,h⟩
  ·cases e
   exact ⟨v,set_get (by rw [<- I.len]; exact hl),by rw [updF_same]; exact r⟩
  ·rw [set_ne hn,updF_ne (Ne.symm hn)]
   exact I.sl j s h
 dj:=fun j k t' s n h1 h2 b hb hk=>by
  rcases get_set h1 with ⟨_,e,_⟩ | ⟨n1,h1⟩
  ·cases e
  ·rw [updF_ne (Ne.symm n1)] at hb
   rcases get_set h2 with ⟨e,_,_⟩ | ⟨n2,h2⟩
   ·subst e
    rw [updF_same] at hk
    exact hz j t' n h1 b hk hb
   ·rw [updF_ne (Ne.symm n2)] at hk
    exact I.dj j k t' s n h1 h2 b hb hk
structure Bd (J:List Nat) (F H:Hp) (S:Ft) (ρ:PSt) (σ:St) (F' H':Hp) (S':Ft) (ρ':PSt) (σ':St):Prop where
 ff:Same F F'
 hh:Same H H'
 fn:∀ b,F b=none->F' b≠none->H b=none
 out:∀ j,j ∉ J->ρ'[j]?=ρ[j]?/\S' j=S j/\σ'[j]?=σ[j]?
 inn:∀ j t,j ∈ J->ρ'[j]?≠some (some (.own t))
theorem Bd.U {J:List Nat} {F' H':Hp} {S':Ft} {ρ':PSt} {σ':St} (h:Bd J F H S ρ σ F' H' S' ρ' σ') {b:Addr} (u:U ρ' S' b):L3.U ρ S b:=by
 obtain ⟨i,t,h1,h2⟩:=u
 by_cases hi:i ∈ J
 ·exact absurd h1 (h.inn i t hi)
 ·obtain ⟨e1,e2,_⟩:=h.out i hi
  rw [e1] at h1
  rw [e2] at h2
  exact ⟨i,t,h1,h2⟩
theorem Bd.dm {J:List Nat} {F' H':Hp} {S':Ft} {ρ':PSt} {σ':St} (h:Bd J F H S ρ σ F' H' S' ρ' σ') (b:Addr) (e:H' b=none):H b=none:=h.hh.free e
theorem setAllV {Y:Addr->Prop} (hy:∀ b,Y b->¬ U ρ S b):∀ (is:List Nat) {vs:List V} {ts:List T} {S1:Ft} {ρ1 ρ':PSt} {σ1:St} {J:List Nat},(∀ i ∈ is,i ∈ J)->Rl K F H S1 ρ1 σ1->(∀ b,U ρ1 S1 b->U ρ S b)->Tn K F H Y vs ts->setAllT is ts ρ1=some ρ' ->
  ∃ σ' S',setAll is vs σ1=some σ'/\Rl K F H S' ρ' σ'/\(∀ j,j ∉ J->ρ'[j]?=ρ1[j]?/\S' j=S1 j/\σ'[j]?=σ1[j]?)/\(∀ j t,ρ'[j]?=some (some (.own t))->j ∉ is/\ρ1[j]?=some (some (.own t)))
 | [],_,_,S1,ρ1,ρ',σ1,J,hJ,I,hu,.nil,h=>by
  simp only [setAllT,Option.some.injEq] at h
  subst h
  exact ⟨σ1,S1,rfl,I,fun _ _=>⟨rfl,rfl,rfl⟩,fun j t h=>⟨(by simp),h⟩⟩
 | [],_,_,_,_,_,_,_,_,_,_,.cons _ _ _,h=>by simp [setAllT] at h
 | _::_,_,_,_,_,_,_,_,_,_,_,.nil,h=>by simp [setAllT] at h
 | i::is,_,_,S1,ρ1,ρ',σ1,J,hJ,I,hu,.cons (v:=v) (t:=t) (Z:=Z) r z tl,h=>by
  simp only [setAllT] at h
  have nu:∀ b,Z b->¬ U ρ1 S1 b:=fun b hb u=>hy b (z b hb) (hu b u)
  have I2:=I.setB i r fun j u _ hj b hb hs=>nu b hb ⟨j,u,hj,hs⟩
  have hu2:∀ b,U (ρ1.set i (some (.bor t))) (updF S1 i Z) b->U ρ S b:=fun b ⟨j,u,h1,h2⟩=>by
   rcases get_set h1 with ⟨_,e,_⟩ | ⟨n,h1⟩
   ·cases e
   ·rw [updF_ne (Ne.symm n)] at h2
    exact hu b ⟨j,u,h1,h2⟩
  obtain ⟨σ',S',g1,g2,g3,g4⟩:=setAllV hy is (fun j hj=>hJ j (List.mem_cons_of_mem _ hj)) I2 hu2 tl h
  refine ⟨σ',S',g1,g2,fun j hj=>?_,fun j u hj=>?_⟩
  ·obtain ⟨e1,e2,e3⟩:=g3 j hj
   have n:i≠j:=fun e=>hj (e▸hJ i List.mem_cons_self)
   rw [set_ne n] at e1 e3
   rw [updF_ne (Ne.symm n)] at e2
   exact ⟨e1,e2,e3⟩
  ·obtain ⟨e1,e2⟩:=g4 j u hj
   rcases get_set e2 with ⟨_,e,_⟩ | ⟨n,e2⟩
   ·cases e
   ·exact ⟨fun m=>(List.mem_cons.mp m).elim (fun e=>n e.symm) e1,e2⟩
theorem Tn.of_trs {Y:Addr->Prop} {st:Bool}:∀ {vs:List V} {ts:List T} {Z:Addr->Prop},Trs K F H st vs ts Z->(∀ b,Z b->Y b)->Tn K F H Y vs ts
 | _,_,_,.nil _,_=>.nil
 | _,_,_,.cons h t n q,z=>.cons h.weak (fun b hb=>z b ((q b).mpr (.inl hb))) (Tn.of_trs t fun b hb=>z b ((q b).mpr (.inr hb)))
theorem bind_okT {Y:Addr->Prop} {tg:Tg} {it:Item} {t:T} {QP:PSt->Prop} {RP:St->Hp->Prop} (I:Rl K F H S ρ σ) (hy:∀ b,Y b->¬ U ρ S b) (r:ItV K F H Y it t) (h:bindV tg t ρ QP)
  (k:∀ ρ2 σ2 F2 H2 S2,Bd tg.ix F H S ρ σ F2 H2 S2 ρ2 σ2->Rl K F2 H2 S2 ρ2 σ2->QP ρ2->RP σ2 H2):bindI K tg it σ H RP:=by
 have nm:∀ (i:Nat) {v:V} {t:T} {Z:Addr->Prop} {F2 H2:Hp} {S2:Ft},Same F F2->Same H H2->(∀ b,F b=none->F2 b≠none->H b=none)->Rl K F2 H2 S2 ρ σ->S2=S->Tr K F2 H2 false v t Z->(∀ b,Z b->¬ U ρ S b)->QP (ρ.set i (some (.bor t)))->tg=.nm i->RP (σ.set i (some v)) H2:=by
  intro i v t Z F2 H2 S2 e1 e2 e3 I2 hS r hz q ht
  subst hS ht
  refine k _ _ F2 H2 (updF S2 i Z) ⟨e1,e2,e3,fun j hj=>?_,fun j u hj hu=>?_⟩ (I2.setB i r fun j u _ hj b hb hs=>hz b hb ⟨j,u,hj,hs⟩) q
  ·have n:i≠j:=fun e=>hj (by subst e; exact List.mem_singleton.mpr rfl)
   exact ⟨set_ne n,updF_ne (Ne.symm n),set_ne n⟩
  ·have e:j=i:=List.mem_singleton.mp hj
   subst e
   rcases get_set hu with ⟨_,e,_⟩ | ⟨n,_⟩
   ·cases e
   ·exact n rfl
 have tp:∀ (is:List Nat) {vs:List V} {ts:List T} {H2:Hp} {ρ':PSt},Same H H2->tg=.tp is->Tn K F H2 Y vs ts->setAllT is ts ρ=some ρ'->QP ρ'->∃ σ',setAll is vs σ=some σ'/\RP σ' H2:=by
  intro is vs ts H2 ρ' e2 ht r e q
  subst ht
  obtain ⟨σ',S',g1,g2,g3,g4⟩:=setAllV hy is (J:=is) (fun i hi=>hi) (I.same e2) (fun b u=>u) r e
  exact ⟨σ',g1,k _ _ F H2 S' ⟨.refl _,e2,fun b h z=>absurd h z,g3,fun j u hj hu=>(g4 j u hu).1 hj⟩ g2 q⟩
 cases it with
 | one v =>
  obtain ⟨Z,r,z⟩:=r
  cases tg with
  | nm i=>exact nm i (.refl _) (.refl _) (fun b h z=>absurd h z) I rfl r (fun b hb=>hy b (z b hb)) h rfl
  | tp is =>
   have h2:(match t.vw with | .tp ts=>∃ ρ',setAllT is ts ρ=some ρ'/\QP ρ' | _=>False):=h
   split at h2
   ·rename_i ts e
    obtain ⟨ρ',e1,q⟩:=h2
    obtain ⟨a,vs,S',rfl,hp,rp,z2⟩:=r.tp I.fh e
    obtain ⟨σ',g1,g2⟩:=tp is (.refl _) rfl (Tn.of_trs rp fun b hb=>z b (z2 b hb)) e1 q
    exact ⟨vs,σ',hp,g1,g2⟩
   ·exact h2.elim
 | tup vs =>
  obtain ⟨ds,rfl,rd⟩:=r
  cases tg with
  | nm i =>
   intro p hp
   refine nm i (upd_same' (I.fh.free hp)) (upd_same' hp) (fun b h1 h2=>?_) (I.newT hp (.tup vs)) rfl (.d (S:=fun _=>False) (.tup (SqT.of upd_same) (rd.mono (upd_same' (I.fh.free hp)))) fun _ z=>z) (fun b z=>z.elim) h rfl
   by_cases hb:b=p
   ·rw [hb]; exact hp
   ·rw [upd_ne hb] at h2; exact absurd h1 h2
  | tp is =>
   intro H' s
   obtain ⟨ρ',e1,q⟩:=h
   exact tp is s rfl (Tn.of_trs (Trs.of_reps (st:=false) rd) fun b hb=>hb.elim) e1 q
noncomputable def entF (k:Nat) (S:Ft):Ft:=fun i=>if i < k then fun _=>False else S (i - k)
theorem maskP_get:∀ (m:List Bool) (ρ:PSt) (i:Nat) s,(maskP m ρ)[i]?=some (some s)->ρ[i]?=some (some s)/\m.getD i false=false
 | [],ρ,i,s,h=>by
  have e:maskP [] ρ=ρ:=by cases ρ<;>rfl
  rw [e] at h
  exact ⟨h,rfl⟩
 | b::m,[],i,s,h=>by simp [maskP] at h
 | b::m,v::ρ,0,s,h=>by
  cases b with
  | true=>simp [maskP] at h
  | false=>simp [maskP] at h; simp [h]
 | b::m,v::ρ,i+1,s,h=>by
  simp only [maskP,List.getElem?_cons_succ] at h
  obtain ⟨h1,h2⟩:=maskP_get m ρ i s h
  exact ⟨by simpa using h1,by simpa using h2⟩
theorem maskS_get:∀ (m:List Bool) (σ:St) (i:Nat) v,σ[i]?=some (some v)->m.getD i false=false->(maskS m σ)[i]?=some (some v)
 | [],σ,i,v,h,_=>by
  have e:maskS [] σ=σ:=by cases σ<;>rfl
  rw [e]; exact h
 | b::m,[],i,v,h,_=>by simp at h
 | b::m,w::σ,0,v,h,hb=>by
  have:b=false:=by simpa using hb
  subst this
  simpa [maskS] using h
 | b::m,w::σ,i+1,v,h,hb=>by
  simp only [maskS,List.getElem?_cons_succ]
  exact maskS_get m σ i v (by simpa using h) (by simpa using hb)
theorem maskP_len:∀ (m:List Bool) (ρ:PSt),(maskP m ρ).length=ρ.length
 | [],ρ=>by cases ρ<;>rfl
 | _::_,[]=>rfl
 | b::m,v::ρ=>by simp [maskP,maskP_len m ρ]
theorem entP_get {k:Nat} {mask:List Bool} {ρ:PSt} {i:Nat} {s:Sl} (h:(entP k mask ρ)[i]?=some (some s)):k<=i/\ρ[i - k]?=some (some s)/\mask.getD (i - k) false=false:=by
 unfold entP at h
 rcases Nat.lt_or_ge i k with z | z
 ·rw [List.getElem?_append_left (by simpa using z),List.getElem?_replicate] at h
  split at h<;>cases h
 ·rw [List.getElem?_append_right (by simpa using z)] at h
  simp only [List.length_replicate] at h
  obtain ⟨h1,h2⟩:=maskP_get mask ρ _ s h
  exact ⟨z,h1,h2⟩
theorem Rl.ent (I:Rl K F H S ρ σ) (k:Nat) (mask:List Bool):Rl K F H (entF k S) (entP k mask ρ) (entS k mask σ) where
 fh:=I.fh
 len:=by simp [entP,entS,maskP_len,maskS_len,I.len]
 sl:=fun i s h=>by
  obtain ⟨h0,h1,h2⟩:=entP_get h
  obtain ⟨v,g1,g2⟩:=I.sl _ s h1
  refine ⟨v,?_,?_⟩
  ·unfold entS
   rw [List.getElem?_append_right (by simpa using h0)]
   simp only [List.length_replicate]
   exact maskS_get mask σ _ v g1 h2
  ·unfold entF
   rw [if_neg (by omega)]
   exact g2
 dj:=fun i j t s n h1 h2 b hb hj=>by
  obtain ⟨a0,a1,_⟩:=entP_get h1
  obtain ⟨b0,b1,_⟩:=entP_get h2
  unfold entF at hb hj
  rw [if_neg (by omega)] at hb hj
  exact I.dj (i - k) (j - k) t s (by omega) a1 b1 b hb hj
theorem ent_noU {k:Nat} {mask:List Bool} {S':Ft} (b:Addr):¬ U (entP k mask (lockA ρ)) S' b:=fun ⟨i,t,h,_⟩=>by
 obtain ⟨_,h1,_⟩:=entP_get h
 obtain ⟨_,_,e⟩:=lockA_some h1
 cases e
theorem Paired.get_of {α β:Type} {R:α->β->Prop} {xs:List α} {ys:List β} (h:Paired R xs ys):∀ {i:Nat} {x:α},xs[i]?=some x->∃ y,ys.drop i=y::ys.drop (i+1)/\R x y:=by
 induction h with
 | nil=>intro i x e; simp at e
 | @cons x y xs ys h t ih =>
  intro i z e
  cases i with
  | zero=>simp at e; subst e; exact ⟨y,by simp,h⟩
  | succ i =>
   obtain ⟨y',h1,h2⟩:=ih (i:=i) (by simpa using e)
   exact ⟨y',by simpa using h1,h2⟩
structure Pur (F H F' H':Hp):Prop where
 ff:Same F F'
 hh:Same H H'
 fn:∀ b,F b=none->F' b≠none->H b=none
theorem Pur.trans {F2 H2:Hp} (a:Pur F H F1 H1) (b:Pur F1 H1 F2 H2):Pur F H F2 H2:=⟨a.ff.trans b.ff,a.hh.trans b.hh,fun x h z=>by
 by_cases q:F1 x=none
 ·exact a.hh.free (b.fn x q z)
 ·exact a.fn x h q⟩
theorem Pur.ste (p:Pur F H F1 H1):Ste F H S ρ F1 H1 S ρ:=⟨⟨p.ff,fun b u h _=>p.hh b u h,fun b h=>p.hh.free h,fun b h z=>.inr (p.fn b h z),fun b h=>.inl h,fun _ _ h _=>⟨h,rfl⟩⟩,fun _ t h=>⟨t,h⟩⟩
theorem Pur.rl (p:Pur F H F1 H1) (f:Same F1 H1) (I:Rl K F H S ρ σ):Rl K F1 H1 S ρ σ:=⟨f,I.len,fun i s e=>by
 obtain ⟨v,h1,h2⟩:=I.sl i s e
 exact ⟨v,h1,h2.mono p.ff fun b hb=>by
  obtain ⟨d1,d2⟩:=h2.dom b hb
  refine ⟨?_,?_⟩
  ·cases e:H b with
   | none=>exact absurd e d1
   | some u=>exact p.hh b u e
  ·by_cases q:F1 b=none
   ·exact q
   ·exact absurd (p.fn b d2 q) d1⟩,I.dj⟩
theorem Stp.pur {S':Ft} {ρ':PSt} (s:Stp F H S ρ F1 H1 S' ρ') (n:∀ b,¬ U ρ S b):Pur F H F1 H1:=⟨s.ff,fun b u h=>s.hh b u h (n b),fun b h z=>(s.fn b h z).elim (fun q=>absurd q (n b)) id⟩
theorem Pur.trs (p:Pur F H F1 H1) {st:Bool} {v:List V} {t:List T} {Z:Addr->Prop} (h:Trs K F H st v t Z):Trs K F1 H1 st v t Z:=h.mono p.ff fun b hb=>by
  obtain ⟨d1,d2⟩:=h.dom b hb
  refine ⟨?_,?_⟩
  ·cases e:H b with
   | none=>exact absurd e d1
   | some u=>exact p.hh b u e
  ·by_cases q:F1 b=none
   ·exact q
   ·exact absurd (p.fn b d2 q) d1
theorem compV_ok {ws:List Nat} {mask:List Bool} {k0:Nat} {tg:Tg} {c:PSt->(Bool->PSt->Prop)->Prop} {e:PSt->TK->Prop} {tc:TT} {te:TE} {us:List Nat}
  (ic:∀ {F H:Hp} {S:Ft} {ρ:PSt} {σ:St} {Q:Bool->PSt->Prop} {R:Bool->Hp->Prop},Rl K F H S ρ σ->c ρ Q->KontB K F H S ρ σ Q R->tc σ H R)
  (ie:∀ {F H:Hp} {S:Ft} {ρ:PSt} {σ:St} {Q:TK} {R:VK},Rl K F H S ρ σ->e ρ Q->Kont K us F H S ρ σ Q R->te σ H R)
  {F0 H0:Hp} {S0:Ft} {ρ0:PSt} (s:Ste F0 H0 S0 ρ0 F H S ρ) (I:Rl K F H S ρ σ) {Y:Addr->Prop} {xs:List Item} {ys:List T} {st:Hp->Prop} (pr:Paired (ItV K F H Y) xs ys) (hyd:∀ b,Y b->H b≠none/\F b=none) (hst:∀ F' H',Same F F'->Same F' H'->(∀ b,Y b->H' b=H b)->st H') {Q:TK} {R:VK}
  (h:compV (compBody tg (entP k0 mask (lockA ρ)) c e) ys [] fun ys=>Q (.lst ys) true ρ) (k:Kont K ws F0 H0 S0 ρ0 σ Q R) :
  CompB K xs st tg tc te (entS k0 mask σ) H R:=by
 refine compB_of ?_
 have len:=Paired.length pr
 have yk:∀ {F' H':Hp},Pur F H F' H'->∀ b,Y b->H' b=H b/\F' b=none:=fun {F' H'} p b hb=>by
  obtain ⟨d1,d2⟩:=hyd b hb
  refine ⟨?_,?_⟩
  ·cases e:H b with
   | none=>exact absurd e d1
   | some u=>exact p.hh b u e
  ·by_cases q:F' b=none
   ·exact q
   ·exact absurd (p.fn b d2 q) d1
 refine ⟨fun i acc H'=>∃ F' dacc W,Pur F H F' H'/\Same F' H'/\Trs K F' H' true acc dacc W/\(∀ b,W b->H b=none)/\compV (compBody tg (entP k0 mask (lockA ρ)) c e) (ys.drop i) dacc fun ys=>Q (.lst ys) true ρ,
  ⟨F,[],fun _=>False,⟨.refl _,.refl _,fun b h z=>absurd h z⟩,I.fh,.nil fun _ z=>z,fun _ z=>z.elim,by simpa using h⟩,?_,?_,?_⟩
 ·rintro i acc H' _ ⟨F',dacc,W,p,f,_,_,_⟩
  exact hst F' H' p.ff f fun b hb=>(yk p b hb).1
 ·rintro i x acc H1 hx ⟨F1,dacc,W,p1,f1,ra,hw,hc⟩
  obtain ⟨y,hd,ry⟩:=Paired.get_of pr hx
  rw [hd] at hc
  unfold compV at hc
  unfold compBody at hc
  have I1:Rl K F1 H1 (entF k0 S) (entP k0 mask (lockA ρ)) (entS k0 mask σ):=((p1.rl f1 I).lockA).ent k0 mask
  refine bind_okT I1 (fun b _=>ent_noU b) (ry.mono p1.ff (yk p1)) hc fun ρ2 σ2 F2 H2 S2 bd I2 hc=>?_
  have p2:Pur F1 H1 F2 H2:=⟨bd.ff,bd.hh,bd.fn⟩
  have nu2:∀ b,¬ U ρ2 S2 b:=fun b u=>ent_noU b (bd.U u)
  refine ic I2 hc fun b F3 H3 S3 ρ3 s3 I3 q=>?_
  have p3:Pur F2 H2 F3 H3:=s3.toStp.pur nu2
  have nu3:∀ b,¬ U ρ3 S3 b:=fun b ⟨j,t,h1,_⟩=>by
   obtain ⟨t0,h0⟩:=s3.ow j t h1
   by_cases hj:j ∈ tg.ix
   ·exact bd.inn j t0 hj h0
   ·rw [(bd.out j hj).1] at h0
    obtain ⟨_,h1,_⟩:=entP_get h0
    obtain ⟨_,_,e⟩:=lockA_some h1
    cases e
  have p123:=p1.trans (p2.trans p3)
  cases b with
  | false=>exact ⟨F3,dacc,W,p123,I3.fh,p3.trs (p2.trs ra),hw,q⟩
  | true =>
   refine ie I3 q fun v F4 H4 S4 ρ4 z n Z s4 I4 r4 ⟨hk,hl,hc⟩=>?_
   have p4:Pur F3 H3 F4 H4:=s4.toStp.pur nu3
   have ra4:=p4.trs (p3.trs (p2.trs ra))
   have rz:∃ Z',Tr K F4 H4 true v z Z'/\∀ b,Z' b->H3 b=none:=by
    cases n with
    | true=>exact ⟨Z,r4.tr,fun b hb=>(r4.fr rfl b hb).elim id fun u=>absurd u (nu3 b)⟩
    | false =>
     cases z with
     | d x =>
      have tr:=r4.tr
      cases tr with
      | d r n=>exact ⟨fun _=>False,.d r fun _ z=>z,fun _ z=>z.elim⟩
     | _=>exact absurd hk (by simp [esc,T.isD])
   obtain ⟨Z',rz,fz⟩:=rz
   refine ⟨by rw [ra.length]; exact hl,F4,_,fun b=>W b∨Z' b,p123.trans p4,I4.fh,ra4.append (Trs.one rz) fun b hb hz=>?_,fun b hb=>?_,hc⟩
   ·have q1:=(ra.dom b hb).1
    exact q1 ((p2.trans p3).hh.free (fz b hz))
   ·rcases hb with hb | hb
    ·exact hw b hb
    ·exact p123.hh.free (fz b hb)
 ·rintro acc H' ⟨F',dacc,W,p,f,ra,hw,hc⟩
  rw [len,List.drop_length] at hc
  unfold compV at hc
  have I':=p.rl f I
  refine ⟨by rw [ra.length]; exact hc.1,fun q hq=>?_⟩
  refine Kont.list (k.from s) (p.ste) I' hq ra (fun b hb=>.inl (hw b hb)) ⟨ra.dom,fun i sl hi b hb z=>?_⟩ hc.2
  exact (I.dom hi z).1 (hw b hb)
end
end L2.L3
namespace L2.L3
open PySem PySem.Spec PyProof.Rows
section
variable {K:PySem.W.Frag} {Γ:Ev} {Ψ:PEv} {E:XE} {EK:XK} {F H F1 H1:Hp} {S S1:Ft} {ρ ρ1:PSt} {σ:St}
theorem Tr.shal {v:V} {u t:T} {Z:Addr->Prop} (h:Tr K F H false v u Z) (e:shalT u=some t):Tr K F H false v t Z:=by
 unfold shalT at e
 split at e
 ·rename_i ts ev
  cases ed:unD ts with
  | none=>rw [ed] at e; cases e
  | some ds =>
   rw [ed] at e
   injection e with e
   subst e
   cases h with
   | d r n =>
    cases r with
    | lst q r =>
     injection ev with ev
     subst ev
     rw [unD_map] at ed
     injection ed with ed
     subst ed
     exact .lstF q r n
    | _=>cases ev
   | lst h1 h2 h3 h4 h5 =>
    injection ev with ev
    subst ev
    show Tr K F H false _ (.lst (ds.map T.d)) Z
    rw [<- unD_some ed]
    exact .lst h1 h2 h3 h4 h5
   | tup=>cases ev
   | lstF h1 h2 h3 =>
    injection ev with ev
    subst ev
    rw [unD_map] at ed
    injection ed with ed
    subst ed
    exact .lstF h1 h2 h3
 ·split at e
  ·injection e with e; subst e; exact h
  ·cases e
theorem AV.pass {Y:Addr->Prop} {md:List Md} {vs:List V} {xs:List (T × Bool)} {W:Addr->Prop} (h:AV K F H md vs xs W Y) (e:Same F F1) (k:∀ b,W b->F1 b=H b) (k2:∀ b,Y b->F b=none->F1 b=none) :
  ∀ {os ts:List T},passT md xs os=some ts->ArgsR K F1 H Y md vs ts/\mutTs md ts=os:=by
 induction h with
 | nil h =>
  intro os ts hp
  cases os with
  | nil=>simp only [passT,Option.some.injEq] at hp; subst hp; exact ⟨.nil,rfl⟩
  | cons _ _=>simp [passT] at hp
 | @chg md v vs x xs W Y h t ih =>
  intro os ts hp
  have hm:md.headD .fro=.chg:=by
   generalize md.headD .fro=m at h
   cases m<;>first | rfl | cases h
  unfold passT at hp
  rw [hm] at hp
  cases os with
  | nil=>cases hp
  | cons o os =>
   cases ep:passT md.tail xs os with
   | none=>simp only [ep,Option.map_none] at hp; cases hp
   | some us =>
    simp only [ep,Option.map_some,Option.some.injEq] at hp
    subst hp
    obtain ⟨h1,h2⟩:=ih k k2 ep
    refine ⟨.chg hm h1,?_⟩
    unfold mutTs
    rw [hm]
    simp only [h2]
 | @new md v vs x xs Z W W' Y h r t n q ih =>
  intro os ts hp
  have r':Tr K F1 H false v (.d x.er) (fun _=>False):=.d (r.kept e fun b u hb eu=>by rw [k b ((q b).mpr (.inl hb))]; exact eu) fun _ z=>z
  have ihk:=@ih (fun b hb=>k b ((q b).mpr (.inr hb))) k2
  unfold passT at hp
  cases hm:md.headD .fro with
  | chg=>rw [hm] at h; cases h
  | fro =>
   simp only [hm,frzN] at hp
   cases ep:passT md.tail xs os with
   | none=>simp only [ep,Option.map_none] at hp; cases hp
   | some us =>
    simp only [ep,Option.map_some,Option.some.injEq] at hp
    subst hp
    obtain ⟨h1,h2⟩:=ihk ep
    exact ⟨.rd (by rw [hm]; simp) r' (fun _ z=>z.elim) h1,by unfold mutTs; rw [hm]; exact h2⟩
  | shal =>
   simp only [hm,frzN] at hp
   cases es:shalT (.d x.er) with
   | none=>simp only [es] at hp; cases hp
   | some u =>
    simp only [es] at hp
    cases ep:passT md.tail xs os with
    | none=>simp only [ep,Option.map_none] at hp; cases hp
    | some us =>
     simp only [ep,Option.map_some,Option.some.injEq] at hp
     subst hp
     obtain ⟨h1,h2⟩:=ihk ep
     exact ⟨.rd (by rw [hm]; simp) (r'.shal es) (fun _ z=>z.elim) h1,by unfold mutTs; rw [hm]; exact h2⟩
  | bor =>
   simp only [hm,frzN] at hp
   cases ep:passT md.tail xs os with
   | none=>simp only [ep,Option.map_none] at hp; cases hp
   | some us =>
    simp only [ep,Option.map_some,Option.some.injEq] at hp
    subst hp
    obtain ⟨h1,h2⟩:=ihk ep
    exact ⟨.rd (by rw [hm]; simp) r' (fun _ z=>z.elim) h1,by unfold mutTs; rw [hm]; exact h2⟩
 | @tmp md v vs x xs Z W Y h r z t ih =>
  intro os ts hp
  have r':Tr K F1 H false v x Z:=r.mono e fun b hb=>⟨rfl,k2 b (z b hb) (r.dom b hb).2⟩
  have ihk:=@ih k k2
  unfold passT at hp
  cases hm:md.headD .fro with
  | chg=>rw [hm] at h; cases h
  | fro =>
   simp only [hm,frzN] at hp
   cases x with
   | d x =>
    cases ep:passT md.tail xs os with
    | none=>simp only [ep,Option.map_none] at hp; cases hp
    | some us =>
     simp only [ep,Option.map_some,Option.some.injEq] at hp
     subst hp
     obtain ⟨h1,h2⟩:=ihk ep
     exact ⟨.rd (by rw [hm]; simp) r' z h1,by unfold mutTs; rw [hm]; exact h2⟩
   | _=>cases hp
  | shal =>
   simp only [hm,frzN] at hp
   cases es:shalT x with
   | none=>simp only [es] at hp; cases hp
   | some u =>
    simp only [es] at hp
    cases ep:passT md.tail xs os with
    | none=>simp only [ep,Option.map_none] at hp; cases hp
    | some us =>
     simp only [ep,Option.map_some,Option.some.injEq] at hp
     subst hp
     obtain ⟨h1,h2⟩:=ihk ep
     exact ⟨.rd (by rw [hm]; simp) (r'.shal es) z h1,by unfold mutTs; rw [hm]; exact h2⟩
  | bor =>
   simp only [hm,frzN] at hp
   cases ep:passT md.tail xs os with
   | none=>simp only [ep,Option.map_none] at hp; cases hp
   | some us =>
    simp only [ep,Option.map_some,Option.some.injEq] at hp
    subst hp
    obtain ⟨h1,h2⟩:=ihk ep
    exact ⟨.rd (by rw [hm]; simp) r' z h1,by unfold mutTs; rw [hm]; exact h2⟩
theorem clear_get:∀ (J:List Nat) (ρ:PSt) (i:Nat) s,(clear J ρ)[i]?=some (some s)->i ∉ J/\ρ[i]?=some (some s)
 | [],ρ,i,s,h=>⟨(by simp),h⟩
 | j::J,ρ,i,s,h=>by
  unfold clear at h
  obtain ⟨h1,h2⟩:=clear_get J _ i s h
  rcases get_set h2 with ⟨_,e,_⟩ | ⟨n,h3⟩
  ·cases e
  ·exact ⟨fun m=>(List.mem_cons.mp m).elim (fun e=>n e.symm) h1,h3⟩
theorem clear_len:∀ (J:List Nat) (ρ:PSt),(clear J ρ).length=ρ.length
 | [],_=>rfl
 | j::J,ρ=>by unfold clear; rw [clear_len J]; simp
theorem Rl.drop (I:Rl K F H S ρ σ) (hl:ρ1.length=ρ.length) (h:∀ (i:Nat) s,ρ1[i]?=some (some s)->ρ[i]?=some (some s)):Rl K F H S ρ1 σ :=
 ⟨I.fh,hl.trans I.len,fun i s e=>I.sl i s (h i s e),fun i j t s n e1 e2=>I.dj i j t s n (h i _ e1) (h j _ e2)⟩
theorem ownsAt_some:∀ {J:List Nat} {ρ:PSt} {os:List T},ownsAt J ρ=some os->os.length=J.length/\∀ (i:Nat) j,J[i]?=some j->∃ t,os[i]?=some t/\ρ[j]?=some (some (.own t))
 | [],ρ,os,h=>by simp only [ownsAt,Option.some.injEq] at h; subst h; exact ⟨rfl,fun i j e=>by simp at e⟩
 | j::J,ρ,os,h=>by
  unfold ownsAt at h
  split at h
  ·rename_i t e
   cases eo:ownsAt J ρ with
   | none=>rw [eo] at h; cases h
   | some us =>
    rw [eo] at h
    injection h with h
    subst h
    obtain ⟨h1,h2⟩:=ownsAt_some eo
    refine ⟨by simp [h1],fun i k hk=>?_⟩
    cases i with
    | zero=>simp at hk; subst hk; exact ⟨t,rfl,e⟩
    | succ i =>
     obtain ⟨u,g1,g2⟩:=h2 i k (by simpa using hk)
     exact ⟨u,by simpa using g1,g2⟩
  ·cases h
theorem Rl.trs (I:Rl K F H S ρ σ):∀ {J:List Nat} {os:List T} {vs:List V},J.Nodup->ownsAt J ρ=some os->vs.map (fun v=>some (some v))=J.map (fun j=>σ[j]?)->Trs K F H true vs os (fun b=>∃ j ∈ J,S j b)
 | [],os,vs,_,h,hv=>by
  simp only [ownsAt,Option.some.injEq] at h
  subst h
  cases vs with
  | nil=>exact .nil fun b ⟨j,hj,_⟩=>by simp at hj
  | cons _ _=>simp at hv
 | j::J,os,vs,nd,h,hv=>by
  unfold ownsAt at h
  split at h
  ·rename_i t e
   cases eo:ownsAt J ρ with
   | none=>rw [eo] at h; cases h
   | some us =>
    rw [eo] at h
    injection h with h
    subst h
    cases vs with
    | nil=>simp at hv
    | cons v vs =>
     simp only [List.map_cons,List.cons.injEq] at hv
     obtain ⟨v',g1,g2⟩:=I.sl j _ e
     rw [g1] at hv
     have:v=v':=by simpa using hv.1
     subst this
     have nd':=List.nodup_cons.mp nd
     refine .cons g2 (Rl.trs I nd'.2 eo hv.2) (fun b hb ⟨k,hk,z⟩=>?_) fun b=>?_
     ·obtain ⟨i,hi⟩:=List.mem_iff_getElem?.mp hk
      obtain ⟨u,_,hu⟩:=(ownsAt_some eo).2 i k hi
      exact I.dj j k t _ (fun z=>nd'.1 (z▸hk)) e hu b hb z
     ·constructor
      ·rintro ⟨k,hk,z⟩
       rcases List.mem_cons.mp hk with e | e
       ·subst e; exact .inl z
       ·exact .inr ⟨k,e,z⟩
      ·rintro (z | ⟨k,hk,z⟩)
       ·exact ⟨j,List.mem_cons_self,z⟩
       ·exact ⟨k,List.mem_cons_of_mem _ hk,z⟩
  ·cases h
theorem Rl.setO (I:Rl K F H S ρ σ) (i:Nat) {v:V} {t:T} {Z:Addr->Prop} (hv:σ[i]?=some (some v)) (r:Tr K F H true v t Z) (hz:∀ (j:Nat) s,j≠i->ρ[j]?=some (some s)->∀ b,Z b->¬ S j b):Rl K F H (updF S i Z) (ρ.set i (some (.own t))) σ where
 fh:=I.fh
 len:=by simpa using I.len
 sl:=fun j s h=>by
  rcases get_set h with ⟨rfl,e,hl⟩ | ⟨hn,h⟩
  ·cases e
   exact ⟨v,hv,by rw [updF_same]; exact r⟩
  ·rw [updF_ne (Ne.symm hn)]
   exact I.sl j s h
 dj:=fun j k t' s n h1 h2 b hb hk=>by
  rcases get_set h1 with ⟨e,_,_⟩ | ⟨n1,h1⟩
  ·subst e
   rw [updF_same] at hb
   rcases get_set h2 with ⟨e,_,_⟩ | ⟨n2,h2⟩
   ·exact n e
   ·rw [updF_ne (Ne.symm n2)] at hk
    exact hz k s (Ne.symm n2) h2 b hb hk
  ·rw [updF_ne (Ne.symm n1)] at hb
   rcases get_set h2 with ⟨e,_,_⟩ | ⟨n2,h2⟩
   ·subst e
    rw [updF_same] at hk
    exact hz j _ n h1 b hk hb
   ·rw [updF_ne (Ne.symm n2)] at hk
    exact I.dj j k t' s n h1 h2 b hb hk
theorem putOwns_ok:∀ {J:List Nat} {os:List T} {vs:List V} {M:Addr->Prop} {S1:Ft} {ρ1 ρ2:PSt},J.Nodup->Rl K F H S1 ρ1 σ->Trs K F H true vs os M->vs.map (fun v=>some (some v))=J.map (fun j=>σ[j]?)->Held F H S1 ρ1 M->putOwns J os ρ1=some ρ2 ->
  ∃ S2,Rl K F H S2 ρ2 σ/\(∀ i,i ∉ J->ρ2[i]?=ρ1[i]?/\S2 i=S1 i)/\∀ i ∈ J,∀ s,ρ2[i]?=some (some s)->(∃ t,s=.own t)/\∀ b,S2 i b->M b
 | [],os,vs,M,S1,ρ1,ρ2,nd,I,r,hv,hm,h=>by
  cases os with
  | nil=>simp only [putOwns,Option.some.injEq] at h; subst h; exact ⟨S1,I,fun _ _=>⟨rfl,rfl⟩,fun i hi=>by simp at hi⟩
  | cons _ _=>simp [putOwns] at h
 | j::J,os,vs,M,S1,ρ1,ρ2,nd,I,r,hv,hm,h=>by
  cases r with
  | nil _=>simp [putOwns] at h
  | @cons _ v t vs ts _ Z M' r1 r2 n q =>
   simp only [putOwns] at h
   simp only [List.map_cons,List.cons.injEq] at hv
   have nd':=List.nodup_cons.mp nd
   have I2:=I.setO j hv.1.symm r1 fun k s _ hk b hb=>hm.nw k s hk b ((q b).mpr (.inl hb))
   have hm2:Held F H (updF S1 j Z) (ρ1.set j (some (.own t))) M':=⟨fun b hb=>hm.dom b ((q b).mpr (.inr hb)),fun i s hi b hb z=>by
    rcases get_set hi with ⟨rfl,_,_⟩ | ⟨ne,hi⟩
    ·rw [updF_same] at z; exact n b z hb
    ·rw [updF_ne (Ne.symm ne)] at z; exact hm.nw i s hi b ((q b).mpr (.inr hb)) z⟩
   obtain ⟨S2,g1,g2,g3⟩:=putOwns_ok nd'.2 I2 r2 hv.2 hm2 h
   refine ⟨S2,g1,fun i hi=>?_,fun i hi s hs=>?_⟩
   ·have ni:j≠i:=fun e=>hi (e▸List.mem_cons_self)
    obtain ⟨e1,e2⟩:=g2 i fun m=>hi (List.mem_cons_of_mem _ m)
    rw [set_ne ni] at e1
    rw [updF_ne (Ne.symm ni)] at e2
    exact ⟨e1,e2⟩
   ·rcases List.mem_cons.mp hi with e | e
    ·subst e
     obtain ⟨e1,e2⟩:=g2 i nd'.1
     rw [e1] at hs
     rcases get_set hs with ⟨_,e,_⟩ | ⟨ne,_⟩
     ·injection e with e
      refine ⟨⟨t,e⟩,fun b hb=>?_⟩
      rw [e2,updF_same] at hb
      exact (q b).mpr (.inl hb)
     ·exact absurd rfl ne
    ·obtain ⟨h1,h2⟩:=g3 i e s hs
     exact ⟨h1,fun b hb=>(q b).mpr (.inr (h2 b hb))⟩
theorem call_ok {f:Str} {as:PX} (g:GOk K Γ Ψ) (ia:PSnd K Γ Ψ as) (I:Rl K F H S ρ σ) (X:XOk K F H S ρ E EK) {Q:TK} {R:VK} {ws:List Nat} (h:(pe Ψ (.call f as) E).e ρ Q) (k:Kont K ws F H S ρ σ Q R):(wp K Γ (.call f as) EK).e σ H R:=by
 obtain ⟨os,ho,nd,h⟩:=h
 generalize hJ:mutRoots (Ψ.sp f).md as=J at ho nd h
 have own:∀ j ∈ J,∃ t,ρ[j]?=some (some (.own t)):=fun j hj=>by
  obtain ⟨i,hi⟩:=List.mem_iff_getElem?.mp hj
  obtain ⟨t,_,e⟩:=(ownsAt_some ho).2 i j hi
  exact ⟨t,e⟩
 have I0:Rl K F H S (clear J ρ) σ:=I.drop (clear_len J ρ) fun i s e=>(clear_get J ρ i s e).2
 have u0:∀ b,U (clear J ρ) S b->U ρ S b:=fun b ⟨i,t,h1,h2⟩=>⟨i,t,(clear_get J ρ i _ h1).2,h2⟩
 have X0:XOk K F H S (clear J ρ) E EK:=fun x dx F2 H2 S2 ρ2 s2 ff r q=>X x dx F2 H2 (fun _ _=>False) [] ⟨s2.ff,fun b u e n=>s2.hh b u e fun z=>n (u0 b z),s2.dm,fun b e z=>(s2.fn b e z).imp (u0 b) id,fun b ⟨i,t,e,_⟩=>by simp at e,fun j t e=>by simp at e⟩ ff r q
 have hm:∀ j ∈ mutRoots (Ψ.sp f).md as,∃ v,σ[j]?=some (some v):=fun j hj=>by
  obtain ⟨t,e⟩:=own j (hJ▸hj)
  obtain ⟨v,h1,_⟩:=I.sl j _ e
  exact ⟨v,h1⟩
 show (wp K Γ as EK).a σ H fun vs H1=>Γ.sp f vs H1 R EK
 refine ia.a I0 X0 hm h fun vs F1 H1 S1 ρ1 xs W Y s1 I1 r1 mv q1=>?_
 rw [hJ] at mv
 obtain ⟨ts,hp,q1⟩:=q1
 have hw:=r1.held
 have s2:=s1.frz (fun b hb=>(hw.dom b hb).2) r1.fr
 have I2:=I1.frz hw
 have yk:∀ b,Y b->F1 b=none->frzH F1 H1 W b=none:=fun b hy hf=>by
  obtain ⟨i,sl,_,h2,h3⟩:=r1.tm b hy
  rw [frzH_out fun z=>r1.nw i sl h2 b z h3]
  exact hf
 obtain ⟨ar,mt⟩:=r1.av.pass (frzH_ff fun b hb=>(hw.dom b hb).2) (fun b hb=>frzH_in hb) yk hp
 generalize frzH F1 H1 W=F2 at s2 I2 yk ar
 have M0:=I.trs nd ho mv
 have hM:Held F H S (clear J ρ) (fun b=>∃ j ∈ J,S j b):=⟨fun b ⟨j,hj,hb⟩=>let ⟨t,e⟩:=own j hj; I.dom e hb,fun i s e b ⟨j,hj,hb⟩ z=>by
  obtain ⟨e1,e2⟩:=clear_get J ρ i s e
  obtain ⟨t,et⟩:=own j hj
  exact I.dj j i t s (fun q=>e1 (q▸hj)) et e2 b hb z⟩
 have hM2:=hM.step s2.toStp I2
 have M2:Trs K F2 H1 true (mutVs (Ψ.sp f).md vs) (mutTs (Ψ.sp f).md ts) (fun b=>∃ j ∈ J,S j b):=by
  rw [mt]
  refine M0.mono s2.ff fun b hb=>?_
  refine ⟨?_,(hM2.dom b hb).2⟩
  cases e:H b with
  | none=>exact absurd e (hM.dom b hb).1
  | some u=>exact s2.hh b u e (hM.nu b hb)
 refine g.sp f vs H1 R EK ⟨F2,ts,_,Y,I2.fh,ar,M2,fun b hy hb=>?_,?_⟩
 ·obtain ⟨i,sl,_,h2,h3⟩:=r1.tm b hy
  exact hM2.nw i sl h2 b hb h3
 ·have up:∀ b,(∃ j ∈ J,S j b)->U ρ S b:=fun b ⟨j,hj,hb⟩=>let ⟨t,e⟩:=own j hj; ⟨j,t,e,hb⟩
  have lk:∀ b,(∃ j ∈ J,S j b)∨H1 b=none->U ρ S b∨H b=none:=fun b hb=>hb.imp (up b) (s2.dm b)
  refine (Ψ.sp f).mono ?_ ?_ q1
  rotate_left
  ·rintro x qx dx F' H' fm xr
   refine X x dx F' H' (fun _ _=>False) [] ⟨s2.ff.trans fm.ff,fun b u e n=>fm.hh b u (s2.hh b u e fun z=>n (u0 b z)) fun z=>n (up b z),fun b e=>s2.dm b (fm.dm b e),fun b e z=>?_,fun b ⟨i,t,e,_⟩=>by simp at e,fun j t e=>by simp at e⟩ fm.fh xr qx
   by_cases q:F2 b=none
   ·exact lk b (fm.fn b q z)
   ·exact (s2.fn b e q).imp (u0 b) id
  rintro r os' ⟨ρ2,hput,q⟩ v F' H' Z M' fm tr trs dz hf
  have I3:Rl K F' H' S1 ρ1 σ:=⟨fm.fh,I2.len,fun i s e=>by
   obtain ⟨w,g1,g2⟩:=I2.sl i s e
   refine ⟨w,g1,g2.mono fm.ff fun b hb=>?_⟩
   obtain ⟨d1,d2⟩:=g2.dom b hb
   have nM:¬ ∃ j ∈ J,S j b:=fun z=>hM2.nw i s e b z hb
   refine ⟨?_,?_⟩
   ·cases e:H1 b with
    | none=>exact absurd e d1
    | some u=>exact fm.hh b u e nM
   ·by_cases z:F' b=none
    ·exact z
    ·exact ((fm.fn b d2 z).elim nM d1).elim,I2.dj⟩
  have nw3:∀ b,(∃ j ∈ J,S j b)∨H1 b=none->∀ (i:Nat) s,ρ1[i]?=some (some s)->¬ S1 i b:=fun b hb i s e z=>by
   rcases hb with hb | hb
   ·exact hM2.nw i s e b hb z
   ·exact (I2.dom e z).1 hb
  have hM':Held F' H' S1 ρ1 M':=⟨trs.dom,fun i s e b hb=>nw3 b (hf b (.inr hb)) i s e⟩
  obtain ⟨S2,I4,g2,g3⟩:=putOwns_ok nd I3 trs mv hM' hput
  have inJ:∀ i s,ρ2[i]?=some (some s)->(i ∈ J/\(∃ t,s=.own t)/\∀ b,S2 i b->M' b)∨(i ∉ J/\ρ1[i]?=some (some s)/\S2 i=S1 i):=fun i s e=>by
   by_cases hi:i ∈ J
   ·exact .inl ⟨hi,g3 i hi s e⟩
   ·obtain ⟨e1,e2⟩:=g2 i hi
    exact .inr ⟨hi,e1▸e,e2⟩
  have st:Ste F H S ρ F' H' S2 ρ2:=⟨⟨s2.ff.trans fm.ff,fun b u e n=>fm.hh b u (s2.hh b u e fun z=>n (u0 b z)) fun z=>n (up b z),fun b e=>s2.dm b (fm.dm b e),fun b e z=>by
    by_cases q:F2 b=none
    ·exact lk b (fm.fn b q z)
    ·exact (s2.fn b e q).imp (u0 b) id,
   fun b ⟨i,t,h1,h2⟩=>by
    rcases inJ i _ h1 with ⟨_,_,e⟩ | ⟨_,e1,e2⟩
    ·exact lk b (hf b (.inr (e b h2)))
    ·rw [e2] at h2
     exact (s2.uu b ⟨i,t,e1,h2⟩).imp (u0 b) id,
   fun j t e hd=>by
    rcases inJ j _ e with ⟨_,⟨t',z⟩,_⟩ | ⟨_,e1,e2⟩
    ·cases z
    ·obtain ⟨b1,b2⟩:=s2.bo j t e1 hd
     exact ⟨(clear_get J ρ j _ b1).2,e2.trans b2⟩⟩,
   fun j t e=>by
    rcases inJ j _ e with ⟨hj,_,_⟩ | ⟨_,e1,e2⟩
    ·exact own j hj
    ·obtain ⟨t0,e0⟩:=s2.ow j t e1
     exact ⟨t0,(clear_get J ρ j _ e0).2⟩⟩
  refine k v F' H' S2 ρ2 r true Z st I4 ⟨tr,fun _ b hb=>?_,fun z=>(by cases z),fun _ i s e b hb z=>?_⟩ q
  ·exact (lk b (hf b (.inl hb))).symm
  ·rcases inJ i s e with ⟨_,_,e2⟩ | ⟨_,e1,e2⟩
   ·exact dz b hb (e2 b z)
   ·rw [e2] at z
    exact nw3 b (hf b (.inl hb)) i s e1 z
end
end L2.L3
namespace L2.L3
open PySem PySem.Spec PyProof.Rows
section
variable {K:PySem.W.Frag} {Γ:Ev} {Ψ:PEv} {E:XE} {EK:XK} {F H F1 H1:Hp} {S S1:Ft} {ρ ρ1:PSt} {σ:St}
theorem lock1_get {j:Nat} {t:T} (hj:ρ[j]?=some (some (.own t))) {i:Nat} {s:Sl} (h:(ρ.set j (some (.bor t)))[i]?=some (some s)):(i=j/\s=.bor t)∨(i≠j/\ρ[i]?=some (some s)):=by
 rcases get_set h with ⟨rfl,e,_⟩ | ⟨n,h⟩
 ·injection e with e; exact .inl ⟨rfl,e⟩
 ·exact .inr ⟨Ne.symm n,h⟩
theorem Rl.lock1 (I:Rl K F H S ρ σ) {j:Nat} {t:T} (hj:ρ[j]?=some (some (.own t))):Rl K F H S (ρ.set j (some (.bor t))) σ where
 fh:=I.fh
 len:=by simpa using I.len
 sl:=fun i s e=>by
  rcases lock1_get hj e with ⟨rfl,rfl⟩ | ⟨_,e⟩
  ·obtain ⟨v,h1,h2⟩:=I.sl i _ hj
   exact ⟨v,h1,h2.weak⟩
  ·exact I.sl i s e
 dj:=fun i k t' s n e1 e2=>by
  rcases lock1_get hj e1 with ⟨_,z⟩ | ⟨n1,g1⟩
  ·cases z
  ·rcases lock1_get hj e2 with ⟨q,_⟩ | ⟨_,g2⟩
   ·exact I.dj i k t' _ n g1 (q▸hj)
   ·exact I.dj i k t' s n g1 g2
theorem Rl.lock1U (I:Rl K F H S ρ σ) {j:Nat} {t:T} (hj:ρ[j]?=some (some (.own t))) (b:Addr) (hb:S j b):¬ U (ρ.set j (some (.bor t))) S b:=fun ⟨i,u,h1,h2⟩=>by
 rcases lock1_get hj h1 with ⟨_,z⟩ | ⟨n,h1⟩
 ·cases z
 ·exact I.dj i j u _ n h1 hj b h2 hb
theorem lock1U {j:Nat} {t:T} (hj:ρ[j]?=some (some (.own t))) {b:Addr} (h:U (ρ.set j (some (.bor t))) S b):U ρ S b:=by
 obtain ⟨i,u,h1,h2⟩:=h
 rcases lock1_get hj h1 with ⟨_,z⟩ | ⟨n,h1⟩
 ·cases z
 ·exact ⟨i,u,h1,h2⟩
theorem XOk.lock1 {j:Nat} {t:T} (X:XOk K F H S ρ E EK) (hj:ρ[j]?=some (some (.own t))):XOk K F H S (ρ.set j (some (.bor t))) E EK:=fun x dx F2 H2 S2 ρ2 s2 f r q =>
 X x dx F2 H2 (fun _ _=>False) [] ⟨s2.ff,fun b u e n=>s2.hh b u e fun z=>n (lock1U hj z),s2.dm,fun b e z=>(s2.fn b e z).imp (lock1U hj) id,fun b ⟨i,t,e,_⟩=>by simp at e,fun j t e=>by simp at e⟩ f r q
theorem lock1_nw {j:Nat} {t:T} {F2 H2:Hp} {S2:Ft} {ρ2:PSt} (I:Rl K F H S ρ σ) (hj:ρ[j]?=some (some (.own t))) (s:Ste F H S (ρ.set j (some (.bor t))) F2 H2 S2 ρ2) (I2:Rl K F2 H2 S2 ρ2 σ) {b:Addr} (hb:S j b) :
  ∀ (i:Nat) sl,i≠j->ρ2[i]?=some (some sl)->¬ S2 i b:=fun i sl n e z=>by
 cases sl with
 | own u =>
  rcases s.uu b ⟨i,u,e,z⟩ with q | q
  ·exact I.lock1U hj b hb q
  ·exact (I.dom hj hb).1 q
 | bor u =>
  cases hd:u.isD with
  | true=>exact I2.isD e hd z
  | false =>
   obtain ⟨e1,e2⟩:=s.bo i u e hd
   rw [e2] at z
   rcases lock1_get hj e1 with ⟨q,_⟩ | ⟨_,e1⟩
   ·exact n q
   ·exact I.dj j i t _ (Ne.symm n) hj e1 b hb z
theorem put_root {j:Nat} {t t':T} {v0:V} {F2 H2 H3:Hp} {S2:Ft} {ρ2:PSt} {W Z':Addr->Prop} (I:Rl K F H S ρ σ) (hj:ρ[j]?=some (some (.own t))) (hv:σ[j]?=some (some v0)) (s:Ste F H S (ρ.set j (some (.bor t))) F2 H2 S2 ρ2) (I2:Rl K F2 H2 S2 ρ2 σ)
  (hH:∀ b u,H2 b=some u->¬ S j b->H3 b=some u) (dm:∀ b,H3 b=none->H2 b=none) (r:Tr K F2 H3 true v0 t' Z') (hz:∀ b,Z' b->S j b∨W b∨H2 b=none) (hw:Held F2 H2 S2 ρ2 W) (frW:∀ b,W b->H b=none∨U (ρ.set j (some (.bor t))) S b) :
  Ste F H S ρ F2 H3 (updF S2 j Z') (ρ2.set j (some (.own t')))/\Rl K F2 H3 (updF S2 j Z') (ρ2.set j (some (.own t'))) σ/\∀ b,S j b∨W b∨H2 b=none->∀ (i:Nat) sl,i≠j->ρ2[i]?=some (some sl)->¬ S2 i b:=by
 have nw:∀ b,S j b∨W b∨H2 b=none->∀ (i:Nat) sl,i≠j->ρ2[i]?=some (some sl)->¬ S2 i b:=fun b hb i sl n e z=>by
  rcases hb with hb | hb | hb
  ·exact lock1_nw I hj s I2 hb i sl n e z
  ·exact hw.nw i sl e b hb z
  ·exact (I2.dom e z).1 hb
 have uj:∀ b,S j b->U ρ S b:=fun b hb=>⟨j,t,hj,hb⟩
 have lk:∀ b,S j b∨W b∨H2 b=none->U ρ S b∨H b=none:=fun b hb=>by
  rcases hb with hb | hb | hb
  ·exact .inl (uj b hb)
  ·exact (frW b hb).symm.imp (lock1U hj) id
  ·exact .inr (s.dm b hb)
 have fS:∀ b,S j b->F2 b=none:=fun b hb=>by
  by_cases q:F2 b=none
  ·exact q
  ·rcases s.fn b (I.dom hj hb).2 q with z | z
   ·exact absurd z (I.lock1U hj b hb)
   ·exact absurd z (I.dom hj hb).1
 have fh:Same F2 H3:=fun b u e=>hH b u (I2.fh b u e) fun z=>by rw [fS b z] at e; cases e
 have I3:Rl K F2 H3 S2 (ρ2.set j none) σ:=⟨fh,by simpa using I2.len,fun i sl e=>by
   rcases get_set e with ⟨_,z,_⟩ | ⟨n,e⟩
   ·cases z
   ·obtain ⟨v,h1,h2⟩:=I2.sl i sl e
    refine ⟨v,h1,h2.mono (.refl _) fun b hb=>⟨?_,(h2.dom b hb).2⟩⟩
    cases eb:H2 b with
    | none=>exact absurd eb (h2.dom b hb).1
    | some u=>exact hH b u eb fun z=>lock1_nw I hj s I2 z i sl (Ne.symm n) e hb,
  fun i k u sl n e1 e2=>by
   rcases get_set e1 with ⟨_,z,_⟩ | ⟨_,e1⟩
   ·cases z
   ·rcases get_set e2 with ⟨_,z,_⟩ | ⟨_,e2⟩
    ·cases z
    ·exact I2.dj i k u sl n e1 e2⟩
 have I4:=I3.setO j hv r fun i sl n e b hb=>by
  rcases get_set e with ⟨_,z,_⟩ | ⟨_,e⟩
  ·cases z
  ·exact nw b (hz b hb) i sl n e
 have es:(ρ2.set j none).set j (some (.own t'))=ρ2.set j (some (.own t')):=by simp
 rw [es] at I4
 refine ⟨⟨⟨s.ff,fun b u e n=>hH b u (s.hh b u e fun z=>n (lock1U hj z)) fun z=>n (uj b z),fun b e=>s.dm b (dm b e),fun b e z=>(s.fn b e z).imp (lock1U hj) id,fun b ⟨i,u,h1,h2⟩=>?_,fun i u e hd=>?_⟩,fun i u e=>?_⟩,I4,nw⟩
 ·rcases get_set h1 with ⟨rfl,_,_⟩ | ⟨n,h1⟩
  ·rw [updF_same] at h2
   exact lk b (hz b h2)
  ·rw [updF_ne (Ne.symm n)] at h2
   exact (s.uu b ⟨i,u,h1,h2⟩).imp (lock1U hj) id
 ·rcases get_set e with ⟨rfl,z,_⟩ | ⟨n,e⟩
  ·cases z
  ·obtain ⟨e1,e2⟩:=s.bo i u e hd
   rcases lock1_get hj e1 with ⟨z,_⟩ | ⟨_,e1⟩
   ·exact absurd z.symm n
   ·exact ⟨e1,by rw [updF_ne (Ne.symm n)]; exact e2⟩
 ·rcases get_set e with ⟨rfl,_,_⟩ | ⟨n,e⟩
  ·exact ⟨t,hj⟩
  ·obtain ⟨t0,e0⟩:=s.ow i u e
   rcases lock1_get hj e0 with ⟨_,z⟩ | ⟨_,e0⟩
   ·cases z
   ·exact ⟨t0,e0⟩
theorem chg_lst {a:Addr} {ys:List V} {us:List T} {P:Addr->Prop} (fa:F a=none) (r:Trs K F H true ys us P) (n:¬ P a):Tr K F (upd H a (.lst ys)) true (.ref a) (.lst us) fun b=>b=a∨P b :=
 .lst (S':=P) upd_same fa (r.mono (.refl _) fun b hb=>⟨upd_ne fun z=>n (z▸hb),(r.dom b hb).2⟩) n fun b=>Iff.rfl
theorem upd_other {a:Addr} {u0:HO} {Sp:Addr->Prop} (ha:Sp a) (b:Addr) (u:HO) (e:H b=some u) (hb:¬ Sp b):upd H a u0 b=some u:=by
 have hn:b≠a:=fun z=>hb (by rw [z]; exact ha)
 rw [upd_ne hn]; exact e
theorem upd_none {a:Addr} {u0:HO} (b:Addr) (e:upd H a u0 b=none):H b=none:=by
 by_cases hb:b=a
 ·rw [hb,upd_same] at e; cases e
 ·rw [upd_ne hb] at e; exact e
theorem mut_okT {m:Mt} {v:V} {s:T} {Sp W:Addr->Prop} {vs:List V} {ts:List T} {N:T->T->Prop} {R:VK} (f:Same F H) (r:Tr K F H true v s Sp) (rv:Trs K F H true vs ts W) (dj:∀ b,Sp b->¬ W b) (h:mutT m s ts N)
  (k:∀ w r s' H' S1 Zr,(∀ b u,H b=some u->¬ Sp b->H' b=some u)->(∀ b,H' b=none->H b=none)->Tr K F H' true v s' S1->Tr K F H' true w r Zr->(∀ b,Zr b->¬ S1 b)->(∀ b,S1 b∨Zr b->Sp b∨W b∨H b=none)->N r s'->R w H'):mtR K m v vs H R:=by
 obtain ⟨rfl,us0,t0,rfl,rfl,h⟩:=h
 cases r with
 | @lst _ a xs _ _ S' h1 h2 h3 h4 h5 =>
  have ha:Sp a:=(h5 a).mpr (.inl rfl)
  cases rv with
  | @cons _ w t ws us _ W1 W2 r1 r2 n q =>
   cases r2 with
   | nil n2 =>
    have hW:∀ b,W b ↔ W1 b:=fun b=>by rw [q b]; simp [n2 b]
    refine ⟨xs,h1,by rw [h3.length]; exact h.1,k .non (.d .none) _ _ _ (fun _=>False) (upd_other ha) upd_none (chg_lst h2 (Trs.append h3 (Trs.one r1) fun b hb hw=>dj b ((h5 b).mpr (.inr hb)) ((hW b).mpr hw)) fun z=>z.elim h4 fun z=>dj a ha ((hW a).mpr z)) (.d .non fun _ z=>z) (fun _ z=>z.elim) (fun b hb=>?_) h.2⟩
    rcases hb with (hb | hb | hb) | hb
    ·exact .inl (hb▸ha)
    ·exact .inl ((h5 b).mpr (.inr hb))
    ·exact .inr (.inl ((hW b).mpr hb))
    ·exact hb.elim
end
end L2.L3
namespace L2.L3
open PySem PySem.Spec PyProof.Rows
section
variable {K:PySem.W.Frag} {Γ:Ev} {Ψ:PEv}
noncomputable abbrev SndE (K:PySem.W.Frag) (Γ:Ev) (Ψ:PEv) (p:PX):Prop:=∀ {E:XE} {EK:XK} {F H:Hp} {S:Ft} {ρ:PSt} {σ:St} {Q:TK} {R:VK},Rl K F H S ρ σ->XOk K F H S ρ E EK->(pe Ψ p E).e ρ Q->Kont K (vrs p) F H S ρ σ Q R->(wp K Γ p EK).e σ H R
theorem tru_of {p:PX} (he:SndE K Γ Ψ p) {E:XE} {EK:XK} {F H:Hp} {S:Ft} {ρ:PSt} {σ:St} {Q:Bool->PSt->Prop} {R:Bool->Hp->Prop} (I:Rl K F H S ρ σ) (X:XOk K F H S ρ E EK) (h:(pe Ψ p E).e ρ fun t _ ρ1=>truD t.er fun b=>Q b ρ1) (k:KontB K F H S ρ σ Q R) :
  (wp K Γ p EK).e σ H fun x H1=>truQ K x H1 R :=
 he I X h fun v F' H' S' ρ' t n Z s I' r q=>tru_okD (r.tr.rep I'.fh) q fun c qc=>k c F' H' S' ρ' s I' qc
theorem PSnd.of_e {p:PX} (ht:∀ E ρ Q,(pe Ψ p E).t ρ Q=(pe Ψ p E).e ρ fun t _ ρ1=>truD t.er fun b=>Q b ρ1) (ht':∀ EK σ H R,(wp K Γ p EK).t σ H R=(wp K Γ p EK).e σ H fun x H1=>truQ K x H1 R) (ha:∀ E,(pe Ψ p E).a=nev.a) (hp:∀ E,(pe Ψ p E).p=nev.p) (he:SndE K Γ Ψ p):PSnd K Γ Ψ p where
 e:=he
 t:=fun I X h k=>by
  rw [ht] at h
  rw [ht']
  exact tru_of he I X h k
 a:=fun I X _ h k=>by rw [ha] at h; exact h.elim
 p:=fun I X _ _ _ _ h k=>by rw [hp] at h; exact h.elim
theorem PSnd.of_0 {p:PX} (ht:∀ E,(pe Ψ p E).t=nev.t) (ha:∀ E,(pe Ψ p E).a=nev.a) (hp:∀ E,(pe Ψ p E).p=nev.p) (he:SndE K Γ Ψ p):PSnd K Γ Ψ p where
 e:=he
 t:=fun I X h k=>by rw [ht] at h; exact h.elim
 a:=fun I X _ h k=>by rw [ha] at h; exact h.elim
 p:=fun I X _ _ _ _ h k=>by rw [hp] at h; exact h.elim
theorem PSnd.of_t {p:PX} (ht:∀ E ρ Q,(pe Ψ p E).e ρ Q=(pe Ψ p E).t ρ fun b ρ1=>Q (.d (.bool b)) false ρ1) (ht':∀ EK σ H R,(wp K Γ p EK).t σ H R=(wp K Γ p EK).e σ H fun x H1=>asB x H1 R) (ha:∀ E,(pe Ψ p E).a=nev.a) (hp:∀ E,(pe Ψ p E).p=nev.p)
  (he:∀ {E:XE} {EK:XK} {F H:Hp} {S:Ft} {ρ:PSt} {σ:St} {Q:Bool->PSt->Prop} {R:VK},Rl K F H S ρ σ->XOk K F H S ρ E EK->(pe Ψ p E).t ρ Q->KontB K F H S ρ σ Q (fun b=>R (.bl b))->(wp K Γ p EK).e σ H R):PSnd K Γ Ψ p where
 e:=fun I X h k=>by
  rw [ht] at h
  exact he I X h fun b F' H' S' ρ' s I' q=>Kont.d k s I' (.bl b) q
 t:=fun I X h k=>by
  rw [ht']
  exact he I X h fun b F' H' S' ρ' s I' q=>k b F' H' S' ρ' s I' q
 a:=fun I X _ h k=>by rw [ha] at h; exact h.elim
 p:=fun I X _ _ _ _ h k=>by rw [hp] at h; exact h.elim
theorem var_e (i:Nat):SndE K Γ Ψ (.var i):=by
 intro E EK F H S ρ σ Q R I X h k
 have h2:rdV ρ[i]? fun t=>Q t false ρ:=h
 show (match σ[i]? with | some (some v)=>R v H | _=>False)
 have key:∀ s,ρ[i]?=some (some s)->Q s.t false ρ->(match σ[i]? with | some (some v)=>R v H | _=>False):=fun s e q=>by
  obtain ⟨v,h1,h3⟩:=I.sl i _ e
  rw [h1]
  exact k v F H S ρ s.t false (S i) .refl I ⟨h3.weak,fun z=>(by cases z),fun _ b hb=>⟨i,s,List.mem_singleton.mpr rfl,e,hb⟩,fun z=>(by cases z)⟩ q
 unfold rdV at h2
 split at h2
 ·rename_i e; exact key _ e h2
 ·rename_i e; exact key _ e h2
 ·exact h2.elim
 ·exact h2.elim
theorem mut_ty {m:Mt} {v:V} {s:T} {H F:Hp} {Z:Addr->Prop} (h:isMut m=true) (ht:mutTy m s=true) (r:Tr K F H true v s Z):tyV K m.ty v H:=by
 unfold mutTy at ht
 split at ht
 ·cases r with
  | lst h1 _ _ _ _ =>
   refine .inl ⟨?_,_,SqL.of h1⟩
   cases m with
   | append=>rfl
   | _=>cases h
 ·cases ht
theorem idx_p {a b:PX} (ia:PSnd K Γ Ψ a) (ib:PSnd K Γ Ψ b) {E:XE} {EK:XK} {F H:Hp} {S:Ft} {ρ:PSt} {σ:St} {j:Nat} {v0:V} {t0:T} {Z0:Addr->Prop} {Q:List D->T->PSt->Prop} {R:VK} (I:Rl K F H S ρ σ) (X:XOk K F H S ρ E EK) (hj:rootOf (.idx a b)=some j) (hv:σ[j]?=some (some v0)) (r0:Tr K F H true v0 t0 Z0) (n0:∀ b,Z0 b->¬ U ρ S b) (h:(pe Ψ (.idx a b) E).p t0 ρ Q)
  (k:∀ ks s v F' H' S' ρ',Ste F H S ρ F' H' S' ρ'->Rl K F' H' S' ρ' σ->getP t0 ks=some s->PathV H' v0 ks v->Q ks s ρ'->R v H'):(wp K Γ (.idx a b) EK).e σ H R:=by
 show (wp K Γ a EK).e σ H fun x H1=>(wp K Γ b EK).e σ H1 fun y H2=>rIxU K x y H2 R
 have later:∀ {F' H':Hp} {S':Ft} {ρ':PSt},Ste F H S ρ F' H' S' ρ'->Tr K F' H' true v0 t0 Z0/\∀ b,Z0 b->¬ U ρ' S' b:=fun {F' H' S' ρ'} s=>⟨s.toStp.keep r0 n0,fun b hb u=>by
  rcases s.uu b u with q | q
  ·exact n0 b hb q
  ·exact (r0.dom b hb).1 q⟩
 refine ia.p I X hj hv r0 n0 h fun ks s v F1 H1 S1 ρ1 s1 I1 g1 p1 q1=>?_
 obtain ⟨r1,n1⟩:=later s1
 refine one_f ib I1 (X.from s1.toStp) q1 fun w F2 H2 S2 ρ2 x n Z s2 I2 X2 rx _ _ q2=>?_
 obtain ⟨d,s',ed,es,q2⟩:=q2
 rw [ed] at rx
 have s12:=s1.trans s2
 obtain ⟨r2,n2⟩:=later s12
 obtain ⟨u,Sp,pv,rp,_⟩:=r2.path g1
 have g2:=getP_snoc g1 es
 have pv2:PathV H2 v0 ks v:=by
  obtain ⟨u1,Sp1,pv1,_⟩:=r1.path g1
  have e1:=p1.det (pv1 H1 fun _ _=>rfl)
  subst e1
  exact pv1 H2 fun b hb=>by
   cases e:H1 b with
   | none=>exact absurd e (r1.dom b hb).1
   | some o=>exact s2.hh b o e (n1 b hb)
 have ev:=pv2.det (pv H2 fun _ _=>rfl)
 subst ev
 obtain ⟨z,Sz,st,_⟩:=rp.step es
 have stp:=st H2 fun _ _=>rfl
 obtain ⟨p,vs,i,rfl,rfl,ho,hat⟩:=id stp
 cases rx with
 | d rx _ =>
  cases rx
  have hs:SqL K H2 p vs∨SqT K H2 p vs:=ho.imp SqL.of SqT.of
  exact ⟨vs,z,hs,hat,k (ks++[.int i]) s' z F2 H2 S2 ρ2 s12 I2 g2 (pv2.snoc stp) q2⟩
theorem mt_e {m:Mt} {o as:PX} (io:PSnd K Γ Ψ o) (ia:PSnd K Γ Ψ as):SndE K Γ Ψ (.mt m o as):=by
 intro E EK F H S ρ σ Q R I X h k
 show (wp K Γ o EK).e σ H fun x H1=>tyV K m.ty x H1/\(wp K Γ as EK).a σ H1 fun vs H2=>mtR K m x vs H2 R
 cases hm:isMut m with
 | false =>
  have h:(pe Ψ o E).e ρ fun x n ρ1=>mtTy m (frzN x n).vw=true/\sq (frzN x n) ρ1 ((pe Ψ as E).a []) fun xs ρ2=>mtT m (frzN x n).vw (vwOf xs) fun z k=>Q z k ρ2:=by
   have h2:(if isMut m=true then _ else _):=h
   rw [hm,if_neg (by simp)] at h2
   exact h2
  refine two_a (P1:=fun x n=>mtTy m (frzN x n).vw=true) (R1:=fun v H1=>tyV K m.ty v H1) (RR:=fun v vs H2=>mtR K m v vs H2 R) io ia I X h (fun v F' H' x n Za r p=>mt_ty r p) fun v vs F' H' S' ρ' x n xs Za Y s I' X' r _ tn q=>?_
  rw [vw_map _ rfl] at q
  exact mt_okT s I' r tn q k
 | true =>
  have h:rootV (rootOf o) fun j=>ownV ρ[j]? fun t=>(pe Ψ o E).p t (ρ.set j (some (.bor t))) fun ks s ρ1=>mutTy m s=true/\(pe Ψ as E).a [] ρ1 fun xs ρ2=>escB xs=true/\ρ2[j]?=some (some (.bor t))/\mutT m s (tsOf xs) fun r s'=>Q r true (ρ2.set j (some (.own (setP t ks s')))):=by
   have h2:(if isMut m=true then _ else _):=h
   rw [hm,if_pos rfl] at h2
   exact h2
  cases hr:rootOf o with
  | none=>rw [hr] at h; exact h.elim
  | some j =>
   rw [hr] at h
   have h:ownV ρ[j]? _:=h
   unfold ownV at h
   split at h
   ·rename_i t hj
    obtain ⟨v0,hv,r0⟩:=I.sl j _ hj
    have IL:=I.lock1 hj
    have n0:=I.lock1U hj
    have r0:Tr K F H true v0 t (S j):=r0
    have later:∀ {F' H':Hp} {S':Ft} {ρ':PSt},Ste F H S (ρ.set j (some (.bor t))) F' H' S' ρ'->Tr K F' H' true v0 t (S j)/\∀ b,S j b->¬ U ρ' S' b:=fun {F' H' S' ρ'} s=>⟨s.toStp.keep r0 n0,fun b hb u=>by
     rcases s.uu b u with q | q
     ·exact n0 b hb q
     ·exact (r0.dom b hb).1 q⟩
    have XL:=X.lock1 hj
    refine io.p IL XL hr hv r0 n0 h fun ks s v F1 H1 S1 ρ1 s1 I1 g1 p1 ⟨ht,q1⟩=>?_
    obtain ⟨r1,n1⟩:=later s1
    obtain ⟨u1,Sp1,pv1,rs1,_⟩:=r1.path g1
    have e1:=p1.det (pv1 H1 fun _ _=>rfl)
    subst e1
    refine ⟨mut_ty hm ht rs1,?_⟩
    refine ia.a (md:=[]) I1 (XL.from s1.toStp) (fun j hj=>by cases as<;>cases hj) q1 fun vs F2 H2 S2 ρ2 xs W Y s2 I2 ar _ q2=>?_
    obtain ⟨he,hj2,q2⟩:=q2
    have s12:=s1.trans s2
    obtain ⟨r2,n2⟩:=later s12
    obtain ⟨u2,Sp,pv2,rs2,sub,put⟩:=r2.path g1
    have e2:v=u2:=by
     refine PathV.det (H:=H2) (pv1 H2 fun b hb=>?_) (pv2 H2 fun _ _=>rfl)
     cases e:H1 b with
     | none=>exact absurd e (r1.dom b hb).1
     | some o=>exact s2.hh b o e (n1 b hb)
    subst e2
    have ar:=ar.from s1.toStp
    have hw:=ar.held
    have trs:=ar.av.trs noMd he
    have wS:∀ b,S j b->¬ W b:=fun b hb hb2=>by
     rcases ar.fr b hb2 with q | q
     ·exact (r0.dom b hb).1 q
     ·exact n0 b hb q
    refine mut_okT I2.fh rs2 trs (fun b hb=>wS b (sub b hb)) q2 fun w r s' H3 S3 Zr hh dm rs' rr dz hf q=>?_
    have full:=put F2 H3 s' S3 (.refl _) (fun b hb hn=>⟨by
     cases e:H2 b with
     | none=>exact absurd e (r2.dom b hb).1
     | some o=>exact hh b o e hn,(r2.dom b hb).2⟩) rs' fun b hb hs=>by
      rcases hf b (.inl hb) with q | q | q
      ·exact q
      ·exact absurd q (wS b hs)
      ·exact absurd q (r2.dom b hs).1
    have zk:∀ b,(S j b/\¬ Sp b)∨S3 b->S j b∨W b∨H2 b=none:=fun b hb=>by
     rcases hb with hb | hb
     ·exact .inl hb.1
     ·exact (hf b (.inl hb)).imp (sub b) id
    obtain ⟨st,I3,nw⟩:=put_root I hj hv s12 I2 (fun b u e n=>hh b u e fun z=>n (sub b z)) dm full zk hw ar.fr
    have zr:∀ b,Zr b->S j b∨W b∨H2 b=none:=fun b hb=>(hf b (.inr hb)).imp (sub b) id
    refine k w F2 H3 _ _ r true Zr st I3 ⟨rr,fun _ b hb=>?_,fun z=>(by cases z),fun _ i sl e b hb z=>?_⟩ q
    ·rcases zr b hb with q | q | q
     ·exact .inr ⟨j,t,hj,q⟩
     ·exact (ar.fr b q).imp id (lock1U hj)
     ·exact .inl (s12.dm b q)
    ·rcases get_set e with ⟨rfl,_,_⟩ | ⟨n,e⟩
     ·rw [updF_same] at z
      rcases z with ⟨z1,z2⟩ | z
      ·rcases hf b (.inr hb) with q | q | q
       ·exact z2 q
       ·exact wS b z1 q
       ·exact (r2.dom b z1).1 q
      ·exact dz b hb z
     ·rw [updF_ne (Ne.symm n)] at z
      exact nw b (zr b hb) i sl (Ne.symm n) e z
   all_goals exact h.elim
theorem pair_look {kvs:List (Str × V)} {kds:List (Str × D)} (h:Paired (fun (p:Str × V) (q:Str × D)=>p.1=q.1/\∀ F,Rep K F p.2 q.2) kvs kds) (z:Str) (F:Hp) :
  (∀ d,kds.lookup z=some d->∃ v,kvs.lookup z=some v/\Rep K F v d)/\Rep K F ((kvs.lookup z).getD .non) ((kds.lookup z).getD .none):=by
 induction h with
 | nil=>exact ⟨fun d e=>(by simp at e),.non⟩
 | @cons p q ps qs h t ih =>
  obtain ⟨p1,p2⟩:=p
  obtain ⟨q1,q2⟩:=q
  obtain ⟨h1,h2⟩:=h
  have h1:p1=q1:=h1
  subst h1
  rw [List.lookup_cons,List.lookup_cons]
  cases e:z == p1 with
  | true=>exact ⟨fun d e=>by cases e; exact ⟨p2,rfl,h2 F⟩,h2 F⟩
  | false=>exact ih
theorem Tn.one1 {Y:Addr->Prop} {vs:List V} {x:D} (h:Tn K F H Y vs [.d x]):∃ v,vs=[v]/\Rep K F v x:=by
 cases h with
 | cons r _ t =>
  cases t
  cases r with
  | d r _=>exact ⟨_,rfl,r⟩
theorem prm_okT {o:Prm} {Y:Addr->Prop} {vs:List V} {ts:List T} {F H F1 H1:Hp} {S S1:Ft} {ρ ρ1:PSt} {σ:St} {Q:TK} {R:VK} {ws:List Nat} (g:GOk K Γ Ψ) (s:Ste F H S ρ F1 H1 S1 ρ1) (I:Rl K F1 H1 S1 ρ1 σ) (ra:Tn K F1 H1 Y vs ts) (h:prmT Ψ o ts fun z n=>Q z n ρ1) (k:Kont K ws F H S ρ σ Q R):prmR K Γ o vs H1 R:=by
 cases o with
 | dget x =>
  obtain ⟨z,kds,rfl,e,q⟩:=h
  obtain ⟨v,rfl,r⟩:=ra.one1
  cases r
  obtain ⟨kvs,e2,p⟩:=g.dc _ _ e
  exact ⟨kvs,e2,k.d s I (pair_look p _ F1).2 q⟩
 | dix x =>
  obtain ⟨z,kds,d,rfl,e,l,q⟩:=h
  obtain ⟨v,rfl,r⟩:=ra.one1
  cases r
  obtain ⟨kvs,e2,p⟩:=g.dc _ _ e
  obtain ⟨v,l2,r2⟩:=(pair_look p _ F1).1 d l
  exact ⟨kvs,v,e2,l2,k.d s I r2 q⟩
theorem psnd (g:GOk K Γ Ψ):∀ (p:PX),PSnd K Γ Ψ p
 | .var i=>⟨var_e i,fun I X h k=>tru_of (Γ:=Γ) (Ψ:=Ψ) (var_e i) I X h k,fun I X _ h k=>h.elim,fun {E EK F H S ρ σ j v0 t0 Z0 Q R} I X hj hv r0 n0 h k=>by
   have e:i=j:=Option.some.inj hj
   subst e
   show (match σ[i]? with | some (some v)=>R v H | _=>False)
   rw [hv]
   exact k [] t0 v0 F H S ρ .refl I rfl rfl h⟩
 | .int i=>⟨fun I X h k=>Kont.d k .refl I (.int i) h,fun I X h k=>k _ _ _ _ _ .refl I h,fun I X _ h k=>h.elim,fun I X _ _ _ _ h k=>h.elim⟩
 | .str x=>⟨fun I X h k=>Kont.d k .refl I (.str x) h,fun I X h k=>h.elim,fun I X _ h k=>h.elim,fun I X _ _ _ _ h k=>h.elim⟩
 | .bl b=>⟨fun I X h k=>Kont.d k .refl I (.bl b) h,fun I X h k=>k _ _ _ _ _ .refl I h,fun I X _ h k=>h.elim,fun I X _ _ _ _ h k=>h.elim⟩
 | .non=>⟨fun I X h k=>Kont.d k .refl I .non h,fun I X h k=>k _ _ _ _ _ .refl I h,fun I X _ h k=>h.elim,fun I X _ _ _ _ h k=>h.elim⟩
 | .glo x=>.of_e (fun _ _ _=>rfl) (fun _ _ _ _=>rfl) (fun _=>rfl) (fun _=>rfl) fun {E EK F H S ρ σ Q R} I X h k=>by
  have h:(match Ψ.va x with | some d=>Q (.d d) false ρ | none=>False):=h
  split at h
  ·rename_i d e
   exact Kont.d k .refl I (g.va x d e F) h
  ·exact h.elim
 | .bty _ _=>⟨fun I X h k=>h.elim,fun I X h k=>h.elim,fun I X _ h k=>h.elim,fun I X _ _ _ _ h k=>h.elim⟩
 | .bin op a b=>.of_e (fun _ _ _=>rfl) (fun _ _ _ _=>rfl) (fun _=>rfl) (fun _=>rfl) fun {E EK F H S ρ σ Q R} I X h k =>
  two_f (P:=fun x n y m ρ2=>binT op (frzN x n).vw (frzN y m).vw fun z k=>Q z k ρ2) (RR:=fun x y H2=>binR K op x y H2 R) (psnd g a) (psnd g b) I X h fun v w F' H' S' ρ' x n y m Za Zb s I' X' ra _ rb q=>bin_ok s I' ra rb q k
 | .cmp op a b=>.of_t (fun _ _ _=>rfl) (fun _ _ _ _=>rfl) (fun _=>rfl) (fun _=>rfl) fun {E EK F H S ρ σ Q R} I X h k =>
  two_f (P:=fun x n y m ρ2=>cmpD op x.er y.er fun k=>Q k ρ2) (RR:=fun x y H2=>cmpR K op x y H2 R) (psnd g a) (psnd g b) I X h fun v w F' H' S' ρ' x n y m Za Zb s I' X' ra _ rb q =>
   cmp_ok (by have:=ra.rep I'.fh; rwa [frzN_er] at this) (by have:=rb.rep I'.fh; rwa [frzN_er] at this) q fun c qc=>k c F' H' S' ρ' s I' qc
 | .chn o p a b c=>.of_t (fun _ _ _=>rfl) (fun _ _ _ _=>rfl) (fun _=>rfl) (fun _=>rfl) fun {E EK F H S ρ σ Q R} I X h k =>
  two_f (P:=fun x n y m ρ2=>cmpD o x.er y.er fun k=>if k=true then sq (frzN y m) ρ2 (cu (pe Ψ c E).e) fun z ρ3=>cmpD p y.er z.1.er fun k=>Q k ρ3 else Q false ρ2)
   (RR:=fun x y H2=>cmpR K o x y H2 fun z H3=>asB z H3 fun k H4=>if k=true then (wp K Γ c EK).e σ H4 fun w' H5=>cmpR K p y w' H5 R else R (.bl false) H4) (psnd g a) (psnd g b) I X h
   fun v w F' H' S' ρ' x n y m Za Zb s I' X' ra _ rb q=>by
    refine cmp_ok (R:=fun z H3=>asB z H3 fun k H4=>if k=true then (wp K Γ c EK).e σ H4 fun w' H5=>cmpR K p w w' H5 R else R (.bl false) H4) (by have:=ra.rep I'.fh; rwa [frzN_er] at this) (by have:=rb.rep I'.fh; rwa [frzN_er] at this) q fun kb qc=>?_
    cases kb with
    | false=>exact k false F' H' S' ρ' s I' qc
    | true =>
     rw [if_pos rfl] at qc
     refine sq_e (RR:=fun w' H5=>cmpR K p w w' H5 R) (psnd g c) I' X' qc fun w2 F2 H2 S2 ρ2 z l Z s2 I2 kp _ r2 q2=>?_
     have rb2:=(kp _ _ _ rb).rep I2.fh
     rw [frzN_er] at rb2
     exact cmp_ok rb2 (r2.tr.rep I2.fh) q2 fun cb qb=>k cb F2 H2 S2 ρ2 (s.trans s2) I2 qb
 | .and a b=>⟨fun {E EK F H S ρ σ Q R} I X h k=>by
   refine (psnd g a).e (Q:=fun x _ ρ1=>asD x.er fun c=>if c=true then (pe Ψ b E).e ρ1 Q else Q (.d (.bool false)) false ρ1) (R:=fun x H1=>asB x H1 fun c H2=>if c=true then (wp K Γ b EK).e σ H2 R else R (.bl false) H2) I X h fun v F' H' S' ρ' x n Z s I' r q=>?_
   refine as_okD (r.tr.rep I'.fh) q fun c qc=>?_
   cases c with
   | false=>exact Kont.d k s I' (.bl false) qc
   | true=>exact (psnd g b).e I' (X.from s.toStp) qc ((k.from s).vars fun i hi=>List.mem_append_right _ hi),
  fun {E EK F H S ρ σ Q R} I X h k=>by
   refine (psnd g a).t (Q:=fun c ρ1=>if c=true then (pe Ψ b E).t ρ1 Q else Q false ρ1) (R:=fun c H1=>if c=true then (wp K Γ b EK).t σ H1 R else R false H1) I X h fun c F' H' S' ρ' s I' qc=>?_
   cases c with
   | false=>exact k _ F' H' S' ρ' s I' qc
   | true=>exact (psnd g b).t I' (X.from s.toStp) qc (KontB.from k s),fun I X _ h k=>h.elim,fun I X _ _ _ _ h k=>h.elim⟩
 | .or a b=>⟨fun {E EK F H S ρ σ Q R} I X h k=>by
   refine (psnd g a).e (Q:=fun x _ ρ1=>asD x.er fun c=>if c=true then Q (.d (.bool true)) false ρ1 else (pe Ψ b E).e ρ1 Q) (R:=fun x H1=>asB x H1 fun c H2=>if c=true then R (.bl true) H2 else (wp K Γ b EK).e σ H2 R) I X h fun v F' H' S' ρ' x n Z s I' r q=>?_
   refine as_okD (r.tr.rep I'.fh) q fun c qc=>?_
   cases c with
   | true=>exact Kont.d k s I' (.bl true) qc
   | false=>exact (psnd g b).e I' (X.from s.toStp) qc ((k.from s).vars fun i hi=>List.mem_append_right _ hi),
  fun {E EK F H S ρ σ Q R} I X h k=>by
   refine (psnd g a).t (Q:=fun c ρ1=>if c=true then Q true ρ1 else (pe Ψ b E).t ρ1 Q) (R:=fun c H1=>if c=true then R true H1 else (wp K Γ b EK).t σ H1 R) I X h fun c F' H' S' ρ' s I' qc=>?_
   cases c with
   | true=>exact k _ F' H' S' ρ' s I' qc
   | false=>exact (psnd g b).t I' (X.from s.toStp) qc (KontB.from k s),fun I X _ h k=>h.elim,fun I X _ _ _ _ h k=>h.elim⟩
 | .not a=>⟨fun {E EK F H S ρ σ Q R} I X h k=>by
   refine (psnd g a).e (Q:=fun x _ ρ1=>truD x.er fun c=>Q (.d (.bool (!c))) false ρ1) (R:=fun x H1=>truQ K x H1 fun c H2=>R (.bl (!c)) H2) I X h fun v F' H' S' ρ' x n Z s I' r q=>?_
   exact tru_okD (r.tr.rep I'.fh) q fun c qc=>Kont.d k s I' (.bl _) qc,
  fun {E EK F H S ρ σ Q R} I X h k=>(psnd g a).t (Q:=fun c ρ1=>Q (!c) ρ1) (R:=fun c H1=>R (!c) H1) I X h fun c F' H' S' ρ' s I' qc=>k _ F' H' S' ρ' s I' qc,fun I X _ h k=>h.elim,fun I X _ _ _ _ h k=>h.elim⟩
 | .ife c a b=>.of_0 (fun _=>rfl) (fun _=>rfl) (fun _=>rfl) fun {E EK F H S ρ σ Q R} I X h k=>by
  refine (psnd g c).t (Q:=fun k ρ1=>if k=true then (pe Ψ a E).e ρ1 Q else (pe Ψ b E).e ρ1 Q) (R:=fun k H1=>if k=true then (wp K Γ a EK).e σ H1 R else (wp K Γ b EK).e σ H1 R) I X h fun c F' H' S' ρ' s I' qc=>?_
  cases c with
  | true=>exact (psnd g a).e I' (X.from s.toStp) qc ((k.from s).vars fun i hi=>List.mem_append_left _ hi)
  | false=>exact (psnd g b).e I' (X.from s.toStp) qc ((k.from s).vars fun i hi=>List.mem_append_right _ hi)
 | .call f as=>.of_e (fun _ _ _=>rfl) (fun _ _ _ _=>rfl) (fun _=>rfl) (fun _=>rfl) fun {E EK F H S ρ σ Q R} I X h k=>call_ok g (psnd g as) I X h k
 | .isi a c=>by
  have key:∀ {E:XE} {EK:XK} {F H:Hp} {S:Ft} {ρ:PSt} {σ:St} {Q:Bool->PSt->Prop} {R:VK},Rl K F H S ρ σ->XOk K F H S ρ E EK->(pe Ψ (.isi a c) E).t ρ Q->KontB K F H S ρ σ Q (fun b=>R (.bl b))->(wp K Γ (.isi a c) EK).e σ H R:=by
   intro E EK F H S ρ σ Q R I X h k
   refine (psnd g a).e (Q:=fun x _ ρ1=>isiD c x.er fun b=>Q b ρ1) I X h fun v F' H' S' ρ' x n Z s I' r q=>?_
   cases c with
   | bty z n =>
    obtain ⟨b,h1,h2,q⟩:=q
    exact isi_ok (r.tr.rep I'.fh) h1 h2 (k b F' H' S' ρ' s I' q)
   | _=>exact q.elim
  refine ⟨fun I X h k=>key I X h fun b F' H' S' ρ' s I' q=>Kont.d k s I' (.bl b) q,fun {E EK F H S ρ σ Q R} I X h k=>?_,fun I X _ h k=>h.elim,fun I X _ _ _ _ h k=>h.elim⟩
  exact key (R:=fun v H1=>truQ K v H1 R) I X h fun b F' H' S' ρ' s I' q=>k b F' H' S' ρ' s I' q
 | .bi f as=>.of_e (fun _ _ _=>rfl) (fun _ _ _ _=>rfl) (fun _=>rfl) (fun _=>rfl) fun {E EK F H S ρ σ Q R} I X h k =>
  args_f (P:=fun xs ρ1=>biT f (vwOf xs) fun z k=>Q z k ρ1) (RR:=fun vs H1=>biR K f vs H1 R) (psnd g as) I X h fun vs F' H' S' ρ' xs Y s I' X' tn _ q=>by
   rw [vw_map _ rfl] at q
   exact bi_okT s I' tn q k
 | .prm o as=>.of_e (fun _ _ _=>rfl) (fun _ _ _ _=>rfl) (fun _=>rfl) (fun _=>rfl) fun {E EK F H S ρ σ Q R} I X h k =>
  args_f (P:=fun xs ρ1=>prmT Ψ o (fzOf xs) fun z k=>Q z k ρ1) (RR:=fun vs H1=>prmR K Γ o vs H1 R) (psnd g as) I X h fun vs F' H' S' ρ' xs Y s I' X' tn _ q=>prm_okT g s I' tn q k
 | .mt m o as=>.of_e (fun _ _ _=>rfl) (fun _ _ _ _=>rfl) (fun _=>rfl) (fun _=>rfl) (mt_e (psnd g o) (psnd g as))
 | .idx a b=>by
  have he:SndE K Γ Ψ (.idx a b):=fun {E EK F H S ρ σ Q R} I X h k =>
   two_f (P:=fun x n y m ρ2=>idxT (frzN x n).vw (frzN y m).vw fun z=>Q z false ρ2) (RR:=fun x y H2=>rIxU K x y H2 R) (psnd g a) (psnd g b) I X h fun v w F' H' S' ρ' x n y m Za Zb s I' X' ra za rb q=>idx_ok s I' ra za rb q k
  exact ⟨he,fun I X h k=>tru_of he I X h k,fun I X _ h k=>h.elim,fun I X hj hv r0 n0 h k=>idx_p (psnd g a) (psnd g b) I X hj hv r0 n0 h k⟩
 | .slc a lo hi=>.of_0 (fun _=>rfl) (fun _=>rfl) (fun _=>rfl) fun {E EK F H S ρ σ Q R} I X h k=>by
  have part:∀ (p:PX),PSnd K Γ Ψ p->∀ {F H:Hp} {S:Ft} {ρ:PSt} {x:T} {P:Option Int->PSt->Prop} {RP:Option Int->Hp->Prop},Rl K F H S ρ σ->XOk K F H S ρ E EK ->
    sq (α:=Option Int) x ρ (if isNop p=true then fun ρ (R:Option Int->PSt->Prop)=>R none ρ else fun ρ R=>(pe Ψ p E).e ρ fun l _ ρ2=>partD l.er fun o=>R o ρ2) P ->
    (∀ o F' H' S' ρ',Ste F H S ρ F' H' S' ρ'->Rl K F' H' S' ρ' σ->(∀ st v Zx,Tr K F H st v x Zx->Tr K F' H' st v x Zx)->P o ρ'->RP o H') ->
    (if isNop p=true then fun (R:Option Int->Hp->Prop)=>R none H else fun R=>(wp K Γ p EK).e σ H fun l H2=>partQ l H2 R) RP:=by
   intro p ip F H S ρ x P RP I X h k
   cases hn:isNop p with
   | true =>
    simp only [hn,if_true] at h ⊢
    refine k none F H S ρ .refl I (fun _ _ _ r=>r) ?_
    unfold sq at h
    split at h<;>exact h
   | false =>
    simp only [hn,Bool.false_eq_true,if_false] at h ⊢
    have h2:sq x ρ (cu (pe Ψ p E).e) fun y ρ'=>partD y.1.er fun o=>P o ρ':=by
     unfold sq at h ⊢
     exact h
    refine sq_e ip I X h2 fun w F' H' S' ρ' y m Z s I' kp _ r q=>part_ok (r.tr.rep I'.fh) q fun o qo=>k o F' H' S' ρ' s I' kp qo
  refine one_f (psnd g a) I X h fun v F1 H1 S1 ρ1 x n Za s1 I1 X1 r1 _ z1 h1=>?_
  refine part lo (psnd g lo) I1 X1 h1 fun l F2 H2 S2 ρ2 s2 I2 k2 h2=>?_
  refine part hi (psnd g hi) I2 (X1.from s2.toStp) h2 fun u F3 H3 S3 ρ3 s3 I3 k3 h3=>?_
  exact slc_ok (s1.trans (s2.trans s3)) I3 (k3 _ _ _ (k2 _ _ _ r1)) h3 k
 | .nop=>⟨fun I X h k=>h.elim,fun I X h k=>h.elim,fun I X _ h k=>h.elim,fun I X _ _ _ _ h k=>h.elim⟩
 | .lst as=>.of_0 (fun _=>rfl) (fun _=>rfl) (fun _=>rfl) fun {E EK F H S ρ σ Q R} I X h k=>by
  refine (psnd g as).a (md:=[]) (R:=fun xs H1=>xs.length<=sizeLine/\∀ p,H1 p=none->R (.ref p) (upd H1 p (.lst xs))) I X (fun j hj=>by cases as<;>cases hj) h fun vs F' H' S' ρ' xs W Y s I' r _ q=>?_
  exact ⟨by rw [r.av.length]; exact q.2.1,fun p hp=>Kont.list k s I' hp (r.av.trs noMd q.1) r.fr r.held q.2.2⟩
 | .tup as=>.of_0 (fun _=>rfl) (fun _=>rfl) (fun _=>rfl) fun {E EK F H S ρ σ Q R} I X h k=>by
  refine (psnd g as).a (md:=[]) (R:=fun xs H1=>xs.length<=sizeLine/\∀ p,H1 p=none->R (.ref p) (upd H1 p (.tup xs))) I X (fun j hj=>by cases as<;>cases hj) h fun vs F' H' S' ρ' xs W Y s I' r _ q=>?_
  exact ⟨by rw [r.av.length]; exact q.2.1,fun p hp=>Kont.tup k s I' hp (r.av.trs noMd q.1) r.fr r.held q.2.2⟩
 | .comp mask tgs tg ik its cond elt=>.of_0 (fun _=>rfl) (fun _=>rfl) (fun _=>rfl) fun {E EK F H S ρ σ Q R} I X h k=>by
  refine args_f (RR:=fun vs H1=>itemsR K ik vs H1 fun xs st H2=>CompB K xs st tg (if isNop cond=true then fun _ H Q=>Q true H else (wp K Γ cond (fun _ _ _=>False)).t) (wp K Γ elt (fun _ _ _=>False)).e (entS tgs.length mask σ) H2 R) (psnd g its) I X h fun vs F1 H1 S1 ρ1 xs Y s1 I1 X1 tn tm q1=>?_
  rw [vw_map _ rfl] at q1
  refine items_okT I1.fh tn q1 fun xs ys st pr hst hc=>?_
  refine compV_ok (us:=vrs elt) ?_ ?_ s1 I1 pr (fun b hb=>?_) hst hc k
  ·intro F H S ρ σ Q R I h k
   cases hn:isNop cond with
   | true =>
    simp only [hn,if_true] at h ⊢
    exact k true F H S ρ .refl I h
   | false =>
    simp only [hn,Bool.false_eq_true,if_false] at h ⊢
    exact (psnd g cond).t I XOk.never h k
  ·intro F H S ρ σ Q R I h k
   exact (psnd g elt).e I XOk.never h k
  ·obtain ⟨i,sl,_,h2,h3⟩:=tm b hb
   exact I1.dom h2 h3
 | .anil=>⟨fun I X h k=>h.elim,fun I X h k=>h.elim,fun {E EK F H S ρ σ md Q R} I X _ h k=>k [] F H S ρ [] (fun _=>False) (fun _=>False) .refl I ⟨.nil fun _ z=>z,fun _ z=>z.elim,fun _ z=>z.elim,fun _ _ _ _ z=>z.elim⟩ (by cases md with | nil=>rfl | cons m r=>cases m<;>rfl) h,fun I X _ _ _ _ h k=>h.elim⟩
 | .acons a as=>⟨fun I X h k=>h.elim,fun I X h k=>h.elim,fun {E EK F H S ρ σ md Q R} I X hm h k=>by
  show (wp K Γ a EK).e σ H fun x H1=>(wp K Γ as EK).a σ H1 fun xs H2=>R (x::xs) H2
  have vr2:∀ i ∈ vrs as,i ∈ vrs (.acons a as):=fun i hi=>List.mem_append_right _ hi
  cases hmd:(md.headD .fro).isMut with
  | true =>
   have h2:isVar a=true/\(pe Ψ as E).a md.tail ρ fun xs ρ1=>Q ((.d .none,true)::xs) ρ1:=by
    have h3:(if (md.headD .fro).isMut=true then _ else _):=h
    rw [hmd,if_pos rfl] at h3
    exact h3
   obtain ⟨m,md',rfl⟩:∃ m md',md=m::md':=by
    cases md with
    | nil=>cases hmd
    | cons m md'=>exact ⟨m,md',rfl⟩
   have em:m=.chg:=by
    have hmd:m.isMut=true:=hmd
    cases m<;>first | rfl | cases hmd
   subst em
   cases a with
   | var j =>
    obtain ⟨v,hv⟩:=hm j (by simp [mutRoots])
    show (match σ[j]? with | some (some v)=>_ | _=>False)
    rw [hv]
    refine (psnd g as).a I X (fun i hi=>hm i (List.mem_cons_of_mem _ hi)) h2.2 fun vs F' H' S' ρ' xs W Y s I' r mv q=>?_
    refine k (v::vs) F' H' S' ρ' _ W Y s I' ⟨.chg hmd r.av,r.fr,(r.vars vr2).tm,r.nw⟩ ?_ q
    show (some (some v))::(mutVs md' vs).map _=σ[j]?::(mutRoots md' as).map _
    have mv:(mutVs md' vs).map (fun v=>some (some v))=(mutRoots md' as).map (fun j=>σ[j]?):=mv
    rw [hv,mv]
   | _=>exact absurd h2.1 (by simp [isVar])
  | false =>
   have h2:(pe Ψ a E).e ρ fun x n ρ1=>sq (α:=List (T × Bool)) (if n=true then .d .none else x) ρ1 ((pe Ψ as E).a md.tail) fun xs ρ2=>Q ((x,n)::xs) ρ2:=by
    have h3:(if (md.headD .fro).isMut=true then _ else _):=h
    rw [hmd,if_neg (by simp)] at h3
    exact h3
   have hroots:mutRoots md (.acons a as)=mutRoots md.tail as:=by
    cases md with
    | nil=>cases as<;>rfl
    | cons m md' =>
     have hmd:m.isMut=false:=hmd
     cases m<;>first | rfl | cases hmd
   have hmv:∀ v vs,mutVs md (v::vs)=mutVs md.tail vs:=fun v vs=>by
    unfold mutVs
    generalize md.headD .fro=m at hmd
    cases m<;>first | (cases vs<;>rfl) | cases hmd
   refine (psnd g a).e I X h2 fun v F1 H1 S1 ρ1 x n Z s1 I1 r1 q1=>?_
   refine sq_a (psnd g as) I1 (X.from s1.toStp) (fun i hi=>hm i (by rw [hroots]; exact hi)) q1 fun vs F2 H2 S2 ρ2 xs W Y s2 I2 kp hs r2 mv q2=>?_
   have s12:=s1.trans s2
   have r2':=(r2.from s1.toStp).vars vr2
   have mv':(mutVs md (v::vs)).map (fun v=>some (some v))=(mutRoots md (.acons a as)).map (fun j=>σ[j]?):=by rw [hroots,hmv]; exact mv
   cases n with
   | true =>
    have hd:=r1.held
    have hd2:=hd.step s2.toStp I2
    refine k (v::vs) F2 H2 S2 ρ2 _ (fun b=>Z b∨W b) Y s12 I2 ⟨.new hmd (s2.toStp.keep r1.tr hd.nu) r2.av (fun b hb hw=>?_) fun b=>Iff.rfl,fun b hb=>?_,r2'.tm,fun i sl e b hb=>?_⟩ mv' q2
    ·rcases r2.fr b hw with q | q
     ·exact (hd.dom b hb).1 q
     ·exact hd.nu b hb q
    ·rcases hb with hb | hb
     ·exact r1.fr rfl b hb
     ·exact r2'.fr b hb
    ·rcases hb with hb | hb
     ·exact hd2.nw i sl e b hb
     ·exact r2.nw i sl e b hb
   | false =>
    have za:∀ b,Z b->∃ (i:Nat) (s:Sl),i ∈ vrs a/\ρ2[i]?=some (some s)/\S2 i b:=by
     cases hd:x.isD with
     | true =>
      intro b hb
      exfalso
      have tr:=r1.tr
      cases x with
      | d x=>cases tr with | d r n=>exact n b hb
      | _=>cases hd
     | false =>
      obtain ⟨e1,e2⟩:=hs hd
      rw [e1,e2]
      exact r1.tm rfl
    refine k (v::vs) F2 H2 S2 ρ2 _ W (fun b=>Z b∨Y b) s12 I2 ⟨.tmp hmd (kp _ _ _ r1.tr) (fun b hb=>.inl hb) (r2.av.sub fun b hb=>.inr hb),r2'.fr,fun b hb=>?_,r2.nw⟩ mv' q2
    rcases hb with hb | hb
    ·obtain ⟨i,sl,h1,h2⟩:=za b hb
     exact ⟨i,sl,List.mem_append_left _ h1,h2⟩
    ·exact r2'.tm b hb,fun I X _ _ _ _ h k=>h.elim⟩
end
end L2.L3
namespace L2.L3
open PySem PySem.Spec PyProof.Rows
structure Sts (C J:List Nat) (F H:Hp) (S:Ft) (ρ:PSt) (σ:St) (F' H':Hp) (S':Ft) (ρ':PSt) (σ':St):Prop where
 ff:Same F F'
 hh:∀ b u,H b=some u->¬ U ρ S b->H' b=some u
 dm:∀ b,H' b=none->H b=none
 fn:∀ b,F b=none->F' b≠none->U ρ S b∨H b=none
 uu:∀ b,U ρ' S' b->U ρ S b∨H b=none
 bo:∀ (j:Nat) t,j ∉ J->ρ'[j]?=some (some (.bor t))->t.isD=false->ρ[j]?=some (some (.bor t))/\S' j=S j/\σ'[j]?=σ[j]?
 sg:∀ j ∈ C,σ'[j]?=σ[j]?
structure Stc (C:List Nat) (F H:Hp) (S:Ft) (ρ:PSt) (σ:St) (F' H':Hp) (S':Ft) (ρ':PSt) (σ':St):Prop where
 ff:Same F F'
 hh:∀ b u,H b=some u->¬ U ρ S b->H' b=some u
 dm:∀ b,H' b=none->H b=none
 fn:∀ b,F b=none->F' b≠none->U ρ S b∨H b=none
 uu:∀ b,U ρ' S' b->U ρ S b∨H b=none
 sg:∀ j ∈ C,σ'[j]?=σ[j]?
section
variable {K:PySem.W.Frag} {Γ:Ev} {Ψ:PEv} {E:XE} {EK:XK} {F H F1 H1 F2 H2:Hp} {S S1 S2:Ft} {ρ ρ1 ρ2:PSt} {σ σ1 σ2:St} {C J:List Nat}
theorem Stp.sts (s:Stp F H S ρ F1 H1 S1 ρ1):Sts C J F H S ρ σ F1 H1 S1 ρ1 σ:=⟨s.ff,s.hh,s.dm,s.fn,s.uu,fun j t _ e h=>let ⟨h1,h2⟩:=s.bo j t e h; ⟨h1,h2,rfl⟩,fun _ _=>rfl⟩
theorem Sts.refl:Sts C J F H S ρ σ F H S ρ σ:=Stp.refl.sts
theorem Sts.trans (a:Sts C J F H S ρ σ F1 H1 S1 ρ1 σ1) (b:Sts C [] F1 H1 S1 ρ1 σ1 F2 H2 S2 ρ2 σ2):Sts C J F H S ρ σ F2 H2 S2 ρ2 σ2 where
 ff:=a.ff.trans b.ff
 hh:=fun x u h n=>b.hh x u (a.hh x u h n) fun z=>by
  rcases a.uu x z with q | q
  ·exact n q
  ·rw [q] at h; cases h
 dm:=fun x h=>a.dm x (b.dm x h)
 fn:=fun x h z=>by
  by_cases q:F1 x=none
  ·rcases b.fn x q z with w | w
   ·exact a.uu x w
   ·exact .inr (a.dm x w)
  ·exact a.fn x h q
 uu:=fun x h=>by
  rcases b.uu x h with w | w
  ·exact a.uu x w
  ·exact .inr (a.dm x w)
 bo:=fun j t hj h n=>by
  obtain ⟨h1,h2,h3⟩:=b.bo j t (by simp) h n
  obtain ⟨h4,h5,h6⟩:=a.bo j t hj h1 n
  exact ⟨h4,h2.trans h5,h3.trans h6⟩
 sg:=fun j hj=>(b.sg j hj).trans (a.sg j hj)
theorem Sts.c (s:Sts C J F H S ρ σ F1 H1 S1 ρ1 σ1):Stc C F H S ρ σ F1 H1 S1 ρ1 σ1:=⟨s.ff,s.hh,s.dm,s.fn,s.uu,s.sg⟩
theorem Stc.trans (a:Stc C F H S ρ σ F1 H1 S1 ρ1 σ1) (b:Stc C F1 H1 S1 ρ1 σ1 F2 H2 S2 ρ2 σ2):Stc C F H S ρ σ F2 H2 S2 ρ2 σ2 where
 ff:=a.ff.trans b.ff
 hh:=fun x u h n=>b.hh x u (a.hh x u h n) fun z=>by
  rcases a.uu x z with q | q
  ·exact n q
  ·rw [q] at h; cases h
 dm:=fun x h=>a.dm x (b.dm x h)
 fn:=fun x h z=>by
  by_cases q:F1 x=none
  ·rcases b.fn x q z with w | w
   ·exact a.uu x w
   ·exact .inr (a.dm x w)
  ·exact a.fn x h q
 uu:=fun x h=>by
  rcases b.uu x h with w | w
  ·exact a.uu x w
  ·exact .inr (a.dm x w)
 sg:=fun j hj=>(b.sg j hj).trans (a.sg j hj)
theorem XOk.fromS (h:XOk K F H S ρ E EK) (s:Sts C J F H S ρ σ F1 H1 S1 ρ1 σ1):XOk K F1 H1 S1 ρ1 E EK:=fun x dx F2 H2 S2 ρ2 s2 f r q =>
 h x dx F2 H2 (fun _ _=>False) [] ⟨s.ff.trans s2.ff,fun b u e n=>s2.hh b u (s.hh b u e n) (fun z=>(s.uu b z).elim n fun w=>(by rw [w] at e; cases e)),fun b e=>s.dm b (s2.dm b e),fun b e z=>by
  by_cases q:F1 b=none
  ·rcases s2.fn b q z with w | w
   ·exact s.uu b w
   ·exact .inr (s.dm b w)
  ·exact s.fn b e q,fun b ⟨i,t,e,_⟩=>by simp at e,fun j t e=>by simp at e⟩ f r q
structure EndsOk (K:PySem.W.Frag) (C:List Nat) (F H:Hp) (S:Ft) (ρ:PSt) (σ:St) (Z:PEnds) (Dn:Ends):Prop where
 nx:∀ F' H' S' ρ' σ',Sts C [] F H S ρ σ F' H' S' ρ' σ'->Rl K F' H' S' ρ' σ'->Z.nx ρ'->Dn.nx σ' H'
 rt:∀ v t W F' H' S' ρ' σ',Stc C F H S ρ σ F' H' S' ρ' σ'->Rl K F' H' S' ρ' σ'->Tr K F' H' true v t W->Held F' H' S' ρ' W->(∀ b,W b->H b=none∨U ρ S b)->Z.rt t ρ'->Dn.rt v H'
 bk:∀ F' H' S' ρ' σ',Sts C [] F H S ρ σ F' H' S' ρ' σ'->Rl K F' H' S' ρ' σ'->Z.bk ρ'->Dn.bk σ' H'
 ct:∀ F' H' S' ρ' σ',Sts C [] F H S ρ σ F' H' S' ρ' σ'->Rl K F' H' S' ρ' σ'->Z.ct ρ'->Dn.ct σ' H'
theorem frS (s:Sts C J F H S ρ σ F1 H1 S1 ρ1 σ1) {W:Addr->Prop} (fr:∀ b,W b->H1 b=none∨U ρ1 S1 b):∀ b,W b->H b=none∨U ρ S b:=fun b hb=>by
 rcases fr b hb with q | q
 ·exact .inl (s.dm b q)
 ·exact (s.uu b q).symm
theorem EndsOk.from {Z:PEnds} {Dn:Ends} (ok:EndsOk K C F H S ρ σ Z Dn) (s:Sts C [] F H S ρ σ F1 H1 S1 ρ1 σ1):EndsOk K C F1 H1 S1 ρ1 σ1 Z Dn :=
 ⟨fun F' H' S' ρ' σ' s' I q=>ok.nx F' H' S' ρ' σ' (s.trans s') I q,fun v t W F' H' S' ρ' σ' s' I r h fr q=>ok.rt v t W F' H' S' ρ' σ' (s.c.trans s') I r h (frS s fr) q,
  fun F' H' S' ρ' σ' s' I q=>ok.bk F' H' S' ρ' σ' (s.trans s') I q,fun F' H' S' ρ' σ' s' I q=>ok.ct F' H' S' ρ' σ' (s.trans s') I q⟩
theorem Sts.setD (s:Sts C J F H S ρ σ F1 H1 S1 ρ1 σ1) (i:Nat) (hi:i ∉ C) (v:V) {t:T} (ht:t.isD=true) (Z:Addr->Prop):Sts C J F H S ρ σ F1 H1 (updF S1 i Z) (ρ1.set i (some (.bor t))) (σ1.set i (some v)) :=
 ⟨s.ff,s.hh,s.dm,s.fn,fun b ⟨j,u,h1,h2⟩=>by
  rcases get_set h1 with ⟨_,e,_⟩ | ⟨n,h1⟩
  ·cases e
  ·rw [updF_ne (Ne.symm n)] at h2
   exact s.uu b ⟨j,u,h1,h2⟩,
 fun j u hj e hd=>by
  rcases get_set e with ⟨_,e,_⟩ | ⟨n,e⟩
  ·injection e with e
   injection e with e
   subst e
   rw [ht] at hd; cases hd
  ·rw [updF_ne (Ne.symm n),set_ne n]
   exact s.bo j u hj e hd,
 fun j hj=>by
  have n:i≠j:=fun e=>hi (e▸hj)
  rw [set_ne n]; exact s.sg j hj⟩
theorem Rl.setD (I:Rl K F H S ρ σ) (i:Nat) {v:V} {x:D} (r:Rep K F v x):Rl K F H (updF S i fun _=>False) (ρ.set i (some (.bor (.d x)))) (σ.set i (some v)) :=
 I.setB i (.d r fun _ z=>z) fun _ _ _ _ _ z=>z.elim
theorem Rl.setN (I:Rl K F H S ρ σ) (i:Nat) {v:V} {t:T} {Z:Addr->Prop} (r:Tr K F H true v t Z) (hz:∀ (j:Nat) s,j≠i->ρ[j]?=some (some s)->∀ b,Z b->¬ S j b):Rl K F H (updF S i Z) (ρ.set i (some (.own t))) (σ.set i (some v)) where
 fh:=I.fh
 len:=by simpa using I.len
 sl:=fun j s h=>by
  rcases get_set h with ⟨rfl,e,hl⟩ | ⟨hn,h⟩
  ·cases e
   exact ⟨v,set_get (by rw [<- I.len]; exact hl),by rw [updF_same]; exact r⟩
  ·rw [set_ne hn,updF_ne (Ne.symm hn)]
   exact I.sl j s h
 dj:=fun j k t' s n h1 h2 b hb hk=>by
  rcases get_set h1 with ⟨e,_,_⟩ | ⟨n1,h1⟩
  ·subst e
   rw [updF_same] at hb
   rcases get_set h2 with ⟨e,_,_⟩ | ⟨n2,h2⟩
   ·exact n e
   ·rw [updF_ne (Ne.symm n2)] at hk
    exact hz k s (Ne.symm n2) h2 b hb hk
  ·rw [updF_ne (Ne.symm n1)] at hb
   rcases get_set h2 with ⟨e,_,_⟩ | ⟨n2,h2⟩
   ·subst e
    rw [updF_same] at hk
    exact hz j _ n h1 b hk hb
   ·rw [updF_ne (Ne.symm n2)] at hk
    exact I.dj j k t' s n h1 h2 b hb hk
theorem Sts.setN (s:Sts C J F H S ρ σ F1 H1 S1 ρ1 σ1) (i:Nat) (hi:i ∉ C) (v:V) (t:T) {Z:Addr->Prop} (fr:∀ b,Z b->H b=none∨U ρ S b):Sts C J F H S ρ σ F1 H1 (updF S1 i Z) (ρ1.set i (some (.own t))) (σ1.set i (some v)) :=
 ⟨s.ff,s.hh,s.dm,s.fn,fun b ⟨j,u,h1,h2⟩=>by
  rcases get_set h1 with ⟨rfl,_,_⟩ | ⟨n,h1⟩
  ·rw [updF_same] at h2
   exact (fr b h2).symm
  ·rw [updF_ne (Ne.symm n)] at h2
   exact s.uu b ⟨j,u,h1,h2⟩,
 fun j u hj e hd=>by
  rcases get_set e with ⟨_,e,_⟩ | ⟨n,e⟩
  ·cases e
  ·rw [updF_ne (Ne.symm n),set_ne n]
   exact s.bo j u hj e hd,
 fun j hj=>by
  have n:i≠j:=fun e=>hi (e▸hj)
  rw [set_ne n]; exact s.sg j hj⟩
theorem VR.strict {ws:List Nat} {v:V} {t:T} {n:Bool} {Z:Addr->Prop} (r:VR K ws H S ρ F1 H1 S1 ρ1 v t n Z) (e:esc t n=true):∃ W,Tr K F1 H1 true v t W/\Held F1 H1 S1 ρ1 W/\∀ b,W b->H b=none∨U ρ S b:=by
 cases n with
 | true=>exact ⟨Z,r.tr,r.held,r.fr rfl⟩
 | false =>
  have tr:=r.tr
  cases t with
  | d x=>cases tr with | d q _=>exact ⟨fun _=>False,.d q fun _ z=>z,.none,fun _ z=>z.elim⟩
  | _=>cases e
theorem Rl.frz1 (I:Rl K F H S ρ σ) {i:Nat} {t:T} (hi:ρ[i]?=some (some (.own t))):Rl K (frzH F H (S i)) H (updF S i fun _=>False) (ρ.set i (some (.bor (.d t.er)))) σ/\Sts C [] F H S ρ σ (frzH F H (S i)) H (updF S i fun _=>False) (ρ.set i (some (.bor (.d t.er)))) σ:=by
 obtain ⟨v,hv,r⟩:=I.sl i _ hi
 have ff:=frzH_ff (H:=H) fun b (hb:S i b)=>(r.dom b hb).2
 have I0:Rl K F H S (ρ.set i none) σ:=I.drop (by simp) fun j s e=>by
  rcases get_set e with ⟨_,z,_⟩ | ⟨_,e⟩
  ·cases z
  ·exact e
 have hw:Held F H S (ρ.set i none) (S i):=⟨r.dom,fun j s e b hb z=>by
  rcases get_set e with ⟨_,q,_⟩ | ⟨n,e⟩
  ·cases q
  ·exact I.dj i j t s n hi e b hb z⟩
 have I1:=I0.frz hw
 have kp:Rep K (frzH F H (S i)) v t.er:=Tr.kept ff r fun b u hb e=>by rw [frzH_in hb]; exact e
 have I2:=I1.setD i kp
 have e1:(ρ.set i none).set i (some (.bor (.d t.er)))=ρ.set i (some (.bor (.d t.er))):=by simp
 have e2:σ.set i (some v)=σ:=by
  apply List.ext_getElem?
  intro j
  rw [List.getElem?_set]
  split
  ·rename_i e; subst e
   split
   ·exact hv.symm
   ·rename_i n; rw [List.getElem?_eq_none (by omega)]
  ·rfl
 rw [e1,e2] at I2
 refine ⟨I2,⟨ff,fun b u e _=>e,fun b e=>e,fun b e z=>.inl ?_,fun b ⟨j,u,h1,h2⟩=>.inl ?_,fun j u _ e hd=>?_,fun _ _=>rfl⟩⟩
 ·by_cases hb:S i b
  ·exact ⟨i,t,hi,hb⟩
  ·rw [frzH_out hb] at z; exact absurd e z
 ·rcases get_set h1 with ⟨_,q,_⟩ | ⟨n,h1⟩
  ·cases q
  ·rw [updF_ne (Ne.symm n)] at h2
   exact ⟨j,u,h1,h2⟩
 ·rcases get_set e with ⟨_,q,_⟩ | ⟨n,e⟩
  ·injection q with q; injection q with q; subst q; cases hd
  ·exact ⟨e,updF_ne (Ne.symm n),rfl⟩
theorem modify_at {f:Option Sl->Option Sl} {i:Nat}:ρ.modify i f=match ρ[i]? with | some o=>ρ.set i (f o) | none=>ρ:=by
 apply List.ext_getElem?
 intro j
 rw [List.getElem?_modify]
 cases h:ρ[i]? with
 | none =>
  simp only
  by_cases e:i=j
  ·subst e; simp [h]
  ·simp [e]
 | some o =>
  simp only
  rw [List.getElem?_set]
  by_cases e:i=j
  ·subst e
   obtain ⟨hl,rfl⟩:=List.getElem?_eq_some_iff.mp h
   simp [hl]
  ·simp [e]
theorem set_self {α:Type} {l:List α} {i:Nat} {o:α} (h:l[i]?=some o):l.set i o=l:=by
 apply List.ext_getElem?
 intro j
 rw [List.getElem?_set]
 split
 ·rename_i e; subst e
  rw [if_pos (List.getElem?_eq_some_iff.mp h).1,h]
 ·rfl
theorem Rl.frzAt:∀ (is:List Nat) {F:Hp} {S:Ft} {ρ:PSt},Rl K F H S ρ σ->∃ F' S',Rl K F' H S' (frzAt is ρ) σ/\Sts C [] F H S ρ σ F' H S' (frzAt is ρ) σ
 | [],F,S,ρ,I=>⟨F,S,I,.refl⟩
 | i::is,F,S,ρ,I=>by
  have one:∃ F1 S1,Rl K F1 H S1 (ρ.modify i frzS) σ/\Sts C [] F H S ρ σ F1 H S1 (ρ.modify i frzS) σ:=by
   rw [modify_at]
   cases h:ρ[i]? with
   | none=>exact ⟨F,S,I,.refl⟩
   | some o =>
    cases o with
    | none =>
     have e:ρ.set i (frzS none)=ρ:=set_self h
     simp only [e]
     exact ⟨F,S,I,.refl⟩
    | some sl =>
     cases sl with
     | bor t =>
      have e:ρ.set i (frzS (some (.bor t)))=ρ:=set_self h
      simp only [e]
      exact ⟨F,S,I,.refl⟩
     | own t=>exact ⟨_,_,I.frz1 h⟩
  obtain ⟨F1,S1,I1,s1⟩:=one
  obtain ⟨F2,S2,I2,s2⟩:=Rl.frzAt is I1
  exact ⟨F2,S2,I2,s1.trans s2⟩
end
end L2.L3
namespace L2.L3
open PySem PySem.Spec PyProof.Rows
noncomputable def noSt (C:List Nat):PT->Bool
 | .seq s r=>noSt C s && noSt C r
 | .set i _=>!C.contains i
 | .own i _=>!C.contains i
 | .ife _ a b=>noSt C a && noSt C b
 | .for_ tg _ _ body=>tg.ix.all (fun i=>!C.contains i) && noSt C body
 | .frz _ s=>noSt C s
 | .nil=>true
 | .expr _=>true
 | .ret _=>true
 | .rse=>true
section
variable {K:PySem.W.Frag} {Γ:Ev} {Ψ:PEv} {E:XE} {EK:XK} {F H F1 H1 F2 H2:Hp} {S S1 S2:Ft} {ρ ρ1 ρ2:PSt} {σ σ1 σ2:St} {C J:List Nat}
theorem Sts.bind {L:List Nat} (s:Sts C J F H S ρ σ F1 H1 S1 ρ1 σ1) (b:Bd L F1 H1 S1 ρ1 σ1 F2 H2 S2 ρ2 σ2) (hL:∀ j ∈ L,j ∈ J) (hC:∀ j ∈ L,j ∉ C):Sts C J F H S ρ σ F2 H2 S2 ρ2 σ2 :=
 ⟨s.ff.trans b.ff,fun x u e n=>b.hh x u (s.hh x u e n),fun x e=>s.dm x (b.dm x e),fun x e z=>by
  by_cases q:F1 x=none
  ·exact .inr (s.dm x (b.fn x q z))
  ·exact s.fn x e q,fun x u=>s.uu x (b.U u),fun j t hj e hd=>by
  obtain ⟨e1,e2,e3⟩:=b.out j fun z=>hj (hL j z)
  rw [e1] at e
  obtain ⟨g1,g2,g3⟩:=s.bo j t hj e hd
  exact ⟨g1,e2.trans g2,e3.trans g3⟩,fun j hj=>(b.out j fun z=>hC j z hj).2.2.trans (s.sg j hj)⟩
theorem for_okT {tg:Tg} {body:PEnds->PSt->Prop} {tb:TS} {Z:PEnds} {Dn:Ends} {xs:List Item} {ys:List T} {st:Hp->Prop} {Y:Addr->Prop}
  (ib:∀ {F H:Hp} {S:Ft} {ρ:PSt} {σ:St} {Z:PEnds} {Dn:Ends},Rl K F H S ρ σ->XOk K F H S ρ E EK->body Z ρ->EndsOk K C F H S ρ σ Z Dn->tb Dn σ H)
  (I:Rl K F H S ρ σ) (X:XOk K F H S ρ E EK) (hC:∀ j ∈ tg.ix,j ∉ C) (pr:Paired (ItV K F H Y) xs ys) (hy:∀ b,Y b->¬ U ρ S b/\H b≠none/\F b=none) (hst:∀ F' H',Same F F'->Same F' H'->(∀ b,Y b->H' b=H b)->st H') (h:forV body tg Z ys ρ)
  (onx:∀ F' H' S' ρ' σ',Sts C tg.ix F H S ρ σ F' H' S' ρ' σ'->Rl K F' H' S' ρ' σ'->Z.nx ρ'->Dn.nx σ' H')
  (ort:∀ v t W F' H' S' ρ' σ',Stc C F H S ρ σ F' H' S' ρ' σ'->Rl K F' H' S' ρ' σ'->Tr K F' H' true v t W->Held F' H' S' ρ' W->(∀ b,W b->H b=none∨U ρ S b)->Z.rt t ρ'->Dn.rt v H'):ForB K xs st tg tb Dn σ H:=by
 intro J hJ
 have len:=Paired.length pr
 have yk:∀ {F1 H1:Hp} {S1:Ft} {ρ1:PSt} {σ1:St},Sts C tg.ix F H S ρ σ F1 H1 S1 ρ1 σ1->∀ b,Y b->H1 b=H b/\F1 b=none:=fun {F1 H1 S1 ρ1 σ1} s b hb=>by
  obtain ⟨n,d1,d2⟩:=hy b hb
  refine ⟨?_,?_⟩
  ·cases e:H b with
   | none=>exact absurd e d1
   | some u=>exact s.hh b u e n
  ·by_cases q:F1 b=none
   ·exact q
   ·exact ((s.fn b d2 q).elim n d1).elim
 refine ⟨fun i m σ' H'=>i<=xs.length/\m=xs.length - i/\∃ ρ' F' S',Sts C tg.ix F H S ρ σ F' H' S' ρ' σ'/\Rl K F' H' S' ρ' σ'/\forV body tg Z (ys.drop i) ρ',⟨_,Nat.zero_le _,rfl,ρ,F,S,.refl,I,by simpa using h⟩,?_⟩
 rintro i m σ1 H1 ⟨hi,rfl,ρ1,F1,S1,s1,I1,h1⟩
 have hs:=hst F1 H1 s1.ff I1.fh fun b hb=>(yk s1 b hb).1
 rcases Nat.lt_or_ge i xs.length with hlt | hge
 ·refine .inr ⟨hJ.go i H1 hs hlt,fun σ' H'=>i+1<=xs.length/\∃ ρ' F' S',Sts C tg.ix F H S ρ σ F' H' S' ρ' σ'/\Rl K F' H' S' ρ' σ'/\forV body tg Z (ys.drop (i+1)) ρ',fun σ' H' ⟨a,b⟩=>⟨_,by omega,a,rfl,b⟩,fun x H2 hyl=>?_⟩
  obtain ⟨it,hx,hm⟩:=hJ.yld i H1 x H2 hs hlt hyl
  obtain ⟨y,hd,ry⟩:=Paired.get_of pr hx
  rw [hd] at h1
  unfold forV at h1
  have key:L3.bindI K tg it σ1 H1 fun σ2 H2=>tb { Dn with nx:=fun σ' H'=>i+1<=xs.length/\∃ ρ' F' S',Sts C tg.ix F H S ρ σ F' H' S' ρ' σ'/\Rl K F' H' S' ρ' σ'/\forV body tg Z (ys.drop (i+1)) ρ',ct:=fun σ' H'=>i+1<=xs.length/\∃ ρ' F' S',Sts C tg.ix F H S ρ σ F' H' S' ρ' σ'/\Rl K F' H' S' ρ' σ'/\forV body tg Z (ys.drop (i+1)) ρ',bk:=Dn.nx } σ2 H2:=by
   refine bind_okT I1 (fun b hb u=>?_) (ry.mono s1.ff (yk s1)) h1 fun ρ2 σ2 F2 H3 S2 bd I2 h2=>?_
   ·rcases s1.uu b u with q | q
    ·exact (hy b hb).1 q
    ·exact (hy b hb).2.1 q
   ·have s2:=s1.bind bd (fun j hj=>hj) hC
    exact ib I2 (X.fromS s2) h2 ⟨fun F' H' S' ρ' σ' s' I' q=>⟨hlt,ρ',F',S',s2.trans s',I',q⟩,fun v t W F' H' S' ρ' σ' s' I' r hw fr q=>ort v t W F' H' S' ρ' σ' (s2.c.trans s') I' r hw (frS s2 fr) q,
     fun F' H' S' ρ' σ' s' I' q=>onx F' H' S' ρ' σ' (s2.trans s') I' q,fun F' H' S' ρ' σ' s' I' q=>⟨hlt,ρ',F',S',s2.trans s',I',q⟩⟩
  exact bindI_step hm key
 ·have e:ys.drop i=[]:=List.drop_eq_nil_of_le (by omega)
  rw [e] at h1
  exact .inl ⟨hJ.stop i H1 hs hge,onx F1 H1 S1 ρ1 σ1 s1 I1 h1⟩
theorem kill_get:∀ (J:List Nat) (ρ:PSt) (i:Nat) s,(kill J ρ)[i]?=some (some s)->ρ[i]?=some (some s)/\(i ∈ J->∀ t,s=.bor t->t.isD=true)
 | [],ρ,i,s,h=>⟨h,fun z=>by simp at z⟩
 | j::J,ρ,i,s,h=>by
  unfold kill at h
  obtain ⟨h1,h2⟩:=kill_get J _ i s h
  rw [List.getElem?_modify] at h1
  by_cases e:j=i
  ·subst e
   simp only [reduceIte] at h1
   cases q:ρ[j]? with
   | none=>rw [q] at h1; cases h1
   | some o =>
    rw [q] at h1
    have h1:killS o=some s:=by simpa using h1
    cases o with
    | none=>cases h1
    | some sl =>
     cases sl with
     | own t=>cases h1; exact ⟨rfl,fun _ t' z=>by cases z⟩
     | bor t =>
      have h1:(if t.isD=true then some (Sl.bor t) else none)=some s:=h1
      cases hd:t.isD with
      | true =>
       rw [hd,if_pos rfl] at h1
       cases h1
       exact ⟨rfl,fun _ t' z=>by cases z; exact hd⟩
      | false=>rw [hd] at h1; simp at h1
  ·simp only [e,if_false] at h1
   refine ⟨by simpa using h1,fun m=>h2 ((List.mem_cons.mp m).elim (fun z=>absurd z.symm e) id)⟩
theorem kill_len:∀ (J:List Nat) (ρ:PSt),(kill J ρ).length=ρ.length
 | [],_=>rfl
 | j::J,ρ=>by unfold kill; rw [kill_len J]; simp
theorem Sts.kill (s:Sts C J F H S ρ σ F1 H1 S1 ρ1 σ1):Sts C [] F H S ρ σ F1 H1 S1 (L3.kill J ρ1) σ1 :=
 ⟨s.ff,s.hh,s.dm,s.fn,fun b ⟨i,t,h1,h2⟩=>s.uu b ⟨i,t,(kill_get J ρ1 i _ h1).1,h2⟩,fun j t _ e hd=>by
  obtain ⟨h1,h2⟩:=kill_get J ρ1 j _ e
  by_cases hj:j ∈ J
  ·rw [h2 hj t rfl] at hd; cases hd
  ·exact s.bo j t hj h1 hd,s.sg⟩
theorem lock_get:∀ (L:List Nat) (ρ:PSt) (j:Nat),(lock L ρ)[j]?=if j ∈ L then ρ[j]?.map lockS else ρ[j]?
 | [],ρ,j=>by simp [lock]
 | i::L,ρ,j=>by
  have l2:∀ o,lockS (lockS o)=lockS o:=fun o=>by
   match o with
   | none=>rfl
   | some (.own _)=>rfl
   | some (.bor _)=>rfl
  unfold lock
  rw [lock_get L,List.getElem?_modify]
  by_cases e:i=j
  ·subst e
   cases h:ρ[i]? with
   | none=>simp
   | some o=>simp [l2]
  ·have e':¬ j=i:=fun z=>e z.symm
   simp [e,e']
theorem lock_len:∀ (L:List Nat) (ρ:PSt),(lock L ρ).length=ρ.length
 | [],_=>rfl
 | i::L,ρ=>by unfold lock; rw [lock_len L]; simp
theorem unlock_get:∀ (L:List Nat) (ρ0 ρ:PSt) (j:Nat),(∀ i ∈ L,i < ρ.length)->(unlockF L ρ0 ρ)[j]?=if j ∈ L then some (ρ0[j]?.getD none) else ρ[j]?
 | [],ρ0,ρ,j,_=>by simp [unlockF]
 | i::L,ρ0,ρ,j,h=>by
  unfold unlockF
  rw [unlock_get L ρ0 _ j (fun k hk=>by simpa using h k (List.mem_cons_of_mem _ hk)),List.getElem?_set]
  by_cases e:i=j
  ·subst e
   simp [h i List.mem_cons_self]
  ·have e':¬ j=i:=fun z=>e z.symm
   simp [e,e']
theorem unlock_len:∀ (L:List Nat) (ρ0 ρ:PSt),(unlockF L ρ0 ρ).length=ρ.length
 | [],_,_=>rfl
 | i::L,ρ0,ρ=>by unfold unlockF; rw [unlock_len L]; simp
theorem ownsIn_own {ρ:PSt}:∀ (is:List Nat),∀ i ∈ ownsIn ρ is,∃ t,ρ[i]?=some (some (.own t))
 | [],i,h=>by simp [ownsIn] at h
 | j::is,i,h=>by
  unfold ownsIn at h
  split at h
  ·rename_i ho
   rcases List.mem_cons.mp h with e | e
   ·subst e
    unfold ownO at ho
    split at ho
    ·rename_i t e; exact ⟨t,e⟩
    all_goals cases ho
   ·exact ownsIn_own is i e
  ·exact ownsIn_own is i h
theorem ownsIn_mem {ρ:PSt} {i:Nat} {t:T} (h:ρ[i]?=some (some (.own t))):∀ (is:List Nat),i ∈ is->i ∈ ownsIn ρ is
 | [],hi=>by simp at hi
 | j::is,hi=>by
  unfold ownsIn
  rcases List.mem_cons.mp hi with e | e
  ·subst e
   have:ownO ρ[i]?=true:=by rw [h]; rfl
   rw [if_pos this]
   exact List.mem_cons_self
  ·have:=ownsIn_mem h is e
   split
   ·exact List.mem_cons_of_mem _ this
   ·exact this
section
variable {L:List Nat} (hL:∀ i ∈ L,∃ t,ρ[i]?=some (some (.own t)))
include hL
theorem lockL {i:Nat} {s:Sl} (h:(lock L ρ)[i]?=some (some s)):(i ∈ L/\∃ t,ρ[i]?=some (some (.own t))/\s=.bor t)∨(i ∉ L/\ρ[i]?=some (some s)):=by
 rw [lock_get] at h
 by_cases hi:i ∈ L
 ·rw [if_pos hi] at h
  obtain ⟨t,e⟩:=hL i hi
  rw [e] at h
  injection h with h
  injection h with h
  exact .inl ⟨hi,t,e,h.symm⟩
 ·rw [if_neg hi] at h
  exact .inr ⟨hi,h⟩
theorem lockLU {b:Addr} (h:U (lock L ρ) S b):U ρ S b:=by
 obtain ⟨i,t,h1,h2⟩:=h
 rcases lockL hL h1 with ⟨_,t',_,e⟩ | ⟨_,h1⟩
 ·cases e
 ·exact ⟨i,t,h1,h2⟩
theorem Rl.lock (I:Rl K F H S ρ σ):Rl K F H S (L3.lock L ρ) σ where
 fh:=I.fh
 len:=by rw [lock_len]; exact I.len
 sl:=fun i s e=>by
  rcases lockL hL e with ⟨_,t,h,rfl⟩ | ⟨_,h⟩
  ·obtain ⟨v,h1,h2⟩:=I.sl i _ h
   exact ⟨v,h1,h2.weak⟩
  ·exact I.sl i s h
 dj:=fun i j t s n e1 e2=>by
  rcases lockL hL e1 with ⟨_,_,_,z⟩ | ⟨_,h1⟩
  ·cases z
  ·rcases lockL hL e2 with ⟨_,t',h2,_⟩ | ⟨_,h2⟩
   ·exact I.dj i j t _ n h1 h2
   ·exact I.dj i j t s n h1 h2
theorem Rl.lockU (I:Rl K F H S ρ σ) {i:Nat} (hi:i ∈ L) {b:Addr} (hb:S i b):¬ U (L3.lock L ρ) S b:=fun ⟨j,t,h1,h2⟩=>by
 obtain ⟨t',e⟩:=hL i hi
 rcases lockL hL h1 with ⟨_,_,_,z⟩ | ⟨hj,h1⟩
 ·cases z
 ·exact I.dj j i t _ (fun z=>hj (z▸hi)) h1 e b h2 hb
theorem unlock_ok (I:Rl K F H S ρ σ) (s:Sts C [] F H S (lock L ρ) σ F1 H1 S1 ρ1 σ1) (I1:Rl K F1 H1 S1 ρ1 σ1) (hl:∀ i ∈ L,ρ1[i]?=ρ[i]?.map lockS) :
  ∃ S2,Rl K F1 H1 S2 (unlockF L ρ ρ1) σ1/\Sts C [] F H S ρ σ F1 H1 S2 (unlockF L ρ ρ1) σ1:=by
 classical
 have l1:∀ i ∈ L,∃ t,ρ[i]?=some (some (.own t))/\ρ1[i]?=some (some (.bor t)):=fun i hi=>by
  obtain ⟨t,e⟩:=hL i hi
  have:=hl i hi
  rw [e] at this
  exact ⟨t,e,this⟩
 have hlt:∀ i ∈ L,i < ρ1.length:=fun i hi=>by
  obtain ⟨t,_,e⟩:=l1 i hi
  exact (List.getElem?_eq_some_iff.mp e).1
 let S2:Ft:=fun i=>if i ∈ L then S i else S1 i
 have s2i:∀ i ∈ L,S2 i=S i:=fun i hi=>if_pos hi
 have s2o:∀ i,i ∉ L->S2 i=S1 i:=fun i hi=>if_neg hi
 have get:∀ i sl,(unlockF L ρ ρ1)[i]?=some (some sl)->(i ∈ L/\∃ t,ρ[i]?=some (some (.own t))/\ρ1[i]?=some (some (.bor t))/\sl=.own t)∨(i ∉ L/\ρ1[i]?=some (some sl)):=fun i sl e=>by
  rw [unlock_get L ρ ρ1 i hlt] at e
  by_cases hi:i ∈ L
  ·rw [if_pos hi] at e
   obtain ⟨t,e1,e2⟩:=l1 i hi
   rw [e1] at e
   injection e with e
   have e:some (Sl.own t)=some sl:=e
   injection e with e
   exact .inl ⟨hi,t,e1,e2,e.symm⟩
  ·rw [if_neg hi] at e
   exact .inr ⟨hi,e⟩
 have far:∀ i ∈ L,∀ k sl,k ∉ L->ρ1[k]?=some (some sl)->∀ b,S i b->¬ S1 k b:=fun i hi k sl hk e b hb z=>by
  obtain ⟨t,e1,_⟩:=l1 i hi
  cases sl with
  | own u =>
   rcases s.uu b ⟨k,u,e,z⟩ with q | q
   ·exact I.lockU hL hi hb q
   ·exact (I.dom e1 hb).1 q
  | bor u =>
   cases hd:u.isD with
   | true=>exact I1.isD e hd z
   | false =>
    obtain ⟨g1,g2,_⟩:=s.bo k u (by simp) e hd
    rw [g2] at z
    rcases lockL hL g1 with ⟨q,_⟩ | ⟨_,g1⟩
    ·exact hk q
    ·exact I.dj i k t _ (fun q=>hk (q▸hi)) e1 g1 b hb z
 refine ⟨S2,⟨I1.fh,by rw [unlock_len]; exact I1.len,fun i sl e=>?_,fun i k t sl n e1 e2 b hb hk=>?_⟩,⟨s.ff,fun b u e n=>s.hh b u e fun z=>n (lockLU hL z),s.dm,fun b e z=>(s.fn b e z).imp (lockLU hL) id,fun b ⟨i,t,h1,h2⟩=>?_,fun j t _ e hd=>?_,s.sg⟩⟩
 ·rcases get i sl e with ⟨hi,t,e1,e2,rfl⟩ | ⟨hi,e1⟩
  ·rw [s2i i hi]
   obtain ⟨v,g1,g2⟩:=I.sl i _ e1
   cases hd:t.isD with
   | true =>
    obtain ⟨v',g3,g4⟩:=I1.sl i _ e2
    refine ⟨v',g3,?_⟩
    have nb:∀ b,¬ S i b:=fun b=>I.isD e1 hd
    cases t with
    | d x =>
     have g4:Tr K F1 H1 false v' (.d x) (S1 i):=g4
     cases g4 with
     | d r _=>exact .d r nb
    | _=>cases hd
   | false =>
    obtain ⟨_,_,g5⟩:=s.bo i t (by simp) e2 hd
    refine ⟨v,g5.trans g1,?_⟩
    have g2:Tr K F H true v t (S i):=g2
    refine g2.mono s.ff fun b hb=>?_
    obtain ⟨d1,d2⟩:=g2.dom b hb
    have nu:=I.lockU hL hi hb
    refine ⟨?_,?_⟩
    ·cases eb:H b with
     | none=>exact absurd eb d1
     | some u=>exact s.hh b u eb nu
    ·by_cases q:F1 b=none
     ·exact q
     ·exact ((s.fn b d2 q).elim nu d1).elim
  ·rw [s2o i hi]
   exact I1.sl i sl e1
 ·rcases get i _ e1 with ⟨hi,t',a1,a2,_⟩ | ⟨hi,a1⟩
  ·rw [s2i i hi] at hb
   rcases get k sl e2 with ⟨hk',t2,b1,b2,_⟩ | ⟨hk',b1⟩
   ·rw [s2i k hk'] at hk
    exact I.dj i k t' _ n a1 b1 b hb hk
   ·rw [s2o k hk'] at hk
    exact far i hi k sl hk' b1 b hb hk
  ·rw [s2o i hi] at hb
   rcases get k sl e2 with ⟨hk',t2,b1,b2,_⟩ | ⟨hk',b1⟩
   ·rw [s2i k hk'] at hk
    exact far k hk' i _ hi a1 b hk hb
   ·rw [s2o k hk'] at hk
    exact I1.dj i k t sl n a1 b1 b hb hk
 ·rcases get i _ h1 with ⟨hi,t',a1,a2,_⟩ | ⟨hi,a1⟩
  ·rw [s2i i hi] at h2
   exact .inl ⟨i,t',a1,h2⟩
  ·rw [s2o i hi] at h2
   exact (s.uu b ⟨i,t,a1,h2⟩).imp (lockLU hL) id
 ·rcases get j _ e with ⟨_,_,_,_,z⟩ | ⟨hj,e1⟩
  ·cases z
  ·obtain ⟨g1,g2,g3⟩:=s.bo j t (by simp) e1 hd
   rcases lockL hL g1 with ⟨q,_⟩ | ⟨_,g1⟩
   ·exact absurd q hj
   ·exact ⟨g1,(s2o j hj).trans g2,g3⟩
end
theorem not_mem {i:Nat} (h:(!C.contains i)=true):i ∉ C:=fun z=>by
 have:C.contains i=true:=List.contains_iff_mem.mpr z
 rw [this] at h; cases h
theorem not_mems {is:List Nat} (h:(is.all fun i=>!C.contains i)=true):∀ i ∈ is,i ∉ C:=fun i hi=>not_mem (List.all_eq_true.mp h i hi)
theorem allD_fz:∀ {xs:List (T × Bool)},allD xs=true->∀ t ∈ fzOf xs,t.isD=true
 | [],_,t,h=>by simp [fzOf] at h
 | p::r,h,t,ht=>by
  simp only [allD,Bool.and_eq_true] at h
  simp only [fzOf,List.mem_cons] at ht
  rcases ht with rfl | ht
  ·obtain ⟨x,n⟩:=p
   cases n with
   | true=>rfl
   | false =>
    have h1:=h.1
    cases x with
    | d x=>rfl
    | _=>cases h1
  ·exact allD_fz h.2 t ht
theorem Tn.bare {Y:Addr->Prop} {vs:List V} {ts:List T} (h:Tn K F H Y vs ts):(∀ t ∈ ts,t.isD=true)->Tn K F H (fun _=>False) vs ts:=by
 induction h with
 | nil=>exact fun _=>.nil
 | @cons v t vs ts Z r z tl ih =>
  intro hd
  refine .cons (Z:=fun _=>False) ?_ (fun _ z=>z) (ih fun u hu=>hd u (List.mem_cons_of_mem _ hu))
  have hd:=hd t List.mem_cons_self
  cases t with
  | d x=>cases r with | d q _=>exact .d q fun _ z=>z
  | _=>cases hd
theorem ret_ok {v:V} {t:T} {W:Addr->Prop} {Z:PEnds} {Dn:Ends} (ok:EndsOk K C F H S ρ σ Z Dn) (s:Ste F H S ρ F1 H1 S1 ρ1) (I:Rl K F1 H1 S1 ρ1 σ) (r:Tr K F1 H1 true v t W) (hw:Held F1 H1 S1 ρ1 W) (fr:∀ b,W b->H b=none∨U ρ S b) (q:Z.rt t ρ1):Dn.rt v H1 :=
 ok.rt v t W F1 H1 S1 ρ1 σ (s.toStp.sts (J:=[])).c I r hw fr q
theorem ret_snd (g:GOk K Γ Ψ):∀ (e:PX) {F H:Hp} {S:Ft} {ρ:PSt} {σ:St} {Z:PEnds} {Dn:Ends},Rl K F H S ρ σ->XOk K F H S ρ E EK->retP Ψ E Z.rt e ρ->EndsOk K C F H S ρ σ Z Dn->(wp K Γ e EK).e σ H Dn.rt:=by
  intro e F H S ρ σ Z Dn I X h ok
  have gen:∀ e,(pe Ψ e E).e ρ (fun x n ρ1=>esc x n=true/\Z.rt x ρ1)->(wp K Γ e EK).e σ H Dn.rt:=fun e h=>by
   refine (psnd g e).e (Q:=fun x n ρ1=>esc x n=true/\Z.rt x ρ1) I X h fun v F' H' S' ρ' x n Za s J r ⟨he,q⟩=>?_
   obtain ⟨W,r2,hw,fr⟩:=r.strict he
   exact ret_ok ok s J r2 hw fr q
  cases e with
  | ife t a b =>
   have h:(pe Ψ t E).t ρ fun k ρ1=>if k=true then retP Ψ E Z.rt a ρ1 else retP Ψ E Z.rt b ρ1:=h
   refine (psnd g t).t I X h fun k F' H' S' ρ' s J q=>?_
   cases k with
   | true=>exact ret_snd g a J (X.from s.toStp) q (ok.from s.toStp.sts)
   | false=>exact ret_snd g b J (X.from s.toStp) q (ok.from s.toStp.sts)
  | var i =>
   have h':rdR ρ i Z.rt ρ[i]?:=h
   show (match σ[i]? with | some (some v)=>Dn.rt v _ | _=>False)
   match hd:ρ[i]?,h' with
   | some (some (.own t)),h' =>
    obtain ⟨v,h1,r⟩:=I.sl i _ hd
    rw [h1]
    have I0:Rl K F H S (ρ.set i none) σ:=I.drop (by simp) fun j s e=>by
     rcases get_set e with ⟨_,z,_⟩ | ⟨_,e⟩
     ·cases z
     ·exact e
    refine ok.rt v t (S i) F H S (ρ.set i none) σ ⟨.refl _,fun b u e _=>e,fun b e=>e,fun b e z=>absurd e z,fun b ⟨j,u,h1,h2⟩=>.inl ?_,fun _ _=>rfl⟩ I0 r ⟨r.dom,fun j s e b hb z=>?_⟩ (fun b hb=>.inr ⟨i,t,hd,hb⟩) h'
    ·rcases get_set h1 with ⟨_,z,_⟩ | ⟨_,h1⟩
     ·cases z
     ·exact ⟨j,u,h1,h2⟩
    ·rcases get_set e with ⟨_,q,_⟩ | ⟨n,e⟩
     ·cases q
     ·exact I.dj i j t s n hd e b hb z
   | some (some (.bor t)),h' =>
    obtain ⟨v,h1,r⟩:=I.sl i _ hd
    rw [h1]
    obtain ⟨ht,h'⟩:=h'
    cases t with
    | d x =>
     have r:Tr K F H false v (.d x) (S i):=r
     cases r with
     | d q n=>exact ret_ok (W:=fun _=>False) ok .refl I (.d q fun _ z=>z) .none (fun _ z=>z.elim) h'
    | _=>cases ht
   | some none,h'=>exact h'.elim
   | none,h'=>exact h'.elim
  | _=>exact gen _ h
theorem psnds (g:GOk K Γ Ψ):∀ (p:PT) {F H:Hp} {S:Ft} {ρ:PSt} {σ:St} {Z:PEnds} {Dn:Ends},noSt C p=true->Rl K F H S ρ σ->XOk K F H S ρ E EK->pws Ψ E p Z ρ->EndsOk K C F H S ρ σ Z Dn->wps K Γ EK p Dn σ H
 | .nil,_,_,_,_,_,_,_,c,I,X,h,ok=>ok.nx _ _ _ _ _ .refl I h
 | .seq s r,_,_,_,_,_,_,_,c,I,X,h,ok=>by
  obtain ⟨c1,c2⟩:=and2 c
  exact psnds g s c1 I X h ⟨fun F' H' S' ρ' σ' s' J q=>psnds g r c2 J (X.fromS s') q (ok.from s'),ok.rt,ok.bk,ok.ct⟩
 | .set i e,F,H,S,ρ,σ,Z,Dn,c,I,X,h,ok=>by
  have hi:=not_mem c
  refine one_f (RR:=fun x H1=>Dn.nx (σ.set i (some x)) H1) (psnd g e) I X h fun v F' H' S' ρ' x n Za s J X' r er _ ⟨he,q⟩=>?_
  exact ok.nx _ _ _ _ _ (s.toStp.sts.setD i hi v rfl _) (J.setD i (er he)) q
 | .expr e,F,H,S,ρ,σ,Z,Dn,c,I,X,h,ok=>(psnd g e).e I X h fun v F' H' S' ρ' x n Za s J r q=>ok.nx _ _ _ _ _ s.toStp.sts J q
 | .ret e,F,H,S,ρ,σ,Z,Dn,c,I,X,h,ok=>ret_snd g e I X h ok
 | .ife t a b,F,H,S,ρ,σ,Z,Dn,c,I,X,h,ok=>by
  obtain ⟨c1,c2⟩:=and2 c
  refine (psnd g t).t I X h fun k F' H' S' ρ' s J q=>?_
  cases k with
  | true=>exact psnds g a c1 J (X.from s.toStp) q (ok.from s.toStp.sts)
  | false=>exact psnds g b c2 J (X.from s.toStp) q (ok.from s.toStp.sts)
 | .for_ tg ik its body,F,H,S,ρ,σ,Z,Dn,c,I,X,h,ok=>by
  obtain ⟨c1,c2⟩:=and2 c
  have hC:=not_mems c1
  refine args_f (RR:=fun vs H1=>itemsR K ik vs H1 fun xs st H2=>ForB K xs st tg (wps K Γ EK body) Dn σ H2) (psnd g its) I X h fun vs F1 H1 S1 ρ1 xs Y s1 I1 X1 tn tm q=>?_
  rw [vw_map _ rfl] at q
  have ok1:=ok.from s1.toStp.sts
  cases ha:allD xs with
  | true =>
   have tn':=tn.bare (allD_fz ha)
   refine items_okT I1.fh tn' q fun its ys st pr hst hc=>?_
   rw [ha,if_pos rfl] at hc
   refine for_okT (fun I X h ok=>psnds g body c2 I X h ok) I1 X1 hC pr (fun b z=>z.elim) hst hc ?_ ?_
   ·exact fun F' H' S' ρ' σ' s' I' q=>ok1.nx _ _ _ _ _ s'.kill (I'.drop (kill_len _ _) fun i sl e=>(kill_get _ _ i sl e).1) q
   ·exact fun v t W F' H' S' ρ' σ' s' I' r hw fr q=>ok1.rt v t W F' H' S' ρ' σ' s' I' r hw fr q
  | false =>
   refine items_okT I1.fh tn q fun its' ys st pr hst hc=>?_
   rw [ha,if_neg (by simp)] at hc
   have hL:=ownsIn_own (ρ:=ρ1) (vrs its)
   have IL:=I1.lock hL
   have sL:Sts C [] F1 H1 S1 ρ1 σ F1 H1 (fun _ _=>False) [] σ:=⟨.refl _,fun b u e _=>e,fun b e=>e,fun b e z=>absurd e z,fun b ⟨i,t,e,_⟩=>by simp at e,fun j t _ e=>by simp at e,fun _ _=>rfl⟩
   have XL:XOk K F1 H1 S1 (lock (ownsIn ρ1 (vrs its)) ρ1) E EK:=fun x dx F2 H2 S2 ρ2 s2 f r q =>
    X1 x dx F2 H2 (fun _ _=>False) [] ⟨s2.ff,fun b u e n=>s2.hh b u e fun z=>n (lockLU hL z),s2.dm,fun b e z=>(s2.fn b e z).imp (lockLU hL) id,fun b ⟨i,t,e,_⟩=>by simp at e,fun j t e=>by simp at e⟩ f r q
   refine for_okT (fun I X h ok=>psnds g body c2 I X h ok) IL XL hC pr (fun b hb=>?_) hst hc ?_ ?_
   ·obtain ⟨i,sl,h1,h2,h3⟩:=tm b hb
    refine ⟨fun u=>?_,I1.dom h2 h3⟩
    cases sl with
    | own t=>exact I1.lockU hL (ownsIn_mem h2 _ h1) h3 u
    | bor t =>
     obtain ⟨j,t',e1,e2⟩:=u
     rcases lockL hL e1 with ⟨_,_,_,z⟩ | ⟨_,e1⟩
     ·cases z
     ·exact I1.dj j i t' _ (fun z=>by subst z; rw [h2] at e1; cases e1) e1 h2 b e2 h3
   ·intro F' H' S' ρ' σ' s' I' ⟨q1,q2⟩
    have sk:=s'.kill
    have Ik:=I'.drop (kill_len tg.ix ρ') fun i sl e=>(kill_get _ _ i sl e).1
    obtain ⟨S2,I2,s2⟩:=unlock_ok hL I1 sk Ik fun i hi=>(q1 i hi).2
    exact ok1.nx _ _ _ _ _ s2 I2 q2
   ·intro v t W F' H' S' ρ' σ' s' I' r hw fr q
    exact ok1.rt v t W F' H' S' ρ' σ' ⟨s'.ff,fun b u e n=>s'.hh b u e fun z=>n (lockLU hL z),s'.dm,fun b e z=>(s'.fn b e z).imp (lockLU hL) id,fun b u=>(s'.uu b u).imp (lockLU hL) id,s'.sg⟩ I' r hw (fun b hb=>(fr b hb).imp id (lockLU hL)) q
 | .own i e,F,H,S,ρ,σ,Z,Dn,c,I,X,h,ok=>by
  refine (psnd g e).e (Q:=fun x n ρ1=>esc x n=true/\Z.nx (ρ1.set i (some (.own x)))) I X h fun v F' H' S' ρ' x n Za s J r ⟨he,q⟩=>?_
  obtain ⟨W,r2,hw,fr⟩:=r.strict he
  exact ok.nx _ _ _ _ _ (s.toStp.sts.setN i (not_mem c) v x fr) (J.setN i r2 fun j sl _ e b hb=>hw.nw j sl e b hb) q
 | .frz is s,F,H,S,ρ,σ,Z,Dn,c,I,X,h,ok=>by
  obtain ⟨F',S',I',s'⟩:=I.frzAt (C:=C) is
  exact psnds g s c I' (X.fromS s') h (ok.from s')
end
end L2.L3
namespace L2.L3
open PySem PySem.Spec PyProof.Rows
noncomputable def tyB (x:Str) (n:String):Bool:=(x == ("bool":Str) && n == "bool") || (x == ("int":Str) && n == "int") || (x == ("str":Str) && n == "str") || (x == ("list":Str) && n == "list") || (x == ("tuple":Str) && n == "tuple") || (x == ("ValueError":Str) && n == "ValueError")
theorem tyB_ok {x:Str} {n:String} (h:tyB x n=true):bootBuiltins x=some (.type n):=by
 simp only [tyB,Bool.or_eq_true,Bool.and_eq_true,beq_iff_eq] at h
 rcases h with ((((⟨rfl,rfl⟩ | ⟨rfl,rfl⟩) | ⟨rfl,rfl⟩) | ⟨rfl,rfl⟩) | ⟨rfl,rfl⟩) | ⟨rfl,rfl⟩<;>kernel_rfl
structure Need where
 fn:List Str
 va:List Str
 no:List Str
 dc:List Str:=[]
noncomputable def prmB (n:Need):Prm->Bool
 | .dget x | .dix x=>n.dc.contains x
noncomputable def ikB (n:Need):ItK->Bool
 | .val=>true
 | .rng1=>n.no.contains ("range":Str)
 | .zip2=>n.no.contains ("zip":Str)
 | .enum | .enumA=>n.no.contains ("enumerate":Str)
noncomputable def needB (n:Need):PX->Bool
 | .glo x=>n.va.contains x
 | .bty x t=>n.no.contains x && tyB x t
 | .bin _ a b | .cmp _ a b | .and a b | .or a b | .idx a b | .acons a b=>needB n a && needB n b
 | .not a | .lst a | .tup a=>needB n a
 | .chn _ _ a b c | .ife a b c | .slc a b c=>needB n a && (needB n b && needB n c)
 | .call f as=>n.fn.contains f && needB n as
 | .bi f as=>n.no.contains f.nm && needB n as
 | .prm o as=>prmB n o && needB n as
 | .isi a c=>n.no.contains ("isinstance":Str) && (needB n a && needB n c)
 | .mt _ o as=>needB n o && needB n as
 | .comp _ _ _ ik its cond elt=>ikB n ik && (needB n its && (needB n cond && needB n elt))
 | _=>true
noncomputable def needSB (n:Need):PT->Bool
 | .seq s r=>needSB n s && needSB n r
 | .set _ e=>needB n e
 | .own _ e=>needB n e
 | .expr e=>needB n e
 | .ret e=>needB n e
 | .ife c a b=>needB n c && (needSB n a && needSB n b)
 | .for_ _ ik its body=>ikB n ik && (needB n its && needSB n body)
 | .frz _ s=>needSB n s
 | .nil=>true
 | .rse=>true
noncomputable def globOf (ev:Ev) (n:Need):Glob:=⟨ev,fun f=>f ∈ n.fn,fun x=>x ∈ n.va,fun x=>x ∈ n.no,fun x=>x ∈ n.dc⟩
theorem ikB_ok {ev:Ev} {n:Need} {ik:ItK} (h:ikB n ik=true):ikN (globOf ev n) ik:=by
 cases ik with
 | val=>trivial
 | _=>exact List.contains_iff_mem.mp h
theorem prmB_ok {ev:Ev} {n:Need} {o:Prm} (h:prmB n o=true):prmN (globOf ev n) o:=by
 cases o with
 | dget x=>exact List.contains_iff_mem.mp h
 | dix x=>exact List.contains_iff_mem.mp h
theorem needB_ok {ev:Ev} {n:Need}:∀ (p:PX),needB n p=true->needs (globOf ev n) p:=by
 intro p
 induction p with
 | glo x=>intro h; exact List.contains_iff_mem.mp h
 | bty x t=>intro h; obtain ⟨h1,h2⟩:=and2 h; exact ⟨List.contains_iff_mem.mp h1,tyB_ok h2⟩
 | bin _ a b ia ib | cmp _ a b ia ib | and a b ia ib | or a b ia ib | idx a b ia ib | acons a b ia ib=>intro h; obtain ⟨h1,h2⟩:=and2 h; exact ⟨ia h1,ib h2⟩
 | not a ia | lst a ia | tup a ia=>intro h; exact ia h
 | chn _ _ a b c ia ib ic | ife a b c ia ib ic | slc a b c ia ib ic=>intro h; obtain ⟨h1,h23⟩:=and2 h; obtain ⟨h2,h3⟩:=and2 h23; exact ⟨ia h1,ib h2,ic h3⟩
 | call f as ia=>intro h; obtain ⟨h1,h2⟩:=and2 h; exact ⟨List.contains_iff_mem.mp h1,ia h2⟩
 | bi f as ia=>intro h; obtain ⟨h1,h2⟩:=and2 h; exact ⟨List.contains_iff_mem.mp h1,ia h2⟩
 | prm o as ia=>intro h; obtain ⟨h1,h2⟩:=and2 h; exact ⟨prmB_ok h1,ia h2⟩
 | isi a c ia ic=>intro h; obtain ⟨h1,h23⟩:=and2 h; obtain ⟨h2,h3⟩:=and2 h23; exact ⟨List.contains_iff_mem.mp h1,ia h2,ic h3⟩
 | mt _ o as io ia=>intro h; obtain ⟨h1,h2⟩:=and2 h; exact ⟨io h1,ia h2⟩
 | comp _ _ _ ik its cond elt i1 i2 i3=>intro h; obtain ⟨h1,h⟩:=and2 h; obtain ⟨h2,h⟩:=and2 h; obtain ⟨h3,h4⟩:=and2 h; exact ⟨ikB_ok h1,i1 h2,i2 h3,i3 h4⟩
 | _=>intro _; trivial
theorem needSB_ok {ev:Ev} {n:Need}:∀ (p:PT),needSB n p=true->needsS (globOf ev n) p:=by
 intro p
 induction p with
 | seq s r is ir=>intro h; obtain ⟨h1,h2⟩:=and2 h; exact ⟨is h1,ir h2⟩
 | set _ e | own _ e | expr e | ret e=>intro h; exact needB_ok _ h
 | ife c a b ia ib=>intro h; obtain ⟨h1,h23⟩:=and2 h; obtain ⟨h2,h3⟩:=and2 h23; exact ⟨needB_ok _ h1,ia h2,ib h3⟩
 | for_ _ ik its body ib=>intro h; obtain ⟨h1,h23⟩:=and2 h; obtain ⟨h2,h3⟩:=and2 h23; exact ⟨ikB_ok h1,needB_ok _ h2,ib h3⟩
 | frz _ s is=>intro h; exact is h
 | _=>intro _; trivial
noncomputable def fnScopeB (N ps:List Str) (sc:Scope):Bool:=sc.kind == .function && !sc.isCoroutine && !sc.isGenerator && nodupB N && N.take ps.length == ps &&
 ps.all (fun x=>sc.names.lookup x == some .local || sc.names.lookup x == some .cell) && sc.names.all fun y=>y.2 != .free
theorem fnScopeB_ok {N ps:List Str} {sc:Scope} (h:fnScopeB N ps sc=true):FnScope N ps sc:=by
 simp only [fnScopeB,Bool.and_eq_true,List.all_eq_true,Bool.or_eq_true,beq_iff_eq,Bool.not_eq_true',bne_iff_ne,ne_eq] at h
 obtain ⟨⟨⟨⟨⟨⟨h1,h2⟩,h3⟩,h4⟩,h5⟩,h6⟩,h7⟩:=h
 exact ⟨h1,h2,h3,nodupB_ok h4,h5,h6,h7⟩
noncomputable def defB (n:Need) (b:PT) (N ps:List Str) (st:Stmt):Bool:=fnScopeB N ps (defScope st) && chkS b ⟨N,defScope st⟩ (defBody st) && needSB n b
noncomputable def parS:Md->T->Sl
 | .chg,t=>.own t
 | _,t=>.bor t
noncomputable def parP:List Md->List T->PSt
 | _,[]=>[]
 | md,t::ts=>some (parS (md.headD .fro) t)::parP md.tail ts
noncomputable def startP (N:List Str) (md:List Md) (ts:List T):PSt:=parP md ts++List.replicate (N.length - ts.length) none
noncomputable def chgIx:Nat->List Md->Nat->List Nat
 | _,_,0=>[]
 | k,md,n+1=>match md.headD .fro with
  | .chg=>k::chgIx (k+1) md.tail n
  | _=>chgIx (k+1) md.tail n
noncomputable def outV:Option (List T)->(List T->Prop)->Prop
 | some os,Q=>Q os
 | none,_=>False
noncomputable def endsP (P:PSp) (n:Nat) (Q:T->List T->Prop):PEnds where
 nx:=fun ρ=>outV (ownsAt (chgIx 0 P.md n) ρ) (Q (.d .none))
 rt:=fun t ρ=>outV (ownsAt (chgIx 0 P.md n) ρ) (Q t)
noncomputable def vaOf (mg:Str->Option Value) (x:Str):V:=((mg x).bind absV).getD .non
noncomputable def entV (e:DictEntry):Str × V:=((match e.key with | .str z _=>z | _=>""),(absV e.val).getD .non)
noncomputable def dcOf (K:PySem.W.Frag) (mg:Str->Option Value) (x:Str):Option (List (Str × V)):=match mg x with
 | some (.ref a)=>match K.lookup a with
  | some o=>match o.data with
   | .dict es _=>some (es.toList.map entV)
   | _=>none
  | none=>none
 | _=>none
noncomputable def evOf (K:PySem.W.Frag) (mg:Str->Option Value) (Ψ:PEv):Ev:=⟨fun f=>lift K (Ψ.sp f),vaOf mg,dcOf K mg⟩
structure DictOk (P:Program) (w:World) (K:PySem.W.Frag) (mg:Str->Option Value) (x:Str) (kds:List (Str × D)):Prop where
 at':∃ a kvs,mg x=some (.ref a)/\dcOf K mg x=some kvs/\DcAt P w K a kvs/\Paired (fun (p:Str × V) (q:Str × D)=>p.1=q.1/\∀ F,Rep K F p.2 q.2) kvs kds
structure ValsOk (P:Program) (w:World) (K:PySem.W.Frag) (mg:Str->Option Value) (Ψ:PEv) (va dc:List Str):Prop where
 dic:∀ x kds,Ψ.dc x=some kds->DictOk P w K mg x kds
 hasD:∀ x ∈ dc,∃ kds,Ψ.dc x=some kds
 rep:∀ x d,Ψ.va x=some d->∀ F,Rep K F (vaOf mg x) d
 has:∀ x ∈ va,∃ u v,mg x=some u/\absV u=some v
theorem rel_abs {u:Value} {v:V} (h:absV u=some v):RelV v u:=by
 cases u<;>simp [absV] at h<;>subst h<;>first | rfl | exact ⟨_,rfl⟩
section
variable {P:Program} {w:World} {K:PySem.W.Frag} {mg:Str->Option Value} {base:Heap} {Ψ:PEv}
noncomputable def Have (P:Program) (w:World) (K:PySem.W.Frag) (mg:Str->Option Value) (base:Heap) (Ψ:PEv) (k:Nat) (f:Str):Prop :=
 ∃ (a:Addr) (fd:FuncData) (ps:List Str),FnOk P w K mg base CX0 k a fd ps (lift K (Ψ.sp f))/\mg f=some (.ref a)/\PySem.W.keepIn K (.ref a)=true/\Binds K fd ps []
theorem Have.mono {j k:Nat} {f:Str} (h:Have P w K mg base Ψ j f) (hk:j<=k):Have P w K mg base Ψ k f:=by
 obtain ⟨a,fd,ps,h1,h2⟩:=h
 exact ⟨a,fd,ps,h1.mono hk,h2⟩
theorem ArgsR.length {F H:Hp} {Y:Addr->Prop}:∀ {md:List Md} {vs:List V} {ts:List T},ArgsR K F H Y md vs ts->vs.length=ts.length
 | _,_,_,.nil=>rfl
 | _,_,_,.chg _ t=>by rw [List.length_cons,List.length_cons,ArgsR.length t]
 | _,_,_,.rd _ _ _ t=>by rw [List.length_cons,List.length_cons,ArgsR.length t]
theorem parP_len:∀ (m:List Md) (ts:List T),(parP m ts).length=ts.length
 | _,[]=>rfl
 | m,d::ds=>by unfold parP; rw [List.length_cons,List.length_cons,parP_len]
theorem parS_bor {m:Md} (h:m≠.chg) (t:T):parS m t=.bor t:=by cases m<;>first | rfl | exact absurd rfl h
theorem mutVs_cons (md:List Md) (v:V) (vs:List V):mutVs md (v::vs)=match md.headD .fro with | .chg=>v::mutVs md.tail vs | _=>mutVs md.tail vs:=by first | (rw [mutVs]; done) | (rw [mutVs]; cases md.headD .fro<;>rfl)
theorem mutTs_cons (md:List Md) (v:T) (vs:List T):mutTs md (v::vs)=match md.headD .fro with | .chg=>v::mutTs md.tail vs | _=>mutTs md.tail vs:=by first | (rw [mutTs]; done) | (rw [mutTs]; cases md.headD .fro<;>rfl)
theorem parP_cons (md:List Md) (t:T) (ts:List T):parP md (t::ts)=some (parS (md.headD .fro) t)::parP md.tail ts:=by rw [parP]
theorem args_rl {F H:Hp} {Y:Addr->Prop}:∀ {md:List Md} {vs:List V} {ts:List T} {M:Addr->Prop},ArgsR K F H Y md vs ts->Trs K F H true (mutVs md vs) (mutTs md ts) M ->
  ∃ Z:Ft,(∀ (i:Nat) s,(parP md ts)[i]?=some (some s)->∃ v,vs[i]?=some v/\Tr K F H s.st v s.t (Z i))/\(∀ (i:Nat) t,(parP md ts)[i]?=some (some (.own t))->∀ b,Z i b->M b)/\(∀ (i:Nat) t,(parP md ts)[i]?=some (some (.bor t))->∀ b,Z i b->Y b) /\
   ∀ (i j:Nat) t u,i≠j->(parP md ts)[i]?=some (some (.own t))->(parP md ts)[j]?=some (some (.own u))->∀ b,Z i b->¬ Z j b
 | md,_,_,M,.nil,_=>⟨fun _ _=>False,fun i s e=>by simp [parP] at e,fun i t e=>by simp [parP] at e,fun i t e=>by simp [parP] at e,fun i j t u _ e=>by simp [parP] at e⟩
 | md,_,_,M,.chg (v:=v) (vs:=vs) (t:=t) (ts:=ts) hm tl,r=>by
  have e1:mutVs md (v::vs)=v::mutVs md.tail vs:=by rw [mutVs_cons,hm]
  have e2:mutTs md (t::ts)=t::mutTs md.tail ts:=by rw [mutTs_cons,hm]
  rw [e1,e2] at r
  cases r with
  | @cons _ _ _ _ _ _ Z1 Z2 r1 r2 n q =>
   obtain ⟨Z,h1,h2,h3,h4⟩:=args_rl tl r2
   have ep:parP md (t::ts)=some (.own t)::parP md.tail ts:=by rw [parP_cons,hm]; rfl
   rw [ep]
   refine ⟨fun i=>match i with | 0=>Z1 | i+1=>Z i,fun i s e=>?_,fun i u e b hb=>?_,fun i u e b hb=>?_,fun i j u w ne e e' b hb hb'=>?_⟩
   ·cases i with
    | zero=>simp at e; subst e; exact ⟨v,rfl,r1⟩
    | succ i=>exact h1 i s (by simpa using e)
   ·cases i with
    | zero=>exact (q b).mpr (.inl hb)
    | succ i=>exact (q b).mpr (.inr (h2 i u (by simpa using e) b hb))
   ·cases i with
    | zero=>simp at e
    | succ i=>exact h3 i u (by simpa using e) b hb
   ·cases i with
    | zero =>
     cases j with
     | zero=>exact ne rfl
     | succ j=>exact n b hb (h2 j w (by simpa using e') b hb')
    | succ i =>
     cases j with
     | zero=>exact n b hb' (h2 i u (by simpa using e) b hb)
     | succ j=>exact h4 i j u w (fun z=>ne (by rw [z])) (by simpa using e) (by simpa using e') b hb hb'
 | md,_,_,M,.rd (v:=v) (vs:=vs) (t:=t) (ts:=ts) (Z:=Z1) hm r1 hz tl,r=>by
  have e1:mutVs md (v::vs)=mutVs md.tail vs:=by
   rw [mutVs_cons]
   cases e:md.headD .fro<;>first | exact absurd e hm | rfl
  have e2:mutTs md (t::ts)=mutTs md.tail ts:=by
   rw [mutTs_cons]
   cases e:md.headD .fro<;>first | exact absurd e hm | rfl
  rw [e1,e2] at r
  obtain ⟨Z,h1,h2,h3,h4⟩:=args_rl tl r
  have ep:parP md (t::ts)=some (.bor t)::parP md.tail ts:=by rw [parP_cons,parS_bor hm]
  rw [ep]
  refine ⟨fun i=>match i with | 0=>Z1 | i+1=>Z i,fun i s e=>?_,fun i u e b hb=>?_,fun i u e b hb=>?_,fun i j u w ne e e' b hb hb'=>?_⟩
  ·cases i with
   | zero=>simp at e; subst e; exact ⟨v,rfl,r1⟩
   | succ i=>exact h1 i s (by simpa using e)
  ·cases i with
   | zero=>simp at e
   | succ i=>exact h2 i u (by simpa using e) b hb
  ·cases i with
   | zero=>exact hz b hb
   | succ i=>exact h3 i u (by simpa using e) b hb
  ·cases i with
   | zero=>simp at e
   | succ i =>
    cases j with
    | zero=>simp at e'
    | succ j=>exact h4 i j u w (fun z=>ne (by rw [z])) (by simpa using e) (by simpa using e') b hb hb'
theorem start_ok {F H:Hp} {N:List Str} {Y M:Addr->Prop} {md:List Md} {vs:List V} {ts:List T} (f:Same F H) (h:ArgsR K F H Y md vs ts) (hm:Trs K F H true (mutVs md vs) (mutTs md ts) M) (dj:∀ b,Y b->¬ M b) :
  ∃ S,Rl K F H S (startP N md ts) (start N vs)/\∀ b,U (startP N md ts) S b->M b:=by
 obtain ⟨Z,h1,h2,h3,h4⟩:=args_rl h hm
 have hl:=h.length
 have get:∀ (i:Nat) s,(startP N md ts)[i]?=some (some s)->(parP md ts)[i]?=some (some s):=fun i s e=>by
  unfold startP at e
  rcases Nat.lt_or_ge i ts.length with z | z
  ·rwa [List.getElem?_append_left (by rw [parP_len]; exact z)] at e
  ·rw [List.getElem?_append_right (by rw [parP_len]; exact z),List.getElem?_replicate] at e
   split at e<;>cases e
 refine ⟨Z,⟨f,?_,fun i s e=>?_,fun i j t s n e1 e2 b hb hb'=>?_⟩,fun b ⟨i,t,e,hb⟩=>h2 i t (get i _ e) b hb⟩
 ·unfold startP start
  rw [List.length_append,List.length_append,parP_len,List.length_map,List.length_replicate,List.length_replicate,hl]
 ·obtain ⟨v,g1,g2⟩:=h1 i s (get i s e)
  refine ⟨v,?_,g2⟩
  unfold start
  rw [List.getElem?_append_left (by rw [List.length_map]; exact (List.getElem?_eq_some_iff.mp g1).1),List.getElem?_map,g1]
  rfl
 ·cases s with
  | own u=>exact h4 i j t u n (get i _ e1) (get j _ e2) b hb hb'
  | bor u=>exact dj b (h3 j u (get j _ e2) b hb') (h2 i t (get i _ e1) b hb)
theorem chgIx_map:∀ {md:List Md} {k n:Nat} {vs:List V} {σ:St},vs.length=n->(∀ (i:Nat) v,vs[i]?=some v->σ[k+i]?=some (some v))->(mutVs md vs).map (fun v=>some (some v))=(chgIx k md n).map fun j=>σ[j]?
 | md,k,0,vs,σ,h,g=>by
  cases vs with
  | nil=>rfl
  | cons _ _=>cases h
 | md,k,n+1,vs,σ,h,g=>by
  cases vs with
  | nil=>cases h
  | cons v vs =>
   have ih:=chgIx_map (md:=md.tail) (k:=k+1) (n:=n) (vs:=vs) (σ:=σ) (by simpa using h) fun i w hw=>by
    have:=g (i+1) w (by simpa using hw)
    rw [show k+1+i=k+(i+1) by omega]
    exact this
   have g0:=g 0 v rfl
   rw [mutVs_cons]
   unfold chgIx
   cases e:md.headD .fro with
   | chg =>
    simp only [List.map_cons,ih]
    rw [show σ[k]?=some (some v) from g0]
   | _=>exact ih
theorem chgIx_ge:∀ {md:List Md} {k n j:Nat},j ∈ chgIx k md n->k<=j
 | md,k,0,j,h=>by simp [chgIx] at h
 | md,k,n+1,j,h=>by
  unfold chgIx at h
  cases e:md.headD .fro with
  | chg =>
   rw [e] at h
   rcases List.mem_cons.mp h with z | z
   ·omega
   ·have:=chgIx_ge z; omega
  | _=>rw [e] at h; have:=chgIx_ge h; omega
theorem chgIx_nd:∀ (md:List Md) (k n:Nat),(chgIx k md n).Nodup
 | md,k,0=>List.nodup_nil
 | md,k,n+1=>by
  have ih:=chgIx_nd md.tail (k+1) n
  unfold chgIx
  cases e:md.headD .fro with
  | chg=>exact List.nodup_cons.mpr ⟨fun z=>by have:=chgIx_ge z; omega,ih⟩
  | _=>exact ih
theorem fn_def {R:PSp} {x qual:Str} {st:Stmt} {f:Addr} {fd:FuncData} {N ps:List Str} {k:Nat} {b:PT} {n:Need} (F:Fun K x qual st f fd) (chk:defB n b N ps st=true) (hc:noSt (chgIx 0 R.md ps.length) b=true)
  (fns:∀ g ∈ n.fn,Have P w K mg base Ψ k g) (vals:ValsOk P w K mg Ψ n.va n.dc) (nos:∀ y ∈ n.no,mg y=none)
  (body:∀ ts Q E,R.run ts Q E->ts.length=ps.length/\pws Ψ (fun _=>False) b (endsP R ps.length Q) (startP N R.md ts)):FnOk P w K mg base CX0 (k+1) f fd ps (lift K R):=by
 obtain ⟨c12,c3⟩:=and2 chk
 obtain ⟨c1,c2⟩:=and2 c12
 have S:=fnScopeB_ok c1
 refine F.ok S (fun vs H Q E h=>?_) (fun cdv A outer s H vs Q E hr h=>?_)
 ·obtain ⟨F',ts,M,Y,h1,h2,h3,h4,h5⟩:=h
  rw [h2.length]
  exact (body ts _ _ h5).1
 ·obtain ⟨F',ts,M,Y,h1,h2,h3,h4,h5⟩:=h
  have q:=(body ts _ _ h5).2
  have hlen:=(body ts _ _ h5).1
  have ok:OkS ((cxOf CX0 P w K mg base N qual (defScope st) f cdv A outer s H E).nox) ⟨N,defScope st⟩ (globOf (evOf K mg Ψ) n) E0:={
   N:=rfl
   sc:=rfl
   calm:=rfl
   un:=by have:=hr.un; show (A.deeper _).units+66 < cLine; omega
   fn:=fun g hg=>by
    obtain ⟨a,gd,gps,g1,g2,g3,g4⟩:=fns g hg
    exact ⟨CX0,k,a,gd,gps,g1,hr,g2,g3,g4,pass0,fun _ _ _ _ _ z=>z⟩
   val:=fun y hy=>by
    obtain ⟨u,v,e1,e2⟩:=vals.has y hy
    refine ⟨u,e1,?_⟩
    show RelV (vaOf mg y) u
    unfold vaOf
    rw [e1]
    show RelV ((absV u).getD .non) u
    rw [e2]
    exact rel_abs e2
   no:=fun y hy=>nos y hy
   dic:=fun y hy=>by
    obtain ⟨kds,e⟩:=vals.hasD y hy
    obtain ⟨a,kvs,h1,h2,h3,_⟩:=(vals.dic y kds e).at'
    exact ⟨a,kvs,h1,h2,h3⟩
   po:=PassesOwn.never
   nd:=S.nd
   cel:=fun _=>rfl }
  refine ⟨_,(snds b ok c2 (needSB_ok b c3)).1,?_⟩
  obtain ⟨S0,I,hU⟩:=start_ok (N:=N) h1 h2 h3 h4
  have g:GOk K (evOf K mg Ψ) Ψ:=⟨fun _ _ _ _ _ h=>h,fun y d e F=>vals.rep y d e F,fun y kds e=>by obtain ⟨a,kvs,_,h2,_,h4⟩:=(vals.dic y kds e).at'; exact ⟨kvs,h2,h4⟩⟩
  have hvl:vs.length=ps.length:=h2.length.trans hlen
  have fin:∀ v t W F2 H2 S2 ρ2 σ2,Stc (chgIx 0 R.md ps.length) F' H S0 (startP N R.md ts) (start N vs) F2 H2 S2 ρ2 σ2->Rl K F2 H2 S2 ρ2 σ2->Tr K F2 H2 true v t W->Held F2 H2 S2 ρ2 W->(∀ b,W b->H b=none∨U (startP N R.md ts) S0 b) ->
    outV (ownsAt (chgIx 0 R.md ps.length) ρ2) (fun os=>∀ v F3 H3 Z M',Frm M F' H F3 H3->Tr K F3 H3 true v t Z->Trs K F3 H3 true (mutVs R.md vs) os M'->(∀ b,Z b->¬ M' b)->(∀ b,Z b∨M' b->M b∨H b=none)->Q v H3)->Q v H2:=by
   intro v t W F2 H2 S2 ρ2 σ2 s I2 r hw fr q
   cases eo:ownsAt (chgIx 0 R.md ps.length) ρ2 with
   | none=>rw [eo] at q; exact q.elim
   | some os =>
    rw [eo] at q
    have hv:(mutVs R.md vs).map (fun v=>some (some v))=(chgIx 0 R.md ps.length).map fun j=>σ2[j]?:=by
     rw [chgIx_map (md:=R.md) (k:=0) (n:=ps.length) (vs:=vs) (σ:=start N vs) hvl fun i w hw=>?_]
     ·exact List.map_congr_left fun j hj=>(s.sg j hj).symm
     ·unfold start
      rw [Nat.zero_add,List.getElem?_append_left (by rw [List.length_map]; exact (List.getElem?_eq_some_iff.mp hw).1),List.getElem?_map,hw]
      rfl
    have trs:=I2.trs (chgIx_nd _ _ _) eo hv
    have own:∀ j ∈ chgIx 0 R.md ps.length,∃ t,ρ2[j]?=some (some (.own t)):=fun j hj=>by
     obtain ⟨i,hi⟩:=List.mem_iff_getElem?.mp hj
     obtain ⟨t,_,e⟩:=(ownsAt_some eo).2 i j hi
     exact ⟨t,e⟩
    have lk:∀ b,U (startP N R.md ts) S0 b∨H b=none->M b∨H b=none:=fun b hb=>hb.imp (hU b) id
    refine q v F2 H2 W _ ⟨s.ff,I2.fh,fun b u e n=>s.hh b u e fun z=>n (hU b z),s.dm,fun b e z=>lk b (s.fn b e z)⟩ r trs (fun b hb ⟨j,hj,z⟩=>?_) fun b hb=>?_
    ·obtain ⟨t',e⟩:=own j hj
     exact hw.nw j _ e b hb z
    ·rcases hb with hb | ⟨j,hj,z⟩
     ·exact lk b (fr b hb).symm
     ·obtain ⟨t',e⟩:=own j hj
      exact lk b (s.uu b ⟨j,t',e,z⟩)
  refine psnds g b hc I (fun _ _ _ _ _ _ _ _ _ z=>z.elim) q ⟨?_,?_,fun _ _ _ _ _ _ _ z=>z.elim,fun _ _ _ _ _ _ _ z=>z.elim⟩
  ·intro F2 H2 S2 ρ2 σ2 s I2 q
   exact fin .non (.d .none) (fun _=>False) F2 H2 S2 ρ2 σ2 s.c I2 (.d .non fun _ z=>z) .none (fun _ z=>z.elim) q
  ·intro v t W F2 H2 S2 ρ2 σ2 s I2 r hw fr q
   exact fin v t W F2 H2 S2 ρ2 σ2 s I2 r hw fr q
theorem have_def {R:PSp} {Ψ':PEv} {x qual:Str} {st:Stmt} {f:Addr} {fd:FuncData} {N ps:List Str} {k:Nat} {b:PT} {n:Need} (F:Fun K x qual st f fd) (hm:mg x=some (.ref f)) (hb:Binds K fd ps []) (chk:defB n b N ps st=true) (hc:noSt (chgIx 0 R.md ps.length) b=true)
  (fns:∀ g ∈ n.fn,Have P w K mg base Ψ k g) (vals:ValsOk P w K mg Ψ n.va n.dc) (nos:∀ y ∈ n.no,mg y=none)
  (body:∀ ts Q E,R.run ts Q E->ts.length=ps.length/\pws Ψ (fun _=>False) b (endsP R ps.length Q) (startP N R.md ts)) (hR:Ψ'.sp x=R):Have P w K mg base Ψ' (k+1) x :=
 ⟨f,fd,ps,by rw [hR]; exact fn_def F chk hc fns vals nos body,hm,F.kp,hb⟩
end
end L2.L3
namespace L2.L3
open PySem PySem.Spec PyProof.Rows
noncomputable def pLaw:PSp where
 md:=[.shal]
 run:=fun ts Q _=>∃ ns:List Int,ns.length<=63/\(∀ n ∈ ns,Builtin.Int.intBits n<=1048576)/\ts=[.lst ((ns.map PyData.int).map T.d)]/\Q (.d (.bool true)) []
 mono:=fun h _ ⟨ns,h1,h2,h3,q⟩=>⟨ns,h1,h2,h3,h _ _ q⟩
noncomputable def pNo:PSp:=⟨[],fun _ _ _=>False,fun _ _ h=>h⟩
theorem reps_ints {K:PySem.W.Frag} {F:Hp}:∀ (ns:List Int),Reps K F (ns.map V.int) (ns.map PyData.int)
 | []=>.nil
 | n::r=>.cons (.int n) (reps_ints r)
theorem reps_strs {K:PySem.W.Frag} {F:Hp}:∀ (ns:List Str),Reps K F (ns.map V.str) (ns.map PyData.str)
 | []=>.nil
 | n::r=>.cons (.str n) (reps_strs r)
theorem law_sp (K:PySem.W.Frag) (H:Hp) (a:Addr) (ns:List Int) (hl:ns.length<=63) (hw:∀ n ∈ ns,Builtin.Int.intBits n<=1048576) (hS:SqL K H a (ns.map V.int)):lift K pLaw [.ref a] H (fun v _=>v=.bl true) fun _ _ _=>False:=by
 refine ⟨H,[.lst ((ns.map PyData.int).map T.d)],fun _=>False,fun _=>False,.refl _,.rd (Z:=fun _=>False) (by simp [pLaw]) (.lstF hS (reps_ints ns) fun _ z=>z) (fun _ z=>z) .nil,.nil fun _ z=>z,fun _ z=>z.elim,ns,hl,hw,rfl,fun v F' H' Z M' _ r _ _ _=>?_⟩
 cases r with
 | d r _=>cases r; rfl
theorem weight_mem {ns:List Int}:∀ n ∈ ns,PySem.W.WData.weight (.int n)<=PySem.W.WData.weightAll (ns.map PySem.W.WData.int):=by
 induction ns with
 | nil=>intro n hn; cases hn
 | cons m ns ih =>
  intro n hn
  show _<=PySem.W.WData.weight (.int m)+1+PySem.W.WData.weightAll (ns.map PySem.W.WData.int)
  rcases List.mem_cons.mp hn with rfl | hn
  ·omega
  ·have:=ih n hn
   omega
theorem bits_of {ns:List Int} (h:PySem.W.WData.layableAll [.list (ns.map .int)]=true):∀ n ∈ ns,Builtin.Int.intBits n<=1048576:=by
 intro n hn
 have h1:=(PySem.W.layableW_iff.mp (PySem.W.layableW_arg h _ List.mem_cons_self)).2.2
 have h2:PySem.W.WData.weightAll (ns.map PySem.W.WData.int)<=2 ^ 20:=h1
 have h3:=weight_mem n hn
 have h4:PySem.W.WData.weight (.int n)=if n == 0 then 0 else n.natAbs.log2+1:=rfl
 rw [PySem.intBits_le_iff]
 by_cases hz:n=0
 ·subst hz
  exact Nat.pow_pos (by decide)
 ·have:(n == 0)=false:=by simpa using hz
  rw [h4,this] at h3
  have h5:n.natAbs.log2+1<=1048576:=by
   have:n.natAbs.log2+1<=PySem.W.WData.weightAll (ns.map PySem.W.WData.int):=h3
   omega
  exact (Nat.log2_lt (show n.natAbs≠0 by omega)).mp (by omega)
theorem walk_bits {l:PySem.W.OpenLaw} {k:Nat} {q:Program} {loose:List Str} {XP:(Str->Option Value)->Heap->Prop} {YP:World->Heap->Prop} {d:DefRec} {K:Params->PySem.W.Frag} {x:Str}
  (hn:l.most=some 63) (hdf:d.params.defaults=[]) (hr:Room k callerA) (hY:∀ (w:World) (h:Heap),YP w h->(K w.params).In h)
  (F:∀ (w:World) (mg:Str->Option Value) (fa:Addr) (h:Heap),(K w.params).In h->h.Ns mainGlobals mg->mg d.name=some (.ref fa) ->
   ∃ fd:FuncData,(∀ (s:Shared) (u:Value),BindsTo s fd ⟨[u],[]⟩ [(x,u)]) /\
    ∀ base:Heap,(K w.params).In base->base.Ns mainGlobals mg->FnOk l.prog w (K w.params) mg base CX0 k fa fd [x] (lift (K w.params) pLaw)) :
  PySem.W.WalkO q loose XP YP l.row.toRowW d [] (fun f vs=>PySem.call f vs):=by
 intro w s₀ s₁ mg mb G Y fa o pm cd doc dV kV ho hd hcd hD hmg hg args vals as hpre hlay hrd hwl hlo
 obtain rfl:dV=.none:=PySem.W.Dflts.none hD hdf
 obtain rfl:kV=.none:=PySem.W.Dflts.noKw hD
 obtain ⟨a,vs,ns,rfl,rfl,hobj,hints,hlen⟩:=Att.script_of hn hpre hwl
 have KX:=hY w _ Y
 obtain ⟨fd,hb,hF⟩:=F w mg fa _ KX G.T.g hmg
 refine PySem.W.enter_call (codeAny_mono (law_call KX G.T.g G.T.b G.T.builtins G.T.nolimit hg hobj hints (Nat.le_trans hlen (by decide)) hr hF hb (fun H hO hS=>law_sp _ H a ns hlen (bits_of hlay) hS) fun H e s'=>fun z=>z) fun r s' hq=>?_)
 obtain ⟨rfl,h2,h3,h4⟩:=hq
 exact ⟨.inl ⟨.bool true,.bool true,[],rfl,fun _=>rfl,.bool true,Att.post_true l _,fun _=>⟨List.Pairwise.nil,fun _ hm=>(nomatch hm)⟩⟩,h2,h3,h4⟩
noncomputable def DefAt (K:PySem.W.Frag) (x:Str) (st:Stmt):Prop:=∃ f fd,PySem.W.nsIn K mainGlobals x=some (some (.ref f))/\Fun K x x st f fd
theorem def_at {K:PySem.W.Frag} {x:Str} {st:Stmt} {f:Addr} {oc:Value} {od an:Option Addr} {osl:Array (Option Value)} {kV doc pm cdv ct:Value} (a:PySem.W.nsIn K mainGlobals x=some (some (.ref f)))
  (l:K.lookup f=some ⟨oc,od,.func (PySem.W.fnOf x x (defArgs st) (defBody st) (defScope st) .none kV doc pm an cdv ct),osl⟩) (c:PySem.W.codeIn K cdv x=true) (k:PySem.W.keepIn K (.ref f)=true):DefAt K x st :=
 ⟨f,_,a,fun_mk l c k⟩
noncomputable def ValAt (K:PySem.W.Frag) (x:Str) (d:D):Prop:=∃ u v,PySem.W.nsIn K mainGlobals x=some (some u)/\absV u=some v/\∀ F,Rep K F v d
theorem val_int {K:PySem.W.Frag} {x:Str} {i:Int} {t:Tok} (a:PySem.W.nsIn K mainGlobals x=some (some (.int i t))):ValAt K x (.int i):=⟨_,_,a,rfl,fun _=>.int i⟩
theorem val_str {K:PySem.W.Frag} {x:Str} {i:Str} {t:Tok} (a:PySem.W.nsIn K mainGlobals x=some (some (.str i t))):ValAt K x (.str i):=⟨_,_,a,rfl,fun _=>.str i⟩
theorem val_int' {K:PySem.W.Frag} {x:Str} {i j:Int} {t:Tok} (a:PySem.W.nsIn K mainGlobals x=some (some (.int i t))) (e:i=j):ValAt K x (.int j):=e▸val_int a
theorem val_str' {K:PySem.W.Frag} {x:Str} {i j:Str} {t:Tok} (a:PySem.W.nsIn K mainGlobals x=some (some (.str i t))) (e:i=j):ValAt K x (.str j):=e▸val_str a
theorem val_strs {K:PySem.W.Frag} {x:Str} {f:Addr} {xs:List Str} {od:Option Addr} {its:List Value} {n:Nat} {sl:Array (Option Value)} (a:PySem.W.nsIn K mainGlobals x=some (some (.ref f)))
  (l:K.lookup f=some ⟨.type "tuple",od,.seq its.toArray n,sl⟩) (h:its.map absV=xs.map fun y=>some (.str y)) (hz:xs.length<=sizeLine):ValAt K x (.tuple (xs.map PyData.str)):=by
 refine ⟨_,_,a,rfl,fun F=>.tup (.inr ⟨_,its.toArray,n,l,rfl,rfl,?_,?_⟩) (reps_strs xs)⟩
 ·have:=congrArg List.length h
  simp at this
  simp
  omega
 ·have key:∀ (its:List Value) (xs:List Str),its.map absV=xs.map (fun y=>some (.str y))->Vals (xs.map V.str) its:=by
   intro its
   induction its with
   | nil =>
    intro xs h
    cases xs with
    | nil=>exact .nil
    | cons _ _=>simp at h
   | cons u its ih =>
    intro xs h
    cases xs with
    | nil=>simp at h
    | cons y xs =>
     simp only [List.map_cons,List.cons.injEq] at h
     exact .cons (rel_abs h.1) (ih xs h.2)
  simpa using key its xs h
noncomputable def scD:Value->Option (V × D)
 | .int i _=>some (.int i,.int i)
 | .str z _=>some (.str z,.str z)
 | .bool b=>some (.bl b,.bool b)
 | .none=>some (.non,.none)
 | _=>none
theorem scD_ok {K:PySem.W.Frag} {u:Value} {v:V} {d:D} (h:scD u=some (v,d)):RelV v u/\∀ F,Rep K F v d:=by
 unfold scD at h
 split at h<;>cases h
 ·exact ⟨⟨_,rfl⟩,fun _=>.int _⟩
 ·exact ⟨⟨_,rfl⟩,fun _=>.str _⟩
 ·exact ⟨rfl,fun _=>.bl _⟩
 ·exact ⟨rfl,fun _=>.non⟩
theorem rep_at {K:PySem.W.Frag} {f:Addr} {ds:List D} {od:Option Addr} {its:List Value} {n:Nat} {sl:Array (Option Value)}
  (l:K.lookup f=some ⟨.type "tuple",od,.seq its.toArray n,sl⟩) (h:(its.map scD).map (fun o=>o.map Prod.snd)=ds.map some) (hz:ds.length<=sizeLine):∀ F,Rep K F (.ref f) (.tuple ds):=by
 have key:∀ (its:List Value) (ds:List D),(its.map scD).map (fun o=>o.map Prod.snd)=ds.map some->∃ vs,Vals vs its/\∀ F,Reps K F vs ds:=by
  intro its
  induction its with
  | nil =>
   intro ds h
   cases ds with
   | nil=>exact ⟨[],.nil,fun _=>.nil⟩
   | cons _ _=>simp at h
  | cons u its ih =>
   intro ds h
   cases ds with
   | nil=>simp at h
   | cons d ds =>
    simp only [List.map_cons,List.cons.injEq] at h
    obtain ⟨vs,h1,h2⟩:=ih ds h.2
    cases e:scD u with
    | none=>rw [e] at h; cases h.1
    | some p =>
     rw [e] at h
     obtain ⟨v,d'⟩:=p
     have:=Option.some.inj h.1
     have:d'=d:=this
     subst this
     obtain ⟨r1,r2⟩:=scD_ok (K:=K) e
     exact ⟨v::vs,.cons r1 h1,fun F=>.cons (r2 F) (h2 F)⟩
 obtain ⟨vs,h1,h2⟩:=key its ds h
 intro F
 refine .tup (.inr ⟨_,its.toArray,n,l,rfl,rfl,?_,by simpa using h1⟩) (h2 F)
 have e1:=h1.length
 have e2:=(h2 F).length
 simp
 omega
inductive Ent (K:PySem.W.Frag) (w:World):List DictEntry->List (Str × D)->Prop where
 | nil:Ent K w [] []
 | cons {x:Str} {t:Tok} {u:Value} {v:V} {d:D} {es:List DictEntry} {kds:List (Str × D)}:absV u=some v->(∀ F,Rep K F v d)->Ent K w es kds->Ent K w (⟨PyData.keyHash w.params x,.str x t,u⟩::es) ((x,d)::kds)
theorem Ent.sc {K:PySem.W.Frag} {w:World} {x:Str} {t:Tok} {u:Value} {d:D} {es:List DictEntry} {kds:List (Str × D)} (h:(scD u).map Prod.snd=some d) (r:Ent K w es kds):Ent K w (⟨PyData.keyHash w.params x,.str x t,u⟩::es) ((x,d)::kds):=by
 cases e:scD u with
 | none=>rw [e] at h; cases h
 | some p =>
  rw [e] at h
  obtain ⟨v,d'⟩:=p
  have:d'=d:=Option.some.inj h
  subst this
  have ok:=(scD_ok (K:=K) e).2
  unfold scD at e
  split at e<;>cases e
  ·exact .cons rfl ok r
  ·exact .cons rfl ok r
  ·exact .cons rfl ok r
  ·exact .cons rfl ok r
theorem Ent.tup {K:PySem.W.Frag} {w:World} {x:Str} {t:Tok} {f:Addr} {ds:List D} {od:Option Addr} {its:List Value} {n:Nat} {sl:Array (Option Value)} {es:List DictEntry} {kds:List (Str × D)}
  (l:K.lookup f=some ⟨.type "tuple",od,.seq its.toArray n,sl⟩) (h:(its.map scD).map (fun o=>o.map Prod.snd)=ds.map some) (hz:ds.length<=sizeLine) (r:Ent K w es kds):Ent K w (⟨PyData.keyHash w.params x,.str x t,.ref f⟩::es) ((x,.tuple ds)::kds) :=
 .cons rfl (rep_at l h hz) r
noncomputable def DictAt (w:World) (K:PySem.W.Frag) (x:Str) (kds:List (Str × D)):Prop:=∃ (a:Addr) (es:Array DictEntry) (ep:Nat),PySem.W.nsIn K mainGlobals x=some (some (.ref a))/\(a == sysModules)=false/\K.lookup a=some ⟨.type "dict",none,.dict es ep,#[]⟩/\Ent K w es.toList kds/\(kds.map Prod.fst).Nodup
theorem dict_at {w:World} {K:PySem.W.Frag} {x:Str} {kds:List (Str × D)} {a:Addr} {es:List DictEntry} {ep:Nat} (n:PySem.W.nsIn K mainGlobals x=some (some (.ref a))) (l:K.lookup a=some ⟨.type "dict",none,.dict es.toArray ep,#[]⟩) (h:(a == sysModules)=false) (r:Ent K w es kds)
  (nd:nodupB (kds.map Prod.fst)=true):DictAt w K x kds:=⟨a,es.toArray,ep,n,h,l,by simpa using r,nodupB_ok nd⟩
theorem Ent.all {K:PySem.W.Frag} {w:World} {P:Program} {es:List DictEntry} {kds:List (Str × D)} (h:Ent K w es kds):∃ us:List (Str × Value),us.map Prod.fst=kds.map Prod.fst/\KV (es.map entV) us/\Pairs (PySem.strKind P w) es us/\(∀ e ∈ es,∃ k,(PySem.strKind P w).is k e.key=true/\e.hash=(PySem.strKind P w).hash k) /\
  Paired (fun (p:Str × V) (q:Str × D)=>p.1=q.1/\∀ F,Rep K F p.2 q.2) (es.map entV) kds:=by
 induction h with
 | nil=>exact ⟨[],rfl,.nil,.nil,fun _ z=>(by cases z),.nil⟩
 | @cons x t u v d es kds ha hr _ ih =>
  obtain ⟨us,h1,h2,h3,h4,h5⟩:=ih
  have ev:entV ⟨PyData.keyHash w.params x,.str x t,u⟩=(x,v):=by
   unfold entV
   show (x,(absV u).getD .non)=(x,v)
   rw [ha]
   rfl
  refine ⟨(x,u)::us,by simp [h1],?_,.cons (PySem.strKind_is P w x t) rfl h3,fun e he=>?_,?_⟩
  ·rw [List.map_cons,ev]
   exact .cons ⟨rfl,rel_abs ha⟩ h2
  ·rcases List.mem_cons.mp he with rfl | he
   ·exact ⟨x,PySem.strKind_is P w x t,rfl⟩
   ·exact h4 e he
  ·rw [List.map_cons,ev]
   exact .cons ⟨rfl,hr⟩ h5
section
variable {P:Program} {w:World} {K:PySem.W.Frag} {mg:Str->Option Value} {base h:Heap} {Ψ:PEv}
theorem DictAt.inMg (X:K.In h) (G:h.Ns mainGlobals mg) {x:Str} {kds:List (Str × D)} (v:DictAt w K x kds):DictOk P w K mg x kds:=by
 obtain ⟨a,es,ep,h1,h2,h3,h4,h5⟩:=v
 have e:=PySem.W.mg_of X G h1
 obtain ⟨us,u1,u2,u3,u4,u5⟩:=h4.all (P:=P)
 refine ⟨a,es.toList.map entV,e,?_,⟨h2,us,u2,fun hp hk=>⟨_,es,ep,hk a _ h3,⟨rfl,rfl,rfl⟩,rfl,fun e he=>u4 e (by simpa using he),u3,by rw [u1]; exact h5⟩⟩,u5⟩
 unfold dcOf
 rw [e]
 simp only [h3]
theorem ValAt.inMg (X:K.In h) (G:h.Ns mainGlobals mg) {x:Str} {d:D} (v:ValAt K x d):(∀ F,Rep K F (vaOf mg x) d)/\∃ u v,mg x=some u/\absV u=some v:=by
 obtain ⟨u,v,h1,h2,h3⟩:=v
 have e:=PySem.W.mg_of X G h1
 refine ⟨fun F=>?_,u,v,e,h2⟩
 have:vaOf mg x=v:=by
  unfold vaOf
  rw [e]
  show (absV u).getD .non=v
  rw [h2]
  rfl
 rw [this]
 exact h3 F
theorem have_atR {R:PSp} {Ψ':PEv} {x:Str} {st:Stmt} {N ps:List Str} {k:Nat} {b:PT} {n:Need} (X:K.In h) (G:h.Ns mainGlobals mg) (D:DefAt K x st) (chk:defB n b N ps st=true) (hc:noSt (chgIx 0 R.md ps.length) b=true)
  (hb:∀ (kV doc pm:Value) (an:Option Addr) (cdv ct:Value) (us:List Value),us.length=ps.length->bindArgs (PySem.W.fnOf x x (defArgs st) (defBody st) (defScope st) .none kV doc pm an cdv ct) ⟨us,[]⟩=pure (ps.zip us))
  (fns:∀ g ∈ n.fn,Have P w K mg base Ψ k g) (vals:ValsOk P w K mg Ψ n.va n.dc) (nos:∀ y ∈ n.no,PySem.W.nsIn K mainGlobals y=some none)
  (body:∀ ts Q E,R.run ts Q E->ts.length=ps.length/\pws Ψ (fun _=>False) b (endsP R ps.length Q) (startP N R.md ts)) (hR:Ψ'.sp x=R):Have P w K mg base Ψ' (k+1) x:=by
 obtain ⟨f,fd,a,F⟩:=D
 exact have_def F (PySem.W.mg_of X G a) (F.binds hb) chk hc fns vals (fun y hy=>PySem.W.mg_none_of X G (nos y hy)) body hR
theorem have_at {x:Str} {st:Stmt} {N ps:List Str} {k:Nat} {b:PT} {n:Need} (X:K.In h) (G:h.Ns mainGlobals mg) (D:DefAt K x st) (chk:defB n b N ps st=true) (hc:noSt (chgIx 0 (Ψ.sp x).md ps.length) b=true)
  (hb:∀ (kV doc pm:Value) (an:Option Addr) (cdv ct:Value) (us:List Value),us.length=ps.length->bindArgs (PySem.W.fnOf x x (defArgs st) (defBody st) (defScope st) .none kV doc pm an cdv ct) ⟨us,[]⟩=pure (ps.zip us))
  (fns:∀ g ∈ n.fn,Have P w K mg base Ψ k g) (vals:ValsOk P w K mg Ψ n.va n.dc) (nos:∀ y ∈ n.no,PySem.W.nsIn K mainGlobals y=some none)
  (body:∀ ts Q E,(Ψ.sp x).run ts Q E->ts.length=ps.length/\pws Ψ (fun _=>False) b (endsP (Ψ.sp x) ps.length Q) (startP N (Ψ.sp x).md ts)):Have P w K mg base Ψ (k+1) x :=
 have_atR X G D chk hc hb fns vals nos body rfl
theorem law_at {x:Str} {st:Stmt} {ps:List Str} {k:Nat} {fa:Addr} (X:K.In h) (G:h.Ns mainGlobals mg) (D:DefAt K "law" st) (hp:ps=[x]) (hfa:mg "law"=some (.ref fa)) (hs:Ψ.sp "law"=pLaw)
  (hb:∀ (kV doc pm:Value) (an:Option Addr) (cdv ct:Value) (us:List Value),us.length=ps.length->bindArgs (PySem.W.fnOf "law" "law" (defArgs st) (defBody st) (defScope st) .none kV doc pm an cdv ct) ⟨us,[]⟩=pure (ps.zip us))
  (H:∀ base:Heap,K.In base->base.Ns mainGlobals mg->∀ f fd,Fun K "law" "law" st f fd->mg "law"=some (.ref f)->FnOk P w K mg base CX0 k f fd ps (lift K (Ψ.sp "law"))) :
  ∃ fd:FuncData,(∀ (s:Shared) (u:Value),BindsTo s fd ⟨[u],[]⟩ [(x,u)])/\∀ base:Heap,K.In base->base.Ns mainGlobals mg->FnOk P w K mg base CX0 k fa fd [x] (lift K pLaw):=by
 obtain ⟨f,fd,a,F⟩:=D
 have e:=hfa.symm.trans (PySem.W.mg_of X G a)
 cases e
 subst hp
 refine ⟨fd,fun s u=>?_,fun base kb nb=>?_⟩
 ·obtain ⟨oc,od,kV,doc,pm,an,cdv,ct,osl,rfl,lk,hcd⟩:=F.ex
  exact .of_eq (hb kV doc pm an cdv ct [u] rfl)
 ·rw [<- hs]
  exact H base kb nb fa fd F hfa
end
end L2.L3
namespace L2.L3
open PySem PySem.Spec PyProof.Rows
theorem compV_map {α:Type} {body:T->(Option T->Prop)->Prop} (g f:α->T):∀ (l:List α) (acc:List T) (Q:List T->Prop),(∀ x ∈ l,∀ R:Option T->Prop,R (some (f x))->body (g x) R)->acc.length+l.length<=sizeLine->Q (acc++l.map f)->compV body (l.map g) acc Q
 | [],acc,Q,_,hl,q=>by
  simp only [List.map_nil,compV]
  exact ⟨by simpa using hl,by simpa using q⟩
 | x::r,acc,Q,hb,hl,q=>by
  simp only [List.map_cons,compV]
  refine hb x List.mem_cons_self _ ?_
  simp only [List.length_cons] at hl
  refine ⟨by omega,compV_map g f r _ Q (fun y hy=>hb y (List.mem_cons_of_mem _ hy)) (by simp; omega) (by simpa using q)⟩
theorem compV_filter {α:Type} {body:T->(Option T->Prop)->Prop} (g f:α->T) (p:α->Bool):∀ (l:List α) (acc:List T) (Q:List T->Prop),(∀ x ∈ l,∀ R:Option T->Prop,R (if p x=true then some (f x) else none)->body (g x) R)->acc.length+l.length<=sizeLine->Q (acc++(l.filter p).map f)->compV body (l.map g) acc Q
 | [],acc,Q,_,hl,q=>by
  simp only [List.map_nil,compV]
  exact ⟨by simpa using hl,by simpa using q⟩
 | x::r,acc,Q,hb,hl,q=>by
  simp only [List.map_cons,compV]
  refine hb x List.mem_cons_self _ ?_
  simp only [List.length_cons] at hl
  cases hp:p x with
  | true =>
   refine ⟨by omega,compV_filter g f p r _ Q (fun y hy=>hb y (List.mem_cons_of_mem _ hy)) (by simp; omega) ?_⟩
   rw [List.filter_cons,if_pos hp] at q
   simpa using q
  | false =>
   refine compV_filter g f p r _ Q (fun y hy=>hb y (List.mem_cons_of_mem _ hy)) (by omega) ?_
   rw [List.filter_cons,if_neg (by rw [hp]; simp)] at q
   exact q
theorem atI_pos {α:Type} {xs:List α} {i:Int} (h0:0<=i) (h1:i < xs.length):∃ v,atI xs i=some v/\xs[i.toNat]?=some v:=by
 have h:i.toNat < xs.length:=by omega
 have e:((i.toNat:Nat):Int)=i:=by omega
 have q:=atI_nat (List.getElem?_eq_getElem h)
 rw [e] at q
 exact ⟨xs[i.toNat],q,List.getElem?_eq_getElem h⟩
theorem atI_map {α β:Type} (f:α->β) (xs:List α) (i:Int):atI (xs.map f) i=(atI xs i).map f:=by
 unfold atI
 rw [List.length_map]
 cases ixN xs.length i with
 | none=>rfl
 | some j=>exact List.getElem?_map
theorem str_len_le (s:Str) {n:Nat} (h:s.length<=n) (hn:n<=16777216):s.length<=sizeLine:=by rw [sizeLine_eq]; omega
theorem for_inv {Ψ:PEv} {E:XE} {α:Type} {body:PT} {tg:Tg} {Z:PEnds} (g:α->T) (W:List α->PSt->Prop) (h0:∀ ρ,W [] ρ->Z.nx ρ)
  (hs:∀ x xs ρ (N:PSt->Prop),(∀ ρ',W xs ρ'->N ρ')->W (x::xs) ρ->bindV tg (g x) ρ fun ρ1=>pws Ψ E body { Z with nx:=N,ct:=N,bk:=Z.nx } ρ1):∀ (xs:List α) (ρ:PSt),W xs ρ->forV (pws Ψ E body) tg Z (xs.map g) ρ
 | [],ρ,w=>h0 ρ w
 | x::xs,ρ,w=>hs x xs ρ (fun ρ2=>forV (pws Ψ E body) tg Z (xs.map g) ρ2) (fun ρ2 w2=>for_inv g W h0 hs xs ρ2 w2) w
noncomputable def tblEv (sp:List (Str × PSp)) (va:List (Str × D)) (dc:List (Str × List (Str × D))):PEv:=⟨fun f=>(sp.lookup f).getD pNo,fun x=>va.lookup x,fun x=>dc.lookup x⟩
theorem vals_ok {P:Program} {w:World} {K:PySem.W.Frag} {mg:Str->Option Value} {h:Heap} {sp:List (Str × PSp)} {tbl:List (Str × D)} {dct:List (Str × List (Str × D))} {va dc:List Str} (X:K.In h) (G:h.Ns mainGlobals mg) (ht:∀ p ∈ tbl,ValAt K p.1 p.2) (hd:∀ p ∈ dct,DictAt w K p.1 p.2)
  (hva:(va.all fun x=>(tbl.map Prod.fst).contains x)=true) (hdc:(dc.all fun x=>(dct.lookup x).isSome)=true):ValsOk P w K mg (tblEv sp tbl dct) va dc:=by
 refine ⟨fun x kds e=>(hd (x,kds) (PySem.mem_of_lookup e)).inMg X G,fun x hx=>Option.isSome_iff_exists.mp (List.all_eq_true.mp hdc x hx),fun x d e F=>((ht (x,d) (PySem.mem_of_lookup e)).inMg X G).1 F,fun x hx=>?_⟩
 have:=List.all_eq_true.mp hva x hx
 obtain ⟨p,hp,e⟩:=List.mem_map.mp (List.contains_iff_mem.mp this)
 rw [<- e]
 exact ((ht p hp).inMg X G).2
theorem sq_d {α:Type} (x:D) (ρ:PSt) (b:PSt->(α->PSt->Prop)->Prop) (K:α->PSt->Prop):sq (.d x) ρ b K=b ρ K:=rfl
theorem sq_l {α:Type} (x:List T) (ρ:PSt) (b:PSt->(α->PSt->Prop)->Prop) (K:α->PSt->Prop):sq (.lst x) ρ b K=b (lockA ρ) fun y _=>K y ρ:=rfl
theorem sq_t {α:Type} (x:List T) (ρ:PSt) (b:PSt->(α->PSt->Prop)->Prop) (K:α->PSt->Prop):sq (.tup x) ρ b K=b (lockA ρ) fun y _=>K y ρ:=rfl
theorem sub_of {α:Type} [BEq α] [LawfulBEq α] {l m:List α} (h:(l.all fun x=>m.contains x)=true):∀ x ∈ l,x ∈ m:=fun x hx=>List.contains_iff_mem.mp (List.all_eq_true.mp h x hx)
section
variable {Ψ:PEv} {E:XE} {lo hi cond:PX}
theorem peq_var:pe Ψ (.var i) E=(let e:PSt->TK->Prop:=fun ρ Q=>rdV ρ[i]? fun t=>Q t false ρ
  ⟨e,fun ρ Q=>e ρ fun t _ ρ1=>truD t.er fun b=>Q b ρ1,nev.a,fun t ρ K=>K [] t ρ⟩):=rfl
theorem peq_int:pe Ψ (.int i) E=(⟨fun ρ Q=>Q (.d (.int i)) false ρ,fun ρ Q=>Q (i != 0) ρ,nev.a,nev.p⟩):=rfl
theorem peq_str:pe Ψ (.str x) E=(⟨fun ρ Q=>Q (.d (.str x)) false ρ,nev.t,nev.a,nev.p⟩):=rfl
theorem peq_bl:pe Ψ (.bl b) E=(⟨fun ρ Q=>Q (.d (.bool b)) false ρ,fun ρ Q=>Q b ρ,nev.a,nev.p⟩):=rfl
theorem peq_non:pe Ψ (.non) E=(⟨fun ρ Q=>Q (.d .none) false ρ,fun ρ Q=>Q false ρ,nev.a,nev.p⟩):=rfl
theorem peq_glo:pe Ψ (.glo x) E=(let e:PSt->TK->Prop:=fun ρ Q=>match Ψ.va x with
   | some d=>Q (.d d) false ρ
   | none=>False
  ⟨e,fun ρ Q=>e ρ fun t _ ρ1=>truD t.er fun b=>Q b ρ1,nev.a,nev.p⟩):=rfl
theorem peq_bty:pe Ψ (.bty u1 u2) E=(nev):=rfl
theorem peq_bin:pe Ψ (.bin op a b) E=(let e:PSt->TK->Prop:=fun ρ Q=>(pe Ψ a E).e ρ fun x n ρ1=>sq (frzN x n) ρ1 (cu (pe Ψ b E).e) fun y ρ2=>binT op (frzN x n).vw (frzN y.1 y.2).vw fun z k=>Q z k ρ2
  ⟨e,fun ρ Q=>e ρ fun t _ ρ1=>truD t.er fun b=>Q b ρ1,nev.a,nev.p⟩):=rfl
theorem peq_cmp:pe Ψ (.cmp op a b) E=(let t:PSt->(Bool->PSt->Prop)->Prop:=fun ρ Q=>(pe Ψ a E).e ρ fun x n ρ1=>sq (frzN x n) ρ1 (cu (pe Ψ b E).e) fun y ρ2=>cmpD op x.er y.1.er fun k=>Q k ρ2
  ⟨fun ρ Q=>t ρ fun k ρ1=>Q (.d (.bool k)) false ρ1,t,nev.a,nev.p⟩):=rfl
theorem peq_chn:pe Ψ (.chn o p a b c) E=(let t:PSt->(Bool->PSt->Prop)->Prop:=fun ρ Q=>(pe Ψ a E).e ρ fun x n ρ1=>sq (frzN x n) ρ1 (cu (pe Ψ b E).e) fun y ρ2=>cmpD o x.er y.1.er fun k=>if k=true then sq (frzN y.1 y.2) ρ2 (cu (pe Ψ c E).e) fun z ρ3=>cmpD p y.1.er z.1.er fun k=>Q k ρ3 else Q false ρ2
  ⟨fun ρ Q=>t ρ fun k ρ1=>Q (.d (.bool k)) false ρ1,t,nev.a,nev.p⟩):=rfl
theorem peq_and:pe Ψ (.and a b) E=(⟨fun ρ Q=>(pe Ψ a E).e ρ fun x _ ρ1=>asD x.er fun c=>if c=true then (pe Ψ b E).e ρ1 Q else Q (.d (.bool false)) false ρ1,
   fun ρ Q=>(pe Ψ a E).t ρ fun c ρ1=>if c=true then (pe Ψ b E).t ρ1 Q else Q false ρ1,nev.a,nev.p⟩):=rfl
theorem peq_or:pe Ψ (.or a b) E=(⟨fun ρ Q=>(pe Ψ a E).e ρ fun x _ ρ1=>asD x.er fun c=>if c=true then Q (.d (.bool true)) false ρ1 else (pe Ψ b E).e ρ1 Q,
   fun ρ Q=>(pe Ψ a E).t ρ fun c ρ1=>if c=true then Q true ρ1 else (pe Ψ b E).t ρ1 Q,nev.a,nev.p⟩):=rfl
theorem peq_not:pe Ψ (.not a) E=(⟨fun ρ Q=>(pe Ψ a E).e ρ fun x _ ρ1=>truD x.er fun c=>Q (.d (.bool (!c))) false ρ1,fun ρ Q=>(pe Ψ a E).t ρ fun c ρ1=>Q (!c) ρ1,nev.a,nev.p⟩):=rfl
theorem peq_ife:pe Ψ (.ife c a b) E=(⟨fun ρ Q=>(pe Ψ c E).t ρ fun k ρ1=>if k=true then (pe Ψ a E).e ρ1 Q else (pe Ψ b E).e ρ1 Q,nev.t,nev.a,nev.p⟩):=rfl
theorem peq_call:pe Ψ (.call f as) E=(let e:PSt->TK->Prop:=fun ρ Q=>∃ os,ownsAt (mutRoots (Ψ.sp f).md as) ρ=some os/\(mutRoots (Ψ.sp f).md as).Nodup/\(pe Ψ as E).a (Ψ.sp f).md (clear (mutRoots (Ψ.sp f).md as) ρ) fun xs ρ1=>∃ ts,passT (Ψ.sp f).md xs os=some ts/\(Ψ.sp f).run ts (fun r os'=>∃ ρ2,putOwns (mutRoots (Ψ.sp f).md as) os' ρ1=some ρ2/\Q r true ρ2) E
  ⟨e,fun ρ Q=>e ρ fun t _ ρ1=>truD t.er fun b=>Q b ρ1,nev.a,nev.p⟩):=rfl
theorem peq_isi:pe Ψ (.isi a c) E=(let t:PSt->(Bool->PSt->Prop)->Prop:=fun ρ Q=>(pe Ψ a E).e ρ fun x _ ρ1=>isiD c x.er fun b=>Q b ρ1
  ⟨fun ρ Q=>t ρ fun k ρ1=>Q (.d (.bool k)) false ρ1,t,nev.a,nev.p⟩):=rfl
theorem peq_bi:pe Ψ (.bi f as) E=(let e:PSt->TK->Prop:=fun ρ Q=>(pe Ψ as E).a [] ρ fun xs ρ1=>biT f (vwOf xs) fun z k=>Q z k ρ1
  ⟨e,fun ρ Q=>e ρ fun t _ ρ1=>truD t.er fun b=>Q b ρ1,nev.a,nev.p⟩):=rfl
theorem peq_prm:pe Ψ (.prm o as) E=(let e:PSt->TK->Prop:=fun ρ Q=>(pe Ψ as E).a [] ρ fun xs ρ1=>prmT Ψ o (fzOf xs) fun z k=>Q z k ρ1
  ⟨e,fun ρ Q=>e ρ fun t _ ρ1=>truD t.er fun b=>Q b ρ1,nev.a,nev.p⟩):=rfl
theorem peq_mt:pe Ψ (.mt m o as) E=(let e:PSt->TK->Prop:=fun ρ Q=>if isMut m=true then rootV (rootOf o) fun j=>ownV ρ[j]? fun t=>(pe Ψ o E).p t (ρ.set j (some (.bor t))) fun ks s ρ1=>mutTy m s=true/\(pe Ψ as E).a [] ρ1 fun xs ρ2=>escB xs=true/\ρ2[j]?=some (some (.bor t))/\mutT m s (tsOf xs) fun r s'=>Q r true (ρ2.set j (some (.own (setP t ks s')))) else (pe Ψ o E).e ρ fun x n ρ1=>mtTy m (frzN x n).vw=true/\sq (frzN x n) ρ1 ((pe Ψ as E).a []) fun xs ρ2=>mtT m (frzN x n).vw (vwOf xs) fun z k=>Q z k ρ2
  ⟨e,fun ρ Q=>e ρ fun t _ ρ1=>truD t.er fun b=>Q b ρ1,nev.a,nev.p⟩):=rfl
theorem peq_idx:pe Ψ (.idx a b) E=(let e:PSt->TK->Prop:=fun ρ Q=>(pe Ψ a E).e ρ fun x n ρ1=>sq (frzN x n) ρ1 (cu (pe Ψ b E).e) fun y ρ2=>idxT (frzN x n).vw (frzN y.1 y.2).vw fun z=>Q z false ρ2
  ⟨e,fun ρ Q=>e ρ fun t _ ρ1=>truD t.er fun b=>Q b ρ1,nev.a,fun t ρ K=>(pe Ψ a E).p t ρ fun ks s ρ1=>(pe Ψ b E).e ρ1 fun x n ρ2=>∃ d s',frzN x n=.d d/\stepP s d=some s'/\K (ks++[d]) s' ρ2⟩):=rfl
theorem peq_slc:pe Ψ (.slc a lo hi) E=(⟨fun ρ Q=>(pe Ψ a E).e ρ fun x n ρ1 =>
   sq (α:=Option Int) (frzN x n) ρ1 (if isNop lo=true then fun ρ (R:Option Int->PSt->Prop)=>R none ρ else fun ρ R=>(pe Ψ lo E).e ρ fun l _ ρ2=>partD l.er fun o=>R o ρ2) fun l ρ2 =>
   sq (α:=Option Int) (frzN x n) ρ2 (if isNop hi=true then fun ρ (R:Option Int->PSt->Prop)=>R none ρ else fun ρ R=>(pe Ψ hi E).e ρ fun u _ ρ3=>partD u.er fun o=>R o ρ3) fun u ρ3=>slcT (frzN x n).vw l u fun z k=>Q z k ρ3,nev.t,nev.a,nev.p⟩):=rfl
theorem peq_nop:pe Ψ (.nop) E=(nev):=rfl
theorem peq_lst:pe Ψ (.lst as) E=(⟨fun ρ Q=>(pe Ψ as E).a [] ρ fun xs ρ1=>escB xs=true/\xs.length<=sizeLine/\Q (.lst (tsOf xs)) true ρ1,nev.t,nev.a,nev.p⟩):=rfl
theorem peq_tup:pe Ψ (.tup as) E=(⟨fun ρ Q=>(pe Ψ as E).a [] ρ fun xs ρ1=>escB xs=true/\xs.length<=sizeLine/\Q (mkTup (tsOf xs)) true ρ1,nev.t,nev.a,nev.p⟩):=rfl
theorem peq_comp:pe Ψ (.comp mask tgs tg ik its cond elt) E=(⟨fun ρ Q=>(pe Ψ its E).a [] ρ fun xs ρ1=>itemsT ik (vwOf xs) fun items =>
   compV (compBody tg (entP tgs.length mask (lockA ρ1)) (if isNop cond=true then fun ρ R=>R true ρ else (pe Ψ cond (fun _=>False)).t) (pe Ψ elt (fun _=>False)).e) items [] fun ys=>Q (.lst ys) true ρ1,nev.t,nev.a,nev.p⟩):=rfl
theorem peq_anil:pe Ψ (.anil) E=(⟨nev.e,nev.t,fun _ ρ Q=>Q [] ρ,nev.p⟩):=rfl
theorem peq_acons:pe Ψ (.acons a as) E=(⟨nev.e,nev.t,fun md ρ Q=>if (md.headD .fro).isMut=true then isVar a=true/\(pe Ψ as E).a md.tail ρ fun xs ρ1=>Q ((.d .none,true)::xs) ρ1
   else (pe Ψ a E).e ρ fun x n ρ1=>sq (α:=List (T × Bool)) (if n=true then .d .none else x) ρ1 ((pe Ψ as E).a md.tail) fun xs ρ2=>Q ((x,n)::xs) ρ2,nev.p⟩):=rfl
end
section
variable {Ψ:PEv} {E:XE} {Z:PEnds} {ρ:PSt}
theorem pwq_nil:pws Ψ E (.nil) Z ρ=(Z.nx ρ):=rfl
theorem pwq_seq:pws Ψ E (.seq s r) Z ρ=(pws Ψ E s { Z with nx:=fun ρ'=>pws Ψ E r Z ρ' } ρ):=rfl
theorem pwq_set:pws Ψ E (.set i e) Z ρ=((pe Ψ e E).e ρ fun x n ρ1=>esc x n=true/\Z.nx (ρ1.set i (some (.bor (.d x.er))))):=rfl
theorem pwq_expr:pws Ψ E (.expr e) Z ρ=((pe Ψ e E).e ρ fun _ _ ρ1=>Z.nx ρ1):=rfl
theorem pwq_ret:pws Ψ E (.ret e) Z ρ=(retP Ψ E Z.rt e ρ):=rfl
theorem pwq_ife:pws Ψ E (.ife c a b) Z ρ=((pe Ψ c E).t ρ fun k ρ1=>if k=true then pws Ψ E a Z ρ1 else pws Ψ E b Z ρ1):=rfl
theorem pwq_for_:pws Ψ E (.for_ tg ik its body) Z ρ=((pe Ψ its E).a [] ρ fun xs ρ1=>itemsT ik (vwOf xs) fun items =>
   if allD xs=true then forV (pws Ψ E body) tg { Z with nx:=fun ρ2=>Z.nx (kill tg.ix ρ2) } items ρ1
   else forV (pws Ψ E body) tg { Z with nx:=fun ρ2=>unlock tg.ix (ownsIn ρ1 (vrs its)) ρ1 Z.nx (kill tg.ix ρ2) } items (lock (ownsIn ρ1 (vrs its)) ρ1)):=rfl
theorem pwq_own:pws Ψ E (.own i e) Z ρ=((pe Ψ e E).e ρ fun x n ρ1=>esc x n=true/\Z.nx (ρ1.set i (some (.own x)))):=rfl
theorem pwq_frz:pws Ψ E (.frz is s) Z ρ=(pws Ψ E s Z (frzAt is ρ)):=rfl
theorem pwq_rse:pws Ψ E (.rse) Z ρ=(False):=rfl
end
section
variable {a b c:PX} {i:Nat} {n:Int} {x:Str} {m:Mt} {f:Str} {g:Bi} {op:Operator} {cp:CmpOp} {is:List Bool} {tgs:List Str} {tg:Tg} {ik:ItK} {y:String}
theorem vrs_var:vrs (.var i)=[i]:=rfl
theorem vrs_acons:vrs (.acons a b)=vrs a++vrs b:=rfl
theorem vrs_anil:vrs .anil=[]:=rfl
theorem vrs_mt:vrs (.mt m a b)=[]:=rfl
theorem vrs_call:vrs (.call f a)=[]:=rfl
theorem vrs_bi:vrs (.bi g a)=[]:=rfl
theorem vrs_int:vrs (.int n)=[]:=rfl
theorem vrs_slc:vrs (.slc a b c)=[]:=rfl
theorem rootOf_var:rootOf (.var i)=some i:=rfl
theorem nop_nop:isNop .nop=true:=rfl
theorem nop_cmp:isNop (.cmp cp a b)=false:=rfl
theorem nop_bin:isNop (.bin op a b)=false:=rfl
theorem nop_int:isNop (.int n)=false:=rfl
theorem nop_var:isNop (.var i)=false:=rfl
theorem isiD_1 {d:D} {Q:Bool->Prop}:isiD (.bty x y) d Q=∃ b,isD y d=some b/\isTyN y=true/\Q b:=rfl
end
end L2.L3
namespace L2.L3.Lib
open PySem PySem.Spec PyProof.Rows L2 L2.L3
noncomputable def N_is_made_of:List Str:=["word","allowed"]
noncomputable def ps_is_made_of:List Str:=["word","allowed"]
noncomputable def n_is_made_of:Need:=⟨[],[],["all"],[]⟩
noncomputable def b_is_made_of:PT :=
  (.seq (.ret (.bi .all (.acons (.comp [] ["sign"] (.nm 0) .val (.acons (.var 0) .anil) .nop (.cmp .In (.var 0) (.var 2))) .anil)))
  .nil)
noncomputable def N_is_word:List Str:=["word"]
noncomputable def ps_is_word:List Str:=["word"]
noncomputable def n_is_word:Need:=⟨["is_made_of"],["LETTERS","MOST_LETTERS"],["len"],[]⟩
noncomputable def b_is_word:PT :=
  (.seq (.ret (.and (.chn .LtE .LtE (.int 1) (.bi .len (.acons (.var 0) .anil)) (.glo "MOST_LETTERS")) (.call "is_made_of" (.acons (.var 0) (.acons (.glo "LETTERS") .anil)))))
  .nil)
noncomputable def N_is_name:List Str:=["word"]
noncomputable def ps_is_name:List Str:=["word"]
noncomputable def n_is_name:Need:=⟨["is_word"],["KEYWORDS"],[],[]⟩
noncomputable def b_is_name:PT :=
  (.seq (.ret (.and (.call "is_word" (.acons (.var 0) .anil)) (.cmp .NotIn (.var 0) (.glo "KEYWORDS"))))
  .nil)
noncomputable def N_number_in:List Str:=["word"]
noncomputable def ps_number_in:List Str:=["word"]
noncomputable def n_number_in:Need:=⟨["is_made_of"],["FIGURES","MOST_FIGURES"],["len","int"],[]⟩
noncomputable def b_number_in:PT :=
  (.seq (.ife (.or (.not (.chn .LtE .LtE (.int 1) (.bi .len (.acons (.var 0) .anil)) (.glo "MOST_FIGURES"))) (.not (.call "is_made_of" (.acons (.var 0) (.acons (.glo "FIGURES") .anil))))) (.seq (.ret .non)
  .nil) .nil)
  (.seq (.ife (.and (.cmp .Eq (.idx (.var 0) (.int 0)) (.str "0")) (.cmp .NotEq (.var 0) (.str "0"))) (.seq (.ret .non)
  .nil) .nil)
  (.seq (.ret (.bi .int (.acons (.var 0) .anil)))
  .nil)))
theorem ersT_mapf {α:Type} (f:α->D):∀ (l:List α),ersT (l.map fun c=>T.d (f c))=l.map f
 | []=>rfl
 | x::r=>by rw [List.map_cons,List.map_cons,ersT,ersT_mapf f r,T.er]
noncomputable def madeOf (w a:Str):Bool:=w.cps.toList.all fun c=>decide (c ∈ a.cps.toList)
noncomputable def letters:Str:="abcdefghijklmnopqrstuvwxyz"
noncomputable def isWord (w:Str):Bool:=decide (1<=w.length) && (decide (w.length<=8) && madeOf w letters)
noncomputable def keys:List Str:=["person","matter","against","see","tell","by","at","who","what","since","tellers","wordings","apart","leans","hidden","strike","quote","ground","cut"]
noncomputable def isName (w:Str):Bool:=isWord w && !((keys.map PyData.str).any fun y=>PyData.eqv y (.str w))
noncomputable def sp_is_made_of:PSp where
 md:=[]
 run:=fun ds Q _=>∃ w a:Str,ds=[.d (.str w),.d (.str a)]/\w.length<=sizeLine/\Q (.d (.bool (madeOf w a))) []
 mono:=fun h _ ⟨w,a,e,l,q⟩=>⟨w,a,e,l,h _ _ q⟩
noncomputable def sp_is_word:PSp where
 md:=[]
 run:=fun ds Q _=>∃ w:Str,ds=[.d (.str w)]/\w.length<=sizeLine/\Q (.d (.bool (isWord w))) []
 mono:=fun h _ ⟨w,e,l,q⟩=>⟨w,e,l,h _ _ q⟩
noncomputable def sp_is_name:PSp where
 md:=[]
 run:=fun ds Q _=>∃ w:Str,ds=[.d (.str w)]/\w.length<=sizeLine/\Q (.d (.bool (isName w))) []
 mono:=fun h _ ⟨w,e,l,q⟩=>⟨w,e,l,h _ _ q⟩
theorem ok_is_made_of {Ψ:PEv} (ds Q E) (h:sp_is_made_of.run ds Q E):ds.length=ps_is_made_of.length/\pws Ψ (fun _=>False) b_is_made_of (endsP sp_is_made_of ps_is_made_of.length Q) (startP N_is_made_of sp_is_made_of.md ds):=by
 obtain ⟨w,a,rfl,hl,q⟩:=h
 refine ⟨rfl,?_⟩
 simp_arith [b_is_made_of,ps_is_made_of,N_is_made_of,sp_is_made_of]
 refine compV_map (fun c=>.d (.str ⟨#[c]⟩)) (fun c=>.d (.bool (decide (c ∈ a.cps.toList)))) _ _ _ (fun c _ R hR=>?_) (by simpa [Str.length] using hl) ?_
 ·simp_arith [compBody]
  exact hR
 ·refine ⟨w.cps.toList.map fun c=>decide (c ∈ a.cps.toList),by rw [List.nil_append,ersT_mapf,List.map_map]; rfl,?_⟩
  rw [List.all_map]
  exact q
theorem ok_is_word {Ψ:PEv} (h1:Ψ.sp "is_made_of"=sp_is_made_of) (v1:Ψ.va "LETTERS"=some (.str letters)) (v2:Ψ.va "MOST_LETTERS"=some (.int 8)) (ds Q E) (h:sp_is_word.run ds Q E) :
  ds.length=ps_is_word.length/\pws Ψ (fun _=>False) b_is_word (endsP sp_is_word ps_is_word.length Q) (startP N_is_word sp_is_word.md ds):=by
 obtain ⟨w,rfl,hl,q⟩:=h
 refine ⟨rfl,?_⟩
 simp_arith [b_is_word,ps_is_word,N_is_word,sp_is_word,h1,v1,v2,sp_is_made_of]
 refine ⟨hl,?_⟩
 unfold isWord at q
 split
 ·rename_i h1
  have h1':decide (1<=w.length)=true:=by simp at h1 ⊢; omega
  rw [h1'] at q
  split
  ·rename_i h2
   have h2':decide (w.length<=8)=true:=by simp at h2 ⊢; omega
   rw [h2'] at q
   exact ⟨hl,q⟩
  ·rename_i h2
   have h2':decide (w.length<=8)=false:=by simp at h2 ⊢; omega
   rw [h2'] at q
   exact q
 ·rename_i h1
  have h1':decide (1<=w.length)=false:=by simp at h1 ⊢; omega
  rw [h1'] at q
  exact q
theorem keys_flat:(keys.map PyData.str).all flatD=true:=by rfl
theorem ok_is_name {Ψ:PEv} (h1:Ψ.sp "is_word"=sp_is_word) (v1:Ψ.va "KEYWORDS"=some (.tuple (keys.map PyData.str))) (ds Q E) (h:sp_is_name.run ds Q E) :
  ds.length=ps_is_name.length/\pws Ψ (fun _=>False) b_is_name (endsP sp_is_name ps_is_name.length Q) (startP N_is_name sp_is_name.md ds):=by
 obtain ⟨w,rfl,hl,q⟩:=h
 refine ⟨rfl,?_⟩
 simp_arith [b_is_name,ps_is_name,N_is_name,sp_is_name,h1,v1,sp_is_word]
 refine ⟨hl,?_⟩
 unfold isName at q
 cases hw:isWord w with
 | true =>
  rw [hw] at q
  exact ⟨.inl ⟨rfl,keys_flat⟩,q⟩
 | false =>
  rw [hw] at q
  exact q
end L2.L3.Lib
namespace L2.L3.Lib
open PySem PySem.Spec PyProof.Rows L2 L2.L3
theorem foldl_app (xs:List (Array Nat)):∀ (acc:Array Nat),(xs.foldl (·++·) acc).toList=acc.toList++(xs.map Array.toList).flatten:=by
 induction xs with
 | nil=>intro acc; simp
 | cons a xs ih=>intro acc; rw [List.foldl_cons,ih]; simp
theorem repS_codes (x:Str) (k:Int):(repS x k).cps.toList=(List.replicate k.toNat x.cps.toList).flatten:=by
 unfold repS Txt.mul
 split
 ·rename_i h
  have:k.toNat=0:=by omega
  rw [this]
  rfl
 ·rename_i h
  split
  ·rename_i h2
   rw [Bool.or_eq_true] at h2
   rcases h2 with h2 | h2
   ·have:k=1:=by simpa using h2
    subst this
    simp
   ·have h3:x.length=0:=by simpa using h2
    have:x.cps.toList=[]:=by
     have:x.cps.toList.length=0:=by rw [Array.length_toList]; exact h3
     exact List.length_eq_zero_iff.mp this
    rw [this]
    simp
  ·show ((List.replicate k.toNat x.cps).foldl (·++·) #[]).toList=_
   rw [foldl_app]
   simp
theorem repS_len (x:Str) (k:Int):(repS x k).length=k.toNat * x.length:=by
 have h:=congrArg List.length (repS_codes x k)
 rw [Array.length_toList,len_rep,Array.length_toList] at h
 exact h
noncomputable def figures:Str:="0123456789"
noncomputable def isNum (w:Str):Bool:=decide (1<=w.length) && (decide (w.length<=9) && (madeOf w figures && (w.cps.toList.head? != some 48 || decide (w.length=1))))
noncomputable def numVal (w:Str):Int:=((NumText.digitsVal w.cps.toList:Nat):Int)
noncomputable def numIn (w:Str):D:=if isNum w=true then .int (numVal w) else .none
noncomputable def sp_number_in:PSp where
 md:=[]
 run:=fun ds Q _=>∃ w:Str,ds=[.d (.str w)]/\w.length<=sizeLine/\Q (.d (numIn w)) []
 mono:=fun h _ ⟨w,e,l,q⟩=>⟨w,e,l,h _ _ q⟩
theorem fig_mem (c:Nat):decide (c ∈ figures.cps.toList)=(decide (48<=c) && decide (c<=57)):=by
 have e:figures.cps.toList=[48,49,50,51,52,53,54,55,56,57]:=by decide +kernel
 rw [e]
 by_cases h1:48<=c
 ·by_cases h2:c<=57
  ·have:c=48∨c=49∨c=50∨c=51∨c=52∨c=53∨c=54∨c=55∨c=56∨c=57:=by omega
   rcases this with rfl | rfl | rfl | rfl | rfl | rfl | rfl | rfl | rfl | rfl<;>rfl
  ·have:¬ c ∈ [48,49,50,51,52,53,54,55,56,57]:=by simp; omega
   simp [this,h2]
 ·have:¬ c ∈ [48,49,50,51,52,53,54,55,56,57]:=by simp; omega
  simp [this,h1]
theorem all_digits {w:Str} (h:madeOf w figures=true):NumText.AllDigits w.cps.toList:=by
 intro c hc
 have:=List.all_eq_true.mp h c hc
 rw [fig_mem,Bool.and_eq_true] at this
 exact ⟨of_decide_eq_true this.1,of_decide_eq_true this.2⟩
theorem zero_str:Str.ofString "0"=⟨#[48]⟩:=by decide +kernel
theorem str_ext {a b:Str} (h:a.cps.toList=b.cps.toList):a=b:=by
 obtain ⟨a⟩:=a
 obtain ⟨b⟩:=b
 exact congrArg Str.mk (Array.toList_inj.mp h)
theorem ok_number_in {Ψ:PEv} (h1:Ψ.sp "is_made_of"=sp_is_made_of) (v1:Ψ.va "FIGURES"=some (.str figures)) (v2:Ψ.va "MOST_FIGURES"=some (.int 9)) (ds Q E) (h:sp_number_in.run ds Q E) :
  ds.length=ps_number_in.length/\pws Ψ (fun _=>False) b_number_in (endsP sp_number_in ps_number_in.length Q) (startP N_number_in sp_number_in.md ds):=by
 obtain ⟨w,rfl,hl,q⟩:=h
 refine ⟨rfl,?_⟩
 simp_arith [b_number_in,ps_number_in,N_number_in,sp_number_in,h1,v1,v2,sp_is_made_of]
 refine ⟨hl,?_⟩
 unfold numIn isNum at q
 by_cases c1:1<=w.length
 ·have e1:decide ((1:Int)<=(w.length:Int))=true:=by simp; omega
  rw [decide_eq_true c1] at q
  simp only [e1,Bool.not_true,Bool.false_eq_true,if_false,if_true]
  by_cases c2:w.length<=9
  ·have e2:decide ((w.length:Int)<=9)=true:=by simp; omega
   rw [decide_eq_true c2] at q
   simp only [e2,Bool.not_true,Bool.false_eq_true,if_false]
   refine ⟨hl,?_⟩
   cases hm:madeOf w figures with
   | false =>
    rw [hm] at q
    exact q
   | true =>
    rw [hm] at q
    simp only [Bool.not_true,Bool.false_eq_true,if_false]
    refine ⟨hl,?_⟩
    have hlen:w.cps.toList.length=w.length:=Array.length_toList
    cases hc:w.cps.toList with
    | nil=>rw [hc] at hlen; simp at hlen; omega
    | cons c cs =>
     refine ⟨c,atI_nat (j:=0) rfl,?_⟩
     rw [hc] at q hlen
     rw [zero_str]
     have ec:decide ((⟨#[c]⟩:Str)=⟨#[48]⟩)=decide (c=48):=by
      by_cases z:c=48
      ·subst z; simp
      ·have:¬ (⟨#[c]⟩:Str)=⟨#[48]⟩:=fun e=>z (by injection e with e; injection e with e; injection e)
       rw [decide_eq_false this,decide_eq_false z]
     rw [ec]
     have ew:decide (w=⟨#[48]⟩)=(decide (c=48) && decide (w.length=1)):=by
      by_cases z:w=⟨#[48]⟩
      ·rw [decide_eq_true z]
       rw [z] at hc
       injection hc with hc1 hc2
       subst hc1
       rw [z]
       rfl
      ·rw [decide_eq_false z]
       symm
       rw [Bool.and_eq_false_iff]
       by_cases y:c=48
       ·refine .inr (decide_eq_false fun y2=>z ?_)
        subst y
        apply str_ext
        rw [hc]
        have:cs=[]:=by
         cases cs with
         | nil=>rfl
         | cons _ _=>simp at hlen; omega
        rw [this]
       ·exact .inl (decide_eq_false y)
     rw [ew]
     have fin:(w.length<=640/\∃ n,intText? w=some n/\Q (.d (.int n)) []) ↔ Q (.d (.int (numVal w))) []:=by
      have e:intText? w=some (numVal w):=PySem.intText_digits (all_digits hm) (by rw [hc]; simp) (by omega)
      constructor
      ·rintro ⟨_,n,e1,q⟩
       rw [e] at e1
       cases e1
       exact q
      ·intro q
       exact ⟨by omega,_,e,q⟩
     by_cases z:c=48
     ·subst z
      by_cases y:w.length=1
      ·rw [decide_eq_true y] at q ⊢
       simp only [decide_true,Bool.and_self,Bool.not_true,Bool.false_eq_true,if_false,if_true]
       refine fin.mpr ?_
       simpa using q
      ·rw [decide_eq_false y] at q ⊢
       simp only [decide_true,Bool.and_false,Bool.not_false,if_true]
       simpa using q
     ·rw [decide_eq_false z]
      simp only [Bool.false_eq_true,if_false]
      refine fin.mpr ?_
      have:((some c:Option Nat) != some 48)=true:=by simp [z]
      have q2:(if (true && (true && (true && (((some c:Option Nat) != some 48) || decide (w.length=1)))))=true then PyData.int (numVal w) else PyData.none)=PyData.int (numVal w):=by rw [this]; rfl
      have q3:Q (.d (if (true && (true && (true && (((some c:Option Nat) != some 48) || decide (w.length=1)))))=true then PyData.int (numVal w) else PyData.none)) []:=q
      rw [q2] at q3
      exact q3
  ·have e2:decide ((w.length:Int)<=9)=false:=by simp; omega
   rw [decide_eq_false c2] at q
   simp only [e2,Bool.not_false,if_true]
   exact q
 ·have e1:decide ((1:Int)<=(w.length:Int))=false:=by simp; omega
  rw [decide_eq_false c1] at q
  simp only [e1,Bool.not_false,if_true]
  exact q
end L2.L3.Lib
namespace L2.L3.Lib
open PySem PySem.Spec PyProof.Rows L2 L2.L3
noncomputable def wc:List Nat->List Nat->List (List Nat)
 | [],cur=>if cur.isEmpty then [] else [cur]
 | c::cs,cur=>if c=32 then (if cur.isEmpty then wc cs [] else cur::wc cs []) else wc cs (cur++[c])
theorem wc_free:∀ (w r cur:List Nat),32 ∉ w->wc (w++r) cur=wc r (cur++w)
 | [],r,cur,_=>by simp
 | c::w,r,cur,h=>by
  have hc:¬ c=32:=fun e=>h (by simp [e])
  rw [List.cons_append,wc,if_neg hc,wc_free w r _ fun z=>h (List.mem_cons_of_mem _ z)]
  simp
theorem wc_blank (r cur:List Nat):wc (32::r) cur=(if cur.isEmpty then [] else [cur])++wc r []:=by
 rw [wc,if_pos rfl]
 split<;>simp
theorem wc_blanks:∀ (n:Nat) (r:List Nat),wc (List.replicate n 32++r) []=wc r []
 | 0,r=>rfl
 | n+1,r=>by
  rw [List.replicate_succ,List.cons_append,wc_blank,wc_blanks n r]
  rfl
theorem wc_word (w r:List Nat) (n:Nat) (h:32 ∉ w) (h0:w≠[]):wc (w++(List.replicate (n+1) 32++r)) []=w::wc r []:=by
 rw [wc_free _ _ _ h,List.replicate_succ,List.cons_append,wc_blank,wc_blanks]
 have:([]++w:List Nat).isEmpty=false:=by cases w with | nil=>exact absurd rfl h0 | cons _ _=>rfl
 rw [this]
 rfl
theorem wc_end:∀ (r cur:List Nat) (n:Nat),wc (r++List.replicate n 32) cur=wc r cur
 | [],cur,0=>by simp
 | [],cur,n+1=>by
  rw [List.nil_append,List.replicate_succ,wc_blank]
  have e:wc (List.replicate n 32) []=[]:=by
   have:=wc_blanks n []
   rw [List.append_nil] at this
   rw [this]; rfl
  rw [e,List.append_nil]
  rfl
 | c::r,cur,n=>by
  rw [List.cons_append,wc,wc]
  split
  ·rw [wc_end r [] n]
  ·exact wc_end r _ n
noncomputable def joinC:List (List Nat)->List Nat
 | []=>[]
 | [x]=>x
 | x::y::r=>x++32::joinC (y::r)
theorem wc_join:∀ (ps:List (List Nat)),(∀ p ∈ ps,32 ∉ p)->wc (joinC ps) []=ps.filter fun p=>!p.isEmpty
 | [],_=>rfl
 | [x],h=>by
  have:=wc_free x [] [] (h x (by simp))
  rw [List.append_nil] at this
  rw [joinC,this]
  cases x with
  | nil=>rfl
  | cons _ _=>rfl
 | x::y::r,h=>by
  rw [joinC,wc_free _ _ _ (h x (by simp)),wc_blank,wc_join (y::r) fun p hp=>h p (List.mem_cons_of_mem _ hp)]
  cases x with
  | nil=>rfl
  | cons _ _=>rfl
theorem join_codes:∀ (ps:List Str),(Str.join ⟨#[32]⟩ ps).cps.toList=joinC (ps.map fun p=>p.cps.toList)
 | []=>rfl
 | [x]=>rfl
 | x::y::r=>by
  show ((x.cps++#[32])++(Str.join ⟨#[32]⟩ (y::r)).cps).toList=_
  have ih:=join_codes (y::r)
  rw [List.map_cons] at ih
  rw [List.map_cons,List.map_cons,joinC,<- ih]
  simp
noncomputable def wordsOf (r:Str):List Str:=(Txt.split r ⟨#[32]⟩).filter fun w=>decide (w≠⟨#[]⟩)
theorem wordsOf_codes (r:Str):(wordsOf r).map (fun w=>w.cps.toList)=wc r.cps.toList []:=by
 have h1:=join_codes (Txt.split r ⟨#[32]⟩)
 rw [StrLaws.join_split] at h1
 rw [h1,wc_join _ fun p hp=>by
  obtain ⟨q,hq,rfl⟩:=List.mem_map.mp hp
  exact StrLaws.split_free r 32 q hq]
 unfold wordsOf
 rw [List.filter_map]
 congr 1
 apply List.filter_congr
 intro w _
 obtain ⟨⟨l⟩⟩:=w
 cases l with
 | nil=>rfl
 | cons a l=>simp [Function.comp]
theorem codes_inj {a:List Str}:∀ {ws:List Str},a.map (fun w=>w.cps.toList)=ws.map (fun w=>w.cps.toList)->a=ws:=by
 induction a with
 | nil =>
  intro ws e
  cases ws with
  | nil=>rfl
  | cons _ _=>simp at e
 | cons x a ih =>
  intro ws e
  cases ws with
  | nil=>simp at e
  | cons y ws =>
   simp only [List.map_cons,List.cons.injEq] at e
   rw [str_ext e.1,ih e.2]
theorem wordsOf_of {r:Str} {ws:List Str} (h:wc r.cps.toList []=ws.map fun w=>w.cps.toList):wordsOf r=ws:=codes_inj ((wordsOf_codes r).trans h)
end L2.L3.Lib
namespace L2.L3.Lib
open PySem PySem.Spec PyProof.Rows L2 L2.L3
noncomputable def numT (n:Int):Str:=Str.ofString (toString n)
theorem numT_digits (m:Nat):NumText.AllDigits (numT (m:Int)).cps.toList:=by
 intro c hc
 unfold numT at hc
 rw [PySem.W.KIN.signs_num] at hc
 obtain ⟨ch,hch,e⟩:=List.mem_map.mp hc
 rw [<- e]
 exact digit_range (Nat.isDigit_of_mem_toDigits (by decide) (by decide) hch)
theorem numT_val (m:Nat):NumText.digitsVal (numT (m:Int)).cps.toList=m:=by
 unfold numT
 rw [PySem.W.KIN.signs_num]
 exact PySem.W.KIN.val_back m
theorem drop48_len:∀ (cs:List Nat),(cs.dropWhile (· == 48)).length<=cs.length
 | []=>Nat.le_refl _
 | c::cs=>by
  rw [List.dropWhile_cons]
  split
  ·exact Nat.le_succ_of_le (drop48_len cs)
  ·exact Nat.le_refl _
theorem numT_head (m:Nat):((numT (m:Int)).cps.toList.head? != some 48 || decide ((numT (m:Int)).length=1))=true:=by
 have hd:=numT_digits m
 have hv:=numT_val m
 have hs:(numT (m:Int)).cps.toList=(Nat.toDigits 10 m).map Char.toNat:=PySem.W.KIN.signs_num m
 have hl:(numT (m:Int)).cps.toList.length=(numT (m:Int)).length:=Array.length_toList
 generalize (numT (m:Int)).cps.toList=cs at hd hv hs hl
 have ta:=NumText.toDigits_all cs hd
 rw [hv] at ta
 cases cs with
 | nil =>
  rfl
 | cons c r =>
  by_cases e:c=48
  ·subst e
   have hlen:(Nat.toDigits 10 m).length=r.length+1:=by
    have:=congrArg List.length hs
    rw [List.length_map] at this
    rw [<- this]; rfl
   rw [ta,List.dropWhile_cons] at hlen
   have hle:=drop48_len r
   simp only [beq_self_eq_true,if_true] at hlen
   have:r.length=0:=by
    revert hlen
    split
    ·rename_i h0
     intro hlen
     simp at hlen
     exact hlen.symm▸rfl
    ·rename_i c2 r2 h0
     intro hlen
     rw [h0] at hle
     rw [List.length_map] at hlen
     omega
   rw [<- hl,List.length_cons,this]
   rfl
  ·have:((some c:Option Nat) != some 48)=true:=by simp [e]
   show ((some c:Option Nat) != some 48 || _)=true
   rw [this]
   rfl
theorem numT_len {n:Int} (h0:0<=n) (h1:n<=999999999):1<=(numT n).length/\(numT n).length<=9:=by
 refine ⟨?_,toString_length_le h0 (by decide) (by rw [show (10:Int) ^ 9=1000000000 from rfl]; omega)⟩
 obtain ⟨m,rfl⟩:=Int.eq_ofNat_of_zero_le h0
 have hs:(numT (m:Int)).cps.toList=(Nat.toDigits 10 m).map Char.toNat:=PySem.W.KIN.signs_num m
 have hl:(numT (m:Int)).cps.toList.length=(numT (m:Int)).length:=Array.length_toList
 rw [hs,List.length_map] at hl
 rw [<- hl]
 exact Nat.length_toDigits_pos
theorem numIn_text {n:Int} (h0:0<=n) (h1:n<=999999999):numIn (numT n)=.int n:=by
 obtain ⟨l1,l2⟩:=numT_len h0 h1
 obtain ⟨m,rfl⟩:=Int.eq_ofNat_of_zero_le h0
 have hm:madeOf (numT (m:Int)) figures=true:=by
  unfold madeOf
  rw [List.all_eq_true]
  intro c hc
  have:=numT_digits m c hc
  rw [fig_mem,decide_eq_true this.1,decide_eq_true this.2]
  rfl
 have hn:isNum (numT (m:Int))=true:=by
  unfold isNum
  rw [decide_eq_true l1,decide_eq_true l2,hm,numT_head m]
  rfl
 unfold numIn
 rw [if_pos hn]
 unfold numVal
 rw [numT_val]
end L2.L3.Lib
namespace L2.L3.Lib
open PySem PySem.Spec PyProof.Rows L2 L2.L3
noncomputable def N_words_in:List Str:=["row"]
noncomputable def ps_words_in:List Str:=["row"]
noncomputable def n_words_in:Need:=⟨[],[],[],[]⟩
noncomputable def b_words_in:PT :=
  (.seq (.ret (.comp [] ["word"] (.nm 0) .val (.acons (.mt .split (.var 0) (.acons (.str " ") .anil)) .anil) (.cmp .NotEq (.var 0) (.str "")) (.var 0)))
  .nil)
noncomputable def N_number_within:List Str:=["bounds","word","number"]
noncomputable def ps_number_within:List Str:=["bounds","word"]
noncomputable def n_number_within:Need:=⟨["number_in"],[],[],[]⟩
noncomputable def b_number_within:PT :=
  (.seq (.set 2 (.call "number_in" (.acons (.var 1) .anil)))
  (.seq (.ife (.or (.cmp .Is (.var 2) .non) (.not (.chn .LtE .LtE (.idx (.var 0) (.int 0)) (.var 2) (.idx (.var 0) (.int 1))))) (.seq (.ret .non)
  .nil) .nil)
  (.seq (.ret (.var 2))
  .nil)))
theorem blank_str:Str.ofString " "=⟨#[32]⟩:=by decide +kernel
theorem empty_str:Str.ofString ""=⟨#[]⟩:=by decide +kernel
noncomputable def sp_words_in:PSp where
 md:=[]
 run:=fun ds Q _=>∃ r:Str,ds=[.d (.str r)]/\r.length<=100000/\Q (.lst ((wordsOf r).map fun w=>.d (.str w))) []
 mono:=fun h _ ⟨w,e,l,q⟩=>⟨w,e,l,h _ _ q⟩
theorem ok_words_in {Ψ:PEv} (ds Q E) (h:sp_words_in.run ds Q E):ds.length=ps_words_in.length/\pws Ψ (fun _=>False) b_words_in (endsP sp_words_in ps_words_in.length Q) (startP N_words_in sp_words_in.md ds):=by
 obtain ⟨r,rfl,hl,q⟩:=h
 refine ⟨rfl,?_⟩
 have hz:sizeLine=16777216:=sizeLine_eq
 simp_arith [b_words_in,ps_words_in,N_words_in,sp_words_in,blank_str,empty_str]
 refine ⟨by omega,by decide,?_,?_⟩
 ·have:=split_le r ⟨#[32]⟩
  omega
 ·rw [List.map_map]
  refine compV_filter (fun w:Str=>T.d (.str w)) (fun w=>T.d (.str w)) (fun w=>decide (w≠⟨#[]⟩)) _ _ _ (fun w _ R hR=>?_) ?_ q
  ·simp_arith [compBody]
   by_cases e:w=⟨#[]⟩
   ·subst e; simpa using hR
   ·rw [decide_eq_false e]
    simp only [Bool.not_false,if_true]
    simpa [e] using hR
  ·have:=split_le r ⟨#[32]⟩
   simp
   omega
noncomputable def numWithin (a b:Int) (w:Str):D:=match numIn w with
 | .int n=>if (decide (a<=n) && decide (n<=b))=true then .int n else .none
 | _=>.none
noncomputable def sp_number_within:PSp where
 md:=[]
 run:=fun ds Q _=>∃ (a b:Int) (w:Str),ds=[.d (.tuple [.int a,.int b]),.d (.str w)]/\w.length<=sizeLine/\Q (.d (numWithin a b w)) []
 mono:=fun h _ ⟨a,b,w,e,l,q⟩=>⟨a,b,w,e,l,h _ _ q⟩
theorem ok_number_within {Ψ:PEv} (h1:Ψ.sp "number_in"=sp_number_in) (ds Q E) (h:sp_number_within.run ds Q E):ds.length=ps_number_within.length/\pws Ψ (fun _=>False) b_number_within (endsP sp_number_within ps_number_within.length Q) (startP N_number_within sp_number_within.md ds):=by
 obtain ⟨a,b,w,rfl,hl,q⟩:=h
 refine ⟨rfl,?_⟩
 simp_arith [b_number_within,ps_number_within,N_number_within,sp_number_within,h1,sp_number_in]
 refine ⟨hl,?_⟩
 unfold numWithin at q
 unfold numIn at q ⊢
 cases hn:isNum w with
 | false =>
  rw [hn] at q
  exact q
 | true =>
  rw [hn] at q
  simp only [if_true] at q ⊢
  simp only [isNonD.eq_2,Bool.false_eq_true,if_false]
  refine ⟨T.d (.int a),rfl,?_⟩
  simp_arith [pwq_nil]
  cases ha:decide (a<=numVal w) with
  | false =>
   rw [ha] at q
   exact q
  | true =>
   rw [ha] at q
   refine ⟨T.d (.int b),rfl,?_⟩
   simp_arith [pwq_nil]
   cases hb:decide (numVal w<=b) with
   | false=>rw [hb] at q; exact q
   | true=>rw [hb] at q; exact q
end L2.L3.Lib
namespace L2.L3.K60
open PySem PySem.Spec PyProof.Rows L2 L2.L3 L2.L3.Lib
noncomputable def top (i:Nat):Stmt:=PySem.Challenge.pw_quoteweave_k60_questions_read.main.body.getD i (.Pass ⟨0,0,0,0⟩)
theorem cb_words_in:defB n_words_in b_words_in N_words_in ps_words_in (top 9)=true:=by kernel_rfl
theorem cb_is_made_of:defB n_is_made_of b_is_made_of N_is_made_of ps_is_made_of (top 10)=true:=by kernel_rfl
theorem cb_is_word:defB n_is_word b_is_word N_is_word ps_is_word (top 11)=true:=by kernel_rfl
theorem cb_is_name:defB n_is_name b_is_name N_is_name ps_is_name (top 12)=true:=by kernel_rfl
theorem cb_number_in:defB n_number_in b_number_in N_number_in ps_number_in (top 13)=true:=by kernel_rfl
noncomputable def N_values_by:List Str:=["form","words","values"]
noncomputable def ps_values_by:List Str:=["form","words"]
noncomputable def n_values_by:Need:=⟨["value_of"],[],["len","zip"],[]⟩
noncomputable def b_values_by:PT :=
  (.seq (.ife (.or (.cmp .Is (.var 0) .non) (.cmp .NotEq (.bi .len (.acons (.var 1) .anil)) (.bin .Add (.int 1) (.bi .len (.acons (.var 0) .anil))))) (.seq (.ret .non)
  .nil) .nil)
  (.seq (.own 2 (.bin .Add (.lst (.acons (.idx (.var 1) (.int 0)) .anil)) (.comp [] ["part","word"] (.tp [0,1]) .zip2 (.acons (.var 0) (.acons (.slc (.var 1) (.int 1) .nop) .anil)) .nop (.call "value_of" (.acons (.var 0) (.acons (.var 1) .anil))))))
  (.seq (.ret (.ife (.cmp .In .non (.var 2)) .non (.var 2)))
  .nil)))
theorem cb_values_by:defB n_values_by b_values_by N_values_by ps_values_by (top 17)=true:=by kernel_rfl
noncomputable def N_value_of:List Str:=["part","word"]
noncomputable def ps_value_of:List Str:=["part","word"]
noncomputable def n_value_of:Need:=⟨["is_name","is_word","number_within"],["NAMED"],[],["RANGES"]⟩
noncomputable def b_value_of_a:PT :=
  (.seq (.ret (.ife (.call "is_name" (.acons (.var 1) .anil)) (.var 1) .non))
  .nil)
noncomputable def b_value_of_z:PT :=
  (.seq (.ret (.call "number_within" (.acons (.prm (.dix "RANGES") (.acons (.var 0) .anil)) (.acons (.var 1) .anil))))
  .nil)
noncomputable def b_value_of_c:PT :=
  (.seq (.ret (.ife (.cmp .Eq (.var 1) (.str "by")) (.var 1) .non))
  .nil)
noncomputable def b_value_of_b:PT :=
  (.seq (.ret (.ife (.call "is_word" (.acons (.var 1) .anil)) (.var 1) .non))
  .nil)
noncomputable def b_value_of:PT :=
  (.seq (.ife (.cmp .In (.var 0) (.glo "NAMED")) b_value_of_a .nil)
  (.seq (.ife (.cmp .Eq (.var 0) (.str "word")) b_value_of_b .nil)
  (.seq (.ife (.cmp .Eq (.var 0) (.str "by")) b_value_of_c .nil)
  b_value_of_z)))
theorem cb_value_of:defB n_value_of b_value_of N_value_of ps_value_of (top 18)=true:=by kernel_rfl
theorem cb_number_within:defB n_number_within b_number_within N_number_within ps_number_within (top 19)=true:=by kernel_rfl
noncomputable def N_read_questions:List Str:=["text"]
noncomputable def ps_read_questions:List Str:=["text"]
noncomputable def n_read_questions:Need:=⟨["placed_questions"],[],[],[]⟩
noncomputable def b_read_questions:PT :=
  (.seq (.ret (.comp [] ["place","question"] (.tp [0,1]) .val (.acons (.call "placed_questions" (.acons (.var 0) .anil)) .anil) .nop (.var 1)))
  .nil)
theorem cb_read_questions:defB n_read_questions b_read_questions N_read_questions ps_read_questions (top 22)=true:=by kernel_rfl
noncomputable def N_placed_questions:List Str:=["text","placed","place","row","words"]
noncomputable def ps_placed_questions:List Str:=["text"]
noncomputable def n_placed_questions:Need:=⟨["words_in","question_of"],[],["enumerate","len"],[]⟩
noncomputable def b_placed_questions_1:PT :=
  (.seq (.set 4 (.call "words_in" (.acons (.var 3) .anil)))
  (.seq (.ife (.cmp .Gt (.bi .len (.acons (.var 4) .anil)) (.int 0)) (.seq (.expr (.mt .append (.var 1) (.acons (.tup (.acons (.var 2) (.acons (.call "question_of" (.acons (.var 4) (.acons (.var 2) .anil))) .anil))) .anil)))
  .nil) .nil)
  .nil))
noncomputable def b_placed_questions:PT :=
  (.seq (.own 1 (.lst .anil))
  (.seq (.for_ (.tp [2,3]) .enumA (.acons (.mt .split (.var 0) (.acons (.str "\n") .anil)) (.acons (.int 1) .anil)) b_placed_questions_1)
  (.seq (.ret (.var 1))
  .nil)))
theorem cb_placed_questions:defB n_placed_questions b_placed_questions N_placed_questions ps_placed_questions (top 23)=true:=by kernel_rfl
noncomputable def N_question_of:List Str:=["words","place","values"]
noncomputable def ps_question_of:List Str:=["words","place"]
noncomputable def n_question_of:Need:=⟨["values_by"],[],["tuple"],["FORMS"]⟩
noncomputable def b_question_of:PT :=
  (.seq (.set 2 (.call "values_by" (.acons (.prm (.dget "FORMS") (.acons (.idx (.var 0) (.int 0)) .anil)) (.acons (.var 0) .anil))))
  (.seq (.ife (.cmp .Is (.var 2) .non) (.seq .rse
  .nil) .nil)
  (.seq (.ret (.bi .tuple (.acons (.var 2) .anil)))
  .nil)))
theorem cb_question_of:defB n_question_of b_question_of N_question_of ps_question_of (top 24)=true:=by kernel_rfl
noncomputable def N_l_draw:List Str:=["_law_script","_law_k","_law_many","_law_cell","_law_number"]
noncomputable def ps_l_draw:List Str:=["_law_script","_law_k","_law_many"]
noncomputable def n_l_draw:Need:=⟨[],[],["len"],[]⟩
noncomputable def b_l_draw_r1:PT :=
  (.seq (.set 4 (.bin .Mod (.bin .Mult (.bin .Add (.bin .Add (.bin .Mod (.var 3) (.int 2147483647)) (.bin .Mult (.int 7) (.var 1))) (.int 3)) (.bin .Add (.int 48271) (.bin .Mult (.bin .Mult (.int 1103) (.var 1)) (.var 1)))) (.int 2147483629)))
  (.seq (.ret (.bin .Mod (.bin .FloorDiv (.var 4) (.int 64)) (.var 2)))
  .nil))
noncomputable def b_l_draw:PT :=
  (.seq (.set 3 (.int 0))
  (.seq (.ife (.cmp .Gt (.bi .len (.acons (.var 0) .anil)) (.int 0)) (.seq (.set 3 (.idx (.var 0) (.bin .Mod (.var 1) (.bi .len (.acons (.var 0) .anil)))))
  .nil) .nil)
  b_l_draw_r1))
theorem cb_l_draw:defB n_l_draw b_l_draw N_l_draw ps_l_draw (top 26)=true:=by kernel_rfl
noncomputable def N_l_name:List Str:=["_law_script","_law_k","_law_letters","_law_word","_law_j"]
noncomputable def ps_l_name:List Str:=["_law_script","_law_k"]
noncomputable def n_l_name:Need:=⟨["_law_draw"],[],["range"],[]⟩
noncomputable def b_l_name_1:PT :=
  (.seq (.set 3 (.bin .Add (.bin .Add (.slc (.var 3) .nop (.bin .FloorDiv (.var 4) (.int 2))) (.idx (.var 2) (.call "_law_draw" (.acons (.var 0) (.acons (.bin .Add (.bin .Add (.var 1) (.int 1)) (.var 4)) (.acons (.int 26) .anil)))))) (.slc (.var 3) (.bin .FloorDiv (.var 4) (.int 2)) .nop)))
  .nil)
noncomputable def b_l_name:PT :=
  (.seq (.set 2 (.str "abcdefghijklmnopqrstuvwxyz"))
  (.seq (.set 3 (.str "z"))
  (.seq (.for_ (.nm 4) .rng1 (.acons (.call "_law_draw" (.acons (.var 0) (.acons (.var 1) (.acons (.int 8) .anil)))) .anil) b_l_name_1)
  (.seq (.ret (.var 3))
  .nil))))
theorem cb_l_name:defB n_l_name b_l_name N_l_name ps_l_name (top 27)=true:=by kernel_rfl
noncomputable def N_l_question:List Str:=["_law_script","_law_k","_law_pairs","_law_kind","_law_number"]
noncomputable def ps_l_question:List Str:=["_law_script","_law_k"]
noncomputable def n_l_question:Need:=⟨["_law_draw","_law_name"],[],[],[]⟩
noncomputable def b_l_question_r1:PT :=
  (.seq (.ret (.tup (.acons (.idx (.lst (.acons (.str "at") (.acons (.str "quote") .anil))) (.bin .Sub (.var 3) (.int 7))) (.acons (.var 4) .anil))))
  .nil)
noncomputable def b_l_question_a:PT :=
  (.seq (.ret (.tup (.acons (.idx (.var 2) (.var 3)) (.acons (.call "_law_name" (.acons (.var 0) (.acons (.bin .Add (.var 1) (.int 1)) .anil))) (.acons (.call "_law_name" (.acons (.var 0) (.acons (.bin .Add (.var 1) (.int 11)) .anil))) .anil)))))
  .nil)
noncomputable def b_l_question_n:PT :=
  (.seq (.ife (.cmp .Eq (.call "_law_draw" (.acons (.var 0) (.acons (.bin .Add (.var 1) (.int 2)) (.acons (.int 2) .anil)))) (.int 0)) (.seq (.set 4 (.bin .Mod (.bin .Mult (.call "_law_draw" (.acons (.var 0) (.acons (.bin .Add (.var 1) (.int 3)) (.acons (.int 2147483647) .anil)))) (.int 64)) (.bin .Pow (.int 10) (.int 9))))
  .nil) .nil)
  b_l_question_r1)
noncomputable def b_l_question_m:PT :=
  (.seq (.set 4 (.call "_law_draw" (.acons (.var 0) (.acons (.bin .Add (.var 1) (.int 1)) (.acons (.int 12) .anil)))))
  b_l_question_n)
noncomputable def b_l_question_z:PT :=
  (.seq (.ret (.tup (.acons (.idx (.lst (.acons (.str "who") (.acons (.str "ground") (.acons (.str "what") (.acons (.str "strike") .anil))))) (.bin .Sub (.var 3) (.int 9))) (.acons (.call "_law_name" (.acons (.var 0) (.acons (.bin .Add (.var 1) (.int 1)) .anil))) .anil))))
  .nil)
noncomputable def b_l_question_s:PT :=
  (.seq (.ife (.cmp .Lt (.var 3) (.int 7)) b_l_question_a .nil)
  (.seq (.ife (.cmp .Lt (.var 3) (.int 9)) b_l_question_m .nil)
  b_l_question_z))
noncomputable def pairsL:List Str:=["since","tellers","wordings","apart","leans","hidden","cut"]
noncomputable def acs:List Str->PX
 | []=>.anil
 | x::l=>.acons (.str x) (acs l)
noncomputable def b_l_question_q:PT :=
  (.seq (.set 3 (.call "_law_draw" (.acons (.var 0) (.acons (.var 1) (.acons (.int 13) .anil)))))
  b_l_question_s)
noncomputable def b_l_question:PT :=
  (.seq (.set 2 (.lst (acs pairsL)))
  b_l_question_q)
theorem cb_l_question:defB n_l_question b_l_question N_l_question ps_l_question (top 28)=true:=by kernel_rfl
noncomputable def N_l_row:List Str:=["_law_script","_law_k","_law_question_here","_law_row_here","_law_j","_law_part"]
noncomputable def ps_l_row:List Str:=["_law_script","_law_k","_law_question_here"]
noncomputable def n_l_row:Need:=⟨["_law_draw"],[],["enumerate","str","len"],[]⟩
noncomputable def b_l_row_1:PT :=
  (.seq (.set 3 (.bin .Add (.bin .Add (.var 3) (.bi .str (.acons (.var 5) .anil))) (.bin .Mult (.str " ") (.bin .Add (.int 1) (.call "_law_draw" (.acons (.var 0) (.acons (.bin .Add (.bin .Add (.var 1) (.int 1)) (.var 4)) (.acons (.int 3) .anil))))))))
  .nil)
noncomputable def b_l_row_e:PT :=
  (.seq (.ret (.slc (.var 3) .nop (.bin .Sub (.bi .len (.acons (.var 3) .anil)) (.call "_law_draw" (.acons (.var 0) (.acons (.bin .Add (.var 1) (.int 5)) (.acons (.int 2) .anil)))))))
  .nil)
noncomputable def b_l_row:PT :=
  (.seq (.set 3 (.bin .Mult (.str " ") (.call "_law_draw" (.acons (.var 0) (.acons (.var 1) (.acons (.int 3) .anil))))))
  (.seq (.for_ (.tp [4,5]) .enum (.acons (.var 2) .anil) b_l_row_1)
  b_l_row_e))
theorem cb_l_row:defB n_l_row b_l_row N_l_row ps_l_row (top 29)=true:=by kernel_rfl
noncomputable def N_law:List Str:=["_law_script","_law_due","_law_rows","_law_k","_law_question_here","_law_text","_law_found"]
noncomputable def ps_law:List Str:=["_law_script"]
noncomputable def n_law:Need:=⟨["_law_question","_law_draw","_law_row","read_questions"],[],["range","min","len","all","isinstance","tuple","list"],[]⟩
noncomputable def b_law_1c:PT :=
  (.seq (.expr (.mt .append (.var 2) (.acons (.call "_law_row" (.acons (.var 0) (.acons (.bin .Add (.bin .Mult (.int 30) (.var 3)) (.int 23)) (.acons (.var 4) .anil)))) .anil)))
  .nil)
noncomputable def b_law_1b:PT :=
  (.seq (.own 2 (.bin .Add (.var 2) (.bin .Mult (.lst (.acons (.bin .Mult (.str " ") (.call "_law_draw" (.acons (.var 0) (.acons (.bin .Add (.bin .Mult (.int 30) (.var 3)) (.int 21)) (.acons (.int 4) .anil))))) .anil)) (.call "_law_draw" (.acons (.var 0) (.acons (.bin .Add (.bin .Mult (.int 30) (.var 3)) (.int 22)) (.acons (.int 3) .anil)))))))
  b_law_1c)
noncomputable def b_law_1a:PT :=
  (.seq (.expr (.mt .append (.var 1) (.acons (.var 4) .anil)))
  b_law_1b)
noncomputable def b_law_1:PT :=
  (.seq (.set 4 (.call "_law_question" (.acons (.var 0) (.acons (.bin .Mult (.int 30) (.var 3)) .anil))))
  b_law_1a)
noncomputable def b_law_w:PT :=
  (.seq (.expr (.mt .append (.var 6) (.acons (.tup (.acons (.str "who") (.acons (.str "x") .anil))) .anil)))
  (.seq (.ret (.cmp .Eq (.call "read_questions" (.acons (.var 5) .anil)) (.var 1)))
  .nil))
noncomputable def b_law_v:PT :=
  (.seq (.ife (.or (.not (.isi (.var 6) (.bty "list" "list"))) (.or (.not (.bi .all (.acons (.comp [] ["_law_one"] (.nm 0) .val (.acons (.var 6) .anil) .nop (.isi (.var 0) (.bty "tuple" "tuple"))) .anil))) (.cmp .NotEq (.var 6) (.var 1)))) (.seq (.ret (.bl false))
  .nil) .nil)
  b_law_w)
noncomputable def b_law_u:PT :=
  (.seq (.own 6 (.call "read_questions" (.acons (.var 5) .anil)))
  b_law_v)
noncomputable def b_law_t:PT :=
  (.seq (.set 5 (.mt .join (.str "\n") (.acons (.var 2) .anil)))
  b_law_u)
noncomputable def b_law_r:PT :=
  (.seq (.own 2 (.bin .Add (.var 2) (.bin .Mult (.lst (.acons (.str "") .anil)) (.call "_law_draw" (.acons (.var 0) (.acons (.int 2000) (.acons (.int 3) .anil)))))))
  b_law_t)
noncomputable def b_law:PT :=
  (.seq (.own 1 (.lst .anil))
  (.seq (.own 2 (.lst .anil))
  (.seq (.for_ (.nm 3) .rng1 (.acons (.bi .min (.acons (.bi .len (.acons (.var 0) .anil)) (.acons (.int 60) .anil))) .anil) b_law_1)
  b_law_r)))
theorem cb_law:defB n_law b_law N_law ps_law (top 30)=true:=by kernel_rfl
end L2.L3.K60
namespace L2.L3.K60
open PySem PySem.Spec PyProof.Rows L2 L2.L3 L2.L3.Lib
noncomputable def txt:D->Str
 | .str z=>z
 | .int n=>numT n
 | _=>⟨#[]⟩
noncomputable def TxtOk (w:Str):Prop:=w.cps.toList≠[]/\w.length<=9/\∀ c ∈ w.cps.toList,33<=c/\c<=126
theorem TxtOk.free {w:Str} (h:TxtOk w):32 ∉ w.cps.toList:=fun z=>by
 have:=h.2.2 32 z
 omega
theorem letters_codes:letters.cps.toList=(List.range 26).map (·+97):=by decide +kernel
theorem word_ok {w:Str} (h:isWord w=true):TxtOk w:=by
 unfold isWord at h
 rw [Bool.and_eq_true,Bool.and_eq_true,decide_eq_true_eq,decide_eq_true_eq] at h
 obtain ⟨h1,h2,h3⟩:=h
 refine ⟨fun z=>?_,by omega,fun c hc=>?_⟩
 ·have:w.cps.toList.length=w.length:=Array.length_toList
  rw [z] at this
  simp at this
  omega
 ·have:=List.all_eq_true.mp h3 c hc
  rw [decide_eq_true_eq,letters_codes] at this
  obtain ⟨i,hi,rfl⟩:=List.mem_map.mp this
  have:=List.mem_range.mp hi
  omega
theorem name_word {w:Str} (h:isName w=true):isWord w=true:=by
 unfold isName at h
 rw [Bool.and_eq_true] at h
 exact h.1
theorem num_ok {n:Int} (h0:0<=n) (h1:n<=999999999):TxtOk (numT n):=by
 obtain ⟨l1,l2⟩:=numT_len h0 h1
 refine ⟨fun z=>?_,l2,fun c hc=>?_⟩
 ·have:(numT n).cps.toList.length=(numT n).length:=Array.length_toList
  rw [z] at this
  simp at this
  omega
 ·obtain ⟨m,rfl⟩:=Int.eq_ofNat_of_zero_le h0
  have:=numT_digits m c hc
  omega
noncomputable def Fits (p:Str) (d:D):Prop:=((p="person"∨p="matter")/\∃ w,d=.str w/\isName w=true)∨((p="time"∨p="number")/\∃ n:Int,d=.int n/\0<=n/\n<=999999999)
inductive FitsL:List Str->List D->Prop where
 | nil:FitsL [] []
 | cons {p:Str} {d:D} {ps:List Str} {ds:List D}:Fits p d->FitsL ps ds->FitsL (p::ps) (d::ds)
noncomputable def named:List Str:=["name","person","matter"]
noncomputable def rangesL:List (Str × D):=[("rank",.tuple [.int 0,.int 99]),("floor",.tuple [.int 0,.int 99]),("needs",.tuple [.int 1,.int 4]),("time",.tuple [.int 0,.int 999999999]),("number",.tuple [.int 0,.int 999999999])]
noncomputable def formsF:List (Str × List Str):=[("at",["time"]),("who",["matter"]),("what",["person"]),("since",["person","matter"]),("tellers",["person","matter"]),("wordings",["person","matter"]),("apart",["person","matter"]),("leans",["person","matter"]),("hidden",["person","matter"]),("cut",["person","matter"]),("ground",["matter"]),("strike",["person"]),("quote",["number"])]
noncomputable def formsL:List (Str × D):=[("at",.tuple [.str "time"]),("who",.tuple [.str "matter"]),("what",.tuple [.str "person"]),("since",.tuple [.str "person",.str "matter"]),("tellers",.tuple [.str "person",.str "matter"]),("wordings",.tuple [.str "person",.str "matter"]),("apart",.tuple [.str "person",.str "matter"]),("leans",.tuple [.str "person",.str "matter"]),("hidden",.tuple [.str "person",.str "matter"]),("cut",.tuple [.str "person",.str "matter"]),("ground",.tuple [.str "matter"]),("strike",.tuple [.str "person"]),("quote",.tuple [.str "number"])]
theorem formsL_eq:formsL=formsF.map fun p=>(p.1,PyData.tuple (p.2.map PyData.str)):=rfl
theorem forms_look (h:Str):formsL.lookup h=(formsF.lookup h).map fun f=>PyData.tuple (f.map PyData.str):=by
 rw [formsL_eq]
 induction formsF with
 | nil=>rfl
 | cons p l ih =>
  rw [List.map_cons,List.lookup_cons,List.lookup_cons]
  cases h == p.1 with
  | true=>rfl
  | false=>exact ih
noncomputable def Good (h:Str) (vs:List D):Prop:=TxtOk h/\vs.length<=2/\∃ f,formsF.lookup h=some f/\FitsL f vs
theorem Fits.txts {p:Str} {d:D} (h:Fits p d):TxtOk (txt d)/\((∃ z,d=.str z)∨∃ n:Int,d=.int n/\0<=n/\n<=999999999):=by
 rcases h with ⟨_,w,rfl,hw⟩ | ⟨_,n,rfl,h0,h1⟩
 ·exact ⟨word_ok (name_word hw),.inl ⟨w,rfl⟩⟩
 ·exact ⟨num_ok h0 h1,.inr ⟨n,rfl,h0,h1⟩⟩
theorem FitsL.len {f:List Str} {vs:List D} (h:FitsL f vs):f.length=vs.length:=by
 induction h with
 | nil=>rfl
 | cons _ _ ih=>rw [List.length_cons,List.length_cons,ih]
theorem FitsL.all {f:List Str} {vs:List D} (h:FitsL f vs):∀ d ∈ vs,TxtOk (txt d)/\((∃ z,d=.str z)∨∃ n:Int,d=.int n/\0<=n/\n<=999999999):=by
 induction h with
 | nil=>intro d hd; cases hd
 | cons a _ ih =>
  intro d hd
  rcases List.mem_cons.mp hd with rfl | hd
  ·exact a.txts
  ·exact ih d hd
noncomputable def sp_value_of:PSp where
 md:=[]
 run:=fun ds Q _=>∃ (p:Str) (d:D),ds=[.d (.str p),.d (.str (txt d))]/\Fits p d/\Q (.d d) []
 mono:=fun h _ ⟨p,w,e,l,q⟩=>⟨p,w,e,l,h _ _ q⟩
theorem named_flat:(named.map PyData.str).all flatD=true:=by rfl
theorem in_named (p:Str):((named.map PyData.str).any fun y=>PyData.eqv y (.str p))=decide (p ∈ named):=by
 rw [List.any_map]
 have:∀ l:List Str,(l.any ((fun y=>PyData.eqv y (.str p)) ∘ PyData.str))=decide (p ∈ l):=by
  intro l
  induction l with
  | nil=>rfl
  | cons x l ih =>
   rw [List.any_cons,ih]
   show (decide (x=p) || decide (p ∈ l))=_
   by_cases e:x=p
   ·subst e; simp
   ·have e':¬ p=x:=fun z=>e z.symm
    simp [e,e']
 exact this named
theorem value_a {Ψ:PEv} (h1:Ψ.sp "is_name"=sp_is_name) {Z:PEnds} (s0:Option Sl) (w:Str) (hw:isName w=true) (hl:w.length<=sizeLine) (q:∀ ρ,Z.rt (.d (.str w)) ρ):pws Ψ (fun _=>False) b_value_of_a Z [s0,some (.bor (.d (.str w)))]:=by
 simp_arith [b_value_of_a,h1,sp_is_name]
 refine ⟨hl,?_⟩
 rw [hw]
 exact q _
theorem value_z {Ψ:PEv} (h3:Ψ.sp "number_within"=sp_number_within) (v1:Ψ.dc "RANGES"=some rangesL) {Z:PEnds} (p:Str) {n:Int} (e3:rangesL.lookup p=some (.tuple [.int 0,.int 999999999])) (h0:0<=n) (h9:n<=999999999) (hl:(numT n).length<=sizeLine) (q:∀ ρ,Z.rt (.d (.int n)) ρ):pws Ψ (fun _=>False) b_value_of_z Z [some (.bor (.d (.str p))),some (.bor (.d (.str (numT n))))]:=by
 have hw:numWithin 0 999999999 (numT n)=.int n:=by
  unfold numWithin
  rw [numIn_text h0 h9]
  simp only [decide_eq_true h0,decide_eq_true h9,Bool.and_self,if_true]
 simp_arith [b_value_of_z,h3,v1,sp_number_within,e3]
 refine ⟨hl,?_⟩
 rw [hw]
 exact q _
theorem ok_value_of {Ψ:PEv} (h1:Ψ.sp "is_name"=sp_is_name) (h3:Ψ.sp "number_within"=sp_number_within) (v0:Ψ.va "NAMED"=some (.tuple (named.map PyData.str))) (v1:Ψ.dc "RANGES"=some rangesL) (ds Q E) (h:sp_value_of.run ds Q E):ds.length=ps_value_of.length/\pws Ψ (fun _=>False) b_value_of (endsP sp_value_of ps_value_of.length Q) (startP N_value_of sp_value_of.md ds):=by
 obtain ⟨p,d,rfl,hf,q⟩:=h
 refine ⟨rfl,?_⟩
 have hz:sizeLine=16777216:=sizeLine_eq
 have hl:(txt d).length<=sizeLine:=by have:=hf.txts.1.2.1; omega
 rcases hf with ⟨hp,w,rfl,hw⟩ | ⟨hp,n,rfl,h0,h9⟩
 ·have hn:decide (p ∈ named)=true:=by rcases hp with rfl | rfl<;>decide
  have go:=value_a h1 (Z:=endsP sp_value_of ps_value_of.length Q) (some (.bor (.d (.str p)))) w hw hl fun _=>q
  simp_arith [b_value_of,ps_value_of,N_value_of,sp_value_of,v0,named_flat,in_named,hn,txt]
  exact ⟨.inl rfl,go⟩
 ·have hn:decide (p ∈ named)=false:=by rcases hp with rfl | rfl<;>decide
  have e1:decide (p=Str.ofString "word")=false:=by rcases hp with rfl | rfl<;>decide +kernel
  have e2:decide (p=Str.ofString "by")=false:=by rcases hp with rfl | rfl<;>decide +kernel
  have e3:rangesL.lookup p=some (.tuple [.int 0,.int 999999999]):=by rcases hp with rfl | rfl<;>kernel_rfl
  have go:=value_z h3 v1 (Z:=endsP sp_value_of ps_value_of.length Q) p e3 h0 h9 hl fun _=>q
  simp_arith [b_value_of,ps_value_of,N_value_of,sp_value_of,v0,named_flat,in_named,hn,txt,e1,e2]
  exact ⟨.inl rfl,go⟩
end L2.L3.K60
namespace L2.L3.K60
open PySem PySem.Spec PyProof.Rows L2 L2.L3 L2.L3.Lib
noncomputable def sp_values_by:PSp where
 md:=[]
 run:=fun ds Q _=>∃ (h:Str) (f:List Str) (vs:List D),ds=[.d (.tuple (f.map PyData.str)),.d (.list ((PyData.str h::vs.map fun d=>PyData.str (txt d))))]/\TxtOk h/\vs.length<=2/\FitsL f vs/\Q (.lst (List.map T.d (PyData.str h::vs))) []
 mono:=fun h _ ⟨a,b,c,e,h1,h2,h3,q⟩=>⟨a,b,c,e,h1,h2,h3,h _ _ q⟩
theorem FitsL.comp {f:List Str} {vs:List D} (h:FitsL f vs):∀ p ∈ f.zip vs,Fits p.1 p.2:=by
 induction h with
 | nil=>intro p hp; cases hp
 | cons a _ ih =>
  intro p hp
  rcases List.mem_cons.mp hp with rfl | hp
  ·exact a
  ·exact ih p hp
theorem FitsL.flat {f:List Str} {vs:List D} (h:FitsL f vs):vs.all flatD=true/\(vs.any fun y=>PyData.eqv y .none)=false:=by
 induction h with
 | nil=>exact ⟨rfl,rfl⟩
 | cons a _ ih =>
  rw [List.all_cons,List.any_cons,ih.1,ih.2]
  rcases a.txts.2 with ⟨z,rfl⟩ | ⟨n,rfl,_⟩<;>exact ⟨rfl,rfl⟩
theorem ok_values_by {Ψ:PEv} (h1:Ψ.sp "value_of"=sp_value_of) (ds Q E) (h:sp_values_by.run ds Q E):ds.length=ps_values_by.length/\pws Ψ (fun _=>False) b_values_by (endsP sp_values_by ps_values_by.length Q) (startP N_values_by sp_values_by.md ds):=by
 obtain ⟨h,f,vs,rfl,hh,hv,fl,q⟩:=h
 refine ⟨rfl,?_⟩
 have hz:sizeLine=16777216:=sizeLine_eq
 have l1:=fl.len
 have a0:atI (List.map T.d (PyData.str h::vs.map fun d=>PyData.str (txt d))) 0=some (T.d (.str h)):=atI_nat (j:=0) rfl
 have ln:(List.map T.d (PyData.str h::vs.map fun d=>PyData.str (txt d))).length=vs.length+1:=by simp
 have lf:(List.map T.d (List.map PyData.str f)).length=vs.length:=by simp [l1]
 have ct:cutD (PyData.str h::vs.map fun d=>PyData.str (txt d)) (some 1) none=vs.map fun d=>PyData.str (txt d):=by
  unfold cutD
  simp [HT.sIx]
  exact List.take_of_length_le (by simp)
 have c:(!decide (((vs.length+1:Nat):Int)=1+(vs.length:Int)))=false:=by
  rw [decide_eq_true (by omega)]; rfl
 have ez:List.map (fun p=>T.d (PyData.tuple [p.fst,p.snd])) ((List.map PyData.str f).zip (vs.map fun d=>PyData.str (txt d)))=(f.zip vs).map fun p:Str × D=>T.d (PyData.tuple [.str p.1,.str (txt p.2)]):=by
  rw [List.zip_map,List.map_map]
  rfl
 simp_all_arith [b_values_by,ps_values_by,N_values_by,sp_values_by,h1,sp_value_of,isNonD,a0,ln,lf,ct,c,ez]
 refine ⟨by omega,compV_map (fun p:Str × D=>T.d (PyData.tuple [.str p.1,.str (txt p.2)])) (fun p=>T.d p.2) _ _ _ (fun p hp R hR=>?_) ?_ ?_⟩
 ·simp_all_arith [compBody,List.map_cons,List.map_nil]
  exact ⟨p.2,rfl,fl.comp p hp,hR⟩
 ·simp
  omega
 ·have eg:ersT ([]++List.map (fun p:Str × D=>T.d p.2) (f.zip vs))=vs:=by
   rw [List.nil_append,ersT_mapf]
   exact List.map_snd_zip (by omega)
  rw [eg]
  obtain ⟨f1,f2⟩:=fl.flat
  refine ⟨by omega,.inl ?_,?_⟩
  ·rw [List.all_cons,f1]
   exact ⟨rfl,rfl⟩
  ·rw [List.any_cons,f2]
   exact q
noncomputable def sp_question_of:PSp where
 md:=[]
 run:=fun ds Q _=>∃ (h:Str) (vs:List D) (pl:Int),ds=[.d (.list ((PyData.str h::vs.map fun d=>PyData.str (txt d)))),.d (.int pl)]/\Good h vs/\Q (.d (.tuple (.str h::vs))) []
 mono:=fun h _ ⟨a,b,c,e,h1,q⟩=>⟨a,b,c,e,h1,h _ _ q⟩
theorem ok_question_of {Ψ:PEv} (h1:Ψ.sp "values_by"=sp_values_by) (v1:Ψ.dc "FORMS"=some formsL) (ds Q E) (h:sp_question_of.run ds Q E):ds.length=ps_question_of.length/\pws Ψ (fun _=>False) b_question_of (endsP sp_question_of ps_question_of.length Q) (startP N_question_of sp_question_of.md ds):=by
 obtain ⟨h,vs,pl,rfl,⟨hh,hv,f,hf,fl⟩,q⟩:=h
 refine ⟨rfl,?_⟩
 have a0:atI (List.map T.d (PyData.str h::vs.map fun d=>PyData.str (txt d))) 0=some (T.d (.str h)):=atI_nat (j:=0) rfl
 have lk:(formsL.lookup h).getD .none=.tuple (f.map PyData.str):=by rw [forms_look,hf]; rfl
 simp_all_arith [b_question_of,ps_question_of,N_question_of,sp_question_of,h1,v1,sp_values_by,isNonD,a0,lk]
 exact ⟨h,f,rfl,rfl,vs,rfl,hh,hv,fl,q⟩
noncomputable def RowsQ:List Str->List (Str × List D)->Prop
 | [],qs=>qs=[]
 | r::rs,qs=>r.length<=300/\((Lib.wordsOf r=[]/\RowsQ rs qs)∨∃ h vs qs',qs=(h,vs)::qs'/\Good h vs/\Lib.wordsOf r=h::vs.map txt/\RowsQ rs qs')
noncomputable def qD (q:Str × List D):D:=.tuple (.str q.1::q.2)
noncomputable def plT (p:Int × (Str × List D)):T:=.d (.tuple [.int p.1,qD p.2])
noncomputable def sp_placed_questions:PSp where
 md:=[]
 run:=fun ds Q _=>∃ (t:Str) (qs:List (Str × List D)),ds=[.d (.str t)]/\t.length<=1000000/\RowsQ (Txt.split t (Str.ofString "\n")) qs/\∀ pl:List (Int × (Str × List D)),pl.map Prod.snd=qs->pl.length<=1000002->Q (.lst (pl.map plT)) []
 mono:=fun h _ ⟨a,b,e,h1,h2,q⟩=>⟨a,b,e,h1,h2,fun p hp hl=>h _ _ (q p hp hl)⟩
noncomputable def PW (t:Str) (qs:List (Str × List D)) (xs:List (D × Nat)) (ρ:PSt):Prop:=∃ (pl:List (Int × (Str × List D))) (rs:List Str) (qs':List (Str × List D)) (o2 o3 o4:Option Sl),xs.map Prod.fst=rs.map PyData.str/\pl.length+rs.length<=1000002/\RowsQ rs qs'/\pl.map Prod.snd++qs'=qs /\
 ρ=[some (.bor (.d (.str t))),some (.own (.lst (pl.map plT))),o2,o3,o4]
theorem nl_len:(Str.ofString "\n").length=1:=by decide +kernel
theorem ok_placed_questions {Ψ:PEv} (h1:Ψ.sp "words_in"=sp_words_in) (h2:Ψ.sp "question_of"=sp_question_of) (ds Q E) (h:sp_placed_questions.run ds Q E):ds.length=ps_placed_questions.length/\pws Ψ (fun _=>False) b_placed_questions (endsP sp_placed_questions ps_placed_questions.length Q) (startP N_placed_questions sp_placed_questions.md ds):=by
 obtain ⟨t,qs,rfl,hl,hr,q⟩:=h
 refine ⟨rfl,?_⟩
 have hz:sizeLine=16777216:=sizeLine_eq
 have sl:=split_le t (Str.ofString "\n")
 simp_all_arith [b_placed_questions,ps_placed_questions,N_placed_questions,sp_placed_questions,nl_len]
 refine ⟨by omega,by omega,by decide,by omega,for_inv (fun (p:D × Nat)=>T.d (.tuple [.int ((Int.toNat 1+p.2:Nat):Int),p.1])) (PW t qs) ?_ ?_ _ _ ?_⟩
 ·rintro ρ ⟨pl,rs,qs',o2,o3,o4,ex,hn,hr,e,rfl⟩
  cases rs with
  | cons _ _=>cases ex
  | nil =>
   have hr:qs'=[]:=hr
   subst hr
   rw [List.append_nil] at e
   simp_all_arith [pwq_nil]
   exact q pl e (by simpa using hn)
 ·rintro ⟨x,i⟩ xs ρ N hN ⟨pl,rs,qs',o2,o3,o4,ex,hn,hr,e,rfl⟩
  cases rs with
  | nil=>cases ex
  | cons r rs =>
   rw [List.map_cons,List.map_cons] at ex
   obtain ⟨ex1,ex2⟩:=List.cons.inj ex
   have ex1:x=.str r:=ex1
   subst ex1
   rw [List.length_cons] at hn
   obtain ⟨hl2,hr⟩:=hr
   simp_all_arith [b_placed_questions_1,h1,h2,sp_words_in,sp_question_of,ersT_mapf,List.map_cons,List.map_nil]
   refine ⟨by omega,?_⟩
   rcases hr with ⟨w0,hr⟩ | ⟨h,vs,qs2,rfl,g,w1,hr⟩
   ·rw [w0]
    exact hN _ ⟨pl,rs,qs',_,_,_,ex2,by omega,hr,e,rfl⟩
   ·rw [w1]
    refine ite2 (fun _=>?_) fun c=>absurd (by simp) c
    have em:setP (T.lst (List.map plT pl)) [] (T.lst (List.map plT pl++[mkTup [T.d (PyData.int ((Int.toNat 1+i:Nat):Int)),T.d (PyData.tuple (PyData.str h::vs))]]))=T.lst (List.map plT (pl++[((((Int.toNat 1+i:Nat)):Int),(h,vs))])):=by
     rw [List.map_append]
     rfl
    refine ⟨h,vs,by rw [List.map_cons,List.map_map]; rfl,g,by omega,by rw [List.length_map]; omega,?_⟩
    rw [em]
    refine hN _ ⟨pl++[((((Int.toNat 1+i:Nat)):Int),(h,vs))],rs,qs2,_,_,_,ex2,?_,hr,?_,rfl⟩
    ·rw [List.length_append,List.length_singleton]
     omega
    ·rw [List.map_append,<- e,List.append_assoc]
     rfl
 ·refine ⟨[],Txt.split t (Str.ofString "\n"),qs,none,none,none,?_,by simpa using by omega,hr,rfl,rfl⟩
  simp
noncomputable def sp_read_questions:PSp where
 md:=[]
 run:=fun ds Q _=>∃ (t:Str) (qs:List (Str × List D)),ds=[.d (.str t)]/\t.length<=1000000/\RowsQ (Txt.split t (Str.ofString "\n")) qs/\Q (.lst (qs.map fun q=>T.d (qD q))) []
 mono:=fun h _ ⟨a,b,e,h1,h2,q⟩=>⟨a,b,e,h1,h2,h _ _ q⟩
theorem ok_read_questions {Ψ:PEv} (h1:Ψ.sp "placed_questions"=sp_placed_questions) (ds Q E) (h:sp_read_questions.run ds Q E):ds.length=ps_read_questions.length/\pws Ψ (fun _=>False) b_read_questions (endsP sp_read_questions ps_read_questions.length Q) (startP N_read_questions sp_read_questions.md ds):=by
 obtain ⟨t,qs,rfl,hl,hr,q⟩:=h
 refine ⟨rfl,?_⟩
 have hz:sizeLine=16777216:=sizeLine_eq
 simp_all_arith [b_read_questions,ps_read_questions,N_read_questions,sp_read_questions,h1,sp_placed_questions]
 refine ⟨hl,qs,hr,fun pl hp hn=>?_⟩
 have e:List.map T.d (ersT (List.map plT pl))=pl.map plT:=by
  have:=ersT_mapf (fun p:Int × (Str × List D)=>PyData.tuple [.int p.1,qD p.2]) pl
  rw [show List.map plT pl=pl.map (fun p=>T.d (PyData.tuple [.int p.1,qD p.2])) from rfl,this,List.map_map]
  rfl
 rw [e]
 refine compV_map plT (fun p=>T.d (qD p.2)) pl [] _ (fun p _ R hR=>?_) ?_ ?_
 ·simp_all_arith [compBody,plT,List.map_cons,List.map_nil]
  exact hR
 ·simp
  omega
 ·rw [List.nil_append,show (List.map (fun p:Int × (Str × List D)=>T.d (qD p.2)) pl)=(pl.map Prod.snd).map fun q=>T.d (qD q) by rw [List.map_map]; rfl,hp]
  exact q
end L2.L3.K60
namespace L2.L3.K60
open PySem PySem.Spec PyProof.Rows L2 L2.L3 L2.L3.Lib
noncomputable def sp_draw:PSp where
 md:=[.shal]
 run:=fun ds Q _=>∃ (ns:List Int) (k m:Int),ds=[.lst ((ns.map PyData.int).map T.d),.d (.int k),.d (.int m)]/\0<=k/\k<=100000/\0 < m/\m<=2147483647/\∀ v,0<=v->v < m->Q (.d (.int v)) []
 mono:=fun h _ ⟨a,b,c,e,h1,h2,h3,h4,q⟩=>⟨a,b,c,e,h1,h2,h3,h4,fun v x y=>h _ _ (q v x y)⟩
theorem draw_r1 {Ψ:PEv} {Z:PEnds} (s:T) (k m c:Int) (hk:0<=k) (hk2:k<=100000) (h0:0 < m) (hm:m<=2147483647) (q:∀ v ρ,0<=v->v < m->Z.rt (.d (.int v)) ρ) (o4:Option Sl) :
  pws Ψ (fun _=>False) b_l_draw_r1 Z [some (.bor s),some (.bor (.d (.int k))),some (.bor (.d (.int m))),some (.bor (.d (.int c))),o4]:=by
 have c1:=Int.emod_nonneg c (show (2147483647:Int)≠0 by decide)
 have c2:=Int.emod_lt_of_pos c (show (0:Int) < 2147483647 by decide)
 simp_arith [b_l_draw_r1]
 refine ⟨CMul.ok (.inr ⟨by omega,by omega⟩),CMul.ok (.inr ⟨by omega,by omega⟩),CMul.ok (.inr ⟨by omega,by omega⟩),CMul.ok (.inl ⟨by omega,by omega⟩),h0,q _ _ (Int.emod_nonneg _ (by omega)) (Int.emod_lt_of_pos _ h0)⟩
theorem ok_draw {Ψ:PEv} (ds Q E) (h:sp_draw.run ds Q E):ds.length=ps_l_draw.length/\pws Ψ (fun _=>False) b_l_draw (endsP sp_draw ps_l_draw.length Q) (startP N_l_draw sp_draw.md ds):=by
 obtain ⟨ns,k,m,rfl,hk,hk2,h0,hm,q⟩:=h
 refine ⟨rfl,?_⟩
 simp_arith [b_l_draw,ps_l_draw,N_l_draw,sp_draw]
 have hl:(List.map T.d (List.map PyData.int ns)).length=ns.length:=by simp
 rw [hl]
 refine ite2 (fun c=>?_) fun c=>draw_r1 _ k m 0 hk hk2 h0 hm (fun v _ a b=>q v a b) _
 have c:(0:Int) < ns.length:=of_decide_eq_true c
 have e1:=Int.emod_nonneg k (show (ns.length:Int)≠0 by omega)
 have e2:=Int.emod_lt_of_pos k c
 obtain ⟨v,g1,_⟩:=atI_pos (xs:=ns) e1 e2
 exact ⟨c,T.d (.int v),by rw [atI_map,atI_map,g1]; rfl,rfl,draw_r1 _ k m v hk hk2 h0 hm (fun v _ a b=>q v a b) _⟩
theorem slice_to {x:Str} {j:Int} (h0:0<=j) (h1:j<=x.length):(Txt.slice x none (some j)).cps.toList=x.cps.toList.take j.toNat:=by
 have e:Txt.slice x none (some j)=PySem.StrLaws.sliceText x none (some j):=rfl
 have hl:x.cps.toList.length=x.length:=Array.length_toList
 rw [e,PySem.StrLaws.sliceText_to ⟨h0,by rw [hl]; exact h1⟩]
 simp
theorem slice_from {x:Str} {j:Int} (h0:0<=j) (h1:j<=x.length):(Txt.slice x (some j) none).cps.toList=x.cps.toList.drop j.toNat:=by
 have e:Txt.slice x (some j) none=PySem.StrLaws.sliceText x (some j) none:=rfl
 have hl:x.cps.toList.length=x.length:=Array.length_toList
 rw [e,PySem.StrLaws.sliceText_from ⟨h0,by rw [hl]; exact h1⟩]
 simp
 exact List.take_of_length_le (by simp; omega)
theorem range_drop {n j x:Nat} {xs:List Nat} (h:(List.range n).drop j=x::xs):x=j/\j < n/\xs=(List.range n).drop (j+1):=by
 have hl:((List.range n).drop j).length=xs.length+1:=by rw [h]; rfl
 rw [List.length_drop,List.length_range] at hl
 have hj:j < n:=by omega
 have e:=List.drop_eq_getElem_cons (l:=List.range n) (i:=j) (by simpa using hj)
 rw [e] at h
 obtain ⟨h1,h2⟩:=List.cons.inj h
 rw [List.getElem_range] at h1
 exact ⟨h1.symm,hj,h2.symm⟩
theorem keys_noz:∀ k ∈ keys,122 ∉ k.cps.toList:=by decide +kernel
theorem any_keys (w:Str):((keys.map PyData.str).any fun y=>PyData.eqv y (.str w))=true->w ∈ keys:=by
 intro h
 rw [List.any_map,List.any_eq_true] at h
 obtain ⟨k,hk,e⟩:=h
 have e:decide (k=w)=true:=e
 rw [decide_eq_true_eq] at e
 exact e▸hk
noncomputable def Zed (w:Str):Prop:=(∀ c ∈ w.cps.toList,97<=c/\c<=122)/\122 ∈ w.cps.toList
theorem zed_name {w:Str} (h1:1<=w.length) (h2:w.length<=8) (h:Zed w):isName w=true:=by
 unfold isName isWord
 rw [decide_eq_true h1,decide_eq_true h2]
 have e:madeOf w letters=true:=by
  unfold madeOf
  rw [List.all_eq_true]
  intro c hc
  have:=h.1 c hc
  rw [decide_eq_true_eq,letters_codes]
  exact List.mem_map.mpr ⟨c - 97,List.mem_range.mpr (by omega),by omega⟩
 rw [e]
 cases e:(keys.map PyData.str).any fun y=>PyData.eqv y (.str w) with
 | false=>rfl
 | true=>exact absurd h.2 (keys_noz w (any_keys w e))
noncomputable def sp_name:PSp where
 md:=[.shal]
 run:=fun ds Q _=>∃ (ns:List Int) (k:Int),ds=[.lst ((ns.map PyData.int).map T.d),.d (.int k)]/\0<=k/\k<=50000/\∀ w,isName w=true->Q (.d (.str w)) []
 mono:=fun h _ ⟨a,b,e,h1,h2,q⟩=>⟨a,b,e,h1,h2,fun w x=>h _ _ (q w x)⟩
theorem alpha_at {v:Int} (h0:0<=v) (h1:v < 26):∃ c,atI (Str.ofString "abcdefghijklmnopqrstuvwxyz").cps.toList v=some c/\97<=c/\c<=122:=by
 have e:(Str.ofString "abcdefghijklmnopqrstuvwxyz").cps.toList=(List.range 26).map (·+97):=letters_codes
 rw [e]
 obtain ⟨c,e1,e2⟩:=atI_pos (xs:=(List.range 26).map (·+97)) (i:=v) h0 (by rw [List.length_map,List.length_range]; omega)
 obtain ⟨j,hj,rfl⟩:=List.mem_map.mp (List.mem_of_getElem? e2)
 have:=List.mem_range.mp hj
 exact ⟨_,e1,by omega,by omega⟩
theorem app_codes (a b:Str):(a++b).cps.toList=a.cps.toList++b.cps.toList:=Array.toList_append
noncomputable def NW (ns:List Int) (k:Int) (n:Nat) (l:List Nat) (ρ:PSt):Prop:=∃ (j:Nat) (w:Str) (o4:Option Sl),l=(List.range n).drop j/\j<=n/\w.length=j+1/\Zed w /\
 ρ=[some (.bor (.lst ((ns.map PyData.int).map T.d))),some (.bor (.d (.int k))),some (.bor (.d (.str "abcdefghijklmnopqrstuvwxyz"))),some (.bor (.d (.str w))),o4]
theorem ok_name {Ψ:PEv} (h1:Ψ.sp "_law_draw"=sp_draw) (ds Q E) (h:sp_name.run ds Q E):ds.length=ps_l_name.length/\pws Ψ (fun _=>False) b_l_name (endsP sp_name ps_l_name.length Q) (startP N_l_name sp_name.md ds):=by
 obtain ⟨ns,k,rfl,hk,hk2,q⟩:=h
 refine ⟨rfl,?_⟩
 have hz:sizeLine=16777216:=sizeLine_eq
 simp_arith [b_l_name,ps_l_name,N_l_name,sp_name,h1,sp_draw]
 refine ⟨ns,rfl,hk,by omega,fun v v0 v8=>⟨by omega,by omega,for_inv (fun (i:Nat)=>T.d (PyData.int (i:Int))) (NW ns k v.toNat) ?_ ?_ _ _ ?_⟩⟩
 ·rintro ρ ⟨j,w,o4,e,hj,hl,hw,rfl⟩
  have hj2:v.toNat<=j:=by
   have:=congrArg List.length e
   rw [List.length_nil,List.length_drop,List.length_range] at this
   omega
  simp_arith [pwq_nil]
  exact q w (zed_name (by omega) (by omega) hw)
 ·rintro x xs ρ N hN ⟨j,w,o4,e,hj,hl,hw,rfl⟩
  obtain ⟨rfl,hj2,rfl⟩:=range_drop e.symm
  simp_arith [b_l_name_1,h1,sp_draw]
  have wl:w.cps.toList.length=w.length:=Array.length_toList
  have s1:=slice_to (x:=w) (j:=(x:Int) / 2) (by omega) (by omega)
  have s2:=slice_from (x:=w) (j:=(x:Int) / 2) (by omega) (by omega)
  have l1:(Txt.slice w none (some ((x:Int) / 2))).length=((x:Int) / 2).toNat:=by
   show (Txt.slice w none (some ((x:Int) / 2))).cps.size=_
   rw [<- Array.length_toList,s1,List.length_take]
   omega
  have l2:(Txt.slice w (some ((x:Int) / 2)) none).length=w.length - ((x:Int) / 2).toNat:=by
   show (Txt.slice w (some ((x:Int) / 2)) none).cps.size=_
   rw [<- Array.length_toList,s2,List.length_drop]
   omega
  refine ⟨by omega,ns,rfl,by omega,by omega,fun u u0 u1=>?_⟩
  obtain ⟨c,ec,c1,c2⟩:=alpha_at u0 u1
  have lc:({ cps:=#[c] }:Str).length=1:=rfl
  refine ⟨str_len_le _ (n:=26) (by decide +kernel) (by decide),c,ec,by omega,by omega,by rw [Str.length_append]; omega,hN _ ⟨x+1,_,_,rfl,by omega,?_,⟨?_,?_⟩,rfl⟩⟩
  ·rw [Str.length_append,Str.length_append]
   omega
  ·intro d hd
   rw [app_codes,app_codes,s1,s2] at hd
   rcases List.mem_append.mp hd with hd | hd
   ·rcases List.mem_append.mp hd with hd | hd
    ·exact hw.1 d (List.mem_of_mem_take hd)
    ·have e:d=c:=List.mem_singleton.mp hd
     subst e
     exact ⟨c1,c2⟩
   ·exact hw.1 d (List.mem_of_mem_drop hd)
  ·rw [app_codes,app_codes,s1,s2]
   have h2:=hw.2
   rw [<- List.take_append_drop ((x:Int) / 2).toNat w.cps.toList] at h2
   rcases List.mem_append.mp h2 with h2 | h2
   ·exact List.mem_append.mpr (.inl (List.mem_append.mpr (.inl h2)))
   ·exact List.mem_append.mpr (.inr h2)
 ·exact ⟨0,_,none,by simp,by omega,by decide +kernel,by unfold Zed; decide +kernel,rfl⟩
end L2.L3.K60
namespace L2.L3.K60
open PySem PySem.Spec PyProof.Rows L2 L2.L3 L2.L3.Lib
noncomputable def soloL:List Str:=["who","ground","what","strike"]
noncomputable def sp_question:PSp where
 md:=[.shal]
 run:=fun ds Q _=>∃ (ns:List Int) (k:Int),ds=[.lst ((ns.map PyData.int).map T.d),.d (.int k)]/\0<=k/\k<=10000/\∀ h vs,Good h vs->Q (.d (.tuple (.str h::vs))) []
 mono:=fun h _ ⟨a,b,e,h1,h2,q⟩=>⟨a,b,e,h1,h2,fun w v x=>h _ _ (q w v x)⟩
noncomputable def pmF:List Str:=["person","matter"]
theorem pairs_good:∀ h ∈ pairsL,isWord h=true/\formsF.lookup h=some pmF:=by decide +kernel
noncomputable def nums:List Str:=["at","quote"]
theorem nums_good:∀ h ∈ nums,isWord h=true/\(formsF.lookup h=some ([Str.ofString "time"]:List Str)∨formsF.lookup h=some ([Str.ofString "number"]:List Str)):=by decide +kernel
theorem solo_good:∀ h ∈ soloL,isWord h=true/\(formsF.lookup h=some ([Str.ofString "person"]:List Str)∨formsF.lookup h=some ([Str.ofString "matter"]:List Str)):=by decide +kernel
theorem good_pair {h w x:Str} (hh:h ∈ pairsL) (h1:isName w=true) (h2:isName x=true):Good h [.str w,.str x]:=by
 obtain ⟨a,b⟩:=pairs_good h hh
 exact ⟨word_ok a,Nat.le_refl _,_,b,.cons (.inl ⟨.inl rfl,w,rfl,h1⟩) (.cons (.inl ⟨.inr rfl,x,rfl,h2⟩) .nil)⟩
theorem good_num {h:Str} {n:Int} (hh:h ∈ nums) (h1:0<=n) (h2:n<=999999999):Good h [.int n]:=by
 obtain ⟨a,b⟩:=nums_good h hh
 rcases b with b | b
 ·exact ⟨word_ok a,by simp,_,b,.cons (.inr ⟨.inl rfl,n,rfl,h1,h2⟩) .nil⟩
 ·exact ⟨word_ok a,by simp,_,b,.cons (.inr ⟨.inr rfl,n,rfl,h1,h2⟩) .nil⟩
theorem good_solo {h w:Str} (hh:h ∈ soloL) (h1:isName w=true):Good h [.str w]:=by
 obtain ⟨a,b⟩:=solo_good h hh
 rcases b with b | b
 ·exact ⟨word_ok a,by simp,_,b,.cons (.inl ⟨.inl rfl,w,rfl,h1⟩) .nil⟩
 ·exact ⟨word_ok a,by simp,_,b,.cons (.inl ⟨.inr rfl,w,rfl,h1⟩) .nil⟩
theorem head_at (L:List Str) {v:Int} (h0:0<=v) (h1:v < L.length):∃ h,h ∈ L/\atI (L.map fun x=>T.d (PyData.str x)) v=some (T.d (PyData.str h)):=by
 obtain ⟨h,e1,e2⟩:=atI_pos (xs:=L) h0 h1
 exact ⟨h,List.mem_of_getElem? e2,by rw [atI_map,e1]; rfl⟩
theorem question_r1 {Ψ:PEv} {Z:PEnds} (q:∀ h vs ρ,Good h vs->Z.rt (.d (.tuple (.str h::vs))) ρ) (v:Int) (v0:7<=v) (v1:v < 9) (n:Int) (n0:0<=n) (n1:n<=999999999) (s1 s2 s3:Option Sl) :
  pws Ψ (fun _=>False) b_l_question_r1 Z [s1,s2,s3,some (.bor (.d (.int v))),some (.bor (.d (.int n)))]:=by
 have hz:sizeLine=16777216:=sizeLine_eq
 obtain ⟨h,hm,he⟩:=head_at nums (v:=v - 7) (by omega) (show v - 7 < 2 by omega)
 have he:atI [T.d (PyData.str (Str.ofString "at")),T.d (PyData.str (Str.ofString "quote"))] (v - 7)=some (T.d (PyData.str h)):=he
 simp_arith [b_l_question_r1,he]
 exact ⟨by omega,by omega,q h _ _ (good_num hm n0 n1)⟩
theorem question_a {Ψ:PEv} (h1:Ψ.sp "_law_draw"=sp_draw) (h2:Ψ.sp "_law_name"=sp_name) {Z:PEnds} (ns:List Int) (k:Int) (hk:0<=k) (hk2:k<=10000) (q:∀ h vs ρ,Good h vs->Z.rt (.d (.tuple (.str h::vs))) ρ) (v:Int) (v0:0<=v) (c7:v < 7) (o4:Option Sl):pws Ψ (fun _=>False) b_l_question_a Z [some (.bor (.lst ((ns.map PyData.int).map T.d))),some (.bor (.d (.int k))),some (.bor (.d (.list (pairsL.map PyData.str)))),some (.bor (.d (.int v))),o4]:=by
 have hz:sizeLine=16777216:=sizeLine_eq
 obtain ⟨h,hm,he⟩:=head_at pairsL v0 c7
 have he:atI (List.map T.d (List.map PyData.str pairsL)) v=some (T.d (PyData.str h)):=by rw [List.map_map]; exact he
 simp_arith [b_l_question_a,h2,sp_name,he]
 exact ⟨ns,rfl,by omega,by omega,fun w hw=>⟨ns,rfl,by omega,by omega,fun x hx=>⟨by omega,q h _ _ (good_pair hm hw hx)⟩⟩⟩
theorem question_z {Ψ:PEv} (h1:Ψ.sp "_law_draw"=sp_draw) (h2:Ψ.sp "_law_name"=sp_name) {Z:PEnds} (ns:List Int) (k:Int) (hk:0<=k) (hk2:k<=10000) (q:∀ h vs ρ,Good h vs->Z.rt (.d (.tuple (.str h::vs))) ρ) (v:Int) (v0:9<=v) (v1:v < 13) (o4:Option Sl):pws Ψ (fun _=>False) b_l_question_z Z [some (.bor (.lst ((ns.map PyData.int).map T.d))),some (.bor (.d (.int k))),some (.bor (.d (.list (pairsL.map PyData.str)))),some (.bor (.d (.int v))),o4]:=by
 have hz:sizeLine=16777216:=sizeLine_eq
 obtain ⟨h,hm,he⟩:=head_at soloL (v:=v - 9) (by omega) (show v - 9 < 4 by omega)
 have he:atI [T.d (PyData.str (Str.ofString "who")),T.d (PyData.str (Str.ofString "ground")),T.d (PyData.str (Str.ofString "what")),T.d (PyData.str (Str.ofString "strike"))] (v - 9)=some (T.d (PyData.str h)):=he
 simp_arith [b_l_question_z,h2,sp_name,he]
 exact ⟨by omega,ns,rfl,by omega,by omega,fun w hw=>⟨by omega,q h _ _ (good_solo hm hw)⟩⟩
theorem question_n {Ψ:PEv} (h1:Ψ.sp "_law_draw"=sp_draw) (h2:Ψ.sp "_law_name"=sp_name) {Z:PEnds} (ns:List Int) (k:Int) (hk:0<=k) (hk2:k<=10000) (q:∀ h vs ρ,Good h vs->Z.rt (.d (.tuple (.str h::vs))) ρ) (v:Int) (v0:7<=v) (v1:v < 9) (n:Int) (n0:0<=n) (n1:n < 12):pws Ψ (fun _=>False) b_l_question_n Z [some (.bor (.lst ((ns.map PyData.int).map T.d))),some (.bor (.d (.int k))),some (.bor (.d (.list (pairsL.map PyData.str)))),some (.bor (.d (.int v))),some (.bor (.d (.int n)))]:=by
 have p9:CPow 10 9:=⟨by decide,by decide,by decide⟩
 simp_arith [b_l_question_n,h1,sp_draw]
 refine ⟨ns,rfl,by omega,by omega,fun b _ _=>ite2 (fun _=>⟨ns,rfl,by omega,by omega,fun u u0 u1=>⟨CMul.ok (.inr ⟨by omega,by omega⟩),p9,by decide,?_⟩⟩) fun _=>question_r1 q v v0 v1 n n0 (by omega) _ _ _⟩
 have e:(10:Int) ^ Int.toNat 9=1000000000:=by decide
 rw [e]
 exact question_r1 q v v0 v1 _ (Int.emod_nonneg _ (by decide)) (by have:=Int.emod_lt_of_pos (u * 64) (show (0:Int) < 1000000000 by decide); omega) _ _ _
theorem question_m {Ψ:PEv} (h1:Ψ.sp "_law_draw"=sp_draw) (h2:Ψ.sp "_law_name"=sp_name) {Z:PEnds} (ns:List Int) (k:Int) (hk:0<=k) (hk2:k<=10000) (q:∀ h vs ρ,Good h vs->Z.rt (.d (.tuple (.str h::vs))) ρ) (v:Int) (v0:7<=v) (v1:v < 9) (o4:Option Sl):pws Ψ (fun _=>False) b_l_question_m Z [some (.bor (.lst ((ns.map PyData.int).map T.d))),some (.bor (.d (.int k))),some (.bor (.d (.list (pairsL.map PyData.str)))),some (.bor (.d (.int v))),o4]:=by
 simp_arith [b_l_question_m,h1,sp_draw]
 exact ⟨ns,rfl,by omega,by omega,fun n n0 n1=>question_n h1 h2 ns k hk hk2 q v v0 v1 n n0 n1⟩
theorem question_s {Ψ:PEv} (h1:Ψ.sp "_law_draw"=sp_draw) (h2:Ψ.sp "_law_name"=sp_name) {Z:PEnds} (ns:List Int) (k:Int) (hk:0<=k) (hk2:k<=10000) (q:∀ h vs ρ,Good h vs->Z.rt (.d (.tuple (.str h::vs))) ρ) (v:Int) (v0:0<=v) (v1:v < 13) (o4:Option Sl):pws Ψ (fun _=>False) b_l_question_s Z [some (.bor (.lst ((ns.map PyData.int).map T.d))),some (.bor (.d (.int k))),some (.bor (.d (.list (pairsL.map PyData.str)))),some (.bor (.d (.int v))),o4]:=by
 simp_arith [b_l_question_s]
 refine ite2 (fun c=>question_a h1 h2 ns k hk hk2 q v v0 (of_decide_eq_true c) _) fun c7=>ite2 (fun c=>?_) fun c=>?_
 ·have c7:¬ v < 7:=fun z=>c7 (decide_eq_true z)
  exact question_m h1 h2 ns k hk hk2 q v (by omega) (of_decide_eq_true c) _
 ·have c:¬ v < 9:=fun z=>c (decide_eq_true z)
  exact question_z h1 h2 ns k hk hk2 q v (by omega) v1 _
theorem acs_a {Ψ:PEv} {E:XE} {ρ:PSt}:∀ (l:List Str) {Q:List (T × Bool)->PSt->Prop},Q (l.map fun x=>(.d (.str x),false)) ρ->(pe Ψ (acs l) E).a [] ρ Q
 | [],_,q=>q
 | x::l,Q,q=>acs_a l (Q:=fun xs ρ2=>Q ((.d (.str x),false)::xs) ρ2) q
theorem acs_esc:∀ l:List Str,escB (l.map fun x=>(T.d (.str x),false))=true
 | []=>rfl
 | x::l=>acs_esc l
theorem acs_ts:∀ l:List Str,tsOf (l.map fun x=>(T.d (.str x),false))=l.map fun x=>T.d (.str x)
 | []=>rfl
 | x::l=>by rw [List.map_cons,List.map_cons,tsOf,acs_ts l]
theorem lst_acs {Ψ:PEv} {E:XE} {ρ:PSt} {l:List Str} {Q:TK} (hl:l.length<=sizeLine) (q:Q (.lst (l.map fun x=>T.d (.str x))) true ρ):(pe Ψ (.lst (acs l)) E).e ρ Q:=by
 refine acs_a l ⟨acs_esc l,by rw [List.length_map]; exact hl,?_⟩
 rw [acs_ts]
 exact q
theorem question_q {Ψ:PEv} (h1:Ψ.sp "_law_draw"=sp_draw) (h2:Ψ.sp "_law_name"=sp_name) {Z:PEnds} (ns:List Int) (k:Int) (hk:0<=k) (hk2:k<=10000) (q:∀ h vs ρ,Good h vs->Z.rt (.d (.tuple (.str h::vs))) ρ) (o3 o4:Option Sl) :
  pws Ψ (fun _=>False) b_l_question_q Z [some (.bor (.lst ((ns.map PyData.int).map T.d))),some (.bor (.d (.int k))),some (.bor (.d (.list (pairsL.map PyData.str)))),o3,o4]:=by
 simp_arith [b_l_question_q,h1,sp_draw]
 exact ⟨ns,rfl,hk,by omega,fun v v0 v1=>question_s h1 h2 ns k hk hk2 q v v0 v1 _⟩
theorem ok_question {Ψ:PEv} (h1:Ψ.sp "_law_draw"=sp_draw) (h2:Ψ.sp "_law_name"=sp_name) (ds Q E) (h:sp_question.run ds Q E):ds.length=ps_l_question.length/\pws Ψ (fun _=>False) b_l_question (endsP sp_question ps_l_question.length Q) (startP N_l_question sp_question.md ds):=by
 obtain ⟨ns,k,rfl,hk,hk2,q⟩:=h
 refine ⟨rfl,?_⟩
 refine lst_acs (l:=pairsL) (by decide) ⟨rfl,?_⟩
 exact question_q h1 h2 ns k hk hk2 (fun h vs ρ g=>q h vs g) _ _
end L2.L3.K60
namespace L2.L3.K60
open PySem PySem.Spec PyProof.Rows L2 L2.L3 L2.L3.Lib
theorem blank_len:(Str.ofString " ").length=1:=by decide +kernel
theorem blank_codes (k:Int):(repS (Str.ofString " ") k).cps.toList=List.replicate k.toNat 32:=by
 rw [repS_codes,show (Str.ofString " ").cps.toList=[32] by decide +kernel]
 generalize k.toNat=n
 induction n with
 | zero=>rfl
 | succ n ih=>rw [List.replicate_succ,List.flatten_cons,ih]; rfl
noncomputable def sp_row:PSp where
 md:=[.shal]
 run:=fun ds Q _=>∃ (ns:List Int) (k:Int) (h:Str) (vs:List D),ds=[.lst ((ns.map PyData.int).map T.d),.d (.int k),.d (.tuple (PyData.str h::vs))]/\0<=k/\k<=50000/\Good h vs/\∀ r:Str,Lib.wordsOf r=h::vs.map txt->r.length<=300->10 ∉ r.cps.toList->Q (.d (.str r)) []
 mono:=fun h _ ⟨a,b,c,d,e,h1,h2,h3,q⟩=>⟨a,b,c,d,e,h1,h2,h3,fun w x y z=>h _ _ (q w x y z)⟩
noncomputable def RW (ns:List Int) (k:Int) (qd:D) (ws:List D) (l:List (D × Nat)) (ρ:PSt):Prop:=∃ (done rest:List D) (row:Str) (o4 o5:Option Sl),ws=done++rest/\l=rest.zipIdx done.length/\row.length<=3+12 * done.length/\(∀ c ∈ row.cps.toList,c=32∨(33<=c/\c<=126)) /\
 (∀ r,wc (row.cps.toList++r) []=done.map (fun d=>(txt d).cps.toList)++wc r [])/\(done=[]∨∃ pre,row.cps.toList=pre++[32]) /\
 ρ=[some (.bor (.lst ((ns.map PyData.int).map T.d))),some (.bor (.d (.int k))),some (.bor (.d qd)),some (.bor (.d (.str row))),o4,o5]
theorem row_e {Ψ:PEv} (h1:Ψ.sp "_law_draw"=sp_draw) {Z:PEnds} (ns:List Int) (k:Int) (hk:0<=k) (hk2:k<=50000) (s2:Option Sl) (row:Str) (hr:row.length<=300) (h0:1<=row.length) (q:∀ (r:Str) (n:Nat) ρ,n<=1->r.cps.toList=row.cps.toList.take (row.length - n)->Z.rt (.d (.str r)) ρ) (o4 o5:Option Sl) :
  pws Ψ (fun _=>False) b_l_row_e Z [some (.bor (.lst ((ns.map PyData.int).map T.d))),some (.bor (.d (.int k))),s2,some (.bor (.d (.str row))),o4,o5]:=by
 have hz:sizeLine=16777216:=sizeLine_eq
 simp_arith [b_l_row_e,h1,sp_draw]
 refine ⟨by omega,ns,rfl,by omega,by omega,fun v v0 v2=>⟨by omega,q _ v.toNat _ (by omega) ?_⟩⟩
 rw [slice_to (by omega) (by omega)]
 congr 1
 omega
theorem Good.txts {h:Str} {vs:List D} (g:Good h vs):∀ d ∈ (PyData.str h::vs),TxtOk (txt d)/\((∃ z,d=.str z)∨∃ n:Int,d=.int n/\0<=n/\n<=999999999):=by
 intro d hd
 obtain ⟨a,_,f,_,fl⟩:=g
 rcases List.mem_cons.mp hd with rfl | hd
 ·exact ⟨a,.inl ⟨h,rfl⟩⟩
 ·exact fl.all d hd
theorem row_1 {Ψ:PEv} (h1:Ψ.sp "_law_draw"=sp_draw) {Z:PEnds} (ns:List Int) (k:Int) (hk:0<=k) (hk2:k<=50000) (s2:Option Sl) (row:Str) (hr:row.length<=200) (d:D) (hd:TxtOk (txt d)) (hf:(∃ z,d=.str z)∨∃ n:Int,d=.int n/\0<=n/\n<=999999999) (i:Nat) (hi:i<=10)
  (q:∀ v:Int,0<=v->v < 3->Z.nx [some (.bor (.lst ((ns.map PyData.int).map T.d))),some (.bor (.d (.int k))),s2,some (.bor (.d (.str (row++txt d++repS (Str.ofString " ") (1+v))))),some (.bor (.d (.int (i:Int)))),some (.bor (.d d))]) :
  pws Ψ (fun _=>False) b_l_row_1 Z [some (.bor (.lst ((ns.map PyData.int).map T.d))),some (.bor (.d (.int k))),s2,some (.bor (.d (.str row))),some (.bor (.d (.int (i:Int)))),some (.bor (.d d))]:=by
 have hz:sizeLine=16777216:=sizeLine_eq
 have hl:=hd.2.1
 have key:∀ v:Int,0<=v->v < 3->(row++txt d).length+(repS (Str.ofString " ") (1+v)).length<=sizeLine:=fun v v0 v3=>by
  rw [Str.length_append,repS_len,blank_len]
  omega
 rcases hf with ⟨z,rfl⟩ | ⟨m,rfl,m0,m1⟩
 ·simp_arith [b_l_row_1,h1,sp_draw]
  exact ⟨show row.length+(txt (.str z)).length<=sizeLine by omega,ns,rfl,by omega,by omega,fun v v0 v3=>⟨by omega,by omega,by rw [blank_len]; omega,key v v0 v3,q v v0 v3⟩⟩
 ·simp_arith [b_l_row_1,h1,sp_draw]
  refine ⟨?_,show row.length+(txt (.int m)).length<=sizeLine by omega,ns,rfl,by omega,by omega,fun v v0 v3=>⟨by omega,by omega,by rw [blank_len]; omega,key v v0 v3,q v v0 v3⟩⟩
  by_cases e:m.natAbs=0
  ·rw [e]
   decide
  ·rw [Nat.log2_lt e]
   exact Nat.lt_of_le_of_lt (show m.natAbs<=2 ^ 30 by omega) (Nat.pow_lt_pow_right (by decide) (by decide))
theorem ok_row {Ψ:PEv} (h1:Ψ.sp "_law_draw"=sp_draw) (ds Q E) (h:sp_row.run ds Q E):ds.length=ps_l_row.length/\pws Ψ (fun _=>False) b_l_row (endsP sp_row ps_l_row.length Q) (startP N_l_row sp_row.md ds):=by
 obtain ⟨ns,k,h,vs,rfl,hk,hk2,g,q⟩:=h
 refine ⟨rfl,?_⟩
 have hz:sizeLine=16777216:=sizeLine_eq
 have gt:=g.txts
 have gl:vs.length<=2:=g.2.1
 generalize hws:PyData.str h::vs=ws at gt
 have wl:ws.length<=3:=by rw [<- hws,List.length_cons]; omega
 simp_arith [b_l_row,ps_l_row,N_l_row,sp_row,h1,sp_draw]
 refine ⟨ns,rfl,hk,by omega,fun v v0 v3=>⟨by omega,by omega,by rw [blank_len]; omega,for_inv (fun (p:D × Nat)=>T.d (.tuple [.int (p.2:Int),p.1])) (RW ns k (.tuple ws) ws) ?_ ?_ _ _ ?_⟩⟩
 ·rintro ρ ⟨done,rest,row,o4,o5,e,ex,hl,hc,hw,hd,rfl⟩
  have hrest:rest=[]:=by
   cases rest with
   | nil=>rfl
   | cons _ _=>cases ex
  subst hrest
  rw [List.append_nil] at e
  subst e
  have hne:ws≠[]:=by rw [<- hws]; simp
  obtain ⟨pre,hp⟩:=hd.resolve_left hne
  have rl:row.cps.toList.length=row.length:=Array.length_toList
  have hl0:row.length=pre.length+1:=by rw [<- rl,hp,List.length_append]; rfl
  simp_arith [pwq_nil]
  refine row_e h1 ns k hk hk2 _ row (by omega) (by omega) (fun r n ρ hn hr=>?_) _ _
  have w0:=hw []
  rw [List.append_nil,show wc [] []=[] from rfl,List.append_nil] at w0
  have wt:ws.map (fun d=>(txt d).cps.toList)=(h::vs.map txt).map fun w=>w.cps.toList:=by
   rw [<- hws,List.map_cons,List.map_cons,List.map_map]
   rfl
  have hr2:wc r.cps.toList []=wc row.cps.toList []/\∀ c ∈ r.cps.toList,c ∈ row.cps.toList:=by
   refine ⟨?_,fun c hc=>by rw [hr] at hc; exact List.mem_of_mem_take hc⟩
   rcases (show n=0∨n=1 by omega) with rfl | rfl
   ·rw [hr,Nat.sub_zero,List.take_of_length_le (by omega)]
   ·have e:r.cps.toList=pre:=by
     rw [hr,hp,hl0,Nat.add_sub_cancel,List.take_left' rfl]
    rw [e,hp]
    exact (wc_end pre [] 1).symm
  refine q r (wordsOf_of ?_) ?_ fun z=>?_
  ·rw [hr2.1,w0,wt]
  ·have:r.cps.toList.length=r.length:=Array.length_toList
   rw [hr,List.length_take] at this
   omega
  ·rcases hc 10 (hr2.2 10 z) with e | e<;>omega
 ·rintro ⟨d,i⟩ xs ρ N hN ⟨done,rest,row,o4,o5,e,ex,hl,hc,hw,hd,rfl⟩
  cases rest with
  | nil=>cases ex
  | cons d' rest =>
   rw [List.zipIdx_cons] at ex
   obtain ⟨e1,rfl⟩:=List.cons.inj ex
   obtain ⟨rfl,rfl⟩:=Prod.mk.inj e1
   have dl:done.length+1<=3:=by
    have:=congrArg List.length e
    rw [List.length_append,List.length_cons] at this
    omega
   obtain ⟨t1,t2⟩:=gt d (by rw [e]; simp)
   simp_arith [pwq_nil]
   refine row_1 h1 ns k hk hk2 _ row (by omega) d t1 t2 done.length (by omega) fun u u0 u3=>hN _ ⟨done++[d],rest,_,_,_,by rw [e]; simp,by rw [List.length_append]; rfl,?_,?_,?_,?_,rfl⟩
   ·rw [Str.length_append,Str.length_append,repS_len,blank_len,List.length_append,List.length_singleton]
    have:=t1.2.1
    omega
   ·intro c h
    rw [app_codes,app_codes,blank_codes] at h
    rcases List.mem_append.mp h with h | h
    ·rcases List.mem_append.mp h with h | h
     ·exact hc c h
     ·exact .inr (t1.2.2 c h)
    ·exact .inl (List.eq_of_mem_replicate h)
   ·intro r
    obtain ⟨m,hm⟩:∃ m,(1+u).toNat=m+1:=⟨u.toNat,by omega⟩
    rw [app_codes,app_codes,blank_codes,hm,List.append_assoc,List.append_assoc,hw,wc_word _ _ _ t1.free t1.1]
    simp
   ·right
    obtain ⟨m,hm⟩:∃ m,(1+u).toNat=m+1:=⟨u.toNat,by omega⟩
    refine ⟨row.cps.toList++(txt d).cps.toList++List.replicate m 32,?_⟩
    rw [app_codes,app_codes,blank_codes,hm,List.replicate_succ']
    simp
 ·refine ⟨[],ws,_,none,none,rfl,rfl,?_,?_,?_,.inl rfl,rfl⟩
  ·rw [repS_len,blank_len,List.length_nil]
   omega
  ·intro c h
   rw [blank_codes] at h
   exact .inl (List.eq_of_mem_replicate h)
  ·intro r
   rw [blank_codes,wc_blanks]
   rfl
end L2.L3.K60
namespace L2.L3.K60
open PySem PySem.Spec PyProof.Rows L2 L2.L3 L2.L3.Lib
theorem RowsQ.app:∀ {a b:List Str} {p q:List (Str × List D)},RowsQ a p->RowsQ b q->RowsQ (a++b) (p++q)
 | [],b,p,q,h1,h2=>by
  have h1:p=[]:=h1
  subst h1
  exact h2
 | r::a,b,p,q,h1,h2=>by
  obtain ⟨hl,h1⟩:=h1
  refine ⟨hl,?_⟩
  rcases h1 with ⟨w0,h1⟩ | ⟨h,vs,p',rfl,g,w1,h1⟩
  ·exact .inl ⟨w0,h1.app h2⟩
  ·exact .inr ⟨h,vs,p'++q,rfl,g,w1,h1.app h2⟩
theorem RowsQ.blank {r:Str} (hl:r.length<=300) (hw:Lib.wordsOf r=[]):∀ n:Nat,RowsQ (List.replicate n r) []
 | 0=>rfl
 | n+1=>⟨hl,.inl ⟨hw,RowsQ.blank hl hw n⟩⟩
theorem RowsQ.good:∀ {a:List Str} {p:List (Str × List D)},RowsQ a p->∀ x ∈ p,Good x.1 x.2
 | [],p,h,x,hx=>by
  have h:p=[]:=h
  subst h
  cases hx
 | r::a,p,h,x,hx=>by
  rcases h.2 with ⟨_,h⟩ | ⟨hd,vs,p',rfl,g,_,h⟩
  ·exact h.good x hx
  ·rcases List.mem_cons.mp hx with rfl | hx
   ·exact g
   ·exact h.good x hx
theorem RowsQ.short:∀ {a:List Str} {p:List (Str × List D)},RowsQ a p->∀ r ∈ a,r.length<=300
 | [],_,_,r,hr=>by cases hr
 | x::a,p,h,r,hr=>by
  rcases List.mem_cons.mp hr with rfl | hr
  ·exact h.1
  ·rcases h.2 with ⟨_,h⟩ | ⟨_,_,_,_,_,_,h⟩
   ·exact h.short r hr
   ·exact h.short r hr
theorem strOk_txt {w:Str} (h:∀ c ∈ w.cps.toList,33<=c/\c<=126):PyData.canLay0 (.str w)=true:=by
 show (w.cps.all fun x=>decide (x < 0x110000))=true
 rw [<- Array.all_toList,List.all_eq_true]
 intro c hc
 have:=h c hc
 exact decide_eq_true (by omega)
theorem canAll:∀ {vs:List D},(∀ d ∈ vs,d.canLay0=true)->PyData.canLayAll0 vs=true
 | [],_=>rfl
 | d::vs,h=>by
  rw [PyData.canLayAll0,h d List.mem_cons_self,canAll fun x hx=>h x (List.mem_cons_of_mem _ hx)]
  rfl
theorem depAll {n:Nat}:∀ {vs:List D},(∀ d ∈ vs,d.depth<=n)->PyData.depthAll vs<=n
 | [],_=>Nat.zero_le _
 | d::vs,h=>by
  rw [PyData.depthAll]
  exact Nat.max_le.mpr ⟨h d List.mem_cons_self,depAll fun x hx=>h x (List.mem_cons_of_mem _ hx)⟩
theorem qD_ok {q:Str × List D} (g:Good q.1 q.2):(qD q).canLay0=true/\(qD q).depth<=1:=by
 have ht:=g.txts
 constructor
 ·show PyData.canLayAll0 (PyData.str q.1::q.2)=true
  refine canAll fun d hd=>?_
  obtain ⟨t1,t2⟩:=ht d hd
  rcases t2 with ⟨z,rfl⟩ | ⟨n,rfl,_⟩
  ·exact strOk_txt t1.2.2
  ·rfl
 ·show PyData.depthAll (PyData.str q.1::q.2)+1<=1
  have:PyData.depthAll (PyData.str q.1::q.2)<=0:=depAll fun d hd=>by
   rcases (ht d hd).2 with ⟨z,rfl⟩ | ⟨n,rfl,_⟩<;>exact Nat.le_refl _
  omega
theorem due_ok {qs:List (Str × List D)} (h:∀ q ∈ qs,Good q.1 q.2):okD (.list (qs.map qD)):=by
 constructor
 ·show PyData.canLayAll0 (qs.map qD)=true
  refine canAll fun d hd=>?_
  obtain ⟨q,hq,rfl⟩:=List.mem_map.mp hd
  exact (qD_ok (h q hq)).1
 ·show PyData.depthAll (qs.map qD)+1<=64
  have:PyData.depthAll (qs.map qD)<=1:=depAll fun d hd=>by
   obtain ⟨q,hq,rfl⟩:=List.mem_map.mp hd
   exact (qD_ok (h q hq)).2
  omega
end L2.L3.K60
namespace L2.L3.K60
open PySem PySem.Spec PyProof.Rows L2 L2.L3 L2.L3.Lib
noncomputable def sT (ns:List Int):Option Sl:=some (.bor (.lst ((ns.map PyData.int).map T.d)))
noncomputable def dT (qs:List (Str × List D)):Option Sl:=some (.own (.lst ((qs.map qD).map T.d)))
noncomputable def rT (rs:List Str):Option Sl:=some (.own (.lst ((rs.map PyData.str).map T.d)))
theorem law_1c {Ψ:PEv} (h1:Ψ.sp "_law_row"=sp_row) {Z:PEnds} (ns:List Int) (s1:Option Sl) (rs:List Str) (hl:rs.length<=1000) (k:Int) (hk:0<=k) (hk2:k<=60) (h:Str) (vs:List D) (g:Good h vs) (o5 o6:Option Sl)
  (q:∀ r:Str,Lib.wordsOf r=h::vs.map txt->r.length<=300->10 ∉ r.cps.toList->Z.nx [sT ns,s1,rT (rs++[r]),some (.bor (.d (.int k))),some (.bor (.d (.tuple (.str h::vs)))),o5,o6]) :
  pws Ψ (fun _=>False) b_law_1c Z [sT ns,s1,rT rs,some (.bor (.d (.int k))),some (.bor (.d (.tuple (.str h::vs)))),o5,o6]:=by
 have hz:sizeLine=16777216:=sizeLine_eq
 unfold sT rT at *
 simp_arith [b_law_1c,h1,sp_row]
 refine ⟨CMul.ok (.inl ⟨by decide,by decide⟩),ns,rfl,by omega,by omega,g,fun r r1 r2 r3=>⟨by rw [List.length_map,List.length_map]; omega,?_⟩⟩
 have e:setP (T.lst (List.map T.d (List.map PyData.str rs))) [] (T.lst (List.map T.d (List.map PyData.str rs)++[T.d (PyData.str r)]))=T.lst (List.map T.d (List.map PyData.str (rs++[r]))):=by
  rw [List.map_append,List.map_append]
  rfl
 rw [e]
 exact q r r1 r2 r3
theorem flat_rep (n:Nat) (x:Str):(List.replicate n [PyData.str x]).flatten=(List.replicate n x).map PyData.str:=by
 induction n with
 | zero=>rfl
 | succ n ih=>rw [List.replicate_succ,List.flatten_cons,ih]; rfl
theorem law_1b {Ψ:PEv} (h1:Ψ.sp "_law_draw"=sp_draw) {Z:PEnds} (ns:List Int) (s1:Option Sl) (rs:List Str) (hl:rs.length<=1000) (k:Int) (hk:0<=k) (hk2:k<=60) (o4 o5 o6:Option Sl)
  (q:∀ (a:Int) (n:Nat),0<=a->a<=3->n<=2->pws Ψ (fun _=>False) b_law_1c Z [sT ns,s1,rT (rs++List.replicate n (repS (Str.ofString " ") a)),some (.bor (.d (.int k))),o4,o5,o6]) :
  pws Ψ (fun _=>False) b_law_1b Z [sT ns,s1,rT rs,some (.bor (.d (.int k))),o4,o5,o6]:=by
 have hz:sizeLine=16777216:=sizeLine_eq
 unfold sT rT at *
 simp_arith [b_law_1b,h1,sp_draw]
 have m30:IntMulOk 30 k:=CMul.ok (.inl ⟨by decide,by decide⟩)
 refine ⟨m30,ns,rfl,by omega,by omega,fun a a0 a3=>⟨by omega,by omega,by rw [blank_len]; omega,by omega,m30,ns,rfl,by omega,by omega,fun n n0 n2=>⟨by omega,by omega,by omega,?_,?_⟩⟩⟩
 ·rw [flat_rep,List.length_map,List.length_map,List.length_replicate]
  omega
 ·rw [flat_rep,<- List.map_append]
  exact q a n.toNat a0 (by omega) (by omega)
theorem law_1a {Ψ:PEv} {Z:PEnds} (ns:List Int) (qs:List (Str × List D)) (hl:qs.length<=1000) (s2 s3:Option Sl) (h:Str) (vs:List D) (o5 o6:Option Sl)
  (q:pws Ψ (fun _=>False) b_law_1b Z [sT ns,dT (qs++[(h,vs)]),s2,s3,some (.bor (.d (.tuple (.str h::vs)))),o5,o6]) :
  pws Ψ (fun _=>False) b_law_1a Z [sT ns,dT qs,s2,s3,some (.bor (.d (.tuple (.str h::vs)))),o5,o6]:=by
 have hz:sizeLine=16777216:=sizeLine_eq
 unfold sT dT at *
 simp_arith [b_law_1a]
 refine ⟨by rw [List.length_map,List.length_map]; omega,?_⟩
 have e:setP (T.lst (List.map T.d (List.map qD qs))) [] (T.lst (List.map T.d (List.map qD qs)++[T.d (PyData.tuple (PyData.str h::vs))]))=T.lst (List.map T.d (List.map qD (qs++[(h,vs)]))):=by
  rw [List.map_append,List.map_append]
  rfl
 rw [e]
 exact q
noncomputable def LW (ns:List Int) (n:Nat) (l:List Nat) (ρ:PSt):Prop:=∃ (j:Nat) (qs:List (Str × List D)) (rs:List Str) (o3 o4 o5 o6:Option Sl),l=(List.range n).drop j/\j<=n/\qs.length<=j/\rs.length<=3 * j/\RowsQ rs qs/\(∀ r ∈ rs,10 ∉ r.cps.toList)/\ρ=[sT ns,dT qs,rT rs,o3,o4,o5,o6]
theorem blank_words (a:Int):Lib.wordsOf (repS (Str.ofString " ") a)=[]:=by
 apply wordsOf_of
 rw [blank_codes]
 have:=wc_blanks a.toNat []
 rw [List.append_nil] at this
 rw [this]
 rfl
theorem law_1 {Ψ:PEv} (h1:Ψ.sp "_law_question"=sp_question) (h2:Ψ.sp "_law_draw"=sp_draw) (h3:Ψ.sp "_law_row"=sp_row) {Z:PEnds} (ns:List Int) (qs:List (Str × List D)) (rs:List Str) (hq:qs.length<=100) (hl:rs.length<=300) (k:Int) (hk:0<=k) (hk2:k<=60) (hr:RowsQ rs qs) (hn:∀ r ∈ rs,10 ∉ r.cps.toList) (o4 o5 o6:Option Sl)
  (q:∀ qs' rs' o4,qs'.length<=qs.length+1->rs'.length<=rs.length+3->RowsQ rs' qs'->(∀ r ∈ rs',10 ∉ r.cps.toList)->Z.nx [sT ns,dT qs',rT rs',some (.bor (.d (.int k))),o4,o5,o6]) :
  pws Ψ (fun _=>False) b_law_1 Z [sT ns,dT qs,rT rs,some (.bor (.d (.int k))),o4,o5,o6]:=by
 have go:∀ h vs,Good h vs->pws Ψ (fun _=>False) b_law_1a Z [sT ns,dT qs,rT rs,some (.bor (.d (.int k))),some (.bor (.d (.tuple (.str h::vs)))),o5,o6]:=fun h vs g =>
  law_1a ns qs (by omega) _ _ h vs _ _ (law_1b h2 ns _ rs (by omega) k hk hk2 _ _ _ fun a n a0 a3 hn2=>law_1c h3 ns _ _ (by rw [List.length_append,List.length_replicate]; omega) k hk hk2 h vs g _ _ fun r r1 r2 r3=>q _ _ _ (by rw [List.length_append]; exact Nat.le_refl _) (by rw [List.length_append,List.length_append,List.length_replicate]; simp; omega) (by
   have b:=RowsQ.blank (r:=repS (Str.ofString " ") a) (by rw [repS_len,blank_len]; omega) (blank_words a) n
   have b2:=hr.app b
   rw [List.append_nil] at b2
   exact b2.app (show RowsQ [r] [(h,vs)] from ⟨r2,.inr ⟨h,vs,[],rfl,g,r1,rfl⟩⟩)) fun x hx=>by
    rcases List.mem_append.mp hx with hx | hx
    ·rcases List.mem_append.mp hx with hx | hx
     ·exact hn x hx
     ·rw [List.eq_of_mem_replicate hx,blank_codes]
      intro z
      have:=List.eq_of_mem_replicate z
      omega
    ·rw [List.mem_singleton.mp hx]
     exact r3)
 unfold sT dT rT at *
 simp_arith [b_law_1,h1,sp_question]
 exact ⟨CMul.ok (.inl ⟨by decide,by decide⟩),ns,rfl,by omega,by omega,fun h vs g=>go h vs g⟩
end L2.L3.K60
namespace L2.L3.K60
open PySem PySem.Spec PyProof.Rows L2 L2.L3 L2.L3.Lib
theorem map_qD (qs:List (Str × List D)):(qs.map fun q=>T.d (qD q))=(qs.map qD).map T.d:=by rw [List.map_map]; rfl
theorem law_w {Ψ:PEv} (h1:Ψ.sp "read_questions"=sp_read_questions) {Z:PEnds} (s0 s2 s3 s4:Option Sl) (qs fs:List (Str × List D)) (t:Str) (ht:t.length<=1000000) (hr:RowsQ (Txt.split t (Str.ofString "\n")) qs) (hl:fs.length<=1000) (q:∀ ρ,Z.rt (.d (.bool true)) ρ) :
  pws Ψ (fun _=>False) b_law_w Z [s0,dT qs,s2,s3,s4,some (.bor (.d (.str t))),dT fs]:=by
 have hz:sizeLine=16777216:=sizeLine_eq
 have ok:=due_ok hr.good
 have eq:=PySem.SeqAt.eqv_refl _ ok.1
 unfold dT
 simp_arith [b_law_w,h1,sp_read_questions,map_qD]
 refine ⟨by omega,by rw [List.length_map,List.length_map]; omega,ht,qs,hr,ok,ok,?_⟩
 rw [eq]
 exact q _
theorem law_v {Ψ:PEv} (h1:Ψ.sp "read_questions"=sp_read_questions) {Z:PEnds} (s0 s2 s3 s4:Option Sl) (qs:List (Str × List D)) (t:Str) (ht:t.length<=1000000) (hr:RowsQ (Txt.split t (Str.ofString "\n")) qs) (hl:qs.length<=1000) (q:∀ ρ,Z.rt (.d (.bool true)) ρ) :
  pws Ψ (fun _=>False) b_law_v Z [s0,dT qs,s2,s3,s4,some (.bor (.d (.str t))),dT qs]:=by
 have hz:sizeLine=16777216:=sizeLine_eq
 have ok:=due_ok hr.good
 have eq:=PySem.SeqAt.eqv_refl _ ok.1
 have go:=law_w h1 (Z:=Z) s0 s2 s3 s4 qs qs t ht hr hl q
 unfold dT at *
 simp_arith [b_law_v]
 refine ⟨rfl,ite2 (fun c=>by cases c) fun _=>?_⟩
 rw [List.map_map]
 refine compV_map (T.d ∘ qD) (fun _=>T.d (.bool true)) qs [] _ (fun x _ R hR=>?_) (by simp; omega) ?_
 ·simp_arith [compBody,Function.comp,qD]
  exact ⟨rfl,hR⟩
 ·refine ⟨qs.map fun _=>true,?_,ite2 (fun c=>?_) fun _=>⟨ok,ok,ite2 (fun c=>?_) fun _=>?_⟩⟩
  ·rw [List.nil_append,ersT_mapf (fun _=>PyData.bool true),List.map_map]
   rfl
  ·have:(qs.map fun _=>true).all id=true:=by simp
   rw [this] at c
   cases c
  ·rw [eq] at c
   cases c
  ·rw [<- List.map_map]
   exact go
theorem law_u {Ψ:PEv} (h1:Ψ.sp "read_questions"=sp_read_questions) {Z:PEnds} (s0 s2 s3 s4 o6:Option Sl) (qs:List (Str × List D)) (t:Str) (ht:t.length<=1000000) (hr:RowsQ (Txt.split t (Str.ofString "\n")) qs) (hl:qs.length<=1000) (q:∀ ρ,Z.rt (.d (.bool true)) ρ) :
  pws Ψ (fun _=>False) b_law_u Z [s0,dT qs,s2,s3,s4,some (.bor (.d (.str t))),o6]:=by
 have go:=law_v h1 (Z:=Z) s0 s2 s3 s4 qs t ht hr hl q
 unfold dT at *
 simp_arith [b_law_u,h1,sp_read_questions,map_qD]
 exact ⟨ht,qs,hr,go⟩
theorem tjoin (s:Str) (l:List Str):Txt.join s l=Str.join s l:=StrLaws.glued_eq_join s l
theorem len_join (s:Str) (l:List Str):(Txt.join s l).length=(l.map (·.length)).sum+(l.length - 1) * s.length:=size_glued s l
noncomputable def joinG (c:Nat):List (List Nat)->List Nat
 | []=>[]
 | [x]=>x
 | x::y::r=>x++c::joinG c (y::r)
theorem joinG_codes (c:Nat):∀ (ps:List Str),(Str.join ⟨#[c]⟩ ps).cps.toList=joinG c (ps.map fun p=>p.cps.toList)
 | []=>rfl
 | [x]=>rfl
 | x::y::r=>by
  show ((x.cps++#[c])++(Str.join ⟨#[c]⟩ (y::r)).cps).toList=_
  have ih:=joinG_codes c (y::r)
  rw [List.map_cons] at ih
  rw [List.map_cons,List.map_cons,joinG,<- ih]
  simp
noncomputable def spl (c:Nat):List Nat->List Nat->List (List Nat)
 | [],cur=>[cur]
 | x::xs,cur=>if x=c then cur::spl c xs [] else spl c xs (cur++[x])
theorem spl_free (c:Nat):∀ (w r cur:List Nat),c ∉ w->spl c (w++r) cur=spl c r (cur++w)
 | [],r,cur,_=>by simp
 | x::w,r,cur,h=>by
  have hx:¬ x=c:=fun e=>h (by simp [e])
  rw [List.cons_append,spl,if_neg hx,spl_free c w r _ fun z=>h (List.mem_cons_of_mem _ z)]
  simp
theorem spl_join (c:Nat):∀ (ps:List (List Nat)),ps≠[]->(∀ p ∈ ps,c ∉ p)->spl c (joinG c ps) []=ps
 | [],h,_=>absurd rfl h
 | [x],_,h=>by
  have:=spl_free c x [] [] (h x (by simp))
  rw [List.append_nil] at this
  rw [joinG,this]
  rfl
 | x::y::r,_,h=>by
  rw [joinG,spl_free c _ _ _ (h x (by simp)),spl,if_pos rfl,spl_join c (y::r) (by simp) fun p hp=>h p (List.mem_cons_of_mem _ hp)]
  rfl
theorem split_join {c:Nat} {ps:List Str} (h0:ps≠[]) (h:∀ p ∈ ps,c ∉ p.cps.toList):Txt.split (Txt.join ⟨#[c]⟩ ps) ⟨#[c]⟩=ps:=by
 have h1:=joinG_codes c (Txt.split (Txt.join ⟨#[c]⟩ ps) ⟨#[c]⟩)
 rw [StrLaws.join_split] at h1
 have h2:=joinG_codes c ps
 rw [<- tjoin] at h2
 have n0:Txt.split (Txt.join ⟨#[c]⟩ ps) ⟨#[c]⟩≠[]:=fun z=>by
  have:=split_pos (Txt.join ⟨#[c]⟩ ps) ⟨#[c]⟩
  rw [z] at this
  simp at this
 have e1:=spl_join c ((Txt.split (Txt.join ⟨#[c]⟩ ps) ⟨#[c]⟩).map fun p=>p.cps.toList) (by simpa using n0) fun p hp=>by
  obtain ⟨q,hq,rfl⟩:=List.mem_map.mp hp
  exact StrLaws.split_free _ c q hq
 have e2:=spl_join c (ps.map fun p=>p.cps.toList) (by simpa using h0) fun p hp=>by
  obtain ⟨q,hq,rfl⟩:=List.mem_map.mp hp
  exact h q hq
 exact codes_inj (by rw [<- e1,<- e2,<- h1,<- h2])
theorem nl_str:Str.ofString "\n"=⟨#[10]⟩:=by decide +kernel
theorem split_rows {rs:List Str} {qs:List (Str × List D)} (h:RowsQ rs qs) (hn:∀ r ∈ rs,10 ∉ r.cps.toList):RowsQ (Txt.split (Txt.join (Str.ofString "\n") rs) (Str.ofString "\n")) qs:=by
 rw [nl_str]
 cases rs with
 | nil =>
  have h:qs=[]:=h
  subst h
  have e:Txt.split (Txt.join ⟨#[10]⟩ []) ⟨#[10]⟩=[⟨#[]⟩]:=by decide +kernel
  rw [e]
  exact ⟨by decide,.inl ⟨by decide +kernel,rfl⟩⟩
 | cons r rs =>
  rw [split_join (by simp) hn]
  exact h
theorem sum_le {n:Nat}:∀ {l:List Str},(∀ r ∈ l,r.length<=n)->(l.map (·.length)).sum<=l.length * n
 | [],_=>by simp
 | r::l,h=>by
  rw [List.map_cons,List.sum_cons,List.length_cons,Nat.succ_mul]
  have h1:=h r List.mem_cons_self
  have h2:=sum_le fun x hx=>h x (List.mem_cons_of_mem r hx)
  omega
theorem law_t {Ψ:PEv} (h1:Ψ.sp "read_questions"=sp_read_questions) {Z:PEnds} (s0 s3 s4 o5 o6:Option Sl) (qs:List (Str × List D)) (rs:List Str) (h:RowsQ rs qs) (hn:∀ r ∈ rs,10 ∉ r.cps.toList) (hq:qs.length<=1000) (hl:rs.length<=300) (q:∀ ρ,Z.rt (.d (.bool true)) ρ) :
  pws Ψ (fun _=>False) b_law_t Z [s0,dT qs,rT rs,s3,s4,o5,o6]:=by
 have hs:=sum_le h.short
 have hj:(Txt.join (Str.ofString "\n") rs).length<=1000000:=by
  rw [len_join,nl_len]
  omega
 have go:=law_u h1 (Z:=Z) s0 (rT rs) s3 s4 o6 qs _ hj (split_rows h hn) hq q
 unfold dT rT at *
 simp_arith [b_law_t,nl_len]
 exact ⟨rs,rfl,by omega,go⟩
theorem law_r {Ψ:PEv} (h1:Ψ.sp "read_questions"=sp_read_questions) (h2:Ψ.sp "_law_draw"=sp_draw) {Z:PEnds} (ns:List Int) (s3 s4 o5 o6:Option Sl) (qs:List (Str × List D)) (rs:List Str) (h:RowsQ rs qs) (hn:∀ r ∈ rs,10 ∉ r.cps.toList) (hq:qs.length<=1000) (hl:rs.length<=290) (q:∀ ρ,Z.rt (.d (.bool true)) ρ) :
  pws Ψ (fun _=>False) b_law_r Z [sT ns,dT qs,rT rs,s3,s4,o5,o6]:=by
 have hz:sizeLine=16777216:=sizeLine_eq
 have e0:Lib.wordsOf (Str.ofString "")=[]:=by decide +kernel
 have go:∀ n:Nat,n<=2->pws Ψ (fun _=>False) b_law_t Z [sT ns,dT qs,rT (rs++List.replicate n (Str.ofString "")),s3,s4,o5,o6]:=fun n n2=>by
  have b:=h.app (RowsQ.blank (r:=Str.ofString "") (by decide) e0 n)
  rw [List.append_nil] at b
  refine law_t h1 _ _ _ _ _ qs _ b (fun r hr=>?_) hq (by rw [List.length_append,List.length_replicate]; omega) q
  rcases List.mem_append.mp hr with hr | hr
  ·exact hn r hr
  ·rw [List.eq_of_mem_replicate hr]
   decide +kernel
 unfold sT dT rT at *
 simp_arith [b_law_r,h2,sp_draw]
 refine ⟨by omega,ns,rfl,fun v v0 v3=>⟨by omega,by omega,by omega,?_,?_⟩⟩
 ·rw [flat_rep,List.length_map,List.length_map,List.length_replicate]
  omega
 ·rw [flat_rep,<- List.map_append]
  exact go v.toNat (by omega)
theorem ok_law {Ψ:PEv} (h1:Ψ.sp "_law_question"=sp_question) (h2:Ψ.sp "_law_draw"=sp_draw) (h3:Ψ.sp "_law_row"=sp_row) (h4:Ψ.sp "read_questions"=sp_read_questions) (ds Q E) (h:pLaw.run ds Q E):ds.length=ps_law.length/\pws Ψ (fun _=>False) b_law (endsP pLaw ps_law.length Q) (startP N_law pLaw.md ds):=by
 obtain ⟨ns,hl,hb,rfl,q⟩:=h
 refine ⟨rfl,?_⟩
 simp_arith [b_law,ps_law,N_law,pLaw]
 rw [show (List.map T.d (List.map PyData.int ns)).length=ns.length by simp]
 have hn:(0:Int)<=(if (60:Int) < (ns.length:Int) then 60 else (ns.length:Int))/\(if (60:Int) < (ns.length:Int) then 60 else (ns.length:Int))<=60:=by
  split<;>omega
 generalize (if (60:Int) < (ns.length:Int) then 60 else (ns.length:Int))=m at hn
 refine ⟨Nat.zero_le _,Nat.zero_le _,by omega,by omega,for_inv (fun (i:Nat)=>T.d (PyData.int (i:Int))) (LW ns m.toNat) ?_ ?_ _ _ ?_⟩
 ·rintro ρ ⟨j,qs,rs,o3,o4,o5,o6,e,hj,hq,hr,rq,rn,rfl⟩
  have go:=fun o3=>law_r h4 h2 (Z:={ nx:=fun ρ=>Q (T.d PyData.none) [],rt:=fun t ρ=>Q t [] }) ns o3 o4 o5 o6 qs rs rq rn (by omega) (by omega) fun _=>q
  unfold sT dT rT at *
  simp_arith [pwq_nil]
  exact go _
 ·rintro x xs ρ N hN ⟨j,qs,rs,o3,o4,o5,o6,e,hj,hq,hr,rq,rn,rfl⟩
  obtain ⟨rfl,hj2,rfl⟩:=range_drop e.symm
  have go:=law_1 h1 h2 h3 (Z:={ nx:=N,rt:=fun t ρ=>Q t [],bk:=fun ρ2=>pws Ψ (fun x=>False) b_law_r { nx:=fun ρ=>Q (T.d PyData.none) [],rt:=fun t ρ=>Q t [] } (List.modify ρ2 3 killS),ct:=N }) ns qs rs (by omega) (by omega) (x:Int) (by omega) (by omega) rq rn o4 o5 o6 fun qs' rs' o4' a b c d=>hN _ ⟨x+1,qs',rs',_,_,_,_,rfl,by omega,by omega,by omega,c,d,rfl⟩
  unfold sT dT rT at *
  simp_arith [pwq_nil]
  exact go
 ·exact ⟨0,[],[],_,_,_,_,by simp,Nat.zero_le _,Nat.le_refl _,Nat.le_refl _,rfl,fun r hr=>(by cases hr),rfl⟩
end L2.L3.K60
namespace L2.L3.K60
open PySem PySem.Spec PyProof.Rows L2 L2.L3 L2.L3.Lib
noncomputable def spT:List (Str × PSp):=[("_law_draw",sp_draw),("_law_name",sp_name),("_law_question",sp_question),("_law_row",sp_row),("words_in",sp_words_in),("is_made_of",sp_is_made_of),("is_word",sp_is_word),("is_name",sp_is_name),("number_in",sp_number_in),("number_within",sp_number_within),("value_of",sp_value_of),("values_by",sp_values_by),("question_of",sp_question_of),("placed_questions",sp_placed_questions),("read_questions",sp_read_questions),("law",pLaw)]
noncomputable def vaT:List (Str × D):=[("KEYWORDS",.tuple (keys.map PyData.str)),("LETTERS",.str letters),("FIGURES",.str figures),("MOST_LETTERS",.int 8),("MOST_FIGURES",.int 9),("NAMED",.tuple (named.map PyData.str))]
noncomputable def dcT:List (Str × List (Str × D)):=[("FORMS",formsL),("RANGES",rangesL)]
noncomputable def Ψ:PEv:=tblEv spT vaT dcT
theorem e_l_draw:Ψ.sp "_law_draw"=sp_draw:=by kernel_rfl
theorem e_l_name:Ψ.sp "_law_name"=sp_name:=by kernel_rfl
theorem e_l_question:Ψ.sp "_law_question"=sp_question:=by kernel_rfl
theorem e_l_row:Ψ.sp "_law_row"=sp_row:=by kernel_rfl
theorem e_words_in:Ψ.sp "words_in"=sp_words_in:=by kernel_rfl
theorem e_is_made_of:Ψ.sp "is_made_of"=sp_is_made_of:=by kernel_rfl
theorem e_is_word:Ψ.sp "is_word"=sp_is_word:=by kernel_rfl
theorem e_is_name:Ψ.sp "is_name"=sp_is_name:=by kernel_rfl
theorem e_number_in:Ψ.sp "number_in"=sp_number_in:=by kernel_rfl
theorem e_number_within:Ψ.sp "number_within"=sp_number_within:=by kernel_rfl
theorem e_value_of:Ψ.sp "value_of"=sp_value_of:=by kernel_rfl
theorem e_values_by:Ψ.sp "values_by"=sp_values_by:=by kernel_rfl
theorem e_question_of:Ψ.sp "question_of"=sp_question_of:=by kernel_rfl
theorem e_placed_questions:Ψ.sp "placed_questions"=sp_placed_questions:=by kernel_rfl
theorem e_read_questions:Ψ.sp "read_questions"=sp_read_questions:=by kernel_rfl
theorem e_law:Ψ.sp "law"=pLaw:=by kernel_rfl
theorem v_KEYWORDS:Ψ.va "KEYWORDS"=some (.tuple (keys.map PyData.str)):=by kernel_rfl
theorem v_LETTERS:Ψ.va "LETTERS"=some (.str letters):=by kernel_rfl
theorem v_FIGURES:Ψ.va "FIGURES"=some (.str figures):=by kernel_rfl
theorem v_MOST_LETTERS:Ψ.va "MOST_LETTERS"=some (.int 8):=by kernel_rfl
theorem v_MOST_FIGURES:Ψ.va "MOST_FIGURES"=some (.int 9):=by kernel_rfl
theorem v_NAMED:Ψ.va "NAMED"=some (.tuple (named.map PyData.str)):=by kernel_rfl
theorem v_FORMS:Ψ.dc "FORMS"=some formsL:=by kernel_rfl
theorem v_RANGES:Ψ.dc "RANGES"=some rangesL:=by kernel_rfl
theorem all {P:Program} {w:World} {K:PySem.W.Frag} {h:Heap} {mg:Str->Option Value} {fa:Addr} (X:K.In h) (G:h.Ns mainGlobals mg) (hfa:mg "law"=some (.ref fa)) (d_l_draw:DefAt K "_law_draw" (top 26)) (d_l_name:DefAt K "_law_name" (top 27)) (d_l_question:DefAt K "_law_question" (top 28)) (d_l_row:DefAt K "_law_row" (top 29)) (d_words_in:DefAt K "words_in" (top 9)) (d_is_made_of:DefAt K "is_made_of" (top 10)) (d_is_word:DefAt K "is_word" (top 11)) (d_is_name:DefAt K "is_name" (top 12)) (d_number_in:DefAt K "number_in" (top 13)) (d_number_within:DefAt K "number_within" (top 19)) (d_value_of:DefAt K "value_of" (top 18)) (d_values_by:DefAt K "values_by" (top 17)) (d_question_of:DefAt K "question_of" (top 24)) (d_placed_questions:DefAt K "placed_questions" (top 23)) (d_read_questions:DefAt K "read_questions" (top 22)) (d_law:DefAt K "law" (top 30)) (w_KEYWORDS:ValAt K "KEYWORDS" (.tuple (keys.map PyData.str))) (w_LETTERS:ValAt K "LETTERS" (.str letters)) (w_FIGURES:ValAt K "FIGURES" (.str figures)) (w_MOST_LETTERS:ValAt K "MOST_LETTERS" (.int 8)) (w_MOST_FIGURES:ValAt K "MOST_FIGURES" (.int 9)) (w_NAMED:ValAt K "NAMED" (.tuple (named.map PyData.str))) (w_FORMS:DictAt w K "FORMS" formsL) (w_RANGES:DictAt w K "RANGES" rangesL) (z_all:PySem.W.nsIn K mainGlobals "all"=some none) (z_enumerate:PySem.W.nsIn K mainGlobals "enumerate"=some none) (z_int:PySem.W.nsIn K mainGlobals "int"=some none) (z_isinstance:PySem.W.nsIn K mainGlobals "isinstance"=some none) (z_len:PySem.W.nsIn K mainGlobals "len"=some none) (z_list:PySem.W.nsIn K mainGlobals "list"=some none) (z_min:PySem.W.nsIn K mainGlobals "min"=some none) (z_range:PySem.W.nsIn K mainGlobals "range"=some none) (z_str:PySem.W.nsIn K mainGlobals "str"=some none) (z_tuple:PySem.W.nsIn K mainGlobals "tuple"=some none) (z_zip:PySem.W.nsIn K mainGlobals "zip"=some none) :
  ∃ fd:FuncData,(∀ (s:Shared) (u:Value),BindsTo s fd ⟨[u],[]⟩ [("_law_script",u)])/\∀ base:Heap,K.In base->base.Ns mainGlobals mg->FnOk P w K mg base CX0 16 fa fd ["_law_script"] (lift K pLaw):=by
 have VT:∀ p ∈ vaT,ValAt K p.1 p.2:=by
  intro p hp
  simp only [vaT,List.mem_cons,List.not_mem_nil,or_false] at hp
  rcases hp with rfl | rfl | rfl | rfl | rfl | rfl
  ·exact w_KEYWORDS
  ·exact w_LETTERS
  ·exact w_FIGURES
  ·exact w_MOST_LETTERS
  ·exact w_MOST_FIGURES
  ·exact w_NAMED
 have DT:∀ p ∈ dcT,DictAt w K p.1 p.2:=by
  intro p hp
  simp only [dcT,List.mem_cons,List.not_mem_nil,or_false] at hp
  rcases hp with rfl | rfl
  ·exact w_FORMS
  ·exact w_RANGES
 have NT:∀ y ∈ (["all","enumerate","int","isinstance","len","list","min","range","str","tuple","zip"]:List Str),PySem.W.nsIn K mainGlobals y=some none:=by
  intro y hy
  simp only [List.mem_cons,List.not_mem_nil,or_false] at hy
  rcases hy with rfl | rfl | rfl | rfl | rfl | rfl | rfl | rfl | rfl | rfl | rfl
  ·exact z_all
  ·exact z_enumerate
  ·exact z_int
  ·exact z_isinstance
  ·exact z_len
  ·exact z_list
  ·exact z_min
  ·exact z_range
  ·exact z_str
  ·exact z_tuple
  ·exact z_zip
 refine law_at X G d_law rfl hfa e_law (fun _ _ _ _ _ _ us hl=>match us,hl with | [_],_=>rfl) fun base kb nb f fd F hm=>?_
 have H_l_draw:Have P w K mg base Ψ 1 "_law_draw":=have_at X G d_l_draw cb_l_draw (by kernel_rfl) (fun _ _ _ _ _ _ us hl=>match us,hl with | [_,_,_],_=>rfl) (fun g hg=>by cases hg) (vals_ok X G VT DT (by kernel_rfl) (by kernel_rfl)) (fun y hy=>NT y (sub_of (by kernel_rfl) y hy)) (by rw [e_l_draw]; exact ok_draw )
 have H_l_name:Have P w K mg base Ψ 2 "_law_name":=have_at X G d_l_name cb_l_name (by kernel_rfl) (fun _ _ _ _ _ _ us hl=>match us,hl with | [_,_],_=>rfl) (fun g hg=>by simp only [n_l_name,List.mem_cons,List.not_mem_nil,or_false] at hg; rcases hg with rfl<;>first | exact H_l_draw.mono (by decide)) (vals_ok X G VT DT (by kernel_rfl) (by kernel_rfl)) (fun y hy=>NT y (sub_of (by kernel_rfl) y hy)) (by rw [e_l_name]; exact ok_name e_l_draw)
 have H_l_question:Have P w K mg base Ψ 3 "_law_question":=have_at X G d_l_question cb_l_question (by kernel_rfl) (fun _ _ _ _ _ _ us hl=>match us,hl with | [_,_],_=>rfl) (fun g hg=>by simp only [n_l_question,List.mem_cons,List.not_mem_nil,or_false] at hg; rcases hg with rfl | rfl<;>first | exact H_l_draw.mono (by decide) | exact H_l_name.mono (by decide)) (vals_ok X G VT DT (by kernel_rfl) (by kernel_rfl)) (fun y hy=>NT y (sub_of (by kernel_rfl) y hy)) (by rw [e_l_question]; exact ok_question e_l_draw e_l_name)
 have H_l_row:Have P w K mg base Ψ 4 "_law_row":=have_at X G d_l_row cb_l_row (by kernel_rfl) (fun _ _ _ _ _ _ us hl=>match us,hl with | [_,_,_],_=>rfl) (fun g hg=>by simp only [n_l_row,List.mem_cons,List.not_mem_nil,or_false] at hg; rcases hg with rfl<;>first | exact H_l_draw.mono (by decide)) (vals_ok X G VT DT (by kernel_rfl) (by kernel_rfl)) (fun y hy=>NT y (sub_of (by kernel_rfl) y hy)) (by rw [e_l_row]; exact ok_row e_l_draw)
 have H_words_in:Have P w K mg base Ψ 5 "words_in":=have_at X G d_words_in cb_words_in (by kernel_rfl) (fun _ _ _ _ _ _ us hl=>match us,hl with | [_],_=>rfl) (fun g hg=>by cases hg) (vals_ok X G VT DT (by kernel_rfl) (by kernel_rfl)) (fun y hy=>NT y (sub_of (by kernel_rfl) y hy)) (by rw [e_words_in]; exact ok_words_in )
 have H_is_made_of:Have P w K mg base Ψ 6 "is_made_of":=have_at X G d_is_made_of cb_is_made_of (by kernel_rfl) (fun _ _ _ _ _ _ us hl=>match us,hl with | [_,_],_=>rfl) (fun g hg=>by cases hg) (vals_ok X G VT DT (by kernel_rfl) (by kernel_rfl)) (fun y hy=>NT y (sub_of (by kernel_rfl) y hy)) (by rw [e_is_made_of]; exact ok_is_made_of )
 have H_is_word:Have P w K mg base Ψ 7 "is_word":=have_at X G d_is_word cb_is_word (by kernel_rfl) (fun _ _ _ _ _ _ us hl=>match us,hl with | [_],_=>rfl) (fun g hg=>by simp only [n_is_word,List.mem_cons,List.not_mem_nil,or_false] at hg; rcases hg with rfl<;>first | exact H_is_made_of.mono (by decide)) (vals_ok X G VT DT (by kernel_rfl) (by kernel_rfl)) (fun y hy=>NT y (sub_of (by kernel_rfl) y hy)) (by rw [e_is_word]; exact ok_is_word e_is_made_of v_LETTERS v_MOST_LETTERS)
 have H_is_name:Have P w K mg base Ψ 8 "is_name":=have_at X G d_is_name cb_is_name (by kernel_rfl) (fun _ _ _ _ _ _ us hl=>match us,hl with | [_],_=>rfl) (fun g hg=>by simp only [n_is_name,List.mem_cons,List.not_mem_nil,or_false] at hg; rcases hg with rfl<;>first | exact H_is_word.mono (by decide)) (vals_ok X G VT DT (by kernel_rfl) (by kernel_rfl)) (fun y hy=>NT y (sub_of (by kernel_rfl) y hy)) (by rw [e_is_name]; exact ok_is_name e_is_word v_KEYWORDS)
 have H_number_in:Have P w K mg base Ψ 9 "number_in":=have_at X G d_number_in cb_number_in (by kernel_rfl) (fun _ _ _ _ _ _ us hl=>match us,hl with | [_],_=>rfl) (fun g hg=>by simp only [n_number_in,List.mem_cons,List.not_mem_nil,or_false] at hg; rcases hg with rfl<;>first | exact H_is_made_of.mono (by decide)) (vals_ok X G VT DT (by kernel_rfl) (by kernel_rfl)) (fun y hy=>NT y (sub_of (by kernel_rfl) y hy)) (by rw [e_number_in]; exact ok_number_in e_is_made_of v_FIGURES v_MOST_FIGURES)
 have H_number_within:Have P w K mg base Ψ 10 "number_within":=have_at X G d_number_within cb_number_within (by kernel_rfl) (fun _ _ _ _ _ _ us hl=>match us,hl with | [_,_],_=>rfl) (fun g hg=>by simp only [n_number_within,List.mem_cons,List.not_mem_nil,or_false] at hg; rcases hg with rfl<;>first | exact H_number_in.mono (by decide)) (vals_ok X G VT DT (by kernel_rfl) (by kernel_rfl)) (fun y hy=>NT y (sub_of (by kernel_rfl) y hy)) (by rw [e_number_within]; exact ok_number_within e_number_in)
 have H_value_of:Have P w K mg base Ψ 11 "value_of":=have_at X G d_value_of cb_value_of (by kernel_rfl) (fun _ _ _ _ _ _ us hl=>match us,hl with | [_,_],_=>rfl) (fun g hg=>by simp only [n_value_of,List.mem_cons,List.not_mem_nil,or_false] at hg; rcases hg with rfl | rfl | rfl<;>first | exact H_is_name.mono (by decide) | exact H_is_word.mono (by decide) | exact H_number_within.mono (by decide)) (vals_ok X G VT DT (by kernel_rfl) (by kernel_rfl)) (fun y hy=>NT y (sub_of (by kernel_rfl) y hy)) (by rw [e_value_of]; exact ok_value_of e_is_name e_number_within v_NAMED v_RANGES)
 have H_values_by:Have P w K mg base Ψ 12 "values_by":=have_at X G d_values_by cb_values_by (by kernel_rfl) (fun _ _ _ _ _ _ us hl=>match us,hl with | [_,_],_=>rfl) (fun g hg=>by simp only [n_values_by,List.mem_cons,List.not_mem_nil,or_false] at hg; rcases hg with rfl<;>first | exact H_value_of.mono (by decide)) (vals_ok X G VT DT (by kernel_rfl) (by kernel_rfl)) (fun y hy=>NT y (sub_of (by kernel_rfl) y hy)) (by rw [e_values_by]; exact ok_values_by e_value_of)
 have H_question_of:Have P w K mg base Ψ 13 "question_of":=have_at X G d_question_of cb_question_of (by kernel_rfl) (fun _ _ _ _ _ _ us hl=>match us,hl with | [_,_],_=>rfl) (fun g hg=>by simp only [n_question_of,List.mem_cons,List.not_mem_nil,or_false] at hg; rcases hg with rfl<;>first | exact H_values_by.mono (by decide)) (vals_ok X G VT DT (by kernel_rfl) (by kernel_rfl)) (fun y hy=>NT y (sub_of (by kernel_rfl) y hy)) (by rw [e_question_of]; exact ok_question_of e_values_by v_FORMS)
 have H_placed_questions:Have P w K mg base Ψ 14 "placed_questions":=have_at X G d_placed_questions cb_placed_questions (by kernel_rfl) (fun _ _ _ _ _ _ us hl=>match us,hl with | [_],_=>rfl) (fun g hg=>by simp only [n_placed_questions,List.mem_cons,List.not_mem_nil,or_false] at hg; rcases hg with rfl | rfl<;>first | exact H_words_in.mono (by decide) | exact H_question_of.mono (by decide)) (vals_ok X G VT DT (by kernel_rfl) (by kernel_rfl)) (fun y hy=>NT y (sub_of (by kernel_rfl) y hy)) (by rw [e_placed_questions]; exact ok_placed_questions e_words_in e_question_of)
 have H_read_questions:Have P w K mg base Ψ 15 "read_questions":=have_at X G d_read_questions cb_read_questions (by kernel_rfl) (fun _ _ _ _ _ _ us hl=>match us,hl with | [_],_=>rfl) (fun g hg=>by simp only [n_read_questions,List.mem_cons,List.not_mem_nil,or_false] at hg; rcases hg with rfl<;>first | exact H_placed_questions.mono (by decide)) (vals_ok X G VT DT (by kernel_rfl) (by kernel_rfl)) (fun y hy=>NT y (sub_of (by kernel_rfl) y hy)) (by rw [e_read_questions]; exact ok_read_questions e_placed_questions)
 exact fn_def (R:=Ψ.sp "law") F cb_law (by kernel_rfl) (fun g hg=>by simp only [n_law,List.mem_cons,List.not_mem_nil,or_false] at hg; rcases hg with rfl | rfl | rfl | rfl<;>first | exact H_l_question.mono (by decide) | exact H_l_draw.mono (by decide) | exact H_l_row.mono (by decide) | exact H_read_questions.mono (by decide)) (vals_ok X G VT DT (by kernel_rfl) (by kernel_rfl)) (fun y hy=>PySem.W.mg_none_of X G (NT y (sub_of (by kernel_rfl) y hy))) (by rw [e_law]; exact ok_law e_l_question e_l_draw e_l_row e_read_questions)
end L2.L3.K60
open PySem PySem.W PyProof.Rows
set_option maxRecDepth 100000 in
set_option maxHeartbeats 0 in
theorem PySem.Challenge.cw_quoteweave_k60_questions_read_holds : PySem.Challenge.rw_quoteweave_k60_questions_read.Holds := by
 w_on; o_law; k_head; (case hw=>w_witness2)
 k_fill
 refine L2.L3.walk_bits (l:=PySem.Challenge.rw_quoteweave_k60_questions_read) (k:=16) (x:="_law_script") rfl rfl ⟨rfl,by decide,by decide⟩ (fun w h Y=>PySem.W.kIn_of Y) ?F
 case F =>
  intro w mg fa h KX G hmg
  refine' L2.L3.K60.all KX G hmg ?d0 ?d1 ?d2 ?d3 ?d4 ?d5 ?d6 ?d7 ?d8 ?d9 ?d10 ?d11 ?d12 ?d13 ?d14 ?d15 ?w0 ?w1 ?w2 ?w3 ?w4 ?w5 ?q0 ?q1 ?z0 ?z1 ?z2 ?z3 ?z4 ?z5 ?z6 ?z7 ?z8 ?z9 ?z10
  (case d0=>refine' L2.L3.def_at ?a0 ?l0 ?c0 ?k0; (case a0=>k_is); (case l0=>k_is); (case c0=>k_is); (case k0=>k_is))
  (case d1=>refine' L2.L3.def_at ?a1 ?l1 ?c1 ?k1; (case a1=>k_is); (case l1=>k_is); (case c1=>k_is); (case k1=>k_is))
  (case d2=>refine' L2.L3.def_at ?a2 ?l2 ?c2 ?k2; (case a2=>k_is); (case l2=>k_is); (case c2=>k_is); (case k2=>k_is))
  (case d3=>refine' L2.L3.def_at ?a3 ?l3 ?c3 ?k3; (case a3=>k_is); (case l3=>k_is); (case c3=>k_is); (case k3=>k_is))
  (case d4=>refine' L2.L3.def_at ?a4 ?l4 ?c4 ?k4; (case a4=>k_is); (case l4=>k_is); (case c4=>k_is); (case k4=>k_is))
  (case d5=>refine' L2.L3.def_at ?a5 ?l5 ?c5 ?k5; (case a5=>k_is); (case l5=>k_is); (case c5=>k_is); (case k5=>k_is))
  (case d6=>refine' L2.L3.def_at ?a6 ?l6 ?c6 ?k6; (case a6=>k_is); (case l6=>k_is); (case c6=>k_is); (case k6=>k_is))
  (case d7=>refine' L2.L3.def_at ?a7 ?l7 ?c7 ?k7; (case a7=>k_is); (case l7=>k_is); (case c7=>k_is); (case k7=>k_is))
  (case d8=>refine' L2.L3.def_at ?a8 ?l8 ?c8 ?k8; (case a8=>k_is); (case l8=>k_is); (case c8=>k_is); (case k8=>k_is))
  (case d9=>refine' L2.L3.def_at ?a9 ?l9 ?c9 ?k9; (case a9=>k_is); (case l9=>k_is); (case c9=>k_is); (case k9=>k_is))
  (case d10=>refine' L2.L3.def_at ?a10 ?l10 ?c10 ?k10; (case a10=>k_is); (case l10=>k_is); (case c10=>k_is); (case k10=>k_is))
  (case d11=>refine' L2.L3.def_at ?a11 ?l11 ?c11 ?k11; (case a11=>k_is); (case l11=>k_is); (case c11=>k_is); (case k11=>k_is))
  (case d12=>refine' L2.L3.def_at ?a12 ?l12 ?c12 ?k12; (case a12=>k_is); (case l12=>k_is); (case c12=>k_is); (case k12=>k_is))
  (case d13=>refine' L2.L3.def_at ?a13 ?l13 ?c13 ?k13; (case a13=>k_is); (case l13=>k_is); (case c13=>k_is); (case k13=>k_is))
  (case d14=>refine' L2.L3.def_at ?a14 ?l14 ?c14 ?k14; (case a14=>k_is); (case l14=>k_is); (case c14=>k_is); (case k14=>k_is))
  (case d15=>refine' L2.L3.def_at ?a15 ?l15 ?c15 ?k15; (case a15=>k_is); (case l15=>k_is); (case c15=>k_is); (case k15=>k_is))
  (case w0=>refine' L2.L3.val_strs ?wa0 ?wl0 ?wh0 ?wz0; (case wa0=>k_is); (case wl0=>k_is); (case wh0=>kernel_rfl); (case wz0=>decide))
  (case w1=>refine' L2.L3.val_str' ?wa1 ?we1; (case wa1=>k_is); (case we1=>kernel_rfl))
  (case w2=>refine' L2.L3.val_str' ?wa2 ?we2; (case wa2=>k_is); (case we2=>kernel_rfl))
  (case w3=>refine' L2.L3.val_int' ?wa3 ?we3; (case wa3=>k_is); (case we3=>kernel_rfl))
  (case w4=>refine' L2.L3.val_int' ?wa4 ?we4; (case wa4=>k_is); (case we4=>kernel_rfl))
  (case w5=>refine' L2.L3.val_strs ?wa5 ?wl5 ?wh5 ?wz5; (case wa5=>k_is); (case wl5=>k_is); (case wh5=>kernel_rfl); (case wz5=>decide))
  (case q0=>refine' L2.L3.dict_at ?qa0 ?ql0 ?qh0 ?qr0 ?qn0; (case qa0=>k_is); (case ql0=>k_is); (case qh0=>kernel_rfl); (case qr0=>refine' L2.L3.Ent.tup ?ra0x0 ?rb0x0 ?rc0x0 ?rd0x0; (case ra0x0=>k_is); (case rb0x0=>kernel_rfl); (case rc0x0=>decide); (case rd0x0=>refine' L2.L3.Ent.tup ?ra0x1 ?rb0x1 ?rc0x1 ?rd0x1; (case ra0x1=>k_is); (case rb0x1=>kernel_rfl); (case rc0x1=>decide); (case rd0x1=>refine' L2.L3.Ent.tup ?ra0x2 ?rb0x2 ?rc0x2 ?rd0x2; (case ra0x2=>k_is); (case rb0x2=>kernel_rfl); (case rc0x2=>decide); (case rd0x2=>refine' L2.L3.Ent.tup ?ra0x3 ?rb0x3 ?rc0x3 ?rd0x3; (case ra0x3=>k_is); (case rb0x3=>kernel_rfl); (case rc0x3=>decide); (case rd0x3=>refine' L2.L3.Ent.tup ?ra0x4 ?rb0x4 ?rc0x4 ?rd0x4; (case ra0x4=>k_is); (case rb0x4=>kernel_rfl); (case rc0x4=>decide); (case rd0x4=>refine' L2.L3.Ent.tup ?ra0x5 ?rb0x5 ?rc0x5 ?rd0x5; (case ra0x5=>k_is); (case rb0x5=>kernel_rfl); (case rc0x5=>decide); (case rd0x5=>refine' L2.L3.Ent.tup ?ra0x6 ?rb0x6 ?rc0x6 ?rd0x6; (case ra0x6=>k_is); (case rb0x6=>kernel_rfl); (case rc0x6=>decide); (case rd0x6=>refine' L2.L3.Ent.tup ?ra0x7 ?rb0x7 ?rc0x7 ?rd0x7; (case ra0x7=>k_is); (case rb0x7=>kernel_rfl); (case rc0x7=>decide); (case rd0x7=>refine' L2.L3.Ent.tup ?ra0x8 ?rb0x8 ?rc0x8 ?rd0x8; (case ra0x8=>k_is); (case rb0x8=>kernel_rfl); (case rc0x8=>decide); (case rd0x8=>refine' L2.L3.Ent.tup ?ra0x9 ?rb0x9 ?rc0x9 ?rd0x9; (case ra0x9=>k_is); (case rb0x9=>kernel_rfl); (case rc0x9=>decide); (case rd0x9=>refine' L2.L3.Ent.tup ?ra0x10 ?rb0x10 ?rc0x10 ?rd0x10; (case ra0x10=>k_is); (case rb0x10=>kernel_rfl); (case rc0x10=>decide); (case rd0x10=>refine' L2.L3.Ent.tup ?ra0x11 ?rb0x11 ?rc0x11 ?rd0x11; (case ra0x11=>k_is); (case rb0x11=>kernel_rfl); (case rc0x11=>decide); (case rd0x11=>refine' L2.L3.Ent.tup ?ra0x12 ?rb0x12 ?rc0x12 ?rd0x12; (case ra0x12=>k_is); (case rb0x12=>kernel_rfl); (case rc0x12=>decide); (case rd0x12=>refine' L2.L3.Ent.nil)))))))))))))); (case qn0=>kernel_rfl))
  (case q1=>refine' L2.L3.dict_at ?qa1 ?ql1 ?qh1 ?qr1 ?qn1; (case qa1=>k_is); (case ql1=>k_is); (case qh1=>kernel_rfl); (case qr1=>refine' L2.L3.Ent.tup ?ra1x0 ?rb1x0 ?rc1x0 ?rd1x0; (case ra1x0=>k_is); (case rb1x0=>kernel_rfl); (case rc1x0=>decide); (case rd1x0=>refine' L2.L3.Ent.tup ?ra1x1 ?rb1x1 ?rc1x1 ?rd1x1; (case ra1x1=>k_is); (case rb1x1=>kernel_rfl); (case rc1x1=>decide); (case rd1x1=>refine' L2.L3.Ent.tup ?ra1x2 ?rb1x2 ?rc1x2 ?rd1x2; (case ra1x2=>k_is); (case rb1x2=>kernel_rfl); (case rc1x2=>decide); (case rd1x2=>refine' L2.L3.Ent.tup ?ra1x3 ?rb1x3 ?rc1x3 ?rd1x3; (case ra1x3=>k_is); (case rb1x3=>kernel_rfl); (case rc1x3=>decide); (case rd1x3=>refine' L2.L3.Ent.tup ?ra1x4 ?rb1x4 ?rc1x4 ?rd1x4; (case ra1x4=>k_is); (case rb1x4=>kernel_rfl); (case rc1x4=>decide); (case rd1x4=>refine' L2.L3.Ent.nil)))))); (case qn1=>kernel_rfl))
  (case z0=>k_is)
  (case z1=>k_is)
  (case z2=>k_is)
  (case z3=>k_is)
  (case z4=>k_is)
  (case z5=>k_is)
  (case z6=>k_is)
  (case z7=>k_is)
  (case z8=>k_is)
  (case z9=>k_is)
  (case z10=>k_is)
