import PyProof.Rows.All
import Wide.All
import OpenK.AllK
import Wide.FinOn
import Lean
import PyProof.EqAt
import PyProof.EqKinds
import PyProof.TupleCall
import KE.KRevIter
import PyProof.JoinWalk
import PyProof.CollectIter
import PyProof.StrWalks
import PyProof.CompFree
import PyProof.CompMap
import PyProof.CompUse
import PyProof.SumAny
import KE.KIntText
import PyProof.P3Eq
import PyProof.StrLawsOcc
import PySem.Challenge.RW_framepost_k44_whole_any_signs
set_option Elab.async false
namespace TP
open PySem PySem.W PyProof.Rows
noncomputable def run (g:SharedT→Thread→Option (SharedT × Thread)) (c:Thread→Bool):Nat→SharedT→Thread→Option SharedT
  | 0,_,_=>none
  | k + 1,x,t=>match through t with
    | true=>some x
    | false=>match c t with
      | false=>none
      | true=>match g x t with
        | some y=>run g c k y.1 y.2
        | none=>none
theorem run_ok {T:String→Option Builtin} {p:Program} {w:World} {m:Nat} {v:Option Value}:∀ (k:Nat) (x y:SharedT) (t:Thread),run (stepT (denote T) p w) (stepOk m v) k x t=some y→topRun T p w m v k x.abs t=some y.abs:=by
  intro k
  induction k with
  | zero=>intro x y t e; cases e
  | succ k ih =>
    intro x y t e
    rw [run] at e
    rw [topRun]
    cases a:through t
    · cases b:stepOk m v t
      · simp only [a,b] at e; cases e
      · cases d:stepT (denote T) p w x t
        · simp only [a,b,d] at e; cases e
        · simp only [a,b,d] at e
          simp only [stepT_spec d]
          exact ih _ _ _ e
    · simp only [a] at e
      cases e
      rfl
noncomputable def tr (P:Params):BT:=((boot_heap P).objs.toList.foldl (fun (z:BT × Nat) o=>(z.1.ins z.2 o,z.2 + 1)) (.nil,0)).1
noncomputable def beg (w:World) (z:OsState):SharedT:=⟨tr w.params,11,(boot_heap w.params).life,Array.mk [],boot_drawn,boot_toks,z⟩
theorem beg_ok (w : World) : ((boot_heap w.params).isNs mainGlobals,(boot_heap w.params).objs.size,(boot_heap w.params).nsMap mainGlobals "__annotations__",absHeap (tr w.params) 11 (boot_heap w.params).life) = (true,11,some (.ref 6),boot_heap w.params) := by kernel_rfl
noncomputable def see (p:Program) {α β:Type} (F:Shared→α) (G:Shared→β) (w:World) (x:SharedT):Bool × α × β :=
  (staticsOk (importedModules p.main.body) (boot_heap w.params) x.abs.heap && namesBound p x.abs.heap && gensDone x.abs && laidKept (boot_heap w.params) x.abs.heap,F x.abs,G x.abs)
noncomputable def go (p:Program) (w:World) (N:Nat) (z:OsState):Option SharedT :=
  run (Fast.tw10156331382660048174 (Fast.tw11892475500146522536 Fast.tw14364793385576792824) p w) (Fast.tw6613529449190102663 11 (some (.ref 6))) N (beg w z) (topStub p)
theorem left {p q:Program} {lo:List Str} {Xt:Shared→Bool} {β:Type} {G:Shared→β} {Ga:World→β} {N:Nat} (e1:opening p=plainProg p.main.scope.names) (e2:Nat.ble 600 N=true) (e3:∀ s,fenceModules? p s=some s)
    (h:∀ w:World,(fun z=>(go p w N z).map (see p (Fast.tw4187177175401517315 q lo (importedModules p.main.body) Xt true) G w))=fun _=>some (true,openGood q lo,Ga w)):LeftO p q lo Xt G Ga N:=by
  intro w
  have A:=boot_open e1 e2 e3 w
  have Z:=beg_ok w
  simp only [Prod.mk.injEq] at Z
  obtain ⟨Z1,Z2,Z3,Z4⟩:=Z
  unfold openEnds
  cases B:fencedOpening treeTable p w N with
  | none=>rw [B] at A; cases A
  | some s =>
    obtain ⟨x1,x2,x3,x4,os⟩:=s
    rw [B] at A
    simp only [Option.map_some,Option.some.injEq,Prod.mk.injEq] at A
    obtain ⟨rfl,rfl,rfl,rfl⟩:=A
    have D:=congrFun (h w) os
    unfold go at D
    rw [← Fast.te10156331382660048174,← Fast.te11892475500146522536,← Fast.te14364793385576792824,← Fast.te6613529449190102663,← Fast.te4187177175401517315] at D
    generalize C:run _ _ _ _ _=r at D
    cases r with
    | none=>cases D
    | some y =>
      have D:=Option.some.inj D
      simp only [see,Prod.mk.injEq] at D
      obtain ⟨D1,D2,D3⟩:=D
      have R:=run_ok _ _ _ _ C
      rw [show (beg w os).abs=Shared.mk (absHeap (tr w.params) 11 (boot_heap w.params).life) (Array.mk []) boot_drawn boot_toks os from rfl,Z4] at R
      simp only [Option.bind_some,topFrom,Z1,Z2,Z3,R,D1]
      simp only [List.size_toArray,List.length_nil,beq_self_eq_true,Bool.and_self,Option.map_some,D2,D3]
def live (o:Obj):Option Obj:=match some o with
  | some ⟨_,_,.freed,_⟩=>none
  | o=>o
noncomputable def pick (l:List Obj):Nat→List Nat→List (Option Obj) :=
  @List.rec Obj (fun _=>Nat→List Nat→List (Option Obj)) (fun _ as=>as.map fun _=>none)
    (fun o _ ih i as=>@List.rec Nat (fun _=>List (Option Obj)) [] (fun a r _=>@Bool.rec (fun _=>List (Option Obj)) (ih (Nat.succ i) (a :: r)) (live o :: ih (Nat.succ i) r) (Nat.beq i a)) as) l
theorem pick_nil (i:Nat) (as:List Nat):pick [] i as=as.map fun _=>none:=rfl
theorem pick_cons (o:Obj) (l:List Obj) (i a:Nat) (r:List Nat):pick (o :: l) i (a :: r)=bif Nat.beq i a then live o :: pick l (i + 1) r else pick l (i + 1) (a :: r):=by
  show @Bool.rec (fun _=>List (Option Obj)) (pick l (Nat.succ i) (a :: r)) (live o :: pick l (Nat.succ i) r) (Nat.beq i a)=_
  cases Nat.beq i a <;> rfl
theorem pick_ok:∀ (l:List Obj) (i:Nat) (xs:List (Nat × Obj)),pick l i (xs.map (·.1))=xs.map (fun p=>some p.2)→∀ p ∈ xs,∃ k,p.1=i + k∧∃ o,l[k]?=some o∧live o=some p.2
  | _,_,[],_,p,m=>by cases m
  | [],i,(a,x) :: xs,e,p,m=>by
    simp [pick_nil] at e
  | o :: l,i,(a,x) :: xs,e,p,m=>by
    rw [List.map_cons,pick_cons] at e
    cases hb:Nat.beq i a with
    | false =>
      rw [hb] at e
      obtain ⟨k,h1,h2⟩:=pick_ok l (i + 1) ((a,x) :: xs) e p m
      exact ⟨k + 1,by omega,by simpa using h2⟩
    | true =>
      rw [hb] at e
      have hia:i=a:=Nat.eq_of_beq_eq_true hb
      simp only [cond_true,List.map_cons,List.cons.injEq] at e
      rcases List.mem_cons.mp m with rfl | m
      · exact ⟨0,by simp [hia],o,by simp,e.1⟩
      · obtain ⟨k,h1,h2⟩:=pick_ok l (i + 1) xs e.2 p m
        exact ⟨k + 1,by omega,by simpa using h2⟩
theorem lookup_mem {a:Nat} {o:Obj}:∀ {xs:List (Nat × Obj)},xs.lookup a=some o→(a,o) ∈ xs
  | [],e=>by cases e
  | (b,x) :: r,e=>by
    unfold List.lookup at e
    split at e
    · rename_i q; cases e; rw [beq_iff_eq.mp q]; exact List.mem_cons_self
    · exact List.mem_cons_of_mem _ (lookup_mem e)
theorem get_of {h:Heap} {a:Nat} {o x:Obj} (e:h.objs.toList[a]?=some o) (f:live o=some x):h.get? a=some x:=by
  have e':h.objs[a]?=some o:=by simpa using e
  unfold Heap.get?
  rw [e']
  exact f
theorem in_of {h:Heap} {xs:List (Nat × Obj)} {as:List Nat} (ea:as=xs.map (·.1)) (e:pick h.objs.toList 0 as=xs.map fun p=>some p.2) (a:Nat) (o:Obj) (l:xs.lookup a=some o):h.get? a=some o:=by
  subst ea
  obtain ⟨k,h1,o',h2,h3⟩:=pick_ok _ _ _ e _ (lookup_mem l)
  have:k=a:=by simpa using h1.symm
  subst this
  exact get_of h2 h3
noncomputable def hook (K:Params→PySem.W.Frag) (as:List Nat) (e:∀ P,as=(K P).map (·.1)):PySem.W.Hook :=
  ⟨List (Option Obj),fun s=>pick s.heap.objs.toList 0 as,fun w=>(K w.params).map fun p=>some p.2,PySem.W.InK K,fun w s x=>in_of (e _) x,PySem.W.InK.keeps⟩
theorem hook_in {K:Params→PySem.W.Frag} {as:List Nat} {e:∀ P,as=(K P).map (·.1)} {w:World} {h:Heap} (Y:(hook K as e).says w h):(K w.params).In h:=Y
end TP
def TP.q:PySem.Program:=PySem.W.view PySem.Challenge.pw_framepost_k44_whole_any_signs [47]
def TP.lo:List PySem.Str:=(PySem.Challenge.pw_framepost_k44_whole_any_signs.main.scope.names.map (·.1)).filter fun x=>!(x==PySem.Str.ofString "law"||x==PySem.Str.ofString "__name__")
theorem TP.said:PySem.Challenge.rw_framepost_k44_whole_any_signs.wellSaid=true:=by rw[PySem.W.Fast.te9446332074065402090]; kernel_rfl
section
open PySem PySem.W PyProof.Rows
local macro_rules|`(tactic|o_law)=>`(tactic|refine holds_law TP.said fun said=>?_)
local macro_rules|`(tactic|o_head ($_:ident $K:term $as:term $e:term))=>`(tactic|refine holds_open (q:=TP.q) (loose:=TP.lo) (Xt:=fun s=>xlAt TP.q [] s&&recOk [] s) (XP:=XL TP.q []) (Yf:=Hook.obs (TP.hook $K $as $e)) (Ya:=Hook.val (TP.hook $K $as $e)) (YP:=Hook.says (TP.hook $K $as $e)) (N:=14086) (TP.left (by kernel_rfl) (by kernel_rfl) (fun s=>by kernel_rfl) fun w=>by kernel_rfl) (Hook.of (TP.hook $K $as $e)) (Hook.keeps (TP.hook $K $as $e)) (fun s e=>xl_of s (Bool.and_eq_true_iff.mp e).1) XL.keeps (by rfl) (by rfl) (by rfl) (fun s e=>recFacts_of (Bool.and_eq_true_iff.mp e).2) (by rfl) (by first|assumption|decide+kernel) (by decide+kernel) ⟨rfl,rfl,rfl,rfl,rfl,by decide+kernel⟩ ?hw ?hc)
set_option maxRecDepth 100000 in
set_option maxHeartbeats 0 in
open_top TP.hd for PySem.Challenge.rw_framepost_k44_whole_any_signs
end
noncomputable section
open PySem.W renaming findIn→q00,keepIn→q01,codeIn→q03,Frag→q04,fnOf→q05,isFn→q06,nsIn→q10,mg_of→q14,hasDictIn→q20,plainGet→q22,plainOver→q24,makesIn→q25,emptyDict→q38,instObj→q47,mg_none_of→q62,specialIn→q64,Looks→q88,callWith_K→q89,methodCall_KW→q98,plainGet_of→qa7,callWith_K0→qa8,lookIn→qb2,methodObj→qb4
open List renaming length_append→q02,getElem?_eq_some_iff→q07,prefix_refl→q09,getElem?_set_ne→q12,getElem?_set_self→q15,getElem?_append_left→q16,size_toArray→q17,mem_cons_of_mem→q19,length_map→q21,getElem?_append_right→q27,lookup→q28,append_nil→q31,mem_cons→q32,getElem?_map→q33,getElem?_eq_getElem→q34,lookup_cons→q36,length_cons→q37,length_take→q39,mem_cons_self→q40,mem_append_right→q41,map_cons→q42,replicate→q45,getD_eq_getElem?_getD→q46,all_cons→q49,prefix_append→q53,mem_singleton→q54,mem_append→q58,mem_of_getElem?→q59,length_nil→q60,mem_of_find?_eq_some→q63,getElem?_take_of_lt→q65,length_set→q66,replicate_succ→q69,not_mem_nil→q71,getElem?_eq_none→q74,set_append_right→q79,getElem?_eq_none_iff→q83,length_pos_iff→q84,take_of_length_le→q93,take_add_one→q94,takeWhile_append_dropWhile→q95,length_singleton→q97,take_append_drop→qa0,length_drop→qa1,any_eq_true→qa2,take_length→qa3,filterMap_cons→qa5,nodup_cons→qa9,all_append→qb1,replicate_eq_nil_iff→qb3,flatten_cons→qb6
open Bool renaming and_eq_true→q08,false_ne_true→q18,eq_iff_iff→q52,false_eq_true→q72,or_eq_true→q75,not_eq_true'→q81
open Nat renaming le_refl→q11,lt_of_lt_of_le→q29,ne_of_lt→q50,le_trans→q57,lt_succ_self→q61,lt_irrefl→q67
open PySem.Heap renaming get?_push_of_some→q13,lt_size→q23,get?_push_size→q35,size_push→q96
open PySem renaming boot_len→q26,mem_of_lookup→q68,Builtin→qa4
open Option.some renaming inj→q30,injEq→q51
open PySem.F renaming plainAttrs_str→q43,slot_str_join→q76,slot_str_startswith→q77,type_str_startswith→q78,args_tuple_add_2→q85,slot_list_append→q86,type_list_append→q87,entry_tuple_add→q90,plainAttrs_list→q91,slot_tuple_add→q92,type_str_join→q99
open PyProof.Rows renaming slot_tuple_getitem→q44
open Option renaming map_some→q48,map_eq_some_iff→q55,bind_some→q70,isSome_iff_exists→qb5
open Ne renaming symm→q56
open Int renaming emod_lt_of_pos→q73,emod_nonneg→q80,toNat_natCast→q82,toNat_of_nonneg→qb0
open Array renaming length_toList→qa6
open PySem PySem.Spec PyProof.Rows
set_option Elab.async false
set_option linter.all false
set_option maxRecDepth 100000
set_option genSizeOfSpec false
set_option bootstrap.genMatcherCode false
set_option compiler.extract_closed false
namespace L2
abbrev vQ:=Sum Int Str
def E9:vQ→Value→Bool
 | .inl k,v=>Value.isInt k v
 | .inr x,v=>Value.isStrOf x v
def Yk (w:World):vQ→Int
 | .inl k=>hashInt k
 | .inr x=>hashStr w x
theorem g0:∀ {k:vQ} {v:Value},E9 k v=true→(∃ i t,k=Sum.inl i∧v=Value.int i t)∨(∃ x t,k=Sum.inr x∧v=Value.str x t)
 | .inl i,v,h=>by
  obtain⟨t,e⟩:=Value.isInt_shape (k:=i) (v:=v) h;exact .inl ⟨i,t,rfl,e⟩
 | .inr x,v,h=>by
  obtain⟨t,e⟩:=Value.isStrOf_shape (x:=x) (v:=v) h;exact .inr ⟨x,t,rfl,e⟩
theorem Go (a b:Int):decide ((Sum.inl a:vQ)=Sum.inl b)=(a==b):=by
 by_cases e:a=b
 ·subst e; simp
 ·have h:¬ (Sum.inl a:vQ)=Sum.inl b:=fun q=>e (Sum.inl.inj q)
  rw[decide_eq_false h];exact(beq_eq_false_iff_ne.mpr e).symm
theorem GR (a b:Str):decide ((Sum.inr a:vQ)=Sum.inr b)=decide (a=b):=by
 by_cases e:a=b
 ·subst e; simp
 ·have h:¬ (Sum.inr a:vQ)=Sum.inr b:=fun q=>e (Sum.inr.inj q)
  rw[decide_eq_false h,decide_eq_false e]
theorem G7 (a:Int) (b:Str):decide ((Sum.inl a:vQ)=Sum.inr b)=false:=decide_eq_false (fun q=>nomatch q)
theorem GC (a:Str) (b:Int):decide ((Sum.inr a:vQ)=Sum.inl b)=false:=decide_eq_false (fun q=>nomatch q)
def vo (prog:Program) (w:World):PySem.KeyKind prog w vQ where
 is:=E9
 hash:=Yk w
 inj:=fun v a b ha hb=>by
  rcases g0 ha with ⟨i,t,rfl,rfl⟩|⟨x,t,rfl,rfl⟩
  ·rcases g0 hb with ⟨j,u,rfl,e⟩|⟨y,u,rfl,e⟩
   ·injection e with e1 _; rw[e1]
   ·exact nomatch e
  ·rcases g0 hb with ⟨j,u,rfl,e⟩|⟨y,u,rfl,e⟩
   ·exact nomatch e
   ·injection e with e1 _; rw[e1]
 byValue:=fun k v h=>by
  rcases g0 h with ⟨i,t,rfl,rfl⟩|⟨x,t,rfl,rfl⟩<;>rfl
 pyHash:=fun hv h=>by
  rcases g0 hv with ⟨i,t,rfl,rfl⟩|⟨x,t,rfl,rfl⟩
  ·exact wpAny_pyHash_int h
  ·exact wpAny_pyHash_str h
 eqBool:=fun hu hv h=>by
  rcases g0 hu with ⟨i,t,rfl,rfl⟩|⟨x,t,rfl,rfl⟩
  ·rcases g0 hv with ⟨j,u,rfl,rfl⟩|⟨y,u,rfl,rfl⟩
   ·rw[Go] at h; exact wpAny_eqBool_int h
   ·rw[G7] at h; exact SeqAt.EqAt.int_str i t y u _ _ _ _ h
  ·rcases g0 hv with ⟨j,u,rfl,rfl⟩|⟨y,u,rfl,rfl⟩
   ·rw[GC] at h; exact SeqAt.EqAt.str_int x t j u _ _ _ _ h
   ·rw[GR] at h; exact wpAny_eqBool_str h
 «strs»:=fun k x t v h=>by
  rcases g0 h with ⟨i,u,rfl,e⟩|⟨y,u,rfl,e⟩
  ·exact nomatch e
  ·injection e with e1 _
   subst e1
   cases v<;>rfl
inductive V where
 | non|bl (b:Bool)|int (i:Int)|str (x:Str)|byt (b:Array UInt8)|flt (b:UInt64)|ref (a:Addr)|ty (n:String)
 deriving DecidableEq
def eU:V→Value→Prop
 | .non,u=>u=Value.none
 | .bl b,u=>u=Value.bool b
 | .int i,u=>∃ t,u=Value.int i t
 | .str x,u=>∃ t,u=Value.str x t
 | .byt b,u=>∃ t,u=Value.bytes b t
 | .flt b,u=>∃ t,u=Value.float b t
 | .ref a,u=>u=Value.ref a
 | .ty n,u=>u=Value.type n
abbrev dm:List V→List Value→Prop:=Paired eU
theorem dm.length {xs:List V} {us:List Value} (r:dm xs us):xs.length=us.length:=Paired.length r
theorem dm.get:∀ {xs:List V} {us:List Value} {i:Nat} {x:V},dm xs us→xs[i]?=some x→∃ u,us[i]?=some u∧eU x u
 | _,_,_,_,.nil,e=>by simp at e
 | _,_,0,_,.cons r _,e=>by simp at e; subst e; exact⟨_,rfl,r⟩
 | _,_,i+1,x,.cons _ t,e=>by
  obtain⟨u,h1,h2⟩:=dm.get (i:=i) (x:=x) t (by simpa using e);exact⟨u,by simpa using h1,h2⟩
theorem dm.set {x:V} {u:Value} (r:eU x u):∀ {xs:List V} {us:List Value} (i:Nat),dm xs us→dm (xs.set i x) (us.set i u)
 | _,_,_,.nil=>.nil
 | _,_,0,.cons _ t=>.cons r t
 | _,_,i+1,.cons q t=>.cons q (dm.set r i t)
theorem dm.append:∀ {xs ys:List V} {us ws:List Value},dm xs us→dm ys ws→dm (xs++ys) (us++ws)
 | _,_,_,_,.nil,s=>s
 | _,_,_,_,.cons r t,s=>.cons r (dm.append t s)
theorem dm.take:∀ {xs:List V} {us:List Value} (n:Nat),dm xs us→dm (xs.take n) (us.take n)
 | _,_,0,_=>.nil
 | _,_,_+1,.nil=>.nil
 | _,_,n+1,.cons r t=>.cons r (dm.take n t)
theorem dm.drop:∀ {xs:List V} {us:List Value} (n:Nat),dm xs us→dm (xs.drop n) (us.drop n)
 | _,_,0,r=>r
 | _,_,_+1,.nil=>.nil
 | _,_,n+1,.cons _ t=>dm.drop n t
def tO:Option V→Option Value→Prop
 | some v,some u=>eU v u
 | none,none=>True
 | _,_=>False
def KV {κ:Type}:List (κ×V)→List (κ×Value)→Prop:=Paired fun (p:κ×V) (q:κ×Value)=>p.1=q.1∧eU p.2 q.2
def kV:vQ→V
 | .inl i=>.int i
 | .inr x=>.str x
inductive HO where
  | lst (xs:List V)
  | tup (xs:List V)
  | dK (kvs:List (vQ×V))|dT (kvs:List (List vQ×V))
  | set (S:Int→Bool) (n:Nat)
  | ins (C dx:Addr) (fs:List (Str×V))
  | own (x:Addr)
  | xd (fs:List (Str×V))
  | met (f x:Addr)
  | rng (lo hi:Int)
  | frz (o:Obj) (u:HO)
  | tbl (ps:Array Value)
  | ext (φ:Heap→Prop)
abbrev Hp:=Addr→Option HO
def gL (H:Hp) (a:Addr) (o:HO):Hp:=fun b=>if b=a then some o else H b
theorem j6 {H:Hp} {a:Addr} {o:HO}:gL H a o a=some o:=by unfold gL; rw[if_pos rfl]
theorem fJ {H:Hp} {a b:Addr} {o:HO} (h:b≠a):gL H a o b=H b:=by unfold gL; rw[if_neg h]
theorem kZ {H:Hp} {a b:Addr} {o:HO} (h:H a=some o) (h':H b=none):a≠b:=by
 intro e; subst e; rw[h] at h'; cases h'
section
variable (P:Program) (w:World)
def lq (H:Hp) (h:Heap) (a:Addr):HO→Prop
 | .lst xs=>xs.length≤sizeLine∧∃ (its:List Value) (n:Nat),dm xs its∧h.get? a=some { cls:=.type "list",data:=.seq its.toArray n }
 | .tup xs=>xs.length≤sizeLine∧∃ its:List Value,dm xs its∧IsTup h a its.toArray
 | .dK kvs=>kvs.length≤sizeLine∧(a==sysModules)=false∧∃ vs,KV kvs vs∧h.DictOf (vo P w) a vs
 | .dT kvs=>kvs.length≤sizeLine∧(a==sysModules)=false∧∃ xs:List (List vQ×Addr×Value),
   Paired (fun (p:List vQ×V) (q:List vQ×Addr×Value)=>p.1=q.1∧H q.2.1=some (.tup (p.1.map kV))∧eU p.2 q.2.2) kvs xs∧
   ∃ o es ep,h.get? a=some o∧o.ExactDict∧o.data=.dict es ep∧es.toList=xs.map (entryOfKey (tupleKind (vo P w)))∧(xs.map (·.1)).Nodup
 | .set S n=>h.SetOf (intKind P w) a S n
 | .ins C dx fs=>H dx=some (.own a)∧fs.length≤1000∧dx≠a∧h.get? a=some (q47 C dx)∧
   ∃ mA,h.Ns1 dx mA∧(∀ f,tO (fs.lookup f) (mA f))∧PySem.Within mA (fs.map (·.1))
 | .own _=>∃ o,h.get? a=some o
 | .xd fs=>∃ mA,h.Ns1 a mA∧∀ f,tO (fs.lookup f) (mA f)
 | .rng lo hi=>∃ t u v,h.get? a=some { cls:=.type "range",data:=.fields #[.int lo t,.int hi u,.int 1 v] }
 | .frz o u=>h.get? a=some o∧lq H h a u
 | .tbl ps=>h.get? a=some { cls:=.none,data:=.fields ps }
 | .met f x=>h.get? a=some (qb4 (.ref f) (.ref x))
 | .ext φ=>φ h∧(∃ o,h.get? a=some o)∧∀ h1 h2:Heap,φ h1→(∀ o,h1.get? a=some o→h2.get? a=some o)→φ h2
def rV (H:Hp) (h:Heap):Prop:=∀ a o,H a=some o→lq P w H h a o
end
section
variable {P:Program} {w:World} {H H':Hp} {h h':Heap} {a:Addr} {o:HO}
theorem lq.lt (x:lq P w H h a o):a<h.objs.size:=by
 cases o with
 | lst xs=>obtain⟨_,_,_,_,e⟩:=x; exact q23 e
 | tup xs=>obtain⟨_,_,_,p⟩:=x; exact p.lt
 | dK kvs=>obtain⟨_,_,_,_,o,_,_,e,_⟩:=x; exact q23 e
 | dT kvs=>obtain⟨_,_,_,_,o,_,_,e,_⟩:=x; exact q23 e
 | set S n=>obtain⟨o,_,_,_,e,_⟩:=x; exact q23 e
 | ins C dx fs=>obtain⟨_,_,_,e,_⟩:=x; exact q23 e
 | own y=>obtain⟨_,e⟩:=x; exact q23 e
 | xd fs=>obtain⟨_,⟨_,_,_,e,_⟩,_⟩:=x; exact q23 e
 | rng lo hi=>obtain⟨_,_,_,e⟩:=x; exact q23 e
 | frz ob u=>obtain⟨e,_⟩:=x; exact q23 e
 | tbl ps=>exact q23 (show h.get? a=some _ from x)
 | met f y=>exact q23 (show h.get? a=some _ from x)
 | ext φ=>obtain⟨_,⟨_,e⟩,_⟩:=x; exact q23 e
theorem Paired.mapP {α β:Type} {F G:α→β→Prop}:∀ {l₁:List α} {l₂:List β},Paired F l₁ l₂→(∀ a b,F a b→G a b)→Paired G l₁ l₂
 | _,_,.nil,_=>.nil
 | _,_,.cons r t,f=>.cons (f _ _ r) (Paired.mapP t f)
theorem lq.stay (x:lq P w H h a o) (k:∀ b u,(b=a∨H b=some (.own a))→h.get? b=some u→h'.get? b=some u)
  (ho:∀ b,H b=some (.own a)→H' b=some (.own a)) (ht:∀ b xs,H b=some (.tup xs)→H' b=some (.tup xs)):lq P w H' h' a o:=by
 induction o with
 | lst xs=>obtain⟨z,its,n,r,e⟩:=x; exact⟨z,its,n,r,k _ _ (.inl rfl) e⟩
 | tup xs=>obtain⟨z,its,r,ob,e,c⟩:=x; exact⟨z,its,r,ob,k _ _ (.inl rfl) e,c⟩
 | dK kvs=>obtain⟨z,y,vs,r,ob,es,ep,e,c⟩:=x; exact⟨z,y,vs,r,ob,es,ep,k _ _ (.inl rfl) e,c⟩
 | dT kvs=>
  obtain⟨z,y,xs,r,ob,es,ep,e,c⟩:=x;exact⟨z,y,xs,Paired.mapP r fun p q z=>⟨z.1,ht _ _ z.2.1,z.2.2⟩,ob,es,ep,k _ _ (.inl rfl) e,c⟩
 | set S n=>obtain⟨ob,es,ep,t,e,c⟩:=x; exact⟨ob,es,ep,t,k _ _ (.inl rfl) e,c⟩
 | ins C dx fs=>
  obtain⟨d,z,ne,e,mA,⟨od,es,ep,e2,c⟩,r⟩:=x;exact⟨ho _ d,z,ne,k _ _ (.inl rfl) e,mA,⟨od,es,ep,k _ _ (.inr d) e2,c⟩,r⟩
 | own y=>obtain⟨ob,e⟩:=x; exact⟨ob,k _ _ (.inl rfl) e⟩
 | xd fs=>obtain⟨mA,⟨od,es,ep,e,c⟩,r⟩:=x; exact⟨mA,⟨od,es,ep,k _ _ (.inl rfl) e,c⟩,r⟩
 | rng lo hi=>obtain⟨t,u,v,e⟩:=x; exact⟨t,u,v,k _ _ (.inl rfl) e⟩
 | frz ob u ih=>obtain⟨e,q⟩:=x; exact⟨k _ _ (.inl rfl) e,ih q⟩
 | tbl ps=>
  have e:h.get? a=some { cls:=.none,data:=.fields ps }:=x
  show h'.get? a=some { cls:=.none,data:=.fields ps }
  exact k a _ (.inl rfl) e
 | met f y=>
  have e:h.get? a=some (qb4 (.ref f) (.ref y)):=x;show h'.get? a=some (qb4 (.ref f) (.ref y));exact k a _ (.inl rfl) e
 | ext φ=>obtain⟨p,⟨o,e⟩,st⟩:=x; exact⟨st _ _ p fun o q=>k _ _ (.inl rfl) q,⟨o,k _ _ (.inl rfl) e⟩,st⟩
theorem rV.lt (x:rV P w H h) (e:H a=some o):a<h.objs.size:=(x a o e).lt
theorem rV.fresh (x:rV P w H h) (e:h.objs.size≤a):H a=none:=by
 cases q:H a with
 | none=>rfl
 | some u=>exact absurd (q29 (x.lt q) e) (q67 _)
theorem rV.kept (x:rV P w H h) (k:∀ b u,h.get? b=some u→h'.get? b=some u):rV P w H h':=fun a o e=>
 (x a o e).stay (fun b u _ q=>k b u q) (fun _ q=>q) fun _ _ q=>q
theorem rV.laid (x:rV P w H h) (k:∀ b u,h.get? b=some u→h'.get? b=some u) (hp:h.objs.size≤a) (new:lq P w (gL H a o) h' a o):rV P w (gL H a o) h':=fun b u e=>by
 have hn:=x.fresh hp
 by_cases hb:b=a
 ·subst hb; rw[j6] at e; cases e; exact new
 ·rw[fJ hb] at e
  exact(x b u e).stay (fun c v _ q=>k c v q) (fun c q=>by rw[fJ (kZ q hn)]; exact q) fun c xs q=>by rw[fJ (kZ q hn)]; exact q
end
def Rd (H:Hp) (a:Addr) (u:HO):Prop:=H a=some u∨∃ o,H a=some (.frz o u)
theorem Rd.ok {P:Program} {w:World} {H:Hp} {h:Heap} {a:Addr} {u:HO} (r:Rd H a u) (x:rV P w H h):lq P w H h a u:=by
 rcases r with r|⟨o,r⟩
 ·exact x a u r
 ·obtain⟨_,q⟩:=x a _ r
  exact q
def DR:Option HO→Prop
 | some (.lst _)=>True
 | some (.dK _)=>True
 | some (.dT _)=>True
 | some (.set _ _)=>True
 | some (.ins _ _ _)=>True
 | some (.ext _)=>True
 | _=>False
section
variable {P:Program} {w:World} {H:Hp} {h h':Heap} {x e:Addr} {o':HO}
theorem rV.write (ok:rV P w H h) (mu:DR (H x)) (he:e=x∨H e=some (.own x)) (k:∀ b u,b≠e→h.get? b=some u→h'.get? b=some u) (heo:∃ u,h'.get? e=some u)
  (new:lq P w (gL H x o') h' x o'):rV P w (gL H x o') h':=fun b u q=>by
 have nown:∀ c y,H c=some (.own y)→c≠x:=fun c y r z=>by subst z; rw[r] at mu; exact mu
 have ntup:∀ c xs,H c=some (.tup xs)→c≠x:=fun c xs r z=>by subst z; rw[r] at mu; exact mu
 by_cases hb:b=x
 ·subst hb; rw[j6] at q; cases q; exact new
 ·rw[fJ hb] at q
  by_cases hbe:b=e
  ·have q':H b=some (.own x):=by
    rcases he with z|z
    ·exact absurd (hbe.trans z) hb
    ·rw[hbe]; exact z
   rw[q] at q'; cases q'
   obtain⟨v,hv⟩:=heo;exact⟨v,by rw[hbe]; exact hv⟩
  ·refine(ok b u q).stay (fun c v hc r=>k c v ?_ r) (fun c r=>by rw[fJ (nown c b r)]; exact r) fun c xs r=>by rw[fJ (ntup c xs r)]; exact r
   rcases hc with rfl|hc
   ·exact hbe
   ·rintro rfl
    rcases he with z|z
    ·exact nown c b hc z
    ·rw[hc] at z; cases z; exact hb rfl
end
structure Un (fs ex:List Addr) (H H':Hp) (h h':Heap):Prop where
 keep:∀ b o,h.get? b=some o→H b=none→b∉fs→b∉ex→h'.get? b=some o
 slot:∀ b o,h.get? b=some o→H b=none→b∈fs→b∉ex→∃ sl,h'.get? b=some { o with slots:=sl }
 free:∀ b o,h.get? b=some o→H b=none→b∉ex→H' b=none
 there:∀ b o,h.get? b=some o→b∉ex→∃ o',h'.get? b=some o'
 tups:∀ b xs,H b=some (.tup xs)→H' b=some (.tup xs)
 frzs:∀ b o u,H b=some (.frz o u)→H' b=some (.frz o u)
 tbls:∀ b ps,H b=some (.tbl ps)→∃ more,H' b=some (.tbl (ps++more))
section
variable {fs fs' ex ex':List Addr} {H H1 H2:Hp} {h h1 h2 h':Heap} {a x e:Addr} {o:HO}
theorem Un.any (u:Un fs ex H H1 h h1) {b:Addr} {ob:Obj} (q:h.get? b=some ob) (n:H b=none) (hx:b∉ex):∃ sl,h1.get? b=some { ob with slots:=sl }:=by
 by_cases hb:b∈fs
 ·exact u.slot b ob q n hb hx
 ·exact⟨ob.slots,u.keep b ob q n hb hx⟩
theorem Un.kept (k:∀ b u,h.get? b=some u→h'.get? b=some u):Un fs ex H H h h':=
 ⟨fun b ob q _ _ _=>k b ob q,fun b ob q _ _ _=>⟨ob.slots,k b ob q⟩,fun _ _ _ n _=>n,fun b ob q _=>⟨ob,k b ob q⟩,fun _ _ q=>q,fun _ _ _ q=>q,fun _ ps q=>⟨#[],by rw[q]; simp⟩⟩
theorem Un.refl:Un fs ex H H h h:=Un.kept fun _ _ q=>q
theorem Un.laid (k:∀ b u,h.get? b=some u→h'.get? b=some u) (hp:h.objs.size≤a) (hn:H a=none):Un fs ex H (gL H a o) h h' where
 keep:=fun b u q _ _ _=>k b u q
 slot:=fun b u q _ _ _=>⟨u.slots,k b u q⟩
 free:=fun b u q n _=>by rw[fJ (q50 (q29 (q23 q) hp))]; exact n
 there:=fun b u q _=>⟨u,k b u q⟩
 tups:=fun b xs q=>by rw[fJ (kZ q hn)]; exact q
 frzs:=fun b u xs q=>by rw[fJ (kZ q hn)]; exact q
 tbls:=fun b ps q=>⟨#[],by rw[fJ (kZ q hn),q]; simp⟩
theorem Un.write (mu:DR (H x)) (he:e=x∨H e=some (.own x)) (k:∀ b u,b≠e→h.get? b=some u→h'.get? b=some u) (heo:∃ u,h'.get? e=some u):Un fs ex H (gL H x o) h h':=by
 have hx:∀ b,H b=none→b≠x:=fun b n z=>by subst z; rw[n] at mu; exact mu
 have hb:∀ b,H b=none→b≠e:=fun b n z=>by
  subst z
  rcases he with r|r
  ·exact hx b n r
  ·rw[n] at r; cases r
 have hm:∀ b u,H b=some u→¬ DR (some u)→b≠x:=fun b u q nm z=>by subst z; rw[q] at mu; exact nm mu
 refine⟨fun b u q n _ _=>k b u (hb b n) q,fun b u q n _ _=>⟨u.slots,k b u (hb b n) q⟩,fun b u q n _=>by rw[fJ (hx b n)]; exact n,fun b u q _=>?_,
  fun b xs q=>by rw[fJ (hm b _ q fun z=>z)]; exact q,fun b u xs q=>by rw[fJ (hm b _ q fun z=>z)]; exact q,fun b ps q=>⟨#[],by rw[fJ (hm b _ q fun z=>z),q]; simp⟩⟩
 by_cases hbe:b=e
 ·subst hbe; exact heo
 ·exact⟨u,k b u hbe q⟩
end
def Nw (h:Heap) (H:Hp):List Addr:=(List.range h.objs.size).filter fun a=>(H a).isSome
def u7 (h:Heap) (H:Hp):Heap:=PySem.W.hideAll h (Nw h H)
theorem zH (h:Heap) (H:Hp):(u7 h H).objs.size=h.objs.size:=PySem.W.hideAll_size _ _
theorem Cz {h:Heap} {H:Hp} {b:Addr} {o:Obj} (e:h.get? b=some o) (n:H b=none):(u7 h H).get? b=some o:=
 PySem.W.hideAll_get _ e fun hm=>by
  have q:(H b).isSome=true:=(List.mem_filter.mp hm).2;rw[n] at q; simp at q
theorem DS {h:Heap} {H:Hp} {b:Addr} {o:Obj} (e:(u7 h H).get? b=some o):h.get? b=some o∧H b=none:=by
 have e':h.get? b=some o:=PySem.W.of_hideAll (Nw h H) e;refine⟨e',?_⟩
 cases q:H b with
 | none=>rfl
 | some x=>
  have hm:b∈Nw h H:=List.mem_filter.mpr ⟨List.mem_range.mpr (q23 e'),by simp[q]⟩;have z:(u7 h H).get? b=none:=PySem.W.hideAll_none (Nw h H) hm
  rw[z] at e; cases e
def EA (g h:Heap) (L:Addr):List (Addr×Obj):=(List.range h.objs.size).filterMap fun a=>if a=L∨(g.get? a).isSome=true then none else (h.get? a).map fun o=>(a,o)
def rest (g h:Heap) (L d:Addr):List (Addr×Obj):=(EA g h L).filter fun p=>decide (p.1≠d)
structure Mod (K:q04) (mg:Str→Option Value) (base:Heap):Prop where
 kin:K.In base
 glob:base.Ns mainGlobals mg
 blt:∃ mb,base.Ns builtinsNs mb∧∀ x:Str,x≠"__name__"→mb x=bootBuiltins x
 nolimit:base.NoLimit
structure Cx where
 prog:Program
 w:World
 K:q04
 mg:Str→Option Value
 base:Heap
 A:Around
 N:List Str
 s₀:Shared
 H₀:Hp
 env:Env
 outer:List Env
 stack:List Env
 ex:List Addr
 fn:Str→Bool
 calm:Bool
 pn:List (Addr×Obj)
 xe:Value→Shared→Prop
def A8 (l:List Env):List Addr:=l.filterMap (·.frame)
abbrev Cx.fs (X:Cx):List Addr:=A8 X.outer
def Vis (sc:Scope) (x:Str):Prop:=sc.names.lookup x=some .local∨sc.names.lookup x=some .cell∨sc.names.lookup x=some .free
def HQ (sc:Scope) (x:Str):Prop:=sc.names.lookup x=some .local∨sc.names.lookup x=some .cell
def P6 (env:Env) (h:Heap) (m:Str→Option Value) (x:Str) (u:Value):Prop:=
 (env.kindOf x=some .local∧m x=some u)∨((env.kindOf x=some .cell∨env.kindOf x=some .free)∧∃ c,env.cells.lookup x=some c∧h.IsCell c (some u))
structure Cx.Ok (X:Cx):Prop where
 mod:Mod X.K X.mg X.base
 kind:X.env.scope.kind=.function
 glob:X.env.globals=mainGlobals
 blt:X.env.builtins=builtinsNs
 above:X.s₀.heap.objs.size≤X.env.locals
 inj:∀ x y c,X.env.cells.lookup x=some c→X.env.cells.lookup y=some c→x=y
 has:∀ x,(X.env.kindOf x=some .cell∨X.env.kindOf x=some .free)→∃ c,X.env.cells.lookup x=some c
 cab:∀ x c,X.fn x=true→X.env.cells.lookup x=some c→X.s₀.heap.objs.size≤c
 hd:X.calm=true→X.A.handled=none
 frames:X.A.frames=some X.stack
 stk:X.stack=X.outer∨(X.stack=X.env::X.outer∧X.env.frame=some X.env.locals)
 exf:∀ b∈X.ex,b≠X.env.locals∧∀ x c,X.env.cells.lookup x=some c→c≠b
 bs:∀ b o,X.base.get? b=some o→X.s₀.heap.get? b=some o∧X.H₀ b=none
 bsz:X.base.objs.size≤X.s₀.heap.objs.size
 noex:∀ b o,X.base.get? b=some o→b∉X.ex
 exfs:∀ b∈X.ex,b∉X.fs
 funs:X.s₀.heap.FunFrames X.base X.outer
 frf:∀ b∈X.fs,X.H₀ b=none
structure b9 (X:Cx) (pq:List (Addr×Obj)) (σ:List (Option V)) (H:Hp) (s:Shared):Prop where
 ok:X.Ok
 os:s.os=X.s₀.os
 bare:AllBare s.gens
 base:Un X.fs X.ex X.H₀ H X.s₀.heap s.heap
 loc:∃ m,s.heap.Ns X.env.locals m∧∀ (i:Nat) (x:Str) (v:V),X.N[i]?=some x→σ[i]?=some (some v)→Vis X.env.scope x→∃ u,eU v u∧P6 X.env s.heap m x u
 cell:∀ x c,X.env.cells.lookup x=some c→∃ v,s.heap.IsCell c v
 free:H X.env.locals=none
 freeC:∀ x c,X.env.cells.lookup x=some c→H c=none
 pin:∀ p∈X.pn++pq,s.heap.get? p.1=some p.2∧H p.1=none∧p.1≠X.env.locals∧p.1∉X.fs∧∀ v,p.2.data≠.cell v
 hok:rV X.prog X.w H s.heap
 len:σ.length=X.N.length
section
variable {X:Cx} {pq:List (Addr×Obj)} {σ:List (Option V)} {H H':Hp} {s:Shared} {h':Heap}
theorem Cx.Ok.nofr (ok:X.Ok) {b:Addr} {o:Obj} (e:X.base.get? b=some o):b∉X.fs:=fun hb=>by
 have:=(ok.funs.mem hb).1
 rw[e] at this; cases this
theorem b9.bs (I:b9 X pq σ H s):∀ b o,X.base.get? b=some o→s.heap.get? b=some o∧H b=none:=fun b o e=>
 ⟨I.base.keep b o (I.ok.bs b o e).1 (I.ok.bs b o e).2 (I.ok.nofr e) (I.ok.noex b o e),I.base.free b o (I.ok.bs b o e).1 (I.ok.bs b o e).2 (I.ok.noex b o e)⟩
theorem b9.bk (I:b9 X pq σ H s):∀ b o,X.base.get? b=some o→s.heap.get? b=some o:=fun b o e=>(I.bs b o e).1
theorem b9.mod (I:b9 X pq σ H s):Mod X.K X.mg X.base:=I.ok.mod
theorem b9.kIn (I:b9 X pq σ H s):X.K.In s.heap:=I.ok.mod.kin.keeps I.bk
theorem b9.lt (I:b9 X pq σ H s):X.env.locals<s.heap.objs.size:=let ⟨_,hn,_⟩:=I.loc; hn.lt
theorem b9.sz (I:b9 X pq σ H s):X.s₀.heap.objs.size≤s.heap.objs.size:=q57 I.ok.above (Nat.le_of_lt I.lt)
theorem b9.nofs (I:b9 X pq σ H s) {a:Addr} (h:s.heap.objs.size≤a):a∉X.fs:=fun hb=>by
 obtain⟨_,o,ho,_⟩:=I.ok.funs.mem hb;exact absurd (q29 (q23 ho) (q57 I.sz h)) (q67 _)
theorem b9.cne (I:b9 X pq σ H s):∀ x c,X.env.cells.lookup x=some c→c≠X.env.locals:=fun x c e z=>by
 obtain⟨v,o,ho,hd⟩:=I.cell x c e;obtain⟨m,⟨o',es,ep,ho',hd',_⟩,_⟩:=I.loc
 rw[z,ho'] at ho; cases ho; rw[hd'] at hd; cases hd
theorem b9.funs (I:b9 X pq σ H s):s.heap.FunFrames X.base X.outer:=by
 have all:∀ (l:List Env),(∀ b∈A8 l,b∈X.fs)→X.s₀.heap.FunFrames X.base l→s.heap.FunFrames X.base l:=by
  intro l
  induction l with
  | nil=>intro _ _; trivial
  | cons env r ih=>
   intro hs hl;obtain⟨hk,⟨L,o,hf,hn,ho,hd⟩,hr⟩:=hl;have hL:L∈X.fs:=hs L (by unfold A8; rw[qa5,hf]; exact q40)
   obtain⟨sl,e⟩:=I.base.slot L o ho (I.ok.frf L hL) hL fun z=>I.ok.exfs L z hL
   exact⟨hk,⟨L,_,hf,hn,e,hd⟩,ih (fun b hb=>hs b (by unfold A8; rw[qa5,hf]; exact q19 _ hb)) hr⟩
 exact all X.outer (fun _ hb=>hb) I.ok.funs
theorem b9.stack (I:b9 X pq σ H s):s.heap.FunFrames X.base X.stack:=by
 rcases I.ok.stk with e|⟨e,hf⟩
 ·rw[e]; exact I.funs
 ·rw[e]
  obtain⟨m,hn,_⟩:=I.loc;refine .cons (by rw[I.ok.kind]; decide) hf hn ?_ I.funs;exact Heap.get?_none_of_le (q57 I.ok.bsz I.ok.above)
theorem b9.stkSub (I:b9 X pq σ H s):∀ b∈A8 X.stack,b∈X.env.locals::X.fs:=fun b hb=>by
 rcases I.ok.stk with e|⟨e,hf⟩
 ·rw[e] at hb; exact q19 _ hb
 ·rw[e] at hb
  unfold A8 at hb;rw[qa5,hf] at hb;exact hb
theorem b9.stkFree (I:b9 X pq σ H s):∀ b∈A8 X.stack,H b=none:=fun b hb=>by
 rcases q32.mp (I.stkSub b hb) with e|hb
 ·rw[e]; exact I.free
 ·obtain⟨_,o,ho,_⟩:=I.ok.funs.mem hb
  exact I.base.free b o ho (I.ok.frf b hb) fun z=>I.ok.exfs b z hb
theorem b9.step {g':Array GenState} {t':Nat} {d':Drawn} {ch:List Addr} (I:b9 X pq σ H s)
  (hch:∀ b∈ch,(b∈X.ex∨X.s₀.heap.objs.size≤b)∧b≠X.env.locals∧(∀ x c,X.env.cells.lookup x=some c→c≠b)∧∀ p∈X.pn++pq,p.1≠b)
  (keep:∀ b o,b≠X.env.locals→b∉X.fs→b∉ch→s.heap.get? b=some o→H b=none→h'.get? b=some o)
  (slot:∀ b o,b≠X.env.locals→b∈X.fs→b∉ch→s.heap.get? b=some o→H b=none→∃ sl,h'.get? b=some { o with slots:=sl }) (free:∀ b o,b∉ch→s.heap.get? b=some o→H b=none→H' b=none)
  (there:∀ b o,b∉ch→s.heap.get? b=some o→∃ o',h'.get? b=some o')
  (tups:∀ b xs,H b=some (.tup xs)→H' b=some (.tup xs)) (frzs:∀ b o u,H b=some (.frz o u)→H' b=some (.frz o u)) (tbls:∀ b ps,H b=some (.tbl ps)→∃ more,H' b=some (.tbl (ps++more)))
  (ns:∀ m,s.heap.Ns X.env.locals m→h'.Ns X.env.locals m) (hok:rV X.prog X.w H' h') (hg:AllBare g') :
  b9 X pq σ H' { s with heap:=h',gens:=g',drawn:=d',toks:=t' }:=by
 have neL:∀ b o,X.s₀.heap.get? b=some o→b≠X.env.locals:=fun b o e=>q50 (q29 (q23 e) I.ok.above)
 have neC:∀ b o,X.s₀.heap.get? b=some o→b∉X.ex→b∉ch:=fun b o e hx hb=>by
  rcases(hch b hb).1 with z|z
  ·exact hx z
  ·exact absurd (q29 (q23 e) z) (q67 _)
 have cellK:∀ x c,X.env.cells.lookup x=some c→∀ v,s.heap.IsCell c v→h'.IsCell c v:=fun x c e v ⟨o,ho,hd⟩=>by
  have nch:c∉ch:=fun z=>(hch c z).2.2.1 x c e rfl
  by_cases hc:c∈X.fs
  ·obtain⟨sl,q⟩:=slot c o (I.cne x c e) hc nch ho (I.freeC x c e)
   exact⟨_,q,hd⟩
  ·exact⟨o,keep c o (I.cne x c e) hc nch ho (I.freeC x c e),hd⟩
 refine⟨I.ok,I.os,hg,⟨fun b o e n hb hx=>?_,fun b o e n hb hx=>?_,fun b o e n hx=>?_,fun b o e hx=>?_,fun b xs e=>tups b xs (I.base.tups b xs e),fun b o xs e=>frzs b o xs (I.base.frzs b o xs e),fun b ps e=>?_⟩,?_,fun x c e=>?_,?_,fun x c e=>?_,fun p hp=>?_,hok,I.len⟩
 ·exact keep b o (neL b o e) hb (neC b o e hx) (I.base.keep b o e n hb hx) (I.base.free b o e n hx)
 ·obtain⟨sl,e1⟩:=I.base.slot b o e n hb hx
  obtain⟨sl',e2⟩:=slot b _ (neL b o e) hb (neC b o e hx) e1 (I.base.free b o e n hx);exact⟨sl',e2⟩
 ·obtain⟨o',e1⟩:=I.base.there b o e hx
  exact free b o' (neC b o e hx) e1 (I.base.free b o e n hx)
 ·obtain⟨o',e1⟩:=I.base.there b o e hx
  exact there b o' (neC b o e hx) e1
 ·obtain⟨m1,e1⟩:=I.base.tbls b ps e
  obtain⟨m2,e2⟩:=tbls b _ e1;exact⟨m1++m2,by rw[e2,Array.append_assoc]⟩
 ·obtain⟨m,hn,hl⟩:=I.loc
  refine⟨m,ns m hn,fun i x v e1 e2 e3=>?_⟩;obtain⟨u,r,l⟩:=hl i x v e1 e2 e3;refine⟨u,r,?_⟩
  rcases l with l|⟨k,c,e,z⟩
  ·exact .inl l
  ·exact .inr ⟨k,c,e,cellK x c e _ z⟩
 ·obtain⟨v,z⟩:=I.cell x c e
  exact⟨v,cellK x c e v z⟩
 ·obtain⟨m,⟨o,_,_,ho,_⟩,_⟩:=I.loc
  exact free _ o (fun z=>(hch _ z).2.1 rfl) ho I.free
 ·obtain⟨v,o,ho,hd⟩:=I.cell x c e
  exact free c o (fun z=>(hch c z).2.2.1 x c e rfl) ho (I.freeC x c e)
 ·obtain⟨e,n,ne,nf,d⟩:=I.pin p hp
  have nch:p.1∉ch:=fun z=>(hch p.1 z).2.2.2 p hp rfl
  exact⟨keep p.1 p.2 ne nf nch e n,free p.1 p.2 nch e n,ne,nf,d⟩
theorem b9.un {t':Nat} (I:b9 X pq σ H s) (u:Un X.fs [] H H' s.heap h') (hok:rV X.prog X.w H' h'):b9 X pq σ H' { s with heap:=h',toks:=t' }:=by
 obtain⟨m,⟨o,es,ep,ho,r⟩,_⟩:=id I.loc;obtain⟨sl,hL⟩:=u.any ho I.free (by simp)
 exact I.step (g':=s.gens) (d':=s.drawn) (ch:=[]) (fun _ z=>nomatch z) (fun b o _ hb _ e n=>u.keep b o e n hb (by simp)) (fun b o _ hb _ e n=>u.slot b o e n hb (by simp)) (fun b o _ e n=>u.free b o e n (by simp)) (fun b o _ e=>u.there b o e (by simp)) u.tups u.frzs u.tbls (fun m' hm=>by
  obtain⟨o',es',ep',ho',r'⟩:=hm
  rw[ho] at ho'; cases ho'
  exact⟨_,es',ep',hL,r'⟩) hok I.bare
theorem b9.call {g':Array GenState} {t':Nat} {d':Drawn} {ch:List Addr} (I:b9 X pq σ H s) (u:Un (A8 X.stack) ch H H' s.heap h') (hok:rV X.prog X.w H' h') (hg:AllBare g')
  (hch:∀ b∈ch,(b∈X.ex∨X.s₀.heap.objs.size≤b)∧b≠X.env.locals∧(∀ x c,X.env.cells.lookup x=some c→c≠b)∧∀ p∈X.pn++pq,p.1≠b) :
  b9 X pq σ H' { s with heap:=h',gens:=g',drawn:=d',toks:=t' }:=by
 obtain⟨m,⟨o,es,ep,ho,r⟩,_⟩:=id I.loc
 obtain⟨sl,hL⟩:=u.any ho I.free fun z=>(hch _ z).2.1 rfl
 exact I.step (ch:=ch) hch (fun b o hL hb hc e n=>u.keep b o e n (fun z=>(q32.mp (I.stkSub b z)).elim hL hb) hc) (fun b o _ _ hc e n=>u.any e n hc) (fun b o hc e n=>u.free b o e n hc) (fun b o hc e=>u.there b o e hc) u.tups u.frzs u.tbls (fun m' hm=>by
  obtain⟨o',es',ep',ho',r'⟩:=hm
  rw[ho] at ho'; cases ho'
  exact⟨_,es',ep',hL,r'⟩) hok hg
theorem b9.turned {t':Nat} {it:Addr} (I:b9 X pq σ H s) (k:∀ b o,b≠it→s.heap.get? b=some o→h'.get? b=some o) (hn:H it=none) (hL:it≠X.env.locals)
  (h1:it∈X.ex∨X.s₀.heap.objs.size≤it) (h2:∀ x c,X.env.cells.lookup x=some c→c≠it) (h3:∀ p∈X.pn++pq,p.1≠it):b9 X pq σ H { s with heap:=h',toks:=t' }:=by
 have nit:∀ b u,H b=some u→b≠it:=fun b u e z=>by rw[z,hn] at e; cases e
 refine I.step (g':=s.gens) (d':=s.drawn) (ch:=[it]) (fun b hb=>?_) (fun b o _ _ hc e _=>k b o (fun z=>hc (by simp[z])) e) (fun b o _ _ hc e _=>⟨o.slots,k b o (fun z=>hc (by simp[z])) e⟩) (fun _ _ _ _ n=>n)
  (fun b o hc e=>⟨o,k b o (fun z=>hc (by simp[z])) e⟩) (fun _ _ e=>e) (fun _ _ _ e=>e) (fun b ps e=>⟨#[],by rw[e]; simp⟩) (fun m hm=>?_) (fun b u e=>?_) I.bare
 ·have e:b=it:=by simpa using hb
  subst e;exact⟨h1,hL,h2,h3⟩
 ·obtain⟨o,es,ep,ho,r⟩:=hm
  exact⟨o,es,ep,k _ o (q56 hL) ho,r⟩
 ·refine(I.hok b u e).stay (fun c v hc q=>k c v ?_ q) (fun _ q=>q) fun _ _ q=>q
  rcases hc with z|z
  ·rw[z]; exact nit b u e
  ·exact nit c _ z
theorem b9.tok (I:b9 X pq σ H s) (t:Nat):b9 X pq σ H { s with toks:=t }:=I.un (h':=s.heap) (t':=t) Un.refl I.hok
theorem b9.kept {t':Nat} (I:b9 X pq σ H s) (k:∀ b u,s.heap.get? b=some u→h'.get? b=some u):b9 X pq σ H { s with heap:=h',toks:=t' }:=I.un (Un.kept k) (I.hok.kept k)
theorem b9.laid {a:Addr} {o:HO} {t':Nat} (I:b9 X pq σ H s) (k:∀ b u,s.heap.get? b=some u→h'.get? b=some u) (hp:s.heap.objs.size≤a) (new:lq X.prog X.w (gL H a o) h' a o) :
  b9 X pq σ (gL H a o) { s with heap:=h',toks:=t' }:=I.un (Un.laid k hp (I.hok.fresh hp)) (I.hok.laid k hp new)
theorem b9.write {x e:Addr} {o:HO} {t':Nat} (I:b9 X pq σ H s) (mu:DR (H x)) (he:e=x∨H e=some (.own x)) (k:∀ b u,b≠e→s.heap.get? b=some u→h'.get? b=some u) (heo:∃ u,h'.get? e=some u)
  (new:lq X.prog X.w (gL H x o) h' x o):b9 X pq σ (gL H x o) { s with heap:=h',toks:=t' }:=I.un (Un.write mu he k heo) (I.hok.write mu he k heo new)
theorem b9.pins_of {pins':List (Addr×Obj)} (I:b9 X pq σ H s) (h:∀ p∈pins',s.heap.get? p.1=some p.2∧H p.1=none∧p.1≠X.env.locals∧p.1∉X.fs∧∀ v,p.2.data≠.cell v):b9 X pins' σ H s:=
 ⟨I.ok,I.os,I.bare,I.base,I.loc,I.cell,I.free,I.freeC,fun p hp=>(q58.mp hp).elim (fun z=>I.pin p (List.mem_append_left _ z)) (h p),I.hok,I.len⟩
theorem wP {N:List Str} (hN:N.Nodup) {i j:Nat} {x:Str} (a:N[i]?=some x) (b:N[j]?=some x):i=j:=by
 obtain⟨h1,e1⟩:=q07.mp a;obtain⟨h2,e2⟩:=q07.mp b;exact(List.getElem_inj hN).mp (e1.trans e2.symm)
theorem zC {M:Model} {A:Around} {E:Value→Shared→Prop} {i:Nat} {x:Str} {v:V} {u:Value} {Q:Unit→Shared→Prop} (I:b9 X pq σ H s) (hN:X.N.Nodup) (hi:X.N[i]?=some x) (hx:HQ X.env.scope x) (r:eU v u)
  (h:∀ s',b9 X pq (σ.set i (some v)) H s'→(∃ a,Heap.SameBut a s.heap s'.heap∧(a=X.env.locals∨X.env.cells.lookup x=some a))→Q () s') (hf:X.fn x=true∨X.env.scope.names.lookup x=some .local:=by first|exact .inl rfl|exact .inr rfl|assumption):wpAny M A (storeName X.env x u) Q E s:=by
 obtain⟨m,hn,hl⟩:=id I.loc
 have hcls:(X.env.scope.kind==.class||(X.env.scope.kind==.module&&X.env.locals != X.env.globals))=false:=by rw[I.ok.kind]; rfl
 have hiσ:i<σ.length:=by rw[I.len]; exact(q07.mp hi).1
 have cne:=I.cne
 have tracked:∀ {a:Addr} {h':Heap},(∃ o,s.heap.get? a=some o∧H a=none)→Heap.SameBut a s.heap h'→rV X.prog X.w H h':=fun {a h'} ha hs b ob e=>by
  obtain⟨_,_,hfree⟩:=ha
  refine(I.hok b ob e).stay (fun c w' hc q=>(hs.2 c ?_).trans q) (fun _ q=>q) fun _ _ q=>q
  rintro rfl
  rcases hc with rfl|hc
  ·rw[hfree] at e; cases e
  ·rw[hfree] at hc; cases hc
 rcases hx with hk|hk
 ·refine wpAny_storeName_local hk hn (fun h' hn' hs=>?_) hcls
  obtain⟨oL,_,_,hoL,_⟩:=id hn;refine h _ ⟨I.ok,I.os,I.bare,⟨fun b o e n hb hx=>?_,fun b o e n hb hx=>?_,I.base.free,fun b o e hx=>?_,I.base.tups,I.base.frzs,I.base.tbls⟩,⟨_,hn',fun j y v' e1 e2 e3=>?_⟩,fun y c e=>?_,I.free,I.freeC,fun p hp=>?_,tracked ⟨oL,hoL,I.free⟩ hs,by simpa using I.len⟩ ⟨_,hs,.inl rfl⟩
  ·exact(hs.2 b (q50 (q29 (q23 e) I.ok.above))).trans (I.base.keep b o e n hb hx)
  ·obtain⟨sl,e1⟩:=I.base.slot b o e n hb hx
   exact⟨sl,(hs.2 b (q50 (q29 (q23 e) I.ok.above))).trans e1⟩
  ·obtain⟨o',e1⟩:=I.base.there b o e hx
   exact⟨o',(hs.2 b (q50 (q29 (q23 e) I.ok.above))).trans e1⟩
  ·by_cases hj:j=i
   ·subst hj
    rw[hi] at e1; cases e1
    rw[q15 hiσ] at e2;cases e2;exact⟨u,r,.inl ⟨hk,by simp⟩⟩
   ·rw[q12 (q56 hj)] at e2
    obtain⟨u',r',q⟩:=hl j y v' e1 e2 e3;refine⟨u',r',?_⟩
    rcases q with ⟨k,e⟩|⟨k,c,e,z⟩
    ·refine .inl ⟨k,?_⟩
     have:y≠x:=fun e=>hj (wP hN e1 (e▸hi))
     simp[this,e]
    ·exact .inr ⟨k,c,e,z.sameBut hs (cne y c e)⟩
  ·obtain⟨w',z⟩:=I.cell y c e
   exact⟨w',z.sameBut hs (cne y c e)⟩
  ·obtain⟨e,n,ne,nf,d⟩:=I.pin p hp
   exact⟨(hs.2 p.1 ne).trans e,n,ne,nf,d⟩
 ·have hfn:X.fn x=true:=by
   rcases hf with z|z
   ·exact z
   ·rw[z] at hk; cases hk
  obtain⟨c,hc⟩:=I.ok.has x (.inl hk);obtain⟨w',z⟩:=I.cell x c hc;refine wpAny_storeName_cell I.ok.kind hk hc z (fun h' hc' hs=>?_);obtain⟨oc,hoc,hocd⟩:=id z
  refine h { s with heap:=h' } ⟨I.ok,I.os,I.bare,⟨fun b o e n hb hx=>?_,fun b o e n hb hx=>?_,I.base.free,fun b o e hx=>?_,I.base.tups,I.base.frzs,I.base.tbls⟩,⟨m,hn.sameBut hs (q56 (cne x c hc)),fun j y v' e1 e2 e3=>?_⟩,fun y c' e=>?_,I.free,I.freeC,fun p hp=>?_,tracked ⟨oc,hoc,I.freeC x c hc⟩ hs,by simpa using I.len⟩ ⟨c,hs,.inr hc⟩
  ·exact(hs.2 b (q50 (q29 (q23 e) (I.ok.cab x c hfn hc)))).trans (I.base.keep b o e n hb hx)
  ·obtain⟨sl,e1⟩:=I.base.slot b o e n hb hx
   exact⟨sl,(hs.2 b (q50 (q29 (q23 e) (I.ok.cab x c hfn hc)))).trans e1⟩
  ·obtain⟨o',e1⟩:=I.base.there b o e hx
   exact⟨o',(hs.2 b (q50 (q29 (q23 e) (I.ok.cab x c hfn hc)))).trans e1⟩
  ·by_cases hj:j=i
   ·subst hj
    rw[hi] at e1; cases e1
    rw[q15 hiσ] at e2;cases e2;exact⟨u,r,.inr ⟨.inl hk,c,hc,hc'⟩⟩
   ·rw[q12 (q56 hj)] at e2
    obtain⟨u',r',q⟩:=hl j y v' e1 e2 e3;refine⟨u',r',?_⟩
    rcases q with q|⟨k,c',e,z'⟩
    ·exact .inl q
    ·refine .inr ⟨k,c',e,z'.sameBut hs ?_⟩
     rintro rfl;exact hj (wP hN e1 (I.ok.inj _ _ _ e hc▸hi))
  ·by_cases hcc:c'=c
   ·subst hcc; exact⟨_,hc'⟩
   ·obtain⟨w2,z2⟩:=I.cell y c' e
    exact⟨w2,z2.sameBut hs hcc⟩
  ·obtain⟨e,n,ne,nf,d⟩:=I.pin p hp
   refine⟨(hs.2 p.1 ?_).trans e,n,ne,nf,d⟩;intro q;rw[q,hoc] at e;have q':oc=p.2:=q30 e;exact d w' (by rw[← q']; exact hocd)
theorem wO {M:Model} {A:Around} {E:Value→Shared→Prop} {i:Nat} {x:Str} {v:V} {u:Value} {Q:Unit→Shared→Prop} (I:b9 X pq σ H s) (hN:X.N.Nodup) (hi:X.N[i]?=some x) (hx:HQ X.env.scope x) (r:eU v u)
  (h:∀ s',b9 X pq (σ.set i (some v)) H s'→Q () s') (hf:X.fn x=true∨X.env.scope.names.lookup x=some .local:=by first|exact .inl rfl|exact .inr rfl|assumption):wpAny M A (storeName X.env x u) Q E s:=
 zC I hN hi hx r (fun s' I' _=>h s' I') hf
theorem b9.call' {s':Shared} {ch:List Addr} (I:b9 X pq σ H s) (ho:s'.os=s.os) (u:Un (A8 X.stack) ch H H' s.heap s'.heap) (hok:rV X.prog X.w H' s'.heap) (hg:AllBare s'.gens)
  (hch:∀ b∈ch,(b∈X.ex∨X.s₀.heap.objs.size≤b)∧b≠X.env.locals∧(∀ x c,X.env.cells.lookup x=some c→c≠b)∧∀ p∈X.pn++pq,p.1≠b):b9 X pq σ H' s':=by
 obtain⟨h',g',d',t',o'⟩:=s';have e:o'=s.os:=ho;subst e;exact I.call (g':=g') (t':=t') (d':=d') u hok hg hch
end
abbrev XK:=Value→Option Addr→Hp→Prop
abbrev St:=List (Option V)
abbrev VK:=V→Hp→Prop
abbrev TE:=St→Hp→VK→Prop
abbrev TT:=St→Hp→(Bool→Hp→Prop)→Prop
abbrev TA:=St→Hp→(List V→Hp→Prop)→Prop
structure tT where
 nx:St→Hp→Prop
 rt:VK
 bk:St→Hp→Prop:=fun _ _=>False
 ct:St→Hp→Prop:=fun _ _=>False
abbrev TS:=tT→St→Hp→Prop
def EP (X:Cx) (pq:List (Addr×Obj)) (σ:St) (Q:VK) (u:Value) (s':Shared):Prop:=∃ v H',b9 X pq σ H' s'∧eU v u∧Q v H'
def TP (X:Cx) (pq:List (Addr×Obj)) (σ:St) (Q:Bool→Hp→Prop) (b:Bool) (s':Shared):Prop:=∃ H',b9 X pq σ H' s'∧Q b H'
def AP (X:Cx) (pq:List (Addr×Obj)) (σ:St) (Q:List V→Hp→Prop) (us:List Value) (s':Shared):Prop:=∃ vs H',b9 X pq σ H' s'∧dm vs us∧Q vs H'
def SP (X:Cx) (pq:List (Addr×Obj)) (D:tT) (f:Flow) (s':Shared):Prop:=
 match f with
 | .next=>∃ σ' H',b9 X pq σ' H' s'∧D.nx σ' H'
 | .brk=>∃ σ' H',b9 X pq σ' H' s'∧D.bk σ' H'
 | .cont=>∃ σ' H',b9 X pq σ' H' s'∧D.ct σ' H'
 | .ret u=>∃ v σ' H',b9 X pq σ' H' s'∧eU v u∧D.rt v H'
def PE (X:Cx) (e:Expr) (t:TE):Prop:=
 ∀ (pq:List (Addr×Obj)) (s:Shared) (σ:St) (H:Hp) (Q:VK),b9 X pq σ H s→t σ H Q→wpAny (model X.prog X.w) X.A (eval e X.env) (EP X pq σ Q) X.xe s
def PT (X:Cx) (e:Expr) (t:TT):Prop:=
 ∀ (pq:List (Addr×Obj)) (s:Shared) (σ:St) (H:Hp) (Q:Bool→Hp→Prop),b9 X pq σ H s→t σ H Q→wpAny (model X.prog X.w) X.A (isTrue e X.env (eval e X.env)) (TP X pq σ Q) X.xe s
def PW (X:Cx) (e:Expr) (t:TT):Prop:=
 ∀ (whole:Sem Value) (pq:List (Addr×Obj)) (s:Shared) (σ:St) (H:Hp) (Q:Bool→Hp→Prop),b9 X pq σ H s→t σ H Q→wpAny (model X.prog X.w) X.A (isTrue e X.env whole) (TP X pq σ Q) X.xe s
theorem PW.pt {X:Cx} {e:Expr} {t:TT} (h:PW X e t):PT X e t:=h _
def PA (X:Cx) (es:List Expr) (t:TA):Prop:=
 ∀ (pos:Pos) (pq:List (Addr×Obj)) (s:Shared) (σ:St) (H:Hp) (Q:List V→Hp→Prop),b9 X pq σ H s→t σ H Q→wpAny (model X.prog X.w) X.A (spliced (backTo pos (starEach es X.env))) (AP X pq σ Q) X.xe s
def PS (X:Cx) (st:Stmt) (t:TS):Prop:=
 ∀ (pq:List (Addr×Obj)) (s:Shared) (σ:St) (H:Hp) (D:tT),b9 X pq σ H s→t D σ H→wpAny (model X.prog X.w) X.A (exec st X.env) (SP X pq D) X.xe s
def wY (X:Cx) (st:List Stmt) (t:TS):Prop:=
 ∀ (pq:List (Addr×Obj)) (s:Shared) (σ:St) (H:Hp) (D:tT),b9 X pq σ H s→t D σ H→wpAny (model X.prog X.w) X.A (execs st X.env) (SP X pq D) X.xe s
theorem iP {α:Type} {t:Sem α} {Q Q':α→Shared→Prop} {M:Model} {A:Around} {E:Value→Shared→Prop} {s:Shared} (h:wpAny M A t Q E s) (hQ:∀ a s,Q a s→Q' a s):wpAny M A t Q' E s:=wpAny_mono h hQ fun _ _ x=>x
section
variable {X:Cx}
theorem bin {a b:Expr} {ta tb:TE} (ha:PE X a ta) (hb:PE X b tb) {pq:List (Addr×Obj)} {s:Shared} {σ:St} {H:Hp} {R:V→V→Hp→Prop} (I:b9 X pq σ H s) (h:ta σ H fun x H1=>tb σ H1 fun y H2=>R x y H2)
  {α:Type} {Q:α→Shared→Prop} {f:Value→Value→Sem α}
  (hf:∀ v u s2 x y H2,b9 X pq σ H2 s2→eU x v→eU y u→R x y H2→wpAny (model X.prog X.w) X.A (f v u) Q X.xe s2) :
  wpAny (model X.prog X.w) X.A (eval a X.env) (fun v s₁=>wpAny (model X.prog X.w) X.A (eval b X.env) (fun u s₂=>wpAny (model X.prog X.w) X.A (f v u) Q X.xe s₂) X.xe s₁) X.xe s:=by
 refine iP (ha pq s σ H _ I h) fun v s1 ⟨x,H1,I1,r1,q1⟩=>?_
 refine iP (hb pq s1 σ H1 _ I1 q1) fun u s2 ⟨y,H2,I2,r2,q2⟩=>?_
 exact hf v u s2 x y H2 I2 r1 r2 q2
def OQ (i:Nat):TE:=fun σ H Q=>∃ v,σ[i]?=some (some v)∧Q v H
def tC (v:V):TE:=fun _ H Q=>Q v H
theorem Gu {i:Nat} {x:Str} {pos:Pos} (hN:X.N[i]?=some x) (hv:Vis X.env.scope x) (hd:(x==("__debug__":Str))=false:=by decide) (hcd:(x==("__classdict__":Str))=false:=by decide):PE X (.Name x pos) (OQ i):=by
 intro pq s σ H Q I h;obtain⟨v,e,h⟩:=h;obtain⟨m,hn,hl⟩:=I.loc;obtain⟨u,r,l⟩:=hl i x v hN e hv;have nK:EP X pq σ Q u s:=⟨v,H,I,r,h⟩
 rcases l with ⟨hk,hm⟩|⟨hk,c,hc,hcell⟩
 ·exact wpAny_Name (wpAny_loadName_local I.ok.kind hk hn hm nK) hd
 ·rcases hk with hk|hk
  ·exact wpAny_Name (wpAny_loadName_cell I.ok.kind hk hc hcell nK) hd
  ·exact wpAny_Name (wpAny_loadName_free I.ok.kind hk hc hcell nK hcd) hd
theorem Hi {i j pos}:PE X (.Constant (.int i) j pos) (tC (.int i)):=fun _ _ _ H _ I h=>wpAny_Constant_int ⟨.int i,H,I.tok _,⟨_,rfl⟩,h⟩
theorem J2 {b j pos}:PE X (.Constant (.bool b) j pos) (tC (.bl b)):=fun _ _ _ H _ I h=>Constant_bool ⟨.bl b,H,I,rfl,h⟩
theorem GK {j pos}:PE X (.Constant .none j pos) (tC .non):=fun _ _ _ H _ I h=>Constant_none ⟨.non,H,I,rfl,h⟩
theorem Ge {x j pos}:PE X (.Constant (.str x) j pos) (tC (.str x)):=fun _ _ _ H _ I h=>Calls.Constant_str ⟨.str x,H,I.tok _,⟨_,rfl⟩,h⟩
def Gl (X:Cx) (x:Str):Prop:=X.env.kindOf x=some .globalImplicit
theorem nL {E:Value→Shared→Prop} {pq:List (Addr×Obj)} {s:Shared} {σ:St} {H:Hp} {x:Str} {u:Value} {pos:Pos} {Q:Value→Shared→Prop} (I:b9 X pq σ H s) (hg:Gl X x) (hm:X.mg x=some u) (h:Q u s)
  (hd:(x==("__debug__":Str))=false:=by decide):wpAny (model X.prog X.w) X.A (eval (.Name x pos) X.env) Q E s:=
 Calls.Name_function_global I.ok.kind hg (Calls.loadGlobal_global (by rw[I.ok.glob]; exact I.mod.glob.keeps I.bk) hm h) hd
theorem xJ {E:Value→Shared→Prop} {pq:List (Addr×Obj)} {s:Shared} {σ:St} {H:Hp} {x:Str} {u:Value} {pos:Pos} {Q:Value→Shared→Prop} (I:b9 X pq σ H s) (hg:Gl X x) (hm:X.mg x=none) (hv:bootBuiltins x=some u) (h:Q u s)
  (hn:x≠"__name__":=by decide) (hd:(x==("__debug__":Str))=false:=by decide):wpAny (model X.prog X.w) X.A (eval (.Name x pos) X.env) Q E s:=by
 obtain⟨mb,h1,h2⟩:=I.mod.blt;exact Calls.Name_function_global I.ok.kind hg (Calls.loadGlobal_builtin (by rw[I.ok.glob]; exact I.mod.glob.keeps I.bk) hm (by rw[I.ok.blt]; exact h1.keeps I.bk) ((h2 x hn).trans hv) h) hd
theorem D7 {x:Str} {v:V} {u:Value} {pos:Pos} (hg:Gl X x) (hm:X.mg x=some u) (r:eU v u) (hd:(x==("__debug__":Str))=false:=by decide):PE X (.Name x pos) (tC v):=
 fun _ _ _ H _ I h=>nL I hg hm ⟨v,H,I,r,h⟩ hd
theorem DM {x:Str} {v:V} {u:Value} {pos:Pos} (hg:Gl X x) (hm:X.mg x=none) (hv:bootBuiltins x=some u) (r:eU v u) (hn:x≠"__name__":=by decide) (hd:(x==("__debug__":Str))=false:=by decide):PE X (.Name x pos) (tC v):=
 fun _ _ _ H _ I h=>xJ I hg hm hv ⟨v,H,I,r,h⟩ hn hd
variable {a b:Expr} {ta tb:TE} {pos:Pos}
variable {tA tB':TT} {rest:List Expr}
def QB (t u:TT):TT:=fun σ H Q=>t σ H fun c H1=>if c=true then u σ H1 Q else Q false H1
def tOr (t u:TT):TT:=fun σ H Q=>t σ H fun c H1=>if c=true then Q true H1 else u σ H1 Q
def Q9 (t:TT):TT:=fun σ H Q=>t σ H fun c H1=>Q (!c) H1
theorem Eo (ha:PT X a tA):PW X (.BoolOp .And [a] pos) tA:=by
 intro wh pq s σ H Q I h;refine isTrue_and (iP (ha pq s σ H Q I h) fun c s1 e=>?_)
 cases c with
 | true=>exact isTrue_and_nil e
 | false=>exact e
theorem GW (ha:PT X a tA):PW X (.BoolOp .Or [a] pos) tA:=by
 intro wh pq s σ H Q I h;refine isTrue_or (iP (ha pq s σ H Q I h) fun c s1 e=>?_)
 cases c with
 | false=>exact isTrue_or_nil e
 | true=>exact e
theorem GL (ha:PT X a tA) (hb:PW X (.BoolOp .And (b::rest) pos) tB'):PW X (.BoolOp .And (a::b::rest) pos) (QB tA tB'):=by
 intro wh pq s σ H Q I h;refine isTrue_and (iP (ha pq s σ H _ I h) fun c s1 ⟨H1,I1,q1⟩=>?_)
 cases c with
 | true=>exact hb wh pq s1 σ H1 Q I1 q1
 | false=>exact⟨H1,I1,q1⟩
theorem MV (ha:PT X a tA) (hb:PW X (.BoolOp .Or (b::rest) pos) tB'):PW X (.BoolOp .Or (a::b::rest) pos) (tOr tA tB'):=by
 intro wh pq s σ H Q I h;refine isTrue_or (iP (ha pq s σ H _ I h) fun c s1 ⟨H1,I1,q1⟩=>?_)
 cases c with
 | true=>exact⟨H1,I1,q1⟩
 | false=>exact hb wh pq s1 σ H1 Q I1 q1
theorem G6 (ha:PT X a tA):PT X (.UnaryOp .Not a pos) (Q9 tA):=by
 intro pq s σ H Q I h;exact isTrue_not (ha pq s σ H (fun c H1=>Q (!c) H1) I h)
def Jz (ta tb:TE):TE:=fun σ H Q=>ta σ H fun x H1=>∃ c,x=.bl c∧if c=true then tb σ H1 Q else Q (.bl false) H1
def Op (ta tb:TE):TE:=fun σ H Q=>ta σ H fun x H1=>∃ c,x=.bl c∧if c=true then Q (.bl true) H1 else tb σ H1 Q
theorem Hv {op} {t:TE} (h:PE X a t):PE X (.BoolOp op [a] pos) t:=fun pq s σ H Q I hw=>BoolOp_one (h pq s σ H Q I hw)
theorem Gq (ha:PE X a ta) (hb:PE X (.BoolOp .And (b::rest) pos) tb):PE X (.BoolOp .And (a::b::rest) pos) (Jz ta tb):=by
 intro pq s σ H Q I h;refine BoolOp_and (iP (ha pq s σ H _ I h) fun v s1 ⟨x,H1,I1,r1,q1⟩=>?_);obtain⟨c,rfl,q1⟩:=q1;cases r1;refine wpAny_truthy_bool ?_
 cases c with
 | true=>exact hb pq s1 σ H1 Q I1 q1
 | false=>exact⟨.bl false,H1,I1,rfl,q1⟩
theorem JN (ha:PE X a ta) (hb:PE X (.BoolOp .Or (b::rest) pos) tb):PE X (.BoolOp .Or (a::b::rest) pos) (Op ta tb):=by
 intro pq s σ H Q I h;refine BoolOp_or (iP (ha pq s σ H _ I h) fun v s1 ⟨x,H1,I1,r1,q1⟩=>?_);obtain⟨c,rfl,q1⟩:=q1;cases r1;refine wpAny_truthy_bool ?_
 cases c with
 | false=>exact hb pq s1 σ H1 Q I1 q1
 | true=>exact⟨.bl true,H1,I1,rfl,q1⟩
def tIf (t:TT) (ta tb:TE):TE:=fun σ H Q=>t σ H fun c H1=>if c=true then ta σ H1 Q else tb σ H1 Q
theorem Bz {c:Expr} (hc:PT X c tA) (ha:PE X a ta) (hb:PE X b tb):PE X (.IfExp c a b pos) (tIf tA ta tb):=by
 intro pq s σ H Q I h;refine wpAny_IfExp (iP (hc pq s σ H _ I h) fun d s1 ⟨H1,I1,q1⟩=>?_)
 cases d with
 | true=>exact ha pq s1 σ H1 Q I1 q1
 | false=>exact hb pq s1 σ H1 Q I1 q1
end
def oU (K:q04) (H:Hp) (a:Addr) (xs:List V):Prop:=
 Rd H a (.lst xs)∨
  ∃ (o:Obj) (its:Array Value) (n:Nat),K.lookup a=some o∧o.cls=.type "list"∧o.dict=none∧o.data=.seq its n∧its.size≤sizeLine∧dm xs its.toList
def qc (K:q04) (H:Hp) (a:Addr) (xs:List V):Prop:=
 Rd H a (.tup xs)∨
  ∃ (o:Obj) (its:Array Value) (n:Nat),K.lookup a=some o∧o.cls=.type "tuple"∧o.data=.seq its n∧its.size≤sizeLine∧dm xs its.toList
def absV:Value→Option V
 | .none=>some .non
 | .bool b=>some (.bl b)
 | .int i _=>some (.int i)
 | .str x _=>some (.str x)
 | .bytes b _=>some (.byt b)
 | .float b _=>some (.flt b)
 | .ref a=>some (.ref a)
 | .type n=>some (.ty n)
 | _=>none
theorem eU.abs {x:V} {u:Value} (r:eU x u):absV u=some x:=by
 cases x with
 | non=>cases r; rfl
 | bl _=>cases r; rfl
 | int _=>obtain⟨t,rfl⟩:=r; rfl
 | str _=>obtain⟨t,rfl⟩:=r; rfl
 | byt _=>obtain⟨t,rfl⟩:=r; rfl
 | flt _=>obtain⟨t,rfl⟩:=r; rfl
 | ref _=>cases r; rfl
 | ty _=>cases r; rfl
theorem eU.inj {x y:V} {u:Value} (r:eU x u) (q:eU y u):x=y:=q30 (r.abs.symm.trans q.abs)
theorem dm.inj:∀ {xs ys:List V} {us:List Value},dm xs us→dm ys us→xs=ys
 | _,_,_,.nil,.nil=>rfl
 | _,_,_,.cons r t,.cons r' t'=>by rw[r.inj r',dm.inj t t']
section
variable {X:Cx} {pq:List (Addr×Obj)} {σ:St} {H:Hp} {s:Shared} {a:Addr} {xs ys:List V}
theorem oU.of {K:q04} (h:H a=some (.lst xs)):oU K H a xs:=.inl (.inl h)
theorem qc.of {K:q04} (h:H a=some (.tup xs)):qc K H a xs:=.inl (.inl h)
theorem b9.list (I:b9 X pq σ H s) (h:oU X.K H a xs):∃ its:List Value,dm xs its∧PlainL s.heap a its.toArray∧xs.length≤sizeLine:=by
 rcases h with h|⟨o,its,n,hk,hc,hd,hs,hz,r⟩
 ·obtain⟨z,its,n,r,e⟩:=h.ok I.hok
  exact⟨its,r,⟨_,n,e,rfl,rfl,rfl⟩,z⟩
 ·refine⟨its.toList,r,⟨o,n,I.kIn a o hk,hc,hd,by simpa using hs⟩,?_⟩
  have e:=r.length;simp only[qa6] at e;omega
theorem b9.tuple (I:b9 X pq σ H s) (h:qc X.K H a xs):∃ its:List Value,dm xs its∧IsTup s.heap a its.toArray∧xs.length≤sizeLine:=by
 rcases h with h|⟨o,its,n,hk,hc,hs,hz,r⟩
 ·obtain⟨z,its,r,p⟩:=h.ok I.hok
  exact⟨its,r,p,z⟩
 ·refine⟨its.toList,r,⟨o,I.kIn a o hk,hc,n,by simpa using hs⟩,?_⟩
  have e:=r.length;simp only[qa6] at e;omega
theorem b9.list_inj (I:b9 X pq σ H s) (h:oU X.K H a xs) (h':oU X.K H a ys):xs=ys:=by
 obtain⟨its,r,⟨o,n,e,_,_,d⟩,_⟩:=I.list h;obtain⟨its',r',⟨o',n',e',_,_,d'⟩,_⟩:=I.list h'
 rw[e] at e'; cases e'
 rw[d] at d'
 injection d' with d1 _
 have:its=its':=by simpa using congrArg Array.toList d1
 subst this;exact r.inj r'
theorem b9.tuple_inj (I:b9 X pq σ H s) (h:qc X.K H a xs) (h':qc X.K H a ys):xs=ys:=by
 obtain⟨its,r,⟨o,e,_,n,d⟩,_⟩:=I.tuple h;obtain⟨its',r',⟨o',e',_,n',d'⟩,_⟩:=I.tuple h'
 rw[e] at e'; cases e'
 rw[d] at d'
 injection d' with d1 _
 have:its=its':=by simpa using congrArg Array.toList d1
 subst this;exact r.inj r'
end
abbrev Cx.wish (X:Cx) (E:Value→Shared→Prop):Cx:={ X with xe:=E }
abbrev Cx.nox (X:Cx):Cx:=X.wish fun _ _=>False
theorem Cx.Ok.wish {X:Cx} (ok:X.Ok) (E:Value→Shared→Prop):(X.wish E).Ok:=
 ⟨ok.mod,ok.kind,ok.glob,ok.blt,ok.above,ok.inj,ok.has,ok.cab,ok.hd,ok.frames,ok.stk,ok.exf,ok.bs,ok.bsz,ok.noex,ok.exfs,ok.funs,ok.frf⟩
theorem Cx.Ok.unwish {X:Cx} {E:Value→Shared→Prop} (ok:(X.wish E).Ok):X.Ok:=
 ⟨ok.mod,ok.kind,ok.glob,ok.blt,ok.above,ok.inj,ok.has,ok.cab,ok.hd,ok.frames,ok.stk,ok.exf,ok.bs,ok.bsz,ok.noex,ok.exfs,ok.funs,ok.frf⟩
section
variable {X:Cx} {pq:List (Addr×Obj)} {σ:St} {H:Hp} {s:Shared} {E:Value→Shared→Prop}
theorem b9.wish (I:b9 X pq σ H s) (E:Value→Shared→Prop):b9 (X.wish E) pq σ H s:=⟨I.ok.wish E,I.os,I.bare,I.base,I.loc,I.cell,I.free,I.freeC,I.pin,I.hok,I.len⟩
theorem b9.unwish (I:b9 (X.wish E) pq σ H s):b9 X pq σ H s:=⟨I.ok.unwish,I.os,I.bare,I.base,I.loc,I.cell,I.free,I.freeC,I.pin,I.hok,I.len⟩
theorem SP.unwish {D:tT} {f:Flow} {s':Shared} (h:SP (X.wish E) pq D f s'):SP X pq D f s':=by
 cases f with
 | next=>obtain⟨σ',H',I,q⟩:=h; exact⟨σ',H',I.unwish,q⟩
 | brk=>obtain⟨σ',H',I,q⟩:=h; exact⟨σ',H',I.unwish,q⟩
 | cont=>obtain⟨σ',H',I,q⟩:=h; exact⟨σ',H',I.unwish,q⟩
 | ret u=>obtain⟨v,σ',H',I,r,q⟩:=h; exact⟨v,σ',H',I.unwish,r,q⟩
theorem wY.nox {st:List Stmt} {t:TS} (h:wY X.nox st t):wY X st t:=fun pq s σ H D I hw=>
 wpAny_mono (h pq s σ H D (I.wish _) hw) (fun _ _ q=>q.unwish) fun _ _ z=>False.elim z
end
section
variable {X:Cx} {st:Stmt} {rest:List Stmt} {t u:TS} {e:Expr} {te:TE} {pos:Pos}
def LS:TS:=fun D σ H=>D.nx σ H
def tSeq (t u:TS):TS:=fun D σ H=>t { D with nx:=u D } σ H
theorem DV:wY X [] LS:=fun _ _ σ H _ I h=>wpAny_execs_nil ⟨σ,H,I,h⟩
theorem BY (h1:PS X st t) (h2:wY X rest u):wY X (st::rest) (tSeq t u):=by
 intro pq s σ H D I h;refine wpAny_execs_cons (iP (h1 pq s σ H { D with nx:=u D } I h) fun f s1 q=>?_)
 cases f with
 | next=>
  obtain⟨σ',H',I',q⟩:=q;exact h2 pq s1 σ' H' D I' q
 | ret v=>exact q
 | brk=>exact q
 | cont=>exact q
theorem De (h1:PS X st t):wY X [st] t:=by
 intro pq s σ H D I h;refine wpAny_execs_cons (iP (h1 pq s σ H D I h) fun f s1 q=>?_)
 cases f with
 | next=>exact wpAny_execs_nil q
 | ret v=>exact q
 | brk=>exact q
 | cont=>exact q
theorem b9.quiet {pq:List (Addr×Obj)} {σ:St} {H:Hp} {s:Shared} (I:b9 X pq σ H s):interactive X.env=false:=by simp[interactive,I.ok.kind]
def Kf (te:TE):TS:=fun D σ H=>te σ H fun _ H1=>D.nx σ H1
theorem Dn (he:PE X e te) (hs:swapsWith e none pos.line X.env=pure false:=by rfl):PS X (.Expr e pos) (Kf te):=by
 intro pq s σ H D I h;exact wpAny_Expr_any (iP (he pq s σ H _ I h) fun v s1 ⟨x,H1,I1,r1,q1⟩=>⟨σ,H1,I1,q1⟩) I.quiet hs
def TW (te:TE):TS:=fun D σ H=>te σ H D.rt
theorem Ha (he:PE X e te):PS X (.Return (some e) pos) (TW te):=by
 intro pq s σ H D I h;exact wpAny_Return_some (iP (he pq s σ H _ I h) fun v s1 ⟨x,H1,I1,r1,q1⟩=>⟨x,σ,H1,I1,r1,q1⟩)
def W9 (c:TT) (t u:TS):TS:=fun D σ H=>c σ H fun b H1=>if b=true then t D σ H1 else u D σ H1
theorem Mz {c:Expr} {a b:List Stmt} {tc:TT} (hc:PT X c tc) (ha:wY X a t) (hb:wY X b u):PS X (.If c a b pos) (W9 tc t u):=by
 intro pq s σ H D I h;refine wpAny_If (iP (hc pq s σ H _ I h) fun d s1 ⟨H1,I1,q1⟩=>?_)
 cases d with
 | true=>exact ha pq s1 σ H1 D I1 q1
 | false=>exact hb pq s1 σ H1 D I1 q1
end
abbrev TG:=V→St→Hp→(St→Hp→Prop)→Prop
abbrev Dl:=List V→St→Hp→(St→Hp→Prop)→Prop
def PG (X:Cx) (target:Expr) (t:TG):Prop:=
 ∀ (pq:List (Addr×Obj)) (s:Shared) (σ:St) (H:Hp) (v:V) (u:Value) (Q:St→Hp→Prop),b9 X pq σ H s→eU v u→t v σ H Q→
  wpAny (model X.prog X.w) X.A (assign target X.env u) (fun _ s'=>∃ σ' H',b9 X pq σ' H' s'∧Q σ' H') X.xe s
def CS (X:Cx) (ts:List Expr) (t:Dl):Prop:=
 ∀ (pq:List (Addr×Obj)) (s:Shared) (σ:St) (H:Hp) (vs:List V) (us:List Value) (Q:St→Hp→Prop),b9 X pq σ H s→dm vs us→t vs σ H Q→
  wpAny (model X.prog X.w) X.A (assignInOrder ((assignEach ts X.env).map (·.2)) us) (fun _ s'=>∃ σ' H',b9 X pq σ' H' s'∧Q σ' H') X.xe s
abbrev Hu:=V→V→V→Hp→(Hp→Prop)→Prop
def Lw (X:Cx) (t:Hu):Prop:=
 ∀ (pq:List (Addr×Obj)) (s:Shared) (σ:St) (H:Hp) (o i v:V) (ov iv u:Value) (Q:Hp→Prop),b9 X pq σ H s→eU o ov→eU i iv→eU v u→t o i v H Q→
  wpAny (model X.prog X.w) X.A (setItem ov iv u) (fun _ s'=>∃ H',b9 X pq σ H' s'∧Q H') X.xe s
section
variable {X:Cx} {pos:Pos}
def EZ (i:Nat):TG:=fun v σ H Q=>Q (σ.set i (some v)) H
theorem Er {i:Nat} {x:Str} (hN:X.N.Nodup) (hi:X.N[i]?=some x) (hx:HQ X.env.scope x) (hf:X.fn x=true∨X.env.scope.names.lookup x=some .local:=by first|exact .inl rfl|exact .inr rfl|assumption):PG X (.Name x pos) (EZ i):=by
 intro pq s σ H v u Q I r h;exact wpAny_assign_Name (wO I hN hi hx r (fun s' I'=>⟨_,H,I',h⟩) hf)
def QV:Dl:=fun vs σ H Q=>vs=[]∧Q σ H
def Je (t:TG) (u:Dl):Dl:=fun vs σ H Q=>∃ v r,vs=v::r∧t v σ H fun σ' H'=>u r σ' H' Q
theorem DP:CS X [] QV:=by
 intro pq s σ H vs us Q I r h;obtain⟨e,h⟩:=h;subst e;cases r;exact assignInOrder_nil ⟨σ,H,I,h⟩
theorem Cv {e:Expr} {es:List Expr} {t:TG} {u:Dl} (h1:PG X e t) (h2:CS X es u)
  (hs:(assignEach (e::es) X.env).map (·.2)=assign e X.env::(assignEach es X.env).map (·.2):=by rfl):CS X (e::es) (Je t u):=by
 intro pq s σ H vs us Q I r h;obtain⟨v,vr,e1,h⟩:=h;subst e1
 cases r with
 | cons r rr=>
  rw[hs];refine assignInOrder_cons (iP (h1 pq s σ H _ _ _ I r h) fun _ s1 ⟨σ1,H1,I1,q1⟩=>?_);exact h2 pq s1 σ1 H1 _ _ Q I1 rr q1
def Ww (K:q04) (n:Nat) (t:Dl):TG:=fun v σ H Q=>∃ a xs,v=.ref a∧qc K H a xs∧xs.length=n∧t xs σ H Q
theorem Gi {es:List Expr} {k:Nat} {t:Dl} {n:Nat} (hc:X.calm=true) (h:CS X es t)
  (hn:(assignEach es X.env).length=n:=by rfl) (hst:(assignEach es X.env).findIdx? (·.1)=none:=by rfl):PG X (.Tuple es k pos) (Ww X.K n t):=by
 intro pq s σ H v u Q I r hw;obtain⟨a,xs,e1,hq,hl,hw⟩:=hw;subst e1;cases r;obtain⟨its,rv,ht,hz⟩:=I.tuple hq
 refine assign_Tuple_tuple (I.ok.hd hc) ht (by simp[hn,← hl,rv.length]) hst fun h' hx=>?_
 have I1:b9 X pq σ H { s with heap:=h' }:=I.kept (t':=s.toks) fun b o e=>hx b o (q50 (q23 e)) e
 exact h pq _ σ H xs _ Q I1 (by simpa using rv) hw
def UE (to ti:TE) (t:Hu):TG:=fun v σ H Q=>to σ H fun o H1=>ti σ H1 fun i H2=>t o i v H2 fun H3=>Q σ H3
theorem Gs {o i:Expr} {to ti:TE} {t:Hu} (ho:PE X o to) (hi:PE X i ti) (hs:Lw X t)
  (ha:∀ v,assign (.Subscript o i pos) X.env v=(do
   let ov ← holding [v] (eval o X.env)
   let iv ← holding [v,ov] (eval i X.env)
   standAt pos
   holding [v,ov,iv] (setItem ov iv v)
   release [v,ov,iv] []):=by intro _; rfl):PG X (.Subscript o i pos) (UE to ti t):=by
 intro pq s σ H v u Q I r h;rw[ha];refine wpAny_bind (wpAny_holding (iP (ho pq s σ H _ I h) fun ov s1 ⟨x,H1,I1,r1,q1⟩=>?_));refine wpAny_bind (wpAny_holding (iP (hi pq s1 σ H1 _ I1 q1) fun iv s2 ⟨y,H2,I2,r2,q2⟩=>?_));refine wpAny_bind (wpAny_standAt (wpAny_bind (wpAny_holding (iP (hs pq s2 σ H2 x y v ov iv u _ I2 r1 r2 r q2) fun _ s3 ⟨H3,I3,q3⟩=>?_))));exact wpAny_release ⟨σ,H3,I3,q3⟩
def HE (te:TE) (g:TG):TS:=fun D σ H=>te σ H fun x H1=>g x σ H1 D.nx
theorem Hf {tg e:Expr} {te:TE} {g:TG} (he:PE X e te) (hg:PG X tg g) (hs:swapsWithSole [tg] e pos.line X.env=pure false:=by rfl) (hw:swappedStores [tg] e X.env=pure none:=by rfl)
  (h1:(assignEach [tg] X.env).map (·.2)=[assign tg X.env]:=by rfl):PS X (.Assign [tg] e pos) (HE te g):=by
 intro pq s σ H D I h;refine wpAny_Assign_stores (iP (he pq s σ H _ I h) fun v s1 ⟨x,H1,I1,r1,q1⟩=>?_) hs hw;rw[h1]
 exact iP (hg pq s1 σ H1 x v _ I1 r1 q1) fun _ s2 q=>q
theorem FV {i:Nat} {x:Str} {e:Expr} {te:TE} {pos':Pos} (hN:X.N.Nodup) (hi:X.N[i]?=some x) (hx:HQ X.env.scope x) (he:PE X e te) (hs:swapsWith e (some (.Name x pos')) pos.line X.env=pure false:=by rfl) (hf:X.fn x=true∨X.env.scope.names.lookup x=some .local:=by first|exact .inl rfl|exact .inr rfl|assumption) :
  PS X (.Assign [.Name x pos'] e pos) (HE te (EZ i)):=by
 intro pq s σ H D I h;refine wpAny_Assign_Name (iP (he pq s σ H _ I h) fun v s1 ⟨y,H1,I1,r1,q1⟩=>?_) hs;exact wO I1 hN hi hx r1 (fun s2 I2=>⟨_,H1,I2,q1⟩) hf
end
section
variable {X:Cx} {pos:Pos}
end
structure It where
 go:Nat→Hp→Prop
 yld:Nat→Hp→V→Hp→Prop
 stop:Nat→Hp→Prop
def pR (X:Cx) (pq:List (Addr×Obj)) (H:Hp) (b:Addr):Prop:=
 H b=none∧b≠X.env.locals∧b∉X.fs∧(b∈X.ex∨X.s₀.heap.objs.size≤b)∧(∀ x c,X.env.cells.lookup x=some c→c≠b)∧∀ p∈X.pn++pq,p.1≠b
theorem b9.fpOk {X:Cx} {pq:List (Addr×Obj)} {σ:St} {H H':Hp} {s:Shared} {b:Addr} (I:b9 X pq σ H s) (hb:s.heap.objs.size≤b) (hn:H' b=none):pR X pq H' b:=by
 refine⟨hn,Nat.ne_of_gt (q29 I.lt hb),I.nofs hb,.inr (q57 I.sz hb),fun x c e z=>?_,fun p hp z=>?_⟩
 ·obtain⟨v,q⟩:=I.cell x c e
  exact absurd (q29 q.lt (by rw[z]; exact hb)) (q67 _)
 ·exact absurd (q29 (q23 (I.pin p hp).1) (by rw[z]; exact hb)) (q67 _)
structure Cl (P:Program) (w:World) (K:q04) (tg:Expr) (J:It) (fp:List Addr) (it:Addr) (tn:Nat→Heap→Prop):Prop where
 mem:it∈fp
 obj:∀ i h,tn i h→∀ b∈fp,∃ o,h.get? b=some o∧∀ v,o.data≠.cell v
 keep:∀ i h h',tn i h→(∀ b∈fp,∀ o,h.get? b=some o→h'.get? b=some o)→tn i h'
 item:∀ (X:Cx),X.prog=P→X.w=w→X.K=K→X.calm=true→∀ (i:Nat) (pq:List (Addr×Obj)) (s:Shared) (σ:St) (H:Hp) (E:Value→Shared→Prop),b9 X pq σ H s→(∀ b∈fp,pR X pq H b)→tn i s.heap→J.go i H→
  wpAny (model P w) X.A (pyNext (.ref it)) (fun r s1=>∃ u,r=some u∧
   wpAny (model P w) X.A (letOwnedTupleGo tg (.ref it) u) (fun _ s2=>∃ x H',b9 X pq σ H' s2∧eU x u∧J.yld i H x H'∧tn (i+1) s2.heap∧∀ b∈fp,H' b=none) E s1) E s
 done:∀ (X:Cx),X.prog=P→X.w=w→X.K=K→X.calm=true→∀ (i:Nat) (pq:List (Addr×Obj)) (s:Shared) (σ:St) (H:Hp) (E:Value→Shared→Prop),b9 X pq σ H s→(∀ b∈fp,pR X pq H b)→tn i s.heap→J.stop i H→
  wpAny (model P w) X.A (pyNext (.ref it)) (fun r s1=>r=none∧b9 X pq σ H s1) E s
 self:∀ (A:Around) (i:Nat) (s:Shared) (Q:Value→Shared→Prop) (E:Value→Shared→Prop),tn i s.heap→Q (.ref it) s→wpAny (model P w) A (pyIter (.ref it)) Q E s
abbrev TI:=St→Hp→(It→Hp→Prop)→Prop
def PIE (X:Cx) (pq:List (Addr×Obj)) (σ:St) (tg:Expr) (R:It→Hp→Prop) (itv:Value) (s2:Shared):Prop:=
 ∃ (it:Addr) (fp:List Addr) (tn:Nat→Heap→Prop) (J:It) (H':Hp),itv=.ref it∧b9 X pq σ H' s2∧Cl X.prog X.w X.K tg J fp it tn∧tn 0 s2.heap∧(∀ b∈fp,pR X pq H' b)∧R J H'
def PI (X:Cx) (tg iter:Expr) (wi:TI):Prop:=
 ∀ (pq:List (Addr×Obj)) (s:Shared) (σ:St) (H:Hp) (R:It→Hp→Prop),b9 X pq σ H s→wi σ H R→
  wpAny (model X.prog X.w) X.A (eval iter X.env) (fun v s1=>wpAny (model X.prog X.w) X.A (pyIter v) (PIE X pq σ tg R) X.xe s1) X.xe s
theorem EV {M:Model} {A:Around} {E:Value→Shared→Prop} {s:Shared} {tg:Expr} {it:Addr} {u:Value} {o:Obj} {n:String} {vs:Array Value} {Q:Unit→Shared→Prop} (ho:s.heap.get? it=some o) (hc:o.cls=.type n) (hd:o.data=.fields vs)
  (hn:["enumerate","zip","dict_itemiterator","dict_reverseitemiterator","odict_iterator","itertools.zip_longest","itertools.pairwise"].contains n=false) (hQ:Q () s):wpAny M A (letOwnedTupleGo tg (.ref it) u) Q E s:=by
 unfold letOwnedTupleGo
 cases tg<;>first
  | exact wpAny_pure hQ
  | (cases u<;>first
    | exact wpAny_pure hQ
    | (refine wpAny_bind (wpAny_load ho ?_)
       rw[hc,hd];show wpAny M A (if (["enumerate","zip","dict_itemiterator","dict_reverseitemiterator","odict_iterator","itertools.zip_longest","itertools.pairwise"].contains n&&vs[0]?==some (rawInt _))=true then _ else _) Q E s;rw[if_neg (by intro h; rw[hn,Bool.false_and] at h; cases h)]
       exact wpAny_pure hQ))
def Itl (K:q04) (a:Addr):It:=
 ⟨fun i H=>∃ xs x,oU K H a xs∧xs[i]?=some x,fun i H x H'=>H'=H∧∀ xs,oU K H a xs→xs[i]?=some x,fun i H=>∃ xs,oU K H a xs∧xs.length≤i⟩
def Itt (K:q04) (a:Addr):It:=
 ⟨fun i H=>∃ xs x,qc K H a xs∧xs[i]?=some x,fun i H x H'=>H'=H∧∀ xs,qc K H a xs→xs[i]?=some x,fun i H=>∃ xs,qc K H a xs∧xs.length≤i⟩
theorem Au {P:Program} {w:World} {K:q04} {tg:Expr} (a it:Addr):Cl P w K tg (Itl K a) [it] it (fun i h=>h.IsListIter it a i) where
 mem:=by simp
 obj:=fun i h st b hb=>by
  have e:b=it:=by simpa using hb
  subst e;obtain⟨o,e,c,d⟩:=st;exact⟨o,e,fun v z=>by rw[d] at z; cases z⟩
 keep:=fun i h h' st k=>st.at fun o e=>k it (by simp) o e
 item:=by
  intro X hP hw hK hc i pq s σ H E I hf st hg;subst hP hw hK;obtain⟨xs,x,hq,hx⟩:=hg;obtain⟨its,rv,p,hz⟩:=I.list hq;obtain⟨u,hu,ru⟩:=rv.get hx;obtain⟨f0,f1,f2,f3,f4,f5⟩:=hf it (by simp)
  refine wpAny_pyNext_list_item st p.isList (x:=u) (by simpa using hu) fun h' st' sb=>?_
  have I1:b9 X pq σ H { s with heap:=h' }:=I.turned (t':=s.toks) (fun b o hb e=>(sb.2 b hb).trans e) f0 f1 f3 f4 f5
  obtain⟨o,e,c,d⟩:=id st';exact⟨u,rfl,EV (s:={ s with heap:=h' }) e c d (by decide) ⟨x,H,I1,ru,⟨rfl,fun ys hy=>by rw[I.list_inj hy hq]; exact hx⟩,st',fun b hb=>(hf b hb).1⟩⟩
 done:=by
  intro X hP hw hK hc i pq s σ H E I hf st hg;subst hP hw hK;obtain⟨xs,hq,hx⟩:=hg;obtain⟨its,rv,p,hz⟩:=I.list hq;obtain⟨f0,f1,f2,f3,f4,f5⟩:=hf it (by simp);have hl:=rv.length
  exact wpAny_pyNext_list_end (I.ok.hd hc) st p.isList (by simp; omega) fun h' eb=>⟨rfl,I.turned (t':=s.toks) (fun b o hb e=>eb b o hb e) f0 f1 f3 f4 f5⟩
 self:=fun _ _ _ _ _ st h=>wpAny_pyIter_listiter st h
theorem xL {P:Program} {w:World} {K:q04} {tg:Expr} (a it:Addr):Cl P w K tg (Itt K a) [it] it (fun i h=>h.IsTupleIter it a i) where
 mem:=by simp
 obj:=fun i h st b hb=>by
  have e:b=it:=by simpa using hb
  subst e;obtain⟨o,e,c,d⟩:=st;exact⟨o,e,fun v z=>by rw[d] at z; cases z⟩
 keep:=fun i h h' st k=>st.at fun o e=>k it (by simp) o e
 item:=by
  intro X hP hw hK hc i pq s σ H E I hf st hg;subst hP hw hK;obtain⟨xs,x,hq,hx⟩:=hg;obtain⟨its,rv,p,hz⟩:=I.tuple hq;obtain⟨u,hu,ru⟩:=rv.get hx;obtain⟨f0,f1,f2,f3,f4,f5⟩:=hf it (by simp)
  refine wpAny_pyNext_tuple_item st (show s.heap.IsTuple a its.toArray from p) (x:=u) (by simpa using hu) fun h' st' sb=>?_
  have I1:b9 X pq σ H { s with heap:=h' }:=I.turned (t':=s.toks) (fun b o hb e=>(sb.2 b hb).trans e) f0 f1 f3 f4 f5
  obtain⟨o,e,c,d⟩:=id st';exact⟨u,rfl,EV (s:={ s with heap:=h' }) e c d (by decide) ⟨x,H,I1,ru,⟨rfl,fun ys hy=>by rw[I.tuple_inj hy hq]; exact hx⟩,st',fun b hb=>(hf b hb).1⟩⟩
 done:=by
  intro X hP hw hK hc i pq s σ H E I hf st hg;subst hP hw hK;obtain⟨xs,hq,hx⟩:=hg;obtain⟨its,rv,p,hz⟩:=I.tuple hq;obtain⟨f0,f1,f2,f3,f4,f5⟩:=hf it (by simp);have hl:=rv.length
  exact wpAny_pyNext_tuple_end (I.ok.hd hc) st (show s.heap.IsTuple a its.toArray from p) (by simp; omega) fun h' eb=>⟨rfl,I.turned (t':=s.toks) (fun b o hb e=>eb b o hb e) f0 f1 f3 f4 f5⟩
 self:=fun _ _ _ _ _ st h=>wpAny_pyIter_tupleiter st h
section
variable {X:Cx} {tg:Expr}
def Mv (K:q04) (tl:TE):TI:=fun σ H R=>tl σ H fun x H1=>∃ a,x=.ref a∧(∃ xs,oU K H1 a xs)∧R (Itl K a) H1
def WT (K:q04) (tl:TE):TI:=fun σ H R=>tl σ H fun x H1=>∃ a,x=.ref a∧(∃ xs,qc K H1 a xs)∧R (Itt K a) H1
theorem Dd {l:Expr} {tl:TE} (hl:PE X l tl):PI X tg l (Mv X.K tl):=by
 intro pq s σ H R I h
 refine iP (hl pq s σ H _ I h) fun v s1 ⟨x,H1,I1,r1,q1⟩=>?_
 obtain⟨a,e,⟨xs,hq⟩,q⟩:=q1;subst e;cases r1;obtain⟨its,rv,p,hz⟩:=I1.list hq;refine wpAny_pyIter_list p.isList ?_;refine⟨s1.heap.objs.size,[s1.heap.objs.size],_,_,H1,rfl,I1.kept (t':=s1.toks) fun b o e=>q13 _ e,Au a _,⟨_,q35 _ rfl,rfl,rfl⟩,fun b hb=>?_,q⟩
 have e:b=s1.heap.objs.size:=by simpa using hb
 subst e;exact I1.fpOk (q11 _) (I1.hok.fresh (q11 _))
theorem Ga {l:Expr} {tl:TE} (hl:PE X l tl):PI X tg l (WT X.K tl):=by
 intro pq s σ H R I h
 refine iP (hl pq s σ H _ I h) fun v s1 ⟨x,H1,I1,r1,q1⟩=>?_
 obtain⟨a,e,⟨xs,hq⟩,q⟩:=q1;subst e;cases r1;obtain⟨its,rv,p,hz⟩:=I1.tuple hq;refine wpAny_pyIter_tuple (show s1.heap.IsTuple a its.toArray from p) ?_;refine⟨s1.heap.objs.size,[s1.heap.objs.size],_,_,H1,rfl,I1.kept (t':=s1.toks) fun b o e=>q13 _ e,xL a _,⟨_,q35 _ rfl,rfl,rfl⟩,fun b hb=>?_,q⟩
 have e:b=s1.heap.objs.size:=by simpa using hb
 subst e;exact I1.fpOk (q11 _) (I1.hok.fresh (q11 _))
def tFor (wi:TI) (g:TG) (tb:TS):TS:=fun D σ H=>wi σ H fun J H1=>∃ W:Nat→Nat→St→Hp→Prop,(∃ m,W 0 m σ H1)∧∀ i m σ H,W i m σ H→
 (J.stop i H∧D.nx σ H)∨(J.go i H∧∃ N:St→Hp→Prop,(∀ σ' H',N σ' H'→∃ m',m'<m∧W (i+1) m' σ' H')∧∀ x H',J.yld i H x H'→g x σ H' fun σ2 H2=>tb { D with nx:=N,ct:=N,bk:=D.nx } σ2 H2)
def tp (fp:List Addr) (h:Heap):List (Addr×Obj):=fp.filterMap fun b=>(h.get? b).map fun o=>(b,o)
theorem mG {fp:List Addr} {h:Heap} {b:Addr} {o:Obj} (hb:b∈fp) (e:h.get? b=some o):(b,o)∈tp fp h:=List.mem_filterMap.mpr ⟨b,hb,by rw[e]; rfl⟩
theorem zU {fp:List Addr} {h:Heap} {p:Addr×Obj} (hp:p∈tp fp h):p.1∈fp∧h.get? p.1=some p.2:=by
 obtain⟨b,hb,e⟩:=List.mem_filterMap.mp hp
 cases q:h.get? b with
 | none=>rw[q] at e; cases e
 | some o=>
  rw[q] at e;have e':(b,o)=p:=q30 e;subst e';exact⟨hb,q⟩
theorem b9.pinned {pq:List (Addr×Obj)} {σ:St} {H:Hp} {s:Shared} {fp:List Addr} (I:b9 X pq σ H s) (hf:∀ b∈fp,pR X pq H b) (ho:∀ b∈fp,∃ o,s.heap.get? b=some o∧∀ v,o.data≠.cell v):b9 X (pq++tp fp s.heap) σ H s:=
 I.pins_of fun p hp=>(q58.mp hp).elim (fun z=>I.pin p (q41 _ z)) fun z=>by
  obtain⟨hb,e⟩:=zU z;obtain⟨f0,f1,f2,_⟩:=hf p.1 hb;obtain⟨o,e',d⟩:=ho p.1 hb
  rw[e] at e'; cases e'
  exact⟨e,f0,f1,f2,d⟩
theorem b9.unpinned {pq pl:List (Addr×Obj)} {σ:St} {H:Hp} {s:Shared} (I:b9 X (pq++pl) σ H s):b9 X pq σ H s:=I.pins_of fun p hp=>I.pin p (q41 _ (List.mem_append_left _ hp))
theorem HG {iter:Expr} {body:List Stmt} {wi:TI} {g:TG} {tb:TS} {pos:Pos} (hp:PassesOwn (model X.prog X.w) X.A X.env X.xe) (hc:X.calm=true) (hi:PI X tg iter wi) (hg:PG X tg g) (hb:wY X body tb)
  (hs:∀ x,foldedSetIterable iter X.env x=pure x:=by intro _; rfl):PS X (.For tg iter body [] pos) (tFor wi g tb):=by
 intro pq s σ H D I h;refine wpAny_For (iP (hi pq s σ H _ I h) fun v s1 h1=>iP h1 fun itv s2 h2=>?_) hs;obtain⟨it,fp,tn,J,H2,e,I2,T,st2,f2,W,⟨m0,w0⟩,turn⟩:=h2;subst e
 have stat:∀ {H':Hp},(∀ b∈fp,H' b=none)→∀ b∈fp,pR X pq H' b:=fun hn b hb=>⟨hn b hb,(f2 b hb).2⟩
 refine codeAny_forLoop_any (fun n s'=>∃ i σ' H',b9 X pq σ' H' s'∧tn i s'.heap∧(∀ b∈fp,H' b=none)∧W i n σ' H') ?_ m0 ⟨0,σ,H2,I2,st2,fun b hb=>(f2 b hb).1,w0⟩;rintro n s3 ⟨i,σ3,H3,I3,st3,fr3,w3⟩
 rcases turn i n σ3 H3 w3 with ⟨stop,qn⟩|⟨go,N,hN,step⟩
 ·refine wpAny_passesOwn hp (iP (T.done X rfl rfl rfl hc i pq s3 σ3 H3 X.xe I3 (stat fr3) st3 stop) fun r s4 ⟨hr,I4⟩=>?_)
  subst hr;exact wpAny_execs_nil ⟨σ3,H3,I4,qn⟩
 ·refine wpAny_passesOwn hp (iP (T.item X rfl rfl rfl hc i pq s3 σ3 H3 X.xe I3 (stat fr3) st3 go) fun r s4 ⟨u,hr,h4⟩=>?_)
  subst hr;refine wpAny_passesOwn hp (iP h4 fun _ s5 ⟨x,H5,I5,r5,y5,st5,fr5⟩=>?_);have I5':=I5.pinned (stat fr5) (T.obj _ _ st5);refine wpAny_passesOwn hp (iP (hg _ s5 σ3 H5 x u _ I5' r5 (step x H5 y5)) fun _ s6 ⟨σ6,H6,I6,q6⟩=>?_);refine wpAny_passesOwn hp (iP (hb _ s6 σ6 H6 _ I6 q6) fun f s7 q7=>?_)
  have again:∀ {σ7:St} {H7:Hp},b9 X (pq++tp fp s5.heap) σ7 H7 s7→N σ7 H7→∃ m,m<n∧∃ i σ' H',b9 X pq σ' H' s7∧tn i s7.heap∧(∀ b∈fp,H' b=none)∧W i m σ' H':=fun {σ7 H7} I7 n7=>by
   obtain⟨m',hm,w7⟩:=hN σ7 H7 n7;refine⟨m',hm,i+1,σ7,H7,I7.unpinned,T.keep _ _ _ st5 fun b hb o e=>(I7.pin (b,o) (q41 _ (q41 _ (mG hb e)))).1,fun b hb=>?_,w7⟩;obtain⟨o,e,d⟩:=T.obj _ _ st5 b hb;exact(I7.pin (b,o) (q41 _ (q41 _ (mG hb e)))).2.1
  cases f with
  | next=>obtain⟨σ7,H7,I7,n7⟩:=q7; exact again I7 n7
  | cont=>obtain⟨σ7,H7,I7,n7⟩:=q7; exact again I7 n7
  | brk=>obtain⟨σ7,H7,I7,q7⟩:=q7; exact⟨σ7,H7,I7.unpinned,q7⟩
  | ret v=>obtain⟨x7,σ7,H7,I7,r7,q7⟩:=q7; exact⟨x7,σ7,H7,I7.unpinned,r7,q7⟩
end
abbrev R2:=V→V→Hp→VK→Prop
def jh (X:Cx) (f:Value→Value→Sem Value) (r:R2):Prop:=
 ∀ (pq:List (Addr×Obj)) (s:Shared) (σ:St) (H:Hp) (x y:V) (v u:Value) (Q:VK),b9 X pq σ H s→eU x v→eU y u→r x y H Q→
  wpAny (model X.prog X.w) X.A (f v u) (EP X pq σ Q) X.xe s
def OF (X:Cx) (f:Value→Sem Value) (r:V→Hp→VK→Prop):Prop:=
 ∀ (pq:List (Addr×Obj)) (s:Shared) (σ:St) (H:Hp) (x:V) (v:Value) (Q:VK),b9 X pq σ H s→eU x v→r x H Q→
  wpAny (model X.prog X.w) X.A (f v) (EP X pq σ Q) X.xe s
def ki (X:Cx) (f:Value) (r:List V→Hp→VK→Prop):Prop:=
 ∀ (pq:List (Addr×Obj)) (s:Shared) (σ:St) (H:Hp) (xs:List V) (us:List Value) (Q:VK),b9 X pq σ H s→dm xs us→r xs H Q→
  wpAny (model X.prog X.w) X.A (call f us) (EP X pq σ Q) X.xe s
def Qr (X:Cx) (r:V→Hp→(Bool→Hp→Prop)→Prop):Prop:=
 ∀ (pq:List (Addr×Obj)) (s:Shared) (σ:St) (H:Hp) (x:V) (v:Value) (Q:Bool→Hp→Prop),b9 X pq σ H s→eU x v→r x H Q→
  wpAny (model X.prog X.w) X.A (truthy v) (TP X pq σ Q) X.xe s
def IC (r:R2) (ta tb:TE):TE:=fun σ H Q=>ta σ H fun x H1=>tb σ H1 fun y H2=>r x y H2 Q
def tUn (r:V→Hp→VK→Prop) (ta:TE):TE:=fun σ H Q=>ta σ H fun x H1=>r x H1 Q
def rI (C:Int→Int→Prop) (g:Int→Int→V):R2:=fun x y H Q=>∃ i j,x=.int i∧y=.int j∧C i j∧Q (g i j) H
def Dp (g:Int→Int→V):R2:=fun x y H Q=>∃ i j,x=.int i∧y=.int j∧Q (g i j) H
def rU (g:Int→V):V→Hp→VK→Prop:=fun x H Q=>∃ i,x=.int i∧Q (g i) H
section
variable {X:Cx} {a b c:Expr} {ta tb tc:TE} {pos:Pos}
theorem HS (ha:PE X a ta) (hb:PE X b tb) {pq:List (Addr×Obj)} {s:Shared} {σ:St} {H:Hp} {R:V→V→Hp→Prop} (I:b9 X pq σ H s)
  (h:ta σ H fun x H1=>tb σ H1 fun y H2=>R x y H2) {Q:Value→Shared→Prop} {f:Value→Value→Sem Value}
  (hf:∀ v u s2 x y H2,b9 X pq σ H2 s2→eU x v→eU y u→R x y H2→wpAny (model X.prog X.w) X.A (f v u) Q X.xe s2) :
  wpAny (model X.prog X.w) X.A (eval a X.env) (fun v s₁=>wpAny (model X.prog X.w) X.A (eval b X.env) (fun u s₂=>wpAny (model X.prog X.w) X.A (f v u) Q X.xe s₂) X.xe s₁) X.xe s:=by
 refine iP (ha pq s σ H _ I h) fun v s1 ⟨x,H1,I1,r1,q1⟩=>?_
 refine iP (hb pq s1 σ H1 _ I1 q1) fun u s2 ⟨y,H2,I2,r2,q2⟩=>?_
 exact hf v u s2 x y H2 I2 r1 r2 q2
theorem KI {op:Operator} {r:R2} (ho:jh X (binaryOp op) r) (ha:PE X a ta) (hb:PE X b tb):PE X (.BinOp a op b pos) (IC r ta tb):=by
 intro pq s σ H Q I h;exact wpAny_BinOp (HS ha hb I h fun v u s2 x y H2 I2 rx ry q=>ho pq s2 σ H2 x y v u Q I2 rx ry q)
theorem Lo {op:UnaryOp} {r:V→Hp→VK→Prop} (ho:OF X (unaryOp op) r) (ha:PE X a ta):PE X (.UnaryOp op a pos) (tUn r ta):=by
 intro pq s σ H Q I h;exact UnaryOp_ (iP (ha pq s σ H _ I h) fun v s1 ⟨x,H1,I1,r1,q1⟩=>ho pq s1 σ H1 x v Q I1 r1 q1)
theorem Nm {f:Value→Value→Sem Value} {C:Int→Int→Prop} {g:Int→Int→Int}
  (rule:∀ (i j:Int) (t u:Tok) (s:Shared) (Q:Value→Shared→Prop) (E:Value→Shared→Prop),C i j→Q (.int (g i j) s.toks) { s with toks:=s.toks+1 }→wpAny (model X.prog X.w) X.A (f (.int i t) (.int j u)) Q E s) :
  jh X f (rI C fun i j=>.int (g i j)):=by
 intro pq s σ H x y v u Q I rx ry h;obtain⟨i,j,rfl,rfl,hc,q⟩:=h;obtain⟨t,rfl⟩:=rx;obtain⟨t',rfl⟩:=ry;exact rule i j t t' s _ _ hc ⟨.int (g i j),H,I.tok _,⟨_,rfl⟩,q⟩
theorem Jo {f:Value→Value→Sem Value} {g:Int→Int→Int}
  (rule:∀ (i j:Int) (t u:Tok) (s:Shared) (Q:Value→Shared→Prop) (E:Value→Shared→Prop),Q (.int (g i j) s.toks) { s with toks:=s.toks+1 }→wpAny (model X.prog X.w) X.A (f (.int i t) (.int j u)) Q E s) :
  jh X f (Dp fun i j=>.int (g i j)):=by
 intro pq s σ H x y v u Q I rx ry h;obtain⟨i,j,rfl,rfl,q⟩:=h;obtain⟨t,rfl⟩:=rx;obtain⟨t',rfl⟩:=ry;exact rule i j t t' s _ _ ⟨.int (g i j),H,I.tok _,⟨_,rfl⟩,q⟩
theorem FU {f:Value→Value→Sem Value} {g:Int→Int→Bool}
  (rule:∀ (i j:Int) (t u:Tok) (s:Shared) (Q:Value→Shared→Prop) (E:Value→Shared→Prop),Q (.bool (g i j)) s→wpAny (model X.prog X.w) X.A (f (.int i t) (.int j u)) Q E s) :
  jh X f (Dp fun i j=>.bl (g i j)):=by
 intro pq s σ H x y v u Q I rx ry h;obtain⟨i,j,rfl,rfl,q⟩:=h;obtain⟨t,rfl⟩:=rx;obtain⟨t',rfl⟩:=ry;exact rule i j t t' s _ _ ⟨.bl (g i j),H,I,rfl,q⟩
def RA (i j:Int):Prop:=0<j∧j<1073741824
def NQ (i j:Int):Prop:=0≤j∧j≤1000000∧i.natAbs<2 ^ 64
def DF (i j:Int):Prop:=(-(2 ^ 64)<i∧i<2 ^ 64)∨(-(2 ^ 64)<j∧j<2 ^ 64)
theorem DF.ok {i j:Int} (h:DF i j):IntMulOk i j:=by
 rcases h with ⟨h1,h2⟩|⟨h1,h2⟩
 ·exact .of_left (intBits_le_64 h1 h2)
 ·exact .of_right (intBits_le_64 h1 h2)
theorem Gn:jh X (binaryOp .Add) (Dp fun i j=>.int (i+j)):=Jo fun _ _ _ _ _ _ _ q=>add_int q
theorem Fx:jh X (binaryOp .Sub) (Dp fun i j=>.int (i-j)):=Jo fun _ _ _ _ _ _ _ q=>sub_int q
theorem Hl:jh X (binaryOp .Mult) (rI DF fun i j=>.int (i*j)):=Nm fun _ _ _ _ _ _ _ hc q=>mul_int q hc.ok
theorem Ea:jh X (binaryOp .FloorDiv) (rI RA fun i j=>.int (i/j)):=Nm fun i j _ _ _ _ _ hc q=>by
 have h1:(0:Int)<j:=hc.1;have h2:j<1073741824:=hc.2;exact floordiv_int (by omega) (by rw[Int.fdiv_eq_ediv_of_nonneg i (by omega)]; exact q) (.inl (PyProof.noPylong_small (by omega)))
theorem Hd:jh X (binaryOp .Mod) (rI (fun _ j=>0<j) fun i j=>.int (i%j)):=Nm fun i j _ _ _ _ _ hc q=>by
 have h1:(0:Int)<j:=hc;exact mod_int' (by omega) (by rw[Int.fmod_eq_emod_of_nonneg i (by omega)]; exact q)
theorem FZ:jh X (binaryOp .Pow) (rI NQ fun i j=>.int (i ^ j.toNat)):=Nm fun _ _ _ _ _ _ _ hc q=>pow_int_small hc.1 hc.2.1 hc.2.2 q
theorem unI {f:Value→Sem Value} {g:Int→Int}
  (rule:∀ (i:Int) (t:Tok) (s:Shared) (Q:Value→Shared→Prop) (E:Value→Shared→Prop),Q (.int (g i) s.toks) { s with toks:=s.toks+1 }→wpAny (model X.prog X.w) X.A (f (.int i t)) Q E s) :
  OF X f (rU fun i=>.int (g i)):=by
 intro pq s σ H x v Q I rx h;obtain⟨i,rfl,q⟩:=h;obtain⟨t,rfl⟩:=rx;exact rule i t s _ _ ⟨.int (g i),H,I.tok _,⟨_,rfl⟩,q⟩
theorem Fy:OF X (unaryOp .USub) (rU fun i=>.int (-i)):=unI fun _ _ _ _ _ q=>neg_int q
end
def DQ:V→V→Bool
 | .non,.non=>true | .non,.int _=>true | .int _,.non=>true | .non,.bl _=>true | .bl _,.non=>true | .non,.str _=>true | .str _,.non=>true
 | .int _,.int _=>true | .bl _,.bl _=>true | .str _,.str _=>true | .byt _,.byt _=>true
 | .int _,.str _=>true | .str _,.int _=>true | .bl _,.str _=>true | .str _,.bl _=>true
 | _,_=>false
def rEq:R2:=fun x y H Q=>DQ x y=true∧Q (.bl (decide (x=y))) H
def rNe:R2:=fun x y H Q=>DQ x y=true∧Q (.bl (!decide (x=y))) H
theorem rW {i j:Int}:decide (V.int i=V.int j)=(i==j):=by
 rw[q52];simp
theorem uU {i j:Bool}:decide (V.bl i=V.bl j)=(i==j):=by
 rw[q52];simp
theorem yv {i j:Str}:decide (V.str i=V.str j)=(i==j):=by
 rw[q52];simp
theorem yK {i j:Array UInt8}:decide (V.byt i=V.byt j)=(i.toList==j.toList):=by
 rw[q52];cases i;cases j;simp
section
variable {X:Cx} {a b c:Expr} {ta tb tc:TE} {pos:Pos}
theorem dD {pq:List (Addr×Obj)} {σ:St} {H:Hp} {s:Shared} {Q:VK} {k k':Bool} (I:b9 X pq σ H s) (q:Q (.bl k) H) (e:k=k'):EP X pq σ Q (.bool k') s:=by
 subst e;exact⟨.bl k,H,I,rfl,q⟩
theorem J7:jh X (compareOp .Eq) rEq:=by
 intro pq s σ H x y v u Q I rx ry h;obtain⟨hs,q⟩:=h
 cases x with
 | non=>
  cases rx
  cases y with
  | non=>cases ry; exact PySem.EqNone.eq_none_none (dD I q (by simp))
  | bl j=>cases ry; exact PySem.EqNone.eq_none_bool (dD I q (by simp))
  | int j=>obtain⟨t',rfl⟩:=ry; exact PySem.EqNone.eq_none_int (dD I q (by simp))
  | str j=>obtain⟨t',rfl⟩:=ry; exact PySem.EqNone.eq_none_str (dD I q (by simp))
  | _=>exact absurd (show false=true from hs) q18
 | bl i=>
  cases rx
  cases y with
  | non=>cases ry; exact PySem.EqNone.eq_bool_none (dD I q (by simp))
  | bl j=>cases ry; exact eq_bool (dD I q uU)
  | str j=>obtain⟨t',rfl⟩:=ry; exact PySem.EqMixed.eq_bool_str (dD I q (by simp))
  | _=>exact absurd (show false=true from hs) q18
 | int i=>
  obtain⟨t,rfl⟩:=rx
  cases y with
  | non=>cases ry; exact PySem.EqNone.eq_int_none (dD I q (by simp))
  | int j=>obtain⟨t',rfl⟩:=ry; exact eq_int (dD I q rW)
  | str j=>obtain⟨t',rfl⟩:=ry; exact PySem.EqMixed.eq_int_str (dD I q (by simp))
  | _=>exact absurd (show false=true from hs) q18
 | str i=>
  obtain⟨t,rfl⟩:=rx
  cases y with
  | non=>cases ry; exact PySem.EqNone.eq_str_none (dD I q (by simp))
  | bl j=>cases ry; exact PySem.EqMixed.eq_str_bool (dD I q (by simp))
  | int j=>obtain⟨t',rfl⟩:=ry; exact PySem.EqMixed.eq_str_int (dD I q (by simp))
  | str j=>obtain⟨t',rfl⟩:=ry; exact eq_str (dD I q yv)
  | _=>exact absurd (show false=true from hs) q18
 | byt i=>
  obtain⟨t,rfl⟩:=rx
  cases y with
  | byt j=>obtain⟨t',rfl⟩:=ry; exact PySem.W.eq_bytes (dD I q yK)
  | _=>exact absurd (show false=true from hs) q18
 | _=>cases y<;>exact absurd (show false=true from hs) q18
theorem K1:jh X (compareOp .NotEq) rNe:=by
 intro pq s σ H x y v u Q I rx ry h;obtain⟨hs,q⟩:=h
 cases x with
 | non=>
  cases rx
  cases y with
  | non=>cases ry; exact PySem.EqNone.ne_none_none (dD I q (by simp))
  | bl j=>cases ry; exact PySem.EqNone.ne_none_bool (dD I q (by simp))
  | int j=>obtain⟨t',rfl⟩:=ry; exact PySem.EqNone.ne_none_int (dD I q (by simp))
  | str j=>obtain⟨t',rfl⟩:=ry; exact PySem.EqNone.ne_none_str (dD I q (by simp))
  | _=>exact absurd (show false=true from hs) q18
 | bl i=>
  cases rx
  cases y with
  | non=>cases ry; exact PySem.EqNone.ne_bool_none (dD I q (by simp))
  | bl j=>cases ry; exact ne_bool (dD I q (congrArg not uU))
  | str j=>obtain⟨t',rfl⟩:=ry; exact PySem.EqMixed.ne_bool_str (dD I q (by simp))
  | _=>exact absurd (show false=true from hs) q18
 | int i=>
  obtain⟨t,rfl⟩:=rx
  cases y with
  | non=>cases ry; exact PySem.EqNone.ne_int_none (dD I q (by simp))
  | int j=>obtain⟨t',rfl⟩:=ry; exact ne_int (dD I q (congrArg not rW))
  | str j=>obtain⟨t',rfl⟩:=ry; exact PySem.EqMixed.ne_int_str (dD I q (by simp))
  | _=>exact absurd (show false=true from hs) q18
 | str i=>
  obtain⟨t,rfl⟩:=rx
  cases y with
  | non=>cases ry; exact PySem.EqNone.ne_str_none (dD I q (by simp))
  | bl j=>cases ry; exact PySem.EqMixed.ne_str_bool (dD I q (by simp))
  | int j=>obtain⟨t',rfl⟩:=ry; exact PySem.EqMixed.ne_str_int (dD I q (by simp))
  | str j=>obtain⟨t',rfl⟩:=ry; exact ne_str (dD I q (congrArg not yv))
  | _=>exact absurd (show false=true from hs) q18
 | byt i=>
  obtain⟨t,rfl⟩:=rx
  cases y with
  | byt j=>obtain⟨t',rfl⟩:=ry; exact PySem.W.ne_bytes (dD I q (congrArg not yK))
  | _=>exact absurd (show false=true from hs) q18
 | _=>cases y<;>exact absurd (show false=true from hs) q18
theorem Lk:jh X (compareOp .Lt) (Dp fun i j=>.bl (decide (i<j))):=FU fun _ _ _ _ _ _ _ q=>lt_int q
theorem Lc:jh X (compareOp .LtE) (Dp fun i j=>.bl (decide (i≤j))):=FU fun _ _ _ _ _ _ _ q=>le_int q
theorem MM:jh X (compareOp .Gt) (Dp fun i j=>.bl (decide (j<i))):=FU fun _ _ _ _ _ _ _ q=>gt_int q
theorem zW:jh X (compareOp .Lt) (fun x y H Q=>∃ i j,x=.str i∧y=.str j∧Q (.bl (decide (i.cps.toList<j.cps.toList))) H):=by
 intro pq s σ H x y v u Q I rx ry h;obtain⟨i,j,rfl,rfl,q⟩:=h;obtain⟨t,rfl⟩:=rx;obtain⟨t',rfl⟩:=ry;exact lt_str (dD I q rfl)
theorem zX:jh X (compareOp .In) (fun x y H Q=>∃ i j,x=.str i∧y=.str j∧Q (.bl (!(Builtin.Str.occurrences j i 0 j.length 1).isEmpty)) H):=by
 intro pq s σ H x y v u Q I rx ry h;obtain⟨i,j,rfl,rfl,q⟩:=h;obtain⟨t,rfl⟩:=rx;obtain⟨t',rfl⟩:=ry;exact in_str (dD I q rfl)
theorem VW (b:Expr) {op:CmpOp} (h:op≠.In:=by decide) (h2:op≠.NotIn:=by decide):behindInMarks op b=false:=by
 have e1:(op==CmpOp.In)=false:=by cases op<;>first|rfl|exact absurd rfl h
 have e2:(op==CmpOp.NotIn)=false:=by cases op<;>first|rfl|exact absurd rfl h2
 cases b<;>simp[behindInMarks,e1,e2]
theorem Ep {op:CmpOp} {r:R2} (ho:jh X (compareOp op) r) (ha:PE X a ta) (hb:PE X b tb) (hm:behindInMarks op b=false):PE X (.Compare a [op] [b] pos) (IC r ta tb):=by
 intro pq s σ H Q I h;exact wpAny_Compare1 (HS ha hb I h fun v u s2 x y H2 I2 rx ry q=>ho pq s2 σ H2 x y v u Q I2 rx ry q) hm
def Fp (t:TE):TT:=fun σ H Q=>t σ H fun x H'=>∃ k,x=.bl k∧Q k H'
theorem D1 {op:CmpOp} {r:R2} (ho:jh X (compareOp op) r) (ha:PE X a ta) (hb:PE X b tb) (hm:behindInMarks op b=false):PT X (.Compare a [op] [b] pos) (Fp (IC r ta tb)):=by
 intro pq s σ H Q I h
 refine wpAny_isTrue_Compare1 (iP (ha pq s σ H _ I h) fun v s1 ⟨x,H1,I1,r1,q1⟩=>iP (hb pq s1 σ H1 _ I1 q1) fun u s2 ⟨y,H2,I2,r2,q2⟩=>
  iP (ho pq s2 σ H2 x y v u _ I2 r1 r2 q2) fun c s3 ⟨z,H3,I3,r3,k,e,q3⟩=>?_) hm
 subst e;cases r3;exact wpAny_truthy_bool ⟨H3,I3,q3⟩
def xH (r r':R2) (ta tb tc:TE):TE:=fun σ H Q=>ta σ H fun x H1=>tb σ H1 fun y H2=>r x y H2 fun z H3=>∃ k,z=.bl k∧
 (if k=true then tc σ H3 fun w' H4=>r' y w' H4 Q else Q (.bl false) H3)
theorem CL {op op':CmpOp} {r r':R2} (ho:jh X (compareOp op) r) (ho':jh X (compareOp op') r') (ha:PE X a ta) (hb:PE X b tb) (hc:PE X c tc)
  (hm:lastMarks [op,op'] [b,c]=false:=by with_unfolding_all rfl):PE X (.Compare a [op,op'] [b,c] pos) (xH r r' ta tb tc):=by
 intro pq s σ H Q I h
 refine Compare_chain (iP (ha pq s σ H _ I h) fun v s1 ⟨x,H1,I1,r1,q1⟩=>chain_link (iP (hb pq s1 σ H1 _ I1 q1) fun u s2 ⟨y,H2,I2,r2,q2⟩=>
  iP (ho pq s2 σ H2 x y v u _ I2 r1 r2 q2) fun d s3 ⟨z,H3,I3,r3,k,e,q3⟩=>?_)) hm
 subst e;cases r3;refine wpAny_truthy_bool ?_
 cases k with
 | false=>exact ite_ff ⟨.bl false,H3,I3,rfl,q3⟩
 | true=>exact ite_tt (chain_last (iP (hc pq s3 σ H3 _ I3 q3) fun w' s4 ⟨z',H4,I4,r4,q4⟩=>ho' pq s4 σ H4 y z' u w' Q I4 r2 r4 q4))
theorem BB {op op':CmpOp} {r r':R2} (ho:jh X (compareOp op) r) (ho':jh X (compareOp op') r') (ha:PE X a ta) (hb:PE X b tb) (hc:PE X c tc)
  (hm:lastMarks [op,op'] [b,c]=false:=by with_unfolding_all rfl):PT X (.Compare a [op,op'] [b,c] pos) (Fp (xH r r' ta tb tc)):=by
 intro pq s σ H Q I h
 refine isTrue_chain (iP (ha pq s σ H _ I h) fun v s1 ⟨x,H1,I1,r1,q1⟩=>test_link (iP (hb pq s1 σ H1 _ I1 q1) fun u s2 ⟨y,H2,I2,r2,q2⟩=>
  iP (ho pq s2 σ H2 x y v u _ I2 r1 r2 q2) fun d s3 ⟨z,H3,I3,r3,k,e,q3⟩=>?_)) hm
 subst e;cases r3;refine wpAny_truthy_bool ?_
 cases k with
 | false=>
  obtain⟨k',e',q'⟩:=q3;cases e';exact ite_ff ⟨H3,I3,q'⟩
 | true=>
  refine ite_tt (test_last (iP (hc pq s3 σ H3 _ I3 q3) fun w' s4 ⟨z',H4,I4,r4,q4⟩=>iP (ho' pq s4 σ H4 y z' u w' _ I4 r2 r4 q4) fun d' s5 ⟨z2,H5,I5,r5,k2,e2,q5⟩=>?_));subst e2;cases r5;exact wpAny_truthy_bool ⟨H5,I5,q5⟩
def Ki (K:q04) (x:V) (H:Hp) (k:Bool):Prop:=
 match x with
 | .non=>k=false
 | .bl b=>k=b
 | .int i=>k=(i != 0)
 | .str y=>y.length≤sizeLine∧k=((y.length:Int) != 0)
 | .byt y=>y.size≤sizeLine∧k=((y.size:Int) != 0)
 | .ref p=>(∃ xs,oU K H p xs∧k=!xs.isEmpty)∨(∃ xs,qc K H p xs∧k=!xs.isEmpty)∨∃ kvs,H p=some (.dK kvs)∧k=!kvs.isEmpty
 | _=>False
theorem xZ {κ:Type} {kvs:List (κ×V)} {vs:List (κ×Value)} (r:KV kvs vs):(!vs.isEmpty)=!kvs.isEmpty:=by
 cases r<;>rfl
theorem tm {xs:List V} {its:List Value} (r:dm xs its):(!its.toArray.isEmpty)=!xs.isEmpty:=by
 cases r<;>simp
theorem qA:(sizeLine:Nat)<2 ^ 63:=by rw[sizeLine_eq]; decide
theorem F2:Qr X (fun x H Q=>∃ k,Ki X.K x H k∧Q k H):=by
 intro pq s σ H x v Q I rx h;obtain⟨k,e,q⟩:=h;have hl:=qA;have hs:sizeLine=16777216:=sizeLine_eq
 cases x with
 | non=>
  cases rx;have e':k=false:=e;subst e';exact truthy_none ⟨H,I,q⟩
 | bl b=>
  cases rx;have e':k=b:=e;subst e';exact wpAny_truthy_bool ⟨H,I,q⟩
 | int i=>
  obtain⟨t,rfl⟩:=rx;have e':k=(i != 0):=e;subst e';exact PySem.P.truthy_int ⟨H,I,q⟩
 | str y=>
  obtain⟨t,rfl⟩:=rx;obtain⟨hy,e'⟩:y.length≤sizeLine∧k=((y.length:Int) != 0):=e;subst e';exact PySem.P.truthy_str (by omega) ⟨H,I.tok _,q⟩
 | byt y=>
  obtain⟨t,rfl⟩:=rx;obtain⟨hy,e'⟩:y.size≤sizeLine∧k=((y.size:Int) != 0):=e;subst e';exact PySem.W.truthy_bytes (by omega) ⟨H,I.tok _,q⟩
 | ref p=>
  cases rx;have e':(∃ xs,oU X.K H p xs∧k=!xs.isEmpty)∨(∃ xs,qc X.K H p xs∧k=!xs.isEmpty)∨∃ kvs,H p=some (.dK kvs)∧k=!kvs.isEmpty:=e
  rcases e' with ⟨xs,hx,e'⟩|⟨xs,hx,e'⟩|⟨kvs,hx,e'⟩
  ·subst e'
   obtain⟨its,r,pl,hz⟩:=I.list hx;have hlen:=r.length;exact wpAny_truthy_list pl.isList (by simp only[q17]; omega) ⟨H,I.tok _,by rw[tm r]; exact q⟩
  ·subst e'
   obtain⟨its,r,pl,hz⟩:=I.tuple hx;have hlen:=r.length;exact truthy_tuple pl (by simp only[q17]; omega) ⟨H,I.tok _,by rw[tm r]; exact q⟩
  ·subst e'
   obtain⟨hz,hS,vs,r,m⟩:kvs.length≤sizeLine∧(p==sysModules)=false∧∃ vs,KV kvs vs∧s.heap.DictOf (vo X.prog X.w) p vs:=I.hok p _ hx;have hlen:kvs.length=vs.length:=Paired.length r;exact wpAny_truthy_dict hS m (by omega) ⟨H,I.tok _,by rw[xZ r]; exact q⟩
 | _=>exact(show False from e).elim
theorem Bc (ha:PE X a ta) (he:∀ whole,isTrue a X.env whole=(do let v ← whole; standAt a.pos; holding [v] (truthy v))) :
  PT X a (fun σ H Q=>ta σ H fun x H'=>∃ k,Ki X.K x H' k∧Q k H'):=by
 intro pq s σ H Q I h;exact isTrue_plain (iP (ha pq s σ H _ I h) fun v s1 ⟨x,H1,I1,r1,q1⟩=>F2 pq s1 σ H1 x v Q I1 r1 q1) (he _)
theorem xF:jh X (binaryOp .Add) (fun x y H Q=>∃ i j,x=.str i∧y=.str j∧i.length+j.length≤sizeLine∧Q (.str (i++j)) H):=by
 intro pq s σ H x y v u Q I rx ry h;obtain⟨i,j,rfl,rfl,hz,q⟩:=h;obtain⟨t,rfl⟩:=rx;obtain⟨t',rfl⟩:=ry;exact add_str (fun t' tk=>⟨.str (i++j),H,I.tok _,⟨_,rfl⟩,q⟩) hz
theorem qS {x:V} {us:List Value} (r:dm [x] us):∃ u,us=[u]∧eU x u:=by
 cases r with
 | cons r1 r2=>cases r2; exact⟨_,rfl,r1⟩
theorem Ff {x y:V} {us:List Value} (r:dm [x,y] us):∃ u w',us=[u,w']∧eU x u∧eU y w':=by
 cases r with
 | cons r1 r2=>
  cases r2 with
  | cons r3 r4=>cases r4; exact⟨_,_,rfl,r1,r3⟩
theorem Aa (hc:X.calm=true):ki X (.builtin "min") (fun xs H Q=>∃ i j,xs=[.int i,.int j]∧Q (.int (if j<i then j else i)) H):=by
 intro pq s σ H xs us Q I r h;obtain⟨i,j,rfl,q⟩:=h;obtain⟨u,w',rfl,⟨t,rfl⟩,⟨t',rfl⟩⟩:=Ff r
 refine min_two_ints (I.ok.hd hc) fun h' tk k=>⟨_,H,I.kept k,?_,q⟩
 by_cases hj:j<i
 ·rw[if_pos hj,if_pos hj]; exact⟨_,rfl⟩
 ·rw[if_neg hj,if_neg hj]; exact⟨_,rfl⟩
theorem u5:ki X (.type "str") (fun xs H Q=>∃ i,xs=[.int i]∧i.natAbs.log2<1920∧Q (.str (toString i)) H):=by
 intro pq s σ H xs us Q I r h;obtain⟨i,rfl,hz,q⟩:=h;obtain⟨u,rfl,t,rfl⟩:=qS r;exact PySem.P.str_of_int hz ⟨.str _,H,I.tok _,⟨_,rfl⟩,q⟩
def T0 (K:q04) (x:V) (H:Hp) (n:Nat):Prop:=
 match x with
 | .str y=>y.length≤sizeLine∧n=y.length
 | .byt y=>y.size≤sizeLine∧n=y.size
 | .ref p=>(∃ xs,oU K H p xs∧n=xs.length)∨∃ xs,qc K H p xs∧n=xs.length
 | _=>False
theorem tf:ki X (.builtin "len") (fun xs H Q=>∃ x n,xs=[x]∧T0 X.K x H n∧Q (.int n) H):=by
 intro pq s σ H xs us Q I r h;obtain⟨x,n,rfl,e,q⟩:=h;obtain⟨u,rfl,rx⟩:=qS r;have hl:=qA;have hs:sizeLine=16777216:=sizeLine_eq
 cases x with
 | str y=>
  obtain⟨t,rfl⟩:=rx;obtain⟨hy,e'⟩:y.length≤sizeLine∧n=y.length:=e;subst e';exact len_str (by omega) ⟨.int _,H,I.tok _,⟨_,rfl⟩,q⟩
 | byt y=>
  obtain⟨t,rfl⟩:=rx;obtain⟨hy,e'⟩:y.size≤sizeLine∧n=y.size:=e;subst e';exact PySem.W.len_bytes (by omega) ⟨.int _,H,I.tok _,⟨_,rfl⟩,q⟩
 | ref p=>
  cases rx;have e':(∃ xs,oU X.K H p xs∧n=xs.length)∨∃ xs,qc X.K H p xs∧n=xs.length:=e
  rcases e' with ⟨xs,hx,e'⟩|⟨xs,hx,e'⟩
  ·subst e'
   obtain⟨its,r',pl,hz⟩:=I.list hx;have hlen:=r'.length;exact Calls.call_len_list pl.isList (by simp only[q17]; omega) ⟨.int xs.length,H,I.tok _,⟨_,by simp only[q17]; rw[hlen]⟩,q⟩
  ·subst e'
   obtain⟨its,r',pl,hz⟩:=I.tuple hx;have hlen:=r'.length;exact len_tuple pl (by simp only[q17]; omega) ⟨.int xs.length,H,I.tok _,⟨_,by simp only[q17]; rw[hlen]⟩,q⟩
 | _=>exact(show False from e).elim
end
structure xp (h:Heap) (x dx C:Addr) (mA:Str→Option Value):Prop where
 obj:h.get? x=some (q47 C dx)
 ns:h.Ns1 dx mA
 ne:dx≠x
theorem Af {h:Heap} {dx:Addr} {mA:Str→Option Value} (n:h.Ns1 dx mA):∃ od,h.get? dx=some od∧∀ name,qb2 name od=some (mA name):=by
 obtain⟨o,es,ep,ho,hd,hk,_,hm⟩:=n;refine⟨o,ho,fun name=>?_⟩;have e:=hm name;unfold nsFind findBy at e;rw[← Array.find?_toList] at e;unfold qb2;rw[hd];dsimp only;split
 ·rename_i y q
  rw[q] at e;exact congrArg some e
 ·rename_i q
  rw[q] at e
  have a:es.toList.any (·.refKey)=false:=by
   rw[List.any_eq_false];intro y hy;obtain⟨z,t,hkey⟩:=hk y (Array.mem_toList_iff.mp hy);simp[DictEntry.refKey,hkey]
  have a':¬ es.toList.any (·.refKey)=true:=by rw[a]; exact q18
  rw[if_neg a'];exact congrArg some e
theorem xp.look {h:Heap} {x dx C:Addr} {mA:Str→Option Value} (I:xp h x dx C mA):∃ od,PySem.W.InstAt h x (q47 C dx) C (some od)∧∀ name,qb2 name od=some (mA name):=
 let ⟨od,ho,hl⟩:=Af I.ns
 ⟨od,⟨I.obj,rfl,rfl,ho⟩,hl⟩
section
variable {prog:Program} {w:World} {A:Around} {E:Value→Shared→Prop} {s:Shared} {K:q04} {x dx C f:Addr} {mA:Str→Option Value} {name:Str} {v:Value}
theorem Dw {expr:Bool} {Q:Value→Shared→Prop} (X:K.In s.heap) (I:xp s.heap x dx C mA) (hg:q22 K C name=true) (hh:q20 K C=true)
  (ha:q00 K (.ref C) name=some none) (hv:mA name=some v) (hv':PySem.W.handedIn v=true) (h:Q v { s with toks:=s.toks+1 }) :
  wpAny (model prog w) A (getAttr (.ref x) name expr) Q E s:=by
 obtain⟨od,J,hl⟩:=I.look;exact PySem.W.get_value X J (qa7 hg).1 (PySem.W.findObj_own hh ha rfl (by rw[hl,hv])) hv' h
theorem Bj {pl:Sem Bool} {Q:Value×List Value→Shared→Prop} (X:K.In s.heap) (I:xp s.heap x dx C mA) (hg:q22 K C name=true)
  (hf:q00 K (.ref C) name=some (some (.ref f))) (ht:q06 K (.ref f)=true) (hv:mA name=none) (h:Q (.ref f,[.ref x]) s) :
  wpAny (model prog w) A (getMethod (.ref x) name pl) Q E s:=by
 obtain⟨od,J,hl⟩:=I.look;exact PySem.W.method_fn X J (qa7 hg).1 (qa7 hg).2 hf (beq_iff_eq.mp ht) (by show(qb2 name od).map (·.isSome)=some false; rw[hl,hv]; rfl) h
theorem Dv {ns:List Str} {Q:Unit→Shared→Prop} (X:K.In s.heap) (I:xp s.heap x dx C mA)
  (hs:q00 K (.ref C) "__setattr__"=some (some (.builtin "object.__setattr__"))) (hp:q24 K C=true) (ht:PySem.W.takerIn K C name=some none) (hh:q20 K C=true)
  (hw:PySem.Within mA ns) (hsz:ns.length≤sizeLine)
  (h:∀ h',xp h' x dx C (fun y=>if y=name then some v else mA y)→Heap.SameBut dx s.heap h'→Q () { s with heap:=h',toks:=s.toks+2 }) :
  wpAny (model prog w) A (setAttr (.ref x) name v) Q E s:=by
 obtain⟨od,J,hl⟩:=I.look;refine PySem.W.set_plain X J hs (PySem.W.osa_open (s:={ s with toks:=s.toks+1 }) (r:=none) X J hp ht fun b=>?_);obtain⟨cd,hc,hd'⟩:=PySem.W.any_some hh;have hx:s.heap.get? x=some ⟨.ref C,some dx,.plain,#[]⟩:=I.obj;refine wpAny_bind (wpAny_pure (wpAny_bind (wpAny_bind (wpAny_loadPart hx (wpAny_bind (q88.here (s:={ s with toks:=s.toks+1 }) (PySem.W.looks_clsIn X hc) ?_))))));rw[hd'];refine wpAny_pure (a:=some dx) (wpAny_bind (wpAny_pure (wpAny_bind ?_)))
 refine wpAny_nsSet1 (s:={ s with toks:=s.toks+1 }) I.ns fun h' hn2 hs2=>?_
 obtain⟨oD,esD,epD,hoD,hdD,hcD⟩:=hn2.count (PySem.Within.cons name v hw);refine wpAny_bind (wpAny_lookBehind hoD (by rw[hdD]; exact pastItsLine_dict (q57 hcD (by rw[q37]; omega))) ?_);exact wpAny_pure (h _ ⟨(hs2.2 _ (q56 I.ne)).trans I.obj,hn2,I.ne⟩ hs2)
theorem BT {R:Result→Shared→Prop} {vs:List Value} {kw:List (Str×Value)} (X:K.In s.heap) (hm:q25 K C=true)
  (hi:q00 K (.ref C) "__init__"=some (some (.ref f))) (hf:PySem.W.typeIn K (.ref f)=some (.type "function"))
  (h:codeAny (model prog w) (A.under (.builtin "type.__call__" ⟨.ref C::vs,kw⟩)) (.call (.ref f) ⟨.ref (s.heap.objs.size+1)::vs,kw⟩) (PySem.W.InitBack (s.heap.objs.size+1) R)
   { s with heap:=(s.heap.push q38).push (q47 C s.heap.objs.size) }) :
  codeAny (model prog w) A (.call (.ref C) ⟨vs,kw⟩) R s:=by
 obtain⟨hh,g,d,t,os⟩:=s;exact PySem.W.make_core (PySem.W.makes_of X hm) (PySem.W.looks_findIn X hi) (fun self=>PySem.W.bind_fn X self hf) (.inl rfl) h
theorem zS {R:Result→Shared→Prop} (X:K.In s.heap) (hm:q25 K C=true)
  (hi:q00 K (.ref C) "__init__"=some (some (.builtin "object.__init__")))
  (hb:∀ self,q88 (model prog w) s.heap (bindSpecial (.builtin "object.__init__") self) (.builtin "object.__init__",[self]))
  (h:codeAny (model prog w) (A.under (.builtin "type.__call__" ⟨[.ref C],[]⟩)) (.call (.builtin "object.__init__") ⟨[.ref (s.heap.objs.size+1)],[]⟩) (PySem.W.InitBack (s.heap.objs.size+1) R)
   { s with heap:=(s.heap.push q38).push (q47 C s.heap.objs.size) }) :
  codeAny (model prog w) A (.call (.ref C) ⟨[],[]⟩) R s:=by
 obtain⟨hh,g,d,t,os⟩:=s;exact PySem.W.make_core (PySem.W.makes_of X hm) (PySem.W.looks_findIn X hi) hb (.inr ⟨rfl,rfl⟩) h
end
def lC (f:Str) (v:V):List (Str×V)→List (Str×V)
 | []=>[(f,v)]
 | (g,x)::r=>if g=f then (g,v)::r else (g,x)::lC f v r
theorem qQ (f g:Str) (v:V):∀ fs:List (Str×V),(lC f v fs).lookup g=if g=f then some v else fs.lookup g
 | []=>by
  show q28 g [(f,v)]=_
  by_cases h:g=f
  ·have hb:(g==f)=true:=beq_iff_eq.mpr h
   simp only[q28,hb,if_pos h]
  ·have hb:(g==f)=false:=beq_eq_false_iff_ne.mpr h
   simp only[q28,hb,if_neg h]
 | (k,x)::r=>by
  have ih:=qQ f g v r;rw[show lC f v ((k,x)::r)=(if k=f then (k,v)::r else (k,x)::lC f v r) from rfl]
  by_cases hk:k=f
  ·rw[if_pos hk]
   by_cases h:g=k
   ·have hb:(g==k)=true:=beq_iff_eq.mpr h
    simp only[q28,hb,if_pos (h.trans hk)]
   ·have hb:(g==k)=false:=beq_eq_false_iff_ne.mpr h
    simp only[q28,hb,if_neg (fun e:g=f=>h (e.trans hk.symm))]
  ·rw[if_neg hk]
   by_cases h:g=k
   ·have hb:(g==k)=true:=beq_iff_eq.mpr h
    simp only[q28,hb,if_neg (fun e:g=f=>hk (h.symm.trans e))]
   ·have hb:(g==k)=false:=beq_eq_false_iff_ne.mpr h
    simp only[q28,hb];exact ih
theorem qB (f:Str) (v:V):∀ fs:List (Str×V),f∈(lC f v fs).map (·.1)∧∀ g,g∈fs.map (·.1)→g∈(lC f v fs).map (·.1)
 | []=>⟨by simp[lC],fun g h=>by simp at h⟩
 | (k,x)::r=>by
  obtain⟨i1,i2⟩:=qB f v r;rw[show lC f v ((k,x)::r)=(if k=f then (k,v)::r else (k,x)::lC f v r) from rfl]
  by_cases hk:k=f
  ·rw[if_pos hk]
   subst hk;exact⟨by simp,fun g h=>by simpa using h⟩
  ·rw[if_neg hk]
   refine⟨?_,fun g h=>?_⟩
   ·rw[q42]
    exact q19 _ i1
   ·rw[q42] at h⊢
    rcases q32.mp h with e|e
    ·exact q32.mpr (.inl e)
    ·exact q19 _ (i2 g e)
theorem qZ (f:Str) (v:V):∀ fs:List (Str×V),(lC f v fs).length≤fs.length+1
 | []=>by simp[lC]
 | (k,x)::r=>by
  have ih:=qZ f v r;rw[show lC f v ((k,x)::r)=(if k=f then (k,v)::r else (k,x)::lC f v r) from rfl]
  by_cases hk:k=f
  ·rw[if_pos hk,q37,q37]; omega
  ·rw[if_neg hk,q37,q37]; omega
theorem tO.some_of {v:V} {o:Option Value} (r:tO (some v) o):∃ u,o=some u∧eU v u:=by
 cases o with
 | none=>exact(show False from r).elim
 | some u=>exact⟨u,rfl,r⟩
theorem tO.none_of {o:Option Value} (r:tO none o):o=none:=by
 cases o with
 | none=>rfl
 | some u=>exact(show False from r).elim
theorem zr {v:V} {u:Value} (r:eU v u):PySem.W.handedIn u=true:=by
 cases v with
 | non=>cases (show u=Value.none from r); rfl
 | bl b=>cases (show u=Value.bool b from r); rfl
 | int i=>obtain⟨t,e⟩:=(show ∃ t,u=Value.int i t from r); cases e; rfl
 | str x=>obtain⟨t,e⟩:=(show ∃ t,u=Value.str x t from r); cases e; rfl
 | byt b=>obtain⟨t,e⟩:=(show ∃ t,u=Value.bytes b t from r); cases e; rfl
 | flt b=>obtain⟨t,e⟩:=(show ∃ t,u=Value.float b t from r); cases e; rfl
 | ref a=>cases (show u=Value.ref a from r); rfl
 | ty n=>cases (show u=Value.type n from r); rfl
section
variable {P:Program} {w:World} {H H':Hp} {h h':Heap} {a C dx:Addr} {fs fs':List (Str×V)}
theorem vB (hok:rV P w H h) (e:H a=some (.ins C dx fs)):∃ mA,xp h a dx C mA∧(∀ f,tO (fs.lookup f) (mA f))∧PySem.Within mA (fs.map (·.1))∧fs.length≤1000∧H dx=some (.own a):=by
 obtain⟨d,z,ne,ob,mA,n,r,q⟩:=(show lq P w H h a (.ins C dx fs) from hok a _ e);exact⟨mA,⟨ob,n,ne⟩,r,q,z,d⟩
end
structure w9 (K:q04) (C:Addr):Prop where
 pg:q22 K C Str.empty=true
 hd:q20 K C=true
 po:q24 K C=true
 sa:q00 K (.ref C) "__setattr__"=some (some (.builtin "object.__setattr__"))
theorem w9.get {K:q04} {C:Addr} (c:w9 K C) (f:Str):q22 K C f=true:=c.pg
def mC (K:q04) (C:Addr) (f:Str):Prop:=q00 K (.ref C) f=some none
theorem mC.taker {K:q04} {C:Addr} {f:Str} (n:mC K C f):PySem.W.takerIn K C f=some none:=by
 unfold PySem.W.takerIn;rw[show q00 K (.ref C) f=some none from n]
 rfl
structure Con (K:q04) (C:Addr) (f:Str) (v:V) (u:Value):Prop where
 at_:q00 K (.ref C) f=some (some u)
 rel:eU v u
 get:q64 K u "__get__"=some none
 cp:PySem.W.copiedNames.contains f=false
structure cD (K:q04) (C:Addr) (m:Str) (f:Addr):Prop where
 at_:q00 K (.ref C) m=some (some (.ref f))
 fn:q06 K (.ref f)=true
 kp:q01 K (.ref f)=true
section
variable {X:Cx} {pq:List (Addr×Obj)} {σ:St} {H:Hp} {s:Shared} {a C dx:Addr} {fs:List (Str×V)} {f:Str} {v:V} {A:Around} {E:Value→Shared→Prop}
theorem xC {b:Bool} {Q:Value→Shared→Prop} (I:b9 X pq σ H s) (e:H a=some (.ins C dx fs)) (c:w9 X.K C) (n:mC X.K C f) (l:fs.lookup f=some v)
  (h:∀ u s',b9 X pq σ H s'→eU v u→Q u s'):wpAny (model X.prog X.w) A (getAttr (.ref a) f b) Q E s:=by
 obtain⟨mA,O,r,_,_,_⟩:=vB I.hok e;obtain⟨u,hu,ru⟩:=tO.some_of (v:=v) (o:=mA f) (by rw[← l]; exact r f);exact Dw I.kIn O (c.get f) c.hd n hu (zr ru) (h u _ (I.tok _) ru)
theorem sU {m:Str} {g:Addr} {pl:Sem Bool} {Q:Value×List Value→Shared→Prop} (I:b9 X pq σ H s) (e:H a=some (.ins C dx fs)) (c:w9 X.K C) (k:cD X.K C m g) (l:fs.lookup m=none)
  (h:Q (.ref g,[.ref a]) s):wpAny (model X.prog X.w) A (getMethod (.ref a) m pl) Q E s:=by
 obtain⟨mA,O,r,_,_,_⟩:=vB I.hok e;have hn:mA m=none:=tO.none_of (by rw[← l]; exact r m);exact Bj I.kIn O (c.get m) k.at_ k.fn hn h
theorem xq {y:V} {u:Value} {Q:Unit→Shared→Prop} (I:b9 X pq σ H s) (e:H a=some (.ins C dx fs)) (c:w9 X.K C) (n:mC X.K C f) (hl:fs.length<1000) (ry:eU y u)
  (h:∀ s',b9 X pq σ (gL H a (.ins C dx (lC f y fs))) s'→Q () s'):wpAny (model X.prog X.w) A (setAttr (.ref a) f u) Q E s:=by
 obtain⟨mA,O,r,wi,_,ho⟩:=vB I.hok e
 have hz:(fs.map (·.1)).length≤sizeLine:=by rw[q21,sizeLine_eq]; omega
 refine Dv I.kIn O c.sa c.po n.taker c.hd wi hz fun h' O' sb=>h _ ?_
 have hd:∃ o,h'.get? dx=some o:=let ⟨o,_,_,e',_⟩:=O'.ns; ⟨o,e'⟩
 refine I.write (x:=a) (e:=dx) (by rw[e]; exact True.intro) (.inr ho) (fun b q hb z=>(sb.2 b hb).trans z) hd ?_;refine⟨by rw[fJ O.ne]; exact ho,?_,O.ne,O'.obj,_,O'.ns,fun g=>?_,fun g hg=>?_⟩
 ·have:=qZ f y fs; omega
 ·show tO ((lC f y fs).lookup g) (if g=f then some u else mA g)
  rw[qQ]
  by_cases q:g=f
  ·rw[if_pos q,if_pos q]; exact ry
  ·rw[if_neg q,if_neg q]; exact r g
 ·by_cases q:g=f
  ·rw[q]; exact(qB f y fs).1
  ·refine(qB f y fs).2 g (wi g fun z=>hg ?_)
   show(if g=f then some u else mA g)=none;rw[if_neg q]; exact z
theorem b9.made (I:b9 X pq σ H s):b9 X pq σ (gL (gL H s.heap.objs.size (.own (s.heap.objs.size+1))) (s.heap.objs.size+1) (.ins C s.heap.objs.size []))
  { s with heap:=(s.heap.push q38).push (q47 C s.heap.objs.size) }:=by
 have e1:(s.heap.push q38).get? s.heap.objs.size=some q38:=q35 s.heap rfl
 have e2:((s.heap.push q38).push (q47 C s.heap.objs.size)).get? (s.heap.objs.size+1)=some (q47 C s.heap.objs.size):=by
  have:=q35 (s.heap.push q38) (o:=q47 C s.heap.objs.size) rfl
  rwa [q96] at this
 have e3:(s.heap.push q38).Ns s.heap.objs.size (fun _=>none):=⟨q38,#[],_,e1,rfl,(fun e he=>absurd he (by simp)),fun _=>rfl⟩;have I1:=I.laid (a:=s.heap.objs.size) (o:=.own (s.heap.objs.size+1)) (h':=s.heap.push q38) (t':=s.toks) (fun b u q=>q13 _ q) (q11 _) ⟨_,e1⟩;refine I1.laid (a:=s.heap.objs.size+1) (o:=.ins C s.heap.objs.size []) (t':=s.toks) (fun b u q=>q13 _ q) (Nat.le_of_eq (q96 _ _)) ?_;have ne:s.heap.objs.size≠s.heap.objs.size+1:=q50 (q61 _);refine⟨by rw[fJ ne,j6],Nat.zero_le _,ne,e2,fun _=>none,(Heap.Ns1.of_empty e3).at fun o q=>q13 _ q,fun _=>True.intro,fun y hy=>absurd rfl hy⟩
theorem Dx {prog:Program} {w:World} {env:Env} {e:Expr} {f:Str} {pos:Pos} {s:Shared} {Q:Value→Shared→Prop} (hb:attributeBase e f env (eval e env)=eval e env)
  (h:wpAny (model prog w) A (eval e env) (fun o s₁=>wpAny (model prog w) A (getAttr o f true) Q E s₁) E s):wpAny (model prog w) A (eval (.Attribute e f pos) env) Q E s:=
 Attribute_any_ h (by rw[arm_eval_Attribute,hb])
end
def SY (K:q04) (ta:TE) (f:Str):TE:=fun σ H Q=>ta σ H fun x H1=>∃ a C dx fs v,x=.ref a∧H1 a=some (.ins C dx fs)∧w9 K C∧mC K C f∧fs.lookup f=some v∧Q v H1
def sFld (K:q04) (ta tv:TE) (f:Str):TS:=fun D σ H=>tv σ H fun y H1=>ta σ H1 fun x H2=>∃ a C dx fs,x=.ref a∧H2 a=some (.ins C dx fs)∧w9 K C∧mC K C f∧fs.length<1000∧
 D.nx σ (gL H2 a (.ins C dx (lC f y fs)))
section
variable {X:Cx} {o e value:Expr} {f:Str} {pos pos' tpos:Pos} {ta tv:TE}
theorem Fs (he:PE X e ta) (hb:attributeBase e f X.env (eval e X.env)=eval e X.env):PE X (.Attribute e f pos) (SY X.K ta f):=by
 intro pq s σ H Q I h;refine Dx hb (iP (he pq s σ H _ I h) fun u s1 ⟨x,H1,I1,rx,a,C,dx,fs,v,ex,ea,c,n,l,q⟩=>?_);subst ex;obtain rfl:u=Value.ref a:=rx
 exact xC I1 ea c n l fun u' s2 I2 ru=>⟨v,H1,I2,ru,q⟩
theorem Hj (ha:PE X o ta) (hv:PE X value tv) (hs:swapsWith value (some (.Attribute o f pos')) pos.line X.env=pure false):PS X (.Assign [.Attribute o f pos'] value pos) (sFld X.K ta tv f):=by
 intro pq s σ H D I h;refine plainObj_wpAny_Assign_Attribute (iP (hv pq s σ H _ I h) fun u s1 ⟨y,H1,I1,ry,q⟩=>iP (ha pq s1 σ H1 _ I1 q) fun ov s2 ⟨x,H2,I2,rx,a,C,dx,fs,ex,ea,c,n,l,q2⟩=>?_) hs;subst ex;obtain rfl:ov=Value.ref a:=rx
 exact xq I2 ea c n l ry fun s3 I3=>⟨σ,_,I3,q2⟩
end
section
variable {X:Cx} {pq:List (Addr×Obj)} {σ:St} {H:Hp} {s:Shared} {A:Around} {E:Value→Shared→Prop} {Q:Value→Shared→Prop} {c:Value} {b:Bool}
inductive sX (K:q04) (H:Hp):V→Value→Prop where
 | non:sX K H .non (.type "NoneType")
 | bl (x:Bool):sX K H (.bl x) (.type "bool")
 | int (i:Int):sX K H (.int i) (.type "int")
 | str (x:Str):sX K H (.str x) (.type "str")
 | flt (x:UInt64):sX K H (.flt x) (.type "float")
 | lst {a:Addr} {xs:List V} (e:H a=some (.lst xs)):sX K H (.ref a) (.type "list")
 | frz {a:Addr} {o:Obj} {xs:List V} (e:H a=some (.frz o (.lst xs))):sX K H (.ref a) (.type "list")
 | tup {a:Addr} {xs:List V} (e:H a=some (.tup xs)):sX K H (.ref a) (.type "tuple")
 | dK {a:Addr} {kvs:List (vQ×V)} (e:H a=some (.dK kvs)):sX K H (.ref a) (.type "dict")
 | dT {a:Addr} {kvs:List (List vQ×V)} (e:H a=some (.dT kvs)):sX K H (.ref a) (.type "dict")
 | ins {a C dx:Addr} {fs:List (Str×V)} (e:H a=some (.ins C dx fs)) (cl:w9 K C) (ha:q00 K (.ref C) "__class__"=some (some (.builtin "object.__class__")))
   (hn:q64 K (.builtin "object.__class__") "__get__"=some (some (.builtin "getset_descriptor.__get__"))) (htk:PySem.W.takesIn K (.builtin "object.__class__")=some true)
   (hm:PySem.W.mroIn K C (.type "object")=some true):sX K H (.ref a) (.ref C)
end
structure iZ (k:Nat) (A:Around):Prop where
 hd:A.handled=none
 dp:A.depth+3*k+5<recursionLimit
 un:A.units+16*k+200<cLine
theorem iZ.mono {j k:Nat} {A:Around} (r:iZ k A) (h:j≤k):iZ j A:=⟨r.hd,by have:=r.dp; omega,by have:=r.un; omega⟩
theorem iZ.deeper {k:Nat} {A:Around} (r:iZ (k+1) A) (env:Env):iZ k (A.deeper env):=
 ⟨r.hd,by have:=r.dp; show A.depth+1+3*k+5<_; omega,by have:=r.un; show A.units+3+16*k+200<_; omega⟩
theorem yk {A:Around} {C:Addr} {us:List Value} {kw:List (Str×Value)}:(A.under (.builtin "type.__call__" ⟨.ref C::us,kw⟩)).depth=A.depth+1:=by
 first|rfl|simp[Around.under,Code.weight,Code.isCreation,Code.isGuard,Code.isCaller,Code.frames,Code.isFrame,guardIds]
theorem yb {A:Around} {C:Addr} {us:List Value} {kw:List (Str×Value)}:(A.under (.builtin "type.__call__" ⟨.ref C::us,kw⟩)).units=A.units+1:=by
 first|rfl|simp[Around.under,Code.cUnits,Code.frames,Code.isFrame]
theorem iZ.make {k:Nat} {A:Around} (r:iZ (k+1) A) (C:Addr) (us:List Value) (kw:List (Str×Value)):iZ k (A.under (.builtin "type.__call__" ⟨.ref C::us,kw⟩)):=
 ⟨r.hd,by have:=r.dp; rw[yk]; omega,by have:=r.un; rw[yb]; omega⟩
theorem iZ.depth {k:Nat} {A:Around} (r:iZ k A):A.depth<recursionLimit:=by have:=r.dp; omega
theorem iZ.m {j k:Nat} {A:Around} (r:iZ k A) (h:j≤k:=by omega):iZ j A:=r.mono h
theorem iZ.units {k:Nat} {A:Around} (r:iZ k A):A.units+64<cLine:=by have:=r.un; omega
def Ei:TA:=fun _ H Q=>Q [] H
def JJ (ta:TE) (tr:TA):TA:=fun σ H Q=>ta σ H fun x H1=>tr σ H1 fun xs H2=>Q (x::xs) H2
section
variable {X:Cx} {e:Expr} {es:List Expr} {te:TE} {t:TA} {pos:Pos}
theorem Ci:PA X [] Ei:=fun _ _ _ _ H Q I h=>Calls.spliced_nil ⟨[],H,I,.nil,h⟩
theorem vG (ha:PE X e te) (hr:PA X es t) (hs:starEach (e::es) X.env=(false,eval e X.env)::starEach es X.env:=by rfl):PA X (e::es) (JJ te t):=by
 intro pos pq s σ H Q I h;rw[hs];show wpAny _ _ (spliced ((false,eval e X.env)::backTo pos (starEach es X.env))) _ _ s;refine Calls.spliced_cons (iP (ha pq s σ H _ I h) fun u s1 ⟨x,H1,I1,r1,q1⟩=>?_)
 exact iP (hr pos pq s1 σ H1 _ I1 q1) fun us s2 ⟨xs,H2,I2,r2,q2⟩=>⟨x::xs,H2,I2,.cons r1 r2,q2⟩
def tTup (t:TA):TE:=fun σ H Q=>t σ H fun xs H1=>xs.length≤sizeLine∧∀ p,H1 p=none→Q (.ref p) (gL H1 p (.tup xs))
def tLst (t:TA):TE:=fun σ H Q=>t σ H fun xs H1=>xs.length≤sizeLine∧∀ p,H1 p=none→Q (.ref p) (gL H1 p (.lst xs))
theorem Hm {x1} (h:PA X es t):PE X (.Tuple es x1 pos) (tTup t):=by
 intro pq s σ H Q I hq;refine wpAny_Tuple_spliced (iP (h pos pq s σ H _ I hq) fun us s1 ⟨xs,H1,I1,r,z,q⟩=>⟨by rw[← r.length]; exact z,?_⟩);have hf:H1 s1.heap.objs.size=none:=I1.hok.fresh (q11 _);refine⟨.ref s1.heap.objs.size,gL H1 s1.heap.objs.size (.tup xs),I1.laid (t':=s1.toks) (fun b u e=>q13 _ e) (q11 _) ?_,rfl,q _ hf⟩;exact⟨z,us,r,⟨_,q35 _ rfl,rfl,_,rfl⟩⟩
theorem Fu (h:PA X es t):PE X (.List es pos) (tLst t):=by
 intro pq s σ H Q I hq;refine wpAny_List_spliced (iP (h pos pq s σ H _ I hq) fun us s1 ⟨xs,H1,I1,r,z,q⟩=>⟨by rw[← r.length]; exact z,?_⟩);have hf:H1 s1.heap.objs.size=none:=I1.hok.fresh (q11 _);refine⟨.ref s1.heap.objs.size,gL H1 s1.heap.objs.size (.lst xs),I1.laid (t':=s1.toks) (fun b u e=>q13 _ e) (q11 _) ?_,rfl,q _ hf⟩;exact⟨z,us,0,r,q35 _ rfl⟩
end
abbrev Sp:=List V→Hp→VK→XK→Prop
abbrev Ad:=List Env→Hp→Shared→XK→Value→Shared→Prop
structure yh (P:Program) (w:World) (K:q04) (mg:Str→Option Value) (base:Heap) (A:Around) (outer:List Env) (s:Shared) (H:Hp):Prop where
 frames:A.frames=some outer
 mod:Mod K mg base
 bs:∀ b o,base.get? b=some o→s.heap.get? b=some o∧H b=none
 bsz:base.objs.size≤s.heap.objs.size
 funs:s.heap.FunFrames base outer
 frf:∀ b∈A8 outer,H b=none
 hok:rV P w H s.heap
 bare:AllBare s.gens
def CE (outer:List Env) (P:Program) (w:World) (H:Hp) (s:Shared) (Q:VK) (u:Value) (s':Shared):Prop:=
 ∃ v H',s'.os=s.os∧AllBare s'.gens∧Un (A8 outer) [] H H' s.heap s'.heap∧rV P w H' s'.heap∧eU v u∧Q v H'
def CR (CX:Ad) (outer:List Env) (P:Program) (w:World) (H:Hp) (s:Shared) (Q:VK) (E:XK) (r:Result) (s':Shared):Prop:=
 match r with
 | .ok (.ret u)=>CE outer P w H s Q u s'
 | .ok _=>False
 | .error e=>CX outer H s E e s'
structure oa (P:Program) (w:World) (K:q04) (mg:Str→Option Value) (base:Heap) (CX:Ad) (k:Nat) (f:Addr) (fd:FuncData) (ps:List Str) (sp:Sp):Prop where
 len:∀ vs H Q E,sp vs H Q E→vs.length=ps.length
 run:∀ (A:Around) (outer:List Env) (s:Shared) (H:Hp) (args:Args) (us:List Value) (vs:List V) (Q:VK) (E:XK),iZ k A→yh P w K mg base A outer s H→BindsTo s fd args (ps.zip us)→dm vs us→sp vs H Q E→
  codeAny (model P w) A (.call (.ref f) args) (CR CX outer P w H s Q E) s
theorem oa.imp {P:Program} {w:World} {K:q04} {mg:Str→Option Value} {base:Heap} {CX:Ad} {k:Nat} {f:Addr} {fd:FuncData} {ps:List Str} {sp sp':Sp} (F:oa P w K mg base CX k f fd ps sp)
  (h:∀ vs H Q E,sp' vs H Q E→sp vs H Q E):oa P w K mg base CX k f fd ps sp':=
 ⟨fun vs H Q E q=>F.len vs H Q E (h _ _ _ _ q),fun A outer s H args us vs Q E hr he hb hv hs=>F.run A outer s H args us vs Q E hr he hb hv (h _ _ _ _ hs)⟩
theorem yh.make {P:Program} {w:World} {K:q04} {mg:Str→Option Value} {base:Heap} {A:Around} {outer:List Env} {s:Shared} {H:Hp} (e:yh P w K mg base A outer s H) (C:Addr) (us:List Value) (kw:List (Str×Value)) :
  yh P w K mg base (A.under (.builtin "type.__call__" ⟨.ref C::us,kw⟩)) outer s H:=⟨by first|exact e.frames|(simpa [Around.under,Code.envs,Code.isFrame,pushEnvs] using e.frames),e.mod,e.bs,e.bsz,e.funs,e.frf,e.hok,e.bare⟩
section
variable {X:Cx} {pq:List (Addr×Obj)} {σ:St} {H:Hp} {s s':Shared}
theorem b9.env0 (I:b9 X pq σ H s):yh X.prog X.w X.K X.mg X.base X.A X.stack s H:=
 ⟨I.ok.frames,I.ok.mod,I.bs,q57 I.ok.bsz I.sz,I.stack,I.stkFree,I.hok,I.bare⟩
theorem b9.after {Q:VK} {u:Value} (I:b9 X pq σ H s) (h:CE X.stack X.prog X.w H s Q u s'):EP X pq σ Q u s':=by
 obtain⟨v,H',os,bare,un,hok,r,q⟩:=h;obtain⟨hh,g,d,t,os'⟩:=s';obtain rfl:os'=s.os:=os;exact⟨v,H',I.call (h':=hh) (g':=g) (d':=d) (t':=t) (ch:=[]) un hok bare (fun b z=>absurd z (by simp)),r,q⟩
end
def Ln (sp:Sp) (dvs:List V) (E:XK) (t:TA):TE:=fun σ H Q=>t σ H fun vs H1=>sp (vs++dvs) H1 Q E
def Fe (C:Addr) (sp:Sp) (dvs:List V) (E:XK) (t:TA):TE:=fun σ H Q=>t σ H fun vs H1=>∀ x dx,H1 x=none→H1 dx=none→dx≠x→
 sp (.ref x::(vs++dvs)) (gL (gL H1 dx (.own x)) x (.ins C dx [])) (fun v H2=>v=.non∧Q (.ref x) H2) E
def ka (K:q04) (fd:FuncData) (ps:List Str) (ds:List Value):Prop:=
 ∀ (s:Shared) (us:List Value),K.In s.heap→(us++ds).length=ps.length→BindsTo s fd ⟨us,[]⟩ (ps.zip (us++ds))
theorem ka.all {K:q04} {fd:FuncData} {ps:List Str} (h:∀ us:List Value,us.length=ps.length→bindArgs fd ⟨us,[]⟩=pure (ps.zip us)):ka K fd ps []:=fun s us _ hl=>by
 rw[q31] at hl⊢;exact .of_eq (h us hl)
def qz (CX:Ad) (X:Cx) (E:XK):Prop:=∀ (pq:List (Addr×Obj)) (σ:St) (H:Hp) (s:Shared) (e:Value) (s':Shared),b9 X pq σ H s→CX X.stack H s E e s'→X.xe e s'
section
variable {X:Cx} {CX:Ad} {k:Nat} {f C:Addr} {fd:FuncData} {ps:List Str} {sp:Sp} {dvs:List V} {ds:List Value} {E:XK} {x m:Str} {p pos apos:Pos} {e o:Expr} {es:List Expr} {ta:TE} {t:TA}
theorem vf {pq:List (Addr×Obj)} {σ:St} {H:Hp} {s:Shared} {Q:VK} {us:List Value} {vs:List V} (F:oa X.prog X.w X.K X.mg X.base CX k f fd ps sp) (hr:iZ k X.A) (hb:ka X.K fd ps ds) (hd:dm dvs ds) (hx:qz CX X E)
  (I:b9 X pq σ H s) (r:dm vs us) (h:sp (vs++dvs) H Q E):wpAny (model X.prog X.w) X.A (call (.ref f) us) (EP X pq σ Q) X.xe s:=by
 have r2:dm (vs++dvs) (us++ds):=r.append hd
 have hl:(us++ds).length=ps.length:=by rw[← r2.length]; exact F.len _ _ _ _ h
 refine wpAny_call (codeAny_mono (F.run X.A X.stack s H ⟨us,[]⟩ (us++ds) (vs++dvs) Q E hr I.env0 (hb s us I.kIn hl) r2 h) fun r s' hq=>?_)
 cases r with
 | error e=>exact hx pq σ H s e s' I hq
 | ok fl=>
  cases fl with
  | ret u=>exact I.after hq
  | next=>exact False.elim hq
  | brk=>exact False.elim hq
  | cont=>exact False.elim hq
theorem Ej (F:oa X.prog X.w X.K X.mg X.base CX k f fd ps sp) (hr:iZ k X.A) (hg:Gl X x) (hm:X.mg x=some (.ref f)) (hk:q01 X.K (.ref f)=true) (hb:ka X.K fd ps ds) (hd:dm dvs ds) (hx:qz CX X E)
  (ha:PA X (e::es) t) (hdb:(x==("__debug__":Str))=false:=by decide) (he:starEach (e::es) X.env=(false,eval e X.env)::starEach es X.env:=by rfl) (hpl:(backTo pos (starEach es X.env)).any (·.1)=false:=by rfl) :
  PE X (.Call (.Name x p) (e::es) [] pos) (Ln sp dvs E t):=by
 intro pq s σ H Q I h;refine wpAny_Call_Name_kw (nL I hg hm ?_ hdb);refine q89 (h₀:=X.base) I.ok.mod.kin hk (iP (ha pos pq s σ H _ I h) fun us s1 ⟨vs,H1,I1,r,q⟩=>⟨I1.kIn,?_⟩) he hpl;exact vf F hr hb hd hx I1 r q
structure Mk (K:q04) (C f:Addr):Prop where
 makes:q25 K C=true
 init:q00 K (.ref C) "__init__"=some (some (.ref f))
 fn:q06 K (.ref f)=true
 kp:q01 K (.ref C)=true
theorem wp {pq:List (Addr×Obj)} {σ:St} {H:Hp} {s:Shared} {Q:VK} {us:List Value} {vs:List V} (M:Mk X.K C f) (F:oa X.prog X.w X.K X.mg X.base CX k f fd ps sp) (hr:iZ (k+1) X.A) (hb:ka X.K fd ps ds) (hd:dm dvs ds)
  (hx:qz CX X E) (I:b9 X pq σ H s) (r:dm vs us)
  (h:∀ x dx,H x=none→H dx=none→dx≠x→sp (.ref x::(vs++dvs)) (gL (gL H dx (.own x)) x (.ins C dx [])) (fun v H2=>v=.non∧Q (.ref x) H2) E) :
  wpAny (model X.prog X.w) X.A (call (.ref C) us) (EP X pq σ Q) X.xe s:=by
 have hq:=h (s.heap.objs.size+1) s.heap.objs.size (I.hok.fresh (Nat.le_succ _)) (I.hok.fresh (q11 _)) (q50 (q61 _));have I2:=b9.made (C:=C) I;have r2:dm (V.ref (s.heap.objs.size+1)::(vs++dvs)) (Value.ref (s.heap.objs.size+1)::(us++ds)):=.cons rfl (r.append hd)
 have hl:(Value.ref (s.heap.objs.size+1)::us++ds).length=ps.length:=by
  have e:=r2.length;rw[F.len _ _ _ _ hq] at e;exact e.symm
 refine wpAny_call (BT (f:=f) I.kIn M.makes M.init (beq_iff_eq.mp M.fn) (codeAny_mono (F.run _ X.stack _ _ ⟨Value.ref (s.heap.objs.size+1)::us,[]⟩ (Value.ref (s.heap.objs.size+1)::(us++ds)) _ _ E (hr.make C us [])
  (I2.env0.make C us []) (hb _ (Value.ref (s.heap.objs.size+1)::us) I2.kIn hl) r2 hq) fun r s' hq'=>?_))
 cases r with
 | error e=>exact hx pq σ _ _ e s' I2 hq'
 | ok fl=>
  cases fl with
  | ret u=>
   obtain⟨v,H',I3,rv,ev,q3⟩:=I2.after hq';subst ev;exact⟨rv,⟨V.ref (s.heap.objs.size+1),H',I3,rfl,q3⟩⟩
  | next=>exact False.elim hq'
  | brk=>exact False.elim hq'
  | cont=>exact False.elim hq'
theorem D6 (M:Mk X.K C f) (F:oa X.prog X.w X.K X.mg X.base CX k f fd ps sp) (hr:iZ (k+1) X.A) (hg:Gl X x) (hm:X.mg x=some (.ref C)) (hb:ka X.K fd ps ds) (hd:dm dvs ds) (hx:qz CX X E)
  (ha:PA X (e::es) t) (hdb:(x==("__debug__":Str))=false:=by decide) (he:starEach (e::es) X.env=(false,eval e X.env)::starEach es X.env:=by rfl) (hpl:(backTo pos (starEach es X.env)).any (·.1)=false:=by rfl) :
  PE X (.Call (.Name x p) (e::es) [] pos) (Fe C sp dvs E t):=by
 intro pq s σ H Q I h;refine wpAny_Call_Name_kw (nL I hg hm ?_ hdb);refine q89 (h₀:=X.base) I.ok.mod.kin M.kp (iP (ha pos pq s σ H _ I h) fun us s1 ⟨vs,H1,I1,r,q⟩=>⟨I1.kIn,?_⟩) he hpl;exact wp M F hr hb hd hx I1 r q
theorem A1 (M:Mk X.K C f) (F:oa X.prog X.w X.K X.mg X.base CX k f fd ps sp) (hr:iZ (k+1) X.A) (hg:Gl X x) (hm:X.mg x=some (.ref C)) (hb:ka X.K fd ps ds) (hd:dm dvs ds) (hx:qz CX X E)
  (hdb:(x==("__debug__":Str))=false:=by decide):PE X (.Call (.Name x p) [] [] pos) (Fe C sp dvs E Ei):=by
 intro pq s σ H Q I h;refine wpAny_Call_Name_kw (nL I hg hm ?_ hdb);exact qa8 I.kIn M.kp (wp (us:=[]) M F hr hb hd hx I .nil h)
end
section
variable {X:Cx} {CX:Ad} {k:Nat} {f C:Addr} {fd:FuncData} {ps ks:List Str} {sp:Sp} {E:XK} {x m:Str} {p pos apos kpos:Pos} {e o:Expr} {es:List Expr} {kws:List Keyword} {te ta:TE} {t tk:TA} {nm:Option Str}
structure KBinds (K:q04) (fd:FuncData) (ps ks:List Str) (g:List Value→List Value→List Value) (gV:List V→List V→List V):Prop where
 to:∀ (s:Shared) (us ws:List Value),K.In s.heap→(g us ws).length=ps.length→BindsTo s fd ⟨us,ks.zip ws⟩ (ps.zip (g us ws))
 rel:∀ {vs:List V} {us:List Value} {zs:List V} {ws:List Value},dm vs us→dm zs ws→dm (gV vs zs) (g us ws)
variable {g:List Value→List Value→List Value} {gV:List V→List V→List V}
end
structure aC (N P:List Str) (sc:Scope):Prop where
 kind:sc.kind=.function
 co:sc.isCoroutine=false
 gen:sc.isGenerator=false
 nd:N.Nodup
 pre:N.take P.length=P
 par:∀ x∈P,sc.names.lookup x=some .local∨sc.names.lookup x=some .cell
 nofree:∀ y∈sc.names,y.2≠.free
theorem aC.q {N P:List Str} {sc:Scope} (a:sc.kind=.function:=by rfl) (b:sc.isCoroutine=false:=by rfl) (c:sc.isGenerator=false:=by rfl) (d:N.Nodup:=by decide+kernel) (e:N.take P.length=P:=by rfl) (f:∀ x∈P,sc.names.lookup x=some .local∨sc.names.lookup x=some .cell:=by decide+kernel) (g:∀ y∈sc.names,y.2≠.free:=by decide+kernel):aC N P sc:=⟨a,b,c,d,e,f,g⟩
theorem ul {kindOf:Str→Option NameKind} {x:Str}:∀ {binds:List (Str×Value)} {m:Str→Option Value},(∀ v,(x,v)∉binds)→bindL kindOf binds m x=m x
 | [],_,_=>rfl
 | (n,v)::r,m,h=>by
  unfold bindL;rw[ul fun w hw=>h w (q19 _ hw)];split
  ·have:x≠n:=by rintro rfl; exact h v q40
   simp[this]
  ·rfl
theorem ux {kindOf:Str→Option NameKind} {x:Str}:∀ {binds:List (Str×Value)} {m:Str→Option Value},(∀ v,(x,v)∉binds)→bindC kindOf binds m x=m x
 | [],_,_=>rfl
 | (n,v)::r,m,h=>by
  unfold bindC;rw[ux fun w hw=>h w (q19 _ hw)];split
  ·rfl
  ·have:x≠n:=by rintro rfl; exact h v q40
   simp[this]
theorem uE {kindOf:Str→Option NameKind} {x:Str} {v:Value}:∀ {P:List Str} {vs:List Value} {i:Nat} {m:Str→Option Value},P.Nodup→P[i]?=some x→vs[i]?=some v→kindOf x=some .local→
  bindL kindOf (P.zip vs) m x=some v
 | [],_,_,_,_,h,_,_=>by simp at h
 | _::_,[],_,_,_,_,h,_=>by simp at h
 | p::P,w::vs,0,m,nd,h1,h2,hk=>by
  simp at h1 h2; subst h1; subst h2
  show bindL kindOf ((p,w)::P.zip vs) m p=_;unfold bindL;rw[ul fun v hv=>(qa9.mp nd).1 (List.of_mem_zip hv).1,if_pos hk];simp
 | p::P,w::vs,i+1,m,nd,h1,h2,hk=>by
  show bindL kindOf ((p,w)::P.zip vs) m x=_;unfold bindL;exact uE (i:=i) (qa9.mp nd).2 (by simpa using h1) (by simpa using h2) hk
theorem up {kindOf:Str→Option NameKind} {x:Str} {v:Value}:∀ {P:List Str} {vs:List Value} {i:Nat} {m:Str→Option Value},P.Nodup→P[i]?=some x→vs[i]?=some v→kindOf x≠some .local→
  bindC kindOf (P.zip vs) m x=some v
 | [],_,_,_,_,h,_,_=>by simp at h
 | _::_,[],_,_,_,_,h,_=>by simp at h
 | p::P,w::vs,0,m,nd,h1,h2,hk=>by
  simp at h1 h2; subst h1; subst h2
  show bindC kindOf ((p,w)::P.zip vs) m p=_;unfold bindC;rw[ux fun v hv=>(qa9.mp nd).1 (List.of_mem_zip hv).1,if_neg hk];simp
 | p::P,w::vs,i+1,m,nd,h1,h2,hk=>by
  show bindC kindOf ((p,w)::P.zip vs) m x=_;unfold bindC;exact up (i:=i) (qa9.mp nd).2 (by simpa using h1) (by simpa using h2) hk
def start (N:List Str) (vs:List V):St:=vs.map some++q45 (N.length-vs.length) none
def xV (CX:Ad) (P:Program) (w:World) (K:q04) (mg:Str→Option Value) (base:Heap) (N:List Str) (qual:Str) (scope:Scope) (f:Addr) (cd:Value) (A:Around) (outer:List Env) (s:Shared) (H:Hp) (E:XK):Cx where
 prog:=P
 w:=w
 K:=K
 mg:=mg
 base:=base
 A:=A.deeper (envOfC qual scope s.heap.objs.size f cd)
 N:=N
 s₀:=s
 H₀:=H
 env:=envOfC qual scope s.heap.objs.size f cd
 outer:=outer
 stack:=envOfC qual scope s.heap.objs.size f cd::outer
 ex:=[]
 calm:=true
 fn:=fun _=>true
 pn:=[]
 xe:=fun e s'=>wpAny (model P w) (A.deeper (envOfC qual scope s.heap.objs.size f cd)) (leaving (envOfC qual scope s.heap.objs.size f cd) e) (fun _ s''=>CX outer H s E e s'') (fun e' s''=>CX outer H s E e' s'') s'
theorem wf {sc:Scope} {n:Nat} {x:Str} (h:sc.names.lookup x=some .cell):∃ c,(cellsFrom n sc.names []).lookup x=some c:=by
 have q:=PySem.W.cellsFrom_some sc.names n [] (.inl h);exact qb5.mp q
theorem zu {CX:Ad} {P:Program} {w:World} {K:q04} {mg:Str→Option Value} {base:Heap} {N ps:List Str} {qual:Str} {scope:Scope} {f:Addr} {cd:Value} {A:Around} {outer:List Env} {s s1:Shared} {H:Hp} {E:XK} {us:List Value} {vs:List V}
  (S:aC N ps scope) (hd:A.handled=none) (e0:yh P w K mg base A outer s H) (hl:vs.length=ps.length) (r:dm vs us)
  (x:InCallC s s.heap.objs.size (bindL (envOfC qual scope s.heap.objs.size f cd).kindOf (ps.zip us) fun _=>none) (cellsFrom (s.heap.objs.size+1) scope.names []) (bindC (envOfC qual scope s.heap.objs.size f cd).kindOf (ps.zip us) fun _=>none) s1) :
  b9 (xV CX P w K mg base N qual scope f cd A outer s H E) [] (start N vs) H s1:=by
 have hpl:ps.length≤N.length:=by have:=congrArg List.length S.pre; rw[q39] at this; omega
 obtain⟨h1,tk,rfl,hk⟩:=x.done
 have noA:∀ b:Addr,b∉(xV CX P w K mg base N qual scope f cd A outer s H E).ex:=fun b z=>absurd (show b∈([]:List Addr) from z) (by simp)
 refine⟨⟨e0.mod,S.kind,rfl,rfl,q11 _,fun y z c h1 h2=>?_,fun y hy=>?_,fun y c _ h=>?_,fun _=>hd,Around.frames_deeper e0.frames,.inr ⟨rfl,rfl⟩,fun b z=>absurd z (noA b),e0.bs,e0.bsz,fun b _ _=>noA b,fun b z=>absurd z (noA b),e0.funs,e0.frf⟩,
  rfl,e0.bare,Un.kept hk,⟨_,x.toInCall.ns,fun i y v h1 h2 h3=>?_⟩,fun y c h=>⟨_,x.cell y c h⟩,e0.hok.fresh (q11 _),fun y c h=>?_,fun p hp=>absurd (show p∈([]:List (Addr×Obj)) from hp) (by simp),e0.hok.kept hk,?_⟩
 ·exact name_of_addr x.apart (q68 h1) (q68 h2)
 ·have hy:scope.names.lookup y=some .cell∨scope.names.lookup y=some .free:=hy
  rcases hy with hy|hy
  ·exact wf hy
  ·exact absurd rfl (S.nofree _ (q68 hy))
 ·exact Nat.le_of_lt (x.above y c (q68 h))
 ·have hi:i<vs.length:=by
   unfold start at h2
   by_cases hi:i<vs.length
   ·exact hi
   ·rw[q27 (by simpa using hi)] at h2
    rw[List.getElem?_replicate] at h2
    split at h2<;>cases h2
  have ha:vs[i]?=some v:=by
   unfold start at h2;rw[q16 (by simpa using hi),q33] at h2
   cases e:vs[i]? with
   | none=>rw[e] at h2; cases h2
   | some a=>rw[e] at h2; cases h2; rfl
  obtain⟨u,hu,rv⟩:=r.get ha
  have hp:ps[i]?=some y:=by
   rw[← S.pre,q65 (by omega)]; exact h1
  have ndP:ps.Nodup:=by rw[← S.pre]; exact S.nd.sublist (List.take_sublist _ _)
  refine⟨u,rv,?_⟩
  rcases S.par y (q59 hp) with k|k
  ·exact .inl ⟨k,uE ndP hp hu k⟩
  ·obtain⟨c,e⟩:=wf (n:=s.heap.objs.size+1) k
   refine .inr ⟨.inl k,c,e,?_⟩;have q:=x.cell y c e;rw[up ndP hp hu (by show scope.names.lookup y≠_; rw[k]; decide)] at q;exact q
 ·exact e0.hok.fresh (Nat.le_of_lt (x.above y c (q68 h)))
 ·unfold start
  show _=N.length;rw[q02,q21,List.length_replicate];omega
theorem JL {CX:Ad} {P:Program} {w:World} {K:q04} {mg:Str→Option Value} {base:Heap} {k:Nat} {f:Addr} {name qual:Str} {params:Arguments} {body:List Stmt} {scope:Scope} {dV kV doc pm cdv ct oc:Value} {an od:Option Addr}
  {osl:Array (Option Value)} {N ps:List Str} {sp:Sp} (lk:K.lookup f=some ⟨oc,od,.func (q05 name qual params body scope dV kV doc pm an cdv ct),osl⟩) (hcd:q03 K cdv qual=true) (S:aC N ps scope)
  (len:∀ vs H Q E,sp vs H Q E→vs.length=ps.length)
  (hbody:∀ (A:Around) (outer:List Env) (s:Shared) (H:Hp) (vs:List V) (Q:VK) (E:XK),iZ k (A.deeper (envOfC qual scope s.heap.objs.size f cdv))→sp vs H Q E→
   ∃ t,wY (xV CX P w K mg base N qual scope f cdv A outer s H E) body t∧t { nx:=fun _ H'=>Q .non H',rt:=Q } (start N vs) H) :
  oa P w K mg base CX (k+1) f (q05 name qual params body scope dV kV doc pm an cdv ct) ps sp:=by
 refine⟨len,fun A outer s H args us vs Q E hr e0 hb r hsp=>?_⟩;have hl:=len _ _ _ _ hsp
 have KX:K.In s.heap:=e0.mod.kin.keeps fun b o e=>(e0.bs b o e).1
 have lim:s.heap.NoLimit:=e0.mod.nolimit.keeps fun b o e=>(e0.bs b o e).1
 have hkind:∀ y∈ps.zip us,scope.names.lookup y.1=some .local∨(scope.names.lookup y.1=some .cell∧((cellsFrom (s.heap.objs.size+1) scope.names []).lookup y.1).isSome=true):=fun ⟨n,v⟩ hy=>by
  rcases S.par n (List.of_mem_zip hy).1 with q|q
  ·exact .inl q
  ·exact .inr ⟨q,PySem.W.cellsFrom_some _ _ _ (.inl q)⟩
 refine codeAny_call_function hr.depth (KX _ _ lk) rfl S.co S.gen rfl (PySem.W.codeRec_of KX hcd) (hb _ _ _ _ ?_)
 refine wpAny_newFunctionEnv_cells S.kind hkind fun env he s1 x=>?_
 subst he;refine⟨lim.keeps x.toInCall.keep,codeAny_func ?_⟩;obtain⟨t,ht,hq⟩:=hbody A outer s H vs Q E (hr.deeper _) hsp;have I:b9 (xV CX P w K mg base N qual scope f cdv A outer s H E) [] (start N vs) H s1:=zu S hr.hd e0 hl r x
 refine wpAny_mono (ht [] s1 (start N vs) H _ I hq) (fun fl s' hs=>?_) fun e s' hs=>hs
 have nK:∀ {σ':St} {H':Hp} {v:V} {u:Value},b9 (xV CX P w K mg base N qual scope f cdv A outer s H E) [] σ' H' s'→eU v u→Q v H'→CE outer P w H s Q u s':=
  fun {σ' H' v u} J rv q=>⟨v,H',J.os,J.bare,J.base,J.hok,rv,q⟩
 cases fl with
 | ret u=>
  obtain⟨v,σ',H',J,rv,q⟩:=hs;exact nK J rv q
 | next=>
  obtain⟨σ',H',J,q⟩:=hs;exact nK (v:=V.non) (u:=Value.none) J rfl q
 | brk=>
  obtain⟨_,_,_,q⟩:=hs;exact False.elim q
 | cont=>
  obtain⟨_,_,_,q⟩:=hs;exact False.elim q
section
variable {X:Cx} {x:Str} {p pos:Pos} {e:Expr} {es:List Expr} {t:TA} {id T:String} {r:List V→Hp→VK→Prop}
def tCB (r:List V→Hp→VK→Prop) (t:TA):TE:=fun σ H Q=>t σ H fun vs H1=>r vs H1 Q
theorem wm (hc:ki X (.builtin id) r) (hg:Gl X x) (hm:X.mg x=none) (hv:bootBuiltins x=some (.builtin id)) (ha:PA X (e::es) t) (hn:x≠"__name__":=by decide) (hdb:(x==("__debug__":Str))=false:=by decide)
  (he:starEach (e::es) X.env=(false,eval e X.env)::starEach es X.env:=by rfl) (hpl:(backTo pos (starEach es X.env)).any (·.1)=false:=by rfl):PE X (.Call (.Name x p) (e::es) [] pos) (tCB r t):=by
 intro pq s σ H Q I h;refine wpAny_Call_Name_kw (xJ I hg hm hv ?_ hn hdb);exact PyProof.Rows.callWith_builtin1 (iP (ha pos pq s σ H _ I h) fun us s1 ⟨vs,H1,I1,r1,q1⟩=>hc pq s1 σ H1 vs us Q I1 r1 q1) he hpl
theorem z8 (hc:ki X (.type T) r) (hg:Gl X x) (hm:X.mg x=none) (hv:bootBuiltins x=some (.type T)) (ha:PA X (e::es) t) (hn:x≠"__name__":=by decide) (hdb:(x==("__debug__":Str))=false:=by decide)
  (he:starEach (e::es) X.env=(false,eval e X.env)::starEach es X.env:=by rfl) (hpl:(backTo pos (starEach es X.env)).any (·.1)=false:=by rfl):PE X (.Call (.Name x p) (e::es) [] pos) (tCB r t):=by
 intro pq s σ H Q I h;refine wpAny_Call_Name_kw (xJ I hg hm hv ?_ hn hdb);exact PyProof.Rows.callWith_type1 (iP (ha pos pq s σ H _ I h) fun us s1 ⟨vs,H1,I1,r1,q1⟩=>hc pq s1 σ H1 vs us Q I1 r1 q1) he hpl
end
end L2
namespace HT
open PySem PyProof.Rows
section
open PySem.SeqAt
open PySem.AutoSeq1 (wpAny_loadPart')
open PySem.MeetsSeq PySem.MeetsSeq2 PySem.MeetsSeq3
end
section
variable {prog:Program} {w:World} {A:Around} {E:Value→Shared→Prop} {s:Shared}
theorem cat_tup {t b:Addr} {vs ws:List Value} {Q:Value→Shared→Prop} (ht:IsTup s.heap t vs.toArray) (hb:IsTup s.heap b ws.toArray) (hv:vs≠[])
  (h1:ws=[]→Q (.ref t) s) (h2:ws≠[]→Q (.ref s.heap.objs.size) { s with heap:=s.heap.push { cls:=.type "tuple",data:=.seq (vs++ws).toArray } })
  (hsz:vs.length+ws.length≤sizeLine):wpAny (model prog w) A (binaryOp .Add (.ref t) (.ref b)) Q E s:=by
 obtain⟨⟨cls,dd,data,sl⟩,ho,hc,n,hd⟩:=id ht;obtain⟨⟨cls2,dd2,data2,Fd⟩,ho2,hc2,n2,hd2⟩:=id hb;simp only at hc hd hc2 hd2;subst hc hd hc2 hd2
 have e:vs.toArray++ws.toArray=(vs++ws).toArray:=by simp
 by_cases hw:ws=[]
 ·exact concat_meets ⟨_,ho,rfl⟩ ⟨_,ho2,rfl⟩ noFill_tuple_add seq_tuple_add q92 q90 (q85 _ _)
   (tuple_addW1 t b vs.toArray ws.toArray n n2 dd dd2 sl Fd (by simpa using hv) (by simp[hw])) ⟨ho,ho2,h1 hw⟩
 ·refine concat_meets ⟨_,ho,rfl⟩ ⟨_,ho2,rfl⟩ noFill_tuple_add seq_tuple_add q92 q90 (q85 _ _)
   (tuple_addW2 t b vs.toArray ws.toArray n n2 dd dd2 sl Fd (by simpa using hv) (by simpa using hw) (by rw[q17,q17]; exact hsz)) ⟨ho,ho2,?_⟩
  rw[e];exact h2 hw
def sIx (n d:Nat):Option Int→Nat
 | none=>d
 | some v=>if v<0 then (v+(n:Int)).toNat else min v.toNat n
theorem sIx_le (n d:Nat) (hd:d≤n) (o:Option Int):sIx n d o≤n:=by
 cases o with
 | none=>exact hd
 | some v=>
  show(if v<0 then (v+(n:Int)).toNat else min v.toNat n)≤n
  by_cases hv:v<0
  ·rw[if_pos hv]; omega
  ·rw[if_neg hv]; exact Nat.min_le_right _ _
theorem yN (v:Int) (n d:Nat):(if v<0 then max (v+(n:Int)) 0 else min v (n:Int))=((sIx n d (some v):Nat):Int):=by
 show(if v<0 then max (v+(n:Int)) 0 else min v (n:Int))=(((if v<0 then (v+(n:Int)).toNat else min v.toNat n):Nat):Int)
 by_cases hv:v<0
 ·simp only[if_pos hv]; omega
 ·simp only[if_neg hv]; omega
theorem ya (lo hi:Option Int) (n:Nat):Builtin.Slice.sliceAdjust lo hi 1 (n:Int)=(((sIx n 0 lo:Nat):Int),((sIx n n hi:Nat):Int)):=by
 have h1:¬ ((1:Int)<0):=by omega
 unfold Builtin.Slice.sliceAdjust;simp only[h1,if_false];refine Prod.ext ?_ ?_
 ·cases lo with
  | none=>rfl
  | some v=>exact yN v n 0
 ·cases hi with
  | none=>rfl
  | some v=>exact yN v n n
theorem xt (i j:Nat):Builtin.Slice.slicePlaces (i:Int) (j:Int) 1=j-i:=by
 unfold Builtin.Slice.slicePlaces
 have h1:(1:Int)>0:=by omega
 simp only[h1,if_true,Int.ediv_one]
 split<;>omega
theorem sv {v:Value} {o:Option Int} {Q:Option Int→Shared→Prop} (p:IsPart v o) (h:Q o s):wpAny (model prog w) A (Builtin.Slice.slicePartIndex v) Q E s:=by
 cases p with
 | none=>exact slicePart_none h
 | int i t=>exact slicePart_int h
theorem sliceApplied_gen {sl:Addr} {vl vu:Value} {lo hi:Option Int} {n:Nat} {Q:Int×Int×Nat→Shared→Prop} (hs:s.heap.IsSliceOf sl vl vu .none) (pl:IsPart vl lo) (pu:IsPart vu hi)
  (h:Q (((sIx n 0 lo:Nat):Int),1,sIx n n hi-sIx n 0 lo) s):wpAny (model prog w) A (Builtin.Slice.sliceApplied (.ref sl) (pure (n:Int))) Q E s:=by
 obtain⟨os,hos,hcs,hds⟩:=id hs;unfold Builtin.Slice.sliceApplied Builtin.Slice.sliceFields;refine wpAny_bind (wpAny_bind (wpAny_field hos hds (x:=vl) rfl (wpAny_bind (wpAny_field hos hds (x:=vu) rfl (wpAny_bind (wpAny_field hos hds (x:=.none) rfl (wpAny_pure ?_)))))));refine wpAny_bind (slicePart_none ?_);show wpAny _ _ (if ((1:Int)==0)=true then _ else _) _ _ s;rw[if_neg (by decide)];refine wpAny_bind (sv pl (wpAny_bind (sv pu (wpAny_bind (wpAny_pure ?_)))));show wpAny _ _ (match Builtin.Slice.sliceAdjust lo hi 1 (n:Int) with|(lo,hi)=>pure (lo,(1:Int),Builtin.Slice.slicePlaces lo hi 1)) _ _ s
 rw[ya lo hi n];show wpAny _ _ (pure (((sIx n 0 lo:Nat):Int),(1:Int),Builtin.Slice.slicePlaces ((sIx n 0 lo:Nat):Int) ((sIx n n hi:Nat):Int) 1)) _ _ s;rw[xt];exact wpAny_pure h
theorem BD (xs:Array Value) (i k:Nat):((List.range k).filterMap fun (m:Nat)=>xs[((i:Int)+(m:Int)*1).toNat]?).toArray=((xs.toList.drop i).take k).toArray:=by
 have e:(fun (m:Nat)=>xs[((i:Int)+(m:Int)*1).toNat]?)=fun m=>xs[i+m]?:=by
  funext m
  have:((i:Int)+(m:Int)*1).toNat=i+m:=by omega
  rw[this]
 rw[e];have:=pick_run xs i k;rw[List.filterMap_map] at this
 have e2:((fun x=>xs[x]?)∘fun x=>i+x)=fun m=>xs[i+m]?:=rfl
 rw[e2] at this;rw[this]
theorem getItem_tuple_cut {t sl:Addr} {items:Array Value} {vl vu:Value} {lo hi:Option Int} {Q:Value→Shared→Prop} (ht:IsTup s.heap t items) (hs:s.heap.IsSliceOf sl vl vu .none) (pl:IsPart vl lo) (pu:IsPart vu hi)
  (hw:¬ (sIx items.size 0 lo=0∧sIx items.size items.size hi=items.size))
  (h:Q (.ref s.heap.objs.size) { s with heap:=s.heap.push { cls:=.type "tuple",data:=.seq ((items.toList.drop (sIx items.size 0 lo)).take (sIx items.size items.size hi-sIx items.size 0 lo)).toArray } })
  (hsz:items.size≤sizeLine):wpAny (model prog w) A (getItem (.ref t) (.ref sl)) Q E s:=by
 have htake:sizeOk (.seq ((items.toList.drop (sIx items.size 0 lo)).take (sIx items.size items.size hi-sIx items.size 0 lo)).toArray):=by
  show((items.toList.drop (sIx items.size 0 lo)).take (sIx items.size items.size hi-sIx items.size 0 lo)).toArray.size≤sizeLine;rw[q17,q39,qa1,qa6];omega
 have hj:sIx items.size items.size hi≤items.size:=sIx_le _ _ (q11 _) hi;obtain⟨os,hos,hcs,hds⟩:=id hs;have hTs:s.TypeIs (.ref sl) "slice":=⟨os,hos,hcs⟩;unfold getItem
 try with_reducible refine wpAny_holding ?_
 first|refine wpAny_bind (wpAny_pure ?_)|skip
 refine wpAny_bind (wpAny_sequenceKey ht.typeIs (by decide) ?_)
 refine wpAny_bind (wpAny_callSpecial?_slot (name:=Str.ofString "__getitem__") ht.typeIs q44
  (wpAny_call_entry q44 ht.typeIs entry_tuple_getitem ?_ (args_tuple_getitem _ _)))
 show wpAny _ _ (Builtin.Tuple.tupleItemsOf (.ref t) >>= _) _ _ s;refine wpAny_bind (tupleItemsOf_ ht ?_);refine wpAny_bind (wpAny_typeOf hTs ?_);rw[if_pos (by decide)];refine wpAny_bind (sliceApplied_gen hs pl pu ?_)
 have hno:¬ ((((sIx items.size 0 lo:Nat):Int)==0&&(1:Int)==1&&(sIx items.size items.size hi-sIx items.size 0 lo)==items.size)=true):=by
  intro q;rw[q08,q08] at q;have q1:((sIx items.size 0 lo:Nat):Int)=0:=eq_of_beq q.1.1;have q2:sIx items.size items.size hi-sIx items.size 0 lo=items.size:=eq_of_beq q.2;exact hw ⟨by omega,by omega⟩
 show wpAny _ _ (if (((sIx items.size 0 lo:Nat):Int)==0&&(1:Int)==1&&(sIx items.size items.size hi-sIx items.size 0 lo)==items.size)=true then _ else _) _ _ s;rw[if_neg hno,BD]
 first
  | exact wpAny_bind (m:=Builtin.Tuple.tupleExact _) (wpAny_newObj_type (wpAny_pure ⟨_,rfl,wpAny_pure h⟩) htake)
  | exact wpAny_bind (m:=Builtin.Tuple.tupleExact _) (wpAny_newObj_type (wpAny_bind (wpAny_pure (wpAny_pure ⟨_,rfl,wpAny_pure h⟩))) htake)
  | exact wpAny_bind (wpAny_bind (m:=Builtin.Tuple.tupleExact _) (wpAny_newObj_type (wpAny_pure (wpAny_pure ⟨_,rfl,wpAny_pure h⟩)) htake))
  | exact wpAny_bind (wpAny_bind (m:=Builtin.Tuple.tupleExact _) (wpAny_newObj_type (wpAny_pure ⟨_,rfl,wpAny_pure h⟩) htake))
end
end HT
namespace L2
abbrev TO:=St→Hp→(Option Int→Hp→Prop)→Prop
def PO (X:Cx) (e:Option Expr) (t:TO):Prop:=
 ∀ (pq:List (Addr×Obj)) (s:Shared) (σ:St) (H:Hp) (Q:Option Int→Hp→Prop),b9 X pq σ H s→t σ H Q→
  wpAny (model X.prog X.w) X.A (evalPart e X.env) (fun u s'=>∃ o H',b9 X pq σ H' s'∧IsPart u o∧Q o H') X.xe s
def CY:TO:=fun _ H Q=>Q none H
def IP (t:TE):TO:=fun σ H Q=>t σ H fun x H1=>∃ i,x=.int i∧Q (some i) H1
section
variable {X:Cx} {e:Expr} {te:TE} {lo hi:Option Expr} {tl th:TO} {pos p2:Pos}
theorem EG:PO X none CY:=by
 intro pq s σ H Q I h;rw[evalPart_none];exact wpAny_pure ⟨none,H,I,.none,h⟩
theorem D0 (h:PE X e te):PO X (some e) (IP te):=by
 intro pq s σ H Q I hw;rw[evalPart_some]
 refine iP (h pq s σ H _ I hw) fun u s1 ⟨x,H1,I1,r1,q1⟩=>?_
 obtain⟨i,rfl,q⟩:=q1;obtain⟨t,rfl⟩:=r1;exact⟨some i,H1,I1,.int i t,q⟩
def Ig (X:Cx) (r:V→Option Int→Option Int→Hp→VK→Prop):Prop:=
 ∀ (pq:List (Addr×Obj)) (s:Shared) (σ:St) (H:Hp) (x:V) (v vl vu:Value) (lo hi:Option Int) (sl:Addr) (Q:VK),b9 X pq σ H s→eU x v→s.heap.IsSliceOf sl vl vu .none→IsPart vl lo→IsPart vu hi→r x lo hi H Q→
  ∃ T id,typeLookup (.type T) "__getitem__"=pure (some (.builtin id))∧s.TypeIs v T∧wpAny (model X.prog X.w) X.A (getItem v (.ref sl)) (EP X pq σ Q) X.xe s
def tSl (r:V→Option Int→Option Int→Hp→VK→Prop) (te:TE) (tl th:TO):TE:=fun σ H Q=>te σ H fun x H1=>tl σ H1 fun l H2=>th σ H2 fun u H3=>r x l u H3 Q
theorem Cu {r:V→Option Int→Option Int→Hp→VK→Prop} (hr:Ig X r) (he:PE X e te) (hl:PO X lo tl) (hu:PO X hi th):PE X (.Subscript e (.Slice lo hi none p2) pos) (tSl r te tl th):=by
 intro pq s σ H Q I h;refine Subscript_ (iP (he pq s σ H _ I h) fun v s1 ⟨x,H1,I1,r1,q1⟩=>?_);refine wpAny_Slice (iP (hl pq s1 σ H1 _ I1 q1) fun vl s2 ⟨l,H2,I2,pl,q2⟩=>iP (hu pq s2 σ H2 _ I2 q2) fun vu s3 ⟨u,H3,I3,pu,q3⟩=>?_);rw[evalPart_none];refine wpAny_pure ?_
 have I4:b9 X pq σ H3 { s3 with heap:=s3.heap.push { cls:=.type "slice",data:=.fields #[vl,vu,.none] } }:=I3.kept (t':=s3.toks) fun b ob q=>q13 _ q
 obtain⟨T,id,hT,ht,hg⟩:=hr pq { s3 with heap:=s3.heap.push { cls:=.type "slice",data:=.fields #[vl,vu,.none] } } σ H3 x v vl vu l u s3.heap.objs.size Q I4 r1 (Heap.IsSliceOf.new ..) pl pu q3
 show wpAny (model X.prog X.w) X.A (subscriptTail e (.Slice lo hi none p2) v (.ref s3.heap.objs.size)) (EP X pq σ Q) X.xe { s3 with heap:=s3.heap.push { cls:=.type "slice",data:=.fields #[vl,vu,.none] } }
 exact tail_any (ops:=[.ref s3.heap.objs.size,v]) ht hT hg (by with_unfolding_all rfl)
def wn (xs:List V) (lo hi:Option Int):List V:=(xs.drop (HT.sIx xs.length 0 lo)).take (HT.sIx xs.length xs.length hi-HT.sIx xs.length 0 lo)
theorem qX (xs:List V) (lo hi:Option Int):(wn xs lo hi).length≤xs.length:=by
 unfold wn;rw[q39,qa1];omega
def NV (K:q04):V→Option Int→Option Int→Hp→VK→Prop:=fun x lo hi H Q=>∃ a xs,x=.ref a∧qc K H a xs∧
 ¬ (HT.sIx xs.length 0 lo=0∧HT.sIx xs.length xs.length hi=xs.length)∧∀ p,H p=none→Q (.ref p) (gL H p (.tup (wn xs lo hi)))
theorem G5:Ig X (NV X.K):=by
 intro pq s σ H x v vl vu lo hi sl Q I rx hs pl pu h;obtain⟨a,xs,rfl,hx,hw,q⟩:=h;cases rx;obtain⟨its,r,ht,hz⟩:=I.tuple hx
 have hlen:its.toArray.size=xs.length:=by rw[q17]; exact r.length.symm
 refine⟨"tuple",_,q44.lookup,ht.typeIs,?_⟩;refine HT.getItem_tuple_cut ht hs pl pu (by rw[hlen]; exact hw) ?_ (by rw[hlen]; exact hz);rw[hlen];refine⟨.ref s.heap.objs.size,_,I.laid (t':=s.toks) (o:=.tup (wn xs lo hi)) (fun b ob q=>q13 _ q) (q11 _) ?_,rfl,q _ (I.hok.fresh (q11 _))⟩;exact⟨q57 (qX xs lo hi) hz,_,(r.drop (HT.sIx xs.length 0 lo)).take (HT.sIx xs.length xs.length hi-HT.sIx xs.length 0 lo),IsTup.new _ _⟩
def IK (K:q04):R2:=fun x y H Q=>∃ a b xs ys,x=.ref a∧y=.ref b∧qc K H a xs∧qc K H b ys∧xs≠[]∧xs.length+ys.length≤sizeLine∧
 (ys=[]→Q (.ref a) H)∧(ys≠[]→∀ p,H p=none→Q (.ref p) (gL H p (.tup (xs++ys))))
theorem dm.nil_iff {xs:List V} {us:List Value} (r:dm xs us):us=[]↔xs=[]:=by
 cases r with
 | nil=>simp
 | cons _ _=>simp
theorem Ek:jh X (binaryOp .Add) (IK X.K):=by
 intro pq s σ H x y v u Q I rx ry h;obtain⟨a,b,xs,ys,rfl,rfl,ha,hb,hx,hz,q1,q2⟩:=h;cases rx;cases ry;obtain⟨its,r1,p1,_⟩:=I.tuple ha;obtain⟨its2,r2,p2,_⟩:=I.tuple hb;refine HT.cat_tup p1 p2 (fun z=>hx (r1.nil_iff.mp z)) (fun z=>⟨.ref a,H,I,rfl,q1 (r2.nil_iff.mp z)⟩) (fun z=>?_) (by rw[← r1.length,← r2.length]; exact hz);refine⟨.ref s.heap.objs.size,_,I.laid (t':=s.toks) (o:=.tup (xs++ys)) (fun b ob q=>q13 _ q) (q11 _) ?_,rfl,q2 (fun w=>z (r2.nil_iff.mpr w)) _ (I.hok.fresh (q11 _))⟩;exact⟨by rw[q02]; exact hz,_,r1.append r2,IsTup.new _ _⟩
end
def AB (n:Nat) (i:Int):Option Nat:=if 0≤i then (if i<n then some i.toNat else none) else if -(n:Int)≤i then some (i+n).toNat else none
def atI {α:Type} (xs:List α) (i:Int):Option α:=(AB xs.length i).bind fun j=>xs[j]?
theorem yT {n:Nat} {i:Int} {j:Nat} (h:AB n i=some j):seqIndex? i n=some j∧j<n∧-(n:Int)≤i∧i<n:=by
 unfold AB at h
 by_cases h0:0≤i
 ·rw[if_pos h0] at h
  by_cases h1:i<n
  ·rw[if_pos h1] at h
   have e:i.toNat=j:=q30 h;exact⟨by rw[seqIndex_of h0 h1,e],by omega,by omega,h1⟩
  ·rw[if_neg h1] at h; cases h
 ·rw[if_neg h0] at h
  by_cases h1:-(n:Int)≤i
  ·rw[if_pos h1] at h
   have e:(i+n).toNat=j:=q30 h;exact⟨by rw[seqIndex_neg (by omega) h1,e],by omega,h1,by omega⟩
  ·rw[if_neg h1] at h; cases h
theorem uV {α:Type} {xs:List α} {i:Int} {v:α} (h:atI xs i=some v):∃ j,seqIndex? i xs.length=some j∧xs[j]?=some v∧j<xs.length∧-(xs.length:Int)≤i∧i<xs.length:=by
 unfold atI at h
 cases e:AB xs.length i with
 | none=>rw[e] at h; cases h
 | some j=>
  rw[e] at h;obtain⟨h1,h2,h3,h4⟩:=yT e;exact⟨j,h1,h,h2,h3,h4⟩
def uW (b:Expr):Prop:=∀ o i,subscripted b false o i=operate [o,i] (getItem o i)
def Ix (X:Cx) (r:R2):Prop:=
 ∀ (value slice:Expr) (pq:List (Addr×Obj)) (s:Shared) (σ:St) (H:Hp) (x y:V) (v u:Value) (Q:VK),b9 X pq σ H s→eU x v→eU y u→r x y H Q→
  subscripted slice false v u=operate [v,u] (getItem v u)→wpAny (model X.prog X.w) X.A (subscriptTail value slice v u) (EP X pq σ Q) X.xe s
def Ds (X:Cx) (id:String) (r:V→List V→Hp→VK→Prop):Prop:=
 ∀ (pq:List (Addr×Obj)) (s:Shared) (σ:St) (H:Hp) (x:V) (xs:List V) (v:Value) (us:List Value) (Q:VK),b9 X pq σ H s→eU x v→dm xs us→r x xs H Q→
  wpAny (model X.prog X.w) X.A (call (.builtin id) (v::us)) (EP X pq σ Q) X.xe s
section
variable {X:Cx} {a b:Expr} {ta tb:TE} {pos:Pos}
theorem LO {r:R2} (hr:Ix X r) (ha:PE X a ta) (hb:PE X b tb) (hs:uW b):PE X (.Subscript a b pos) (IC r ta tb):=by
 intro pq s σ H Q I h;exact Subscript_ (HS ha hb I h fun v u s2 x y H2 I2 rx ry q=>hr a b pq s2 σ H2 x y v u Q I2 rx ry q (hs _ _))
def Qc (K:q04):R2:=fun x y H Q=>∃ p xs i v,x=.ref p∧y=.int i∧oU K H p xs∧atI xs i=some v∧Q v H
def ZX (K:q04):R2:=fun x y H Q=>∃ p xs i v,x=.ref p∧y=.int i∧qc K H p xs∧atI xs i=some v∧Q v H
def Xo:R2:=fun x y H Q=>∃ z i c,x=.str z∧y=.int i∧z.length≤sizeLine∧atI z.cps.toList i=some c∧Q (.str ⟨#[c]⟩) H
theorem DN:Ix X (Qc X.K):=by
 intro value slice pq s σ H x y v u Q I rx ry h hs;obtain⟨p,xs,i,z,rfl,rfl,hq,he,q⟩:=h;cases rx;obtain⟨t,rfl⟩:=ry;obtain⟨its,r,pl,hz⟩:=I.list hq;obtain⟨j,h1,h2,h3,h4,h5⟩:=uV he;obtain⟨w,ew,rw'⟩:=r.get h2;have hl:=r.length;have hn:=qA;have nK:EP X pq σ Q w s:=⟨z,H,I,rw',q⟩
 by_cases h0:0≤i
 ·have hj:i.toNat=j:=by
   rw[seqIndex_of h0 h5] at h1;exact q30 h1
  exact item_listR pl.isList h0 (by omega) (by rw[hj]; simpa using ew) nK hs
 ·have hj:(i+(its.toArray.size:Int)).toNat=j:=by
   rw[seqIndex_neg (by omega) h4] at h1;rw[q17,← hl];exact q30 h1
  exact subscriptTail_builtinR (x:=w) pl.isList.typeIs slot_list_getitem.lookup
   (wpAny_getItem_list_neg (Q:=fun r s'=>r=w∧EP X pq σ Q r s') pl.isList (by omega) (by rw[q17]<;>omega) (by omega) (by rw[hj]; simpa using ew) ⟨rfl,nK⟩) hs
theorem HN:Ix X (ZX X.K):=by
 intro value slice pq s σ H x y v u Q I rx ry h hs;obtain⟨p,xs,i,z,rfl,rfl,hq,he,q⟩:=h;cases rx;obtain⟨t,rfl⟩:=ry;obtain⟨its,r,pl,hz⟩:=I.tuple hq;obtain⟨j,h1,h2,h3,h4,h5⟩:=uV he;obtain⟨w,ew,rw'⟩:=r.get h2;have hl:=r.length;have hn:=qA;have nK:EP X pq σ Q w s:=⟨z,H,I,rw',q⟩;exact subscriptTail_builtinR (x:=w) pl.typeIs slot_tuple_getitem.lookup
  (getItem_tuple (j:=j) (Q:=fun r s'=>r=w∧EP X pq σ Q r s') pl (by omega) (by omega) (by rw[q17,← hl]; exact h1) (by simpa using ew) ⟨rfl,nK⟩) hs
theorem GD:Ix X Xo:=by
 intro value slice pq s σ H x y v u Q I rx ry h hs;obtain⟨z,i,c,rfl,rfl,hz,he,q⟩:=h;obtain⟨t,rfl⟩:=rx;obtain⟨t',rfl⟩:=ry;obtain⟨j,h1,h2,h3,h4,h5⟩:=uV he
 have hl:z.cps.toList.length=z.length:=by simp[Str.length]
 rw[hl] at h1 h4 h5;have hn:=qA
 exact tail_any (typeIs_str s z t) slot_str_getitem.lookup (getItem_str (c:=c) (by
  have e1:decide (i < -(2 ^ 63:Int))=false:=decide_eq_false (by omega);have e2:decide (i≥2 ^ 63)=false:=decide_eq_false (by omega)
  rw[e1,e2,Bool.or_false]) (by rw[h1]; simpa using h2) ⟨.str ⟨#[c]⟩,H,I.tok _,⟨_,rfl⟩,q⟩) hs
theorem xw (its:List Value) (n j:Nat) (u:Value):Obj.mapSeq (·.setIfInBounds j u) { cls:=.type "list",data:=.seq its.toArray n }={ cls:=.type "list",data:=.seq (its.set j u).toArray n }:=by
 simp[Obj.mapSeq]
theorem b9.lst {pq:List (Addr×Obj)} {σ:St} {H:Hp} {s:Shared} {p:Addr} {xs:List V} (I:b9 X pq σ H s) (h:H p=some (.lst xs)) :
  ∃ (its:List Value) (n:Nat),dm xs its∧s.heap.get? p=some { cls:=.type "list",data:=.seq its.toArray n }∧xs.length≤sizeLine:=by
 obtain⟨z,its,n,r,e⟩:=I.hok p _ h;exact⟨its,n,r,e,z⟩
theorem b9.lstUpd {pq:List (Addr×Obj)} {σ:St} {H:Hp} {s:Shared} {p:Addr} {xs ys:List V} {its its':List Value} {n n':Nat} {f:Obj→Obj} (I:b9 X pq σ H s) (h:H p=some (.lst xs))
  (ho:s.heap.get? p=some { cls:=.type "list",data:=.seq its.toArray n }) (hf:f { cls:=.type "list",data:=.seq its.toArray n }={ cls:=.type "list",data:=.seq its'.toArray n' }) (r:dm ys its') (hz:ys.length≤sizeLine) (t:Nat) :
  b9 X pq σ (gL H p (.lst ys)) { s with heap:=s.heap.update p f,toks:=t }:=by
 have e:(s.heap.update p f).get? p=some { cls:=.type "list",data:=.seq its'.toArray n' }:=by
  rw[Heap.get?_update_self f ho (by rw[hf]<;>rfl),hf]
 refine I.write (x:=p) (e:=p) (by rw[h]; trivial) (.inl rfl) (fun b u hb q=>(Heap.get?_update_other _ _ (q56 hb)).trans q) ⟨_,e⟩ ?_;exact⟨hz,its',n',r,e⟩
def L7:V→V→V→Hp→(Hp→Prop)→Prop:=fun o i v H Q=>∃ p xs k j,o=.ref p∧i=.int k∧H p=some (.lst xs)∧AB xs.length k=some j∧Q (gL H p (.lst (xs.set j v)))
theorem AR:Lw X L7:=by
 intro pq s σ H o i v ov iv u Q I ro ri rv h;obtain⟨p,xs,k,j,rfl,rfl,hp,hj,q⟩:=h;cases ro;obtain⟨t,rfl⟩:=ri;obtain⟨its,n,r,ho,hz⟩:=I.lst hp;obtain⟨h1,h2,h3,h4⟩:=yT hj;have hl:=r.length;have hn:=qA
 have I':b9 X pq σ (gL H p (.lst (xs.set j v))) { s with heap:=s.heap.update p (Obj.mapSeq (·.setIfInBounds j u)) }:=
  I.lstUpd hp ho (xw its n j u) (r.set rv j) (by rw[q66]; exact hz) s.toks
 by_cases h0:0≤k
 ·have hk:k.toNat=j:=by
   rw[seqIndex_of h0 h4] at h1;exact q30 h1
  exact PySem.W.ki_setAt ho h0 (by omega) (by rw[q17,← hl]; exact h4) (by rw[hk]; exact⟨_,I',q⟩)
 ·have hk:(k+(its.toArray.size:Int)).toNat=j:=by
   rw[seqIndex_neg (by omega) h3] at h1;rw[q17,← hl];exact q30 h1
  exact PySem.W.ki_setBack ho (by omega) (by rw[q17,← hl]; exact h3) (by omega) (by rw[hk]; exact⟨_,I',q⟩)
theorem pI (lo hi:Option Int) (n:Nat):(sliceBounds lo hi none n).1=((HT.sIx n 0 lo:Nat):Int)∧(sliceBounds lo hi none n).2.1=((HT.sIx n n hi:Nat):Int)∧(sliceBounds lo hi none n).2.2=1:=by
 refine⟨?_,?_,rfl⟩
 ·cases lo with
  | none=>simp[sliceBounds,HT.sIx]
  | some i=>
   simp only[sliceBounds,HT.sIx,Option.getD_none,show(1:Int)>0 by decide,if_true]
   by_cases h:i<0
   ·simp only[h,if_true]<;>omega
   ·simp only[h,if_false]<;>omega
 ·cases hi with
  | none=>simp[sliceBounds,HT.sIx]
  | some i=>
   simp only[sliceBounds,HT.sIx,Option.getD_none,show(1:Int)>0 by decide,if_true]
   by_cases h:i<0
   ·simp only[h,if_true]<;>omega
   ·simp only[h,if_false]<;>omega
theorem tP (its:List Value) (lo hi:Option Int):slicePick its.toArray lo hi none=((its.drop (HT.sIx its.length 0 lo)).take (HT.sIx its.length its.length hi-HT.sIx its.length 0 lo)).toArray:=by
 obtain⟨h1,h2,h3⟩:=pI lo hi its.toArray.size;unfold slicePick;rw[h1,h2,h3]
 simp only[sliceRange_one,pick_run,q17]<;>rfl
def QS (K:q04):V→Option Int→Option Int→Hp→VK→Prop:=fun x lo hi H Q=>∃ a xs,x=.ref a∧oU K H a xs∧∀ p,H p=none→Q (.ref p) (gL H p (.lst (wn xs lo hi)))
theorem Dj:Ig X (QS X.K):=by
 intro pq s σ H x v vl vu lo hi sl Q I rx hs pl pu h;obtain⟨a,xs,rfl,hx,q⟩:=h;cases rx;obtain⟨its,r,ht,hz⟩:=I.list hx;have hlen:=r.length;refine⟨"list",_,slot_list_getitem.lookup,ht.isList.typeIs,?_⟩;refine wpAny_getItem_list_slice ht.isList hs pl pu .none (by simp) ?_ (by rw[q17]<;>omega);rw[tP,← hlen];refine⟨.ref s.heap.objs.size,_,I.laid (t':=s.toks) (o:=.lst (wn xs lo hi)) (fun b ob q=>q13 _ q) (q11 _) ?_,rfl,q _ (I.hok.fresh (q11 _))⟩;exact⟨q57 (qX xs lo hi) hz,_,0,(r.drop (HT.sIx xs.length 0 lo)).take (HT.sIx xs.length xs.length hi-HT.sIx xs.length 0 lo),q35 _ rfl⟩
def oq:V→Bool
 | .non=>true
 | .bl _=>true
 | .int _=>true
 | .str _=>true
 | _=>false
def Az:V→V→Bool
 | .non,.non=>true
 | .bl a,.bl b=>a==b
 | .bl a,.int b=>(if a then 1 else 0)==b
 | .int a,.bl b=>a==(if b then 1 else 0)
 | .int a,.int b=>a==b
 | .str a,.str b=>a==b
 | _,_=>false
theorem Gy {A:Around} {s:Shared} {y x:V} {u v:Value} (ry:eU y u) (rx:eU x v) (fy:oq y=true) (fx:oq x=true):SeqAt.EqAt A s u v (Az y x):=by
 cases y with
 | non=>
  cases ry
  cases x with
  | non=>cases rx; exact SeqAt.EqAt.same _
  | bl b=>cases rx; exact SeqAt.EqAt.none_bool b
  | int b=>obtain⟨t,rfl⟩:=rx; exact SeqAt.EqAt.none_int b t
  | str b=>obtain⟨t,rfl⟩:=rx; exact SeqAt.EqAt.none_str b t
  | _=>exact absurd (show false=true from fx) q18
 | bl a=>
  cases ry
  cases x with
  | non=>cases rx; exact SeqAt.EqAt.bool_none a
  | bl b=>cases rx; exact SeqAt.EqAt.bool_bool a b
  | int b=>obtain⟨t,rfl⟩:=rx; exact SeqAt.EqAt.bool_int a b t
  | str b=>obtain⟨t,rfl⟩:=rx; exact SeqAt.EqAt.bool_str a b t
  | _=>exact absurd (show false=true from fx) q18
 | int a=>
  obtain⟨t',rfl⟩:=ry
  cases x with
  | non=>cases rx; exact SeqAt.EqAt.int_none a t'
  | bl b=>cases rx; exact SeqAt.EqAt.int_bool a t' b
  | int b=>obtain⟨t,rfl⟩:=rx; exact SeqAt.EqAt.int_int a t' b t
  | str b=>obtain⟨t,rfl⟩:=rx; exact SeqAt.EqAt.int_str a t' b t
  | _=>exact absurd (show false=true from fx) q18
 | str a=>
  obtain⟨t',rfl⟩:=ry
  cases x with
  | non=>cases rx; exact SeqAt.EqAt.str_none a t'
  | bl b=>cases rx; exact SeqAt.EqAt.str_bool a t' b
  | int b=>obtain⟨t,rfl⟩:=rx; exact SeqAt.EqAt.str_int a t' b t
  | str b=>obtain⟨t,rfl⟩:=rx; exact SeqAt.EqAt.str_str a t' b t
  | _=>exact absurd (show false=true from fx) q18
 | _=>exact absurd (show false=true from fy) q18
def xG (x:V) (u:Value):Bool:=match u with
 | .none=>Az .non x
 | .bool b=>Az (.bl b) x
 | .int i _=>Az (.int i) x
 | .str z _=>Az (.str z) x
 | _=>false
theorem A0 {x y:V} {u:Value} (r:eU y u) (f:oq y=true):xG x u=Az y x:=by
 cases y with
 | non=>cases r; rfl
 | bl b=>cases r; rfl
 | int i=>obtain⟨t,rfl⟩:=r; rfl
 | str z=>obtain⟨t,rfl⟩:=r; rfl
 | _=>exact absurd (show false=true from f) q18
theorem pK {x:V}:∀ {xs:List V} {us:List Value},dm xs us→xs.all oq=true→us.any (xG x)=xs.any fun y=>Az y x
 | _,_,.nil,_=>rfl
 | y::xs,u::us,.cons r t,f=>by
  rw[q49,q08] at f;rw[List.any_cons,List.any_cons,A0 r f.1,pK t f.2]
theorem nI {A:Around} {s:Shared} {x:V} {v:Value} (rx:eU x v) (fx:oq x=true):∀ {xs:List V} {us:List Value},dm xs us→xs.all oq=true→∀ u∈us,SeqAt.EqAt A s u v (xG x u)
 | _,_,.nil,_=>fun u hu=>by cases hu
 | y::xs,u::us,.cons r t,f=>fun u' hu=>by
  rw[q49,q08] at f
  rcases q32.mp hu with rfl|hu
  ·rw[A0 r f.1]; exact Gy r rx f.1 fx
  ·exact nI rx fx t f.2 u' hu
def NG (x:V) (xs:List V):Bool:=xs.any fun y=>Az y x
def rIn (K:q04) (neg:Bool):R2:=fun x y H Q=>∃ p xs,y=.ref p∧(oU K H p xs∨qc K H p xs)∧oq x=true∧xs.all oq=true∧Q (.bl (if neg then !NG x xs else NG x xs)) H
theorem Ag:jh X (compareOp .In) (rIn X.K false):=by
 intro pq s σ H x y v u Q I rx ry h;obtain⟨p,xs,rfl,hq,fx,fs,q⟩:=h;cases ry
 rcases hq with hq|hq
 ·obtain⟨its,r,pl,hz⟩:=I.list hq
  refine SeqAt.in_listAt (xG x) pl.isList (fun w hw=>nI rx fx r fs w (by simpa using hw)) ⟨.bl _,H,I,rfl,?_⟩;rw[show its.toArray.any (xG x)=its.any (xG x) by simp,pK r fs];exact q
 ·obtain⟨its,r,pl,hz⟩:=I.tuple hq
  refine SeqAt.in_tupleAt (xG x) pl (fun w hw=>nI rx fx r fs w (by simpa using hw)) ⟨.bl _,H,I,rfl,?_⟩;rw[show its.toArray.any (xG x)=its.any (xG x) by simp,pK r fs];exact q
theorem u9:jh X (compareOp .NotIn) (rIn X.K true):=by
 intro pq s σ H x y v u Q I rx ry h;obtain⟨p,xs,rfl,hq,fx,fs,q⟩:=h;cases ry
 rcases hq with hq|hq
 ·obtain⟨its,r,pl,hz⟩:=I.list hq
  refine SeqAt.notIn_listAt (xG x) pl.isList (fun w hw=>nI rx fx r fs w (by simpa using hw)) ⟨.bl _,H,I,rfl,?_⟩;rw[show its.toArray.any (xG x)=its.any (xG x) by simp,pK r fs];exact q
 ·obtain⟨its,r,pl,hz⟩:=I.tuple hq
  refine SeqAt.notIn_tupleAt (xG x) pl (fun w hw=>nI rx fx r fs w (by simpa using hw)) ⟨.bl _,H,I,rfl,?_⟩;rw[show its.toArray.any (xG x)=its.any (xG x) by simp,pK r fs];exact q
theorem vM:jh X (compareOp .NotIn) (fun x y H Q=>∃ i j,x=.str i∧y=.str j∧Q (.bl (!(!(Builtin.Str.occurrences j i 0 j.length 1).isEmpty))) H):=by
 intro pq s σ H x y v u Q I rx ry h;obtain⟨i,j,rfl,rfl,q⟩:=h;obtain⟨t,rfl⟩:=rx;obtain⟨t',rfl⟩:=ry;exact notIn_str ⟨.bl _,H,I,rfl,q⟩
theorem tM:ki X (.type "tuple") (fun xs H Q=>∃ p ys,xs=[.ref p]∧((oU X.K H p ys∧∀ l,H l=none→Q (.ref l) (gL H l (.tup ys)))∨(qc X.K H p ys∧Q (.ref p) H))):=by
 intro pq s σ H xs us Q I r h;obtain⟨p,ys,rfl,h⟩:=h;obtain⟨u,rfl,rx⟩:=qS r;cases rx
 rcases h with ⟨hq,q⟩|⟨hq,q⟩
 ·obtain⟨its,r',pl,hz⟩:=I.list hq
  have hlen:=r'.length;refine call_tuple_list pl.isList (fun h' kp=>?_) (by simp only[q17]<;>omega)
  have I1:b9 X pq σ H { s with heap:=h' }:=I.kept (t':=s.toks) kp
  have I2:b9 X pq σ (gL H h'.objs.size (.tup ys)) { s with heap:=h'.push { cls:=.type "tuple",data:=.seq its.toArray } }:=
   I1.laid (t':=s.toks) (fun b o e=>q13 _ e) (q11 _) (show lq X.prog X.w _ _ _ (.tup ys) from⟨hz,its,r',IsTup.new _ _⟩)
  exact⟨.ref h'.objs.size,_,I2,rfl,q _ (I1.hok.fresh (q11 _))⟩
 ·obtain⟨its,r',pl,hz⟩:=I.tuple hq
  exact call_tuple_same pl ⟨.ref p,H,I,rfl,q⟩
def SF (K:q04) (T:String) (x:V) (H:Hp):Prop:=match x with
 | .str _=>T="str"
 | .int _=>T="int"
 | .ref p=>(T="list"∧∃ xs,oU K H p xs)∨(T="tuple"∧∃ o,K.lookup p=some o∧o.cls=.type "tuple"∧o.dict=none)∨
   (T="dict"∧((∃ kvs,H p=some (.dK kvs))∨∃ kvs,H p=some (.dT kvs)))∨(T="set"∧∃ S n,H p=some (.set S n))
 | _=>False
theorem HP {pq:List (Addr×Obj)} {σ:St} {H:Hp} {s:Shared} {T:String} {x:V} {v:Value} (I:b9 X pq σ H s) (r:eU x v) (ty:SF X.K T x H) :
  s.TypeIs v T∧∀ a,v=.ref a→∃ ob,s.heap.get? a=some ob∧ob.dict=none:=by
 cases x with
 | str z=>
  obtain⟨t,rfl⟩:=r;cases (show T="str" from ty);exact⟨typeIs_str s z t,fun _ e=>nomatch e⟩
 | int i=>
  obtain⟨t,rfl⟩:=r;cases (show T="int" from ty);exact⟨typeIs_int s i t,fun _ e=>nomatch e⟩
 | ref p=>
  cases r
  rcases ty with ⟨rfl,xs,hq⟩|⟨rfl,o,hk,hc,hd⟩|⟨rfl,hk⟩|⟨rfl,S,n,hk⟩
  ·obtain⟨its,_,pl,_⟩:=I.list hq
   refine⟨pl.isList.typeIs,fun a e=>?_⟩;cases e;obtain⟨o,n,e,c,hd,_⟩:=pl;exact⟨o,e,hd⟩
  ·refine⟨⟨o,I.kIn p o hk,hc⟩,fun a e=>?_⟩
   cases e;exact⟨o,I.kIn _ o hk,hd⟩
  ·have z:∃ o,s.heap.get? p=some o∧o.ExactDict:=by
    rcases hk with ⟨kvs,hk⟩|⟨kvs,hk⟩
    ·obtain⟨_,_,_,_,o,_,_,e,ex,_⟩:=I.hok p _ hk
     exact⟨o,e,ex⟩
    ·obtain⟨_,_,_,_,o,_,_,e,ex,_⟩:=I.hok p _ hk
     exact⟨o,e,ex⟩
   obtain⟨o,e,ex⟩:=z;refine⟨⟨o,e,ex.1⟩,fun a e2=>?_⟩;cases e2;exact⟨o,e,ex.2.1⟩
  ·obtain⟨o,_,_,_,e,ex,_⟩:=I.hok p _ hk
   refine⟨⟨o,e,ex.1⟩,fun a e2=>?_⟩;cases e2;exact⟨o,e,ex.2.1⟩
 | _=>exact False.elim ty
def tBM (K:q04) (T:String) (r:V→List V→Hp→VK→Prop) (to:TE) (t:TA):TE:=fun σ H Q=>to σ H fun x H1=>SF K T x H1∧t σ H1 fun xs H2=>r x xs H2 Q
variable {o e:Expr} {es:List Expr} {to:TE} {t:TA} {name:Str} {apos cpos:Pos} {T id:String} {r:V→List V→Hp→VK→Prop}
theorem LC (pa:PlainAttrs T) (slot:Slot T name id) (hty:typeOf (.builtin id)=pure (.type "method_descriptor")) (hm:Ds X id r) (ho:PE X o to) (ha:PA X (e::es) t)
  (hbase:attributeBase o name X.env (eval o X.env)=eval o X.env:=by rfl)
  (hfew:((backTo cpos (starEach (e::es) X.env)).all (fun x=>!x.1)&&(backToKw cpos (keywordEach [] X.env)).all (fun x=>x.1.isSome)
   && decide ((e::es).length+([]:List Keyword).length+(if ([]:List Keyword).isEmpty then 0 else 1)<30))=true:=by rfl)
  (hline:(apos.endLine==cpos.line)=true:=by rfl) (hs:starEach (e::es) X.env=(false,eval e X.env)::starEach es X.env:=by rfl) (hplain:(backTo cpos (starEach es X.env)).any (·.1)=false:=by rfl) :
  PE X (.Call (.Attribute o name apos) (e::es) [] cpos) (tBM X.K T r to t):=by
 intro pq s σ H Q I h;refine wpAny_Call_method_late hbase hfew hline rfl (iP (ho pq s σ H _ I h) fun v s1 ⟨x,H1,I1,r1,ty,q1⟩=>?_);obtain⟨h1,h2⟩:=HP I1 r1 ty;refine⟨T,id,pa,slot,hty,h1,h2,?_⟩;have hA:=ha cpos pq s1 σ H1 _ I1 q1;rw[hs] at hA⊢;refine Calls.callWith_builtin (by show(false||(backTo cpos (starEach es X.env)).any (·.1))=false; rw[hplain]<;>rfl) (Calls.evalArgs_plain ?_)
 exact iP hA fun us s2 ⟨vs,H2,I2,r2,q2⟩=>hm pq s2 σ H2 x vs v us Q I2 r1 r2 q2
end
def MtM (X:Cx) (id:String) (r:V→List V→Hp→VK→Prop):Prop:=
 ∀ (pq:List (Addr×Obj)) (s:Shared) (σ:St) (H:Hp) (x:V) (xs:List V) (v:Value) (us:List Value) (Q:VK),b9 X pq σ H s→eU x v→dm xs us→r x xs H Q→
  wpAny (model X.prog X.w) X.A (call (.builtin id) (v::us)) (EP X pq σ Q) X.xe s
theorem dm.one:∀ {x:V} {us:List Value},dm [x] us→∃ u,us=[u]∧eU x u
 | _,_,.cons r .nil=>⟨_,rfl,r⟩
section
variable {X:Cx} {pq:List (Addr×Obj)} {σ:St} {H:Hp} {s:Shared} {l b:Addr} {xs ys zs:List V}
theorem b9.lset {its its':List Value} {n:Nat} {f:Array Value→Array Value} {t':Nat} (I:b9 X pq σ H s) (hH:H l=some (.lst xs))
  (e:s.heap.get? l=some { cls:=.type "list",data:=.seq its.toArray n }) (hf:f its.toArray=its'.toArray) (hv:dm ys its') (hz:ys.length≤sizeLine) :
  b9 X pq σ (gL H l (.lst ys)) { s with heap:=s.heap.update l (Obj.mapSeq f),toks:=t' }:=by
 have q:=PySem.IsL.update e f;rw[hf] at q;refine I.write (x:=l) (e:=l) (by rw[hH]; exact trivial) (.inl rfl) (fun b' u hb hu=>(Heap.get?_update_other s.heap (Obj.mapSeq f) (q56 hb)).trans hu) ⟨_,q⟩ ?_;exact⟨hz,its',_,hv,q⟩
theorem b9.lnew {its:List Value} {t':Nat} (I:b9 X pq σ H s) (hv:dm ys its) (hz:ys.length≤sizeLine) :
  b9 X pq σ (gL H s.heap.objs.size (.lst ys)) { s with heap:=s.heap.push { cls:=.type "list",data:=.seq its.toArray },toks:=t' }:=
 I.laid (fun _ _ q=>q13 _ q) (q11 _) ⟨hz,its,0,hv,q35 _ rfl⟩
theorem b9.fresh (I:b9 X pq σ H s):H s.heap.objs.size=none:=I.hok.fresh (q11 _)
theorem b9.lstM (I:b9 X pq σ H s) (hH:H l=some (.lst xs)):xs.length≤sizeLine∧∃ (its:List Value) (n:Nat),dm xs its∧xs.length=its.length∧s.heap.get? l=some { cls:=.type "list",data:=.seq its.toArray n }:=by
 obtain⟨z,its,n,r,e⟩:=I.hok l _ hH;exact⟨z,its,n,r,r.length,e⟩
end
section
variable {X:Cx}
def DL:V→List V→Hp→VK→Prop:=fun x vs H Q=>∃ l xs y,x=.ref l∧vs=[y]∧H l=some (.lst xs)∧xs.length<sizeLine∧Q .non (gL H l (.lst (xs++[y])))
theorem uq:MtM X "list.append" DL:=by
 intro pq s σ H x vs v us Q I rx rv h;obtain⟨l,xs,y,rfl,rfl,hH,hz,q⟩:=h;cases rx;obtain⟨u,rfl,ru⟩:=rv.one;obtain⟨z,its,n,r,hl,e⟩:=I.lstM hH;refine call_meets F.slot_list_append ⟨_,e,rfl⟩ F.entry_list_append (F.args_list_append_2 _ _) (PySem.list_append l its.toArray n u (by rw[q17]; omega)) ⟨e,?_⟩;refine⟨.non,_,I.lset (its':=its++[u]) hH e (by simp) (r.append (.cons ru .nil)) ?_,rfl,q⟩;rw[q02,q97];omega
end
section
variable {prog:Program} {w:World} {A:Around} {E:Value→Shared→Prop} {s:Shared}
set_option maxRecDepth 100000 in
end
section
variable {X:Cx}
end
end L2
namespace Att
open PySem PySem.W PySem.Calls PyProof.Rows
theorem rF {P:Params} {h:Heap}:∀ (ns:List Int) (vs:List Value),WellAll P h vs (ns.map WData.int)→IntsAre vs ns:=by
 intro ns
 induction ns with
 | nil=>
  intro vs w;rw[List.map_nil] at w;cases w;exact .nil
 | cons n ns ih=>
  intro vs w;rw[q42] at w
  cases w with
  | cons a b=>
   cases a;exact .cons _ _ (ih _ b)
theorem zL {l:OpenLaw} {n:Nat} (hn:l.most=some n) {P:Params} {h:Heap} {args:List WData} {vals:List Value}
  (hpre:l.row.toRowW.claim.pre args=true) (hwl:WellAll P h vals args) :
  ∃ a vs ns,vals=[Value.ref a]∧args=[WData.list (ns.map WData.int)]∧h.get? a=some { cls:=.type "list",data:=.seq vs.toArray }∧IntsAre vs ns∧ns.length≤n:=by
 have hsh:WShape.hasAll [] args [.list .int]=true:=(pre_splitW hpre).1
 have hc:l.pre.holds [] { args:=args }=true:=(pre_splitW hpre).2
 obtain⟨d,r,rfl,h1,h2⟩:=hasAllW_cons hsh;obtain rfl:=hasAllW_nil h2;obtain⟨xs,rfl,h3⟩:=hasW_list h1;obtain⟨ns,rfl⟩:=items_int h3
 have hlen:ns.length≤n:=by
  unfold OpenLaw.pre at hc
  have h4:(WTm.not (.lt (.lit (.int (n:Int))) (.len (.arg 0)))).holds [] { args:=[.list (ns.map .int)] }=true:=by
   have h4:=(holds_andW hc).1;rw[hn] at h4;exact h4
  have h5:=condW_of h4 (w_not (w_lt w_lit (w_len_list (w_arg rfl))));rw[q21] at h5
  refine Nat.le_of_not_lt fun q=>?_
  have q':(n:Int)<((ns.length:Nat):Int):=by omega
  first
   | (rw[decide_eq_true q'] at h5; exact absurd h5 (by decide))
   | (simp at h5; omega)
 cases hwl with
 | cons w1 w2=>
  cases w2
  cases w1 with
  | list ho hall=>exact⟨_,_,ns,rfl,rfl,ho,rF ns _ hall,hlen⟩
theorem zD (l:OpenLaw) (args:List WData):l.row.toRowW.claim.post args (.bool true) args=true:=
 postW_of (r:=l.row.toRowW) (X:=(true==true))
  (show WShape.has [] (.bool true) .bool=true by first|rfl|decide|simp[WShape.has,WShape.arms,WShape.armsAll])
  (show(WTm.eq .res (.lit (.bool true))).value [] { args:=args,res:=some (.bool true),after:=args }=some (.bool (true==true)) from w_eq_bool (w_res rfl) w_lit) rfl
theorem attach_call {l:OpenLaw} {n:Nat} {q:Program} {loose:List Str} {XP:(Str→Option Value)→Heap→Prop} {YP:World→Heap→Prop} {d:DefRec}
  (hn:l.most=some n) (hdf:d.params.defaults=[])
  (call:∀ (w:World) (s₀ s₁:Shared) (mg mb:Str→Option Value) (fa:Addr) (o:Obj) (pm cd doc:Value) (a:Addr) (vs:List Value) (ns:List Int),
   Ground q loose [] XP w s₀ mg mb s₁.heap→YP w s₁.heap→
   s₁.heap.get? fa=some o→o.data=.func (docDef d.name d.params d.body d.scope pm cd doc)→s₁.heap.CodeRec cd d.name→mg d.name=some (.ref fa)→
   s₁.heap.get? a=some { cls:=.type "list",data:=.seq vs.toArray }→IntsAre vs ns→ns.length≤n→s₁.gens=#[]→
   codeAny (model l.prog w) callerA (.call (.ref fa) ⟨[.ref a],[]⟩) (fun r s'=>r=.ok (.ret (.bool true))∧OldK s₁.heap s'.heap∧s'.os=s₁.os∧AllBare s'.gens) s₁) :
  WalkO q loose XP YP l.row.toRowW d [] (fun f vs=>PySem.call f vs):=by
 intro w s₀ s₁ mg mb G Y fa o pm cd doc dV kV ho hd hcd hD hmg hg args vals as hpre hlay hrd hwl hlo;obtain rfl:dV=.none:=Dflts.none hD hdf;obtain rfl:kV=.none:=Dflts.noKw hD;obtain⟨a,vs,ns,rfl,rfl,hobj,hints,hlen⟩:=zL hn hpre hwl;refine enter_call (codeAny_mono (call w s₀ s₁ mg mb fa o pm cd doc a vs ns G Y ho (fd_plain hd) hcd hmg hobj hints hlen hg) fun r s' hq=>?_);obtain⟨rfl,h2,h3,h4⟩:=hq;exact⟨.inl ⟨.bool true,.bool true,[],rfl,fun _=>rfl,.bool true,zD l _,fun _=>⟨List.Pairwise.nil,fun _ hm=>(nomatch hm)⟩⟩,h2,h3,h4⟩
section
variable {prog:Program} {w:World} {A:Around} {E:Value→Shared→Prop} {s:Shared} {K:Frag}
def OB (h:Heap) (L d:Addr):List (Addr×Obj):=(List.range h.objs.size).filterMap fun a=>if a=L∨a=d then none else (h.get? a).map fun o=>(a,o)
end
end Att
namespace L2
theorem uF:∀ {vs:List Value} {ns:List Int},IntsAre vs ns→dm (ns.map V.int) vs
 | _,_,.nil=>.nil
 | _,_,.cons n t h=>.cons ⟨t,rfl⟩ (uF h)
def Bl (H:Hp):Prop:=∀ b,H b=none∨∃ o xs,H b=some (.frz o (.lst xs))
theorem Cs {P:Program} {w:World} {K:q04} {mg mb:Str→Option Value} {CX:Ad} {k:Nat} {fa a:Addr} {fd:FuncData} {x:Str} {sp:Sp} {s₁:Shared} {vs:List Value} {ns:List Int}
  (KX:K.In s₁.heap) (hns:s₁.heap.Ns mainGlobals mg) (hb:s₁.heap.Ns builtinsNs mb) (hbb:∀ x:Str,x≠"__name__"→mb x=bootBuiltins x) (hlim:s₁.heap.NoLimit) (hg:s₁.gens=#[])
  (ha:s₁.heap.get? a=some { cls:=.type "list",data:=.seq vs.toArray }) (hi:IntsAre vs ns) (hl:ns.length≤sizeLine) (hr:iZ k callerA)
  (F:∀ base:Heap,K.In base→base.Ns mainGlobals mg→oa P w K mg base CX k fa fd [x] sp) (hbind:∀ (s:Shared) (u:Value),BindsTo s fd ⟨[u],[]⟩ [(x,u)])
  (hsp:∀ H:Hp,Bl H→oU K H a (ns.map V.int)→sp [.ref a] H (fun v _=>v=.bl true) fun _ _ _=>False)
  (hCX:∀ H e s',CX [] H s₁ (fun _ _ _=>False) e s'→False) :
  codeAny (model P w) callerA (.call (.ref fa) ⟨[.ref a],[]⟩) (fun r s'=>r=.ok (.ret (.bool true))∧OldK s₁.heap s'.heap∧s'.os=s₁.os∧AllBare s'.gens) s₁:=by
 have rv:=uF hi;have lenV:=hi.length;have core:∀ H:Hp,Bl H→oU K H a (ns.map V.int)→rV P w H s₁.heap→(∀ b,H b≠none→b=a)→(H a≠none→K.lookup a=none)→
   codeAny (model P w) callerA (.call (.ref fa) ⟨[.ref a],[]⟩) (fun r s'=>r=.ok (.ret (.bool true))∧OldK s₁.heap s'.heap∧s'.os=s₁.os∧AllBare s'.gens) s₁:=by
  intro H hO hS hok hA hK
  have base_of:∀ {b:Addr} {o:Obj},s₁.heap.get? b=some o→H b=none→(u7 s₁.heap H).get? b=some o:=fun e n=>Cz e n
  have noA:∀ {b:Addr} {o:Obj} {es:Array DictEntry} {ep:Nat},s₁.heap.get? b=some o→o.data=.dict es ep→H b=none:=fun {b o es ep} e d=>by
   cases q:H b with
   | none=>rfl
   | some u=>
    have e':b=a:=hA b (by rw[q]; simp);subst e'
    rw[ha] at e; cases e
    have d':Data.seq vs.toArray _=Data.dict es ep:=d;cases d'
  have nsK:∀ {b:Addr} {m:Str→Option Value},s₁.heap.Ns b m→(u7 s₁.heap H).Ns b m:=fun {b m} ⟨o,es,ep,e,d,r⟩=>⟨o,es,ep,base_of e (noA e d),d,r⟩
  have hKb:K.In (u7 s₁.heap H):=fun b o e=>base_of (KX b o e) (by
   cases q:H b with
   | none=>rfl
   | some u=>
    have e':b=a:=hA b (by rw[q]; simp);subst e'
    rw[hK (by rw[q]; simp)] at e; cases e)
  have hM:Mod K mg (u7 s₁.heap H):=⟨hKb,nsK hns,⟨mb,nsK hb,hbb⟩,let ⟨mc,h1,h2⟩:=hlim; ⟨mc,nsK h1,h2⟩⟩;have e0:yh P w K mg (u7 s₁.heap H) callerA [] s₁ H:=⟨rfl,hM,fun b o e=>DS e,Nat.le_of_eq (zH _ _),trivial,fun b hb=>absurd (show b∈([]:List Addr) from hb) (by simp),hok,.of_eq hg⟩
  refine codeAny_mono ((F _ hKb (nsK hns)).run callerA [] s₁ H ⟨[.ref a],[]⟩ [.ref a] [.ref a] _ _ hr e0 (hbind s₁ (.ref a)) (.cons rfl .nil) (hsp H hO hS)) fun r s' h=>?_
  cases r with
  | error e=>exact(hCX H e s' h).elim
  | ok fl=>
   cases fl with
   | next=>exact False.elim h
   | brk=>exact False.elim h
   | cont=>exact False.elim h
   | ret u=>
    obtain⟨v,H',os,bare,un,hok',r',q⟩:=h;have q':v=.bl true:=q;subst q';obtain rfl:u=Value.bool true:=r';refine⟨rfl,OldK.of_keep fun b o e=>?_,os,bare⟩
    cases q:H b with
    | none=>exact un.keep b o e q (by intro z; exact absurd (show b∈([]:List Addr) from z) (by simp)) (by simp)
    | some u=>
     rcases hO b with z|⟨ob,xs,z⟩
     ·rw[q] at z; cases z
     ·have z2:=un.frzs b ob _ z
      obtain⟨e1,_⟩:=hok b _ z;obtain⟨e2,_⟩:=hok' b _ z2
      rw[e] at e1; cases e1
      exact e2
 cases hk:K.lookup a with
 | some o=>
  have e:=KX a o hk;rw[ha] at e;cases e
  refine core (fun _=>none) (fun _=>.inl rfl) (.inr ⟨_,vs.toArray,_,hk,rfl,rfl,rfl,by rw[q17,lenV]; exact hl,by simpa using rv⟩) (fun b u z=>by have z':(none:Option HO)=some u:=z; cases z') (fun b z=>absurd rfl z) fun z=>absurd rfl z
 | none=>
  refine core (fun b=>if b=a then some (.frz { cls:=.type "list",data:=.seq vs.toArray } (.lst (ns.map V.int))) else none) (fun b=>?_) (.inl (.inr ⟨{ cls:=.type "list",data:=.seq vs.toArray },if_pos rfl⟩)) (fun b u z=>?_) (fun b z=>?_) fun _=>hk
  ·by_cases hb:b=a
   ·exact .inr ⟨_,_,if_pos hb⟩
   ·exact .inl (if_neg hb)
  ·by_cases hb:b=a
   ·have z':=(if_pos hb).symm.trans z
    cases z';subst hb;exact⟨ha,by rw[q21]; exact hl,vs,_,rv,ha⟩
   ·have z':=(if_neg hb).symm.trans z
    cases z'
  ·by_cases hb:b=a
   ·exact hb
   ·exact absurd (if_neg hb) z
abbrev Nf {K:q04} {h:Heap} (_:K.In h):q04:=K
theorem yy {l:PySem.W.OpenLaw} {n k:Nat} {q:Program} {loose:List Str} {XP:(Str→Option Value)→Heap→Prop} {YP:World→Heap→Prop} {d:DefRec} {K:Params→q04} {CX:World→Ad} {sp:World→Sp} {x:Str}
  (hn:l.most=some n) (hn2:n≤sizeLine) (hdf:d.params.defaults=[]) (hr:iZ k callerA)
  (hY:∀ (w:World) (h:Heap),YP w h→(K w.params).In h)
  (F:∀ (w:World) (mg:Str→Option Value) (fa:Addr) (h:Heap),(K w.params).In h→h.Ns mainGlobals mg→mg d.name=some (.ref fa)→
   ∃ fd:FuncData,(∀ (s:Shared) (u:Value),BindsTo s fd ⟨[u],[]⟩ [(x,u)])∧
    ∀ base:Heap,(K w.params).In base→base.Ns mainGlobals mg→oa l.prog w (K w.params) mg base (CX w) k fa fd [x] (sp w))
  (hsp:∀ (w:World) (H:Hp) (a:Addr) (ns:List Int),ns.length≤n→Bl H→oU (K w.params) H a (ns.map V.int)→sp w [.ref a] H (fun v _=>v=.bl true) fun _ _ _=>False)
  (hCX:∀ (w:World) (H:Hp) (s:Shared) (e:Value) (s':Shared),CX w [] H s (fun _ _ _=>False) e s'→False) :
  PySem.W.WalkO q loose XP YP l.row.toRowW d [] (fun f vs=>PySem.call f vs):=by
 refine Att.attach_call hn hdf fun w s₀ s₁ mg mb fa o pm cd doc a vs ns G Y ho hd hcd hmg hobj hints hlen hg=>?_
 have KX:=hY w _ Y;obtain⟨fd,hb,hF⟩:=F w mg fa _ KX G.T.g hmg
 exact Cs KX G.T.g G.T.b G.T.builtins G.T.nolimit hg hobj hints (q57 hlen hn2) hr hF hb (fun H hO hS=>hsp w H a ns hlen hO hS) fun H e s'=>hCX w H s₁ e s'
theorem Bn {l:PySem.W.OpenLaw} {n k:Nat} {q:Program} {loose:List Str} {XP:(Str→Option Value)→Heap→Prop} {YP:World→Heap→Prop} {d:DefRec} {K:Params→q04} {CX:Ad} {sp:q04→Sp} {x:Str}
  (hn:l.most=some n) (hn2:n≤sizeLine) (hdf:d.params.defaults=[]) (hr:iZ k callerA)
  (hY:∀ (w:World) (h:Heap),YP w h→(K w.params).In h)
  (F:∀ (w:World) (mg:Str→Option Value) (fa:Addr) (h:Heap),(K w.params).In h→h.Ns mainGlobals mg→mg d.name=some (.ref fa)→
   ∃ fd:FuncData,(∀ (s:Shared) (u:Value),BindsTo s fd ⟨[u],[]⟩ [(x,u)])∧
    ∀ base:Heap,(K w.params).In base→base.Ns mainGlobals mg→oa l.prog w (K w.params) mg base CX k fa fd [x] (sp (K w.params)))
  (hsp:∀ (K:q04) (H:Hp) (a:Addr) (ns:List Int),ns.length≤n→Bl H→oU K H a (ns.map V.int)→sp K [.ref a] H (fun v _=>v=.bl true) fun _ _ _=>False)
  (hCX:∀ (H:Hp) (s:Shared) (e:Value) (s':Shared),CX [] H s (fun _ _ _=>False) e s'→False) :
  PySem.W.WalkO q loose XP YP l.row.toRowW d [] (fun f vs=>PySem.call f vs):=
 yy (K:=K) (CX:=fun _=>CX) (sp:=fun w=>sp (K w.params)) hn hn2 hdf hr hY F (fun w H a ns h1 h2 h3=>hsp (K w.params) H a ns h1 h2 h3) fun _ H s e s'=>hCX H s e s'
end L2
namespace L2
def aE (s:Stmt):Arguments:=match s with
 | .FunctionDef _ a _ _ _ _ _ _ _ _=>a
 | _=>{ posonlyargs:=[],args:=[],vararg:=none,kwonlyargs:=[],kw_defaults:=[],kwarg:=none,defaults:=[] }
def aA (s:Stmt):List Stmt:=match s with
 | .FunctionDef _ _ b _ _ _ _ _ _ _=>b
 | _=>[]
def ad (s:Stmt):Scope:=match s with
 | .FunctionDef _ _ _ _ _ _ sc _ _ _=>sc
 | _=>{ kind:=.function,names:=[],isGenerator:=false,isCoroutine:=false }
abbrev Gb:Ad:=fun _ _ _ _ _ _=>False
abbrev E0:XK:=fun _ _ _=>False
theorem uH {X:Cx}:qz Gb X E0:=fun _ _ _ _ _ _ _ h=>h.elim
structure Fun (K:q04) (x qual:Str) (st:Stmt) (f:Addr) (fd:FuncData):Prop where
 ex:∃ (oc:Value) (od:Option Addr) (kV doc pm:Value) (an:Option Addr) (cdv ct:Value) (osl:Array (Option Value)),
  fd=q05 x qual (aE st) (aA st) (ad st) .none kV doc pm an cdv ct∧K.lookup f=some ⟨oc,od,.func fd,osl⟩∧q03 K cdv qual=true
 kp:q01 K (.ref f)=true
section
variable {P:Program} {w:World} {K:q04} {mg:Str→Option Value} {base:Heap}
end
section
variable {X:Cx}
end
theorem vS {A B:Prop} (h:B):if false=true then A else B:=by
 rw[if_neg q18];exact h
theorem wl {A B:Prop} (h:A):if true=true then A else B:=by
 rw[if_pos rfl];exact h
end L2
set_option maxHeartbeats 4000000
namespace L2
def Its (x:Str):It:=⟨fun i _=>i<x.cps.size,fun i H v H'=>H'=H∧∀ c,x.cps[i]?=some c→v=.str ⟨#[c]⟩,fun i _=>x.cps.size≤i⟩
theorem B4 {M:Model} {A:Around} {E:Value→Shared→Prop} {s:Shared} {tg:Expr} {it:Addr} {y:Str} {t:Tok} {Q:Unit→Shared→Prop} (hQ:Q () s):wpAny M A (letOwnedTupleGo tg (.ref it) (.str y t)) Q E s:=by
 unfold letOwnedTupleGo
 cases tg<;>exact wpAny_pure hQ
theorem w4 {P:Program} {w:World} {K:q04} {tg:Expr} (it:Addr) (x:Str) (t:Tok) :
  Cl P w K tg (Its x) [it] it (fun i h=>h.IsStrIter it "str_ascii_iterator" x t i∨h.IsStrIter it "str_iterator" x t i) where
 mem:=by simp
 obj:=fun i h st b hb=>by
  have e:b=it:=by simpa using hb
  subst e
  rcases st with ⟨o,e,c,d⟩|⟨o,e,c,d⟩
  ·exact⟨o,e,fun v z=>by rw[d] at z; cases z⟩
  ·exact⟨o,e,fun v z=>by rw[d] at z; cases z⟩
 keep:=fun i h h' st k=>by
  rcases st with ⟨o,e,r⟩|⟨o,e,r⟩
  ·exact .inl ⟨o,k it (by simp) o e,r⟩
  ·exact .inr ⟨o,k it (by simp) o e,r⟩
 item:=by
  intro X hP hw hK hc i pq s σ H E I hf st hg;subst hP hw hK;have hg':i<x.cps.size:=hg;obtain⟨f0,f1,f2,f3,f4,f5⟩:=hf it (by simp)
  have hx:x.cps[i]?=some x.cps[i]:=by simp[hg']
  rcases st with st|st
  ·refine wpAny_pyNext_ascii_item st hx fun h' st' sb=>?_
   have I1:b9 X pq σ H { s with heap:=h',toks:=s.toks+1 }:=I.turned (fun b o hb e=>(sb.2 b hb).trans e) f0 f1 f3 f4 f5
   exact⟨_,rfl,B4 ⟨.str ⟨#[x.cps[i]]⟩,H,I1,⟨_,rfl⟩,⟨rfl,fun c hc=>by rw[hx] at hc; cases hc; rfl⟩,.inl st',fun b hb=>(hf b hb).1⟩⟩
  ·refine wpAny_pyNext_wide_item st hx fun h' st' sb=>?_
   have I1:b9 X pq σ H { s with heap:=h',toks:=s.toks+1 }:=I.turned (fun b o hb e=>(sb.2 b hb).trans e) f0 f1 f3 f4 f5
   exact⟨_,rfl,B4 ⟨.str ⟨#[x.cps[i]]⟩,H,I1,⟨_,rfl⟩,⟨rfl,fun c hc=>by rw[hx] at hc; cases hc; rfl⟩,.inr st',fun b hb=>(hf b hb).1⟩⟩
 done:=by
  intro X hP hw hK hc i pq s σ H E I hf st hg;subst hP hw hK;have hg':x.cps.size≤i:=hg;obtain⟨f0,f1,f2,f3,f4,f5⟩:=hf it (by simp)
  rcases st with st|st
  ·exact wpAny_pyNext_ascii_end (I.ok.hd hc) st (by simp[hg']) fun h' eb=>⟨rfl,I.turned (t':=s.toks) (fun b o hb e=>eb b o hb e) f0 f1 f3 f4 f5⟩
  ·exact wpAny_pyNext_wide_end (I.ok.hd hc) st (by simp[hg']) fun h' eb=>⟨rfl,I.turned (t':=s.toks) (fun b o hb e=>eb b o hb e) f0 f1 f3 f4 f5⟩
 self:=fun _ _ _ _ _ st h=>by
  rcases st with st|st
  ·exact wpAny_pyIter_striter_ascii st h
  ·exact wpAny_pyIter_striter_wide st h
section
variable {X:Cx} {tg:Expr}
def YE (tl:TE):TI:=fun σ H R=>tl σ H fun x H1=>∃ y,x=.str y∧R (Its y) H1
theorem GA {l:Expr} {tl:TE} (hl:PE X l tl):PI X tg l (YE tl):=by
 intro pq s σ H R I h
 refine iP (hl pq s σ H _ I h) fun v s1 ⟨x,H1,I1,r1,q1⟩=>?_
 obtain⟨y,rfl,q⟩:=q1;obtain⟨t,rfl⟩:=r1
 have fp:∀ b∈[s1.heap.objs.size],pR X pq H1 b:=fun b hb=>by
  have e:b=s1.heap.objs.size:=by simpa using hb
  subst e;exact I1.fpOk (q11 _) (I1.hok.fresh (q11 _))
 cases ha:y.cps.all (·<128)
 ·exact wpAny_pyIter_wide ha ⟨s1.heap.objs.size,[s1.heap.objs.size],_,_,H1,rfl,I1.kept (t':=s1.toks) fun b o e=>q13 _ e,w4 _ y t,.inr ⟨_,q35 _ rfl,rfl,rfl⟩,fp,q⟩
 ·exact wpAny_pyIter_ascii ha ⟨s1.heap.objs.size,[s1.heap.objs.size],_,_,H1,rfl,I1.kept (t':=s1.toks) fun b o e=>q13 _ e,w4 _ y t,.inl ⟨_,q35 _ rfl,rfl,rfl⟩,fp,q⟩
end
end L2
namespace AJ
open PySem PySem.Builtin PySem.Builtin.Str PyProof.Rows
section
variable {prog:Program} {w:World} {A:Around} {E:Value→Shared→Prop} {s:Shared} {I:Addr} {own tur:List Addr} {Gg:Array GenState→Array GenState→Prop} {m:Nat} {Pv:Nat→Value→Prop} {Rv:Nat→Shared→Prop}
end
end AJ
namespace L2
section
variable {X:Cx}
end
def Aw (cells:List (Str×Addr)):List (Str×NameKind)→List (Str×Addr)→List (Str×Addr)
 | [],cs=>cs
 | (n,k)::r,cs=>Aw cells r (if k==.free then (n,(cells.lookup n).getD 0)::cs else cs)
theorem yn (env:Env):∀ (names:List (Str×NameKind)) (cs:List (Str×Addr)),(∀ y∈names,y.2=.free→∃ c,env.cells.lookup y.1=some c)→
  (forIn names cs (fun (x:Str×NameKind) (c:List (Str×Addr))=>(do if x.2==.free then let a ← cellOf env x.1; pure (ForInStep.yield ((x.1,a)::c)) else pure (ForInStep.yield c):Sem (ForInStep (List (Str×Addr))))):Sem (List (Str×Addr)))=pure (Aw env.cells names cs)
 | [],cs,_=>by rw[List.forIn_nil]; rfl
 | (n,k)::r,cs,h=>by
  rw[List.forIn_cons]
  by_cases hk:(k==NameKind.free)=true
  ·obtain⟨c,hc⟩:=h (n,k) q40 (beq_iff_eq.mp hk)
   have e:cellOf env n=pure c:=by
    unfold cellOf;have hc':env.cells.lookup n=some c:=hc;rw[hc']
   simp only[hk,if_true,e,pure_bind];rw[yn env r _ fun y hy=>h y (q19 _ hy)];show _=pure (Aw env.cells r (if (k==NameKind.free)=true then _ else cs));have hc':env.cells.lookup n=some c:=hc;rw[if_pos hk,hc']
   rfl
  ·have hk':(k==NameKind.free)=false:=by simpa using hk
   simp only[hk',q72,if_false,pure_bind];rw[yn env r _ fun y hy=>h y (q19 _ hy)];show _=pure (Aw env.cells r (if (k==NameKind.free)=true then _ else cs));rw[if_neg hk]
theorem xn {scope:Scope} {env:Env} (h:∀ y∈scope.names,y.2=.free→∃ c,env.cells.lookup y.1=some c):closureFor scope env=pure (Aw env.cells scope.names []):=by
 unfold closureFor;have e:=yn env scope.names [] h;simp only[bind_pure];exact e
theorem yR (cells:List (Str×Addr)):∀ (names:List (Str×NameKind)) (cs:List (Str×Addr)) (x:Str) (c:Addr),(∀ y∈names,y.2=.free→∃ c,cells.lookup y.1=some c)→(Aw cells names cs).lookup x=some c→cs.lookup x=some c∨cells.lookup x=some c
 | [],cs,x,c,_,e=>.inl e
 | (n,k)::r,cs,x,c,h,e=>by
  unfold Aw at e
  rcases yR cells r _ x c (fun y hy=>h y (q19 _ hy)) e with q|q
  ·by_cases hk:(k==NameKind.free)=true
   ·rw[if_pos hk] at q
    obtain⟨c',hc⟩:=h (n,k) q40 (beq_iff_eq.mp hk);have hc':cells.lookup n=some c':=hc;rw[q36] at q
    cases hx:x==n with
    | true=>
     rw[hx] at q;have hxn:x=n:=beq_iff_eq.mp hx;subst hxn;rw[hc'] at q;exact .inr (by rw[hc']; exact q)
    | false=>rw[hx] at q; exact .inl q
   ·rw[if_neg hk] at q; exact .inl q
  ·exact .inr q
theorem v8 (cells:List (Str×Addr)):∀ (names:List (Str×NameKind)) (cs:List (Str×Addr)) (x:Str),(∃ c,cs.lookup x=some c)→∃ c,(Aw cells names cs).lookup x=some c
 | [],cs,x,h=>h
 | (n,k)::r,cs,x,⟨c,h⟩=>by
  unfold Aw;refine v8 cells r _ x ?_
  by_cases hk:(k==NameKind.free)=true
  ·rw[if_pos hk,q36]
   cases hx:x==n with
   | true=>exact⟨_,rfl⟩
   | false=>exact⟨c,h⟩
  ·rw[if_neg hk]; exact⟨c,h⟩
theorem vN (cells:List (Str×Addr)):∀ (names:List (Str×NameKind)) (cs:List (Str×Addr)) (x:Str),(x,NameKind.free)∈names→∃ c,(Aw cells names cs).lookup x=some c
 | [],cs,x,h=>by cases h
 | (n,k)::r,cs,x,h=>by
  unfold Aw
  rcases q32.mp h with z|z
  ·obtain⟨rfl,rfl⟩:=Prod.mk.inj z
   refine v8 cells r _ _ ?_;rw[if_pos (by rfl),q36];exact⟨_,by simp; rfl⟩
  ·exact vN cells r _ x z
def ii (X:Cx) (N:List Str) (scope:Scope) (s:Shared) (H:Hp) (fp:List Addr):Cx where
 prog:=X.prog
 w:=X.w
 K:=X.K
 mg:=X.mg
 base:=X.base
 A:=X.A
 N:=N
 s₀:=s
 H₀:=H
 env:=compEnvC scope (Aw X.env.cells scope.names []) s.heap.objs.size X.env
 outer:=X.stack
 stack:=X.stack
 ex:=fp
 calm:=X.calm
 fn:=fun _=>false
 pn:=[]
 xe:=fun _ _=>False
def pk (N:List Str) (sc scope:Scope):List Str→List (Option Nat)→Bool
 | [],[]=>true
 | _::xs,none::cs=>pk N sc scope xs cs
 | x::xs,some i::cs=>(N[i]?==some x)&&(scope.names.lookup x==some .free)&&(sc.names.lookup x==some .cell)&&pk N sc scope xs cs
 | _,_=>false
def vw (σ:St) (caps:List (Option Nat)):St:=caps.map fun o=>match o with
 | some i=>(σ[i]?).getD none
 | none=>none
theorem oY {N:List Str} {sc scope:Scope}:∀ {xs:List Str} {cs:List (Option Nat)},pk N sc scope xs cs=true→xs.length=cs.length∧∀ (j i:Nat) (x:Str),xs[j]?=some x→cs[j]?=some (some i)→N[i]?=some x∧scope.names.lookup x=some .free∧sc.names.lookup x=some .cell
 | [],[],_=>⟨rfl,fun j i x e=>by simp at e⟩
 | x::xs,none::cs,h=>by
  obtain⟨l,a⟩:=oY (xs:=xs) (cs:=cs) h;refine⟨by simp[l],fun j i y e1 e2=>?_⟩
  cases j with
  | zero=>simp at e2
  | succ j=>exact a j i y (by simpa using e1) (by simpa using e2)
 | x::xs,some i0::cs,h=>by
  unfold pk at h;simp only[q08,beq_iff_eq] at h;obtain⟨⟨⟨h1,h2⟩,h3⟩,h4⟩:=h;obtain⟨l,a⟩:=oY (xs:=xs) (cs:=cs) h4;refine⟨by simp[l],fun j i y e1 e2=>?_⟩
  cases j with
  | zero=>
   simp at e1 e2;subst e1 e2;exact⟨h1,h2,h3⟩
  | succ j=>exact a j i y (by simpa using e1) (by simpa using e2)
 | [],_::_,h=>by cases h
 | _::_,[],h=>by cases h
theorem mK {α β:Type} [BEq α] [LawfulBEq α]:∀ {l:List (α×β)} {x:α} {y:β},l.lookup x=some y→(x,y)∈l
 | [],_,_,h=>by cases h
 | (a,b)::r,x,y,h=>by
  rw[q36] at h
  cases hx:x==a with
  | true=>
   rw[hx] at h;cases h;rw[beq_iff_eq.mp hx];exact q40
  | false=>rw[hx] at h; exact q19 _ (mK h)
theorem mD (env:Env):∀ (names:List (Str×NameKind)) (x:Str),
  (names.map fun (n,k)=>if (k==NameKind.free&&env.scope.kind==.function&&env.kindOf n==some .cell) then (n,NameKind.cell) else (n,k)).lookup x =
   (names.lookup x).map fun k=>if (k==NameKind.free&&env.scope.kind==.function&&env.kindOf x==some .cell) then NameKind.cell else k
 | [],x=>rfl
 | (n,k)::r,x=>by
  have ih:=mD env r x;rw[q42,q36 (as:=r)];show q28 x ((if (k==NameKind.free&&env.scope.kind==.function&&env.kindOf n==some .cell)=true then (n,NameKind.cell) else (n,k))::_)=_
  cases hx:x==n with
  | true=>
   have e:=beq_iff_eq.mp hx;subst e
   by_cases hc:(k==NameKind.free&&env.scope.kind==.function&&env.kindOf x==some .cell)=true
   ·rw[if_pos hc]
    simp only[q36,beq_self_eq_true,q48];rw[if_pos hc]
   ·rw[if_neg hc]
    simp only[q36,beq_self_eq_true,q48];rw[if_neg hc]
  | false=>
   by_cases hc:(k==NameKind.free&&env.scope.kind==.function&&env.kindOf n==some .cell)=true
   ·rw[if_pos hc]
    simp only[q36,hx];exact ih
   ·rw[if_neg hc]
    simp only[q36,hx];exact ih
theorem CF {σ:St} {caps:List (Option Nat)} {j:Nat} {v:V} (e:(vw σ caps)[j]?=some (some v)):∃ i,caps[j]?=some (some i)∧σ[i]?=some (some v):=by
 unfold vw at e;rw[q33] at e
 cases h:caps[j]? with
 | none=>rw[h] at e; cases e
 | some o=>
  rw[h] at e
  cases o with
  | none=>cases e
  | some i=>
   have e':(σ[i]?).getD none=some v:=q30 e;refine⟨i,rfl,?_⟩
   cases q:σ[i]? with
   | none=>rw[q] at e'; cases e'
   | some w=>rw[q] at e'; exact congrArg some e'
section
variable {X:Cx} {pq:List (Addr×Obj)} {σ:St} {H:Hp} {s:Shared}
theorem Ba {N:List Str} {scope:Scope} {caps:List (Option Nat)} {fp:List Addr} {h1:Heap} {tk:Nat} (I:b9 X pq σ H s) (hk:scope.kind=.function) (hcell:∀ y∈scope.names,y.2≠.cell)
  (hfree:∀ y∈scope.names,y.2=.free→X.env.scope.names.lookup y.1=some .cell∨X.env.scope.names.lookup y.1=some .free) (hcap:pk X.N X.env.scope scope N caps=true)
  (hf:∀ b∈fp,pR X pq H b) (ho:∀ b∈fp,∃ o,s.heap.get? b=some o) (hn:h1.Ns s.heap.objs.size fun _=>none) (kp:∀ b o,s.heap.get? b=some o→h1.get? b=some o) :
  b9 (ii X N scope s H fp) [] (vw σ caps) H { s with heap:=h1,toks:=tk }:=by
 have hfc:∀ y∈scope.names,y.2=.free→∃ c,X.env.cells.lookup y.1=some c:=fun y hy e=>I.ok.has y.1 (hfree y hy e)
 have sub:∀ x c,(Aw X.env.cells scope.names []).lookup x=some c→X.env.cells.lookup x=some c:=fun x c e=>by
  rcases yR X.env.cells scope.names [] x c hfc e with z|z
  ·cases z
  ·exact z
 have fresh:H s.heap.objs.size=none:=I.hok.fresh (q11 _)
 have kind:∀ x,(ii X N scope s H fp).env.kindOf x=some .cell∨(ii X N scope s H fp).env.kindOf x=some .free→scope.names.lookup x=some .free:=fun x h=>by
  have e:(ii X N scope s H fp).env.kindOf x=_:=mD X.env scope.names x;rw[e] at h
  cases q:scope.names.lookup x with
  | none=>rw[q] at h; rcases h with h|h<;>cases h
  | some k=>
   rw[q,q48] at h
   by_cases hc:(k==NameKind.free&&X.env.scope.kind==.function&&X.env.kindOf x==some .cell)=true
   ·have:(k==NameKind.free)=true:=by
     rw[Bool.and_assoc,q08] at hc;exact hc.1
    rw[beq_iff_eq.mp this]
   ·rw[if_neg hc] at h
    rcases h with h|h
    ·exact absurd (q30 h) (hcell _ (mK q))
    ·exact h
 refine⟨⟨I.ok.mod,hk,I.ok.glob,I.ok.blt,q11 _,fun x y c e1 e2=>I.ok.inj x y c (sub x c e1) (sub y c e2),fun x h=>vN X.env.cells scope.names [] x (mK (kind x h)),fun x c h=>(q18 h).elim,I.ok.hd,I.ok.frames,.inl rfl,
   fun b hb=>⟨fun z=>?_,fun x c e=>(hf b hb).2.2.2.2.1 x c (sub x c e)⟩,fun b o e=>I.bs b o e,q57 I.ok.bsz I.sz,fun b o e hb=>?_,fun b hb z=>?_,I.stack,I.stkFree⟩,
  rfl,I.bare,Un.kept kp,⟨_,hn,fun j x v e1 e2 e3=>?_⟩,fun x c e=>?_,fresh,fun x c e=>I.freeC x c (sub x c e),fun p hp=>absurd (show p∈([]:List (Addr×Obj)) from hp) (by simp),I.hok.kept kp,?_⟩
 ·obtain⟨o,e⟩:=ho b hb
  have z':b=s.heap.objs.size:=z;exact absurd (q23 e) (by rw[z']; exact q67 _)
 ·rcases(hf b hb).2.2.2.1 with z|z
  ·exact I.ok.noex b o e z
  ·exact absurd (q29 (q23 e) (q57 I.ok.bsz z)) (q67 _)
 ·rcases q32.mp (I.stkSub b z) with e|e
  ·exact(hf b hb).2.1 e
  ·exact(hf b hb).2.2.1 e
 ·obtain⟨i,e4,e5⟩:=CF e2
  obtain⟨e6,e7,e8⟩:=(oY hcap).2 j i x e1 e4;obtain⟨m,hm,hl⟩:=I.loc;obtain⟨u,r,l⟩:=hl i x v e6 e5 (.inr (.inl e8));obtain⟨c',hc'⟩:=vN X.env.cells scope.names [] x (mK e7);have kx:X.env.kindOf x=some .cell:=e8
  rcases l with ⟨k,_⟩|⟨k,c,e,z⟩
  ·rw[kx] at k; cases k
  ·refine⟨u,r,.inr ⟨.inl ?_,c',hc',?_⟩⟩
   ·have q:(ii X N scope s H fp).env.kindOf x=_:=mD X.env scope.names x
    rw[q,e7,q48,if_pos];rw[kx,I.ok.kind]
    rfl
   ·have q:=sub x c' hc'
    rw[e] at q;cases q;obtain⟨o,ho',hd⟩:=z;exact⟨o,kp _ o ho',hd⟩
 ·obtain⟨v,o,ho',hd⟩:=I.cell x c (sub x c e)
  exact⟨v,o,kp _ o ho',hd⟩
 ·show(vw σ caps).length=N.length
  unfold vw;rw[q21,(oY hcap).1]
def Kb (X:Cx) (ifs:List Expr) (tt:TT):Prop:=∀ (pq:List (Addr×Obj)) (s:Shared) (σ:St) (H:Hp) (Q:Bool→Hp→Prop),b9 X pq σ H s→tt σ H Q→
 wpAny (model X.prog X.w) X.A (forIn ifs true fun c r=>if r=true then do let ok ← isTrue c X.env (eval c X.env); pure (ForInStep.yield ok) else pure (ForInStep.yield r)) (TP X pq σ Q) X.xe s
theorem Dr:Kb X [] (fun _ H Q=>Q true H):=fun pq s σ H Q I q=>wpAny_tests_nil ⟨H,I,q⟩
theorem Ec {c:Expr} {tt:TT} (h:PT X c tt):Kb X [c] tt:=fun pq s σ H Q I q=>wpAny_tests_one (h pq s σ H Q I q)
def EJ (caps:List (Option Nat)) (wi:TI) (g:TG) (tt:TT) (te:TE):TE:=fun σ H Q=>wi σ H fun J H1=>∀ D,H1 D=none→∃ W:Nat→Nat→St→Hp→Prop,(∃ m,W 0 m (vw σ caps) (gL H1 D (.lst [])))∧
 ∀ i m σ H,W i m σ H→(J.stop i H∧Q (.ref D) H)∨(J.go i H∧∃ N:St→Hp→Prop,(∀ σ' H',N σ' H'→∃ m',m'<m∧W (i+1) m' σ' H')∧
  ∀ x H',J.yld i H x H'→g x σ H' fun σ2 H2=>tt σ2 H2 fun b H3=>if b=true then te σ2 H3 fun v H4=>∃ ys,H4 D=some (.lst ys)∧ys.length<sizeLine∧N σ2 (gL H4 D (.lst (ys++[v]))) else N σ2 H3)
theorem xU {α:Type} {M:Model} {A:Around} {t:Sem α} {Q:α→Shared→Prop} {E:Value→Shared→Prop} {s:Shared} (h:wpAny M A t Q (fun _ _=>False) s):wpAny M A t Q E s:=wpAny_mono h (fun _ _ x=>x) fun _ _ f=>f.elim
theorem Ah {Y:Cx} {elt tg iter:Expr} {ifs:List Expr} {scope:Scope} {pos:Pos} {fp:List Addr} {it D:Addr} {tn:Nat→Heap→Prop} {J:It} {g:TG} {tt:TT} {te:TE} {R:Result→Shared→Prop} {Q:VK} (hx:Y.xe=fun _ _=>False) (hc:Y.calm=true)
  (T:Cl Y.prog Y.w Y.K tg J fp it tn) (hg:PG Y tg g) (ht:Kb Y ifs tt) (he:PE Y elt te) {W:Nat→Nat→St→Hp→Prop}
  (turn:∀ i m σ H,W i m σ H→(J.stop i H∧Q (.ref D) H)∨(J.go i H∧∃ N:St→Hp→Prop,(∀ σ' H',N σ' H'→∃ m',m'<m∧W (i+1) m' σ' H')∧
   ∀ x H',J.yld i H x H'→g x σ H' fun σ2 H2=>tt σ2 H2 fun b H3=>if b=true then te σ2 H3 fun v H4=>∃ ys,H4 D=some (.lst ys)∧ys.length<sizeLine∧N σ2 (gL H4 D (.lst (ys++[v]))) else N σ2 H3))
  (hR:∀ σ' H' s',b9 Y [] σ' H' s'→Q (.ref D) H'→R (.ok .next) s') {m0:Nat} {σ0:St} {H0:Hp} {s0:Shared} (w0:W 0 m0 σ0 H0) (I0:b9 Y [] σ0 H0 s0) (st0:tn 0 s0.heap) (f0:∀ b∈fp,pR Y [] H0 b) :
  codeAny (model Y.prog Y.w) Y.A (.compLoop (.ListComp elt [⟨tg,iter,ifs,0⟩] scope pos) 0 (.ref it) (.ref D) Y.env) R s0:=by
 have stat:∀ {H':Hp},(∀ b∈fp,H' b=none)→∀ b∈fp,pR Y [] H' b:=fun hn b hb=>⟨hn b hb,(f0 b hb).2⟩
 refine codeAny_loop rfl (fun n s'=>∃ i σ' H',b9 Y [] σ' H' s'∧tn i s'.heap∧(∀ b∈fp,H' b=none)∧W i n σ' H') (fun n s3 h3=>?_) m0 ⟨0,σ0,H0,I0,st0,fun b hb=>(f0 b hb).1,w0⟩;obtain⟨i,σ3,H3,I3,st3,fr3,w3⟩:=h3;show wpAny _ Y.A ((compTurn (.ListComp elt [⟨tg,iter,ifs,0⟩] scope pos) 0 (.ref it) (.ref D) Y.env).onRaise (fun x=>do noteFrame x Y.env; theTreesLotGoes x)) _ _ s3;refine wpAny_noted (xU ?_);rw[compTurn_list];refine wpAny_bind (wpAny_standAt (wpAny_bind ?_))
 rcases turn i n σ3 H3 w3 with ⟨stop,qn⟩|⟨go,N,hN,step⟩
 ·refine iP (T.done Y rfl rfl rfl hc i [] s3 σ3 H3 _ I3 (stat fr3) st3 stop) fun r s4 ⟨hr,I4⟩=>?_
  subst hr;exact wpAny_pure (hR σ3 H3 s4 I4 qn)
 ·refine iP (T.item Y rfl rfl rfl hc i [] s3 σ3 H3 _ I3 (stat fr3) st3 go) fun r s4 ⟨u,hr,h4⟩=>?_
  subst hr;refine wpAny_bind (iP h4 fun _ s5 ⟨x,H5,I5,r5,y5,st5,fr5⟩=>?_);have I5':=I5.pinned (stat fr5) (T.obj _ _ st5);have a1:=hg _ s5 σ3 H5 x u _ I5' r5 (step x H5 y5);rw[hx] at a1;refine wpAny_bind (iP a1 fun _ s6 ⟨σ6,H6,I6,q6⟩=>?_);have a2:=ht _ s6 σ6 H6 _ I6 q6;rw[hx] at a2;refine wpAny_bind (iP a2 fun ok s7 ⟨H7,I7,q7⟩=>?_)
  have again:∀ {H8:Hp} {s8:Shared},b9 Y ([]++tp fp s5.heap) σ6 H8 s8→N σ6 H8→∃ m,m<n∧∃ i σ' H',b9 Y [] σ' H' s8∧tn i s8.heap∧(∀ b∈fp,H' b=none)∧W i m σ' H':=fun {H8 s8} I8 n8=>by
   obtain⟨m',hm,w8⟩:=hN σ6 H8 n8;refine⟨m',hm,i+1,σ6,H8,I8.unpinned,T.keep _ _ _ st5 fun b hb o e=>(I8.pin (b,o) (q41 _ (q41 _ (mG hb e)))).1,fun b hb=>?_,w8⟩;obtain⟨o,e,d⟩:=T.obj _ _ st5 b hb;exact(I8.pin (b,o) (q41 _ (q41 _ (mG hb e)))).2.1
  cases ok with
  | false=>exact wpAny_pure ⟨rfl,again I7 q7⟩
  | true=>
   have a3:=he _ s7 σ6 H7 _ I7 q7;rw[hx] at a3;refine wpAny_bind (wpAny_bind (iP a3 fun v s8 ⟨z,H8,I8,r8,ys,e8,l8,n8⟩=>?_));have a4:=uq _ s8 σ6 H8 (.ref D) [z] (.ref D) [v] (fun _ H9=>N σ6 H9) I8 rfl (.cons r8 .nil) ⟨D,ys,z,rfl,rfl,e8,l8,n8⟩;rw[hx] at a4;exact wpAny_bind (iP a4 fun _ s9 ⟨_,H9,I9,_,n9⟩=>wpAny_pure (wpAny_pure ⟨rfl,again I9 n9⟩))
theorem Ab {N:List Str} {scope:Scope} {fp:List Addr} {σ':St} {H':Hp} {s':Shared} {h':Heap} (I:b9 X pq σ H s) (hf:∀ b∈fp,pR X pq H b) (J:b9 (ii X N scope s H fp) [] σ' H' s') (sb:Heap.SameBut s.heap.objs.size s'.heap h'):b9 X pq σ H' { s' with heap:=h' }:=by
 have F:pR X pq H' s.heap.objs.size:=I.fpOk (q11 _) J.free
 have I1:b9 X pq σ H' s':=I.call' J.os J.base J.hok J.bare fun b hb=>⟨(hf b hb).2.2.2.1,(hf b hb).2.1,(hf b hb).2.2.2.2.1,(hf b hb).2.2.2.2.2⟩
 exact I1.turned (t':=s'.toks) (fun b o hb e=>(sb.2 b hb).trans e) F.1 F.2.1 F.2.2.2.1 F.2.2.2.2.1 F.2.2.2.2.2
theorem Ed {elt tg iter:Expr} {ifs:List Expr} {scope:Scope} {pos:Pos} {wi:TI} {g:TG} {tt:TT} {te:TE} (N:List Str) (caps:List (Option Nat)) (hc:X.calm=true) (hi:PI X tg iter wi) (hg:∀ s H fp,PG (ii X N scope s H fp) tg g)
  (ht:∀ s H fp,Kb (ii X N scope s H fp) ifs tt) (he:∀ s H fp,PE (ii X N scope s H fp) elt te) (hk:scope.kind=.function) (hcell:∀ y∈scope.names,y.2≠.cell) (hnames:∀ y∈scope.names,y.2=.local→scope.names.lookup y.1=some .local)
  (hfree:∀ y∈scope.names,y.2=.free→X.env.scope.names.lookup y.1=some .cell∨X.env.scope.names.lookup y.1=some .free) (hcap:pk X.N X.env.scope scope N caps=true)
  (hs:∀ x,foldedSetIterable iter X.env x=pure x):PE X (.ListComp elt [⟨tg,iter,ifs,0⟩] scope pos) (EJ caps wi g tt te):=by
 intro pq s σ H Q I h;rw[eval_ListComp];refine wpAny_comprehension_free (use:=none) rfl hs (xn fun y hy e=>I.ok.has y.1 (hfree y hy e)) hk hnames ?_
 refine iP (hi pq s σ H _ I h) fun v s1 h1=>iP h1 fun itv s2 h2=>?_
 obtain⟨it,fp,tn,J,H2,rfl,I2,T,st2,f2,q⟩:=h2;have hD:H2 s2.heap.objs.size=none:=I2.hok.fresh (q11 _);refine wpAny_newObj_type (wpAny_newFunctionEnv hcell (by intro y hy; simp at hy) (fun h1 hns hsb=>?_) hk);obtain⟨W,⟨m0,w0⟩,turn⟩:=q s2.heap.objs.size hD
 have I3:b9 X pq σ (gL H2 s2.heap.objs.size (.lst [])) { s2 with heap:=s2.heap.push { cls:=.type "list",dict:=none,data:=.seq ([]:List Value).toArray } }:=
  I2.laid (t':=s2.toks) (fun b u e=>q13 _ e) (q11 _) ⟨Nat.zero_le _,[],0,.nil,q35 _ rfl⟩
 have lt:∀ b∈fp,∃ o,s2.heap.get? b=some o:=fun b hb=>let ⟨o,e,_⟩:=T.obj _ _ st2 b hb; ⟨o,e⟩
 have f3:∀ b∈fp,pR X pq (gL H2 s2.heap.objs.size (.lst [])) b:=fun b hb=>by
  obtain⟨o,e⟩:=lt b hb;exact⟨by rw[fJ (q50 (q23 e))]; exact(f2 b hb).1,(f2 b hb).2⟩
 have kp:∀ b o,(s2.heap.push { cls:=.type "list",dict:=none,data:=.seq ([]:List Value).toArray }).get? b=some o→h1.get? b=some o:=fun b o e=>
  (hsb.2 b (q50 (q23 e))).trans (q13 _ e)
 have I4:=Ba (N:=N) (h1:=h1) (tk:=s2.toks+([]:List (Str×Value)).length) I3 hk hcell hfree hcap f3 (fun b hb=>let ⟨o,e⟩:=lt b hb; ⟨o,q13 _ e⟩) hns kp
 have st4:tn 0 h1:=T.keep 0 _ _ st2 fun b hb o e=>kp b o (q13 _ e)
 have f4:∀ b∈fp,pR (ii X N scope { s2 with heap:=s2.heap.push { cls:=.type "list",dict:=none,data:=.seq ([]:List Value).toArray } } (gL H2 s2.heap.objs.size (.lst [])) fp) [] (gL H2 s2.heap.objs.size (.lst [])) b:=fun b hb=>
  ⟨(f3 b hb).1,(I4.ok.exf b hb).1,I4.ok.exfs b hb,.inl hb,(I4.ok.exf b hb).2,fun p hp=>absurd (show p∈([]:List (Addr×Obj)) from hp) (by simp)⟩
 have loop:=Ah (elt:=elt) (iter:=iter) (ifs:=ifs) (scope:=scope) (pos:=pos) (R:=compPost (model X.prog X.w) X.A X.xe none (EP X pq σ Q) (.ref s2.heap.objs.size) (s2.heap.push { cls:=.type "list",dict:=none,data:=.seq ([]:List Value).toArray }).objs.size)
  (Y:=ii X N scope { s2 with heap:=s2.heap.push { cls:=.type "list",dict:=none,data:=.seq ([]:List Value).toArray } } (gL H2 s2.heap.objs.size (.lst [])) fp) rfl hc T (hg _ _ _) (ht _ _ _) (he _ _ _) turn (fun σ' H' s' I5 q5=>?_) w0 I4 st4 f4
 ·exact codeAny_compStart_list loop (T.self _ 0 _ _ _ st4 loop)
 ·obtain⟨m,hm,_⟩:=id I5.loc
  exact⟨m,hm,fun h' hs'=>⟨.ref s2.heap.objs.size,H',Ab I3 f3 I5 hs',rfl,q5⟩⟩
end
section
variable {X:Cx} {pq:List (Addr×Obj)} {σ:St} {H:Hp} {s:Shared}
end
end L2
namespace AL
open L2
abbrev St:=L2.St
inductive AV where
 | non
 | bl (b:Bool)
 | int (i:Int)
 | str (x:List Nat)
 | tup (xs:List AV)
 | loc (i:Nat)
def ME:List Str:=(["Mark","Exact","RowEnd","Number","Word","Value","Name","Signs","Closed","FieldRow","Fields","Tally","Body","LengthBody","RestBody","PiecesBody","PartsBody","Frame","LetterInHand","Reader","text","goal","base","most","room","ends","number","mark","closing","is_closing","book","name","head","value","pairs","end","row","empty_row","left","signs","texts","size","piece","trail","deep","tally","parts","part","fields","body","word","frame","kept","letter","taken","taken_in_hand","refused_at","is_finished","Post","Desk","at"]:List String).map Str.ofString
def CU:Nat:=61
def fg (n:Nat):Str:=ME.getD n Str.empty
inductive AO where
 | lst (xs:List AV)
 | fz (xs:List AV)
 | ins (C:Nat) (fs:List (Nat×AV))
abbrev Mu:=List AO
abbrev Em:=List Addr
abbrev Ev:=List (Option AV)
inductive Rs (α:Type) where
 | ok (a:α) (μ:Mu)
 | exc (C:Addr) (fs:List (Str×AV)) (μ:Mu)
 | no
def Rs.bd {α β:Type}:Rs α→(α→Mu→Rs β)→Rs β
 | .ok a μ,k=>k a μ
 | .exc C fs μ,_=>.exc C fs μ
 | .no,_=>.no
@[simp] theorem Rs.bd_ok {α β:Type} (a:α) (μ:Mu) (k:α→Mu→Rs β):(Rs.ok a μ).bd k=k a μ:=(rfl)
@[simp] theorem Rs.bd_no {α β:Type} (k:α→Mu→Rs β):(Rs.no:Rs α).bd k=.no:=(rfl)
@[simp] theorem Rs.bd_exc {α β:Type} (C:Addr) (fs) (μ:Mu) (k:α→Mu→Rs β):(Rs.exc C fs μ:Rs α).bd k=.exc C fs μ:=(rfl)
def cE:Nat:=16777216
theorem kj:cE=sizeLine:=sizeLine_eq.symm
mutual
def Rp (K:q04) (em:Em) (H:Hp):AV→V→Prop
 | .non,v=>v=.non
 | .bl b,v=>v=.bl b
 | .int i,v=>v=.int i
 | .str x,v=>v=.str ⟨x.toArray⟩
 | .loc i,v=>∃ a,em[i]?=some a∧v=.ref a
 | .tup ds,v=>∃ a xs,v=.ref a∧qc K H a xs∧de K em H ds xs
def de (K:q04) (em:Em) (H:Hp):List AV→List V→Prop
 | [],xs=>xs=[]
 | d::ds,xs=>∃ x r,xs=x::r∧Rp K em H d x∧de K em H ds r
end
theorem kU {α:Type} {l l':List α} (p:l<+:l') {i:Nat} {a:α} (e:l[i]?=some a):l'[i]?=some a:=by
 obtain⟨t,rfl⟩:=p;have h:i<l.length:=(q07.mp e).1;rw[q16 h];exact e
def gy (K:q04) (H H':Hp):Prop:=∀ a xs,qc K H a xs→qc K H' a xs
theorem gy.refl {K:q04} {H:Hp}:gy K H H:=fun _ _ h=>h
theorem gy.trans {K:q04} {H H1 H2:Hp} (a:gy K H H1) (b:gy K H1 H2):gy K H H2:=fun c xs h=>b c xs (a c xs h)
section
variable {K:q04} {em em':Em} {H H':Hp}
mutual
theorem Rp.mono' (p:em<+:em') (x:gy K H H'):∀ (d:AV) {v:V},Rp K em H d v→Rp K em' H' d v
 | .non,_,h=>by simp only[Rp] at h⊢; exact h
 | .bl _,_,h=>by simp only[Rp] at h⊢; exact h
 | .int _,_,h=>by simp only[Rp] at h⊢; exact h
 | .str _,_,h=>by simp only[Rp] at h⊢; exact h
 | .loc i,_,h=>by
  simp only[Rp] at h⊢;obtain⟨a,e,q⟩:=h;exact⟨a,kU p e,q⟩
 | .tup ds,_,h=>by
  simp only[Rp] at h⊢;obtain⟨a,xs,q,hq,r⟩:=h;exact⟨a,xs,q,x _ _ hq,de.mono' p x ds r⟩
theorem de.mono' (p:em<+:em') (x:gy K H H'):∀ (ds:List AV) {xs:List V},de K em H ds xs→de K em' H' ds xs
 | [],_,h=>by simp only[de] at h⊢; exact h
 | d::ds,_,h=>by
  simp only[de] at h⊢;obtain⟨y,r,q,h1,h2⟩:=h;exact⟨y,r,q,Rp.mono' p x d h1,de.mono' p x ds h2⟩
end
theorem Rp.mono {d:AV} {v:V} (h:Rp K em H d v) (p:em<+:em') (x:gy K H H'):Rp K em' H' d v:=Rp.mono' p x d h
theorem de.mono {ds:List AV} {xs:List V} (h:de K em H ds xs) (p:em<+:em') (x:gy K H H'):de K em' H' ds xs:=de.mono' p x ds h
theorem de.nil:de K em H [] []:=by simp only[de]
theorem de.cons {d:AV} {ds:List AV} {x:V} {xs:List V} (h:Rp K em H d x) (t:de K em H ds xs):de K em H (d::ds) (x::xs):=by
 simp only[de];exact⟨x,xs,rfl,h,t⟩
theorem de.uncons {d:AV} {ds:List AV} {xs:List V} (h:de K em H (d::ds) xs):∃ x r,xs=x::r∧Rp K em H d x∧de K em H ds r:=by
 simp only[de] at h;exact h
theorem de.unnil {xs:List V} (h:de K em H [] xs):xs=[]:=by
 simp only[de] at h;exact h
theorem de.length:∀ {ds:List AV} {xs:List V},de K em H ds xs→xs.length=ds.length
 | [],_,h=>by rw[h.unnil]; rfl
 | d::ds,_,h=>by
  obtain⟨x,r,rfl,_,t⟩:=h.uncons;simp[t.length]
theorem de.get:∀ {ds:List AV} {xs:List V} {i:Nat} {d:AV},de K em H ds xs→ds[i]?=some d→∃ x,xs[i]?=some x∧Rp K em H d x
 | [],_,_,_,_,e=>by simp at e
 | d::ds,_,0,_,h,e=>by
  obtain⟨x,r,rfl,h1,t⟩:=h.uncons;simp at e;subst e;exact⟨x,rfl,h1⟩
 | d::ds,_,i+1,_,h,e=>by
  obtain⟨x,r,rfl,h1,t⟩:=h.uncons;exact de.get (i:=i) t (by simpa using e)
theorem de.append:∀ {ds es:List AV} {xs ys:List V},de K em H ds xs→de K em H es ys→de K em H (ds++es) (xs++ys)
 | [],_,_,_,h,g=>by
  rw[h.unnil];exact g
 | d::ds,_,_,_,h,g=>by
  obtain⟨x,r,rfl,h1,t⟩:=h.uncons;exact de.cons h1 (de.append t g)
theorem de.take:∀ {ds:List AV} {xs:List V} (n:Nat),de K em H ds xs→de K em H (ds.take n) (xs.take n)
 | _,_,0,_=>by simpa using de.nil
 | [],_,n+1,h=>by
  rw[h.unnil]
  simpa using de.nil
 | d::ds,_,n+1,h=>by
  obtain⟨x,r,rfl,h1,t⟩:=h.uncons
  simpa using de.cons h1 (de.take n t)
theorem de.drop:∀ {ds:List AV} {xs:List V} (n:Nat),de K em H ds xs→de K em H (ds.drop n) (xs.drop n)
 | _,_,0,h=>by simpa using h
 | [],_,n+1,h=>by
  rw[h.unnil]
  simpa using de.nil
 | d::ds,_,n+1,h=>by
  obtain⟨x,r,rfl,h1,t⟩:=h.uncons
  simpa using de.drop n t
theorem de.set {d:AV} {v:V} (hd:Rp K em H d v):∀ {ds:List AV} {xs:List V} (i:Nat),de K em H ds xs→de K em H (ds.set i d) (xs.set i v)
 | [],_,_,h=>by
  rw[h.unnil]
  simpa using de.nil
 | e::ds,_,0,h=>by
  obtain⟨x,r,rfl,h1,t⟩:=h.uncons
  simpa using de.cons hd t
 | e::ds,_,i+1,h=>by
  obtain⟨x,r,rfl,h1,t⟩:=h.uncons
  simpa using de.cons h1 (de.set hd i t)
end
def Jb (K:q04) (H:Hp) (a:Addr) (xs:List V):Prop:=
 (∃ o,H a=some (.frz o (.lst xs)))∨
  ∃ (o:Obj) (its:Array Value) (n:Nat),K.lookup a=some o∧o.cls=.type "list"∧o.dict=none∧o.data=.seq its n∧its.size≤sizeLine∧dm xs its.toList
theorem Jb.sq {K:q04} {H:Hp} {a:Addr} {xs:List V} (h:Jb K H a xs):oU K H a xs:=by
 rcases h with ⟨o,h⟩|h
 ·exact .inl (.inr ⟨o,h⟩)
 ·exact .inr h
def AO.mut:AO→Bool
 | .lst _=>true
 | .fz _=>false
 | .ins _ _=>true
structure Fo (K:q04) (C:Nat) (A:Addr) (fs:List (Nat×AV)):Prop where
 ns:q10 K mainGlobals (fg C)=some (some (.ref A))
 cls:w9 K A
 at_:∀ p∈fs,p.1<CU∧mC K A (fg p.1)
def qK (K:q04) (em:Em) (H:Hp) (a:Addr):AO→Prop
 | .lst ds=>∃ xs,H a=some (.lst xs)∧de K em H ds xs
 | .fz ds=>∃ xs,Jb K H a xs∧de K em H ds xs
 | .ins C fs=>∃ A dx xs,H a=some (.ins A dx xs)∧Fo K C A fs∧xs.map (·.1)=fs.map (fun p=>fg p.1)∧de K em H (fs.map (·.2)) (xs.map (·.2))
structure cS (K:q04) (em:Em) (μ:Mu) (H:Hp):Prop where
 len:em.length=μ.length
 inj:∀ (i j:Nat) (a:Addr) (oi oj:AO),em[i]?=some a→em[j]?=some a→μ[i]?=some oi→μ[j]?=some oj→oi.mut=true→oj.mut=true→i=j
 obj:∀ (i:Nat) (a:Addr) (o:AO),em[i]?=some a→μ[i]?=some o→qK K em H a o
def d7 (K:q04) (em:Em) (H:Hp) (ρ:Ev) (σ:St):Prop:=
 ρ.length=σ.length∧∀ (i:Nat) (d:AV),ρ[i]?=some (some d)→∃ v,σ[i]?=some (some v)∧Rp K em H d v
section
variable {K:q04} {em em':Em} {H H':Hp} {μ:Mu} {ρ:Ev} {σ:St}
theorem d7.mono (h:d7 K em H ρ σ) (p:em<+:em') (x:gy K H H'):d7 K em' H' ρ σ:=
 ⟨h.1,fun i d e=>let ⟨v,e',r⟩:=h.2 i d e; ⟨v,e',r.mono p x⟩⟩
theorem d7.set (h:d7 K em H ρ σ) {d:AV} {v:V} (r:Rp K em H d v) (i:Nat):d7 K em H (ρ.set i (some d)) (σ.set i (some v)):=by
 refine⟨by simp[h.1],fun j e hj=>?_⟩
 by_cases hij:i=j
 ·subst hij
  rw[List.getElem?_set_self'] at hj
  cases hr:ρ[i]? with
  | none=>rw[hr] at hj; simp at hj
  | some o=>
   rw[hr] at hj;simp at hj;subst hj;have hl:i<ρ.length:=(q07.mp hr).1;exact⟨v,by rw[q15 (by rw[← h.1]; exact hl)],r⟩
 ·rw[q12 hij] at hj
  obtain⟨w,e',r'⟩:=h.2 j e hj;exact⟨w,by rw[q12 hij]; exact e',r'⟩
theorem gy.fresh {p:Addr} {o:HO} (h:H p=none):gy K H (gL H p o):=fun a xs q=>by
 rcases q with q|q
 ·have hne:a≠p:=by
   rintro rfl
   rcases q with q|⟨ob,q⟩<;>rw[h] at q<;>cases q
  refine .inl ?_
  rcases q with q|⟨ob,q⟩
  ·exact .inl (by rw[fJ hne]; exact q)
  ·exact .inr ⟨ob,by rw[fJ hne]; exact q⟩
 ·exact .inr q
theorem gy.write {p:Addr} {o:HO} (m:DR (H p)):gy K H (gL H p o):=fun a xs q=>by
 rcases q with q|q
 ·have hne:a≠p:=by
   rintro rfl
   rcases q with q|⟨ob,q⟩<;>rw[q] at m<;>exact m
  refine .inl ?_
  rcases q with q|⟨ob,q⟩
  ·exact .inl (by rw[fJ hne]; exact q)
  ·exact .inr ⟨ob,by rw[fJ hne]; exact q⟩
 ·exact .inr q
theorem qK.other {a p:Addr} {o:AO} {u:HO} (h:qK K em H a o) (pe:em<+:em') (x:gy K H (gL H p u)) (hne:o.mut=true→a≠p) (hf:H p=none∨DR (H p)):qK K em' (gL H p u) a o:=by
 cases o with
 | lst ds=>
  obtain⟨xs,e,r⟩:=h;exact⟨xs,by rw[fJ (hne rfl)]; exact e,r.mono pe x⟩
 | fz ds=>
  obtain⟨xs,e,r⟩:=h;refine⟨xs,?_,r.mono pe x⟩
  rcases e with ⟨ob,e⟩|e
  ·have:a≠p:=by
    rintro rfl
    rcases hf with hf|hf
    ·rw[e] at hf; cases hf
    ·rw[e] at hf; exact hf
   exact .inl ⟨ob,by rw[fJ this]; exact e⟩
  ·exact .inr e
 | ins C fs=>
  obtain⟨A,dx,xs,e,q,k,r⟩:=h;exact⟨A,dx,xs,by rw[fJ (hne rfl)]; exact e,q,k,r.mono pe x⟩
theorem qK.live {a:Addr} {o:AO} (h:qK K em H a o) (m:o.mut=true):H a≠none∧DR (H a):=by
 cases o with
 | lst ds=>obtain⟨xs,e,_⟩:=h; rw[e]; exact⟨by simp,trivial⟩
 | fz ds=>exact absurd (show false=true from m) q18
 | ins C fs=>obtain⟨A,dx,xs,e,_⟩:=h; rw[e]; exact⟨by simp,trivial⟩
theorem cS.newL {p:Addr} {ds:List AV} {xs:List V} (S:cS K em μ H) (h:H p=none) (r:de K em H ds xs) :
  cS K (em++[p]) (μ++[.lst ds]) (gL H p (.lst xs))∧Rp K (em++[p]) (gL H p (.lst xs)) (.loc μ.length) (.ref p):=by
 have pe:em<+:em++[p]:=q53 _ _;have x:gy K H (gL H p (.lst xs)):=gy.fresh h
 have old:∀ (i:Nat) (a:Addr) (o:AO),i<em.length→(em++[p])[i]?=some a→(μ++[AO.lst ds])[i]?=some o→em[i]?=some a∧μ[i]?=some o:=fun i a o hi h1 h2=>by
  rw[q16 hi] at h1;rw[q16 (by rw[← S.len]; exact hi)] at h2;exact⟨h1,h2⟩
 have new:∀ (i:Nat) (a:Addr),¬ i<em.length→(em++[p])[i]?=some a→i=em.length∧a=p:=fun i a hi h1=>by
  rw[q27 (by omega)] at h1
  have h2:i-em.length=0:=by
   rcases Nat.eq_zero_or_pos (i-em.length) with z|z
   ·exact z
   ·rw[q74 (show [p].length≤i-em.length from z)] at h1; cases h1
  rw[h2] at h1;simp at h1;exact⟨by omega,h1.symm⟩
 refine⟨⟨by simp[S.len],fun i j a oi oj h1 h2 h3 h4 m1 m2=>?_,fun i a o h1 h2=>?_⟩,?_⟩
 ·by_cases hi:i<em.length
  ·obtain⟨e1,e3⟩:=old i a oi hi h1 h3
   by_cases hj:j<em.length
   ·obtain⟨e2,e4⟩:=old j a oj hj h2 h4
    exact S.inj i j a oi oj e1 e2 e3 e4 m1 m2
   ·obtain⟨_,rfl⟩:=new j a hj h2
    exact absurd h ((S.obj i _ oi e1 e3).live m1).1
  ·obtain⟨hi',rfl⟩:=new i a hi h1
   by_cases hj:j<em.length
   ·obtain⟨e2,e4⟩:=old j _ oj hj h2 h4
    exact absurd h ((S.obj j _ oj e2 e4).live m2).1
   ·obtain⟨hj',_⟩:=new j _ hj h2
    omega
 ·by_cases hi:i<em.length
  ·obtain⟨e1,e2⟩:=old i a o hi h1 h2
   have q:=S.obj i a o e1 e2;exact q.other pe x (fun m=>by rintro rfl; exact(q.live m).1 h) (.inl h)
  ·obtain⟨hi',rfl⟩:=new i a hi h1
   rw[hi',S.len,q27 (q11 _)] at h2;simp at h2;subst h2;exact⟨xs,j6,r.mono pe x⟩
 ·simp only[Rp]
  exact⟨p,by rw[← S.len]; simp,rfl⟩
theorem cS.newT {p:Addr} {ds:List AV} {xs:List V} (S:cS K em μ H) (h:H p=none) (r:de K em H ds xs) :
  cS K em μ (gL H p (.tup xs))∧Rp K em (gL H p (.tup xs)) (.tup ds) (.ref p):=by
 have x:gy K H (gL H p (.tup xs)):=gy.fresh h;refine⟨⟨S.len,S.inj,fun i a o h1 h2=>?_⟩,?_⟩
 ·have q:=S.obj i a o h1 h2
  exact q.other (q09 _) x (fun m=>by rintro rfl; exact(q.live m).1 h) (.inl h)
 ·simp only[Rp]
  exact⟨p,xs,rfl,qc.of j6,r.mono (q09 _) x⟩
theorem cS.setL {i:Nat} {a:Addr} {ds ds':List AV} {xs':List V} (S:cS K em μ H) (ea:em[i]?=some a) (eo:μ[i]?=some (.lst ds)) (r:de K em H ds' xs') :
  cS K em (μ.set i (.lst ds')) (gL H a (.lst xs'))∧gy K H (gL H a (.lst xs')):=by
 obtain⟨xs,hx,_⟩:=S.obj i a _ ea eo
 have m:DR (H a):=by rw[hx]; trivial
 have x:gy K H (gL H a (.lst xs')):=gy.write m
 have key:∀ (j:Nat) (o:AO),(μ.set i (.lst ds'))[j]?=some o→(j=i∧o=.lst ds')∨(j≠i∧μ[j]?=some o):=fun j o h=>by
  by_cases hj:i=j
  ·subst hj
   rw[q15 (q07.mp eo).1] at h;exact .inl ⟨rfl,(q30 h).symm⟩
  ·rw[q12 hj] at h
   exact .inr ⟨fun z=>hj z.symm,h⟩
 refine⟨⟨by simp[S.len],fun j k b oj ok h1 h2 h3 h4 m1 m2=>?_,fun j b o h1 h2=>?_⟩,x⟩
 ·have old:∀ (j:Nat) (o:AO),(μ.set i (.lst ds'))[j]?=some o→o.mut=true→∃ o',μ[j]?=some o'∧o'.mut=true:=fun j o h mm=>by
   rcases key j o h with ⟨rfl,_⟩|⟨_,h⟩
   ·exact⟨_,eo,rfl⟩
   ·exact⟨o,h,mm⟩
  obtain⟨o1,e1,q1⟩:=old j oj h3 m1;obtain⟨o2,e2,q2⟩:=old k ok h4 m2;exact S.inj j k b o1 o2 h1 h2 e1 e2 q1 q2
 ·rcases key j o h2 with ⟨rfl,rfl⟩|⟨hj,h2⟩
  ·rw[ea] at h1
   cases h1;exact⟨xs',j6,r.mono (q09 _) x⟩
  ·have q:=S.obj j b o h1 h2
   exact q.other (q09 _) x (fun mm=>by
    rintro rfl
    exact hj (S.inj j i _ o _ h1 ea h2 eo mm rfl)) (.inr m)
theorem cS.newO {p:Addr} {o:AO} {u:HO} (S:cS K em μ H) (h:H p=none) (new:qK K (em++[p]) (gL H p u) p o) :
  cS K (em++[p]) (μ++[o]) (gL H p u)∧Rp K (em++[p]) (gL H p u) (.loc μ.length) (.ref p):=by
 have pe:em<+:em++[p]:=q53 _ _;have x:gy K H (gL H p u):=gy.fresh h
 have old:∀ (i:Nat) (a:Addr) (o':AO),i<em.length→(em++[p])[i]?=some a→(μ++[o])[i]?=some o'→em[i]?=some a∧μ[i]?=some o':=fun i a o' hi h1 h2=>by
  rw[q16 hi] at h1;rw[q16 (by rw[← S.len]; exact hi)] at h2;exact⟨h1,h2⟩
 have nw:∀ (i:Nat) (a:Addr),¬ i<em.length→(em++[p])[i]?=some a→i=em.length∧a=p:=fun i a hi h1=>by
  rw[q27 (by omega)] at h1
  have h2:i-em.length=0:=by
   rcases Nat.eq_zero_or_pos (i-em.length) with z|z
   ·exact z
   ·rw[q74 (show [p].length≤i-em.length from z)] at h1; cases h1
  rw[h2] at h1;simp at h1;exact⟨by omega,h1.symm⟩
 refine⟨⟨by simp[S.len],fun i j a oi oj h1 h2 h3 h4 m1 m2=>?_,fun i a o' h1 h2=>?_⟩,?_⟩
 ·by_cases hi:i<em.length
  ·obtain⟨e1,e3⟩:=old i a oi hi h1 h3
   by_cases hj:j<em.length
   ·obtain⟨e2,e4⟩:=old j a oj hj h2 h4
    exact S.inj i j a oi oj e1 e2 e3 e4 m1 m2
   ·obtain⟨_,rfl⟩:=nw j a hj h2
    exact absurd h ((S.obj i _ oi e1 e3).live m1).1
  ·obtain⟨hi',rfl⟩:=nw i a hi h1
   by_cases hj:j<em.length
   ·obtain⟨e2,e4⟩:=old j _ oj hj h2 h4
    exact absurd h ((S.obj j _ oj e2 e4).live m2).1
   ·obtain⟨hj',_⟩:=nw j _ hj h2
    omega
 ·by_cases hi:i<em.length
  ·obtain⟨e1,e2⟩:=old i a o' hi h1 h2
   have q:=S.obj i a o' e1 e2;exact q.other pe x (fun m=>by rintro rfl; exact(q.live m).1 h) (.inl h)
  ·obtain⟨hi',rfl⟩:=nw i a hi h1
   rw[hi',S.len,q27 (q11 _)] at h2;simp at h2;subst h2;exact new
 ·simp only[Rp]
  exact⟨p,by rw[← S.len]; simp,rfl⟩
theorem cS.lay {p:Addr} {u:HO} (S:cS K em μ H) (h:H p=none):cS K em μ (gL H p u):=by
 have x:gy K H (gL H p u):=gy.fresh h;refine⟨S.len,S.inj,fun i a o h1 h2=>?_⟩;have q:=S.obj i a o h1 h2;exact q.other (q09 _) x (fun m=>by rintro rfl; exact(q.live m).1 h) (.inl h)
theorem cS.setO {i:Nat} {a:Addr} {o o':AO} {u:HO} (S:cS K em μ H) (ea:em[i]?=some a) (eo:μ[i]?=some o) (mo:o.mut=true) (new:gy K H (gL H a u)→qK K em (gL H a u) a o') :
  cS K em (μ.set i o') (gL H a u)∧gy K H (gL H a u):=by
 have m:DR (H a):=((S.obj i a _ ea eo).live mo).2;have x:gy K H (gL H a u):=gy.write m
 have key:∀ (j:Nat) (oj:AO),(μ.set i o')[j]?=some oj→(j=i∧oj=o')∨(j≠i∧μ[j]?=some oj):=fun j oj h=>by
  by_cases hj:i=j
  ·subst hj
   rw[q15 (q07.mp eo).1] at h;exact .inl ⟨rfl,(q30 h).symm⟩
  ·rw[q12 hj] at h
   exact .inr ⟨fun z=>hj z.symm,h⟩
 refine⟨⟨by simp[S.len],fun j k b oj ok h1 h2 h3 h4 m1 m2=>?_,fun j b oj h1 h2=>?_⟩,x⟩
 ·have old:∀ (j:Nat) (oj:AO),(μ.set i o')[j]?=some oj→oj.mut=true→∃ ob,μ[j]?=some ob∧ob.mut=true:=fun j oj h mm=>by
   rcases key j oj h with ⟨rfl,_⟩|⟨_,h⟩
   ·exact⟨_,eo,mo⟩
   ·exact⟨oj,h,mm⟩
  obtain⟨o1,e1,q1⟩:=old j oj h3 m1;obtain⟨o2,e2,q2⟩:=old k ok h4 m2;exact S.inj j k b o1 o2 h1 h2 e1 e2 q1 q2
 ·rcases key j oj h2 with ⟨rfl,rfl⟩|⟨hj,h2⟩
  ·rw[ea] at h1
   cases h1;exact new x
  ·have q:=S.obj j b oj h1 h2
   exact q.other (q09 _) x (fun mm=>by
    rintro rfl
    exact hj (S.inj j i _ oj _ h1 ea h2 eo mm mo)) (.inr m)
end
def jb (K:q04) (em:Em) (H:Hp) (r:Rs AV) (Q:VK):Prop:=
 match r with
 | .ok d μ'=>∀ (em':Em) (H':Hp) (v:V),em<+:em'→gy K H H'→cS K em' μ' H'→Rp K em' H' d v→Q v H'
 | _=>False
abbrev FE:=Ev→Mu→Rs AV
def tA (X:Cx) (f:FE):TE:=fun σ H Q=>∃ ρ μ em,d7 X.K em H ρ σ∧cS X.K em μ H∧jb X.K em H (f ρ μ) Q
def AE (X:Cx) (e:Expr) (f:FE):Prop:=PE X e (tA X f)
def t3 (K:q04) (em:Em) (H:Hp) (r:Rs (List AV)) (Q:List V→Hp→Prop):Prop:=
 match r with
 | .ok ds μ'=>∀ (em':Em) (H':Hp) (vs:List V),em<+:em'→gy K H H'→cS K em' μ' H'→de K em' H' ds vs→Q vs H'
 | _=>False
abbrev FL:=Ev→Mu→Rs (List AV)
def HC (X:Cx) (f:FL):TA:=fun σ H Q=>∃ ρ μ em,d7 X.K em H ρ σ∧cS X.K em μ H∧t3 X.K em H (f ρ μ) Q
def AA (X:Cx) (es:List Expr) (f:FL):Prop:=PA X es (HC X f)
def ly (K:q04) (em:Em) (H:Hp) (r:Rs Bool) (Q:Bool→Hp→Prop):Prop:=
 match r with
 | .ok b μ'=>∀ (em':Em) (H':Hp),em<+:em'→gy K H H'→cS K em' μ' H'→Q b H'
 | _=>False
abbrev FB:=Ev→Mu→Rs Bool
def AF (X:Cx) (f:FB):TT:=fun σ H Q=>∃ ρ μ em,d7 X.K em H ρ σ∧cS X.K em μ H∧ly X.K em H (f ρ μ) Q
def AT (X:Cx) (e:Expr) (f:FB):Prop:=PT X e (AF X f)
def AW (X:Cx) (e:Expr) (f:FB):Prop:=PW X e (AF X f)
section
variable {K:q04} {em em1:Em} {H H1:Hp} {μ:Mu} {ρ:Ev} {σ:St} {X:Cx}
theorem jb.mono {r:Rs AV} {Q:VK} (h:jb K em H r Q) (p:em<+:em1) (x:gy K H H1):jb K em1 H1 r Q:=by
 cases r with
 | ok d μ'=>exact fun em' H' v p' x'=>h em' H' v (p.trans p') (x.trans x')
 | exc C fs μ'=>exact h
 | no=>exact h
theorem t3.mono {r:Rs (List AV)} {Q:List V→Hp→Prop} (h:t3 K em H r Q) (p:em<+:em1) (x:gy K H H1):t3 K em1 H1 r Q:=by
 cases r with
 | ok d μ'=>exact fun em' H' v p' x'=>h em' H' v (p.trans p') (x.trans x')
 | exc C fs μ'=>exact h
 | no=>exact h
theorem ly.mono {r:Rs Bool} {Q:Bool→Hp→Prop} (h:ly K em H r Q) (p:em<+:em1) (x:gy K H H1):ly K em1 H1 r Q:=by
 cases r with
 | ok d μ'=>exact fun em' H' p' x'=>h em' H' (p.trans p') (x.trans x')
 | exc C fs μ'=>exact h
 | no=>exact h
structure yE (K:q04) (em:Em) (H:Hp) (ρ:Ev) (σ:St) (em1:Em) (μ1:Mu) (H1:Hp):Prop where
 p:em<+:em1
 x:gy K H H1
 E:d7 K em1 H1 ρ σ
 S:cS K em1 μ1 H1
theorem step {f:FE} {α:Type} {k:AV→Mu→Rs α} {P:Em→Hp→Rs α→Prop} (hP:∀ {em H em1 H1 r},P em H r→em<+:em1→gy X.K H H1→P em1 H1 r)
  (hno:∀ {em H},¬ P em H .no) (hex:∀ {em H C fs μ},¬ P em H (.exc C fs μ))
  (E:d7 X.K em H ρ σ) (S:cS X.K em μ H) (h:P em H ((f ρ μ).bd k)) :
  tA X f σ H fun v H1=>∃ em1 d μ1,yE X.K em H ρ σ em1 μ1 H1∧Rp X.K em1 H1 d v∧P em1 H1 (k d μ1):=by
 refine⟨ρ,μ,em,E,S,?_⟩
 cases e:f ρ μ with
 | ok d μ1=>
  rw[e] at h
  exact fun em1 H1 v p x S1 r=>⟨em1,d,μ1,⟨p,x,E.mono p x,S1⟩,r,hP h p x⟩
 | exc C fs μ1=>rw[e] at h; exact(hex h).elim
 | no=>rw[e] at h; exact(hno h).elim
theorem kl {f:FE} {k:AV→Mu→Rs AV} {Q:VK} (E:d7 X.K em H ρ σ) (S:cS X.K em μ H) (h:jb X.K em H ((f ρ μ).bd k) Q) :
  tA X f σ H fun v H1=>∃ em1 d μ1,yE X.K em H ρ σ em1 μ1 H1∧Rp X.K em1 H1 d v∧jb X.K em1 H1 (k d μ1) Q:=
 step (P:=fun em H r=>jb X.K em H r Q) (fun h p x=>h.mono p x) (fun h=>h) (fun h=>h) E S h
theorem G2 {f:FE} {k:AV→Mu→Rs (List AV)} {Q:List V→Hp→Prop} (E:d7 X.K em H ρ σ) (S:cS X.K em μ H) (h:t3 X.K em H ((f ρ μ).bd k) Q) :
  tA X f σ H fun v H1=>∃ em1 d μ1,yE X.K em H ρ σ em1 μ1 H1∧Rp X.K em1 H1 d v∧t3 X.K em1 H1 (k d μ1) Q:=
 step (P:=fun em H r=>t3 X.K em H r Q) (fun h p x=>h.mono p x) (fun h=>h) (fun h=>h) E S h
theorem HL {f:FE} {k:AV→Mu→Rs Bool} {Q:Bool→Hp→Prop} (E:d7 X.K em H ρ σ) (S:cS X.K em μ H) (h:ly X.K em H ((f ρ μ).bd k) Q) :
  tA X f σ H fun v H1=>∃ em1 d μ1,yE X.K em H ρ σ em1 μ1 H1∧Rp X.K em1 H1 d v∧ly X.K em1 H1 (k d μ1) Q:=
 step (P:=fun em H r=>ly X.K em H r Q) (fun h p x=>h.mono p x) (fun h=>h) (fun h=>h) E S h
theorem pG {f:FL} {k:List AV→Mu→Rs AV} {Q:VK} (E:d7 X.K em H ρ σ) (S:cS X.K em μ H) (h:jb X.K em H ((f ρ μ).bd k) Q) :
  HC X f σ H fun vs H1=>∃ em1 ds μ1,yE X.K em H ρ σ em1 μ1 H1∧de X.K em1 H1 ds vs∧jb X.K em1 H1 (k ds μ1) Q:=by
 refine⟨ρ,μ,em,E,S,?_⟩
 cases e:f ρ μ with
 | ok d μ1=>
  rw[e] at h
  exact fun em1 H1 v p x S1 r=>⟨em1,d,μ1,⟨p,x,E.mono p x,S1⟩,r,h.mono p x⟩
 | exc C fs μ1=>rw[e] at h; exact h.elim
 | no=>rw[e] at h; exact h.elim
theorem bx {α:Type} {f:FB} {k:Bool→Mu→Rs α} {P:Em→Hp→Rs α→Prop} (hP:∀ {em H em1 H1 r},P em H r→em<+:em1→gy X.K H H1→P em1 H1 r)
  (hno:∀ {em H},¬ P em H .no) (hex:∀ {em H C fs μ},¬ P em H (.exc C fs μ))
  (E:d7 X.K em H ρ σ) (S:cS X.K em μ H) (h:P em H ((f ρ μ).bd k)) :
  AF X f σ H fun b H1=>∃ em1 μ1,yE X.K em H ρ σ em1 μ1 H1∧P em1 H1 (k b μ1):=by
 refine⟨ρ,μ,em,E,S,?_⟩
 cases e:f ρ μ with
 | ok d μ1=>
  rw[e] at h
  exact fun em1 H1 p x S1=>⟨em1,μ1,⟨p,x,E.mono p x,S1⟩,hP h p x⟩
 | exc C fs μ1=>rw[e] at h; exact(hex h).elim
 | no=>rw[e] at h; exact(hno h).elim
end
theorem PE.imp {X:Cx} {e:Expr} {t t':TE} (h:PE X e t) (i:∀ σ H Q,t' σ H Q→t σ H Q):PE X e t':=fun pq s σ H Q I q=>h pq s σ H Q I (i σ H Q q)
theorem PA.imp {X:Cx} {es:List Expr} {t t':TA} (h:PA X es t) (i:∀ σ H Q,t' σ H Q→t σ H Q):PA X es t':=fun pos pq s σ H Q I q=>h pos pq s σ H Q I (i σ H Q q)
theorem PT.imp {X:Cx} {e:Expr} {t t':TT} (h:PT X e t) (i:∀ σ H Q,t' σ H Q→t σ H Q):PT X e t':=fun pq s σ H Q I q=>h pq s σ H Q I (i σ H Q q)
theorem PW.imp {X:Cx} {e:Expr} {t t':TT} (h:PW X e t) (i:∀ σ H Q,t' σ H Q→t σ H Q):PW X e t':=fun whole pq s σ H Q I q=>h whole pq s σ H Q I (i σ H Q q)
theorem PS.imp {X:Cx} {e:Stmt} {t t':TS} (h:PS X e t) (i:∀ D σ H,t' D σ H→t D σ H):PS X e t':=fun pq s σ H D I q=>h pq s σ H D I (i D σ H q)
theorem wY.imp {X:Cx} {e:List Stmt} {t t':TS} (h:wY X e t) (i:∀ D σ H,t' D σ H→t D σ H):wY X e t':=fun pq s σ H D I q=>h pq s σ H D I (i D σ H q)
end AL
namespace AL
open L2
section
variable {X:Cx} {pos:Pos} {σ:St} {H:Hp}
theorem jb.imp {K:q04} {em:Em} {r:Rs AV} {Q Q':VK} (h:jb K em H r Q) (i:∀ v H,Q v H→Q' v H):jb K em H r Q':=by
 cases r with
 | ok d μ=>exact fun em' H' v p x S r=>i _ _ (h em' H' v p x S r)
 | exc C fs μ=>exact h
 | no=>exact h
theorem dw {f:FE} {Q Q':VK} (h:tA X f σ H Q) (i:∀ v H,Q v H→Q' v H):tA X f σ H Q':=by
 obtain⟨ρ,μ,em,E,S,h⟩:=h;exact⟨ρ,μ,em,E,S,h.imp i⟩
theorem jA {f:FL} {Q Q':List V→Hp→Prop} (h:HC X f σ H Q) (i:∀ v H,Q v H→Q' v H):HC X f σ H Q':=by
 obtain⟨ρ,μ,em,E,S,h⟩:=h;refine⟨ρ,μ,em,E,S,?_⟩
 cases e:f ρ μ with
 | ok d μ'=>rw[e] at h; exact fun em' H' v p x S r=>i _ _ (h em' H' v p x S r)
 | exc C fs μ'=>rw[e] at h; exact h
 | no=>rw[e] at h; exact h
theorem nu {f:FB} {Q Q':Bool→Hp→Prop} (h:AF X f σ H Q) (i:∀ v H,Q v H→Q' v H):AF X f σ H Q':=by
 obtain⟨ρ,μ,em,E,S,h⟩:=h;refine⟨ρ,μ,em,E,S,?_⟩
 cases e:f ρ μ with
 | ok d μ'=>rw[e] at h; exact fun em' H' p x S=>i _ _ (h em' H' p x S)
 | exc C fs μ'=>rw[e] at h; exact h
 | no=>rw[e] at h; exact h
theorem jb.here {K:q04} {em:Em} {μ:Mu} {d:AV} {v:V} {Q:VK} (h:jb K em H (.ok d μ) Q) (S:cS K em μ H) (r:Rp K em H d v):Q v H:=
 h em H v (q09 _) gy.refl S r
def ab (i:Nat):FE:=fun ρ μ=>match ρ[i]? with
 | some (some d)=>.ok d μ
 | _=>.no
theorem aa (i:Nat) {x:Str} {pos:Pos} (hN:X.N[i]?=some x:=by rfl) (hv:Vis X.env.scope x:=by first|exact Or.inl rfl|exact Or.inr (Or.inl rfl)|exact Or.inr (Or.inr rfl))
  (hd:(x==("__debug__":Str))=false:=by decide+kernel) (hcd:(x==("__classdict__":Str))=false:=by decide+kernel):AE X (.Name x pos) (ab i):=
 PE.imp (Gu hN hv hd hcd) fun σ H Q h=>by
  obtain⟨ρ,μ,em,E,S,h⟩:=h;unfold ab at h
  cases e:ρ[i]? with
  | none=>rw[e] at h; exact h.elim
  | some o=>
   cases o with
   | none=>rw[e] at h; exact h.elim
   | some d=>
    rw[e] at h;obtain⟨v,e',r⟩:=E.2 i d e;exact⟨v,e',h.here S r⟩
def fC (d:AV):FE:=fun _ μ=>.ok d μ
theorem A4 {e:Expr} {v:V} {d:AV} (h:PE X e (tC v)) (r:∀ em H,Rp X.K em H d v):AE X e (fC d):=PE.imp h fun σ H Q ⟨ρ,μ,em,E,S,q⟩=>jb.here q S (r em H)
theorem ay {i j pos}:AE X (.Constant (.int i) j pos) (fC (.int i)):=A4 Hi fun _ _=>by simp only[Rp]
theorem db {b j pos}:AE X (.Constant (.bool b) j pos) (fC (.bl b)):=A4 J2 fun _ _=>by simp only[Rp]
theorem cP {j pos}:AE X (.Constant .none j pos) (fC .non):=A4 GK fun _ _=>by simp only[Rp]
theorem aX (l:List Nat) {x:Str} {j pos} (h:x=⟨l.toArray⟩:=by decide+kernel):AE X (.Constant (.str x) j pos) (fC (.str l)):=A4 Ge fun _ _=>by simp only[Rp]; rw[h]
theorem bZ (d:AV) {x:Str} {v:V} {u:Value} {pos:Pos} (hm:X.mg x=some u) (rp:∀ em H,Rp X.K em H d v) (r:eU v u) (hg:Gl X x:=by rfl) (hd:(x==("__debug__":Str))=false:=by decide+kernel):AE X (.Name x pos) (fC d):=
 A4 (D7 hg hm r hd) rp
def aB (g:AV→AV→Mu→Rs AV) (fa fb:FE):FE:=fun ρ μ=>(fa ρ μ).bd fun x μ1=>(fb ρ μ1).bd fun y μ2=>g x y μ2
def rA (K:q04) (g:AV→AV→Mu→Rs AV):R2:=fun x y H Q=>∃ a b μ em,Rp K em H a x∧Rp K em H b y∧cS K em μ H∧jb K em H (g a b μ) Q
theorem zb {fa fb:FE} {g:AV→AV→Mu→Rs AV} {Q:VK} (h:tA X (aB g fa fb) σ H Q):IC (rA X.K g) (tA X fa) (tA X fb) σ H Q:=by
 obtain⟨ρ,μ,em,E,S,h⟩:=h
 refine dw (kl (f:=fa) E S h) fun x H1 ⟨em1,d,μ1,M,r,h1⟩=>?_
 refine dw (kl (f:=fb) M.E M.S h1) fun y H2 ⟨em2,d2,μ2,M2,r2,h2⟩=>?_
 exact⟨d,d2,μ2,em2,r.mono M2.p M2.x,r2,M2.S,h2⟩
variable {a b c:Expr} {fa fb fc:FE} {g g':AV→AV→Mu→Rs AV}
theorem bf {op:Operator} (ho:jh X (binaryOp op) (rA X.K g)) (ha:AE X a fa) (hb:AE X b fb):AE X (.BinOp a op b pos) (aB g fa fb):=PE.imp (KI ho ha hb) fun _ _ _ h=>zb h
theorem Gf {op:CmpOp} (ho:jh X (compareOp op) (rA X.K g)) (ha:AE X a fa) (hb:AE X b fb) (hm:behindInMarks op b=false):AE X (.Compare a [op] [b] pos) (aB g fa fb):=PE.imp (Ep ho ha hb hm) fun _ _ _ h=>zb h
def NC (d:AV) (μ:Mu):Rs Bool:=match d with
 | .bl b=>.ok b μ
 | _=>.no
def fT (f:FE):FB:=fun ρ μ=>(f ρ μ).bd NC
theorem Dh {K:q04} {em:Em} {r:Rs AV} {Q:Bool→Hp→Prop} (h:ly K em H (r.bd NC) Q):jb K em H r fun v H1=>∃ k,v=.bl k∧Q k H1:=by
 cases r with
 | ok d μ=>
  cases d with
  | bl k=>
   intro em' H' v p x S r;simp only[Rp] at r;exact⟨k,r,h em' H' p x S⟩
  | _=>exact h.elim
 | exc C fs μ=>exact h
 | no=>exact h
theorem B2 {f:FE} {Q:Bool→Hp→Prop} (h:AF X (fT f) σ H Q):tA X f σ H fun v H1=>∃ k,v=.bl k∧Q k H1:=by
 obtain⟨ρ,μ,em,E,S,h⟩:=h;exact⟨ρ,μ,em,E,S,Dh h⟩
theorem GZ {op:CmpOp} (ho:jh X (compareOp op) (rA X.K g)) (ha:AE X a fa) (hb:AE X b fb) (hm:behindInMarks op b=false):AT X (.Compare a [op] [b] pos) (fT (aB g fa fb)):=
 PT.imp (D1 ho ha hb hm) fun _ _ _ h=>zb (B2 h)
def kn (g g':AV→AV→Mu→Rs AV) (fa fb fc:FE):FE:=fun ρ μ=>(fa ρ μ).bd fun x μ1=>(fb ρ μ1).bd fun y μ2=>(g x y μ2).bd fun z μ3=>match z with
 | .bl k=>if k then (fc ρ μ3).bd fun w μ4=>g' y w μ4 else .ok (.bl false) μ3
 | _=>.no
theorem wV {Q:VK} (h:tA X (kn g g' fa fb fc) σ H Q):xH (rA X.K g) (rA X.K g') (tA X fa) (tA X fb) (tA X fc) σ H Q:=by
 obtain⟨ρ,μ,em,E,S,h⟩:=h
 refine dw (kl (f:=fa) E S h) fun x H1 ⟨em1,d,μ1,M,r,h1⟩=>?_
 refine dw (kl (f:=fb) M.E M.S h1) fun y H2 ⟨em2,d2,μ2,M2,r2,h2⟩=>?_
 refine⟨d,d2,μ2,em2,r.mono M2.p M2.x,r2,M2.S,?_⟩
 cases e:g d d2 μ2 with
 | ok z μ3=>
  rw[e] at h2;intro em3 H3 v p3 x3 S3 r3
  cases z with
  | bl k=>
   simp only[Rp] at r3;refine⟨k,r3,?_⟩
   cases k with
   | false=>exact vS (h2 em3 H3 _ p3 x3 S3 (by simp only[Rp]))
   | true=>
    refine wl ?_
    refine dw (kl (f:=fc) (M2.E.mono p3 x3) S3 (jb.mono h2 p3 x3)) fun w' H4 ⟨em4,d4,μ4,M4,r4,h4⟩=>?_
    exact⟨d2,d4,μ4,em4,(r2.mono p3 x3).mono M4.p M4.x,r4,M4.S,h4⟩
  | _=>exact h2.elim
 | exc C fs μ3=>rw[e] at h2; exact h2.elim
 | no=>rw[e] at h2; exact h2.elim
theorem A6 {op op':CmpOp} (ho:jh X (compareOp op) (rA X.K g)) (ho':jh X (compareOp op') (rA X.K g')) (ha:AE X a fa) (hb:AE X b fb) (hc:AE X c fc)
  (hm:lastMarks [op,op'] [b,c]=false:=by with_unfolding_all rfl):AE X (.Compare a [op,op'] [b,c] pos) (kn g g' fa fb fc):=PE.imp (CL ho ho' ha hb hc hm) fun _ _ _ h=>wV h
theorem BW {op op':CmpOp} (ho:jh X (compareOp op) (rA X.K g)) (ho':jh X (compareOp op') (rA X.K g')) (ha:AE X a fa) (hb:AE X b fb) (hc:AE X c fc)
  (hm:lastMarks [op,op'] [b,c]=false:=by with_unfolding_all rfl):AT X (.Compare a [op,op'] [b,c] pos) (fT (kn g g' fa fb fc)):=PT.imp (BB ho ho' ha hb hc hm) fun _ _ _ h=>wV (B2 h)
def nW (fa fb:FE):FE:=fun ρ μ=>(fa ρ μ).bd fun x μ1=>match x with
 | .bl k=>if k then fb ρ μ1 else .ok (.bl false) μ1
 | _=>.no
def EI (fa fb:FE):FE:=fun ρ μ=>(fa ρ μ).bd fun x μ1=>match x with
 | .bl k=>if k then .ok (.bl true) μ1 else fb ρ μ1
 | _=>.no
theorem jv {op} {t:FE} (h:AE X a t):AE X (.BoolOp op [a] pos) t:=Hv h
theorem kr {rest:List Expr} (ha:AE X a fa) (hb:AE X (.BoolOp .And (b::rest) pos) fb):AE X (.BoolOp .And (a::b::rest) pos) (nW fa fb):=
 PE.imp (Gq ha hb) fun σ H Q ⟨ρ,μ,em,E,S,h⟩=>dw (kl (f:=fa) E S h) fun x H1 ⟨em1,d,μ1,M,r,h1⟩=>by
  cases d with
  | bl k=>
   simp only[Rp] at r;refine⟨k,r,?_⟩
   cases k with
   | true=>exact wl ⟨ρ,μ1,em1,M.E,M.S,h1⟩
   | false=>exact vS (jb.here h1 M.S (by simp only[Rp]))
  | _=>exact h1.elim
theorem yu {rest:List Expr} (ha:AE X a fa) (hb:AE X (.BoolOp .Or (b::rest) pos) fb):AE X (.BoolOp .Or (a::b::rest) pos) (EI fa fb):=
 PE.imp (JN ha hb) fun σ H Q ⟨ρ,μ,em,E,S,h⟩=>dw (kl (f:=fa) E S h) fun x H1 ⟨em1,d,μ1,M,r,h1⟩=>by
  cases d with
  | bl k=>
   simp only[Rp] at r;refine⟨k,r,?_⟩
   cases k with
   | true=>exact wl (jb.here h1 M.S (by simp only[Rp]))
   | false=>exact vS ⟨ρ,μ1,em1,M.E,M.S,h1⟩
  | _=>exact h1.elim
def j7 (fa fb:FB):FB:=fun ρ μ=>(fa ρ μ).bd fun k μ1=>if k then fb ρ μ1 else .ok false μ1
def ir (fa fb:FB):FB:=fun ρ μ=>(fa ρ μ).bd fun k μ1=>if k then .ok true μ1 else fb ρ μ1
def gz (fa:FB):FB:=fun ρ μ=>(fa ρ μ).bd fun k μ1=>.ok (!k) μ1
theorem vJ {f:FB} {k:Bool→Mu→Rs Bool} {em:Em} {μ:Mu} {ρ:Ev} {Q:Bool→Hp→Prop} (E:d7 X.K em H ρ σ) (S:cS X.K em μ H) (h:ly X.K em H ((f ρ μ).bd k) Q) :
  AF X f σ H fun b H1=>∃ em1 μ1,yE X.K em H ρ σ em1 μ1 H1∧ly X.K em1 H1 (k b μ1) Q:=
 bx (P:=fun em H r=>ly X.K em H r Q) (fun h p x=>h.mono p x) (fun h=>h) (fun h=>h) E S h
theorem Eu {f:FB} {k:Bool→Mu→Rs AV} {em:Em} {μ:Mu} {ρ:Ev} {Q:VK} (E:d7 X.K em H ρ σ) (S:cS X.K em μ H) (h:jb X.K em H ((f ρ μ).bd k) Q) :
  AF X f σ H fun b H1=>∃ em1 μ1,yE X.K em H ρ σ em1 μ1 H1∧jb X.K em1 H1 (k b μ1) Q:=
 bx (P:=fun em H r=>jb X.K em H r Q) (fun h p x=>h.mono p x) (fun h=>h) (fun h=>h) E S h
theorem ly.here {K:q04} {em:Em} {μ:Mu} {k:Bool} {Q:Bool→Hp→Prop} (h:ly K em H (.ok k μ) Q) (S:cS K em μ H):Q k H:=h em H (q09 _) gy.refl S
variable {ta tb:FB} {rest:List Expr}
theorem lK (ha:AT X a ta):AW X (.BoolOp .And [a] pos) ta:=Eo ha
theorem km (ha:AT X a ta):AW X (.BoolOp .Or [a] pos) ta:=GW ha
theorem ny (ha:AT X a ta) (hb:AW X (.BoolOp .And (b::rest) pos) tb):AW X (.BoolOp .And (a::b::rest) pos) (j7 ta tb):=
 PW.imp (GL ha hb) fun σ H Q ⟨ρ,μ,em,E,S,h⟩=>nu (vJ (f:=ta) E S h) fun k H1 ⟨em1,μ1,M,h1⟩=>by
  cases k with
  | true=>exact wl ⟨ρ,μ1,em1,M.E,M.S,h1⟩
  | false=>exact vS (ly.here h1 M.S)
theorem kC (ha:AT X a ta) (hb:AW X (.BoolOp .Or (b::rest) pos) tb):AW X (.BoolOp .Or (a::b::rest) pos) (ir ta tb):=
 PW.imp (MV ha hb) fun σ H Q ⟨ρ,μ,em,E,S,h⟩=>nu (vJ (f:=ta) E S h) fun k H1 ⟨em1,μ1,M,h1⟩=>by
  cases k with
  | true=>exact wl (ly.here h1 M.S)
  | false=>exact vS ⟨ρ,μ1,em1,M.E,M.S,h1⟩
theorem AW.at {e:Expr} {f:FB} (h:AW X e f):AT X e f:=PW.pt h
theorem jm (ha:AT X a ta):AT X (.UnaryOp .Not a pos) (gz ta):=
 PT.imp (G6 ha) fun σ H Q ⟨ρ,μ,em,E,S,h⟩=>nu (vJ (f:=ta) E S h) fun k H1 ⟨em1,μ1,M,h1⟩=>ly.here h1 M.S
def ug (ft:FB) (fa fb:FE):FE:=fun ρ μ=>(ft ρ μ).bd fun k μ1=>if k then fa ρ μ1 else fb ρ μ1
theorem sI (hc:AT X c ta) (ha:AE X a fa) (hb:AE X b fb):AE X (.IfExp c a b pos) (ug ta fa fb):=
 PE.imp (Bz hc ha hb) fun σ H Q ⟨ρ,μ,em,E,S,h⟩=>nu (Eu (f:=ta) E S h) fun k H1 ⟨em1,μ1,M,h1⟩=>by
  cases k with
  | true=>exact wl ⟨ρ,μ1,em1,M.E,M.S,h1⟩
  | false=>exact vS ⟨ρ,μ1,em1,M.E,M.S,h1⟩
def bu (μ:Mu) (i:Nat):Option (List AV):=match μ[i]? with
 | some (.lst ds)=>some ds
 | some (.fz ds)=>some ds
 | _=>none
theorem cS.sq {K:q04} {em:Em} {μ:Mu} {i:Nat} {ds:List AV} {a:Addr} (S:cS K em μ H) (h:bu μ i=some ds) (ea:em[i]?=some a):∃ xs,oU K H a xs∧de K em H ds xs:=by
 unfold bu at h
 cases e:μ[i]? with
 | none=>rw[e] at h; cases h
 | some o=>
  rw[e] at h;have q:=S.obj i a o ea e
  cases o with
  | lst es=>cases h; obtain⟨xs,e1,r⟩:=q; exact⟨xs,oU.of e1,r⟩
  | fz es=>cases h; obtain⟨xs,e1,r⟩:=q; exact⟨xs,e1.sq,r⟩
  | ins C fs=>cases h
def Al (d:AV) (μ:Mu):Rs Bool:=match d with
 | .non=>.ok false μ
 | .bl b=>.ok b μ
 | .int i=>.ok (i != 0) μ
 | .str x=>if x.length≤cE then .ok (!x.isEmpty) μ else .no
 | .tup ds=>.ok (!ds.isEmpty) μ
 | .loc i=>match bu μ i with
  | some ds=>.ok (!ds.isEmpty) μ
  | none=>.no
def gI (f:FE):FB:=fun ρ μ=>(f ρ μ).bd Al
theorem de.isEmpty {K:q04} {em:Em} {ds:List AV} {xs:List V} (r:de K em H ds xs):xs.isEmpty=ds.isEmpty:=by
 have:=r.length
 cases xs<;>cases ds<;>simp at this⊢
theorem gS (x:List Nat):(⟨x.toArray⟩:Str).length=x.length:=by simp[Str.length]
theorem G4 (ha:AE X a fa) (he:∀ whole,isTrue a X.env whole=(do let v ← whole; standAt a.pos; holding [v] (truthy v)):=by intro _; rfl):AT X a (gI fa):=
 PT.imp (Bc ha he) fun σ H Q ⟨ρ,μ,em,E,S,h⟩=>dw (HL (f:=fa) E S h) fun x H1 ⟨em1,d,μ1,M,r,h1⟩=>by
  cases d with
  | non=>simp only[Rp] at r; subst r; exact⟨false,rfl,ly.here h1 M.S⟩
  | bl b=>simp only[Rp] at r; subst r; exact⟨b,rfl,ly.here h1 M.S⟩
  | int i=>simp only[Rp] at r; subst r; exact⟨_,rfl,ly.here h1 M.S⟩
  | str x=>
   simp only[Rp] at r;subst r;unfold Al at h1
   by_cases hx:x.length≤cE
   ·simp only[hx,if_true] at h1
    refine⟨!x.isEmpty,⟨by rw[gS,← kj]; exact hx,?_⟩,ly.here h1 M.S⟩;rw[gS]
    cases x<;>simp<;>omega
   ·simp only[hx,if_false] at h1
    exact h1.elim
  | tup ds=>
   simp only[Rp] at r;obtain⟨p,xs,rfl,hq,rl⟩:=r;exact⟨!ds.isEmpty,.inr (.inl ⟨xs,hq,by rw[rl.isEmpty]⟩),ly.here h1 M.S⟩
  | loc i=>
   simp only[Rp] at r;obtain⟨p,ep,rfl⟩:=r;unfold Al at h1
   cases e:bu μ1 i with
   | none=>simp only[e] at h1; exact h1.elim
   | some ds=>
    simp only[e] at h1;obtain⟨xs,hq,rl⟩:=M.S.sq e ep;exact⟨!ds.isEmpty,.inl ⟨xs,hq,by rw[rl.isEmpty]⟩,ly.here h1 M.S⟩
def ag:FL:=fun _ μ=>.ok [] μ
def ac (f:FE) (fl:FL):FL:=fun ρ μ=>(f ρ μ).bd fun d μ1=>(fl ρ μ1).bd fun ds μ2=>.ok (d::ds) μ2
theorem GX {f:FL} {k:List AV→Mu→Rs (List AV)} {em:Em} {μ:Mu} {ρ:Ev} {Q:List V→Hp→Prop} (E:d7 X.K em H ρ σ) (S:cS X.K em μ H) (h:t3 X.K em H ((f ρ μ).bd k) Q) :
  HC X f σ H fun vs H1=>∃ em1 ds μ1,yE X.K em H ρ σ em1 μ1 H1∧de X.K em1 H1 ds vs∧t3 X.K em1 H1 (k ds μ1) Q:=by
 refine⟨ρ,μ,em,E,S,?_⟩
 cases e:f ρ μ with
 | ok d μ1=>
  rw[e] at h
  exact fun em1 H1 v p x S1 r=>⟨em1,d,μ1,⟨p,x,E.mono p x,S1⟩,r,t3.mono h p x⟩
 | exc C fs μ1=>rw[e] at h; exact h.elim
 | no=>rw[e] at h; exact h.elim
theorem ap:AA X [] ag:=PA.imp Ci fun σ H Q ⟨ρ,μ,em,E,S,h⟩=>h em H [] (q09 _) gy.refl S de.nil
theorem Eg {e:Expr} {es:List Expr} {f:FE} {fl:FL} (ha:AE X e f) (hr:AA X es fl) (hs:starEach (e::es) X.env=(false,eval e X.env)::starEach es X.env:=by rfl):AA X (e::es) (ac f fl):=
 PA.imp (vG ha hr hs) fun σ H Q ⟨ρ,μ,em,E,S,h⟩=>dw (G2 (f:=f) E S h) fun x H1 ⟨em1,d,μ1,M,r,h1⟩=>
  jA (GX (f:=fl) M.E M.S h1) fun xs H2 ⟨em2,ds,μ2,M2,rl,h2⟩=>h2 em2 H2 _ (q09 _) gy.refl M2.S (de.cons (r.mono M2.p M2.x) rl)
def jD (fl:FL):FE:=fun ρ μ=>(fl ρ μ).bd fun ds μ1=>if ds.length≤cE then .ok (.tup ds) μ1 else .no
def rB (fl:FL):FE:=fun ρ μ=>(fl ρ μ).bd fun ds μ1=>if ds.length≤cE then .ok (.loc μ1.length) (μ1++[.lst ds]) else .no
theorem jb.ite {K:q04} {em:Em} {c:Prop} [Decidable c] {r:Rs AV} {Q:VK} (h:jb K em H (if c then r else .no) Q):c∧jb K em H r Q:=by
 by_cases hc:c
 ·rw[if_pos hc] at h; exact⟨hc,h⟩
 ·rw[if_neg hc] at h; exact h.elim
theorem io {es:List Expr} {fl:FL} {x1} (h:AA X es fl):AE X (.Tuple es x1 pos) (jD fl):=
 PE.imp (Hm h) fun σ H Q ⟨ρ,μ,em,E,S,h⟩=>jA (pG (f:=fl) E S h) fun xs H1 ⟨em1,ds,μ1,M,rl,h1⟩=>by
  obtain⟨hz,h1⟩:=h1.ite;refine⟨by rw[rl.length,← kj]; exact hz,fun p hp=>?_⟩;obtain⟨S2,r2⟩:=M.S.newT hp rl;exact h1 em1 _ _ (q09 _) (gy.fresh hp) S2 r2
theorem qg {es:List Expr} {fl:FL} (h:AA X es fl):AE X (.List es pos) (rB fl):=
 PE.imp (Fu h) fun σ H Q ⟨ρ,μ,em,E,S,h⟩=>jA (pG (f:=fl) E S h) fun xs H1 ⟨em1,ds,μ1,M,rl,h1⟩=>by
  obtain⟨hz,h1⟩:=h1.ite;refine⟨by rw[rl.length,← kj]; exact hz,fun p hp=>?_⟩;obtain⟨S2,r2⟩:=M.S.newL hp rl;exact h1 _ _ _ (q53 _ _) (gy.fresh hp) S2 r2
end
section
variable {X:Cx} {pos:Pos} {σ:St} {H:Hp}
def iA (C:Int→Int→Bool) (h:Int→Int→Int) (a b:AV) (μ:Mu):Rs AV:=match a,b with
 | .int i,.int j=>if C i j=true then .ok (.int (h i j)) μ else .no
 | _,_=>.no
theorem wA {f:Value→Value→Sem Value} {C:Int→Int→Bool} {C':Int→Int→Prop} {h:Int→Int→Int} (hC:∀ i j,C i j=true→C' i j) (ho:jh X f (rI C' fun i j=>.int (h i j))):jh X f (rA X.K (iA C h)):=by
 intro pq s σ H x y v u Q I rx ry ⟨a,b,μ,em,ra,rb,S,q⟩
 cases a with
 | int i=>
  cases b with
  | int j=>
   simp only[Rp] at ra rb;subst ra rb;obtain⟨hc,q⟩:=jb.ite q;exact ho pq s σ H _ _ v u Q I rx ry ⟨i,j,rfl,rfl,hC _ _ hc,q.here S (by simp only[Rp])⟩
  | _=>exact q.elim
 | _=>cases b<;>exact q.elim
def sm (k:Nat) (i:Int):Bool:=Nat.blt i.natAbs.log2 k
theorem uu {k:Nat} {i:Int} (h:sm k i=true):i.natAbs<2 ^ k:=by
 have h:i.natAbs.log2<k:=Nat.le_of_ble_eq_true h
 by_cases z:i.natAbs=0
 ·rw[z]; exact Nat.two_pow_pos k
 ·exact(Nat.log2_lt z).mp h
theorem B1 {k:Nat} {i:Int} (h:i.natAbs<2 ^ k) (hk:0<k):sm k i=true:=by
 show Nat.ble _ _=true;refine Nat.ble_eq_true_of_le (show i.natAbs.log2<k from ?_)
 by_cases z:i.natAbs=0
 ·rw[z]; exact hk
 ·exact(Nat.log2_lt z).mpr h
def mh (i j:Int):Bool:=sm 64 i||sm 64 j
def kf (_ j:Int):Bool:=decide (0<j)&&sm 30 j
def j9 (_ j:Int):Bool:=decide (0<j)
def CP (i j:Int):Bool:=decide (0≤j)&&sm 19 j&&sm 64 i
theorem Lz {f:Value→Value→Sem Value} {g:Int→Int→V} (h:jh X f (Dp g)):jh X f (rI (fun _ _=>True) g):=fun pq s σ H x y v u Q I rx ry ⟨i,j,e1,e2,_,q⟩=>h pq s σ H x y v u Q I rx ry ⟨i,j,e1,e2,q⟩
abbrev qp:=iA (fun _ _=>true) fun i j=>i-j
abbrev M7:=iA mh fun i j=>i*j
abbrev gK:=iA kf fun i j=>i/j
abbrev iK:=iA j9 fun i j=>i%j
abbrev F0:=iA CP fun i j=>i ^ j.toNat
theorem oK:jh X (binaryOp .Sub) (rA X.K qp):=wA (fun _ _ _=>trivial) (Lz Fx)
theorem Hw:jh X (binaryOp .Mult) (rA X.K M7):=wA (fun i j h=>by
 simp only[mh,q75] at h
 have e:(2:Nat) ^ 64=18446744073709551616:=by decide
 have e2:(2:Int) ^ 64=18446744073709551616:=by decide
 unfold DF;rw[e2]
 rcases h with h|h
 ·have:=uu h
  rw[e] at this;exact .inl ⟨by omega,by omega⟩
 ·have:=uu h
  rw[e] at this
  exact .inr ⟨by omega,by omega⟩) Hl
theorem jf:jh X (binaryOp .FloorDiv) (rA X.K gK):=wA (fun i j h=>by
 simp only[kf,q08,decide_eq_true_eq] at h;have:=uu h.2
 have e:(2:Nat) ^ 30=1073741824:=by decide
 rw[e] at this
 exact⟨h.1,by omega⟩) Ea
theorem ja:jh X (binaryOp .Mod) (rA X.K iK):=wA (fun i j h=>by
 simp only[j9,decide_eq_true_eq] at h
 exact h) Hd
theorem B6:jh X (binaryOp .Pow) (rA X.K F0):=wA (fun i j h=>by
 simp only[CP,q08,decide_eq_true_eq] at h;have h2:=uu h.1.2
 have e:(2:Nat) ^ 19=524288:=by decide
 rw[e] at h2
 exact⟨h.1.1,by omega,uu h.2⟩) FZ
def DI (a b:AV) (μ:Mu):Rs AV:=match a,b with
 | .int i,.int j=>.ok (.int (i+j)) μ
 | .str x,.str y=>if x.length+y.length≤cE then .ok (.str (x++y)) μ else .no
 | .loc i,.loc j=>match bu μ i,bu μ j with
  | some x,some y=>if x.length+y.length≤cE then .ok (.loc μ.length) (μ++[.lst (x++y)]) else .no
  | _,_=>.no
 | _,_=>.no
theorem tZ {pq:List (Addr×Obj)} {s:Shared} {a b:Addr} {xs ys:List V} {Q:VK} (I:b9 X pq σ H s) (ha:oU X.K H a xs) (hb:oU X.K H b ys) (hz:xs.length+ys.length≤sizeLine)
  (q:∀ p,H p=none→Q (.ref p) (gL H p (.lst (xs++ys)))):wpAny (model X.prog X.w) X.A (binaryOp .Add (.ref a) (.ref b)) (EP X pq σ Q) X.xe s:=by
 obtain⟨its,r,pl,_⟩:=I.list ha;obtain⟨its2,r2,pl2,_⟩:=I.list hb;obtain⟨⟨cls,dd,data,sl⟩,ho,hc,n,hd⟩:=pl.isList;obtain⟨⟨cls2,dd2,data2,Fd⟩,ho2,hc2,n2,hd2⟩:=pl2.isList;simp only at hc hd hc2 hd2;subst hc hd hc2 hd2
 have e:its.toArray++its2.toArray=(its++its2).toArray:=by simp
 have l1:=r.length;have l2:=r2.length;refine concat_meets ⟨_,ho,rfl⟩ ⟨_,ho2,rfl⟩ noFill_list_add seq_list_add PySem.F.slot_list_add PySem.F.entry_list_add (PySem.F.args_list_add_2 _ _) (list_addW a b its.toArray its2.toArray n n2 dd dd2 sl Fd (by simp; omega)) ⟨ho,ho2,?_⟩;rw[e];exact⟨.ref _,_,I.lnew (t':=s.toks) (r.append r2) (by rw[q02]; exact hz),rfl,q _ I.fresh⟩
theorem uL (x y:List Nat):(⟨x.toArray⟩:Str)++(⟨y.toArray⟩:Str)=⟨(x++y).toArray⟩:=by
 show Str.append _ _=_;simp[Str.append]
theorem Hr:jh X (binaryOp .Add) (rA X.K DI):=by
 intro pq s σ H x y v u Q I rx ry ⟨a,b,μ,em,ra,rb,S,q⟩
 cases a with
 | int i=>
  cases b with
  | int j=>
   simp only[Rp] at ra rb;subst ra rb;exact Gn pq s σ H _ _ v u Q I rx ry ⟨i,j,rfl,rfl,q.here S (by simp only[Rp])⟩
  | _=>exact q.elim
 | str z=>
  cases b with
  | str w=>
   simp only[Rp] at ra rb;subst ra rb;obtain⟨hc,q⟩:=jb.ite q;exact xF pq s σ H _ _ v u Q I rx ry ⟨_,_,rfl,rfl,by rw[gS,gS,← kj]; exact hc,by rw[uL]; exact q.here S (by simp only[Rp])⟩
  | _=>exact q.elim
 | loc i=>
  cases b with
  | loc j=>
   simp only[Rp] at ra rb;obtain⟨p1,e1,rfl⟩:=ra;obtain⟨p2,e2,rfl⟩:=rb;cases rx;cases ry;unfold DI at q
   cases h1:bu μ i with
   | none=>simp only[h1] at q; exact q.elim
   | some ds=>
    cases h2:bu μ j with
    | none=>simp only[h1,h2] at q; exact q.elim
    | some es=>
     simp only[h1,h2] at q;obtain⟨hc,q⟩:=jb.ite q;obtain⟨xs,k1,r1⟩:=S.sq h1 e1;obtain⟨ys,k2,r2⟩:=S.sq h2 e2
     refine tZ I k1 k2 (by rw[r1.length,r2.length,← kj]; exact hc) fun p hp=>?_
     obtain⟨S2,r3⟩:=S.newL hp (r1.append r2);exact q _ _ _ (q53 _ _) (gy.fresh hp) S2 r3
  | _=>exact q.elim
 | _=>cases b<;>exact q.elim
def cA (hi:Int→Int→Bool) (hs:List Nat→List Nat→Bool) (a b:AV) (μ:Mu):Rs AV:=match a,b with
 | .int i,.int j=>.ok (.bl (hi i j)) μ
 | .str x,.str y=>.ok (.bl (hs x y)) μ
 | _,_=>.no
theorem Bm {f:Value→Value→Sem Value} {hi:Int→Int→Bool} {hs:List Nat→List Nat→Bool} (h1:jh X f (Dp fun i j=>.bl (hi i j)))
  (h2:jh X f (fun x y H Q=>∃ i j:Str,x=.str i∧y=.str j∧Q (.bl (hs i.cps.toList j.cps.toList)) H)):jh X f (rA X.K (cA hi hs)):=by
 intro pq s σ H x y v u Q I rx ry ⟨a,b,μ,em,ra,rb,S,q⟩
 cases a with
 | int i=>
  cases b with
  | int j=>
   simp only[Rp] at ra rb;subst ra rb;exact h1 pq s σ H _ _ v u Q I rx ry ⟨i,j,rfl,rfl,q.here S (by simp only[Rp])⟩
  | _=>exact q.elim
 | str z=>
  cases b with
  | str w=>
   simp only[Rp] at ra rb;subst ra rb;refine h2 pq s σ H _ _ v u Q I rx ry ⟨_,_,rfl,rfl,?_⟩;exact q.here S (by simp only[Rp])
  | _=>exact q.elim
 | _=>cases b<;>exact q.elim
theorem zT:jh X (compareOp .LtE) (fun x y H Q=>∃ i j:Str,x=.str i∧y=.str j∧Q (.bl (!decide (j.cps.toList<i.cps.toList))) H):=by
 intro pq s σ H x y v u Q I rx ry h;obtain⟨i,j,rfl,rfl,q⟩:=h;obtain⟨t,rfl⟩:=rx;obtain⟨t',rfl⟩:=ry;exact PySem.P.le_str (dD I q rfl)
theorem zG:jh X (compareOp .Gt) (fun x y H Q=>∃ i j:Str,x=.str i∧y=.str j∧Q (.bl (decide (j.cps.toList<i.cps.toList))) H):=by
 intro pq s σ H x y v u Q I rx ry h;obtain⟨i,j,rfl,rfl,q⟩:=h;obtain⟨t,rfl⟩:=rx;obtain⟨t',rfl⟩:=ry;exact PySem.P.gt_str (dD I q rfl)
abbrev vL:=cA (fun i j=>decide (i<j)) fun x y=>decide (x<y)
abbrev AD:=cA (fun i j=>decide (i≤j)) fun x y=>!decide (y<x)
abbrev Ak:=cA (fun i j=>decide (j<i)) fun x y=>decide (y<x)
theorem mj:jh X (compareOp .Lt) (rA X.K vL):=Bm Lk zW
theorem qO:jh X (compareOp .LtE) (rA X.K AD):=Bm Lc zT
theorem pf:jh X (compareOp .Gt) (rA X.K Ak):=Bm MM zG
mutual
def vg:AV→Option PyData
 | .non=>some .none
 | .bl b=>some (.bool b)
 | .int i=>some (.int i)
 | .str x=>some (.str ⟨x.toArray⟩)
 | .tup ds=>(lD ds).map .tuple
 | .loc _=>none
def lD:List AV→Option (List PyData)
 | []=>some []
 | d::ds=>match vg d,lD ds with
  | some a,some b=>some (a::b)
  | _,_=>none
end
def Fq (μ:Mu) (d:AV):Option PyData:=match d with
 | .loc i=>((bu μ i).bind lD).map .list
 | d=>vg d
def C4 (neg:Bool) (a b:AV) (μ:Mu):Rs AV:=match Fq μ a,Fq μ b with
 | some x,some y=>if SeqAt.shaped x=true∧SeqAt.shaped y=true then .ok (.bl (if neg then !PyData.eqv x y else PyData.eqv x y)) μ else .no
 | _,_=>.no
def fU (neg:Bool) (a b:AV) (μ:Mu):Rs AV:=match a,b with
 | .int i,.int j=>.ok (.bl (if neg then !(i==j) else i==j)) μ
 | .str x,.str y=>.ok (.bl (if neg then !(x==y) else x==y)) μ
 | .bl x,.bl y=>.ok (.bl (if neg then !(x==y) else x==y)) μ
 | .non,.non=>.ok (.bl (!neg)) μ
 | .str _,.non=>.ok (.bl neg) μ
 | .non,.str _=>.ok (.bl neg) μ
 | a,b=>C4 neg a b μ
section
variable {K:q04} {em:Em} {s:Shared} {pq:List (Addr×Obj)}
mutual
theorem uo (I:b9 X pq σ H s):∀ (d:AV) {x:V} {v:Value} {p:PyData},Rp X.K em H d x→eU x v→vg d=some p→∃ as,Reads s.heap v p as
 | .non,_,_,_,r,rv,e=>by simp only[Rp] at r; subst r; simp only[vg] at e; cases e; cases rv; exact⟨_,.none⟩
 | .bl b,_,_,_,r,rv,e=>by simp only[Rp] at r; subst r; simp only[vg] at e; cases e; cases rv; exact⟨_,.bool b⟩
 | .int i,_,_,_,r,rv,e=>by simp only[Rp] at r; subst r; simp only[vg] at e; cases e; obtain⟨t,rfl⟩:=rv; exact⟨_,.int i t⟩
 | .str z,_,_,_,r,rv,e=>by simp only[Rp] at r; subst r; simp only[vg] at e; cases e; obtain⟨t,rfl⟩:=rv; exact⟨_,.str _ t⟩
 | .loc i,_,_,_,r,rv,e=>by simp only[vg] at e; cases e
 | .tup ds,_,_,_,r,rv,e=>by
  simp only[Rp] at r;obtain⟨a,xs,rfl,hq,rl⟩:=r;cases rv;simp only[vg] at e
  cases h:lD ds with
  | none=>rw[h] at e; cases e
  | some ps=>
   rw[h] at e;cases e;obtain⟨its,rv,⟨o,ho,hc,n,hd⟩,_⟩:=I.tuple hq;obtain⟨as,q⟩:=oB I ds rl rv h;exact⟨as,reads_tuple_at ho hc hd (by simpa using q)⟩
theorem oB (I:b9 X pq σ H s):∀ (ds:List AV) {xs:List V} {vs:List Value} {ps:List PyData},de X.K em H ds xs→dm xs vs→lD ds=some ps→∃ as,ReadsAll s.heap vs ps as
 | [],_,_,_,r,rv,e=>by
  have:=r.unnil;subst this;simp only[lD] at e;cases e;cases rv;exact⟨_,.nil⟩
 | d::ds,_,_,_,r,rv,e=>by
  obtain⟨x,t,rfl,r1,r2⟩:=r.uncons
  cases rv with
  | cons rv1 rv2=>
   simp only[lD] at e
   cases h1:vg d with
   | none=>simp only[h1] at e; cases e
   | some a=>
    cases h2:lD ds with
    | none=>simp only[h1,h2] at e; cases e
    | some b=>
     simp only[h1,h2] at e;cases e;obtain⟨as,q1⟩:=uo I d r1 rv1 h1;obtain⟨bs,q2⟩:=oB I ds r2 rv2 h2;exact⟨_,.cons q1 q2⟩
end
theorem uz {μ:Mu} (I:b9 X pq σ H s) (S:cS X.K em μ H) (d:AV) {x:V} {v:Value} {p:PyData} (r:Rp X.K em H d x) (rv:eU x v) (e:Fq μ d=some p):∃ as,Reads s.heap v p as:=by
 cases d with
 | loc i=>
  simp only[Rp] at r;obtain⟨a,ea,rfl⟩:=r;cases rv;unfold Fq at e
  cases h:bu μ i with
  | none=>simp only[h] at e; cases e
  | some ds=>
   simp only[h,q70] at e
   cases h2:lD ds with
   | none=>rw[h2] at e; cases e
   | some ps=>
    rw[h2] at e;cases e;obtain⟨xs,hq,rl⟩:=S.sq h ea;obtain⟨its,rv,pl,_⟩:=I.list hq;obtain⟨o,ho,hc,n,hd⟩:=pl.isList;obtain⟨as,q⟩:=oB I ds rl rv h2;exact⟨_,reads_list_at ho hc hd (by simpa using q)⟩
 | _=>exact uo I _ r rv e
end
theorem By {f:Value→Value→Sem Value} {neg:Bool}
  (h:∀ (pq:List (Addr×Obj)) (s:Shared) (v u:Value) (x y:PyData) (as bs:List Addr) (Q:Value→Shared→Prop),Reads s.heap v x as→Reads s.heap u y bs→SeqAt.shaped x=true→SeqAt.shaped y=true→Q (.bool (if neg then !PyData.eqv x y else PyData.eqv x y)) s→wpAny (model X.prog X.w) X.A (f v u) Q X.xe s) :
  jh X f (rA X.K (C4 neg)):=by
 intro pq s σ H x y v u Q I rx ry ⟨a,b,μ,em,ra,rb,S,q⟩;unfold C4 at q
 cases h1:Fq μ a with
 | none=>simp only[h1] at q; exact q.elim
 | some p=>
  cases h2:Fq μ b with
  | none=>simp only[h1,h2] at q; exact q.elim
  | some p2=>
   simp only[h1,h2] at q;obtain⟨⟨s1,s2⟩,q⟩:=jb.ite q;obtain⟨as,R1⟩:=uz I S a ra rx h1;obtain⟨bs,R2⟩:=uz I S b rb ry h2;exact h pq s v u p p2 as bs _ R1 R2 s1 s2 ⟨.bl _,H,I,rfl,q.here S (by simp only[Rp])⟩
theorem uk {x y:List Nat}:((⟨x.toArray⟩:Str)=⟨y.toArray⟩)↔x=y:=by
 constructor
 ·intro h
  injection h with h
  simpa using congrArg Array.toList h
 ·rintro rfl; rfl
theorem xb {x y:List Nat}:decide (V.str ⟨x.toArray⟩=V.str ⟨y.toArray⟩)=(x==y):=by
 rw[q52];simp[uk]
theorem Hk (hu:X.A.units+64<cLine):jh X (compareOp .Eq) (rA X.K (C4 false)):=By fun pq s v u x y as bs Q r1 r2 s1 s2 q=>eq_dataH r1 r2 s1 s2 hu q
theorem Ht (hu:X.A.units+64<cLine):jh X (compareOp .NotEq) (rA X.K (C4 true)):=By fun pq s v u x y as bs Q r1 r2 s1 s2 q=>ne_dataH r1 r2 s1 s2 hu q
theorem fO (hu:X.A.units+64<cLine):jh X (compareOp .Eq) (rA X.K (fU false)):=by
 intro pq s σ H x y v u Q I rx ry ⟨a,b,μ,em,ra,rb,S,q⟩
 have gen:∀ q':jb X.K em H (C4 false a b μ) Q,wpAny (model X.prog X.w) X.A (compareOp .Eq v u) (EP X pq σ Q) X.xe s:=fun q'=>Hk hu pq s σ H x y v u Q I rx ry ⟨a,b,μ,em,ra,rb,S,q'⟩
 have sc:∀ k:Bool,DQ x y=true→decide (x=y)=k→jb X.K em H (.ok (.bl k) μ) Q→wpAny (model X.prog X.w) X.A (compareOp .Eq v u) (EP X pq σ Q) X.xe s:=fun k h1 h2 q'=>
  J7 pq s σ H x y v u Q I rx ry ⟨h1,by rw[h2]; exact q'.here S (by simp only[Rp])⟩
 cases a<;>cases b<;>first
  | exact gen q
  | (simp only[Rp] at ra rb; subst ra rb; exact sc _ rfl (by first|exact rW|exact xb|exact uU|rfl|simp) q)
theorem mi (hu:X.A.units+64<cLine):jh X (compareOp .NotEq) (rA X.K (fU true)):=by
 intro pq s σ H x y v u Q I rx ry ⟨a,b,μ,em,ra,rb,S,q⟩
 have gen:∀ q':jb X.K em H (C4 true a b μ) Q,wpAny (model X.prog X.w) X.A (compareOp .NotEq v u) (EP X pq σ Q) X.xe s:=fun q'=>Ht hu pq s σ H x y v u Q I rx ry ⟨a,b,μ,em,ra,rb,S,q'⟩
 have sc:∀ k:Bool,DQ x y=true→(!decide (x=y))=k→jb X.K em H (.ok (.bl k) μ) Q→wpAny (model X.prog X.w) X.A (compareOp .NotEq v u) (EP X pq σ Q) X.xe s:=fun k h1 h2 q'=>
  K1 pq s σ H x y v u Q I rx ry ⟨h1,by rw[h2]; exact q'.here S (by simp only[Rp])⟩
 cases a<;>cases b<;>first
  | exact gen q
  | (simp only[Rp] at ra rb; subst ra rb; exact sc _ rfl (by first|(rw[rW]; rfl)|(rw[xb]; rfl)|(rw[uU]; rfl)|rfl|simp) q)
def inA (neg:Bool) (a b:AV) (μ:Mu):Rs AV:=match a,b with
 | .str y,.str x=>.ok (.bl (if neg then !(!(Builtin.Str.occurrences ⟨x.toArray⟩ ⟨y.toArray⟩ 0 x.length 1).isEmpty) else !(Builtin.Str.occurrences ⟨x.toArray⟩ ⟨y.toArray⟩ 0 x.length 1).isEmpty)) μ
 | _,_=>.no
theorem KP:jh X (compareOp .In) (rA X.K (inA false)):=by
 intro pq s σ H x y v u Q I rx ry ⟨a,b,μ,em,ra,rb,S,q⟩
 cases a with
 | str z=>
  cases b with
  | str w=>
   simp only[Rp] at ra rb;subst ra rb;refine zX pq s σ H _ _ v u Q I rx ry ⟨_,_,rfl,rfl,?_⟩;rw[gS];exact q.here S (by simp only[Rp]<;>rfl)
  | _=>exact q.elim
 | _=>cases b<;>exact q.elim
def cM (a b:AV) (μ:Mu):Rs AV:=match a,b with
 | .loc i,.int k=>match bu μ i with
  | some ds=>match atI ds k with
   | some d=>.ok d μ
   | none=>.no
  | none=>.no
 | .tup ds,.int k=>match atI ds k with
  | some d=>.ok d μ
  | none=>.no
 | .str x,.int k=>if x.length≤cE then match atI x k with
   | some c=>.ok (.str [c]) μ
   | none=>.no
  else .no
 | _,_=>.no
theorem de.atI {K:q04} {em:Em} {ds:List AV} {xs:List V} {k:Int} {d:AV} (r:de K em H ds xs) (e:atI ds k=some d):∃ v,L2.atI xs k=some v∧Rp K em H d v:=by
 unfold L2.atI at e⊢;rw[r.length]
 cases h:AB ds.length k with
 | none=>rw[h] at e; cases e
 | some j=>
  rw[h] at e;exact r.get (i:=j) e
theorem Md:Ix X (rA X.K cM):=by
 intro value slice pq s σ H x y v u Q I rx ry ⟨a,b,μ,em,ra,rb,S,q⟩ hs
 cases a with
 | loc i=>
  cases b with
  | int k=>
   simp only[Rp] at ra rb;obtain⟨p,ep,rfl⟩:=ra;subst rb;unfold cM at q
   cases h:bu μ i with
   | none=>simp only[h] at q; exact q.elim
   | some ds=>
    simp only[h] at q
    cases h2:L2.atI ds k with
    | none=>simp only[h2] at q; exact q.elim
    | some d=>
     simp only[h2] at q;obtain⟨xs,hq,rl⟩:=S.sq h ep;obtain⟨w,ew,rw'⟩:=rl.atI h2;exact DN value slice pq s σ H _ _ v u Q I rx ry ⟨p,xs,k,w,rfl,rfl,hq,ew,q.here S rw'⟩ hs
  | _=>exact q.elim
 | tup ds=>
  cases b with
  | int k=>
   simp only[Rp] at ra rb;obtain⟨p,xs,rfl,hq,rl⟩:=ra;subst rb;unfold cM at q
   cases h2:L2.atI ds k with
   | none=>simp only[h2] at q; exact q.elim
   | some d=>
    simp only[h2] at q;obtain⟨w,ew,rw'⟩:=rl.atI h2;exact HN value slice pq s σ H _ _ v u Q I rx ry ⟨p,xs,k,w,rfl,rfl,hq,ew,q.here S rw'⟩ hs
  | _=>exact q.elim
 | str z=>
  cases b with
  | int k=>
   simp only[Rp] at ra rb;subst ra rb;obtain⟨hz,q⟩:=jb.ite q
   cases h2:L2.atI z k with
   | none=>simp only[h2] at q; exact q.elim
   | some c=>
    simp only[h2] at q;exact GD value slice pq s σ H _ _ v u Q I rx ry ⟨_,k,c,rfl,rfl,by rw[gS,← kj]; exact hz,by simpa using h2,q.here S (by simp only[Rp])⟩ hs
  | _=>exact q.elim
 | _=>cases b<;>exact q.elim
theorem IZ {a b:Expr} {fa fb:FE} (ha:AE X a fa) (hb:AE X b fb) (hs:uW b:=by exact fun _ _=>rfl):AE X (.Subscript a b pos) (aB cM fa fb):=PE.imp (LO Md ha hb hs) fun _ _ _ h=>zb h
end
def kG {α:Type} (xs:List α) (lo hi:Option Int):List α:=(xs.drop (HT.sIx xs.length 0 lo)).take (HT.sIx xs.length xs.length hi-HT.sIx xs.length 0 lo)
section
variable {X:Cx} {pos p2:Pos} {σ:St} {H:Hp}
abbrev FO:=Ev→Mu→Rs (Option Int)
def Cc (K:q04) (em:Em) (H:Hp) (r:Rs (Option Int)) (Q:Option Int→Hp→Prop):Prop:=
 match r with
 | .ok o μ'=>∀ (em':Em) (H':Hp),em<+:em'→gy K H H'→cS K em' μ' H'→Q o H'
 | _=>False
def Nl (X:Cx) (f:FO):TO:=fun σ H Q=>∃ ρ μ em,d7 X.K em H ρ σ∧cS X.K em μ H∧Cc X.K em H (f ρ μ) Q
def K7 (X:Cx) (e:Option Expr) (f:FO):Prop:=PO X e (Nl X f)
def kQ:FO:=fun _ μ=>.ok none μ
def lb (f:FE):FO:=fun ρ μ=>(f ρ μ).bd fun d μ1=>match d with
 | .int i=>.ok (some i) μ1
 | _=>.no
theorem PO.imp {e:Option Expr} {t t':TO} (h:PO X e t) (i:∀ σ H Q,t' σ H Q→t σ H Q):PO X e t':=fun pq s σ H Q I q=>h pq s σ H Q I (i σ H Q q)
theorem sk:K7 X none kQ:=PO.imp EG fun σ H Q ⟨ρ,μ,em,E,S,h⟩=>h em H (q09 _) gy.refl S
theorem Cc.mono {K:q04} {em em1:Em} {H1:Hp} {r:Rs (Option Int)} {Q:Option Int→Hp→Prop} (h:Cc K em H r Q) (p:em<+:em1) (x:gy K H H1):Cc K em1 H1 r Q:=by
 cases r with
 | ok d μ'=>exact fun em' H' p' x'=>h em' H' (p.trans p') (x.trans x')
 | exc C fs μ'=>exact h
 | no=>exact h
theorem nP {e:Expr} {f:FE} (h:AE X e f):K7 X (some e) (lb f):=PO.imp (D0 h) fun σ H Q ⟨ρ,μ,em,E,S,h⟩=>
 dw (step (P:=fun em H r=>Cc X.K em H r Q) (fun h p x=>h.mono p x) (fun h=>h) (fun h=>h) E S h) fun v H1 ⟨em1,d,μ1,M,r,h1⟩=>by
  cases d with
  | int i=>simp only[Rp] at r; exact⟨i,r,h1 em1 H1 (q09 _) gy.refl M.S⟩
  | _=>exact h1.elim
def AH (g:AV→Option Int→Option Int→Mu→Rs AV) (fe:FE) (fl fu:FO):FE:=fun ρ μ=>(fe ρ μ).bd fun d μ1=>(fl ρ μ1).bd fun lo μ2=>(fu ρ μ2).bd fun hi μ3=>g d lo hi μ3
def Gc (K:q04) (g:AV→Option Int→Option Int→Mu→Rs AV):V→Option Int→Option Int→Hp→VK→Prop:=fun x lo hi H Q=>∃ a μ em,Rp K em H a x∧cS K em μ H∧jb K em H (g a lo hi μ) Q
theorem Fm {f:FO} {k:Option Int→Mu→Rs AV} {em:Em} {μ:Mu} {ρ:Ev} {Q:VK} (E:d7 X.K em H ρ σ) (S:cS X.K em μ H) (h:jb X.K em H ((f ρ μ).bd k) Q) :
  Nl X f σ H fun o H1=>∃ em1 μ1,yE X.K em H ρ σ em1 μ1 H1∧jb X.K em1 H1 (k o μ1) Q:=by
 refine⟨ρ,μ,em,E,S,?_⟩
 cases e:f ρ μ with
 | ok d μ1=>
  rw[e] at h
  exact fun em1 H1 p x S1=>⟨em1,μ1,⟨p,x,E.mono p x,S1⟩,jb.mono h p x⟩
 | exc C fs μ1=>rw[e] at h; exact h.elim
 | no=>rw[e] at h; exact h.elim
theorem vT {f:FO} {Q Q':Option Int→Hp→Prop} (h:Nl X f σ H Q) (i:∀ v H,Q v H→Q' v H):Nl X f σ H Q':=by
 obtain⟨ρ,μ,em,E,S,h⟩:=h;refine⟨ρ,μ,em,E,S,?_⟩
 cases e:f ρ μ with
 | ok d μ'=>rw[e] at h; exact fun em' H' p x S=>i _ _ (h em' H' p x S)
 | exc C fs μ'=>rw[e] at h; exact h
 | no=>rw[e] at h; exact h
theorem wJ {g:AV→Option Int→Option Int→Mu→Rs AV} {e:Expr} {lo hi:Option Expr} {fe:FE} {fl fu:FO} (hr:Ig X (Gc X.K g)) (he:AE X e fe) (hl:K7 X lo fl) (hu:K7 X hi fu):AE X (.Subscript e (.Slice lo hi none p2) pos) (AH g fe fl fu):=
 PE.imp (Cu hr he hl hu) fun σ H Q ⟨ρ,μ,em,E,S,h⟩=>dw (kl (f:=fe) E S h) fun x H1 ⟨em1,d,μ1,M,r,h1⟩=>
  vT (Fm (f:=fl) M.E M.S h1) fun o H2 ⟨em2,μ2,M2,h2⟩=>vT (Fm (f:=fu) M2.E M2.S h2) fun o2 H3 ⟨em3,μ3,M3,h3⟩=>
   ⟨d,μ3,em3,(r.mono M2.p M2.x).mono M3.p M3.x,M3.S,h3⟩
def RT (a:AV) (lo hi:Option Int) (μ:Mu):Rs AV:=match a with
 | .loc i=>match bu μ i with
  | some ds=>.ok (.loc μ.length) (μ++[.lst (kG ds lo hi)])
  | none=>.no
 | _=>.no
theorem de.cut {K:q04} {em:Em} {ds:List AV} {xs:List V} (r:de K em H ds xs) (lo hi:Option Int):de K em H (kG ds lo hi) (wn xs lo hi):=by
 unfold kG wn;rw[r.length];exact(r.drop _).take _
theorem Jv:Ig X (Gc X.K RT):=by
 intro pq s σ H x v vl vu lo hi sl Q I rx hs pl pu ⟨a,μ,em,ra,S,q⟩
 cases a with
 | loc i=>
  simp only[Rp] at ra;obtain⟨p,ep,rfl⟩:=ra;unfold RT at q
  cases h:bu μ i with
  | none=>simp only[h] at q; exact q.elim
  | some ds=>
   simp only[h] at q;obtain⟨xs,hq,rl⟩:=S.sq h ep;refine Dj pq s σ H _ v vl vu lo hi sl Q I rx hs pl pu ⟨p,xs,rfl,hq,fun p' hp=>?_⟩;obtain⟨S2,r2⟩:=S.newL hp (rl.cut lo hi);exact q _ _ _ (q53 _ _) (gy.fresh hp) S2 r2
 | _=>exact q.elim
variable {x:Str} {p:Pos} {e:Expr} {es:List Expr} {fl:FL} {id T:String}
def ko (g:List AV→Mu→Rs AV) (fl:FL):FE:=fun ρ μ=>(fl ρ μ).bd g
def CT (K:q04) (g:List AV→Mu→Rs AV):List V→Hp→VK→Prop:=fun xs H Q=>∃ ds μ em,de K em H ds xs∧cS K em μ H∧jb K em H (g ds μ) Q
theorem Cg {g:List AV→Mu→Rs AV} (hc:ki X (.builtin id) (CT X.K g)) (hv:bootBuiltins x=some (.builtin id)) (ha:AA X (e::es) fl) (hm:X.mg x=none) (hg:Gl X x:=by rfl) (hn:x≠"__name__":=by decide+kernel) (hdb:(x==("__debug__":Str))=false:=by decide+kernel)
  (he:starEach (e::es) X.env=(false,eval e X.env)::starEach es X.env:=by rfl) (hpl:(backTo pos (starEach es X.env)).any (·.1)=false:=by rfl):AE X (.Call (.Name x p) (e::es) [] pos) (ko g fl):=
 PE.imp (wm hc hg hm hv ha hn hdb he hpl) fun σ H Q ⟨ρ,μ,em,E,S,h⟩=>jA (pG (f:=fl) E S h) fun vs H1 ⟨em1,ds,μ1,M,r,h1⟩=>⟨ds,μ1,em1,r,M.S,h1⟩
def gJ (ds:List AV) (μ:Mu):Rs AV:=match ds with
 | [.str x]=>if x.length≤cE then .ok (.int x.length) μ else .no
 | [.tup ds]=>.ok (.int ds.length) μ
 | [.loc i]=>match bu μ i with
  | some ds=>.ok (.int ds.length) μ
  | none=>.no
 | _=>.no
theorem fZ:ki X (.builtin "len") (CT X.K gJ):=by
 intro pq s σ H xs us Q I rs ⟨ds,μ,em,rl,S,q⟩
 match ds,rl,q with
 | [],_,q=>exact q.elim
 | a::b::t,_,q=>cases a<;>exact q.elim
 | [a],rl,q=>
  obtain⟨x,r,rfl,ra,rt⟩:=rl.uncons;have:=rt.unnil;subst this
  cases a with
  | str z=>
   simp only[Rp] at ra;subst ra;obtain⟨hz,q⟩:=jb.ite q;exact tf pq s σ H _ us Q I rs ⟨_,z.length,rfl,⟨by rw[gS,← kj]; exact hz,(gS z).symm⟩,q.here S (by simp only[Rp])⟩
  | tup ds=>
   simp only[Rp] at ra;obtain⟨p,xs,rfl,hq,rl⟩:=ra;exact tf pq s σ H _ us Q I rs ⟨_,ds.length,rfl,.inr ⟨xs,hq,rl.length.symm⟩,q.here S (by simp only[Rp])⟩
  | loc i=>
   simp only[Rp] at ra;obtain⟨p,ep,rfl⟩:=ra;unfold gJ at q
   cases h:bu μ i with
   | none=>simp only[h] at q; exact q.elim
   | some ds=>
    simp only[h] at q;obtain⟨xs,hq,rl⟩:=S.sq h ep;exact tf pq s σ H _ us Q I rs ⟨_,ds.length,rfl,.inl ⟨xs,hq,rl.length.symm⟩,q.here S (by simp only[Rp])⟩
  | _=>exact q.elim
theorem ui:bootBuiltins "isinstance"=some (.builtin "isinstance"):=by decide+kernel
theorem GJ:bootBuiltins "str"=some (.type "str"):=by decide+kernel
def G0 (K:q04) (g:AV→List AV→Mu→Rs AV):V→List V→Hp→VK→Prop:=fun x xs H Q=>∃ d ds μ em,Rp K em H d x∧de K em H ds xs∧cS K em μ H∧jb K em H (g d ds μ) Q
def HW (T:String) (d:AV) (μ:Mu):Bool:=match d with
 | .str _=>T=="str"
 | .loc i=>T=="list"&&(bu μ i).isSome
 | _=>false
def sh (T:String) (g:AV→List AV→Mu→Rs AV) (fo:FE) (fl:FL):FE:=fun ρ μ=>(fo ρ μ).bd fun d μ1=>if HW T d μ1=true then (fl ρ μ1).bd fun ds μ2=>g d ds μ2 else .no
theorem GO {d:AV} {μ:Mu} {em:Em} {v:V} (h:HW T d μ=true) (r:Rp X.K em H d v) (S:cS X.K em μ H):SF X.K T v H:=by
 cases d with
 | str z=>simp only[Rp] at r; subst r; exact beq_iff_eq.mp h
 | loc i=>
  simp only[Rp] at r;obtain⟨p,ep,rfl⟩:=r;have h':(T=="list"&&(bu μ i).isSome)=true:=h;rw[q08] at h'
  cases e:bu μ i with
  | none=>rw[e] at h'; cases h'.2
  | some ds=>
   obtain⟨xs,hq,_⟩:=S.sq e ep;exact .inl ⟨beq_iff_eq.mp h'.1,xs,hq⟩
 | _=>cases h
theorem KB {g:AV→List AV→Mu→Rs AV} {o:Expr} {fo:FE} {name:Str} {apos cpos:Pos} (T:String) (pa:PlainAttrs T) (slot:Slot T name id) (hty:typeOf (.builtin id)=pure (.type "method_descriptor")) (hm:Ds X id (G0 X.K g)) (ho:AE X o fo) (ha:AA X (e::es) fl)
  (hbase:attributeBase o name X.env (eval o X.env)=eval o X.env:=by rfl)
  (hfew:((backTo cpos (starEach (e::es) X.env)).all (fun x=>!x.1)&&(backToKw cpos (keywordEach [] X.env)).all (fun x=>x.1.isSome)
   && decide ((e::es).length+([]:List Keyword).length+(if ([]:List Keyword).isEmpty then 0 else 1)<30))=true:=by rfl)
  (hline:(apos.endLine==cpos.line)=true:=by rfl) (hs:starEach (e::es) X.env=(false,eval e X.env)::starEach es X.env:=by rfl) (hplain:(backTo cpos (starEach es X.env)).any (·.1)=false:=by rfl) :
  AE X (.Call (.Attribute o name apos) (e::es) [] cpos) (sh T g fo fl):=
 PE.imp (LC pa slot hty hm ho ha hbase hfew hline hs hplain) fun σ H Q ⟨ρ,μ,em,E,S,h⟩=>dw (kl (f:=fo) E S h) fun v H1 ⟨em1,d,μ1,M,r,h1⟩=>by
  obtain⟨ht,h1⟩:=jb.ite h1;refine⟨GO ht r M.S,?_⟩
  exact jA (pG (f:=fl) M.E M.S h1) fun vs H2 ⟨em2,ds,μ2,M2,rl,h2⟩=>⟨d,ds,μ2,em2,r.mono M2.p M2.x,rl,M2.S,h2⟩
def mv (d:AV) (ds:List AV) (μ:Mu):Rs AV:=match d,ds with
 | .loc i,[y]=>match μ[i]? with
  | some (.lst xs)=>if xs.length<cE then .ok .non (μ.set i (.lst (xs++[y]))) else .no
  | _=>.no
 | _,_=>.no
theorem qj:Ds X "list.append" (G0 X.K mv):=by
 intro pq s σ H x xs v us Q I rx rs ⟨d,ds,μ,em,r,rl,S,q⟩
 cases d with
 | loc i=>
  match ds,rl,q with
  | [],_,q=>exact q.elim
  | _::_::_,_,q=>exact q.elim
  | [y],rl,q=>
   obtain⟨w,t,rfl,rw',rt⟩:=rl.uncons;have:=rt.unnil;subst this;simp only[Rp] at r;obtain⟨a,ea,rfl⟩:=r;unfold mv at q
   cases h:μ[i]? with
   | none=>simp only[h] at q; exact q.elim
   | some o=>
    cases o with
    | lst es=>
     simp only[h] at q;obtain⟨hz,q⟩:=jb.ite q;obtain⟨zs,hz',rz⟩:=S.obj i a _ ea h;refine uq pq s σ H _ _ v us Q I rx rs ⟨a,zs,w,rfl,rfl,hz',by rw[rz.length,← kj]; exact hz,?_⟩;obtain⟨S2,x2⟩:=S.setL ea h (rz.append (de.cons rw' de.nil));exact q em _ _ (q09 _) x2 S2 (by simp only[Rp])
    | _=>simp only[h] at q; exact q.elim
 | _=>exact q.elim
def uB (d:AV) (ds:List AV) (μ:Mu):Rs AV:=match d,ds with
 | .str x,[.str y]=>.ok (.int (Txt.find ⟨x.toArray⟩ ⟨y.toArray⟩)) μ
 | _,_=>.no
theorem yX:Ds X "str.find" (G0 X.K uB):=by
 intro pq s σ H x xs v us Q I rx rs ⟨d,ds,μ,em,r,rl,S,q⟩
 cases d with
 | str z=>
  match ds,rl,q with
  | [],_,q=>exact q.elim
  | a::_::_,_,q=>cases a<;>exact q.elim
  | [y],rl,q=>
   obtain⟨w,t,rfl,rw',rt⟩:=rl.uncons;have:=rt.unnil;subst this
   cases y with
   | str y=>
    simp only[Rp] at r rw';subst r rw';obtain⟨t1,rfl⟩:=rx;obtain⟨u,rfl,t2,rfl⟩:=qS rs;exact SC.find ⟨.int _,H,I.tok _,⟨_,rfl⟩,q.here S (by simp only[Rp])⟩
   | _=>exact q.elim
 | _=>exact q.elim
def Sk (K:q04) (n:Nat) (F:List AV→Mu→Rs AV):Sp:=fun vs H Q _=>vs.length=n∧∃ ds μ em,de K em H ds vs∧cS K em μ H∧jb K em H (F ds μ) Q
def bh (P:Program) (w:World) (K:q04) (mg:Str→Option Value) (base:Heap) (k:Nat) (f:Addr) (fd:FuncData) (ps:List Str) (F:List AV→Mu→Rs AV):Prop:=oa P w K mg base Gb k f fd ps (Sk K ps.length F)
def cq (n:Nat) (F:List AV→Mu→Rs AV) (dfl:List AV) (fl:FL):FE:=fun ρ μ=>(fl ρ μ).bd fun ds μ1=>if ds.length+dfl.length=n then F (ds++dfl) μ1 else .no
theorem DG {k:Nat} {f:Addr} {fd:FuncData} {ps:List Str} {F:List AV→Mu→Rs AV} (D:bh X.prog X.w X.K X.mg X.base k f fd ps F) (hr:iZ k X.A) (hm:X.mg x=some (.ref f)) (hk:q01 X.K (.ref f)=true) (hb:ka X.K fd ps [])
  (ha:AA X (e::es) fl) {n:Nat} (hn:ps.length=n:=by rfl) (hg:Gl X x:=by rfl) (hdb:(x==("__debug__":Str))=false:=by decide+kernel) (he:starEach (e::es) X.env=(false,eval e X.env)::starEach es X.env:=by rfl) (hpl:(backTo pos (starEach es X.env)).any (·.1)=false:=by rfl) :
  AE X (.Call (.Name x p) (e::es) [] pos) (cq n F [] fl):=
 PE.imp (Ej D hr hg hm hk hb .nil uH ha hdb he hpl) fun σ H Q ⟨ρ,μ,em,E,S,h⟩=>jA (pG (f:=fl) E S h) fun vs H1 ⟨em1,ds,μ1,M,r,h1⟩=>by
  obtain⟨hl,h1⟩:=jb.ite h1;refine⟨?_,ds,μ1,em1,by rw[q31]; exact r,M.S,by rw[q31] at h1; exact h1⟩;rw[q31,r.length,hn]
  simpa using hl
end
inductive Fl where
 | nx (ρ:Ev)
 | rt (d:AV)
 | bk (ρ:Ev)
 | ct (ρ:Ev)
abbrev FS:=Ev→Mu→Rs Fl
def m6 (K:q04) (em:Em) (H:Hp) (r:Rs Fl) (D:tT):Prop:=
 match r with
 | .ok (.nx ρ') μ'=>∀ (em':Em) (H':Hp) (σ':St),em<+:em'→gy K H H'→cS K em' μ' H'→d7 K em' H' ρ' σ'→D.nx σ' H'
 | .ok (.rt d) μ'=>∀ (em':Em) (H':Hp) (v:V),em<+:em'→gy K H H'→cS K em' μ' H'→Rp K em' H' d v→D.rt v H'
 | .ok (.bk ρ') μ'=>∀ (em':Em) (H':Hp) (σ':St),em<+:em'→gy K H H'→cS K em' μ' H'→d7 K em' H' ρ' σ'→D.bk σ' H'
 | .ok (.ct ρ') μ'=>∀ (em':Em) (H':Hp) (σ':St),em<+:em'→gy K H H'→cS K em' μ' H'→d7 K em' H' ρ' σ'→D.ct σ' H'
 | _=>False
def Ro (X:Cx) (f:FS):TS:=fun D σ H=>∃ ρ μ em,d7 X.K em H ρ σ∧cS X.K em μ H∧m6 X.K em H (f ρ μ) D
def AS (X:Cx) (st:Stmt) (f:FS):Prop:=PS X st (Ro X f)
def BV (X:Cx) (st:List Stmt) (f:FS):Prop:=wY X st (Ro X f)
section
variable {K:q04} {em em1:Em} {H H1:Hp} {X:Cx} {pos:Pos} {σ:St} {μ:Mu} {ρ:Ev}
theorem m6.mono {r:Rs Fl} {D:tT} (h:m6 K em H r D) (p:em<+:em1) (x:gy K H H1):m6 K em1 H1 r D:=by
 cases r with
 | ok fl μ'=>cases fl<;>exact fun em' H' v p' x'=>h em' H' v (p.trans p') (x.trans x')
 | exc C fs μ'=>exact h
 | no=>exact h
theorem sG {f:FE} {k:AV→Mu→Rs Fl} {D:tT} (E:d7 X.K em H ρ σ) (S:cS X.K em μ H) (h:m6 X.K em H ((f ρ μ).bd k) D) :
  tA X f σ H fun v H1=>∃ em1 d μ1,yE X.K em H ρ σ em1 μ1 H1∧Rp X.K em1 H1 d v∧m6 X.K em1 H1 (k d μ1) D:=
 step (P:=fun em H r=>m6 X.K em H r D) (fun h p x=>h.mono p x) (fun h=>h) (fun h=>h) E S h
theorem DU {f:FB} {k:Bool→Mu→Rs Fl} {D:tT} (E:d7 X.K em H ρ σ) (S:cS X.K em μ H) (h:m6 X.K em H ((f ρ μ).bd k) D) :
  AF X f σ H fun b H1=>∃ em1 μ1,yE X.K em H ρ σ em1 μ1 H1∧m6 X.K em1 H1 (k b μ1) D:=
 bx (P:=fun em H r=>m6 X.K em H r D) (fun h p x=>h.mono p x) (fun h=>h) (fun h=>h) E S h
def dE:FS:=fun ρ μ=>.ok (.nx ρ) μ
def aG (f g:FS):FS:=fun ρ μ=>match f ρ μ with
 | .ok (.nx ρ1) μ1=>g ρ1 μ1
 | r=>r
theorem aO:BV X [] dE:=wY.imp DV fun D σ H ⟨ρ,μ,em,E,S,h⟩=>h em H σ (q09 _) gy.refl S E
theorem ai {st:Stmt} {f:FS} (h:AS X st f):BV X [st] f:=De h
theorem aj {st:Stmt} {rest:List Stmt} {f g:FS} (h1:AS X st f) (h2:BV X rest g):BV X (st::rest) (aG f g):=
 wY.imp (BY h1 h2) fun D σ H ⟨ρ,μ,em,E,S,h⟩=>by
  refine⟨ρ,μ,em,E,S,?_⟩;unfold aG at h
  cases e:f ρ μ with
  | ok fl μ1=>
   cases fl with
   | nx ρ1=>
    simp only[e] at h
    exact fun em' H' σ' p x S' E'=>⟨ρ1,μ1,em',E',S',h.mono p x⟩
   | rt d=>simp only[e] at h; exact h
   | bk ρ1=>simp only[e] at h; exact h
   | ct ρ1=>simp only[e] at h; exact h
  | exc C fs μ1=>simp only[e] at h; exact h
  | no=>simp only[e] at h; exact h
variable {e c:Expr} {fe:FE} {fc:FB} {a b:List Stmt} {fa fb:FS}
def aN (f:FE):FS:=fun ρ μ=>(f ρ μ).bd fun d μ1=>.ok (.rt d) μ1
theorem ar (h:AE X e fe):AS X (.Return (some e) pos) (aN fe):=
 PS.imp (Ha h) fun D σ H ⟨ρ,μ,em,E,S,h⟩=>dw (sG (f:=fe) E S h) fun v H1 ⟨em1,d,μ1,M,r,h1⟩=>h1 em1 H1 v (q09 _) gy.refl M.S r
def kN (f:FE):FS:=fun ρ μ=>(f ρ μ).bd fun _ μ1=>.ok (.nx ρ) μ1
theorem Dy (h:AE X e fe) (hs:swapsWith e none pos.line X.env=pure false:=by rfl):AS X (.Expr e pos) (kN fe):=
 PS.imp (Dn h hs) fun D σ H ⟨ρ,μ,em,E,S,h⟩=>dw (sG (f:=fe) E S h) fun v H1 ⟨em1,d,μ1,M,r,h1⟩=>h1 em1 H1 σ (q09 _) gy.refl M.S M.E
def df (fc:FB) (fa fb:FS):FS:=fun ρ μ=>(fc ρ μ).bd fun k μ1=>if k then fa ρ μ1 else fb ρ μ1
theorem bv (hc:AT X c fc) (ha:BV X a fa) (hb:BV X b fb):AS X (.If c a b pos) (df fc fa fb):=
 PS.imp (Mz hc ha hb) fun D σ H ⟨ρ,μ,em,E,S,h⟩=>nu (DU (f:=fc) E S h) fun k H1 ⟨em1,μ1,M,h1⟩=>by
  cases k with
  | true=>exact wl ⟨ρ,μ1,em1,M.E,M.S,h1⟩
  | false=>exact vS ⟨ρ,μ1,em1,M.E,M.S,h1⟩
abbrev FG:=AV→Ev→Mu→Rs Ev
def tz (K:q04) (em:Em) (H:Hp) (r:Rs Ev) (Q:St→Hp→Prop):Prop:=
 match r with
 | .ok ρ' μ'=>∀ (em':Em) (H':Hp) (σ':St),em<+:em'→gy K H H'→cS K em' μ' H'→d7 K em' H' ρ' σ'→Q σ' H'
 | _=>False
def Np (X:Cx) (g:FG):TG:=fun v σ H Q=>∃ d ρ μ em,Rp X.K em H d v∧d7 X.K em H ρ σ∧cS X.K em μ H∧tz X.K em H (g d ρ μ) Q
def AG (X:Cx) (tg:Expr) (g:FG):Prop:=PG X tg (Np X g)
def Yl (X:Cx) (g:List AV→Ev→Mu→Rs Ev):Dl:=fun vs σ H Q=>∃ ds ρ μ em,de X.K em H ds vs∧d7 X.K em H ρ σ∧cS X.K em μ H∧tz X.K em H (g ds ρ μ) Q
def EU (X:Cx) (ts:List Expr) (g:List AV→Ev→Mu→Rs Ev):Prop:=CS X ts (Yl X g)
theorem PG.imp {tg:Expr} {t t':TG} (h:PG X tg t) (i:∀ v σ H Q,t' v σ H Q→t v σ H Q):PG X tg t':=fun pq s σ H v u Q I r q=>h pq s σ H v u Q I r (i v σ H Q q)
theorem CS.imp {ts:List Expr} {t t':Dl} (h:CS X ts t) (i:∀ v σ H Q,t' v σ H Q→t v σ H Q):CS X ts t':=fun pq s σ H v u Q I r q=>h pq s σ H v u Q I r (i v σ H Q q)
theorem tz.mono {r:Rs Ev} {Q:St→Hp→Prop} (h:tz K em H r Q) (p:em<+:em1) (x:gy K H H1):tz K em1 H1 r Q:=by
 cases r with
 | ok d μ'=>exact fun em' H' v p' x'=>h em' H' v (p.trans p') (x.trans x')
 | exc C fs μ'=>exact h
 | no=>exact h
def dn (i:Nat):FG:=fun d ρ μ=>.ok (ρ.set i (some d)) μ
theorem iz (i:Nat) {x:Str} (hN:X.N.Nodup) (hi:X.N[i]?=some x:=by rfl) (hx:HQ X.env.scope x:=by first|exact Or.inl rfl|exact Or.inr rfl) (hf:X.fn x=true∨X.env.scope.names.lookup x=some .local:=by first|exact .inl rfl|exact .inr rfl):AG X (.Name x pos) (dn i):=
 PG.imp (Er hN hi hx hf) fun v σ H Q ⟨d,ρ,μ,em,r,E,S,h⟩=>h em H _ (q09 _) gy.refl S (E.set r i)
def mQ:List AV→Ev→Mu→Rs Ev:=fun ds ρ μ=>match ds with
 | []=>.ok ρ μ
 | _=>.no
def gB (g:FG) (gs:List AV→Ev→Mu→Rs Ev):List AV→Ev→Mu→Rs Ev:=fun ds ρ μ=>match ds with
 | d::r=>(g d ρ μ).bd fun ρ1 μ1=>gs r ρ1 μ1
 | []=>.no
theorem si:EU X [] mQ:=CS.imp DP fun vs σ H Q ⟨ds,ρ,μ,em,r,E,S,h⟩=>by
 cases ds with
 | nil=>exact⟨r.unnil,h em H σ (q09 _) gy.refl S E⟩
 | cons d r=>exact h.elim
theorem AQ {t:Expr} {ts:List Expr} {g:FG} {gs:List AV→Ev→Mu→Rs Ev} (h1:AG X t g) (h2:EU X ts gs) (hs:(assignEach (t::ts) X.env).map (·.2)=assign t X.env::(assignEach ts X.env).map (·.2):=by rfl):EU X (t::ts) (gB g gs):=
 CS.imp (Cv h1 h2 hs) fun vs σ H Q ⟨ds,ρ,μ,em,r,E,S,h⟩=>by
  cases ds with
  | nil=>exact h.elim
  | cons d ds=>
   obtain⟨v,vr,rfl,r1,r2⟩:=r.uncons;refine⟨v,vr,rfl,d,ρ,μ,em,r1,E,S,?_⟩;have h:tz X.K em H ((g d ρ μ).bd fun ρ1 μ1=>gs ds ρ1 μ1) Q:=h
   cases e:g d ρ μ with
   | ok ρ1 μ1=>
    rw[e] at h
    exact fun em' H' σ' p x S' E'=>⟨ds,ρ1,μ1,em',r2.mono p x,E',S',tz.mono h p x⟩
   | exc C fs μ1=>rw[e] at h; exact h
   | no=>rw[e] at h; exact h
def zj (n:Nat) (gs:List AV→Ev→Mu→Rs Ev):FG:=fun d ρ μ=>match d with
 | .tup ds=>if ds.length=n then gs ds ρ μ else .no
 | _=>.no
theorem GE {ts:List Expr} {k n:Nat} {gs:List AV→Ev→Mu→Rs Ev} (hc:X.calm=true) (h:EU X ts gs) (hn:(assignEach ts X.env).length=n:=by rfl) (hst:(assignEach ts X.env).findIdx? (·.1)=none:=by rfl):AG X (.Tuple ts k pos) (zj n gs):=
 PG.imp (Gi hc h hn hst) fun v σ H Q ⟨d,ρ,μ,em,r,E,S,h⟩=>by
  cases d with
  | tup ds=>
   simp only[Rp] at r;obtain⟨a,xs,rfl,hq,rl⟩:=r;have h:tz X.K em H (if ds.length=n then gs ds ρ μ else .no) Q:=h
   by_cases hl:ds.length=n
   ·rw[if_pos hl] at h
    exact⟨a,xs,rfl,hq,by rw[rl.length]; exact hl,ds,ρ,μ,em,rl,E,S,h⟩
   ·rw[if_neg hl] at h
    exact h.elim
  | _=>exact h.elim
def bU (f:FE) (g:FG):FS:=fun ρ μ=>(f ρ μ).bd fun d μ1=>(g d ρ μ1).bd fun ρ1 μ2=>.ok (.nx ρ1) μ2
theorem CJ {f:FE} {g:FG} {D:tT} (h:Ro X (bU f g) D σ H):HE (tA X f) (Np X g) D σ H:=by
 obtain⟨ρ,μ,em,E,S,h⟩:=h
 refine dw (sG (f:=f) E S h) fun v H1 ⟨em1,d,μ1,M,r,h1⟩=>⟨d,ρ,μ1,em1,r,M.E,M.S,?_⟩
 cases e:g d ρ μ1 with
 | ok ρ1 μ2=>simp only[e,Rs.bd_ok] at h1; exact h1
 | exc C fs μ2=>simp only[e,Rs.bd_exc] at h1; exact h1
 | no=>simp only[e,Rs.bd_no] at h1; exact h1
theorem Ho (i:Nat) {x:Str} {pos':Pos} (hN:X.N.Nodup) (he:AE X e fe) (hi:X.N[i]?=some x:=by rfl) (hx:HQ X.env.scope x:=by first|exact Or.inl rfl|exact Or.inr rfl) (hs:swapsWith e (some (.Name x pos')) pos.line X.env=pure false:=by rfl)
  (hf:X.fn x=true∨X.env.scope.names.lookup x=some .local:=by first|exact .inl rfl|exact .inr rfl):AS X (.Assign [.Name x pos'] e pos) (bU fe (dn i)):=
 PS.imp (FV hN hi hx he hs hf) fun D σ H h=>by
  have h:=CJ h
  refine dw h fun v H1 ⟨d,ρ,μ,em,r,E,S,q⟩=>?_
  exact q em H1 _ (q09 _) gy.refl S (E.set r i)
theorem FT {tg:Expr} {g:FG} (he:AE X e fe) (hg:AG X tg g) (hs:swapsWithSole [tg] e pos.line X.env=pure false:=by rfl) (hw:swappedStores [tg] e X.env=pure none:=by rfl)
  (h1:(assignEach [tg] X.env).map (·.2)=[assign tg X.env]:=by rfl):AS X (.Assign [tg] e pos) (bU fe g):=PS.imp (Hf he hg hs hw h1) fun D σ H h=>CJ h
def AU:Nat→FB→FS→FS
 | 0,_,_=>fun _ _=>.no
 | n+1,fc,fb=>fun ρ μ=>(fc ρ μ).bd fun k μ1=>if k then (match fb ρ μ1 with
   | .ok (.nx ρ2) μ2=>AU n fc fb ρ2 μ2
   | .ok (.ct ρ2) μ2=>AU n fc fb ρ2 μ2
   | .ok (.bk ρ2) μ2=>.ok (.nx ρ2) μ2
   | r=>r) else .ok (.nx ρ) μ1
inductive vq where
 | l (i:Nat)
 | s (ds:List AV)
def vq.get (it:vq) (μ:Mu) (k:Nat):Option (Option AV):=match it with
 | .l i=>(bu μ i).map fun ds=>ds[k]?
 | .s ds=>some ds[k]?
def m5:Nat→vq→Nat→FG→FS→FS
 | 0,_,_,_,_=>fun _ _=>.no
 | n+1,it,k,g,fb=>fun ρ μ=>match it.get μ k with
  | none=>.no
  | some none=>.ok (.nx ρ) μ
  | some (some d)=>(g d ρ μ).bd fun ρ1 μ1=>match fb ρ1 μ1 with
   | .ok (.nx ρ2) μ2=>m5 n it (k+1) g fb ρ2 μ2
   | .ok (.ct ρ2) μ2=>m5 n it (k+1) g fb ρ2 μ2
   | .ok (.bk ρ2) μ2=>.ok (.nx ρ2) μ2
   | r=>r
def Tc (K:q04) (em:Em) (H:Hp) (it:vq) (J:It):Prop:=
 ∀ (em2:Em) (H2:Hp) (μ2:Mu) (k:Nat),em<+:em2→gy K H H2→cS K em2 μ2 H2→
  (it.get μ2 k=some none→J.stop k H2)∧∀ d,it.get μ2 k=some (some d)→J.go k H2∧∀ x H3,J.yld k H2 x H3→H3=H2∧Rp K em2 H2 d x
abbrev FI:=Ev→Mu→Rs vq
def vz (K:q04) (em:Em) (H:Hp) (r:Rs vq) (R:It→Hp→Prop):Prop:=
 match r with
 | .ok it μ'=>∀ (em':Em) (H':Hp) (J:It),em<+:em'→gy K H H'→cS K em' μ' H'→Tc K em' H' it J→R J H'
 | _=>False
def tAI (X:Cx) (f:FI):TI:=fun σ H R=>∃ ρ μ em,d7 X.K em H ρ σ∧cS X.K em μ H∧vz X.K em H (f ρ μ) R
def AI (X:Cx) (tg e:Expr) (f:FI):Prop:=PI X tg e (tAI X f)
theorem PI.imp {tg e:Expr} {t t':TI} (h:PI X tg e t) (i:∀ σ H R,t' σ H R→t σ H R):PI X tg e t':=fun pq s σ H R I q=>h pq s σ H R I (i σ H R q)
theorem vz.mono {r:Rs vq} {R:It→Hp→Prop} (h:vz K em H r R) (p:em<+:em1) (x:gy K H H1):vz K em1 H1 r R:=by
 cases r with
 | ok d μ'=>exact fun em' H' J p' x'=>h em' H' J (p.trans p') (x.trans x')
 | exc C fs μ'=>exact h
 | no=>exact h
def oO (n:Nat) (fi:FI) (g:FG) (fb:FS):FS:=fun ρ μ=>(fi ρ μ).bd fun it μ1=>m5 n it 0 g fb ρ μ1
theorem HK (n:Nat) {tg iter:Expr} {fi:FI} {g:FG} (hp:PassesOwn (model X.prog X.w) X.A X.env X.xe) (hc:X.calm=true) (hi:AI X tg iter fi) (hg:AG X tg g) (hb:BV X b fb)
  (hs:∀ x,foldedSetIterable iter X.env x=pure x:=by intro _; rfl):AS X (.For tg iter b [] pos) (oO n fi g fb):=
 PS.imp (HG hp hc hi hg hb hs) fun D σ H ⟨ρ,μ,em,E,S,h⟩=>by
  refine⟨ρ,μ,em,E,S,?_⟩;have h:m6 X.K em H ((fi ρ μ).bd fun it μ1=>m5 n it 0 g fb ρ μ1) D:=h
  cases e:fi ρ μ with
  | ok it μ1=>
   rw[e] at h;intro em1 H1 J p1 x1 S1 IR;refine⟨fun i m σ H=>∃ ρ μ em2,em1<+:em2∧gy X.K H1 H∧d7 X.K em2 H ρ σ∧cS X.K em2 μ H∧m6 X.K em2 H (m5 m it i g fb ρ μ) D,⟨n,ρ,μ1,em1,q09 _,gy.refl,E.mono p1 x1,S1,m6.mono h p1 x1⟩,?_⟩;rintro i m σ2 H2 ⟨ρ2,μ2,em2,p2,x2,E2,S2,h2⟩;obtain⟨stop,go⟩:=IR em2 H2 μ2 i p2 x2 S2
   cases m with
   | zero=>exact h2.elim
   | succ m=>
    unfold m5 at h2
    cases eg:it.get μ2 i with
    | none=>simp only[eg] at h2; exact h2.elim
    | some o=>
     cases o with
     | none=>
      simp only[eg] at h2;exact .inl ⟨stop eg,h2 em2 H2 σ2 (q09 _) gy.refl S2 E2⟩
     | some d=>
      simp only[eg] at h2;obtain⟨g1,g2⟩:=go d eg;refine .inr ⟨g1,fun σ' H'=>∃ ρ μ em3,em1<+:em3∧gy X.K H1 H'∧d7 X.K em3 H' ρ σ'∧cS X.K em3 μ H'∧m6 X.K em3 H' (m5 m it (i+1) g fb ρ μ) D,fun σ' H' q=>⟨m,q61 m,q⟩,fun x H3 y=>?_⟩;obtain⟨rfl,rx⟩:=g2 x H3 y;refine⟨d,ρ2,μ2,em2,rx,E2,S2,?_⟩
      cases e3:g d ρ2 μ2 with
      | ok ρ3 μ3=>
       simp only[e3,Rs.bd_ok] at h2;intro em4 H4 σ4 p4 x4 S4 E4;refine⟨ρ3,μ3,em4,E4,S4,?_⟩
       cases e5:fb ρ3 μ3 with
       | ok fl μ5=>
        simp only[e5] at h2
        cases fl with
        | nx ρ5=>exact fun em' H' σ' p x S' E'=>⟨ρ5,μ5,em',p2.trans (p4.trans p),x2.trans (x4.trans x),E',S',m6.mono h2 (p4.trans p) (x4.trans x)⟩
        | ct ρ5=>exact fun em' H' σ' p x S' E'=>⟨ρ5,μ5,em',p2.trans (p4.trans p),x2.trans (x4.trans x),E',S',m6.mono h2 (p4.trans p) (x4.trans x)⟩
        | bk ρ5=>exact m6.mono (r:=.ok (.nx ρ5) μ5) h2 p4 x4
        | rt d5=>exact m6.mono (r:=.ok (.rt d5) μ5) h2 p4 x4
       | exc C fs μ5=>simp only[e5] at h2; exact h2
       | no=>simp only[e5] at h2; exact h2
      | exc C fs μ3=>simp only[e3,Rs.bd_exc] at h2; exact h2
      | no=>simp only[e3,Rs.bd_no] at h2; exact h2
  | exc C fs μ1=>rw[e] at h; exact h
  | no=>rw[e] at h; exact h
def fiL (f:FE):FI:=fun ρ μ=>(f ρ μ).bd fun d μ1=>match d with
 | .loc i=>if (bu μ1 i).isSome=true then .ok (.l i) μ1 else .no
 | _=>.no
theorem EB {tg l:Expr} {f:FE} (h:AE X l f):AI X tg l (fiL f):=
 PI.imp (Dd h) fun σ H R ⟨ρ,μ,em,E,S,h⟩=>dw (step (P:=fun em H r=>vz X.K em H r R) (fun h p x=>h.mono p x) (fun h=>h) (fun h=>h) E S h) fun v H1 ⟨em1,d,μ1,M,r,h1⟩=>by
  cases d with
  | loc i=>
   simp only[Rp] at r;obtain⟨a,ea,rfl⟩:=r;have h1:vz X.K em1 H1 (if (bu μ1 i).isSome=true then .ok (.l i) μ1 else .no) R:=h1
   by_cases hs:(bu μ1 i).isSome=true
   ·rw[if_pos hs] at h1
    obtain⟨ds,hd⟩:=qb5.mp hs;obtain⟨xs,hq,rl⟩:=M.S.sq hd ea;refine⟨a,rfl,⟨xs,hq⟩,h1 em1 H1 _ (q09 _) gy.refl M.S fun em2 H2 μ2 k p x S2=>⟨fun hg=>?_,fun d' hg=>?_⟩⟩
    ·unfold vq.get at hg
     cases e:bu μ2 i with
     | none=>simp only[e,Option.map_none] at hg; cases hg
     | some es=>
      simp only[e,q48] at hg;obtain⟨ys,hy,ry⟩:=S2.sq e (kU p ea);exact⟨ys,hy,by rw[ry.length]; exact q83.mp (q30 hg)⟩
    ·unfold vq.get at hg
     cases e:bu μ2 i with
     | none=>simp only[e,Option.map_none] at hg; cases hg
     | some es=>
      simp only[e,q48] at hg;obtain⟨ys,hy,ry⟩:=S2.sq e (kU p ea);obtain⟨y,ey,rr⟩:=ry.get (q30 hg);refine⟨⟨ys,y,hy,ey⟩,fun x H3 yl=>⟨yl.1,?_⟩⟩;have:=yl.2 ys hy;rw[ey] at this;cases this;exact rr
   ·rw[if_neg hs] at h1
    exact h1.elim
  | _=>exact h1.elim
def fiT (f:FE):FI:=fun ρ μ=>(f ρ μ).bd fun d μ1=>match d with
 | .tup ds=>.ok (.s ds) μ1
 | _=>.no
theorem F5 {tg l:Expr} {f:FE} (h:AE X l f):AI X tg l (fiT f):=
 PI.imp (Ga h) fun σ H R ⟨ρ,μ,em,E,S,h⟩=>dw (step (P:=fun em H r=>vz X.K em H r R) (fun h p x=>h.mono p x) (fun h=>h) (fun h=>h) E S h) fun v H1 ⟨em1,d,μ1,M,r,h1⟩=>by
  cases d with
  | tup ds=>
   simp only[Rp] at r;obtain⟨a,xs,rfl,hq,rl⟩:=r;refine⟨a,rfl,⟨xs,hq⟩,h1 em1 H1 _ (q09 _) gy.refl M.S fun em2 H2 μ2 k p x S2=>⟨fun hg=>?_,fun d' hg=>?_⟩⟩
   ·exact⟨xs,x _ _ hq,by rw[rl.length]; exact q83.mp (q30 hg)⟩
   ·obtain⟨y,ey,rr⟩:=rl.get (q30 hg)
    refine⟨⟨xs,y,x _ _ hq,ey⟩,fun z H3 yl=>⟨yl.1,?_⟩⟩;have:=yl.2 xs (x _ _ hq);rw[ey] at this;cases this;exact rr.mono p x
  | _=>exact h1.elim
def nr (N:List Str) (ds:List AV):Ev:=ds.map some++q45 (N.length-ds.length) none
def wg (n:Nat) (N:List Str) (f:FS):List AV→Mu→Rs AV:=fun ds μ=>match f (nr N ds) μ with
 | .ok (.rt d) μ'=>.ok d μ'
 | .ok (.nx _) μ'=>.ok .non μ'
 | .exc C fs μ'=>.exc C fs μ'
 | _=>.no
theorem de.start {N:List Str} {ds:List AV} {vs:List V} (r:de K em H ds vs):d7 K em H (nr N ds) (start N vs):=by
 unfold nr L2.start;have hl:=r.length;refine⟨by simp[hl],fun i d e=>?_⟩
 by_cases hi:i<ds.length
 ·rw[q16 (by simpa using hi),q33] at e
  cases e2:ds[i]? with
  | none=>rw[e2] at e; cases e
  | some d'=>
   rw[e2] at e;cases e;obtain⟨v,ev,rv⟩:=r.get e2;exact⟨v,by rw[q16 (by rw[q21,hl]; exact hi),q33,ev]; rfl,rv⟩
 ·rw[q27 (by simpa using hi),List.getElem?_replicate] at e
  split at e<;>cases e
end
section
variable {K:q04} {em:Em} {H:Hp} {X:Cx} {pos:Pos} {σ:St} {μ:Mu} {ρ:Ev}
def fiS (f:FE):FI:=fun ρ μ=>(f ρ μ).bd fun d μ1=>match d with
 | .str x=>.ok (.s (x.map fun c=>.str [c])) μ1
 | _=>.no
theorem Gp {tg l:Expr} {f:FE} (h:AE X l f):AI X tg l (fiS f):=
 PI.imp (GA h) fun σ H R ⟨ρ,μ,em,E,S,h⟩=>dw (step (P:=fun em H r=>vz X.K em H r R) (fun h p x=>h.mono p x) (fun h=>h) (fun h=>h) E S h) fun v H1 ⟨em1,d,μ1,M,r,h1⟩=>by
  cases d with
  | str x=>
   simp only[Rp] at r;refine⟨_,r,h1 em1 H1 _ (q09 _) gy.refl M.S fun em2 H2 μ2 k p xx S2=>?_⟩;have eg:(vq.s (x.map fun c=>AV.str [c])).get μ2 k=some (x.map fun c=>AV.str [c])[k]?:=rfl;rw[eg,q33];refine⟨fun hg=>?_,fun d' hg=>?_⟩
   ·cases e:x[k]? with
    | none=>
     show(⟨x.toArray⟩:Str).cps.size≤k
     simpa using q83.mp e
    | some c=>rw[e] at hg; cases hg
   ·cases e:x[k]? with
    | none=>rw[e] at hg; cases hg
    | some c=>
     rw[e] at hg;cases hg;refine⟨by show k<(⟨x.toArray⟩:Str).cps.size; simpa using (q07.mp e).1,fun y H3 yl=>⟨yl.1,?_⟩⟩;simp only[Rp];exact yl.2 c (by simpa using e)
  | _=>exact h1.elim
def jQ:List AV→Option (List (List Nat))
 | []=>some []
 | .str x::r=>(jQ r).map (x::·)
 | _::_=>none
def nz (sep:List Nat):List (List Nat)→List Nat
 | []=>[]
 | [x]=>x
 | x::y::r=>x++sep++nz sep (y::r)
def xj (x:List Nat):Str:=⟨x.toArray⟩
theorem uy:∀ {ds:List AV} {xs:List V} {ys:List (List Nat)},de K em H ds xs→jQ ds=some ys→xs=(ys.map xj).map V.str
 | [],_,_,r,e=>by
  rw[r.unnil];cases e
  rfl
 | d::ds,_,_,r,e=>by
  obtain⟨x,t,rfl,r1,r2⟩:=r.uncons
  cases d with
  | str z=>
   simp only[jQ] at e
   cases h:jQ ds with
   | none=>rw[h] at e; cases e
   | some zs=>
    rw[h] at e;cases e;simp only[Rp] at r1;rw[r1,uy r2 h]
    rfl
  | _=>cases e
theorem yV (sep:List Nat):∀ ys:List (List Nat),Str.join (xj sep) (ys.map xj)=xj (nz sep ys)
 | []=>rfl
 | [x]=>rfl
 | x::y::r=>by
  show xj x++xj sep++Str.join (xj sep) ((y::r).map xj)=_;rw[yV sep (y::r)];exact(congrArg (·++xj (nz sep (y::r))) (uL x sep)).trans (uL (x++sep) (nz sep (y::r)))
theorem Hs (ys:List (List Nat)):((ys.map xj).map (·.length)).sum=(ys.map (·.length)).sum:=by
 induction ys with
 | nil=>rfl
 | cons y r ih=>
  simp only[q42,List.sum_cons,ih];rw[show(xj y).length=y.length from gS y]
end
section
variable {X:Cx} {pos:Pos} {σ:St} {H:Hp}
def pd (a b:AV):Option Bool:=match b with
 | .non=>some (match a with | .non=>true|_=>false)
 | .bl y=>some (match a with | .bl x=>x==y|_=>false)
 | _=>none
def j2 (neg:Bool) (a b:AV) (μ:Mu):Rs AV:=match pd a b with
 | some k=>.ok (.bl (if neg then !k else k)) μ
 | none=>.no
theorem wx {em:Em} {a b:AV} {x y:V} {v u:Value} {k:Bool} (ra:Rp X.K em H a x) (rb:Rp X.K em H b y) (rx:eU x v) (ry:eU y u) (h:pd a b=some k):plainIs v u=true∧(v==u)=k:=by
 cases b with
 | non=>
  simp only[Rp] at rb;subst rb;cases ry;simp only[pd,q51] at h;subst h
  cases a with
  | non=>simp only[Rp] at ra; subst ra; cases rx; exact⟨rfl,rfl⟩
  | bl b=>simp only[Rp] at ra; subst ra; cases rx; exact⟨rfl,rfl⟩
  | int i=>simp only[Rp] at ra; subst ra; obtain⟨t,rfl⟩:=rx; exact⟨rfl,rfl⟩
  | str z=>simp only[Rp] at ra; subst ra; obtain⟨t,rfl⟩:=rx; exact⟨rfl,rfl⟩
  | tup ds=>simp only[Rp] at ra; obtain⟨p,xs,rfl,_⟩:=ra; cases rx; exact⟨rfl,rfl⟩
  | loc i=>simp only[Rp] at ra; obtain⟨p,_,rfl⟩:=ra; cases rx; exact⟨rfl,rfl⟩
 | bl y=>
  simp only[Rp] at rb;subst rb;cases ry;simp only[pd,q51] at h;subst h
  cases a with
  | non=>simp only[Rp] at ra; subst ra; cases rx; exact⟨rfl,rfl⟩
  | bl b=>simp only[Rp] at ra; subst ra; cases rx; cases b<;>cases y<;>exact⟨rfl,rfl⟩
  | int i=>simp only[Rp] at ra; subst ra; obtain⟨t,rfl⟩:=rx; exact⟨rfl,rfl⟩
  | str z=>simp only[Rp] at ra; subst ra; obtain⟨t,rfl⟩:=rx; exact⟨rfl,rfl⟩
  | tup ds=>simp only[Rp] at ra; obtain⟨p,xs,rfl,_⟩:=ra; cases rx; exact⟨rfl,rfl⟩
  | loc i=>simp only[Rp] at ra; obtain⟨p,_,rfl⟩:=ra; cases rx; exact⟨rfl,rfl⟩
 | _=>cases h
theorem nA:jh X (compareOp .Is) (rA X.K (j2 false)):=by
 intro pq s σ H x y v u Q I rx ry ⟨a,b,μ,em,ra,rb,S,q⟩;unfold j2 at q
 cases h:pd a b with
 | none=>simp only[h] at q; exact q.elim
 | some k=>
  simp only[h] at q;obtain⟨p1,p2⟩:=wx ra rb rx ry h;exact wpAny_is_plain p1 ⟨.bl k,H,I,by rw[p2]; rfl,q.here S (by simp only[Rp]; rfl)⟩
theorem eM:jh X (compareOp .IsNot) (rA X.K (j2 true)):=by
 intro pq s σ H x y v u Q I rx ry ⟨a,b,μ,em,ra,rb,S,q⟩;unfold j2 at q
 cases h:pd a b with
 | none=>simp only[h] at q; exact q.elim
 | some k=>
  simp only[h] at q;obtain⟨p1,p2⟩:=wx ra rb rx ry h;exact wpAny_isNot_plain p1 ⟨.bl (!k),H,I,by rw[p2]; rfl,q.here S (by simp only[Rp]; rfl)⟩
def ox:AV→Bool
 | .non=>true
 | .int _=>true
 | .str _=>true
 | _=>false
def E8:AV→AV→Bool
 | .non,.non=>true
 | .int a,.int b=>a==b
 | .str a,.str b=>a==b
 | _,_=>false
def jG (μ:Mu) (d:AV):Option (List AV):=match d with
 | .tup ds=>some ds
 | .loc i=>bu μ i
 | _=>none
def oy (neg:Bool) (a b:AV) (μ:Mu):Rs AV:=match jG μ b with
 | some ds=>if (ox a&&ds.all ox)=true then .ok (.bl (if neg then !(ds.any fun y=>E8 y a) else ds.any fun y=>E8 y a)) μ else .no
 | none=>inA neg a b μ
theorem cS.seq {em:Em} {μ:Mu} {d:AV} {ds:List AV} {x:V} (S:cS X.K em μ H) (h:jG μ d=some ds) (r:Rp X.K em H d x):∃ p xs,x=.ref p∧(oU X.K H p xs∨qc X.K H p xs)∧de X.K em H ds xs:=by
 cases d with
 | tup es=>
  cases h;simp only[Rp] at r;obtain⟨p,xs,rfl,hq,rl⟩:=r;exact⟨p,xs,rfl,.inr hq,rl⟩
 | loc i=>
  simp only[Rp] at r;obtain⟨p,ep,rfl⟩:=r;obtain⟨xs,hq,rl⟩:=S.sq h ep;exact⟨p,xs,rfl,.inl hq,rl⟩
 | _=>cases h
theorem sM {em:Em} {a:AV} {x:V} (r:Rp X.K em H a x) (f:ox a=true):oq x=true:=by
 cases a with
 | non=>simp only[Rp] at r; subst r; rfl
 | int i=>simp only[Rp] at r; subst r; rfl
 | str z=>simp only[Rp] at r; subst r; rfl
 | _=>cases f
theorem Eb {em:Em} {a b:AV} {x y:V} (ra:Rp X.K em H a x) (rb:Rp X.K em H b y) (fa:ox a=true) (fb:ox b=true):Az x y=E8 a b:=by
 cases a with
 | non=>
  cases b with
  | non=>simp only[Rp] at ra rb; subst ra rb; rfl
  | int j=>simp only[Rp] at ra rb; subst ra rb; rfl
  | str w=>simp only[Rp] at ra rb; subst ra rb; rfl
  | _=>cases fb
 | int i=>
  cases b with
  | non=>simp only[Rp] at ra rb; subst ra rb; rfl
  | int j=>simp only[Rp] at ra rb; subst ra rb; rfl
  | str w=>simp only[Rp] at ra rb; subst ra rb; rfl
  | _=>cases fb
 | str z=>
  cases b with
  | non=>simp only[Rp] at ra rb; subst ra rb; rfl
  | int j=>simp only[Rp] at ra rb; subst ra rb; rfl
  | str w=>
   simp only[Rp] at ra rb;subst ra rb;show((⟨z.toArray⟩:Str)==⟨w.toArray⟩)=(z==w);rw[q52,beq_iff_eq,beq_iff_eq,uk]
  | _=>cases fb
 | _=>cases fa
theorem vj {em:Em} {a:AV} {x:V} (ra:Rp X.K em H a x) (fa:ox a=true):∀ {ds:List AV} {xs:List V},de X.K em H ds xs→ds.all ox=true→xs.all oq=true∧NG x xs=ds.any fun y=>E8 y a
 | [],_,r,_=>by rw[r.unnil]; exact⟨rfl,rfl⟩
 | d::ds,_,r,f=>by
  obtain⟨y,t,rfl,r1,r2⟩:=r.uncons;rw[q49,q08] at f;obtain⟨h1,h2⟩:=vj ra fa r2 f.2;refine⟨by rw[q49,sM r1 f.1,h1]; rfl,?_⟩;show(Az y x||NG x t)=_;rw[h2,List.any_cons,Eb r1 ra f.1 fa]
theorem qm:jh X (compareOp .In) (rA X.K (oy false)):=by
 intro pq s σ H x y v u Q I rx ry ⟨a,b,μ,em,ra,rb,S,q⟩;unfold oy at q
 cases h:jG μ b with
 | none=>simp only[h] at q; exact KP pq s σ H x y v u Q I rx ry ⟨a,b,μ,em,ra,rb,S,q⟩
 | some ds=>
  simp only[h] at q;obtain⟨hc,q⟩:=jb.ite q;rw[q08] at hc;obtain⟨p,xs,rfl,hq,rl⟩:=S.seq h rb;obtain⟨f1,f2⟩:=vj ra hc.1 rl hc.2;refine Ag pq s σ H _ _ v u Q I rx ry ⟨p,xs,rfl,hq,sM ra hc.1,f1,?_⟩;rw[f2];exact q.here S (by simp only[Rp]<;>rfl)
theorem nh:jh X (compareOp .NotIn) (rA X.K (oy true)):=by
 intro pq s σ H x y v u Q I rx ry ⟨a,b,μ,em,ra,rb,S,q⟩;unfold oy at q
 cases h:jG μ b with
 | none=>
  simp only[h] at q
  cases a with
  | str z=>
   cases b with
   | str w=>
    simp only[Rp] at ra rb;subst ra rb;refine vM pq s σ H _ _ v u Q I rx ry ⟨_,_,rfl,rfl,?_⟩;rw[gS];exact q.here S (by simp only[Rp]<;>rfl)
   | _=>exact q.elim
  | _=>cases b<;>exact q.elim
 | some ds=>
  simp only[h] at q;obtain⟨hc,q⟩:=jb.ite q;rw[q08] at hc;obtain⟨p,xs,rfl,hq,rl⟩:=S.seq h rb;obtain⟨f1,f2⟩:=vj ra hc.1 rl hc.2;refine u9 pq s σ H _ _ v u Q I rx ry ⟨p,xs,rfl,hq,sM ra hc.1,f1,?_⟩;rw[f2];exact q.here S (by simp only[Rp]<;>rfl)
def bK (a b:AV) (μ:Mu):Rs AV:=match a,b with
 | .tup xs,.tup ys=>if xs.length+ys.length≤cE then .ok (.tup (xs++ys)) μ else .no
 | a,b=>DI a b μ
theorem CA {pq:List (Addr×Obj)} {s:Shared} {a b:Addr} {xs ys:List V} {Q:VK} (I:b9 X pq σ H s) (ha:qc X.K H a xs) (hb:qc X.K H b ys) (hx:xs=[]) (q:Q (.ref b) H) :
  wpAny (model X.prog X.w) X.A (binaryOp .Add (.ref a) (.ref b)) (EP X pq σ Q) X.xe s:=by
 obtain⟨its,r1,p1,_⟩:=I.tuple ha;obtain⟨its2,r2,p2,_⟩:=I.tuple hb;obtain⟨⟨cls,dd,data,sl⟩,ho,hc,n,hd⟩:=id p1;obtain⟨⟨cls2,dd2,data2,Fd⟩,ho2,hc2,n2,hd2⟩:=id p2;simp only at hc hd hc2 hd2;subst hc hd hc2 hd2 hx;cases r1;exact concat_meets ⟨_,ho,rfl⟩ ⟨_,ho2,rfl⟩ noFill_tuple_add seq_tuple_add q92 q90 (q85 _ _)
  (tuple_addW0 a b _ its2.toArray n n2 dd dd2 sl Fd rfl) ⟨ho,ho2,.ref b,H,I,rfl,q⟩
theorem bq:jh X (binaryOp .Add) (rA X.K bK):=by
 intro pq s σ H x y v u Q I rx ry ⟨a,b,μ,em,ra,rb,S,q⟩
 have gen:∀ q':jb X.K em H (DI a b μ) Q,wpAny (model X.prog X.w) X.A (binaryOp .Add v u) (EP X pq σ Q) X.xe s:=fun q'=>Hr pq s σ H x y v u Q I rx ry ⟨a,b,μ,em,ra,rb,S,q'⟩
 cases a with
 | tup ds=>
  cases b with
  | tup es=>
   obtain⟨hc,q⟩:=jb.ite q;simp only[Rp] at ra rb;obtain⟨p1,xs,rfl,h1,r1⟩:=ra;obtain⟨p2,ys,rfl,h2,r2⟩:=rb;cases rx;cases ry
   by_cases hx:xs=[]
   ·refine CA I h1 h2 hx (q em H _ (q09 _) gy.refl S ?_)
    subst hx
    have hd:ds=[]:=by cases ds with
     | nil=>rfl
     | cons d r=>have:=r1.length; simp at this
    subst hd;simp only[Rp];exact⟨p2,ys,rfl,h2,r2⟩
   ·refine Ek pq s σ H (.ref p1) (.ref p2) _ _ Q I rfl rfl ⟨p1,p2,xs,ys,rfl,rfl,h1,h2,hx,by rw[r1.length,r2.length,← kj]; exact hc,fun hy=>?_,fun hy p hp=>?_⟩
    ·refine q em H _ (q09 _) gy.refl S ?_
     subst hy
     have he:es=[]:=by cases es with
      | nil=>rfl
      | cons d r=>have:=r2.length; simp at this
     subst he;simp only[Rp,q31];exact⟨p1,xs,rfl,h1,r1⟩
    ·obtain⟨S2,r3⟩:=S.newT hp (r1.append r2)
     exact q em _ _ (q09 _) (gy.fresh hp) S2 r3
  | _=>exact gen q
 | _=>cases b<;>exact gen q
end
section
variable {X:Cx} {pos:Pos} {σ:St} {H:Hp}
theorem ww {α:Type} {xs:List α} {lo hi:Option Int} (h:HT.sIx xs.length 0 lo=0∧HT.sIx xs.length xs.length hi=xs.length):kG xs lo hi=xs:=by
 unfold kG;rw[h.1,h.2];simp
theorem Mg (lo hi:Option Int) (n:Nat):Builtin.Str.strSliceIndices lo hi 1 n=(List.range (HT.sIx n n hi-HT.sIx n 0 lo)).map (HT.sIx n 0 lo+·):=by
 obtain⟨h1,h2,h3⟩:=pI lo hi n;show sliceRange (sliceBounds lo hi none n).1 (sliceBounds lo hi none n).2.1 1=_;rw[h1,h2,sliceRange_one]
theorem zR (x:List Nat) (lo hi:Option Int):Txt.slice ⟨x.toArray⟩ lo hi=⟨(kG x lo hi).toArray⟩:=by
 unfold Txt.slice;rw[gS,Mg];have hb:HT.sIx x.length x.length hi≤x.length:=HT.sIx_le _ _ (q11 _) hi;split
 ·rename_i h
  simp only[q21,List.length_range,q08,beq_iff_eq] at h;have ha:=HT.sIx_le x.length 0 (Nat.zero_le _) lo;rw[ww];omega
 ·show(⟨_⟩:Str)=_
  rw[pick_run]
  rfl
theorem xl {pq:List (Addr×Obj)} {s:Shared} {x:List Nat} {t:Tok} {vl vu:Value} {lo hi:Option Int} {sl:Addr} {Q:VK} (I:b9 X pq σ H s) (hs:s.heap.IsSliceOf sl vl vu .none) (pl:IsPart vl lo) (pu:IsPart vu hi) (hx:x.length≤sizeLine)
  (q:Q (.str ⟨(kG x lo hi).toArray⟩) H):wpAny (model X.prog X.w) X.A (getItem (.str ⟨x.toArray⟩ t) (.ref sl)) (EP X pq σ Q) X.xe s:=by
 have nK:∀ t' k,EP X pq σ Q (.str (Txt.slice ⟨x.toArray⟩ lo hi) t') { s with toks:=k }:=fun t' k=>⟨.str _,H,I.tok _,⟨t',rfl⟩,by rw[zR]; exact q⟩
 have hl:(Txt.slice ⟨x.toArray⟩ lo hi).length≤sizeLine:=q57 (Txt.slice_le _ _ _) (by rw[gS]; exact hx);obtain⟨o,ho,hc,hd⟩:=hs
 cases pl with
 | none=>
  cases pu with
  | none=>exact wpAny_getItem_str_slice (l:=none) (u:=none) (st:=none) ⟨o,ho,hc,hd⟩ rfl (post_val_or_str ⟨hl,nK⟩)
  | int j u=>exact wpAny_getItem_str_slice (l:=none) (u:=some (j,u)) (st:=none) ⟨o,ho,hc,hd⟩ rfl (post_val_or_str ⟨hl,nK⟩)
 | int i t'=>
  cases pu with
  | none=>exact wpAny_getItem_str_slice (l:=some (i,t')) (u:=none) (st:=none) ⟨o,ho,hc,hd⟩ rfl (post_val_or_str ⟨hl,nK⟩)
  | int j u=>exact wpAny_getItem_str_slice (l:=some (i,t')) (u:=some (j,u)) (st:=none) ⟨o,ho,hc,hd⟩ rfl (post_val_or_str ⟨hl,nK⟩)
theorem zo {prog:Program} {w:World} {A:Around} {E:Value→Shared→Prop} {s:Shared} {t sl:Addr} {items:Array Value} {vl vu:Value} {lo hi:Option Int} {Q:Value→Shared→Prop} (ht:IsTup s.heap t items) (hs:s.heap.IsSliceOf sl vl vu .none) (pl:IsPart vl lo) (pu:IsPart vu hi)
  (hw:HT.sIx items.size 0 lo=0∧HT.sIx items.size items.size hi=items.size) (h:Q (.ref t) s):wpAny (model prog w) A (getItem (.ref t) (.ref sl)) Q E s:=by
 obtain⟨os,hos,hcs,hds⟩:=id hs;have hTs:s.TypeIs (.ref sl) "slice":=⟨os,hos,hcs⟩;unfold getItem
 try with_reducible refine wpAny_holding ?_
 first|refine wpAny_bind (wpAny_pure ?_)|skip
 refine wpAny_bind (wpAny_sequenceKey ht.typeIs (by decide) ?_);refine wpAny_bind (wpAny_callSpecial?_slot (name:=Str.ofString "__getitem__") ht.typeIs q44 (wpAny_call_entry q44 ht.typeIs PyProof.Rows.entry_tuple_getitem ?_ (PyProof.Rows.args_tuple_getitem _ _)));show wpAny _ _ (Builtin.Tuple.tupleItemsOf (.ref t) >>= _) _ _ s;refine wpAny_bind (tupleItemsOf_ ht ?_);refine wpAny_bind (wpAny_typeOf hTs ?_);rw[if_pos (by decide)];refine wpAny_bind (HT.sliceApplied_gen hs pl pu ?_);rw[hw.1,hw.2]
 have hyes:((((0:Nat):Int)==0&&(1:Int)==1&&(items.size-0)==items.size)=true):=by simp
 show wpAny _ _ (if (((0:Nat):Int)==0&&(1:Int)==1&&(items.size-0)==items.size)=true then _ else _) _ _ s;rw[if_pos hyes];refine wpAny_bind (wpAny_bind (wpAny_typeOf ht.typeIs (wpAny_pure ?_)));rw[if_pos (by decide)];exact wpAny_bind (wpAny_rule (wpAny_pure ⟨_,rfl,wpAny_pure h⟩))
def yA (a:AV) (lo hi:Option Int) (μ:Mu):Rs AV:=match a with
 | .str x=>if x.length≤cE then .ok (.str (kG x lo hi)) μ else .no
 | .tup ds=>.ok (.tup (kG ds lo hi)) μ
 | a=>RT a lo hi μ
theorem de.cutW {em:Em} {ds:List AV} {xs:List V} (r:de X.K em H ds xs) (lo hi:Option Int) (h:HT.sIx xs.length 0 lo=0∧HT.sIx xs.length xs.length hi=xs.length):kG ds lo hi=ds:=ww (by rw[r.length] at h; exact h)
theorem sF:Ig X (Gc X.K yA):=by
 intro pq s σ H x v vl vu lo hi sl Q I rx hs pl pu ⟨a,μ,em,ra,S,q⟩
 cases a with
 | str z=>
  obtain⟨hz,q⟩:=jb.ite q;simp only[Rp] at ra;subst ra;obtain⟨t,rfl⟩:=rx;exact⟨"str",_,PySem.F.slot_str_getitem.lookup,typeIs_str _ _ _,xl I hs pl pu (by rw[← kj]; exact hz) (q.here S (by simp only[Rp]))⟩
 | tup ds=>
  simp only[Rp] at ra;obtain⟨p,xs,rfl,hq,rl⟩:=ra
  by_cases hw:HT.sIx xs.length 0 lo=0∧HT.sIx xs.length xs.length hi=xs.length
  ·cases rx
   obtain⟨its,r,ht,hz⟩:=I.tuple hq;refine⟨"tuple",_,q44.lookup,ht.typeIs,zo ht hs pl pu ?_ ⟨.ref p,H,I,rfl,q.here S ?_⟩⟩
   ·rw[q17,← r.length]; exact hw
   ·simp only[Rp]
    rw[rl.cutW lo hi hw];exact⟨p,xs,rfl,hq,rl⟩
  ·refine G5 pq s σ H _ v vl vu lo hi sl Q I rx hs pl pu ⟨p,xs,rfl,hq,hw,fun p' hp=>?_⟩
   obtain⟨S2,r2⟩:=S.newT hp (rl.cut lo hi);exact q em _ _ (q09 _) (gy.fresh hp) S2 r2
 | _=>exact Jv pq s σ H x v vl vu lo hi sl Q I rx hs pl pu ⟨_,μ,em,ra,S,q⟩
variable {x:Str} {p:Pos} {e:Expr} {es:List Expr} {fl:FL} {id T:String}
theorem BX {g:List AV→Mu→Rs AV} (hc:ki X (.type T) (CT X.K g)) (hv:bootBuiltins x=some (.type T)) (ha:AA X (e::es) fl) (hm:X.mg x=none) (hg:Gl X x:=by rfl) (hn:x≠"__name__":=by decide+kernel) (hdb:(x==("__debug__":Str))=false:=by decide+kernel)
  (he:starEach (e::es) X.env=(false,eval e X.env)::starEach es X.env:=by rfl) (hpl:(backTo pos (starEach es X.env)).any (·.1)=false:=by rfl):AE X (.Call (.Name x p) (e::es) [] pos) (ko g fl):=
 PE.imp (z8 hc hg hm hv ha hn hdb he hpl) fun σ H Q ⟨ρ,μ,em,E,S,h⟩=>jA (pG (f:=fl) E S h) fun vs H1 ⟨em1,ds,μ1,M,r,h1⟩=>⟨ds,μ1,em1,r,M.S,h1⟩
theorem oZ:bootBuiltins "tuple"=some (.type "tuple"):=by decide+kernel
theorem GV:bootBuiltins "min"=some (.builtin "min"):=by decide+kernel
theorem FD:bootBuiltins "any"=some (.builtin "any"):=by decide+kernel
theorem de.one {K:q04} {em:Em} {d:AV} {xs:List V} (r:de K em H [d] xs):∃ x,xs=[x]∧Rp K em H d x:=by
 obtain⟨x,t,rfl,h,rt⟩:=r.uncons;exact⟨x,by rw[rt.unnil],h⟩
theorem de.two {K:q04} {em:Em} {d d':AV} {xs:List V} (r:de K em H [d,d'] xs):∃ x y,xs=[x,y]∧Rp K em H d x∧Rp K em H d' y:=by
 obtain⟨x,t,rfl,h,rt⟩:=r.uncons;obtain⟨y,rfl,h'⟩:=rt.one;exact⟨x,y,rfl,h,h'⟩
def JF (ds:List AV) (μ:Mu):Rs AV:=match ds with
 | [d]=>match jG μ d with
  | some xs=>.ok (.loc μ.length) (μ++[.lst xs])
  | none=>.no
 | _=>.no
def zp (ds:List AV) (μ:Mu):Rs AV:=match ds with
 | [d]=>match jG μ d with
  | some xs=>.ok (.tup xs) μ
  | none=>.no
 | _=>.no
theorem xN:ki X (.type "tuple") (CT X.K zp):=by
 intro pq s σ H xs us Q I rs ⟨ds,μ,em,rl,S,q⟩
 match ds,rl,q with
 | [],_,q=>exact q.elim
 | _::_::_,_,q=>exact q.elim
 | [d],rl,q=>
  obtain⟨x,rfl,r⟩:=rl.one;unfold zp at q
  cases h:jG μ d with
  | none=>simp only[h] at q; exact q.elim
  | some ys=>
   simp only[h] at q;obtain⟨p,zs,rfl,hq,rz⟩:=S.seq h r;refine tM pq s σ H _ us Q I rs ⟨p,zs,rfl,?_⟩
   rcases hq with hq|hq
   ·refine .inl ⟨hq,fun l hl=>?_⟩
    obtain⟨S2,r2⟩:=S.newT hl rz;exact q em _ _ (q09 _) (gy.fresh hl) S2 r2
   ·exact .inr ⟨hq,q.here S (by simp only[Rp]; exact⟨p,zs,rfl,hq,rz⟩)⟩
def Ao (ds:List AV) (μ:Mu):Rs AV:=match ds with
 | [.int i,.int j]=>.ok (.int (if j<i then j else i)) μ
 | _=>.no
theorem CM {X:Cx} {id:String} {f:Int→Int→Int} {g:List AV→Mu→Rs AV} (hg:∀ i j μ,g [.int i,.int j] μ=.ok (.int (f i j)) μ) (hno:∀ ds μ,(¬∃ i j,ds=[AV.int i,AV.int j])→g ds μ=.no)
  (h:ki X (.builtin id) (fun xs H Q=>∃ i j,xs=[.int i,.int j]∧Q (.int (f i j)) H)):ki X (.builtin id) (CT X.K g):=by
 intro pq s σ H xs us Q I rs ⟨ds,μ,em,rl,S,q⟩
 by_cases hd:∃ i j,ds=[AV.int i,AV.int j]
 ·obtain⟨i,j,rfl⟩:=hd
  obtain⟨x,y,rfl,r1,r2⟩:=rl.two;simp only[Rp] at r1 r2;subst r1 r2;rw[hg] at q;exact h pq s σ H _ us Q I rs ⟨i,j,rfl,q.here S (by simp only[Rp])⟩
 ·rw[hno ds μ hd] at q
  exact q.elim
theorem Fw (hc:X.calm=true):ki X (.builtin "min") (CT X.K Ao):=CM (fun _ _ _=>rfl) (fun ds μ h=>by unfold Ao; split<;>first|rfl|exact absurd ⟨_,_,rfl⟩ h) (Aa hc)
end
section
variable {X:Cx} {pos:Pos} {σ:St} {H:Hp}
def jc:List AV→Option (List Bool)
 | []=>some []
 | .bl b::r=>(jc r).map (b::·)
 | _::_=>none
def qy:List AV→Option (List Int)
 | []=>some []
 | .int i::r=>(qy r).map (i::·)
 | _::_=>none
theorem pH {K:q04} {em:Em}:∀ {ds:List AV} {xs:List V} {us:List Value} {bs:List Bool},de K em H ds xs→dm xs us→jc ds=some bs→us=bs.map Value.bool
 | [],_,_,_,r,rv,e=>by
  have:=r.unnil;subst this;cases rv;cases e
  rfl
 | d::ds,_,_,_,r,rv,e=>by
  obtain⟨x,t,rfl,r1,r2⟩:=r.uncons
  cases rv with
  | cons v1 v2=>
   cases d with
   | bl b=>
    simp only[jc] at e
    cases h:jc ds with
    | none=>rw[h] at e; cases e
    | some cs=>
     rw[h] at e;cases e;simp only[Rp] at r1;subst r1;cases v1;rw[pH r2 v2 h]
     rfl
   | _=>cases e
theorem b9.walked {pq:List (Addr×Obj)} {s:Shared} {o:Obj} {h':Heap} {tk:Nat} (I:b9 X pq σ H s) (k:∀ b u,b∉[s.heap.objs.size]→(s.heap.push o).get? b=some u→h'.get? b=some u):b9 X pq σ H { s with heap:=h',toks:=tk }:=by
 obtain⟨f0,f1,f2,f3,f4,f5⟩:=I.fpOk (H':=H) (q11 _) (I.hok.fresh (q11 _))
 have I3:b9 X pq σ H { s with heap:=s.heap.push o }:=I.kept (t':=s.toks) fun b o e=>q13 _ e
 exact I3.turned (t':=tk) (fun b u hb e=>k b u (by simpa using hb) e) f0 f1 f3 f4 f5
theorem Bb {pq:List (Addr×Obj)} {s:Shared} {p:Addr} {xs:List V} {E:Value→Shared→Prop} {Q:Value→Shared→Prop} (hc:X.calm=true) (I:b9 X pq σ H s) (hq:oU X.K H p xs∨qc X.K H p xs)
  (h:∀ (its:List Value) (o:Obj) (fp:List Addr) (St:Nat→Heap→Prop),dm xs its→Walks X.prog X.w X.A.in1 s.heap.objs.size fp [s.heap.objs.size] its.length (fun i v=>its[i]?=some v) St→St 0 (s.heap.push o)→(∀ b∈fp,b<(s.heap.push o).objs.size)→Q (.ref s.heap.objs.size) { s with heap:=s.heap.push o }) :
  wpAny (model X.prog X.w) X.A.in1 (pyIter (.ref p)) Q E s:=by
 have hh:X.A.in1.handled=none:=I.ok.hd hc
 rcases hq with hq|hq
 ·obtain⟨its,rv,pl,hz⟩:=I.list hq
  have hlt:p<s.heap.objs.size:=pl.lt;have W:=Walks.list (prog:=X.prog) (w:=X.w) hh s.heap.objs.size p (q50 hlt) its.toArray;simp only[q17,List.getElem?_toArray] at W;refine wpAny_pyIter_list pl.isList (h its _ _ _ rv W ⟨⟨_,q35 _ rfl,rfl,rfl⟩,pl.isList.push _⟩ fun b hb=>?_);rw[q96]
  rcases q32.mp hb with rfl|hb
  ·exact q61 _
  ·rw[q54.mp hb]; exact Nat.lt_succ_of_lt hlt
 ·obtain⟨its,rv,pl,hz⟩:=I.tuple hq
  have hlt:p<s.heap.objs.size:=by obtain⟨o,e,_⟩:=pl; exact q23 e
  have W:=Walks.tuple (prog:=X.prog) (w:=X.w) hh s.heap.objs.size p (q50 hlt) its.toArray;simp only[q17,List.getElem?_toArray] at W;refine wpAny_pyIter_tuple (show s.heap.IsTuple p its.toArray from pl) (h its _ _ _ rv W ⟨⟨_,q35 _ rfl,rfl,rfl⟩,?_⟩ fun b hb=>?_)
  ·obtain⟨o,e,r⟩:=pl
   exact⟨o,q13 _ e,r⟩
  ·rw[q96]
   rcases q32.mp hb with rfl|hb
   ·exact q61 _
   ·rw[q54.mp hb]; exact Nat.lt_succ_of_lt hlt
theorem Im (bs:List Bool):((List.range bs.length).all fun i=>bs.getD i false)=bs.all fun b=>b:=by
 rw[q52];simp only[List.all_eq_true,List.mem_range]
 constructor
 ·intro h b hb
  obtain⟨i,hi,rfl⟩:=List.mem_iff_getElem.mp hb;have:=h i hi
  simpa [hi] using this
 ·intro h i hi
  have:=h bs[i] (List.getElem_mem hi)
  simpa [hi] using this
theorem Av (bs:List Bool):((List.range bs.length).any fun i=>bs.getD i false)=bs.any fun b=>b:=by
 rw[q52];simp only[qa2,List.mem_range]
 constructor
 ·rintro⟨i,hi,h⟩
  exact⟨bs[i],List.getElem_mem hi,by simpa [hi] using h⟩
 ·rintro⟨b,hb,h⟩
  obtain⟨i,hi,rfl⟩:=List.mem_iff_getElem.mp hb;exact⟨i,hi,by simpa [hi] using h⟩
def VA (ds:List AV) (μ:Mu):Rs AV:=match ds with
 | [d]=>match (jG μ d).bind jc with
  | some bs=>.ok (.bl (bs.all fun b=>b)) μ
  | none=>.no
 | _=>.no
def DO (ds:List AV) (μ:Mu):Rs AV:=match ds with
 | [d]=>match (jG μ d).bind jc with
  | some bs=>.ok (.bl (bs.any fun b=>b)) μ
  | none=>.no
 | _=>.no
theorem xc {A:Around} {its:List Value} {bs:List Bool} (e:its=bs.map Value.bool):TruthOf X.prog X.w A (fun i v=>its[i]?=some v) (fun i=>bs.getD i false):=fun i v s Q E hP hQ=>by
 subst e;rw[q33] at hP
 cases hb:bs[i]? with
 | none=>rw[hb] at hP; cases hP
 | some b=>
  rw[hb] at hP;cases hP;refine wpAny_truthy_bool ?_
  have:bs.getD i false=b:=by rw[q46,hb]; rfl
  have hQ:Q (bs.getD i false) s:=hQ;rw[this] at hQ;exact hQ
theorem FY (hc:X.calm=true):ki X (.builtin "any") (CT X.K DO):=by
 intro pq s σ H xs us Q I rs ⟨ds,μ,em,rl,S,q⟩
 match ds,rl,q with
 | [],_,q=>exact q.elim
 | _::_::_,_,q=>exact q.elim
 | [d],rl,q=>
  obtain⟨x,rfl,r⟩:=rl.one;unfold DO at q
  cases h:jG μ d with
  | none=>simp only[h,Option.bind_none] at q; exact q.elim
  | some ys=>
   simp only[h,q70] at q
   cases h2:jc ys with
   | none=>simp only[h2] at q; exact q.elim
   | some bs=>
    simp only[h2] at q;obtain⟨p,zs,rfl,hq,rz⟩:=S.seq h r;obtain⟨u,rfl,ru⟩:=qS rs;cases ru;refine call_any_walk (Bb hc I hq fun its o fp St rv W st hfp=>?_);have eb:=pH rz rv h2;refine⟨_,fp,_,its.length,_,St,_,rfl,W,st,xc eb,fun h' tk k=>⟨.bl (bs.any fun b=>b),H,b9.walked (s:=s) (o:=o) I k,?_,q.here S (by simp only[Rp])⟩⟩
    have hl:its.length=bs.length:=by rw[eb,q21]
    rw[hl,Av]
    rfl
def A3 (i:Int):List Nat:=(Str.ofString (toString i)).cps.toList
def Bk (ds:List AV) (μ:Mu):Rs AV:=match ds with
 | [.int i]=>if sm 1900 i=true then .ok (.str (A3 i)) μ else .no
 | _=>.no
end
section
variable {X:Cx} {pos:Pos} {σ:St} {H:Hp}
theorem Cr (i:Int):(⟨(A3 i).toArray⟩:Str)=Str.ofString (toString i):=by simp[A3]
theorem HM:ki X (.type "str") (CT X.K Bk):=by
 intro pq s σ H xs us Q I rs ⟨ds,μ,em,rl,S,q⟩
 match ds,rl,q with
 | [],_,q=>exact q.elim
 | a::_::_,_,q=>cases a<;>exact q.elim
 | [d],rl,q=>
  obtain⟨x,rfl,r⟩:=rl.one
  cases d with
  | int i=>
   simp only[Rp] at r;subst r;obtain⟨hz,q⟩:=jb.ite q;have h1:i.natAbs.log2<1900:=Nat.le_of_ble_eq_true hz;exact u5 pq s σ H _ us Q I rs ⟨i,rfl,by omega,q.here S (by simp only[Rp]; rw[Cr])⟩
  | _=>exact q.elim
def ot (d:AV) (ds:List AV) (μ:Mu):Rs AV:=match d,ds with
 | .str sep,[l]=>match (jG μ l).bind jQ with
  | some ys=>if (ys.map (·.length)).sum+ys.length*sep.length≤cE then .ok (.str (nz sep ys)) μ else .no
  | none=>.no
 | _,_=>.no
theorem qu:∀ {ys:List Str} {us:List Value},dm (ys.map V.str) us→∃ l:List (Str×Tok),strValues l=us∧l.map (·.1)=ys
 | [],_,r=>by cases r; exact⟨[],rfl,rfl⟩
 | y::ys,_,r=>by
  cases r with
  | cons r1 r2=>
   obtain⟨t,rfl⟩:=r1;obtain⟨l,rfl,rfl⟩:=qu r2;exact⟨(y,t)::l,rfl,rfl⟩
theorem u8:Ds X "str.join" (G0 X.K ot):=by
 intro pq s σ H x xs v us Q I rx rs ⟨d,ds,μ,em,r,rl,S,q⟩
 cases d with
 | str sep=>
  match ds,rl,q with
  | [],_,q=>exact q.elim
  | _::_::_,_,q=>exact q.elim
  | [y],rl,q=>
   obtain⟨w',rfl,rw'⟩:=rl.one;simp only[Rp] at r;subst r;obtain⟨t,rfl⟩:=rx;unfold ot at q
   cases h:jG μ y with
   | none=>simp only[h,Option.bind_none] at q; exact q.elim
   | some es=>
    simp only[h,q70] at q
    cases h2:jQ es with
    | none=>simp only[h2] at q; exact q.elim
    | some ys=>
     simp only[h2] at q;obtain⟨hz,q⟩:=jb.ite q;obtain⟨p,zs,rfl,hq,rz⟩:=S.seq h rw';obtain⟨u,rfl,ru⟩:=qS rs;cases ru;have e1:=uy rz h2;subst e1;have hok:JoinOk ⟨sep.toArray⟩ (ys.map xj)=true:=joinOk_of (by rw[Hs,q21,gS]; exact hz)
     have e3:Txt.join ⟨sep.toArray⟩ (ys.map xj)=xj (nz sep ys):=by
      show qa4.Str.glued _ _=_;rw[PySem.StrLaws.glued_eq_join];exact yV sep ys
     have nK:∀ t' k,EP X pq σ Q (.str (Txt.join ⟨sep.toArray⟩ (ys.map xj)) t') { s with toks:=k }:=fun t' k=>⟨.str _,H,I.tok _,⟨t',rfl⟩,by rw[e3]; exact q.here S (by simp only[Rp]; rfl)⟩
     rcases hq with hq|hq
     ·obtain⟨its,rv,pl,hlz⟩:=I.list hq
      obtain⟨l,el,et⟩:=qu rv
      have hl:s.heap.IsList p (strValues l).toArray:=by rw[el]; exact pl.isList
      exact SC.join hl et hok nK
     ·obtain⟨its,rv,pl,hlz⟩:=I.tuple hq
      obtain⟨l,el,et⟩:=qu rv;have hok':=hok;rw[← et] at hok' nK;unfold JoinOk at hok';rw[q81] at hok';obtain⟨o,ho,hc,n,hd⟩:=pl;rw[← el] at hd;exact call_meets q76 (typeIs_str _ _ _) PySem.F.entry_str_join (PySem.F.args_str_join_2 _ _) (meets_str_join_tuple _ t p l hok') ⟨⟨o,n,ho,hc,hd⟩,post_join l ⟨joinFit_length hok',nK⟩⟩
 | _=>exact q.elim
end
section
variable {X:Cx} {pos:Pos} {σ:St} {H:Hp}
def vp (d:AV) (ds:List AV) (μ:Mu):Rs AV:=match d,ds with
 | .str x,[.str y]=>if x.length≤cE then .ok (.str (Txt.stripChars ⟨x.toArray⟩ ⟨y.toArray⟩).cps.toList) μ else .no
 | _,_=>.no
def oI (d:AV) (ds:List AV) (μ:Mu):Rs AV:=match d,ds with
 | .str x,[.str y]=>.ok (.bl (Txt.startswith ⟨x.toArray⟩ ⟨y.toArray⟩)) μ
 | _,_=>.no
theorem AX:Ds X "str.strip" (G0 X.K vp):=by
 intro pq s σ H x xs v us Q I rx rs ⟨d,ds,μ,em,r,rl,S,q⟩
 cases d with
 | str z=>
  match ds,rl,q with
  | [],_,q=>exact q.elim
  | a::_::_,_,q=>cases a<;>exact q.elim
  | [y],rl,q=>
   obtain⟨w,rfl,rw'⟩:=rl.one
   cases y with
   | str y=>
    obtain⟨hz,q⟩:=jb.ite q;simp only[Rp] at r rw';subst r rw';obtain⟨t1,rfl⟩:=rx;obtain⟨u,rfl,t2,rfl⟩:=qS rs;exact SC.stripChars (fun t' k=>⟨.str _,H,I.tok _,⟨t',rfl⟩,q.here S (by simp only[Rp])⟩) (by rw[gS,← kj]; exact hz)
   | _=>exact q.elim
 | _=>exact q.elim
theorem sO:Ds X "str.startswith" (G0 X.K oI):=by
 intro pq s σ H x xs v us Q I rx rs ⟨d,ds,μ,em,r,rl,S,q⟩
 cases d with
 | str z=>
  match ds,rl,q with
  | [],_,q=>exact q.elim
  | a::_::_,_,q=>cases a<;>exact q.elim
  | [y],rl,q=>
   obtain⟨w,rfl,rw'⟩:=rl.one
   cases y with
   | str y=>
    simp only[Rp] at r rw';subst r rw';obtain⟨t1,rfl⟩:=rx;obtain⟨u,rfl,t2,rfl⟩:=qS rs;exact SC.startswith ⟨.bl _,H,I,rfl,q.here S (by simp only[Rp])⟩
   | _=>exact q.elim
 | _=>exact q.elim
def DE (d:AV) (ds:List AV) (μ:Mu):Rs AV:=match d,ds with
 | .loc i,[y]=>match μ[i]?,jG μ y with
  | some (.lst xs),some ys=>if xs.length+ys.length≤cE then .ok .non (μ.set i (.lst (xs++ys))) else .no
  | _,_=>.no
 | _,_=>.no
def ED (o i v:AV) (μ:Mu):Rs Unit:=match o,i with
 | .loc j,.int k=>match μ[j]? with
  | some (.lst xs)=>match AB xs.length k with
   | some m=>.ok () (μ.set j (.lst (xs.set m v)))
   | none=>.no
  | _=>.no
 | _,_=>.no
def uG (fo fi:FE):FG:=fun d ρ μ=>(fo ρ μ).bd fun o μ1=>(fi ρ μ1).bd fun i μ2=>(ED o i d μ2).bd fun _ μ3=>.ok ρ μ3
theorem Bu {em:Em} {μ:Mu} {ρ:Ev} {f:FE} {k:AV→Mu→Rs Ev} {Q:St→Hp→Prop} (E:d7 X.K em H ρ σ) (S:cS X.K em μ H) (h:tz X.K em H ((f ρ μ).bd k) Q) :
  tA X f σ H fun v H1=>∃ em1 d μ1,yE X.K em H ρ σ em1 μ1 H1∧Rp X.K em1 H1 d v∧tz X.K em1 H1 (k d μ1) Q:=
 step (P:=fun em H r=>tz X.K em H r Q) (fun h p x=>h.mono p x) (fun h=>h) (fun h=>h) E S h
theorem GM {o i:Expr} {fo fi:FE} (ho:AE X o fo) (hi:AE X i fi)
  (ha:∀ v,assign (.Subscript o i pos) X.env v=(do
   let ov ← holding [v] (eval o X.env)
   let iv ← holding [v,ov] (eval i X.env)
   standAt pos
   holding [v,ov,iv] (setItem ov iv v)
   release [v,ov,iv] []):=by intro _; rfl):AG X (.Subscript o i pos) (uG fo fi):=
 PG.imp (Gs ho hi AR ha) fun v σ H Q ⟨d,ρ,μ,em,r,E,S,h⟩=>dw (Bu (f:=fo) E S h) fun ov H1 ⟨em1,d1,μ1,M1,r1,h1⟩=>
  dw (Bu (f:=fi) M1.E M1.S h1) fun iv H2 ⟨em2,d2,μ2,M2,r2,h2⟩=>by
   have r1:=r1.mono M2.p M2.x;have r:=(r.mono M1.p M1.x).mono M2.p M2.x;unfold ED at h2
   cases d1 with
   | loc j=>
    cases d2 with
    | int k=>
     simp only[Rp] at r1 r2;obtain⟨a,ea,rfl⟩:=r1;subst r2
     cases e:μ2[j]? with
     | none=>simp only[e] at h2; exact h2.elim
     | some ob=>
      cases ob with
      | lst xs=>
       simp only[e] at h2
       cases e2:AB xs.length k with
       | none=>simp only[e2] at h2; exact h2.elim
       | some m=>
        simp only[e2,Rs.bd_ok] at h2;obtain⟨zs,hz,rz⟩:=M2.S.obj j a _ ea e;obtain⟨S3,x3⟩:=M2.S.setL ea e (rz.set r m);exact⟨a,zs,k,m,rfl,rfl,hz,by rw[rz.length]; exact e2,h2 em2 _ σ (q09 _) x3 S3 (M2.E.mono (q09 _) x3)⟩
      | _=>simp only[e] at h2; exact h2.elim
    | _=>exact h2.elim
   | _=>cases d2<;>exact h2.elim
variable {x:Str} {p:Pos} {e:Expr} {es:List Expr} {fl:FL}
end
end AL
namespace L2
section
variable {X:Cx} {tg:Expr}
end
end L2
namespace AL
open L2
section
variable {X:Cx} {pos:Pos} {σ:St} {H:Hp} {K:q04} {em:Em} {μ:Mu} {ρ:Ev}
def sC (j:Nat) (v:AV) (μ:Mu):Rs Unit:=match μ[j]? with
 | some (.lst xs)=>if xs.length<cE then .ok () (μ.set j (.lst (xs++[v]))) else .no
 | _=>.no
def lH:Nat→vq→Nat→Nat→FG→FB→FE→Ev→Mu→Rs AV
 | 0,_,_,_,_,_,_=>fun _ _=>.no
 | n+1,it,k,j,g,ft,fe=>fun ρ μ=>match it.get μ k with
  | none=>.no
  | some none=>.ok (.loc j) μ
  | some (some d)=>(g d ρ μ).bd fun ρ1 μ1=>(ft ρ1 μ1).bd fun b μ2=>if b then (fe ρ1 μ2).bd fun v μ3=>(sC j v μ3).bd fun _ μ4=>lH n it (k+1) j g ft fe ρ1 μ4
   else lH n it (k+1) j g ft fe ρ1 μ2
def rL (ρ:Ev) (caps:List (Option Nat)):Ev:=caps.map fun o=>match o with
 | some i=>(ρ[i]?).getD none
 | none=>none
def kz (n:Nat) (caps:List (Option Nat)) (fi:FI) (g:FG) (ft:FB) (fe:FE):FE:=fun ρ μ=>(fi ρ μ).bd fun it μ1=>lH n it 0 μ1.length g ft fe (rL ρ caps) (μ1++[.lst []])
def uf:FB:=fun _ μ=>.ok true μ
theorem d7.cap {caps:List (Option Nat)} (h:d7 K em H ρ σ):d7 K em H (rL ρ caps) (vw σ caps):=by
 refine⟨by simp[rL,vw],fun j d e=>?_⟩;unfold rL at e;unfold vw;rw[q33] at e⊢
 cases hc:caps[j]? with
 | none=>rw[hc] at e; cases e
 | some o=>
  rw[hc] at e
  cases o with
  | none=>cases e
  | some i=>
   have e':(ρ[i]?).getD none=some d:=q30 e
   cases hr:ρ[i]? with
   | none=>rw[hr] at e'; cases e'
   | some q=>
    rw[hr] at e';have e2:q=some d:=e';subst e2;obtain⟨v,ev,rv⟩:=h.2 i d hr;refine⟨v,?_,rv⟩;show some ((σ[i]?).getD none)=some (some v);rw[ev]
    rfl
def Ib (X:Cx) (ifs:List Expr) (f:FB):Prop:=Kb X ifs (AF X f)
theorem vm:Ib X [] uf:=fun pq s σ H Q I ⟨ρ,μ,em,E,S,h⟩=>Dr pq s σ H Q I (h em H (q09 _) gy.refl S)
theorem Da {c:Expr} {f:FB} (h:AT X c f):Ib X [c] f:=Ec h
theorem D9 {j:Nat} {v:AV} {μ3:Mu} {r:Rs AV} {em3:Em} {H3:Hp} {D:Addr} {w:V} {Q:VK} {k:Unit→Mu→Rs AV} (S:cS K em3 μ3 H3) (ej:em3[j]?=some D) (rv:Rp K em3 H3 v w) (h:jb K em3 H3 ((sC j v μ3).bd k) Q) :
  ∃ ys μ4,H3 D=some (.lst ys)∧ys.length<sizeLine∧cS K em3 μ4 (gL H3 D (.lst (ys++[w])))∧gy K H3 (gL H3 D (.lst (ys++[w])))∧jb K em3 H3 (k () μ4) Q:=by
 unfold sC at h
 cases e:μ3[j]? with
 | none=>simp only[e] at h; exact h.elim
 | some o=>
  cases o with
  | lst xs=>
   simp only[e] at h
   by_cases hl:xs.length<cE
   ·simp only[if_pos hl,Rs.bd_ok] at h
    obtain⟨ys,hy,ry⟩:=S.obj j D _ ej e;obtain⟨S4,x4⟩:=S.setL ej e (ry.append (de.cons rv de.nil));exact⟨ys,_,hy,by rw[ry.length,← kj]; exact hl,S4,x4,h⟩
   ·simp only[if_neg hl] at h; exact h.elim
  | _=>simp only[e] at h; exact h.elim
theorem AM (n:Nat) {fi:FI} {g:FG} {ft:FB} {fe:FE} {caps:List (Option Nat)} {Q:VK} (hh:tA X (kz n caps fi g ft fe) σ H Q):EJ caps (tAI X fi) (Np X g) (AF X ft) (tA X fe) σ H Q:=by
  obtain⟨ρ,μ,em,E,S,h⟩:=hh;have h:jb X.K em H ((fi ρ μ).bd fun it μ1=>lH n it 0 μ1.length g ft fe (rL ρ caps) (μ1++[.lst []])) Q:=h;refine⟨ρ,μ,em,E,S,?_⟩
  cases e:fi ρ μ with
  | ok it μ1=>
   rw[e] at h;intro em1 H1 J p1 x1 S1 IR D hD;obtain⟨S2,r2⟩:=S1.newL hD (de.nil (K:=X.K) (em:=em1) (H:=H1));have xD:gy X.K H1 (gL H1 D (.lst [])):=gy.fresh hD;have pD:em1<+:em1++[D]:=q53 _ _
   have ejD:(em1++[D])[μ1.length]?=some D:=by rw[← S1.len]; simp
   refine⟨fun i m σ H=>∃ ρ μ em2,em1++[D]<+:em2∧gy X.K (gL H1 D (.lst [])) H∧d7 X.K em2 H ρ σ∧cS X.K em2 μ H∧jb X.K em2 H (lH m it i μ1.length g ft fe ρ μ) Q,
    ⟨n,rL ρ caps,_,em1++[D],q09 _,gy.refl,(E.mono (p1.trans pD) (x1.trans xD)).cap,S2,jb.mono h (p1.trans pD) (x1.trans xD)⟩,?_⟩
   rintro i m σ2 H2 ⟨ρ2,μ2,em2,p2,x2,E2,S2,h2⟩;obtain⟨stop,go⟩:=IR em2 H2 μ2 i (pD.trans p2) (xD.trans x2) S2
   cases m with
   | zero=>exact h2.elim
   | succ m=>
    unfold lH at h2
    cases eg:it.get μ2 i with
    | none=>simp only[eg] at h2; exact h2.elim
    | some o=>
     cases o with
     | none=>
      simp only[eg] at h2;exact .inl ⟨stop eg,h2.here S2 (by simp only[Rp]; exact⟨D,kU p2 ejD,rfl⟩)⟩
     | some d=>
      simp only[eg] at h2;obtain⟨g1,g2⟩:=go d eg;refine .inr ⟨g1,fun σ' H'=>∃ ρ μ em3,em1++[D]<+:em3∧gy X.K (gL H1 D (.lst [])) H'∧d7 X.K em3 H' ρ σ'∧cS X.K em3 μ H'∧jb X.K em3 H' (lH m it (i+1) μ1.length g ft fe ρ μ) Q,fun σ' H' q=>⟨m,q61 m,q⟩,fun x H3 y=>?_⟩;obtain⟨rfl,rx⟩:=g2 x H3 y;refine⟨d,ρ2,μ2,em2,rx,E2,S2,?_⟩
      cases e3:g d ρ2 μ2 with
      | ok ρ3 μ3=>
       simp only[e3,Rs.bd_ok] at h2;intro em4 H4 σ4 p4 x4 S4 E4;refine⟨ρ3,μ3,em4,E4,S4,?_⟩
       cases e5:ft ρ3 μ3 with
       | ok b μ5=>
        simp only[e5,Rs.bd_ok] at h2;intro em6 H6 p6 x6 S6;have E6:=E4.mono p6 x6
        cases b with
        | false=>
         simp only[q72,if_false] at h2;exact vS ⟨ρ3,μ5,em6,p2.trans (p4.trans p6),x2.trans (x4.trans x6),E6,S6,jb.mono h2 (p4.trans p6) (x4.trans x6)⟩
        | true=>
         simp only[if_true] at h2;refine wl ⟨ρ3,μ5,em6,E6,S6,?_⟩
         cases e7:fe ρ3 μ5 with
         | ok v μ7=>
          simp only[e7,Rs.bd_ok] at h2;intro em8 H8 w p8 x8 S8 r8;have P8:=p4.trans (p6.trans p8);have X8:=x4.trans (x6.trans x8);obtain⟨ys,μ9,hy,hyl,S9,x9,h9⟩:=D9 (r:=.no) S8 (kU (p2.trans P8) ejD) r8 (jb.mono h2 P8 X8);exact⟨ys,hy,hyl,ρ3,μ9,em8,p2.trans P8,(x2.trans X8).trans x9,(E6.mono p8 x8).mono (q09 _) x9,S9,h9.mono (q09 _) x9⟩
         | exc C fs μ7=>simp only[e7,Rs.bd_exc] at h2; exact h2
         | no=>simp only[e7,Rs.bd_no] at h2; exact h2
       | exc C fs μ5=>simp only[e5,Rs.bd_exc] at h2; exact h2
       | no=>simp only[e5,Rs.bd_no] at h2; exact h2
      | exc C fs μ3=>simp only[e3,Rs.bd_exc] at h2; exact h2
      | no=>simp only[e3,Rs.bd_no] at h2; exact h2
  | exc C fs μ1=>rw[e] at h; exact h
  | no=>rw[e] at h; exact h
theorem EF (n:Nat) {elt tg iter:Expr} {ifs:List Expr} {scope:Scope} {fi:FI} {g:FG} {ft:FB} {fe:FE} (N:List Str) (caps:List (Option Nat)) (hc:X.calm=true) (hi:AI X tg iter fi) (hg:∀ s H fp,AG (ii X N scope s H fp) tg g)
  (ht:∀ s H fp,Ib (ii X N scope s H fp) ifs ft) (he:∀ s H fp,AE (ii X N scope s H fp) elt fe) (hk:scope.kind=.function) (hcell:∀ y∈scope.names,y.2≠.cell) (hnames:∀ y∈scope.names,y.2=.local→scope.names.lookup y.1=some .local)
  (hfree:∀ y∈scope.names,y.2=.free→X.env.scope.names.lookup y.1=some .cell∨X.env.scope.names.lookup y.1=some .free) (hcap:pk X.N X.env.scope scope N caps=true)
  (hs:∀ x,foldedSetIterable iter X.env x=pure x):AE X (.ListComp elt [⟨tg,iter,ifs,0⟩] scope pos) (kz n caps fi g ft fe):=
 PE.imp (Ed (g:=Np X g) (tt:=AF X ft) (te:=tA X fe) N caps hc hi hg ht he hk hcell hnames hfree hcap hs) fun σ H Q hh=>AM n hh
end
section
variable {X:Cx} {pos:Pos} {σ:St} {H:Hp} {K:q04} {em:Em} {μ:Mu} {ρ:Ev}
def Ih (d:AV) (μ1:Mu):Rs vq:=match d with
 | .loc i=>if (bu μ1 i).isSome=true then .ok (.l i) μ1 else .no
 | .tup ds=>.ok (.s ds) μ1
 | .str x=>.ok (.s (x.map fun c=>.str [c])) μ1
 | _=>.no
def rP (f:FE):FI:=fun ρ μ=>(f ρ μ).bd Ih
theorem lh {tg l:Expr} {f:FE} (h:AE X l f):AI X tg l (rP f):=fun pq s σ H R I ⟨ρ,μ,em,E,S,q⟩=>by
 have q:vz X.K em H ((f ρ μ).bd Ih) R:=q
 cases e:f ρ μ with
 | ok d μ1=>
  rw[e] at q
  cases d with
  | loc i=>exact EB h pq s σ H R I ⟨ρ,μ,em,E,S,by unfold fiL; rw[e]; exact q⟩
  | tup ds=>exact F5 h pq s σ H R I ⟨ρ,μ,em,E,S,by unfold fiT; rw[e]; exact q⟩
  | str x=>exact Gp h pq s σ H R I ⟨ρ,μ,em,E,S,by unfold fiS; rw[e]; exact q⟩
  | _=>exact q.elim
 | exc C fs μ1=>rw[e] at q; exact q.elim
 | no=>rw[e] at q; exact q.elim
def JR (sc scope:Scope):Bool:=scope.names.all fun y=>match y.2 with
 | .cell=>false
 | .local=>scope.names.lookup y.1==some .local
 | .free=>sc.names.lookup y.1==some .cell||sc.names.lookup y.1==some .free
 | _=>true
theorem DY (n:Nat) {elt tg iter:Expr} {ifs:List Expr} {scope:Scope} {fi:FI} {g:FG} {ft:FB} {fe:FE} (N:List Str) (caps:List (Option Nat)) (hc:X.calm=true) (hi:AI X tg iter fi) (hg:∀ s H fp,AG (ii X N scope s H fp) tg g)
  (ht:∀ s H fp,Ib (ii X N scope s H fp) ifs ft) (he:∀ s H fp,AE (ii X N scope s H fp) elt fe) (hk:scope.kind=.function:=by rfl) (hok:JR X.env.scope scope=true:=by kernel_rfl) (hcap:pk X.N X.env.scope scope N caps=true:=by kernel_rfl)
  (hs:∀ x,foldedSetIterable iter X.env x=pure x:=by intro _; rfl):AE X (.ListComp elt [⟨tg,iter,ifs,0⟩] scope pos) (kz n caps fi g ft fe):=by
 have key:∀ y∈scope.names,(match y.2 with
   | .cell=>false
   | .local=>scope.names.lookup y.1==some .local
   | .free=>X.env.scope.names.lookup y.1==some .cell||X.env.scope.names.lookup y.1==some .free
   | _=>true)=true:=List.all_eq_true.mp hok
 refine EF n N caps hc hi hg ht he hk (fun y hy e=>?_) (fun y hy e=>?_) (fun y hy e=>?_) hcap hs
 ·have:=key y hy
  rw[e] at this;cases this
 ·have:=key y hy
  rw[e] at this;exact beq_iff_eq.mp this
 ·have:=key y hy
  rw[e] at this
  rcases Bool.or_eq_true_iff.mp this with z|z
  ·exact .inl (beq_iff_eq.mp z)
  ·exact .inr (beq_iff_eq.mp z)
structure Fn (K:q04) (x qual:Str) (st:Stmt) (f:Addr) (fd:FuncData) (dV:Value):Prop where
 ex:∃ (oc:Value) (od:Option Addr) (kV doc pm:Value) (an:Option Addr) (cdv ct:Value) (osl:Array (Option Value)),
  fd=q05 x qual (aE st) (aA st) (ad st) dV kV doc pm an cdv ct∧K.lookup f=some ⟨oc,od,.func fd,osl⟩∧q03 K cdv qual=true
 kp:q01 K (.ref f)=true
theorem aq {x qual:Str} {st:Stmt} {f:Addr} {oc dV:Value} {od an:Option Addr} {osl:Array (Option Value)} {kV doc pm cdv ct:Value} (l:K.lookup f=some ⟨oc,od,.func (q05 x qual (aE st) (aA st) (ad st) dV kV doc pm an cdv ct),osl⟩)
  (c:q03 K cdv qual=true) (k:q01 K (.ref f)=true):Fn K x qual st f (q05 x qual (aE st) (aA st) (ad st) dV kV doc pm an cdv ct) dV:=⟨⟨oc,od,kV,doc,pm,an,cdv,ct,osl,rfl,l,c⟩,k⟩
mutual
def kv (n:Nat):AV→Bool
 | .loc i=>decide (i<n)
 | .tup ds=>g8 n ds
 | _=>true
def g8 (n:Nat):List AV→Bool
 | []=>true
 | d::ds=>kv n d&&g8 n ds
end
def jU (n:Nat):AO→Bool
 | .lst ds=>g8 n ds
 | .fz ds=>g8 n ds
 | .ins _ fs=>g8 n (fs.map (·.2))
def AC (μ:Mu) (d:AV) (μ':Mu):Prop:=kv μ.length d=true∧μ.length≤μ'.length∧∀ i,i<μ.length→μ'[i]?=μ[i]?∨∃ o,μ'[i]?=some o∧jU μ.length o=true
open Classical in
def iq (μ:Mu) (r:Rs AV):Rs AV:=match r with
 | .ok d μ'=>if AC μ d μ' then .ok d (μ'.take μ.length) else .ok d μ'
 | r=>r
theorem Gw {μ:Mu} {d:AV}:iq μ (.ok d μ)=.ok d μ:=by
 simp only[iq]
 split<;>simp
theorem se {μ t:Mu} {d:AV} (h:kv μ.length d=true):iq μ (.ok d (μ++t))=.ok d μ:=by
 have hc:AC μ d (μ++t):=⟨h,by simp,fun i hi=>.inl (q16 hi)⟩;unfold iq;simp[hc]
section
variable {em em':Em} {H H':Hp}
mutual
theorem Rp.cut_back (p:em<+:em'):∀ (d:AV) {v:V},kv em.length d=true→Rp K em' H d v→Rp K em H d v
 | .non,_,_,h=>by simp only[Rp] at h⊢; exact h
 | .bl _,_,_,h=>by simp only[Rp] at h⊢; exact h
 | .int _,_,_,h=>by simp only[Rp] at h⊢; exact h
 | .str _,_,_,h=>by simp only[Rp] at h⊢; exact h
 | .loc i,_,b,h=>by
  simp only[kv,decide_eq_true_eq] at b;simp only[Rp] at h⊢;obtain⟨a,e,q⟩:=h;obtain⟨t,rfl⟩:=p;rw[q16 b] at e;exact⟨a,e,q⟩
 | .tup ds,_,b,h=>by
  simp only[kv] at b;simp only[Rp] at h⊢;obtain⟨a,xs,q,hq,r⟩:=h;exact⟨a,xs,q,hq,de.cut_back p ds b r⟩
theorem de.cut_back (p:em<+:em'):∀ (ds:List AV) {xs:List V},g8 em.length ds=true→de K em' H ds xs→de K em H ds xs
 | [],_,_,h=>by simp only[de] at h⊢; exact h
 | d::ds,_,b,h=>by
  simp only[g8,q08] at b;simp only[de] at h⊢;obtain⟨y,r,q,h1,h2⟩:=h;exact⟨y,r,q,Rp.cut_back p d b.1 h1,de.cut_back p ds b.2 h2⟩
end
mutual
theorem Rp.bdd_of:∀ (d:AV) {v:V},Rp K em H d v→kv em.length d=true
 | .non,_,_=>rfl
 | .bl _,_,_=>rfl
 | .int _,_,_=>rfl
 | .str _,_,_=>rfl
 | .loc i,_,h=>by
  simp only[Rp] at h;obtain⟨a,e,_⟩:=h;simp only[kv,decide_eq_true_eq];exact(q07.mp e).1
 | .tup ds,_,h=>by
  simp only[Rp] at h;obtain⟨a,xs,_,_,r⟩:=h;simp only[kv];exact de.bdd_of ds r
theorem de.bdd_of:∀ (ds:List AV) {xs:List V},de K em H ds xs→g8 em.length ds=true
 | [],_,_=>rfl
 | d::ds,_,h=>by
  simp only[de] at h;obtain⟨y,r,_,h1,h2⟩:=h;simp only[g8,q08];exact⟨Rp.bdd_of d h1,de.bdd_of ds h2⟩
end
theorem qK.bdd_of {a:Addr} {o:AO} (h:qK K em H a o):jU em.length o=true:=by
 cases o with
 | lst ds=>obtain⟨xs,_,r⟩:=h; exact de.bdd_of ds r
 | fz ds=>obtain⟨xs,_,r⟩:=h; exact de.bdd_of ds r
 | ins C fs=>obtain⟨A,dx,xs,_,_,_,r⟩:=h; exact de.bdd_of _ r
theorem qK.cut_back {a:Addr} {o:AO} (p:em<+:em') (b:jU em.length o=true) (h:qK K em' H a o):qK K em H a o:=by
 cases o with
 | lst ds=>obtain⟨xs,e,r⟩:=h; exact⟨xs,e,de.cut_back p ds b r⟩
 | fz ds=>obtain⟨xs,e,r⟩:=h; exact⟨xs,e,de.cut_back p ds b r⟩
 | ins C fs=>obtain⟨A,dx,xs,e,q,k,r⟩:=h; exact⟨A,dx,xs,e,q,k,de.cut_back p _ b r⟩
theorem cS.cut_back {μ μ':Mu} {d:AV} (S:cS K em μ H) (p:em<+:em') (S':cS K em' μ' H') (g:AC μ d μ'):cS K em (μ'.take μ.length) H':=by
 obtain⟨gb,gl,go⟩:=g;have hl:=S.len
 have at':∀ (i:Nat) (o:AO),(μ'.take μ.length)[i]?=some o→i<μ.length∧μ'[i]?=some o:=fun i o e=>by
  by_cases hi:i<μ.length
  ·rw[q65 hi] at e; exact⟨hi,e⟩
  ·rw[q74 (by rw[q39]; omega)] at e; cases e
 refine⟨by rw[q39]; omega,fun i j a oi oj h1 h2 h3 h4 m1 m2=>?_,fun i a o h1 h2=>?_⟩
 ·exact S'.inj i j a oi oj (kU p h1) (kU p h2) (at' i oi h3).2 (at' j oj h4).2 m1 m2
 ·obtain⟨hi,e⟩:=at' i o h2
  refine(S'.obj i a o (kU p h1) e).cut_back p ?_
  rcases go i hi with q|⟨o',q,b⟩
  ·rw[e] at q
   rw[hl];have:=(S.obj i a o h1 q.symm).bdd_of;rw[hl] at this;exact this
  ·rw[e] at q
   cases q;rw[hl];exact b
theorem Fz {μ:Mu} {r:Rs AV} {Q:VK} (S:cS K em μ H) (h:jb K em H (iq μ r) Q):jb K em H r Q:=by
 cases r with
 | ok d μ'=>
  unfold iq at h
  by_cases hc:AC μ d μ'
  ·simp only[hc,if_true] at h
   intro em' H' v p x S' r';exact h em H' v (q09 _) x (S.cut_back p S' hc) (Rp.cut_back p d (by rw[S.len]; exact hc.1) r')
  ·simp only[hc,if_false] at h
   exact h
 | exc C fs μ'=>exact h
 | no=>exact h
end
def fh (n:Nat) (N:List Str) (f:FS):List AV→Mu→Rs AV:=fun ds μ=>iq μ (wg n N f ds μ)
theorem JX {P:Program} {w:World} {mg:Str→Option Value} {base:Heap} {x qual:Str} {st:Stmt} {f:Addr} {fd:FuncData} {dV:Value} {N ps:List Str} {k:Nat} {fs:FS} (F:Fn K x qual st f fd dV) (S:aC N ps (ad st))
  (body:∀ (cdv:Value) (A:Around) (outer:List Env) (s:Shared) (H:Hp) (E:XK),iZ k (A.deeper (envOfC qual (ad st) s.heap.objs.size f cdv))→BV (xV Gb P w K mg base N qual (ad st) f cdv A outer s H E).nox (aA st) fs) :
  bh P w K mg base (k+1) f fd ps (fh ps.length N fs):=by
 obtain⟨oc,od,kV,doc,pm,an,cdv,ct,osl,rfl,lk,hcd⟩:=F.ex
 refine JL lk hcd S (fun vs H Q E h=>h.1) fun A outer s H vs Q E hr hsp=>?_
 obtain⟨hl,ds,μ,em,r,S0,q⟩:=hsp;refine⟨_,(body cdv A outer s H E hr).nox,nr N ds,μ,em,r.start,S0,?_⟩;have q:jb K em H (wg ps.length N fs ds μ) Q:=Fz S0 q;unfold wg at q
 cases e:fs (nr N ds) μ with
 | ok fl μ'=>
  rw[e] at q
  cases fl with
  | nx ρ'=>exact fun em' H' σ' p x S' E'=>q em' H' .non p x S' (by simp only[Rp])
  | rt d=>exact q
  | bk ρ'=>exact q.elim
  | ct ρ'=>exact q.elim
 | exc C fs' μ'=>rw[e] at q; exact q.elim
 | no=>rw[e] at q; exact q.elim
theorem aR {P:Program} {w:World} {mg:Str→Option Value} {base:Heap} {x qual:Str} {st:Stmt} {f:Addr} {fd:FuncData} {dV:Value} {N ps:List Str} {k:Nat} {fs:FS} (F:Fn K x qual st f fd dV) (S:aC N ps (ad st))
  (body:∀ (cdv:Value) (A:Around) (outer:List Env) (s:Shared) (H:Hp) (E:XK),iZ k (A.deeper (envOfC qual (ad st) s.heap.objs.size f cdv))→N.Nodup→(A.deeper (envOfC qual (ad st) s.heap.objs.size f cdv)).units+64<cLine→BV (xV Gb P w K mg base N qual (ad st) f cdv A outer s H E).nox (aA st) fs) :
  bh P w K mg base (k+1) f fd ps (fh ps.length N fs):=JX F S fun cdv A outer s H E hr=>body cdv A outer s H E hr S.nd hr.units
def Ew:List AV→Mu→Rs AV:=fun _ _=>.no
theorem nF {P:Program} {w:World} {mg:Str→Option Value} {base:Heap} {k:Nat} {f:Addr} {fd:FuncData} {ps:List Str}:bh P w K mg base k f fd ps Ew:=
 ⟨fun vs H Q E h=>h.1,fun A outer s H args us vs Q E hr he hb hv hs=>by
  obtain⟨_,ds,μ,em,_,_,q⟩:=hs
  exact q.elim⟩
theorem Fn.binds {x qual:Str} {st:Stmt} {f:Addr} {fd:FuncData} {ps:List Str} (F:Fn K x qual st f fd .none)
  (h:∀ (kV doc pm:Value) (an:Option Addr) (cdv ct:Value) (us:List Value),us.length=ps.length→bindArgs (q05 x qual (aE st) (aA st) (ad st) .none kV doc pm an cdv ct) ⟨us,[]⟩=pure (ps.zip us)):ka K fd ps []:=by
 obtain⟨oc,od,kV,doc,pm,an,cdv,ct,osl,rfl,lk,hcd⟩:=F.ex;exact .all (h kV doc pm an cdv ct)
structure FX (K:q04) (mg:Str→Option Value) (x:Str) (st:Stmt) (ps:List Str) (nd:Nat):Type where
 f:Addr
 fd:FuncData
 dV:Value
 F:Fn K x x st f fd dV
 hd:nd=0→dV=.none
 m:mg x=some (.ref f)
 b:∀ k,k≤nd→ka K fd ps (q45 k .none)
theorem FX.b0 {mg:Str→Option Value} {x:Str} {st:Stmt} {ps:List Str} {nd:Nat} (T:FX K mg x st ps nd):ka K T.fd ps []:=T.b 0 (Nat.zero_le _)
def FN (d:AV) (μ:Mu):Rs AV:=match d with
 | .int i=>.ok (.int (-i)) μ
 | _=>.no
def Fv (f:FE):FE:=fun ρ μ=>(f ρ μ).bd FN
theorem G1 {a:Expr} {fa:FE} (ha:AE X a fa):AE X (.UnaryOp .USub a pos) (Fv fa):=
 PE.imp (Lo Fy ha) fun σ H Q ⟨ρ,μ,em,E,S,h⟩=>dw (kl (f:=fa) E S h) fun v H1 ⟨em1,d,μ1,M,r,h1⟩=>by
  cases d with
  | int i=>simp only[Rp] at r; exact⟨i,r,h1.here M.S (by simp only[Rp])⟩
  | _=>exact h1.elim
end
end AL
namespace AL
open L2
section
variable {X:Cx} {pos p2:Pos} {σ:St} {H:Hp}
end
section
variable {env:Env} {pos cpos:Pos} {e o a:Expr} {es:List Expr}
def pE:Expr→Bool
 | .Starred ..=>false
 | _=>true
theorem ma (h:pE e=true):starEach (e::es) env=(false,eval e env)::starEach es env:=by
 cases e<;>first|rfl|cases h
theorem we (h:es.all pE=true):(backTo pos (starEach es env)).any (·.1)=false:=by
 induction es with
 | nil=>rfl
 | cons e es ih=>
  rw[q49,q08] at h;rw[ma h.1];show(false||(backTo pos (starEach es env)).any (·.1))=false;rw[ih h.2]
  rfl
theorem Ut (h:es.all pE=true):(backTo pos (starEach es env)).all (fun x=>!x.1)=true:=by
 induction es with
 | nil=>rfl
 | cons e es ih=>
  rw[q49,q08] at h;rw[ma h.1];show(true&&(backTo pos (starEach es env)).all (fun x=>!x.1))=true;rw[ih h.2]
  rfl
theorem Vk (h:(es.all pE&&decide (es.length<30))=true):((backTo cpos (starEach es env)).all (fun x=>!x.1)&&(backToKw cpos (keywordEach [] env)).all (fun x=>x.1.isSome)
   && decide (es.length+([]:List Keyword).length+(if ([]:List Keyword).isEmpty then 0 else 1)<30))=true:=by
 rw[q08] at h;rw[Ut h.1];exact h.2
def pO:Expr→Bool
 | .Call ..=>false
 | _=>true
theorem lY {name:Str} (h:pO o=true):attributeBase o name env (eval o env)=eval o env:=by
 cases o<;>first|rfl|cases h
def pT:Expr→Bool
 | .UnaryOp .Not _ _=>false
 | .BoolOp ..=>false
 | .IfExp ..=>false
 | .Compare ..=>false
 | _=>true
theorem yTru (h:pT a=true):∀ whole,isTrue a env whole=(do let v ← whole; standAt a.pos; holding [v] (truthy v)):=by
 intro whole
 cases a with
 | UnaryOp op x p=>cases op<;>first|rfl|cases h
 | _=>first|rfl|cases h
def pW:Expr→Bool
 | .ListComp ..=>false
 | .SetComp ..=>false
 | .DictComp ..=>false
 | _=>true
theorem yO {t:Option Expr} {n:Nat} (h:pW e=true):swapsWith e t n env=pure false:=by
 cases e<;>first|rfl|cases h
theorem GF {t:Expr} {n:Nat} (h:pW e=true):swapsWithSole [t] e n env=pure false:=yO h
def pS:Expr→Bool
 | .Set ..=>false
 | _=>true
theorem EY (h:pS e=true):∀ x,foldedSetIterable e env x=pure x:=by
 intro x
 cases e<;>first|rfl|cases h
theorem CD {o i:Expr} {p:Pos}:swappedStores [.Subscript o i p] e env=pure none:=rfl
def pSl:Expr→Bool
 | .Slice ..=>false
 | _=>true
theorem yIx (h:pSl e=true):uW e:=by
 intro u v
 cases e<;>first|rfl|cases h
theorem CO {op:CmpOp} (h:pS e=true):behindInMarks op e=false:=by
 cases e<;>first|rfl|cases h
theorem E3 {op op':CmpOp} {b c:Expr} (h:pS c=true):lastMarks [op,op'] [b,c]=false:=CO h
theorem K4 {t:Expr} (h:pE t=true):(assignEach [t] env).map (·.2)=[assign t env]:=by
 cases t<;>first|rfl|cases h
theorem Uj {t:Expr} {ts:List Expr} (h:pE t=true):(assignEach (t::ts) env).map (·.2)=assign t env::(assignEach ts env).map (·.2):=by
 cases t<;>first|rfl|cases h
theorem yLen {ts:List Expr}:(assignEach ts env).length=ts.length:=by
 induction ts with
 | nil=>rfl
 | cons t ts ih=>cases t<;>exact congrArg (·+1) ih
theorem Di {ts:List Expr} (h:ts.all pE=true):(assignEach ts env).findIdx? (·.1)=none:=by
 induction ts with
 | nil=>rfl
 | cons t ts ih=>
  rw[q49,q08] at h;have:=ih h.2
  cases t<;>first|(show List.findIdx? _ ((false,_)::assignEach ts env)=none; rw[List.findIdx?_cons,this]; rfl)|cases h.1
theorem Gv {a:Expr} (h:pE a=true):starEach [a] env=[(false,eval a env)]:=ma h
end
section
variable {X:Cx} {pos p p2:Pos} {a b c e o:Expr} {es rest:List Expr} {fa fb fc fe fo f:FE} {fl:FL} {x:Str} {g g':AV→AV→Mu→Rs AV} {id T:String}
theorem ah (ha:AE X e f) (hr:AA X es fl) (h:pE e=true:=by rfl):AA X (e::es) (ac f fl):=Eg ha hr (ma h)
theorem ix {op:CmpOp} (ho:jh X (compareOp op) (rA X.K g)) (ha:AE X a fa) (hb:AE X b fb) (h:pS b=true:=by rfl):AE X (.Compare a [op] [b] pos) (aB g fa fb):=Gf ho ha hb (CO h)
theorem aY {op:CmpOp} (ho:jh X (compareOp op) (rA X.K g)) (ha:AE X a fa) (hb:AE X b fb) (h:pS b=true:=by rfl):AT X (.Compare a [op] [b] pos) (fT (aB g fa fb)):=GZ ho ha hb (CO h)
theorem vC {op op':CmpOp} (ho:jh X (compareOp op) (rA X.K g)) (ho':jh X (compareOp op') (rA X.K g')) (ha:AE X a fa) (hb:AE X b fb) (hc:AE X c fc) (h:pS c=true:=by rfl):AE X (.Compare a [op,op'] [b,c] pos) (kn g g' fa fb fc):=A6 ho ho' ha hb hc (E3 h)
theorem wI {op op':CmpOp} (ho:jh X (compareOp op) (rA X.K g)) (ho':jh X (compareOp op') (rA X.K g')) (ha:AE X a fa) (hb:AE X b fb) (hc:AE X c fc) (h:pS c=true:=by rfl):AT X (.Compare a [op,op'] [b,c] pos) (fT (kn g g' fa fb fc)):=BW ho ho' ha hb hc (E3 h)
theorem eC (ha:AE X a fa) (h:pT a=true:=by rfl):AT X a (gI fa):=G4 ha (yTru h)
theorem eB (ha:AE X a fa) (hb:AE X b fb) (h:pSl b=true:=by rfl):AE X (.Subscript a b pos) (aB cM fa fb):=IZ ha hb (yIx h)
theorem dI {g:List AV→Mu→Rs AV} (hc:ki X (.builtin id) (CT X.K g)) (hv:bootBuiltins x=some (.builtin id)) (ha:AA X (e::es) fl) (hm:X.mg x=none) (h:(e::es).all pE=true:=by rfl) (hg:Gl X x:=by rfl) (hn:x≠"__name__":=by decide+kernel) (hdb:(x==("__debug__":Str))=false:=by decide+kernel) :
  AE X (.Call (.Name x p) (e::es) [] pos) (ko g fl):=by
 rw[q49,q08] at h;exact Cg hc hv ha hm hg hn hdb (ma h.1) (we h.2)
theorem sf {g:List AV→Mu→Rs AV} (hc:ki X (.type T) (CT X.K g)) (hv:bootBuiltins x=some (.type T)) (ha:AA X (e::es) fl) (hm:X.mg x=none) (h:(e::es).all pE=true:=by rfl) (hg:Gl X x:=by rfl) (hn:x≠"__name__":=by decide+kernel) (hdb:(x==("__debug__":Str))=false:=by decide+kernel) :
  AE X (.Call (.Name x p) (e::es) [] pos) (ko g fl):=by
 rw[q49,q08] at h;exact BX hc hv ha hm hg hn hdb (ma h.1) (we h.2)
theorem rQ {g:AV→List AV→Mu→Rs AV} {name:Str} {apos cpos:Pos} (T:String) (pa:PlainAttrs T) (slot:Slot T name id) (hty:typeOf (.builtin id)=pure (.type "method_descriptor")) (hm:Ds X id (G0 X.K g)) (ho:AE X o fo) (ha:AA X (e::es) fl)
  (hb:attributeBase o name X.env (eval o X.env)=eval o X.env) (h:(((e::es).all pE&&decide ((e::es).length<30))&&(apos.endLine==cpos.line))=true:=by rfl):AE X (.Call (.Attribute o name apos) (e::es) [] cpos) (sh T g fo fl):=by
 rw[q08] at h;have h1:=h.1;rw[q08,q49,q08] at h1;exact KB T pa slot hty hm ho ha hb (Vk h.1) h.2 (ma h1.1.1) (we h1.1.2)
theorem hJ {k:Nat} {f:Addr} {fd:FuncData} {ps:List Str} {F:List AV→Mu→Rs AV} (D:bh X.prog X.w X.K X.mg X.base k f fd ps F) (hr:iZ k X.A) (hm:X.mg x=some (.ref f)) (hk:q01 X.K (.ref f)=true) (hb:ka X.K fd ps [])
  (ha:AA X (e::es) fl) {n:Nat} (hn:ps.length=n:=by rfl) (h:(e::es).all pE=true:=by rfl) (hg:Gl X x:=by rfl) (hdb:(x==("__debug__":Str))=false:=by decide+kernel):AE X (.Call (.Name x p) (e::es) [] pos) (cq n F [] fl):=by
 rw[q49,q08] at h;exact DG D hr hm hk hb ha hn hg hdb (ma h.1) (we h.2)
theorem kM (he:AE X e fe) (h:pW e=true:=by rfl):AS X (.Expr e pos) (kN fe):=Dy he (yO h)
theorem eN (i:Nat) {pos':Pos} (hN:X.N.Nodup) (he:AE X e fe) (h:pW e=true:=by rfl) (hi:X.N[i]?=some x:=by rfl) (hx:HQ X.env.scope x:=by first|exact Or.inl rfl|exact Or.inr rfl)
  (hf:X.fn x=true∨X.env.scope.names.lookup x=some .local:=by first|exact .inl rfl|exact .inr rfl):AS X (.Assign [.Name x pos'] e pos) (bU fe (dn i)):=Ho i hN he hi hx (yO h) hf
theorem F9 {i:Expr} {g:FG} (he:AE X e fe) (hg:AG X (.Subscript o i p) g) (h:pW e=true:=by rfl):AS X (.Assign [.Subscript o i p] e pos) (bU fe g):=FT he hg (GF h) CD (K4 rfl)
theorem lE {t:Expr} {ts:List Expr} {g:FG} {gs:List AV→Ev→Mu→Rs Ev} (h1:AG X t g) (h2:EU X ts gs) (h:pE t=true:=by rfl):EU X (t::ts) (gB g gs):=AQ h1 h2 (Uj h)
theorem vb {ts:List Expr} {k n:Nat} {gs:List AV→Ev→Mu→Rs Ev} (hc:X.calm=true) (h:EU X ts gs) (hn:ts.length=n:=by rfl) (hst:ts.all pE=true:=by rfl):AG X (.Tuple ts k pos) (zj n gs):=GE hc h (yLen.trans hn) (Di hst)
theorem sR (n:Nat) {tg iter:Expr} {fi:FI} {g:FG} {b:List Stmt} {fb:FS} (hp:PassesOwn (model X.prog X.w) X.A X.env X.xe) (hc:X.calm=true) (hi:AI X tg iter fi) (hg:AG X tg g) (hb:BV X b fb) (h:pS iter=true:=by rfl):AS X (.For tg iter b [] pos) (oO n fi g fb):=HK n hp hc hi hg hb (EY h)
theorem uZ (n:Nat) {elt tg iter:Expr} {ifs:List Expr} {scope:Scope} {fi:FI} {g:FG} {ft:FB} {fe:FE} (N:List Str) (caps:List (Option Nat)) (hc:X.calm=true) (hi:AI X tg iter fi) (hg:∀ s H fp,AG (ii X N scope s H fp) tg g)
  (ht:∀ s H fp,Ib (ii X N scope s H fp) ifs ft) (he:∀ s H fp,AE (ii X N scope s H fp) elt fe) (h:pS iter=true:=by rfl) (hk:scope.kind=.function:=by rfl) (hok:JR X.env.scope scope=true:=by kernel_rfl) (hcap:pk X.N X.env.scope scope N caps=true:=by kernel_rfl) :
  AE X (.ListComp elt [⟨tg,iter,ifs,0⟩] scope pos) (kz n caps fi g ft fe):=DY n N caps hc hi hg ht he hk hok hcap (EY h)
end
theorem rO {P:Nat→Prop} (h:P 0):∀ k,k≤0→P k:=fun k hk=>by cases Nat.le_zero.mp hk; exact h
theorem kAt1 {P:Nat→Prop} (h:P 0) (h1:P 1):∀ k,k≤1→P k:=fun k hk=>by
 cases k with
 | zero=>exact h
 | succ k=>cases Nat.le_zero.mp (Nat.le_of_succ_le_succ hk); exact h1
theorem nAt0 {α:Type} {P:List α→Prop} (h:P []):∀ us:List α,us.length=0→P us
 | [],_=>h
theorem eT {α:Type} {P:List α→Prop} (h:∀ a,P [a]):∀ us:List α,us.length=1→P us
 | [a],_=>h a
theorem jV {α:Type} {P:List α→Prop} (h:∀ a b,P [a,b]):∀ us:List α,us.length=2→P us
 | [a,b],_=>h a b
theorem Dt {α:Type} {P:List α→Prop} (h:∀ a b c,P [a,b,c]):∀ us:List α,us.length=3→P us
 | [a,b,c],_=>h a b c
theorem Bg {α:Type} {P:List α→Prop} (h:∀ a b c d,P [a,b,c,d]):∀ us:List α,us.length=4→P us
 | [a,b,c,d],_=>h a b c d
section
variable {X:Cx} {pos p2:Pos} {σ:St} {H:Hp}
abbrev TT:=List Nat×List Nat
end
section
variable {X:Cx} {pos p2:Pos} {σ:St} {H:Hp}
end
section
variable {X:Cx} {pos p2:Pos} {σ:St} {H:Hp}
end
def pB (μ:Mu) (d:AV):Option (Nat×List (Nat×AV)):=match d with
 | .loc i=>match μ[i]? with
  | some (.ins C fs)=>some (C,fs)
  | _=>none
 | _=>none
def nE (f:Nat) (v:AV):List (Nat×AV)→List (Nat×AV)
 | []=>[(f,v)]
 | (g,x)::r=>if g=f then (g,v)::r else (g,x)::nE f v r
def vK:List Nat→Nat→Bool
 | [],_=>false
 | a::r,C=>a==C||vK r C
theorem Be:∀ a,a<CU→∀ b,b<CU→fg a=fg b→a=b:=by decide+kernel
section
variable {K:q04} {em:Em} {H:Hp} {μ:Mu}
theorem qH {d:AV} {v:V} {C:Nat} {fs:List (Nat×AV)} (S:cS K em μ H) (r:Rp K em H d v) (e:pB μ d=some (C,fs)) :
  ∃ i a A dx xs,d=.loc i∧em[i]?=some a∧v=.ref a∧μ[i]?=some (.ins C fs)∧H a=some (.ins A dx xs)∧Fo K C A fs∧xs.map (·.1)=fs.map (fun p=>fg p.1)∧de K em H (fs.map (·.2)) (xs.map (·.2)):=by
 cases d with
 | loc i=>
  unfold pB at e
  cases h:μ[i]? with
  | none=>simp only[h] at e; cases e
  | some o=>
   cases o with
   | ins C' fs'=>
    simp only[h] at e;cases e;simp only[Rp] at r;obtain⟨a,ea,rfl⟩:=r;obtain⟨A,dx,xs,q⟩:=S.obj i a _ ea h;exact⟨i,a,A,dx,xs,rfl,ea,rfl,h,q⟩
   | _=>simp only[h] at e; cases e
 | _=>cases e
theorem xa:∀ {fs:List (Nat×AV)} {xs:List (Str×V)} {f:Nat} {d:AV},xs.map (·.1)=fs.map (fun p=>fg p.1)→de K em H (fs.map (·.2)) (xs.map (·.2))→(∀ p∈fs,p.1<CU)→f<CU→fs.lookup f=some d→
  ∃ v,xs.lookup (fg f)=some v∧Rp K em H d v
 | [],_,_,_,_,_,_,_,e=>by simp at e
 | (g,y)::fs,[],_,_,k,_,_,_,_=>by simp at k
 | (g,y)::fs,(s,x)::xs,f,d,k,r,b,hf,e=>by
  rw[q42,q42] at k r
  injection k with k1 k2
  obtain⟨x',r',ex,r1,r2⟩:=r.uncons
  injection ex with ex1 ex2
  subst ex1 ex2;have k1:s=fg g:=k1
  by_cases h:f=g
  ·subst h
   rw[q36,beq_self_eq_true] at e;cases e;exact⟨x,by rw[q36,k1,beq_self_eq_true],r1⟩
  ·have h1:(f==g)=false:=beq_eq_false_iff_ne.mpr h
   rw[q36,h1] at e
   have h2:(fg f==s)=false:=beq_eq_false_iff_ne.mpr fun z=>h (Be f hf g (b (g,y) q40) (z.trans k1))
   rw[q36,h2];exact xa k2 r2 (fun p hp=>b p (q19 _ hp)) hf e
theorem oM {α β:Type} [BEq α] [LawfulBEq α]:∀ {xs:List (α×β)} {m:α} {v:β},xs.lookup m=some v→m∈xs.map (·.1)
 | [],_,_,h=>by simp at h
 | (k,x)::xs,m,v,h=>by
  rw[q42]
  by_cases e:m=k
  ·exact q32.mpr (.inl e)
  ·rw[q36,beq_eq_false_iff_ne.mpr e] at h
   exact q19 _ (oM h)
theorem zc {f:Nat} {d:AV} {v:V} (hd:Rp K em H d v) (hf:f<CU):∀ {fs:List (Nat×AV)} {xs:List (Str×V)},xs.map (·.1)=fs.map (fun p=>fg p.1)→de K em H (fs.map (·.2)) (xs.map (·.2))→(∀ p∈fs,p.1<CU)→
  (lC (fg f) v xs).map (·.1)=(nE f d fs).map (fun p=>fg p.1)∧de K em H ((nE f d fs).map (·.2)) ((lC (fg f) v xs).map (·.2))
 | [],[],_,_,_=>⟨rfl,de.cons hd de.nil⟩
 | [],_::_,k,_,_=>by simp at k
 | (g,y)::fs,[],k,_,_=>by simp at k
 | (g,y)::fs,(s,x)::xs,k,r,b=>by
  rw[q42,q42] at k r
  injection k with k1 k2
  obtain⟨x',r',ex,r1,r2⟩:=r.uncons
  injection ex with ex1 ex2
  subst ex1 ex2;have k1:s=fg g:=k1
  by_cases h:g=f
  ·have h':s=fg f:=by rw[k1,h]
   rw[show lC (fg f) v ((s,x)::xs)=(s,v)::xs from if_pos h',show nE f d ((g,y)::fs)=(g,d)::fs from if_pos h];exact⟨by rw[q42,q42,k2,k1],de.cons hd r2⟩
  ·have h':¬ s=fg f:=fun z=>h (Be g (b (g,y) q40) f hf (k1.symm.trans z))
   rw[show lC (fg f) v ((s,x)::xs)=(s,x)::lC (fg f) v xs from if_neg h',show nE f d ((g,y)::fs)=(g,y)::nE f d fs from if_neg h];obtain⟨i1,i2⟩:=zc hd hf k2 r2 (fun p hp=>b p (q19 _ hp));exact⟨by rw[q42,q42,i1,k1],de.cons r1 i2⟩
theorem wC {f:Nat} {d:AV}:∀ {fs:List (Nat×AV)} {p:Nat×AV},p∈nE f d fs→p.1=f∨∃ q∈fs,q.1=p.1
 | [],p,h=>by
  rw[show nE f d []=[(f,d)] from rfl] at h;simp at h;exact .inl (by rw[h])
 | (g,y)::fs,p,h=>by
  by_cases hg:g=f
  ·rw[show nE f d ((g,y)::fs)=(g,d)::fs from if_pos hg] at h
   rcases q32.mp h with h|h
   ·exact .inl (by rw[h]; exact hg)
   ·exact .inr ⟨p,q19 _ h,rfl⟩
  ·rw[show nE f d ((g,y)::fs)=(g,y)::nE f d fs from if_neg hg] at h
   rcases q32.mp h with h|h
   ·exact .inr ⟨(g,y),q40,by rw[h]⟩
   ·rcases wC h with z|⟨q,hq,e⟩
    ·exact .inl z
    ·exact .inr ⟨q,q19 _ hq,e⟩
end
section
variable {X:Cx} {e o value:Expr} {es:List Expr} {x m:Str} {pos pos' p apos:Pos} {fe fo fv:FE} {fl:FL} {σ:St} {H:Hp}
def CK (f:Nat) (d:AV) (μ:Mu):Rs AV:=match pB μ d with
 | some (_,fs)=>match fs.lookup f with
  | some v=>.ok v μ
  | none=>.no
 | none=>.no
def aQ (f:Nat) (fe:FE):FE:=fun ρ μ=>(fe ρ μ).bd fun d μ1=>CK f d μ1
theorem F4 (f:Nat) (he:AE X e fe) (hb:attributeBase e x X.env (eval e X.env)=eval e X.env) (hx:fg f=x:=by decide+kernel):AE X (.Attribute e x pos) (aQ f fe):=by
 subst hx
 refine PE.imp (Fs he hb) fun σ H Q ⟨ρ,μ,em,E,S,h⟩=>dw (kl (f:=fe) E S h) fun v H1 ⟨em1,d,μ1,M,r,h1⟩=>?_
 unfold CK at h1
 cases eo:pB μ1 d with
 | none=>simp only[eo] at h1; exact h1.elim
 | some q=>
  obtain⟨C,fs⟩:=q;simp only[eo] at h1
  cases el:fs.lookup f with
  | none=>simp only[el] at h1; exact h1.elim
  | some w=>
   simp only[el] at h1;obtain⟨i,a,A,dx,xs,rfl,ei,rfl,_,ha,ok,k,rl⟩:=qH M.S r eo;have hm:f∈fs.map (·.1):=oM el;obtain⟨q,hq,rfl⟩:=List.mem_map.mp hm;obtain⟨v,lv,rv⟩:=xa k rl (fun p hp=>(ok.at_ p hp).1) (ok.at_ q hq).1 el;exact⟨a,A,dx,xs,v,rfl,ha,ok.cls,(ok.at_ q hq).2,lv,h1.here M.S rv⟩
theorem aJ (f:Nat) (he:AE X e fe) (h:pO e=true:=by rfl) (hx:fg f=x:=by decide+kernel):AE X (.Attribute e x pos) (aQ f fe):=F4 f he (lY h) hx
def NA (K:q04) (cl:List Nat) (f:Nat):Prop:=∀ C A,vK cl C=true→q10 K mainGlobals (fg C)=some (some (.ref A))→mC K A (fg f)
theorem cI {K:q04} {f:Nat}:NA K [] f:=fun _ _ h=>by cases h
theorem bz {K:q04} {cl:List Nat} {f C:Nat} {A:Addr} {cn fx:Str} (n:q10 K mainGlobals cn=some (some (.ref A))) (a:mC K A fx) (h:NA K cl f) (hc:fg C=cn:=by decide+kernel) (hx:fg f=fx:=by decide+kernel):NA K (C::cl) f:=by
 subst hc hx;intro D B hD hB
 rcases Bool.or_eq_true_iff.mp hD with z|z
 ·have z:C=D:=beq_iff_eq.mp z
  subst z;rw[n] at hB
  injection hB with hB
  injection hB with hB
  injection hB with hB
  subst hB;exact a
 ·exact h D B z hB
def wN (cl:List Nat) (f:Nat) (d y:AV) (μ:Mu):Rs AV:=match d with
 | .loc i=>match μ[i]? with
  | some (.ins C fs)=>if (vK cl C&&decide (fs.length<1000))=true then .ok .non (μ.set i (.ins C (nE f y fs))) else .no
  | _=>.no
 | _=>.no
def bY (cl:List Nat) (f:Nat) (fo fv:FE):FS:=fun ρ μ=>(fv ρ μ).bd fun y μ1=>(fo ρ μ1).bd fun d μ2=>(wN cl f d y μ2).bd fun _ μ3=>.ok (.nx ρ) μ3
theorem Gj (cl:List Nat) (f:Nat) (hN:NA X.K cl f) (ho:AE X o fo) (hv:AE X value fv) (hs:swapsWith value (some (.Attribute o x pos')) pos.line X.env=pure false) (hf:f<CU:=by decide) (hx:fg f=x:=by decide+kernel) :
  AS X (.Assign [.Attribute o x pos'] value pos) (bY cl f fo fv):=by
 subst hx
 refine PS.imp (Hj ho hv hs) fun D σ H ⟨ρ,μ,em,E,S,h⟩=>dw (sG (f:=fv) E S h) fun y H1 ⟨em1,dy,μ1,M,ry,h1⟩=>dw (sG (f:=fo) M.E M.S h1) fun v H2 ⟨em2,d,μ2,M2,r,h2⟩=>?_
 cases d with
 | loc i=>
  unfold wN at h2
  cases eo:μ2[i]? with
  | none=>simp only[eo] at h2; exact h2.elim
  | some ob=>
   cases ob with
   | ins C fs=>
    simp only[eo] at h2
    by_cases hc:(vK cl C&&decide (fs.length<1000))=true
    ·rw[if_pos hc] at h2
     rw[q08] at hc;obtain⟨hc,hl⟩:=hc;have hl:fs.length<1000:=of_decide_eq_true hl;obtain⟨i',a,A,dx,xs,e1,ei,rfl,eo',ha,ok,k,rl⟩:=qH (C:=C) (fs:=fs) M2.S r (by unfold pB; simp only[eo])
     injection e1 with e1
     subst e1;have na:=hN C A hc ok.ns;have ry2:=ry.mono M2.p M2.x
     have hb:∀ p∈fs,p.1<CU:=fun p hp=>(ok.at_ p hp).1
     refine⟨a,A,dx,xs,rfl,ha,ok.cls,na,?_,?_⟩
     ·have:=congrArg List.length k
      rw[q21,q21] at this;omega
     ·obtain⟨S3,x3⟩:=M2.S.setO (o':=.ins C (nE f dy fs)) (u:=.ins A dx (lC (fg f) y xs)) ei eo' rfl fun x3=>by
       obtain⟨k2,r2⟩:=zc (ry2.mono (q09 _) x3) hf k (rl.mono (q09 _) x3) hb;refine⟨A,dx,_,j6,⟨ok.ns,ok.cls,fun p hp=>?_⟩,k2,r2⟩
       rcases wC hp with z|⟨q,hq,z⟩
       ·rw[z]; exact⟨hf,na⟩
       ·rw[← z]; exact ok.at_ q hq
      exact h2 em2 _ σ (q09 _) x3 S3 (M2.E.mono (q09 _) x3)
    ·rw[if_neg hc] at h2; exact h2.elim
   | _=>simp only[eo] at h2; exact h2.elim
 | _=>exact h2.elim
theorem bB (cl:List Nat) (f:Nat) (hN:NA X.K cl f) (ho:AE X o fo) (hv:AE X value fv) (h:pW value=true:=by rfl) (hf:f<CU:=by decide) (hx:fg f=x:=by decide+kernel):AS X (.Assign [.Attribute o x pos'] value pos) (bY cl f fo fv):=Gj cl f hN ho hv (yO h) hf hx
structure MD (P:Program) (w:World) (K:q04) (mg:Str→Option Value) (base:Heap) (k:Nat) (m:Str) (n:Nat) (C:Nat) (F:List AV→Mu→Rs AV):Prop where
 ex:∃ (A f:Addr) (fd:FuncData) (ps:List Str) (k':Nat),q10 K mainGlobals (fg C)=some (some (.ref A))∧w9 K A∧cD K A m f∧k'≤k∧ps.length=n∧bh P w K mg base k' f fd ps F∧ka K fd ps []
def Ie (P:Program) (w:World) (K:q04) (mg:Str→Option Value) (base:Heap) (k:Nat) (m:Str) (n:Nat) (D:List (Nat×(List AV→Mu→Rs AV))):Prop:=∀ C F,D.lookup C=some F→MD P w K mg base k m n C F
theorem ax {P:Program} {w:World} {K:q04} {mg:Str→Option Value} {base:Heap} {k:Nat} {m:Str} {n:Nat}:Ie P w K mg base k m n []:=fun _ _ h=>by cases h
theorem ae {P:Program} {w:World} {K:q04} {mg:Str→Option Value} {base:Heap} {k:Nat} {m:Str} {n:Nat} {C k':Nat} {cn:Str} {A f:Addr} {fd:FuncData} {ps:List Str} {F:List AV→Mu→Rs AV} {D:List (Nat×(List AV→Mu→Rs AV))}
  (hn:q10 K mainGlobals cn=some (some (.ref A))) (hc:w9 K A) (hm:cD K A m f) (d:bh P w K mg base k' f fd ps F) (b:ka K fd ps []) (h:Ie P w K mg base k m n D) (hk:k'≤k:=by omega) (hl:ps.length=n:=by rfl) (hcn:fg C=cn:=by decide+kernel):Ie P w K mg base k m n ((C,F)::D):=by
 subst hcn;intro C' F' e;rw[q36] at e
 cases z:C'==C with
 | true=>
  rw[z] at e;cases e;have z:C'=C:=beq_iff_eq.mp z;subst z;exact⟨A,f,fd,ps,k',hn,hc,hm,hk,hl,d,b⟩
 | false=>
  rw[z] at e;exact h C' F' e
def ST (X:Cx) (k:Nat) (m:Str) (ta:TE) (t:TA):TE:=fun σ H Q=>ta σ H fun x H1=>∃ a C dx fs f fd ps sp k',x=.ref a∧H1 a=some (.ins C dx fs)∧fs.lookup m=none∧w9 X.K C∧cD X.K C m f∧k'≤k∧
 oa X.prog X.w X.K X.mg X.base Gb k' f fd ps sp∧ka X.K fd ps []∧t σ H1 fun vs H2=>sp (x::(vs++[])) H2 Q E0
theorem L0 {k:Nat} {ta:TE} {t:TA} {pl:Sem Bool} (he:PE X o ta) (hr:iZ k X.A) (ha:PA X (e::es) t) (hst:starEach (e::es) X.env=(false,eval e X.env)::starEach es X.env) (hpl:(backTo pos (starEach es X.env)).any (·.1)=false)
  (ht:eval (.Call (.Attribute o m apos) (e::es) [] pos) X.env=(do
   let ov ← eval o X.env
   standAt apos.atName
   let (f,first) ← holding [ov] (getMethod ov m pl)
   callWith pos f first (backTo pos (starEach (e::es) X.env)) (backToKw pos (keywordEach [] X.env)))):PE X (.Call (.Attribute o m apos) (e::es) [] pos) (ST X k m ta t):=by
 intro pq s σ H Q I h;refine q98 (pl:=pl) (iP (he pq s σ H _ I h) fun u s1 ⟨x,H1,I1,rx,a,C,dx,fs,f,fd,ps,sp,k',ex,ea,l,c,hm,hk,F,hb,q⟩=>?_) ht;subst ex;obtain rfl:u=Value.ref a:=rx;refine sU I1 ea c hm l ?_;refine q89 (first:=[.ref a]) (h₀:=X.base) I.ok.mod.kin hm.kp (iP (ha pos pq s1 σ H1 _ I1 q) fun us s2 ⟨vs,H2,I2,r,q2⟩=>⟨I2.kIn,?_⟩) hst hpl;exact vf (us:=.ref a::us) (vs:=.ref a::vs) F (hr.mono hk) hb .nil uH I2 (.cons rfl r) q2
theorem Hn {k:Nat} {ta:TE} {pl:Sem Bool} (he:PE X o ta) (hr:iZ k X.A)
  (ht:eval (.Call (.Attribute o m apos) [] [] pos) X.env=(do
   let ov ← eval o X.env
   standAt apos.atName
   let (f,first) ← holding [ov] (getMethod ov m pl)
   callWith pos f first (backTo pos (starEach [] X.env)) (backToKw pos (keywordEach [] X.env)))):PE X (.Call (.Attribute o m apos) [] [] pos) (ST X k m ta Ei):=by
 intro pq s σ H Q I h;refine q98 (pl:=pl) (iP (he pq s σ H _ I h) fun u s1 ⟨x,H1,I1,rx,a,C,dx,fs,f,fd,ps,sp,k',ex,ea,l,c,hm,hk,F,hb,q⟩=>?_) ht;subst ex;obtain rfl:u=Value.ref a:=rx;refine sU I1 ea c hm l ?_;exact qa8 (first:=[.ref a]) I1.kIn hm.kp (vf (us:=[.ref a]) (vs:=[.ref a]) F (hr.mono hk) hb .nil uH I1 (.cons rfl .nil) q)
def vU (D:List (Nat×(List AV→Mu→Rs AV))) (μ:Mu) (d:AV):Option (List AV→Mu→Rs AV):=match pB μ d with
 | some (C,_)=>D.lookup C
 | none=>none
def aD (n:Nat) (D:List (Nat×(List AV→Mu→Rs AV))) (fo:FE) (fl:FL):FE:=fun ρ μ=>(fo ρ μ).bd fun d μ1=>match vU D μ1 d with
 | some F=>(fl ρ μ1).bd fun ds μ2=>if ds.length+1=n then F (d::ds) μ2 else .no
 | none=>.no
theorem y9 {k n:Nat} {D:List (Nat×(List AV→Mu→Rs AV))} {t:TA} (hD:Ie X.prog X.w X.K X.mg X.base k m n D)
  (hfl:∀ {em:Em} {H:Hp} {ρ:Ev} {σ:St} {μ:Mu} {k:List AV→Mu→Rs AV} {Q:VK},d7 X.K em H ρ σ→cS X.K em μ H→jb X.K em H ((fl ρ μ).bd k) Q→t σ H fun vs H1=>∃ em1 ds μ1,yE X.K em H ρ σ em1 μ1 H1∧de X.K em1 H1 ds vs∧jb X.K em1 H1 (k ds μ1) Q)
  (ht:∀ {σ:St} {H:Hp} {Q Q':List V→Hp→Prop},t σ H Q→(∀ v H,Q v H→Q' v H)→t σ H Q') {σ:St} {H:Hp} {Q:VK} (h:tA X (aD n D fo fl) σ H Q):ST X k m (tA X fo) t σ H Q:=by
 obtain⟨ρ,μ,em,E,S,h⟩:=h
 refine dw (kl (f:=fo) E S h) fun v H1 ⟨em1,d,μ1,M,r,h1⟩=>?_
 unfold vU at h1
 cases eo:pB μ1 d with
 | none=>simp only[eo] at h1; exact h1.elim
 | some q=>
  obtain⟨C,fs⟩:=q;simp only[eo] at h1
  cases el:D.lookup C with
  | none=>simp only[el] at h1; exact h1.elim
  | some F=>
   simp only[el] at h1;obtain⟨i,a,A,dx,xs,rfl,ei,rfl,_,ha,ok,k1,rl⟩:=qH M.S r eo;obtain⟨A',f,fd,ps,k',ns,cl,me,hk,hl,d,b⟩:=(hD C F el).ex;rw[ok.ns] at ns
   injection ns with ns
   injection ns with ns
   injection ns with ns
   subst ns
   have ln:xs.lookup m=none:=by
    cases z:xs.lookup m with
    | none=>rfl
    | some w=>
     have hm:=oM z;rw[k1] at hm;obtain⟨p,hp,e⟩:=List.mem_map.mp hm;have:=(ok.at_ p hp).2;rw[show fg p.1=m from e] at this;have z:=me.at_;rw[show q00 X.K (.ref A) m=some none from this] at z
     injection z with z
     cases z
   refine⟨a,A,dx,xs,f,fd,ps,_,k',rfl,ha,ln,cl,me,hk,d,b,?_⟩
   refine ht (hfl M.E M.S h1) fun vs H2 ⟨em2,ds,μ2,M2,r2,h2⟩=>?_
   obtain⟨hl2,h2⟩:=jb.ite h2;refine⟨?_,.loc i::ds,μ2,em2,de.cons (r.mono M2.p M2.x) (by rw[q31]; exact r2),M2.S,h2⟩;rw[q31,q37,r2.length,hl,hl2]
theorem da {k n:Nat} {D:List (Nat×(List AV→Mu→Rs AV))} {pl:Sem Bool} (hD:Ie X.prog X.w X.K X.mg X.base k m n D) (hr:iZ k X.A) (ho:AE X o fo) (ha:AA X (e::es) fl) (h:(e::es).all pE=true:=by rfl)
  (ht:eval (.Call (.Attribute o m apos) (e::es) [] pos) X.env=(do
   let ov ← eval o X.env
   standAt apos.atName
   let (f,first) ← holding [ov] (getMethod ov m pl)
   callWith pos f first (backTo pos (starEach (e::es) X.env)) (backToKw pos (keywordEach [] X.env))):=by rfl):AE X (.Call (.Attribute o m apos) (e::es) [] pos) (aD n D fo fl):=by
 rw[q49,q08] at h
 exact PE.imp (L0 (t:=HC X fl) ho hr ha (ma h.1) (we h.2) ht) fun σ H Q h=>y9 hD (fun E S h=>pG E S h) (fun h i=>jA h i) h
theorem aI {k n:Nat} {D:List (Nat×(List AV→Mu→Rs AV))} {pl:Sem Bool} (hD:Ie X.prog X.w X.K X.mg X.base k m n D) (hr:iZ k X.A) (ho:AE X o fo)
  (ht:eval (.Call (.Attribute o m apos) [] [] pos) X.env=(do
   let ov ← eval o X.env
   standAt apos.atName
   let (f,first) ← holding [ov] (getMethod ov m pl)
   callWith pos f first (backTo pos (starEach [] X.env)) (backToKw pos (keywordEach [] X.env))):=by rfl):AE X (.Call (.Attribute o m apos) [] [] pos) (aD n D fo ag):=
 PE.imp (Hn ho hr ht) fun σ H Q h=>y9 (fl:=ag) (t:=Ei) hD (fun E S h=>⟨_,[],_,⟨q09 _,gy.refl,E,S⟩,de.nil,h⟩) (fun h i=>i _ _ h) h
def LX (C:Nat) (F:List AV→Mu→Rs AV) (ds:List AV) (μ:Mu):Rs AV:=(F (.loc μ.length::ds) (μ++[.ins C []])).bd fun v μ2=>match v with
 | .non=>.ok (.loc μ.length) μ2
 | _=>.no
def fX (C n:Nat) (F:List AV→Mu→Rs AV) (fl:FL):FE:=fun ρ μ=>(fl ρ μ).bd fun ds μ1=>if ds.length+1=n then LX C F ds μ1 else .no
theorem y6 {n C:Nat} {A:Addr} {ps:List Str} {F:List AV→Mu→Rs AV} {em:Em} {H:Hp} {μ:Mu} {vs:List V} {ds:List AV} {Q:VK} (hns:q10 X.K mainGlobals (fg C)=some (some (.ref A))) (hC:w9 X.K A) (hn:ps.length=n) (S:cS X.K em μ H) (r:de X.K em H ds vs)
  (h:jb X.K em H (if ds.length+1=n then LX C F ds μ else .no) Q) (x dx:Addr) (nx:H x=none) (ndx:H dx=none) (ne:dx≠x):Sk X.K ps.length F (.ref x::(vs++[])) (gL (gL H dx (.own x)) x (.ins A dx [])) (fun v H2=>v=.non∧Q (.ref x) H2) E0:=by
 obtain⟨hl,h⟩:=jb.ite h;have x1:gy X.K H (gL H dx (.own x)):=gy.fresh ndx;have S1:cS X.K em μ (gL H dx (.own x)):=S.lay ndx
 have nx':(gL H dx (.own x)) x=none:=by rw[fJ (q56 ne)]; exact nx
 have x2:gy X.K (gL H dx (.own x)) (gL (gL H dx (.own x)) x (.ins A dx [])):=gy.fresh nx';have pe:em<+:em++[x]:=q53 _ _;obtain⟨S2,r2⟩:=S1.newO (o:=.ins C []) (u:=.ins A dx []) nx' ⟨A,dx,[],j6,⟨hns,hC,fun p hp=>by cases hp⟩,rfl,de.nil⟩;refine⟨by rw[q31,q37,r.length,hn,hl],.loc μ.length::ds,μ++[.ins C []],em++[x],de.cons r2 (by rw[q31]; exact r.mono pe (x1.trans x2)),S2,?_⟩;unfold LX at h
 cases e:F (.loc μ.length::ds) (μ++[.ins C []]) with
 | ok v μ2=>
  rw[e] at h
  cases v with
  | non=>
   intro em' H' v p' x' S' r';simp only[Rp] at r';refine⟨r',h em' H' (.ref x) (pe.trans p') ((x1.trans x2).trans x') S' ?_⟩;simp only[Rp] at r2⊢;obtain⟨a,ea,e2⟩:=r2;exact⟨a,kU p' ea,e2⟩
  | _=>exact h.elim
 | exc C fs μ2=>rw[e] at h; exact h.elim
 | no=>rw[e] at h; exact h.elim
theorem dC {k n C:Nat} {A f:Addr} {fd:FuncData} {ps:List Str} {F:List AV→Mu→Rs AV} {cn:Str} (hns:q10 X.K mainGlobals cn=some (some (.ref A))) (hC:w9 X.K A) (hM:Mk X.K A f) (D:bh X.prog X.w X.K X.mg X.base k f fd ps F) (hr:iZ (k+1) X.A) (hm:X.mg x=some (.ref A)) (hb:ka X.K fd ps [])
  (ha:AA X (e::es) fl) (hcn:fg C=cn:=by decide+kernel) (hn:ps.length=n:=by rfl) (h:(e::es).all pE=true:=by rfl) (hg:Gl X x:=by rfl) (hdb:(x==("__debug__":Str))=false:=by decide+kernel):AE X (.Call (.Name x p) (e::es) [] pos) (fX C n F fl):=by
 subst hcn;rw[q49,q08] at h
 exact PE.imp (D6 hM D hr hg hm hb .nil uH ha hdb (ma h.1) (we h.2)) fun σ H Q ⟨ρ,μ,em,E,S,h⟩=>jA (pG (f:=fl) E S h) fun vs H1 ⟨em1,ds,μ1,M1,r,h1⟩ x dx nx ndx ne=>y6 hns hC hn M1.S r h1 x dx nx ndx ne
theorem A5 {k n C:Nat} {A f:Addr} {fd:FuncData} {ps:List Str} {F:List AV→Mu→Rs AV} {cn:Str} (hns:q10 X.K mainGlobals cn=some (some (.ref A))) (hC:w9 X.K A) (hM:Mk X.K A f) (D:bh X.prog X.w X.K X.mg X.base k f fd ps F) (hr:iZ (k+1) X.A) (hm:X.mg x=some (.ref A)) (hb:ka X.K fd ps [])
  (hcn:fg C=cn:=by decide+kernel) (hn:ps.length=n:=by rfl) (hg:Gl X x:=by rfl) (hdb:(x==("__debug__":Str))=false:=by decide+kernel):AE X (.Call (.Name x p) [] [] pos) (fX C n F ag):=by
 subst hcn
 exact PE.imp (A1 hM D hr hg hm hb .nil uH hdb) fun σ H Q ⟨ρ,μ,em,E,S,h⟩=>fun x dx nx ndx ne=>y6 hns hC hn S de.nil h x dx nx ndx ne
structure BC (K:q04) (A:Addr) (m:Str) (f:Addr):Prop where
 ga:q64 K (.ref A) "__getattribute__"=some (some (.builtin "type.__getattribute__"))
 rd:PySem.W.readsIn K A (.type "type")=true
 fc:PySem.W.findCls K (.ref A) (.type "type") m=some (.val (.ref f))
 kp:q01 K (.ref f)=true
theorem nO {k n:Nat} {A f:Addr} {fd:FuncData} {ps:List Str} {F:List AV→Mu→Rs AV} {pl:Sem Bool} (B:BC X.K A m f) (D:bh X.prog X.w X.K X.mg X.base k f fd ps F) (hr:iZ k X.A) (hmg:X.mg x=some (.ref A)) (hb:ka X.K fd ps [])
  (ha:AA X (e::es) fl) (hn:ps.length=n:=by rfl) (h:(e::es).all pE=true:=by rfl) (hg:Gl X x:=by rfl) (hdb:(x==("__debug__":Str))=false:=by decide+kernel)
  (ht:eval (.Call (.Attribute (.Name x p) m apos) (e::es) [] pos) X.env=(do
   let ov ← eval (.Name x p) X.env
   standAt apos.atName
   let (f,first) ← holding [ov] (getMethod ov m pl)
   callWith pos f first (backTo pos (starEach (e::es) X.env)) (backToKw pos (keywordEach [] X.env))):=by rfl):AE X (.Call (.Attribute (.Name x p) m apos) (e::es) [] pos) (cq n F [] fl):=by
 rw[q49,q08] at h;intro pq s σ H Q I hq;refine q98 (pl:=pl) (nL I hg hmg ?_ hdb) ht;refine PySem.W.method_cls I.kIn B.ga (PySem.W.cls_value I.kIn B.rd B.fc rfl ?_);have I':=I.tok (s.toks+1)
 have hp:HC X fl σ H fun vs H1=>Sk X.K ps.length F (vs++[]) H1 Q E0:=by
  obtain⟨ρ,μ,em,E,S,hq⟩:=hq
  refine jA (pG (f:=fl) E S hq) fun vs H1 ⟨em1,ds,μ1,M,r,h1⟩=>?_
  obtain⟨hl,h1⟩:=jb.ite h1;refine⟨?_,ds,μ1,em1,by rw[q31]; exact r,M.S,by rw[q31] at h1; exact h1⟩;rw[q31,r.length,hn]
  simpa using hl
 refine q89 (first:=[]) (h₀:=X.base) I.ok.mod.kin B.kp (iP (ha pos pq _ σ H _ I' hp) fun us s2 ⟨vs,H2,I2,r,q2⟩=>⟨I2.kIn,?_⟩) (ma h.1) (we h.2);exact vf (us:=us) (vs:=vs) D hr hb .nil uH I2 r q2
end
structure MX (K:q04) (x qual:Str) (st:Stmt) (ps:List Str):Type where
 f:Addr
 fd:FuncData
 F:Fn K x qual st f fd .none
 b:ka K fd ps []
structure vV (K:q04) (mg:Str→Option Value) (x:Str):Type where
 a:Addr
 n:q10 K mainGlobals x=some (some (.ref a))
 m:mg x=some (.ref a)
 c:w9 K a
section
variable {X:Cx} {e o:Expr} {es:List Expr} {x:Str} {pos p p':Pos} {f:FE} {fl:FL}
theorem zP {C:Addr} {pq:List (Addr×Obj)} {σ:St} {H:Hp} {s:Shared} {Q:VK} (hm:q25 X.K C=true) (hi:q00 X.K (.ref C) "__init__"=some (some (.builtin "object.__init__"))) (I:b9 X pq σ H s)
  (h:∀ x dx,H x=none→H dx=none→dx≠x→Q (.ref x) (gL (gL H dx (.own x)) x (.ins C dx []))):wpAny (model X.prog X.w) X.A (call (.ref C) []) (EP X pq σ Q) X.xe s:=by
 have hq:=h (s.heap.objs.size+1) s.heap.objs.size (I.hok.fresh (Nat.le_succ _)) (I.hok.fresh (q11 _)) (q50 (q61 _));have I2:=b9.made (C:=C) I;have Y:=PySem.W.makes_of (M:=model X.prog X.w) I.kIn hm;refine wpAny_call (zS I.kIn hm hi (fun self=>q88.of_pure (PySem.W.oi_bind self)) ?_);have hx:((s.heap.push q38).push (q47 C s.heap.objs.size)).get? (s.heap.objs.size+1)=some (q47 C s.heap.objs.size):=Heap.get?_push_at (by rw[q96]) rfl;have t1:q88 (model X.prog X.w) ((s.heap.push q38).push (q47 C s.heap.objs.size)) (typeOf (.ref (s.heap.objs.size+1))) (.ref C):=(q88.ld hx).andThen .now;have t2:q88 (model X.prog X.w) ((s.heap.push q38).push (q47 C s.heap.objs.size)) (isInstance (.ref (s.heap.objs.size+1)) (.type "object")) true:=
  t1.andThen (Y.top.keeps fun b u z=>q13 _ (q13 _ z))
 refine codeAny_call_builtin PySem.W.oi_plain PySem.W.entry_oi (@PySem.W.check_slot (model X.prog X.w) _ _ _ "object.__init__" "object" "__init__" (.ref (s.heap.objs.size+1)) [] [] _ PySem.W.oi_kind PySem.W.oi_split t2 (PySem.W.oi_args (.ref (s.heap.objs.size+1))) ?_);rw[PySem.W.oi_run];exact wpAny_pure ⟨rfl,⟨V.ref (s.heap.objs.size+1),_,I2,rfl,hq⟩⟩
def xX (C:Nat):FE:=fun _ μ=>.ok (.loc μ.length) (μ++[.ins C []])
theorem AY {C:Nat} {A:Addr} {cn:Str} (hns:q10 X.K mainGlobals cn=some (some (.ref A))) (hC:w9 X.K A) (hmk:q25 X.K A=true) (hi:q00 X.K (.ref A) "__init__"=some (some (.builtin "object.__init__"))) (hk:q01 X.K (.ref A)=true)
  (hm:X.mg x=some (.ref A)) (hcn:fg C=cn:=by decide+kernel) (hg:Gl X x:=by rfl) (hdb:(x==("__debug__":Str))=false:=by decide+kernel):AE X (.Call (.Name x p) [] [] pos) (xX C):=by
 subst hcn;intro pq s σ H Q I ⟨ρ,μ,em,E,S,h⟩;refine wpAny_Call_Name_kw (nL I hg hm ?_ hdb);refine qa8 I.kIn hk (zP hmk hi I fun a dx na nd ne=>?_);have x1:gy X.K H (gL H dx (.own a)):=gy.fresh nd;have S1:cS X.K em μ (gL H dx (.own a)):=S.lay nd
 have na':(gL H dx (.own a)) a=none:=by rw[fJ (q56 ne)]; exact na
 have x2:gy X.K (gL H dx (.own a)) (gL (gL H dx (.own a)) a (.ins A dx [])):=gy.fresh na';obtain⟨S2,r2⟩:=S1.newO (o:=.ins C []) (u:=.ins A dx []) na' ⟨A,dx,[],j6,⟨hns,hC,fun p hp=>by cases hp⟩,rfl,de.nil⟩;exact h _ _ _ (q53 _ _) (x1.trans x2) S2 r2
structure IsX (K:q04) (A D:Addr) (b:Bool):Prop where
 ha:q00 K (.ref A) "__class__"=some (some (.builtin "object.__class__"))
 hn:q64 K (.builtin "object.__class__") "__get__"=some (some (.builtin "getset_descriptor.__get__"))
 ht:PySem.W.takesIn K (.builtin "object.__class__")=some true
 hm:PySem.W.mroIn K A (.type "object")=some true
 k:PySem.W.kitOne K (.ref A) (.ref D)=some b
def zk (x:List Nat) (n:Int):List Nat:=(q45 n.toNat x).flatten
def qr (a b:AV) (μ:Mu):Rs AV:=match a,b with
 | .str x,.int n=>if (sm 30 n&&decide (x.length*n.toNat≤cE))=true then .ok (.str (zk x n)) μ else .no
 | .int i,.int j=>M7 (.int i) (.int j) μ
 | _,_=>.no
theorem EL (y:Array Nat):∀ (n:Nat) (a:Array Nat),(q45 n y).foldl (·++·) a=a++((q45 n y.toList).flatten).toArray
 | 0,a=>by simp
 | n+1,a=>by
  rw[q69,List.foldl_cons,EL y n (a++y),q69,qb6,Array.append_assoc];congr 1
  apply Array.toList_inj.mp
  simp
theorem DW (x:List Nat) (n:Int):Txt.mul ⟨x.toArray⟩ n=⟨(zk x n).toArray⟩:=by
 unfold Txt.mul zk
 by_cases h1:n<1
 ·rw[if_pos h1]
  have:n.toNat=0:=by omega
  rw[this]
  rfl
 ·rw[if_neg h1]
  by_cases h2:(n==1||Str.length ⟨x.toArray⟩==0)=true
  ·rw[if_pos h2]
   rw[q75,beq_iff_eq,beq_iff_eq] at h2
   rcases h2 with h2|h2
   ·subst h2
    simp
   ·have:x=[]:=by
     rw[gS] at h2;exact List.length_eq_zero_iff.mp h2
    subst this
    have:(q45 n.toNat ([]:List Nat)).flatten=[]:=by simp
    rw[this]
  ·rw[if_neg h2,EL]
   simp
theorem mB:jh X (binaryOp .Mult) (rA X.K qr):=by
 intro pq s σ H x y v u Q I rx ry ⟨a,b,μ,em,ra,rb,S,q⟩
 cases a with
 | int i=>
  cases b with
  | int j=>exact Hw pq s σ H x y v u Q I rx ry ⟨.int i,.int j,μ,em,ra,rb,S,q⟩
  | _=>exact q.elim
 | str z=>
  cases b with
  | int n=>
   obtain⟨hc,q⟩:=jb.ite q;rw[q08] at hc;have hs:=uu hc.1;have hl:z.length*n.toNat≤cE:=of_decide_eq_true hc.2;simp only[Rp] at ra rb;subst ra rb;obtain⟨t1,rfl⟩:=rx;obtain⟨t2,rfl⟩:=ry
   have e30:(2:Nat) ^ 30=1073741824:=by decide
   rw[e30] at hs
   have e63:(2:Int) ^ 63=9223372036854775808:=by decide
   refine PySem.SB.mul ⟨?_,fun h1 h2=>?_,fun h1 h2=>?_⟩ fun t' k=>?_
   ·rw[e63,decide_eq_false (by omega),decide_eq_false (by omega)]
    rfl
   ·rw[gS,e63]
    have h3:(z.length:Int)*n≤16777216:=by
     have h4:((z.length*n.toNat:Nat):Int)≤16777216:=by
      have:z.length*n.toNat≤16777216:=hl;omega
     have h5:((z.length*n.toNat:Nat):Int)=(z.length:Int)*n:=by
      rw[Int.natCast_mul,qb0 (by omega)]
     omega
    intro h6;have h7:(9223372036854775808-1:Int)/n<z.length:=h6;have h8:=(Int.ediv_lt_iff_lt_mul (show 0<n by omega)).mp h7;omega
   ·rw[gS]
    unfold Builtin.Str.tooLong;rw[← kj];exact decide_eq_false (by omega)
   ·rw[DW]
    exact⟨.str _,H,I.tok _,⟨t',rfl⟩,q.here S (by simp only[Rp])⟩
  | _=>exact q.elim
 | _=>exact q.elim
end
theorem K6 {α:Type} {P:List α→Prop} (h:∀ a b c d e,P [a,b,c,d,e]):∀ us:List α,us.length=5→P us
 | [a,b,c,d,e],_=>h a b c d e
section
variable {X:Cx} {e o:Expr} {es:List Expr} {x:Str} {pos p p':Pos} {f:FE} {fl:FL}
def Co:AV→Bool
 | .tup _=>true
 | _=>false
def zN (f:FE):FE:=fun ρ μ=>(f ρ μ).bd fun d μ1=>if Co d=true then .ok (.bl true) μ1 else .no
theorem Hg:ki X (.builtin "isinstance") (fun xs H Q=>∃ d v μ em,xs=[v,.ty "tuple"]∧Rp X.K em H d v∧cS X.K em μ H∧jb X.K em H (if Co d=true then .ok (.bl true) μ else .no) Q):=by
 intro pq s σ H xs us Q I rs ⟨d,v,μ,em,e,r,S,q⟩;subst e;obtain⟨u,w',rfl,ru,rw'⟩:=Ff rs;obtain⟨ht,q⟩:=jb.ite q;obtain rfl:w'=Value.type "tuple":=rw'
 have nK:∀ tk,EP X pq σ Q (.bool true) { s with toks:=tk }:=fun tk=>⟨.bl true,H,I.tok _,rfl,q.here S (by simp only[Rp])⟩
 cases d with
 | tup ds=>
  simp only[Rp] at r;obtain⟨a,xs,rfl,hs,_⟩:=r;cases (show u=Value.ref a from ru)
  have hg:∃ o,s.heap.get? a=some o∧o.cls=.type "tuple":=by
   rcases hs with hs|⟨o,its,n,hk,hc,_⟩
   ·obtain⟨_,_,_,pp⟩:=(show lq X.prog X.w H s.heap a (.tup xs) from hs.ok I.hok)
    obtain⟨o,h1,h2,_⟩:=pp;exact⟨o,h1,h2⟩
   ·exact⟨o,I.kIn a o hk,hc⟩
  exact PySem.W.kia_one PySem.W.kitx_tuple I.kIn hg (by unfold PySem.W.kitOne; rw[if_pos (by simp)]) (fun z=>nomatch z) nK
 | _=>cases ht
theorem Hy {p':Pos} (ha:AE X e f) (hm:X.mg "isinstance"=none) (hm2:X.mg "tuple"=none) (hg:Gl X "isinstance":=by rfl) (hg2:Gl X "tuple":=by rfl) (h:pE e=true:=by rfl):AE X (.Call (.Name "isinstance" p) [e,.Name "tuple" p'] [] pos) (zN f):=
 PE.imp (wm Hg hg hm ui (vG ha (vG (DM (v:=.ty "tuple") hg2 hm2 oZ rfl (by decide+kernel) (by decide+kernel)) Ci (Gv rfl)) (ma h)) (by decide+kernel) (by decide+kernel) (ma h) (we rfl)) fun σ H Q ⟨ρ,μ,em,E,S,h⟩=>
  dw (kl (f:=f) E S h) fun v H1 ⟨em1,d,μ1,M,r,h1⟩=>⟨d,v,μ1,em1,rfl,r,M.S,h1⟩
end
end AL
namespace My
open L2 AL
def top (i:Nat):Stmt:=PySem.Challenge.pw_framepost_k44_whole_any_signs.main.body.getD i (.Pass ⟨0,0,0,0⟩)
def aF (i j:Nat):Stmt:=match top i with
 | .ClassDef _ _ _ b _ _ _ _ _ _ _=>b.getD j (.Pass ⟨0,0,0,0⟩)
 | s=>s
def gT:AV:=.tup [(.str [108,101,110,103,116,104]),(.str [112,105,101,99,101,115]),(.str [112,97,114,116,115]),(.str [114,101,115,116])]
def gN:AV:=.str [48,49,50,51,52,53,54,55,56,57,97,98,99,100,101,102]
def gW:AV:=.str [97]
def eS:AV:=.int 4
def jY:AV:=.int 6
def iT:AV:=.int 3
def j1:AV:=.int 1
def fB:AV:=.int 2
def bm:AV:=.str [45,59,10]
def ij:AV:=.tup [(.str [108,101,110,103,116,104]),(.str [112,105,101,99,101,115]),(.str [112,97,114,116,115])]
def eH:AV:=.str [43,59,10]
def iB:AV:=.str [48,59,10,59,10]
def bi:AV:=.str [59,10]
set_option genInjectivity false in
set_option genSizeOf false in
set_option genSizeOfSpec false in
structure TX (K:q04) (mg:Str→Option Value):Type where
 oz:vV K mg "Mark"
 be:vV K mg "Exact"
 eL:vV K mg "RowEnd"
 cQ:vV K mg "Number"
 eV:vV K mg "Value"
 dh:vV K mg "Name"
 bQ:vV K mg "Signs"
 aP:vV K mg "Closed"
 aT:vV K mg "FieldRow"
 br:vV K mg "Fields"
 j8:vV K mg "Tally"
 di:vV K mg "Body"
 aW:vV K mg "LengthBody"
 bj:vV K mg "RestBody"
 aL:vV K mg "PiecesBody"
 aM:vV K mg "PartsBody"
 eA:vV K mg "Frame"
 jS:FX K mg "is_small" (top 10) ["sign"] 0
 g9:FX K mg "is_plain" (top 11) ["sign"] 0
 gp:MX K "__init__" "Mark.__init__" (aF 14 0) ["self"]
 ck:MX K "fed" "Mark.fed" (aF 14 1) ["self","sign"]
 cu:MX K "told" "Mark.told" (aF 14 3) ["self"]
 eG:MX K "__init__" "Exact.__init__" (aF 15 0) ["self","text"]
 gk:MX K "takes" "Exact.takes" (aF 15 1) ["self","sign"]
 fD:MX K "good" "Exact.good" (aF 15 2) ["self"]
 cL:MX K "awaited" "Exact.awaited" (aF 15 3) ["self"]
 iV:MX K "__init__" "RowEnd.__init__" (aF 16 0) ["self"]
 hV:MX K "__init__" "Number.__init__" (aF 17 0) ["self","base","most"]
 ig:MX K "takes" "Number.takes" (aF 17 1) ["self","sign"]
 g5:MX K "good" "Number.good" (aF 17 2) ["self"]
 gq:MX K "awaited" "Number.awaited" (aF 17 3) ["self"]
 g7:MX K "told" "Number.told" (aF 17 4) ["self"]
 jt:MX K "__init__" "Value.__init__" (aF 18 0) ["self","most"]
 iU:MX K "takes" "Value.takes" (aF 18 1) ["self","sign"]
 iE:MX K "good" "Value.good" (aF 18 2) ["self"]
 gP:MX K "awaited" "Value.awaited" (aF 18 3) ["self"]
 jZ:MX K "__init__" "Name.__init__" (aF 19 0) ["self","most","room","ends"]
 js:MX K "takes" "Name.takes" (aF 19 1) ["self","sign"]
 cc:MX K "can_grow_ordinary" "Name.can_grow_ordinary" (aF 19 2) ["self","text"]
 jl:MX K "good" "Name.good" (aF 19 3) ["self"]
 gC:MX K "awaited" "Name.awaited" (aF 19 4) ["self"]
 gf:MX K "__init__" "Signs.__init__" (aF 20 0) ["self","number"]
 iR:MX K "takes" "Signs.takes" (aF 20 1) ["self","sign"]
 iC:MX K "good" "Signs.good" (aF 20 2) ["self"]
 eR:MX K "awaited" "Signs.awaited" (aF 20 3) ["self"]
 dP:MX K "__init__" "Closed.__init__" (aF 21 0) ["self","mark","text"]
 gi:MX K "fed" "Closed.fed" (aF 21 1) ["self","sign"]
 eD:MX K "good" "Closed.good" (aF 21 2) ["self"]
 cO:MX K "awaited" "Closed.awaited" (aF 21 3) ["self"]
 dS:MX K "told" "Closed.told" (aF 21 4) ["self"]
 gR:MX K "__init__" "FieldRow.__init__" (aF 23 0) ["self","book","room","ends"]
 fI:MX K "fed" "FieldRow.fed" (aF 23 1) ["self","sign"]
 cN:MX K "name_to_come" "FieldRow.name_to_come" (aF 23 2) ["self"]
 cG:MX K "value_to_come" "FieldRow.value_to_come" (aF 23 3) ["self"]
 cU:MX K "end_to_come" "FieldRow.end_to_come" (aF 23 4) ["self"]
 gO:MX K "good" "FieldRow.good" (aF 23 5) ["self"]
 dl:MX K "awaited" "FieldRow.awaited" (aF 23 6) ["self"]
 dU:MX K "told" "FieldRow.told" (aF 23 7) ["self"]
 g4:MX K "__init__" "Fields.__init__" (aF 24 0) ["self","book","room","ends"]
 iF:MX K "fed" "Fields.fed" (aF 24 1) ["self","sign"]
 gr:MX K "fed_row" "Fields.fed_row" (aF 24 2) ["self","sign"]
 fN:MX K "keep_row" "Fields.keep_row" (aF 24 3) ["self"]
 gE:MX K "whole" "Fields.whole" (aF 24 4) ["self"]
 eZ:MX K "awaited" "Fields.awaited" (aF 24 5) ["self"]
 g6:MX K "told" "Fields.told" (aF 24 6) ["self"]
 ee:MX K "end_to_come" "Fields.end_to_come" (aF 24 8) ["self"]
 dY:MX K "room_left" "Fields.room_left" (aF 24 9) ["self"]
 jo:MX K "__init__" "Tally.__init__" (aF 30 0) ["self","parts"]
 gw:MX K "has_room" "Tally.has_room" (aF 30 1) ["self"]
 gx:MX K "take_one" "Tally.take_one" (aF 30 2) ["self"]
 iY:FX K mg "body_of" (top 31) ["end","book","room","deep","tally"] 0
 jk:MX K "fed" "Body.fed" (aF 32 0) ["self","sign"]
 fE:MX K "whole" "Body.whole" (aF 32 1) ["self"]
 b4:MX K "awaited" "Body.awaited" (aF 32 3) ["self"]
 jj:MX K "told" "Body.told" (aF 32 4) ["self"]
 fM:MX K "__init__" "LengthBody.__init__" (aF 33 0) ["self","number"]
 d8:MX K "fed" "LengthBody.fed" (aF 33 1) ["self","sign"]
 dZ:MX K "whole" "LengthBody.whole" (aF 33 2) ["self"]
 ce:MX K "awaited" "LengthBody.awaited" (aF 33 3) ["self"]
 eI:MX K "told" "LengthBody.told" (aF 33 4) ["self"]
 gM:MX K "__init__" "RestBody.__init__" (aF 34 0) ["self","most"]
 fK:MX K "fed" "RestBody.fed" (aF 34 1) ["self","sign"]
 fR:MX K "told" "RestBody.told" (aF 34 3) ["self"]
 fP:MX K "__init__" "PiecesBody.__init__" (aF 35 0) ["self","book","room"]
 cZ:MX K "new_size" "PiecesBody.new_size" (aF 35 1) ["self"]
 eh:MX K "fed" "PiecesBody.fed" (aF 35 2) ["self","sign"]
 dM:MX K "fed_size" "PiecesBody.fed_size" (aF 35 3) ["self","sign"]
 dz:MX K "fed_piece" "PiecesBody.fed_piece" (aF 35 4) ["self","sign"]
 dc:MX K "keep_piece" "PiecesBody.keep_piece" (aF 35 5) ["self","text"]
 dX:MX K "whole" "PiecesBody.whole" (aF 35 6) ["self"]
 cb:MX K "awaited" "PiecesBody.awaited" (aF 35 7) ["self"]
 eJ:MX K "told" "PiecesBody.told" (aF 35 8) ["self"]
 gv:MX K "__init__" "PartsBody.__init__" (aF 36 0) ["self","book","deep","tally"]
 bC:MX K "fed" "PartsBody.fed" (aF 36 1) ["self","sign"]
 dN:MX K "begin_row" "PartsBody.begin_row" (aF 36 2) ["self","sign"]
 d9:MX K "has_room" "PartsBody.has_room" (aF 36 3) ["self"]
 dr:MX K "new_part" "PartsBody.new_part" (aF 36 4) ["self"]
 bn:MX K "fed_part" "PartsBody.fed_part" (aF 36 5) ["self","sign"]
 eO:MX K "whole" "PartsBody.whole" (aF 36 6) ["self"]
 ba:MX K "awaited" "PartsBody.awaited" (aF 36 7) ["self"]
 eX:MX K "told" "PartsBody.told" (aF 36 8) ["self"]
 ju:MX K "__init__" "Frame.__init__" (aF 37 0) ["self","book","deep","tally"]
 dL:MX K "fed" "Frame.fed" (aF 37 1) ["self","sign"]
 dj:MX K "body_to_come" "Frame.body_to_come" (aF 37 2) ["self"]
 iW:MX K "whole" "Frame.whole" (aF 37 3) ["self"]
 cw:MX K "awaited" "Frame.awaited" (aF 37 5) ["self"]
 jn:MX K "told" "Frame.told" (aF 37 6) ["self"]
 dB:FX K mg "_law_mixed" (top 39) ["_law_cell","_law_k"] 0
 dQ:FX K mg "_law_cell_at" (top 40) ["_law_script","_law_k"] 0
 dF:FX K mg "_law_hex" (top 41) ["_law_number"] 0
 gm:FX K mg "_law_rows" (top 42) ["_law_fields"] 0
 b7:FX K mg "_law_writing" (top 43) ["_law_body"] 0
 cH:FX K mg "_law_good_fields" (top 44) ["_law_fields","_law_book","_law_room"] 0
 cK:FX K mg "_law_keeps" (top 45) ["_law_body","_law_book","_law_room","_law_deep","_law_left"] 0
 iJ:FX K mg "_law_signs" (top 46) ["_law_machine","_law_cells"] 0
 ol:FX K mg "law" (top 47) ["_law_script"] 0
 h_Body_awaited:cD K di.a "awaited" b4.f
 h_Body_fed:cD K di.a "fed" jk.f
 h_Body_told:cD K di.a "told" jj.f
 h_Body_whole:cD K di.a "whole" fE.f
 h_Closed_awaited:cD K aP.a "awaited" cO.f
 h_Closed_fed:cD K aP.a "fed" gi.f
 h_Closed_good:cD K aP.a "good" eD.f
 h_Closed_told:cD K aP.a "told" dS.f
 h_Exact_awaited:cD K be.a "awaited" cL.f
 h_Exact_fed:cD K be.a "fed" ck.f
 h_Exact_good:cD K be.a "good" fD.f
 h_Exact_takes:cD K be.a "takes" gk.f
 h_Exact_told:cD K be.a "told" cu.f
 h_FieldRow_awaited:cD K aT.a "awaited" dl.f
 h_FieldRow_end_to_come:cD K aT.a "end_to_come" cU.f
 h_FieldRow_fed:cD K aT.a "fed" fI.f
 h_FieldRow_good:cD K aT.a "good" gO.f
 h_FieldRow_name_to_come:cD K aT.a "name_to_come" cN.f
 h_FieldRow_told:cD K aT.a "told" dU.f
 h_FieldRow_value_to_come:cD K aT.a "value_to_come" cG.f
 h_Fields_awaited:cD K br.a "awaited" eZ.f
 h_Fields_end_to_come:cD K br.a "end_to_come" ee.f
 h_Fields_fed:cD K br.a "fed" iF.f
 h_Fields_fed_row:cD K br.a "fed_row" gr.f
 h_Fields_keep_row:cD K br.a "keep_row" fN.f
 h_Fields_room_left:cD K br.a "room_left" dY.f
 h_Fields_told:cD K br.a "told" g6.f
 h_Fields_whole:cD K br.a "whole" gE.f
 h_Frame_awaited:cD K eA.a "awaited" cw.f
 h_Frame_body_to_come:cD K eA.a "body_to_come" dj.f
 h_Frame_fed:cD K eA.a "fed" dL.f
 h_Frame_told:cD K eA.a "told" jn.f
 h_Frame_whole:cD K eA.a "whole" iW.f
 h_LengthBody_awaited:cD K aW.a "awaited" ce.f
 h_LengthBody_fed:cD K aW.a "fed" d8.f
 h_LengthBody_told:cD K aW.a "told" eI.f
 h_LengthBody_whole:cD K aW.a "whole" dZ.f
 h_Name_awaited:cD K dh.a "awaited" gC.f
 h_Name_can_grow_ordinary:cD K dh.a "can_grow_ordinary" cc.f
 h_Name_fed:cD K dh.a "fed" ck.f
 h_Name_good:cD K dh.a "good" jl.f
 h_Name_takes:cD K dh.a "takes" js.f
 h_Name_told:cD K dh.a "told" cu.f
 h_Number_awaited:cD K cQ.a "awaited" gq.f
 h_Number_fed:cD K cQ.a "fed" ck.f
 h_Number_good:cD K cQ.a "good" g5.f
 h_Number_takes:cD K cQ.a "takes" ig.f
 h_Number_told:cD K cQ.a "told" g7.f
 h_PartsBody_awaited:cD K aM.a "awaited" ba.f
 h_PartsBody_begin_row:cD K aM.a "begin_row" dN.f
 h_PartsBody_fed:cD K aM.a "fed" bC.f
 h_PartsBody_fed_part:cD K aM.a "fed_part" bn.f
 h_PartsBody_has_room:cD K aM.a "has_room" d9.f
 h_PartsBody_new_part:cD K aM.a "new_part" dr.f
 h_PartsBody_told:cD K aM.a "told" eX.f
 h_PartsBody_whole:cD K aM.a "whole" eO.f
 h_PiecesBody_awaited:cD K aL.a "awaited" cb.f
 h_PiecesBody_fed:cD K aL.a "fed" eh.f
 h_PiecesBody_fed_piece:cD K aL.a "fed_piece" dz.f
 h_PiecesBody_fed_size:cD K aL.a "fed_size" dM.f
 h_PiecesBody_keep_piece:cD K aL.a "keep_piece" dc.f
 h_PiecesBody_new_size:cD K aL.a "new_size" cZ.f
 h_PiecesBody_told:cD K aL.a "told" eJ.f
 h_PiecesBody_whole:cD K aL.a "whole" dX.f
 h_RestBody_awaited:cD K bj.a "awaited" b4.f
 h_RestBody_fed:cD K bj.a "fed" fK.f
 h_RestBody_told:cD K bj.a "told" fR.f
 h_RestBody_whole:cD K bj.a "whole" fE.f
 h_RowEnd_awaited:cD K eL.a "awaited" cL.f
 h_RowEnd_fed:cD K eL.a "fed" ck.f
 h_RowEnd_good:cD K eL.a "good" fD.f
 h_RowEnd_takes:cD K eL.a "takes" gk.f
 h_Signs_awaited:cD K bQ.a "awaited" eR.f
 h_Signs_fed:cD K bQ.a "fed" ck.f
 h_Signs_good:cD K bQ.a "good" iC.f
 h_Signs_takes:cD K bQ.a "takes" iR.f
 h_Signs_told:cD K bQ.a "told" cu.f
 h_Tally_has_room:cD K j8.a "has_room" gw.f
 h_Tally_take_one:cD K j8.a "take_one" gx.f
 h_Value_awaited:cD K eV.a "awaited" gP.f
 h_Value_fed:cD K eV.a "fed" ck.f
 h_Value_good:cD K eV.a "good" iE.f
 h_Value_takes:cD K eV.a "takes" iU.f
 h_Value_told:cD K eV.a "told" cu.f
 b_Exact_init:BC K be.a "__init__" eG.f
 b_Mark_init:BC K oz.a "__init__" gp.f
 mo_Body:q25 K di.a=true∧q00 K (.ref di.a) "__init__"=some (some (.builtin "object.__init__"))∧q01 K (.ref di.a)=true
 mk_Closed:Mk K aP.a dP.f
 mk_Exact:Mk K be.a eG.f
 mk_FieldRow:Mk K aT.a gR.f
 mk_Fields:Mk K br.a g4.f
 mk_Frame:Mk K eA.a ju.f
 mk_LengthBody:Mk K aW.a fM.f
 mk_Name:Mk K dh.a jZ.f
 mk_Number:Mk K cQ.a hV.f
 mk_PartsBody:Mk K aM.a gv.f
 mk_PiecesBody:Mk K aL.a fP.f
 mk_RestBody:Mk K bj.a gM.f
 mk_RowEnd:Mk K eL.a iV.f
 mk_Signs:Mk K bQ.a gf.f
 mk_Tally:Mk K j8.a jo.f
 mk_Value:Mk K eV.a jt.f
 w_base_Number:NA K [3] 22
 w_body_Frame:NA K [17] 49
 w_book_FieldRow:NA K [9] 30
 w_book_Fields:NA K [10] 30
 w_book_Frame:NA K [17] 30
 w_book_PartsBody:NA K [16] 30
 w_closing_Closed:NA K [8] 28
 w_deep_Frame:NA K [17] 44
 w_deep_PartsBody:NA K [16] 44
 w_empty_row_Fields:NA K [10] 37
 w_end_Fields:NA K [10] 35
 w_ends_FieldRow:NA K [9] 25
 w_ends_Fields:NA K [10] 25
 w_ends_Name:NA K [6] 25
 w_fields_Frame:NA K [17] 48
 w_goal_Exact_RowEnd:NA K [1,2] 21
 w_head_FieldRow:NA K [9] 32
 w_is_closing_Closed:NA K [8] 29
 w_left_PiecesBody:NA K [15] 38
 w_left_Tally:NA K [11] 38
 w_mark_Closed:NA K [8] 27
 w_most_Name:NA K [6] 23
 w_most_Number:NA K [3] 23
 w_most_Value:NA K [5] 23
 w_name_FieldRow:NA K [9] 31
 w_number_Signs:NA K [7] 26
 w_pairs_Fields:NA K [10] 34
 w_part_PartsBody:NA K [16] 47
 w_parts_PartsBody:NA K [16] 46
 w_piece_PiecesBody:NA K [15] 42
 w_room_Fields:NA K [10] 24
 w_room_Name:NA K [6] 24
 w_row_Fields:NA K [10] 36
 w_row_PartsBody:NA K [16] 36
 w_signs_LengthBody:NA K [13] 39
 w_signs_RestBody:NA K [14] 39
 w_size_PiecesBody:NA K [15] 41
 w_tally_Frame:NA K [17] 45
 w_tally_PartsBody:NA K [16] 45
 w_text_Exact_RowEnd_Number_Value_Name_Signs:NA K [1,2,3,5,6,7] 20
 w_texts_PiecesBody:NA K [15] 40
 w_trail_PiecesBody:NA K [15] 43
 w_value_FieldRow:NA K [9] 33
 a_END_NAMES:Addr
 m_END_NAMES:mg "END_NAMES"=some (.ref a_END_NAMES)
 r_END_NAMES:∀ em H,Rp K em H gT (.ref a_END_NAMES)
 s_FIGURES:Str
 t_FIGURES:Tok
 m_FIGURES:mg "FIGURES"=some (.str s_FIGURES t_FIGURES)
 r_FIGURES:∀ em H,Rp K em H gN (.str s_FIGURES)
 s_FILLER:Str
 t_FILLER:Tok
 m_FILLER:mg "FILLER"=some (.str s_FILLER t_FILLER)
 r_FILLER:∀ em H,Rp K em H gW (.str s_FILLER)
 t_MOST_BODY:Tok
 m_MOST_BODY:mg "MOST_BODY"=some (.int 4 t_MOST_BODY)
 r_MOST_BODY:∀ em H,Rp K em H eS (.int 4)
 t_MOST_DEEP:Tok
 m_MOST_DEEP:mg "MOST_DEEP"=some (.int 6 t_MOST_DEEP)
 r_MOST_DEEP:∀ em H,Rp K em H jY (.int 6)
 t_MOST_FIELDS:Tok
 m_MOST_FIELDS:mg "MOST_FIELDS"=some (.int 3 t_MOST_FIELDS)
 r_MOST_FIELDS:∀ em H,Rp K em H iT (.int 3)
 t_MOST_NAME:Tok
 m_MOST_NAME:mg "MOST_NAME"=some (.int 1 t_MOST_NAME)
 r_MOST_NAME:∀ em H,Rp K em H j1 (.int 1)
 t_MOST_VALUE:Tok
 m_MOST_VALUE:mg "MOST_VALUE"=some (.int 2 t_MOST_VALUE)
 r_MOST_VALUE:∀ em H,Rp K em H fB (.int 2)
 s_PARTS_END:Str
 t_PARTS_END:Tok
 m_PARTS_END:mg "PARTS_END"=some (.str s_PARTS_END t_PARTS_END)
 r_PARTS_END:∀ em H,Rp K em H bm (.str s_PARTS_END)
 a_PART_END_NAMES:Addr
 m_PART_END_NAMES:mg "PART_END_NAMES"=some (.ref a_PART_END_NAMES)
 r_PART_END_NAMES:∀ em H,Rp K em H ij (.ref a_PART_END_NAMES)
 s_PART_ROW:Str
 t_PART_ROW:Tok
 m_PART_ROW:mg "PART_ROW"=some (.str s_PART_ROW t_PART_ROW)
 r_PART_ROW:∀ em H,Rp K em H eH (.str s_PART_ROW)
 s_PIECES_END:Str
 t_PIECES_END:Tok
 m_PIECES_END:mg "PIECES_END"=some (.str s_PIECES_END t_PIECES_END)
 r_PIECES_END:∀ em H,Rp K em H iB (.str s_PIECES_END)
 s_ROW_END:Str
 t_ROW_END:Tok
 m_ROW_END:mg "ROW_END"=some (.str s_ROW_END t_ROW_END)
 r_ROW_END:∀ em H,Rp K em H bi (.str s_ROW_END)
 EW:mg "any"=none
 pC:mg "isinstance"=none
 iO:mg "len"=none
 E5:mg "min"=none
 Fj:mg "str"=none
 o9:mg "tuple"=none
def mH:List AV→Mu→Rs AV:=fh 1 ["sign"] (aN (nW (aB (fU false) (ko gJ (ac (ab 0) ag)) (fC (.int 1))) (kn AD AD (fC (.str [97])) (ab 0) (fC (.str [122])))))
def ls:List AV→Mu→Rs AV:=fh 1 ["sign"] (aN (nW (aB (fU false) (ko gJ (ac (ab 0) ag)) (fC (.int 1))) (EI (aB (fU false) (ab 0) (fC (.str [10]))) (kn AD AD (fC (.str [32])) (ab 0) (fC (.str [126]))))))
def iw:List AV→Mu→Rs AV:=fh 1 ["self"] (bY [1,2,3,5,6,7] 20 (ab 0) (fC (.str [])))
def fj:List AV→Mu→Rs AV:=fh 2 ["self","sign"] (aN (sh "str" oI (aQ 21 (ab 0)) (ac (aB bK (aQ 20 (ab 0)) (ab 1)) ag)))
def bR:List AV→Mu→Rs AV:=fh 2 ["self","text"] (aG (df (ir (fT (aB vL (aQ 24 (ab 0)) (fC (.int 1)))) (fT (aB Ak (ko gJ (ac (ab 1) ag)) (aQ 23 (ab 0))))) (aN (fC (.bl false))) dE) (aN (EI (aB vL (ko gJ (ac (ab 1) ag)) (aQ 23 (ab 0))) (aB (oy true) (ab 1) (fC gT)))))
def j3:List AV→Mu→Rs AV:=fh 2 ["self","sign","text"] (aG (bU (aB bK (aQ 20 (ab 0)) (ab 1)) (dn 2)) (aG (df (gI (ko DO (ac (kz 1000000 [none,some 2] (rP (aQ 25 (ab 0))) (dn 0) uf (sh "str" oI (ab 0) (ac (ab 1) ag))) ag))) (aN (fC (.bl true))) dE) (aN (nW (cq 1 mH [] (ac (ab 1) ag)) (aD 2 [(6,bR)] (ab 0) (ac (ab 2) ag))))))
def fq:List AV→Mu→Rs AV:=fh 1 ["self","number","figure"] (aG (bU (fC (.int 0)) (dn 1)) (aG (oO 1000000 (rP (aQ 20 (ab 0))) (dn 2) (bU (aB bK (aB qr (ab 1) (aQ 22 (ab 0))) (sh "str" uB (fC gN) (ac (ab 2) ag))) (dn 1))) (aN (ab 1))))
def ji:List AV→Mu→Rs AV:=fh 2 ["self","sign","figure"] (aG (bU (sh "str" uB (AH yA (fC gN) kQ (lb (aQ 22 (ab 0)))) (ac (ab 1) ag)) (dn 2)) (aG (df (ir (fT (aB vL (ab 2) (fC (.int 0)))) (fT (aB (fU false) (aQ 20 (ab 0)) (fC (.str [48]))))) (aN (fC (.bl false))) dE) (aN (aB AD (aB bK (aB qr (aD 1 [(3,fq)] (ab 0) ag) (aQ 22 (ab 0))) (ab 2)) (aQ 23 (ab 0))))))
def jF:List AV→Mu→Rs AV:=fh 2 ["self","sign"] (aN (nW (cq 1 ls [] (ac (ab 1) ag)) (aB vL (ko gJ (ac (aQ 20 (ab 0)) ag)) (aQ 26 (ab 0)))))
def jK:List AV→Mu→Rs AV:=fh 2 ["self","sign"] (aG (df (ir (gz (gI (cq 1 ls [] (ac (ab 1) ag)))) (fT (aB (oy false) (ab 1) (jD (ac (fC (.str [59])) (ac (fC (.str [10])) ag)))))) (aN (fC (.bl false))) dE) (aG (df (fT (aB (fU false) (ab 1) (fC (.str [32])))) (aN (kn vL vL (fC (.int 0)) (ko gJ (ac (aQ 20 (ab 0)) ag)) (aB qp (aQ 23 (ab 0)) (fC (.int 1))))) dE) (aN (aB vL (ko gJ (ac (aQ 20 (ab 0)) ag)) (aQ 23 (ab 0))))))
def aV:List AV→Mu→Rs AV:=fh 2 ["self","sign"] (aG (df (gz (gI (aD 2 [(1,fj),(2,fj),(3,ji),(5,jK),(6,j3),(7,jF)] (ab 0) (ac (ab 1) ag)))) (aN (fC (.bl false))) dE) (aG (bY [1,2,3,5,6,7] 20 (ab 0) (aB bK (aQ 20 (ab 0)) (ab 1))) (aN (fC (.bl true)))))
def aK:List AV→Mu→Rs AV:=fh 1 ["self"] (aN (aQ 20 (ab 0)))
def gj:List AV→Mu→Rs AV:=fh 2 ["self","text"] (aG (kN (cq 1 iw [] (ac (ab 0) ag))) (bY [1,2] 21 (ab 0) (ab 1)))
def cW:List AV→Mu→Rs AV:=fh 1 ["self"] (aN (aB (fU false) (aQ 20 (ab 0)) (aQ 21 (ab 0))))
def aU:List AV→Mu→Rs AV:=fh 1 ["self"] (aN (AH yA (aQ 21 (ab 0)) (lb (ko gJ (ac (aQ 20 (ab 0)) ag))) kQ))
def ky:List AV→Mu→Rs AV:=fh 1 ["self"] (kN (cq 2 gj [] (ac (ab 0) (ac (fC bi) ag))))
def jJ:List AV→Mu→Rs AV:=fh 3 ["self","base","most"] (aG (kN (cq 1 iw [] (ac (ab 0) ag))) (aG (bY [3] 22 (ab 0) (ab 1)) (bY [3] 23 (ab 0) (ab 2))))
def eE:List AV→Mu→Rs AV:=fh 1 ["self"] (aN (aB (fU true) (aQ 20 (ab 0)) (fC (.str []))))
def ff:List AV→Mu→Rs AV:=fh 1 ["self"] (aN (ug (gI (aD 1 [(3,eE)] (ab 0) ag)) (fC (.str [])) (fC (.str [48]))))
def kT:List AV→Mu→Rs AV:=fh 2 ["self","most"] (aG (kN (cq 1 iw [] (ac (ab 0) ag))) (bY [5] 23 (ab 0) (ab 1)))
def gh:List AV→Mu→Rs AV:=fh 1 ["self"] (aN (nW (aB (fU true) (aQ 20 (ab 0)) (fC (.str []))) (aB (fU true) (aB cM (aQ 20 (ab 0)) (Fv (fC (.int 1)))) (fC (.str [32])))))
def fQ:List AV→Mu→Rs AV:=fh 1 ["self"] (aN (ug (gI (aD 1 [(5,gh)] (ab 0) ag)) (fC (.str [])) (fC gW)))
def lI:List AV→Mu→Rs AV:=fh 4 ["self","most","room","ends"] (aG (kN (cq 1 iw [] (ac (ab 0) ag))) (aG (bY [6] 23 (ab 0) (ab 1)) (aG (bY [6] 24 (ab 0) (ab 2)) (bY [6] 25 (ab 0) (ab 3)))))
def gX:List AV→Mu→Rs AV:=fh 1 ["self"] (aG (df (fT (aB (oy false) (aQ 20 (ab 0)) (aQ 25 (ab 0)))) (aN (fC (.bl true))) dE) (aN (nW (aB (fU true) (aQ 20 (ab 0)) (fC (.str []))) (nW (aB (oy true) (aQ 20 (ab 0)) (fC gT)) (aD 2 [(6,bR)] (ab 0) (ac (aQ 20 (ab 0)) ag))))))
def dk:List AV→Mu→Rs AV:=fh 1 ["self","end"] (aG (df (gI (aD 1 [(6,gX)] (ab 0) ag)) (aN (fC (.str []))) dE) (aG (df (gI (aD 2 [(6,bR)] (ab 0) (ac (aB bK (aQ 20 (ab 0)) (fC gW)) ag))) (aN (fC gW)) dE) (aG (oO 1000000 (rP (aQ 25 (ab 0))) (dn 1) (df (gI (sh "str" oI (ab 1) (ac (aQ 20 (ab 0)) ag))) (aN (AH yA (ab 1) (lb (ko gJ (ac (aQ 20 (ab 0)) ag))) kQ)) dE)) (aN (fC (.str []))))))
def iy:List AV→Mu→Rs AV:=fh 2 ["self","number"] (aG (kN (cq 1 iw [] (ac (ab 0) ag))) (bY [7] 26 (ab 0) (ab 1)))
def fw:List AV→Mu→Rs AV:=fh 1 ["self"] (aN (aB (fU false) (ko gJ (ac (aQ 20 (ab 0)) ag)) (aQ 26 (ab 0))))
def dt:List AV→Mu→Rs AV:=fh 1 ["self"] (aN (aB qr (fC gW) (aB qp (aQ 26 (ab 0)) (ko gJ (ac (aQ 20 (ab 0)) ag)))))
def fA:List AV→Mu→Rs AV:=fh 3 ["self","mark","text"] (aG (bY [8] 27 (ab 0) (ab 1)) (aG (bY [8] 28 (ab 0) (fX 1 2 gj (ac (ab 2) ag))) (bY [8] 29 (ab 0) (fC (.bl false)))))
def bA:List AV→Mu→Rs AV:=fh 2 ["self","sign"] (aG (df (j7 (gz (gI (aQ 29 (ab 0)))) (gI (aD 2 [(6,aV),(5,aV),(3,aV),(1,aV),(7,aV)] (aQ 27 (ab 0)) (ac (ab 1) ag)))) (aN (fC (.bl true))) dE) (aG (df (ir (gz (gI (aD 1 [(6,gX),(5,gh),(3,eE),(1,cW),(7,fw)] (aQ 27 (ab 0)) ag))) (gz (gI (aD 2 [(1,aV)] (aQ 28 (ab 0)) (ac (ab 1) ag))))) (aN (fC (.bl false))) dE) (aG (bY [8] 29 (ab 0) (fC (.bl true))) (aN (fC (.bl true))))))
def cX:List AV→Mu→Rs AV:=fh 1 ["self"] (aN (aD 1 [(1,cW)] (aQ 28 (ab 0)) ag))
def bG:List AV→Mu→Rs AV:=fh 1 ["self"] (aN (aB bK (aD 1 [(6,dk),(5,fQ),(3,ff),(1,aU),(7,dt)] (aQ 27 (ab 0)) ag) (aD 1 [(1,aU)] (aQ 28 (ab 0)) ag)))
def cF:List AV→Mu→Rs AV:=fh 1 ["self"] (aN (aD 1 [(6,aK),(5,aK),(3,fq),(1,aK),(7,aK)] (aQ 27 (ab 0)) ag))
def jM:List AV→Mu→Rs AV:=fh 4 ["self","book","room","ends"] (aG (bY [9] 30 (ab 0) (ab 1)) (aG (bY [9] 25 (ab 0) (ab 3)) (aG (bY [9] 31 (ab 0) (fX 6 4 lI (ac (aB cM (ab 1) (fC j1)) (ac (ug (fT (aB Ak (aB cM (ab 1) (fC fB)) (fC (.int 0)))) (ab 2) (fC (.int 0))) (ac (ab 3) ag))))) (aG (bY [9] 32 (ab 0) (fX 8 3 fA (ac (aQ 31 (ab 0)) (ac (fC (.str [58,32])) ag)))) (bY [9] 33 (ab 0) (fC .non))))))
def bH:List AV→Mu→Rs AV:=fh 1 ["self"] (aN (aB bK (aD 1 [(6,aK)] (aQ 31 (ab 0)) ag) (aD 1 [(6,dk)] (aQ 31 (ab 0)) ag)))
def bP:List AV→Mu→Rs AV:=fh 1 ["self","name"] (aG (bU (aD 1 [(9,bH)] (ab 0) ag) (dn 1)) (aG (df (fT (aB (oy true) (ab 1) (aQ 25 (ab 0)))) (aN (fX 8 3 fA (ac (fX 5 2 kT (ac (aB cM (aQ 30 (ab 0)) (fC fB)) ag)) (ac (fC bi) ag)))) dE) (aG (df (fT (aB (fU false) (ab 1) (fC (.str [108,101,110,103,116,104])))) (aN (fX 8 3 fA (ac (fX 3 3 jJ (ac (fC (.int 10)) (ac (aB cM (aQ 30 (ab 0)) (fC eS)) ag))) (ac (fC bi) ag)))) dE) (aN (fX 8 3 fA (ac (fX 1 2 gj (ac (fC (.str [121,101,115])) ag)) (ac (fC bi) ag)))))))
def bc:List AV→Mu→Rs AV:=fh 2 ["self","sign"] (aG (df (fT (aB (j2 true) (aQ 33 (ab 0)) (fC .non))) (aN (aD 2 [(8,bA)] (aQ 33 (ab 0)) (ac (ab 1) ag))) dE) (aG (df (gz (gI (aD 2 [(8,bA)] (aQ 32 (ab 0)) (ac (ab 1) ag)))) (aN (fC (.bl false))) dE) (aG (df (gI (aD 1 [(8,cX)] (aQ 32 (ab 0)) ag)) (bY [9] 33 (ab 0) (aD 1 [(9,bP)] (ab 0) ag)) dE) (aN (fC (.bl true))))))
def bO:List AV→Mu→Rs AV:=fh 1 ["self","name"] (aG (bU (aD 1 [(9,bH)] (ab 0) ag) (dn 1)) (aG (df (fT (aB (oy true) (ab 1) (aQ 25 (ab 0)))) (aN (fC .non)) dE) (aG (df (ir (fT (aB (fU true) (ab 1) (fC (.str [108,101,110,103,116,104])))) (fT (aB (j2 false) (aQ 33 (ab 0)) (fC .non)))) (aN (jD (ac (ab 1) (ac (fC (.int 0)) ag)))) dE) (aN (jD (ac (ab 1) (ac (aD 1 [(8,cF)] (aQ 33 (ab 0)) ag) ag)))))))
def eP:List AV→Mu→Rs AV:=fh 1 ["self"] (aN (nW (aB (j2 true) (aQ 33 (ab 0)) (fC .non)) (aD 1 [(8,cX)] (aQ 33 (ab 0)) ag)))
def bE:List AV→Mu→Rs AV:=fh 1 ["self"] (aG (df (fT (aB (j2 true) (aQ 33 (ab 0)) (fC .non))) (aN (aD 1 [(8,bG)] (aQ 33 (ab 0)) ag)) dE) (aN (aB bK (aD 1 [(8,bG)] (aQ 32 (ab 0)) ag) (aD 1 [(8,bG)] (aD 1 [(9,bP)] (ab 0) ag) ag))))
def cg:List AV→Mu→Rs AV:=fh 1 ["self"] (aN (jD (ac (aD 1 [(6,aK)] (aQ 31 (ab 0)) ag) (ac (aD 1 [(8,cF)] (aQ 33 (ab 0)) ag) ag))))
def jE:List AV→Mu→Rs AV:=fh 4 ["self","book","room","ends"] (aG (bY [10] 30 (ab 0) (ab 1)) (aG (bY [10] 24 (ab 0) (ab 2)) (aG (bY [10] 25 (ab 0) (ab 3)) (aG (bY [10] 34 (ab 0) (rB ag)) (aG (bY [10] 35 (ab 0) (fC .non)) (aG (bY [10] 36 (ab 0) (fC .non)) (bY [10] 37 (ab 0) (fC .non))))))))
def gY:List AV→Mu→Rs AV:=fh 1 ["self"] (aG (bY [10] 35 (ab 0) (aD 1 [(9,bO)] (aQ 36 (ab 0)) ag)) (aG (df (fT (aB (j2 false) (aQ 35 (ab 0)) (fC .non))) (kN (sh "list" mv (aQ 34 (ab 0)) (ac (aD 1 [(9,cg),(1,aK)] (aQ 36 (ab 0)) ag) ag))) dE) (bY [10] 36 (ab 0) (fC .non))))
def d6:List AV→Mu→Rs AV:=fh 1 ["self"] (aN (aB qp (aQ 24 (ab 0)) (ko gJ (ac (aQ 34 (ab 0)) ag))))
def bN:List AV→Mu→Rs AV:=fh 2 ["self","sign","row"] (aG (df (fT (aB (j2 true) (aQ 35 (ab 0)) (fC .non))) (aN (fC (.bl false))) dE) (aG (bU (aQ 36 (ab 0)) (dn 2)) (aG (df (fT (aB (j2 false) (ab 2) (fC .non))) (bU (fX 9 4 jM (ac (aQ 30 (ab 0)) (ac (aD 1 [(10,d6)] (ab 0) ag) (ac (aQ 25 (ab 0)) ag)))) (dn 2)) dE) (aG (df (gz (gI (aD 2 [(9,bc),(1,aV)] (ab 2) (ac (ab 1) ag)))) (aN (fC (.bl false))) dE) (aG (bY [10] 36 (ab 0) (ab 2)) (aG (df (gI (aD 1 [(9,eP),(1,cW)] (ab 2) ag)) (kN (aD 1 [(10,gY)] (ab 0) ag)) dE) (aN (fC (.bl true)))))))))
def bg:List AV→Mu→Rs AV:=fh 2 ["self","sign"] (aG (df (fT (aB (j2 true) (aQ 37 (ab 0)) (fC .non))) (aN (aD 2 [(2,aV)] (aQ 37 (ab 0)) (ac (ab 1) ag))) dE) (aG (df (j7 (fT (aB (j2 false) (aQ 36 (ab 0)) (fC .non))) (fT (aB (fU false) (ab 1) (aB cM (fC bi) (fC (.int 0)))))) (aG (bY [10] 37 (ab 0) (fX 2 1 ky ag)) (aN (aD 2 [(2,aV)] (aQ 37 (ab 0)) (ac (ab 1) ag)))) dE) (aN (aD 2 [(10,bN)] (ab 0) (ac (ab 1) ag)))))
def cy:List AV→Mu→Rs AV:=fh 1 ["self"] (aN (nW (aB (j2 true) (aQ 37 (ab 0)) (fC .non)) (aD 1 [(2,cW)] (aQ 37 (ab 0)) ag)))
def bw:List AV→Mu→Rs AV:=fh 1 ["self"] (aG (df (fT (aB (j2 true) (aQ 37 (ab 0)) (fC .non))) (aN (aD 1 [(2,aU)] (aQ 37 (ab 0)) ag)) dE) (aG (df (fT (aB (j2 true) (aQ 36 (ab 0)) (fC .non))) (aN (aB bK (aD 1 [(9,bE),(1,aU)] (aQ 36 (ab 0)) ag) (fC bi))) dE) (aN (fC bi))))
def du:List AV→Mu→Rs AV:=fh 1 ["self"] (aN (ko zp (ac (aQ 34 (ab 0)) ag)))
def cx:List AV→Mu→Rs AV:=fh 1 ["self"] (aG (df (fT (aB (j2 false) (aQ 36 (ab 0)) (fC .non))) (aN (aQ 35 (ab 0))) dE) (aN (aD 1 [(9,bO)] (aQ 36 (ab 0)) ag)))
def jq:List AV→Mu→Rs AV:=fh 2 ["self","parts"] (bY [11] 38 (ab 0) (ab 1))
def ip:List AV→Mu→Rs AV:=fh 1 ["self"] (aN (aB Ak (aQ 38 (ab 0)) (fC (.int 0))))
def il:List AV→Mu→Rs AV:=fh 1 ["self"] (bY [11] 38 (ab 0) (aB qp (aQ 38 (ab 0)) (fC (.int 1))))
def je:List AV→Mu→Rs AV:=fh 2 ["self","number"] (bY [13] 39 (ab 0) (fX 7 2 iy (ac (ab 1) ag)))
def jp:List AV→Mu→Rs AV:=fh 4 ["self","book","deep","tally"] (aG (bY [16] 30 (ab 0) (ab 1)) (aG (bY [16] 44 (ab 0) (ab 2)) (aG (bY [16] 45 (ab 0) (ab 3)) (aG (bY [16] 46 (ab 0) (rB ag)) (aG (bY [16] 36 (ab 0) (fC .non)) (bY [16] 47 (ab 0) (fC .non)))))))
def cm:List AV→Mu→Rs AV:=fh 1 ["self"] (aN (fX 8 3 fA (ac (fX 3 3 jJ (ac (fC (.int 16)) (ac (aQ 38 (ab 0)) ag))) (ac (fC bi) ag))))
def jd:List AV→Mu→Rs AV:=fh 3 ["self","book","room"] (aG (bY [15] 38 (ab 0) (aB cM (ab 1) (fC eS))) (aG (bY [15] 40 (ab 0) (rB ag)) (aG (bY [15] 41 (ab 0) (aD 1 [(15,cm)] (ab 0) ag)) (aG (bY [15] 42 (ab 0) (fC .non)) (bY [15] 43 (ab 0) (fX 10 4 jE (ac (ab 1) (ac (ab 2) (ac (jD ag) ag)))))))))
def jO:List AV→Mu→Rs AV:=fh 2 ["self","most"] (bY [14] 39 (ab 0) (fX 7 2 iy (ac (ab 1) ag)))
def dA:List AV→Mu→Rs AV:=fh 5 ["end","book","room","deep","tally","kind"] (aG (df (fT (aB (j2 false) (ab 0) (fC .non))) (aN (xX 12)) dE) (aG (bU (aB cM (ab 0) (fC (.int 0))) (dn 5)) (aG (df (fT (aB (fU false) (ab 5) (fC (.str [108,101,110,103,116,104])))) (aN (fX 13 2 je (ac (aB cM (ab 0) (fC (.int 1))) ag))) dE) (aG (df (fT (aB (fU false) (ab 5) (fC (.str [112,105,101,99,101,115])))) (aN (fX 15 3 jd (ac (ab 1) (ac (ab 2) ag)))) dE) (aG (df (fT (aB (fU false) (ab 5) (fC (.str [112,97,114,116,115])))) (aN (fX 16 4 jp (ac (ab 1) (ac (ab 3) (ac (ab 4) ag))))) dE) (aN (fX 14 2 jO (ac (aB cM (ab 1) (fC eS)) ag))))))))
def bT:List AV→Mu→Rs AV:=fh 2 ["self","sign"] (aN (fC (.bl false)))
def bp:List AV→Mu→Rs AV:=fh 1 ["self"] (aN (fC (.bl true)))
def am:List AV→Mu→Rs AV:=fh 1 ["self"] (aN (fC (.str [])))
def dJ:List AV→Mu→Rs AV:=fh 1 ["self"] (aN (jD (ac (fC (.str [110,111,110,101])) ag)))
def aS:List AV→Mu→Rs AV:=fh 2 ["self","sign"] (aN (aD 2 [(7,aV)] (aQ 39 (ab 0)) (ac (ab 1) ag)))
def bD:List AV→Mu→Rs AV:=fh 1 ["self"] (aN (aD 1 [(7,fw)] (aQ 39 (ab 0)) ag))
def az:List AV→Mu→Rs AV:=fh 1 ["self"] (aN (aD 1 [(7,dt)] (aQ 39 (ab 0)) ag))
def bM:List AV→Mu→Rs AV:=fh 1 ["self"] (aN (jD (ac (fC (.str [108,101,110,103,116,104])) (ac (aD 1 [(7,aK)] (aQ 39 (ab 0)) ag) ag))))
def aZ:List AV→Mu→Rs AV:=fh 2 ["self","sign"] (aN (aD 2 [(7,aV)] (aQ 39 (ab 0)) (ac (ab 1) ag)))
def ci:List AV→Mu→Rs AV:=fh 1 ["self"] (aN (jD (ac (fC (.str [114,101,115,116])) (ac (aD 1 [(7,aK)] (aQ 39 (ab 0)) ag) ag))))
def eu:List AV→Mu→Rs AV:=fh 2 ["self","text"] (aG (kN (sh "list" mv (aQ 40 (ab 0)) (ac (ab 1) ag))) (aG (bY [15] 38 (ab 0) (aB qp (aQ 38 (ab 0)) (ko gJ (ac (ab 1) ag)))) (aG (bY [15] 42 (ab 0) (fC .non)) (bY [15] 41 (ab 0) (aD 1 [(15,cm)] (ab 0) ag)))))
def b8:List AV→Mu→Rs AV:=fh 2 ["self","sign"] (aG (df (gz (gI (aD 2 [(8,bA)] (aQ 42 (ab 0)) (ac (ab 1) ag)))) (aN (fC (.bl false))) dE) (aG (df (gI (aD 1 [(8,cX)] (aQ 42 (ab 0)) ag)) (kN (aD 2 [(15,eu)] (ab 0) (ac (aD 1 [(8,cF)] (aQ 42 (ab 0)) ag) ag))) dE) (aN (fC (.bl true)))))
def bJ:List AV→Mu→Rs AV:=fh 2 ["self","sign"] (aG (df (gz (gI (aD 2 [(8,bA)] (aQ 41 (ab 0)) (ac (ab 1) ag)))) (aN (fC (.bl false))) dE) (aG (df (j7 (gI (aD 1 [(8,cX)] (aQ 41 (ab 0)) ag)) (fT (aB Ak (aD 1 [(8,cF)] (aQ 41 (ab 0)) ag) (fC (.int 0))))) (bY [15] 42 (ab 0) (fX 8 3 fA (ac (fX 7 2 iy (ac (aD 1 [(8,cF)] (aQ 41 (ab 0)) ag) ag)) (ac (fC bi) ag)))) dE) (aN (fC (.bl true)))))
def au:List AV→Mu→Rs AV:=fh 2 ["self","sign"] (aG (df (fT (aB (j2 true) (aQ 42 (ab 0)) (fC .non))) (aN (aD 2 [(15,b8)] (ab 0) (ac (ab 1) ag))) dE) (aG (df (gI (aD 1 [(8,cX)] (aQ 41 (ab 0)) ag)) (aN (aD 2 [(10,bg)] (aQ 43 (ab 0)) (ac (ab 1) ag))) dE) (aN (aD 2 [(15,bJ)] (ab 0) (ac (ab 1) ag)))))
def bF:List AV→Mu→Rs AV:=fh 1 ["self"] (aN (aD 1 [(10,cy)] (aQ 43 (ab 0)) ag))
def ak:List AV→Mu→Rs AV:=fh 1 ["self","number"] (aG (df (fT (aB (j2 true) (aQ 42 (ab 0)) (fC .non))) (aN (aB bK (aD 1 [(8,bG)] (aQ 42 (ab 0)) ag) (fC iB))) dE) (aG (bU (aD 1 [(8,cF)] (aQ 41 (ab 0)) ag) (dn 1)) (aG (df (fT (aB Ak (ab 1) (fC (.int 0)))) (aN (aB bK (aB bK (aB bK (aD 1 [(8,bG)] (aQ 41 (ab 0)) ag) (aD 1 [(7,dt)] (fX 7 2 iy (ac (ab 1) ag)) ag)) (fC bi)) (fC iB))) dE) (aN (aB bK (aD 1 [(8,bG)] (aQ 41 (ab 0)) ag) (aD 1 [(10,bw)] (aQ 43 (ab 0)) ag))))))
def bL:List AV→Mu→Rs AV:=fh 1 ["self"] (aN (jD (ac (fC (.str [112,105,101,99,101,115])) (ac (ko zp (ac (aQ 40 (ab 0)) ag)) (ac (aD 1 [(10,du)] (aQ 43 (ab 0)) ag) ag)))))
def fH:List AV→Mu→Rs AV:=fh 1 ["self"] (aN (nW (aB vL (aQ 44 (ab 0)) (aB cM (aQ 30 (ab 0)) (fC jY))) (aD 1 [(11,ip)] (aQ 45 (ab 0)) ag)))
def bI:List AV→Mu→Rs AV:=fh 2 ["self","sign"] (aG (df (fT (aB (fU false) (ab 1) (aB cM (fC bm) (fC (.int 0))))) (bY [16] 36 (ab 0) (fX 1 2 gj (ac (fC bm) ag))) (df (j7 (fT (aB (fU false) (ab 1) (aB cM (fC eH) (fC (.int 0))))) (gI (aD 1 [(16,fH)] (ab 0) ag))) (aG (kN (aD 1 [(11,il)] (aQ 45 (ab 0)) ag)) (bY [16] 36 (ab 0) (fX 1 2 gj (ac (fC eH) ag)))) (aN (fC (.bl false))))) (aN (aD 2 [(9,bc),(1,aV)] (aQ 36 (ab 0)) (ac (ab 1) ag))))
def bo:List AV→Mu→Rs AV:=fh 1 ["self"] (aN (cq 5 dA [] (ac (aD 1 [(10,cx)] (aQ 48 (ab 0)) ag) (ac (aQ 30 (ab 0)) (ac (aD 1 [(10,d6)] (aQ 48 (ab 0)) ag) (ac (aQ 44 (ab 0)) (ac (aQ 45 (ab 0)) ag)))))))
def bW:List AV→Mu→Rs AV:=fh 1 ["self"] (aN (jD (ac (fC (.str [112,97,114,116,115])) (ac (ko zp (ac (aQ 46 (ab 0)) ag)) ag))))
def iG:List AV→Mu→Rs AV:=fh 1 ["self"] (aN (jD (ac (aD 1 [(10,du)] (aQ 48 (ab 0)) ag) (ac (aD 1 [(12,dJ),(13,bM),(14,ci),(15,bL),(16,bW)] (aQ 49 (ab 0)) ag) ag))))
def bt:List AV→Mu→Rs AV:=fh 1 ["self"] (aN (nW (aB (j2 true) (aQ 36 (ab 0)) (fC .non)) (aB (fU false) (aD 1 [(9,cg),(1,aK)] (aQ 36 (ab 0)) ag) (fC bm))))
def eF:List AV→Mu→Rs AV:=fh 1 ["self"] (aN (nW (aB (j2 true) (aQ 49 (ab 0)) (fC .non)) (aD 1 [(12,bp),(13,bD),(14,bp),(15,bF),(16,bt)] (aQ 49 (ab 0)) ag)))
def kY:List AV→Mu→Rs AV:=fh 4 ["self","book","deep","tally"] (aG (bY [17] 30 (ab 0) (ab 1)) (aG (bY [17] 44 (ab 0) (ab 2)) (aG (bY [17] 45 (ab 0) (ab 3)) (aG (bY [17] 48 (ab 0) (fX 10 4 jE (ac (ab 1) (ac (aB cM (ab 1) (fC iT)) (ac (ug (fT (aB (fU false) (ab 2) (fC (.int 0)))) (fC gT) (fC ij)) ag))))) (bY [17] 49 (ab 0) (fC .non))))))
def ca:List AV→Mu→Rs AV:=fh 1 ["self"] (aN (fX 17 4 kY (ac (aQ 30 (ab 0)) (ac (aB bK (aQ 44 (ab 0)) (fC (.int 1))) (ac (aQ 45 (ab 0)) ag)))))
def HU:Nat→(List AV→Mu→Rs AV)×(List AV→Mu→Rs AV)×(List AV→Mu→Rs AV)
 | 0=>(Ew,Ew,Ew)
 | n+1=>(fh 2 ["self","sign"] (aG (df (fT (aB (j2 true) (aQ 47 (ab 0)) (fC .non))) (aN (aD 2 [(16,(HU n).2.1)] (ab 0) (ac (ab 1) ag))) dE) (aG (df (fT (aB (j2 false) (aQ 36 (ab 0)) (fC .non))) (aN (aD 2 [(16,bI)] (ab 0) (ac (ab 1) ag))) dE) (aG (df (gz (gI (aD 2 [(9,bc),(1,aV)] (aQ 36 (ab 0)) (ac (ab 1) ag)))) (aN (fC (.bl false))) dE) (aG (df (fT (aB (fU false) (aD 1 [(9,cg),(1,aK)] (aQ 36 (ab 0)) ag) (fC eH))) (bY [16] 47 (ab 0) (aD 1 [(16,ca)] (ab 0) ag)) dE) (aN (fC (.bl true))))))),
  fh 2 ["self","sign"] (aG (df (gz (gI (aD 2 [(17,(HU n).2.2)] (aQ 47 (ab 0)) (ac (ab 1) ag)))) (aN (fC (.bl false))) dE) (aG (df (gI (aD 1 [(17,eF)] (aQ 47 (ab 0)) ag)) (aG (kN (sh "list" mv (aQ 46 (ab 0)) (ac (aD 1 [(17,iG)] (aQ 47 (ab 0)) ag) ag))) (aG (bY [16] 47 (ab 0) (fC .non)) (bY [16] 36 (ab 0) (fC .non)))) dE) (aN (fC (.bl true))))),
  fh 2 ["self","sign"] (aG (df (fT (aB (j2 true) (aQ 49 (ab 0)) (fC .non))) (aN (aD 2 [(12,bT),(13,aS),(14,aZ),(15,au),(16,(HU n).1)] (aQ 49 (ab 0)) (ac (ab 1) ag))) dE) (aG (df (gz (gI (aD 2 [(10,bg)] (aQ 48 (ab 0)) (ac (ab 1) ag)))) (aN (fC (.bl false))) dE) (aG (df (gI (aD 1 [(10,cy)] (aQ 48 (ab 0)) ag)) (bY [17] 49 (ab 0) (aD 1 [(17,bo)] (ab 0) ag)) dE) (aN (fC (.bl true)))))))
def aH (n:Nat):List AV→Mu→Rs AV:=(HU n).1
def bS (n:Nat):List AV→Mu→Rs AV:=(HU n).2.1
def cT (n:Nat):List AV→Mu→Rs AV:=(HU n).2.2
theorem dH (n:Nat):aH (n+1)=fh 2 ["self","sign"] (aG (df (fT (aB (j2 true) (aQ 47 (ab 0)) (fC .non))) (aN (aD 2 [(16,(bS n))] (ab 0) (ac (ab 1) ag))) dE) (aG (df (fT (aB (j2 false) (aQ 36 (ab 0)) (fC .non))) (aN (aD 2 [(16,bI)] (ab 0) (ac (ab 1) ag))) dE) (aG (df (gz (gI (aD 2 [(9,bc),(1,aV)] (aQ 36 (ab 0)) (ac (ab 1) ag)))) (aN (fC (.bl false))) dE) (aG (df (fT (aB (fU false) (aD 1 [(9,cg),(1,aK)] (aQ 36 (ab 0)) ag) (fC eH))) (bY [16] 47 (ab 0) (aD 1 [(16,ca)] (ab 0) ag)) dE) (aN (fC (.bl true))))))):=rfl
theorem iL (n:Nat):bS (n+1)=fh 2 ["self","sign"] (aG (df (gz (gI (aD 2 [(17,(cT n))] (aQ 47 (ab 0)) (ac (ab 1) ag)))) (aN (fC (.bl false))) dE) (aG (df (gI (aD 1 [(17,eF)] (aQ 47 (ab 0)) ag)) (aG (kN (sh "list" mv (aQ 46 (ab 0)) (ac (aD 1 [(17,iG)] (aQ 47 (ab 0)) ag) ag))) (aG (bY [16] 47 (ab 0) (fC .non)) (bY [16] 36 (ab 0) (fC .non)))) dE) (aN (fC (.bl true))))):=rfl
theorem jH (n:Nat):cT (n+1)=fh 2 ["self","sign"] (aG (df (fT (aB (j2 true) (aQ 49 (ab 0)) (fC .non))) (aN (aD 2 [(12,bT),(13,aS),(14,aZ),(15,au),(16,(aH n))] (aQ 49 (ab 0)) (ac (ab 1) ag))) dE) (aG (df (gz (gI (aD 2 [(10,bg)] (aQ 48 (ab 0)) (ac (ab 1) ag)))) (aN (fC (.bl false))) dE) (aG (df (gI (aD 1 [(10,cy)] (aQ 48 (ab 0)) ag)) (bY [17] 49 (ab 0) (aD 1 [(17,bo)] (ab 0) ag)) dE) (aN (fC (.bl true)))))):=rfl
def Il:Nat→(List AV→Mu→Rs AV)×(List AV→Mu→Rs AV)
 | 0=>(Ew,Ew)
 | n+1=>(fh 1 ["self"] (aG (df (fT (aB (j2 true) (aQ 47 (ab 0)) (fC .non))) (aN (aB bK (aD 1 [(17,(Il n).2)] (aQ 47 (ab 0)) ag) (fC bm))) dE) (aG (df (fT (aB (j2 false) (aQ 36 (ab 0)) (fC .non))) (aN (fC bm)) dE) (aG (df (fT (aB (fU false) (aB cM (aD 1 [(9,cg),(1,aK)] (aQ 36 (ab 0)) ag) (fC (.int 0))) (aB cM (fC bm) (fC (.int 0))))) (aN (aD 1 [(9,bE),(1,aU)] (aQ 36 (ab 0)) ag)) dE) (aN (aB bK (aB bK (aD 1 [(9,bE),(1,aU)] (aQ 36 (ab 0)) ag) (aD 1 [(17,(Il n).2)] (aD 1 [(16,ca)] (ab 0) ag) ag)) (fC bm)))))),
  fh 1 ["self"] (aG (df (fT (aB (j2 true) (aQ 49 (ab 0)) (fC .non))) (aN (aD 1 [(12,am),(13,az),(14,am),(15,ak),(16,(Il n).1)] (aQ 49 (ab 0)) ag)) dE) (aN (aB bK (aD 1 [(10,bw)] (aQ 48 (ab 0)) ag) (aD 1 [(12,am),(13,az),(14,am),(15,ak),(16,(Il n).1)] (aD 1 [(17,bo)] (ab 0) ag) ag)))))
def ao (n:Nat):List AV→Mu→Rs AV:=(Il n).1
def cf (n:Nat):List AV→Mu→Rs AV:=(Il n).2
theorem gG (n:Nat):ao (n+1)=fh 1 ["self"] (aG (df (fT (aB (j2 true) (aQ 47 (ab 0)) (fC .non))) (aN (aB bK (aD 1 [(17,(cf n))] (aQ 47 (ab 0)) ag) (fC bm))) dE) (aG (df (fT (aB (j2 false) (aQ 36 (ab 0)) (fC .non))) (aN (fC bm)) dE) (aG (df (fT (aB (fU false) (aB cM (aD 1 [(9,cg),(1,aK)] (aQ 36 (ab 0)) ag) (fC (.int 0))) (aB cM (fC bm) (fC (.int 0))))) (aN (aD 1 [(9,bE),(1,aU)] (aQ 36 (ab 0)) ag)) dE) (aN (aB bK (aB bK (aD 1 [(9,bE),(1,aU)] (aQ 36 (ab 0)) ag) (aD 1 [(17,(cf n))] (aD 1 [(16,ca)] (ab 0) ag) ag)) (fC bm)))))):=rfl
theorem lM (n:Nat):cf (n+1)=fh 1 ["self"] (aG (df (fT (aB (j2 true) (aQ 49 (ab 0)) (fC .non))) (aN (aD 1 [(12,am),(13,az),(14,am),(15,ak),(16,(ao n))] (aQ 49 (ab 0)) ag)) dE) (aN (aB bK (aD 1 [(10,bw)] (aQ 48 (ab 0)) ag) (aD 1 [(12,am),(13,az),(14,am),(15,ak),(16,(ao n))] (aD 1 [(17,bo)] (ab 0) ag) ag)))):=rfl
def dW:List AV→Mu→Rs AV:=fh 2 ["_law_cell","_law_k","_law_number"] (aG (df (j7 (fT (aB (fU false) (aB iK (ab 0) (fC (.int 2))) (fC (.int 1)))) (fT (aB Ak (ab 0) (aB F0 (fC (.int 10)) (fC (.int 9)))))) (aN (aB iK (aB gK (ab 0) (fC (.int 2))) (aB F0 (fC (.int 10)) (fC (.int 9))))) dE) (aG (bU (aB iK (aB qr (aB bK (aB bK (ab 0) (aB qr (fC (.int 7919)) (ab 1))) (fC (.int 1))) (fC (.int 48271))) (fC (.int 2147483647))) (dn 2)) (aN (aB iK (aB qr (ab 2) (aB bK (aB gK (ab 2) (fC (.int 1009))) (fC (.int 69621)))) (fC (.int 2147483647))))))
def dO:List AV→Mu→Rs AV:=fh 2 ["_law_script","_law_k"] (aG (df (fT (aB vL (ab 1) (ko gJ (ac (ab 0) ag)))) (aN (aB cM (ab 0) (ab 1))) dE) (aN (fC (.int 0))))
def G89:Nat→(List AV→Mu→Rs AV)
 | 0=>(Ew)
 | n+1=>(fh 1 ["_law_number"] (aG (df (fT (aB vL (ab 0) (fC (.int 16)))) (aN (aB cM (fC (.str [48,49,50,51,52,53,54,55,56,57,97,98,99,100,101,102])) (ab 0))) dE) (aN (aB bK (cq 1 (G89 n) [] (ac (aB gK (ab 0) (fC (.int 16))) ag)) (aB cM (fC (.str [48,49,50,51,52,53,54,55,56,57,97,98,99,100,101,102])) (aB iK (ab 0) (fC (.int 16))))))))
def gD (n:Nat):List AV→Mu→Rs AV:=(G89 n)
theorem pJ (n:Nat):gD (n+1)=fh 1 ["_law_number"] (aG (df (fT (aB vL (ab 0) (fC (.int 16)))) (aN (aB cM (fC (.str [48,49,50,51,52,53,54,55,56,57,97,98,99,100,101,102])) (ab 0))) dE) (aN (aB bK (cq 1 (gD n) [] (ac (aB gK (ab 0) (fC (.int 16))) ag)) (aB cM (fC (.str [48,49,50,51,52,53,54,55,56,57,97,98,99,100,101,102])) (aB iK (ab 0) (fC (.int 16))))))):=rfl
def gn:List AV→Mu→Rs AV:=fh 1 ["_law_fields"] (aN (sh "str" ot (fC (.str [])) (ac (kz 1000000 [none,none] (rP (ab 0)) (zj 2 (gB (dn 0) (gB (dn 1) mQ))) uf (aB bK (aB bK (aB bK (ab 0) (fC (.str [58,32]))) (ab 1)) (fC (.str [59,10])))) ag)))
def G91:Nat→(List AV→Mu→Rs AV)
 | 0=>(Ew)
 | n+1=>(fh 1 ["_law_body","_law_text","_law_fields","_law_inner","_law_row"] (aG (df (fT (aB (fU false) (aB cM (ab 0) (fC (.int 0))) (fC (.str [110,111,110,101])))) (aN (fC (.str []))) dE) (aG (df (ir (fT (aB (fU false) (aB cM (ab 0) (fC (.int 0))) (fC (.str [108,101,110,103,116,104])))) (fT (aB (fU false) (aB cM (ab 0) (fC (.int 0))) (fC (.str [114,101,115,116]))))) (aN (aB cM (ab 0) (fC (.int 1)))) dE) (aG (df (fT (aB (fU false) (aB cM (ab 0) (fC (.int 0))) (fC (.str [112,105,101,99,101,115])))) (aG (bU (sh "str" ot (fC (.str [])) (ac (kz 1000000 [none] (rP (aB cM (ab 0) (fC (.int 1)))) (dn 0) uf (aB bK (aB bK (aB bK (cq 1 (gD 40) [] (ac (ko gJ (ac (ab 0) ag)) ag)) (fC (.str [59,10]))) (ab 0)) (fC (.str [59,10])))) ag)) (dn 1)) (aN (aB bK (aB bK (aB bK (ab 1) (fC (.str [48,59,10]))) (cq 1 gn [] (ac (aB cM (ab 0) (fC (.int 2))) ag))) (fC (.str [59,10]))))) dE) (aG (bU (fC (.str [])) (dn 1)) (aG (oO 1000000 (rP (aB cM (ab 0) (fC (.int 1)))) (zj 2 (gB (dn 2) (gB (dn 3) mQ))) (aG (bU (aB bK (aB cM (ab 3) (fC (.int 0))) (fC (.str [58,32,121,101,115,59,10]))) (dn 4)) (aG (df (fT (aB (fU false) (aB cM (ab 3) (fC (.int 0))) (fC (.str [108,101,110,103,116,104])))) (bU (aB bK (aB bK (fC (.str [108,101,110,103,116,104,58,32])) (ko Bk (ac (ko gJ (ac (aB cM (ab 3) (fC (.int 1))) ag)) ag))) (fC (.str [59,10]))) (dn 4)) dE) (aG (df (fT (aB (fU false) (aB cM (ab 3) (fC (.int 0))) (fC (.str [110,111,110,101])))) (bU (fC (.str [])) (dn 4)) dE) (bU (aB bK (aB bK (aB bK (aB bK (aB bK (ab 1) (fC (.str [43,59,10]))) (cq 1 gn [] (ac (ab 2) ag))) (ab 4)) (fC (.str [59,10]))) (cq 1 (G91 n) [] (ac (ab 3) ag))) (dn 1)))))) (aN (aB bK (ab 1) (fC (.str [45,59,10]))))))))))
def cC (n:Nat):List AV→Mu→Rs AV:=(G91 n)
theorem ie (n:Nat):cC (n+1)=fh 1 ["_law_body","_law_text","_law_fields","_law_inner","_law_row"] (aG (df (fT (aB (fU false) (aB cM (ab 0) (fC (.int 0))) (fC (.str [110,111,110,101])))) (aN (fC (.str []))) dE) (aG (df (ir (fT (aB (fU false) (aB cM (ab 0) (fC (.int 0))) (fC (.str [108,101,110,103,116,104])))) (fT (aB (fU false) (aB cM (ab 0) (fC (.int 0))) (fC (.str [114,101,115,116]))))) (aN (aB cM (ab 0) (fC (.int 1)))) dE) (aG (df (fT (aB (fU false) (aB cM (ab 0) (fC (.int 0))) (fC (.str [112,105,101,99,101,115])))) (aG (bU (sh "str" ot (fC (.str [])) (ac (kz 1000000 [none] (rP (aB cM (ab 0) (fC (.int 1)))) (dn 0) uf (aB bK (aB bK (aB bK (cq 1 (gD 40) [] (ac (ko gJ (ac (ab 0) ag)) ag)) (fC (.str [59,10]))) (ab 0)) (fC (.str [59,10])))) ag)) (dn 1)) (aN (aB bK (aB bK (aB bK (ab 1) (fC (.str [48,59,10]))) (cq 1 gn [] (ac (aB cM (ab 0) (fC (.int 2))) ag))) (fC (.str [59,10]))))) dE) (aG (bU (fC (.str [])) (dn 1)) (aG (oO 1000000 (rP (aB cM (ab 0) (fC (.int 1)))) (zj 2 (gB (dn 2) (gB (dn 3) mQ))) (aG (bU (aB bK (aB cM (ab 3) (fC (.int 0))) (fC (.str [58,32,121,101,115,59,10]))) (dn 4)) (aG (df (fT (aB (fU false) (aB cM (ab 3) (fC (.int 0))) (fC (.str [108,101,110,103,116,104])))) (bU (aB bK (aB bK (fC (.str [108,101,110,103,116,104,58,32])) (ko Bk (ac (ko gJ (ac (aB cM (ab 3) (fC (.int 1))) ag)) ag))) (fC (.str [59,10]))) (dn 4)) dE) (aG (df (fT (aB (fU false) (aB cM (ab 3) (fC (.int 0))) (fC (.str [110,111,110,101])))) (bU (fC (.str [])) (dn 4)) dE) (bU (aB bK (aB bK (aB bK (aB bK (aB bK (ab 1) (fC (.str [43,59,10]))) (cq 1 gn [] (ac (ab 2) ag))) (ab 4)) (fC (.str [59,10]))) (cq 1 (cC n) [] (ac (ab 3) ag))) (dn 1)))))) (aN (aB bK (ab 1) (fC (.str [45,59,10]))))))))):=rfl
def cV:List AV→Mu→Rs AV:=fh 3 ["_law_fields","_law_book","_law_room","_law_name","_law_value"] (aG (df (fT (aB Ak (ko gJ (ac (ab 0) ag)) (ab 2))) (aN (fC (.bl false))) dE) (aG (oO 1000000 (rP (ab 0)) (zj 2 (gB (dn 3) (gB (dn 4) mQ))) (aG (df (ir (gz (fT (kn vL AD (fC (.int 0)) (ko gJ (ac (ab 3) ag)) (aB cM (ab 1) (fC (.int 1)))))) (fT (aB (oy false) (ab 3) (jD (ac (fC (.str [108,101,110,103,116,104])) (ac (fC (.str [112,105,101,99,101,115])) (ac (fC (.str [112,97,114,116,115])) (ac (fC (.str [114,101,115,116])) ag)))))))) (aN (fC (.bl false))) dE) (aG (df (fT (aB (fU true) (kz 1000000 [none] (rP (ab 3)) (dn 0) (fT (aB (oy true) (ab 0) (fC (.str [97,98,99,100,101,102,103,104,105,106,107,108,109,110,111,112,113,114,115,116,117,118,119,120,121,122])))) (ab 0)) (rB ag))) (aN (fC (.bl false))) dE) (df (ir (gz (fT (kn vL AD (fC (.int 0)) (ko gJ (ac (ab 4) ag)) (aB cM (ab 1) (fC (.int 2)))))) (ir (fT (aB (oy false) (fC (.str [59])) (ab 4))) (ir (fT (aB (oy false) (fC (.str [10])) (ab 4))) (fT (aB (fU true) (sh "str" vp (ab 4) (ac (fC (.str [32])) ag)) (ab 4)))))) (aN (fC (.bl false))) dE)))) (aN (fC (.bl true)))))
def G93:Nat→(List AV→Mu→Rs AV)
 | 0=>(Ew)
 | n+1=>(fh 5 ["_law_body","_law_book","_law_room","_law_deep","_law_left","_law_fields","_law_inner"] (aG (df (fT (aB (fU false) (aB cM (ab 0) (fC (.int 0))) (fC (.str [112,105,101,99,101,115])))) (aG (df (ir (fT (aB (oy false) (fC (.str [])) (aB cM (ab 0) (fC (.int 1))))) (fT (aB Ak (ko gJ (ac (sh "str" ot (fC (.str [])) (ac (aB cM (ab 0) (fC (.int 1))) ag)) ag)) (aB cM (ab 1) (fC (.int 4)))))) (aN (fC (.bl false))) dE) (aN (cq 3 cV [] (ac (aB cM (ab 0) (fC (.int 2))) (ac (ab 1) (ac (ab 2) ag)))))) dE) (aG (df (fT (aB (fU true) (aB cM (ab 0) (fC (.int 0))) (fC (.str [112,97,114,116,115])))) (aN (EI (aB (fU false) (aB cM (ab 0) (fC (.int 0))) (fC (.str [110,111,110,101]))) (nW (aB AD (ko gJ (ac (aB cM (ab 0) (fC (.int 1))) ag)) (aB cM (ab 1) (fC (.int 4)))) (EI (aB (fU false) (aB cM (ab 0) (fC (.int 0))) (fC (.str [108,101,110,103,116,104]))) (aB (fU false) (ab 3) (fC (.int 0))))))) dE) (aG (oO 1000000 (rP (aB cM (ab 0) (fC (.int 1)))) (zj 2 (gB (dn 5) (gB (dn 6) mQ))) (aG (bU (aB qp (aB cM (ab 4) (fC (.int 0))) (fC (.int 1))) (uG (ab 4) (fC (.int 0)))) (aG (df (ir (fT (aB vL (aB cM (ab 4) (fC (.int 0))) (fC (.int 0)))) (ir (fT (aB Ak (aB bK (ab 3) (fC (.int 1))) (aB cM (ab 1) (fC (.int 6))))) (gz (gI (cq 3 cV [] (ac (ab 5) (ac (ab 1) (ac (aB cM (ab 1) (fC (.int 3))) ag)))))))) (aN (fC (.bl false))) dE) (df (gz (gI (cq 5 (G93 n) [] (ac (ab 6) (ac (ab 1) (ac (aB qp (aB cM (ab 1) (fC (.int 3))) (ko gJ (ac (ab 5) ag))) (ac (aB bK (ab 3) (fC (.int 1))) (ac (ab 4) ag)))))))) (aN (fC (.bl false))) dE)))) (aN (fC (.bl true)))))))
def eK (n:Nat):List AV→Mu→Rs AV:=(G93 n)
theorem jg (n:Nat):eK (n+1)=fh 5 ["_law_body","_law_book","_law_room","_law_deep","_law_left","_law_fields","_law_inner"] (aG (df (fT (aB (fU false) (aB cM (ab 0) (fC (.int 0))) (fC (.str [112,105,101,99,101,115])))) (aG (df (ir (fT (aB (oy false) (fC (.str [])) (aB cM (ab 0) (fC (.int 1))))) (fT (aB Ak (ko gJ (ac (sh "str" ot (fC (.str [])) (ac (aB cM (ab 0) (fC (.int 1))) ag)) ag)) (aB cM (ab 1) (fC (.int 4)))))) (aN (fC (.bl false))) dE) (aN (cq 3 cV [] (ac (aB cM (ab 0) (fC (.int 2))) (ac (ab 1) (ac (ab 2) ag)))))) dE) (aG (df (fT (aB (fU true) (aB cM (ab 0) (fC (.int 0))) (fC (.str [112,97,114,116,115])))) (aN (EI (aB (fU false) (aB cM (ab 0) (fC (.int 0))) (fC (.str [110,111,110,101]))) (nW (aB AD (ko gJ (ac (aB cM (ab 0) (fC (.int 1))) ag)) (aB cM (ab 1) (fC (.int 4)))) (EI (aB (fU false) (aB cM (ab 0) (fC (.int 0))) (fC (.str [108,101,110,103,116,104]))) (aB (fU false) (ab 3) (fC (.int 0))))))) dE) (aG (oO 1000000 (rP (aB cM (ab 0) (fC (.int 1)))) (zj 2 (gB (dn 5) (gB (dn 6) mQ))) (aG (bU (aB qp (aB cM (ab 4) (fC (.int 0))) (fC (.int 1))) (uG (ab 4) (fC (.int 0)))) (aG (df (ir (fT (aB vL (aB cM (ab 4) (fC (.int 0))) (fC (.int 0)))) (ir (fT (aB Ak (aB bK (ab 3) (fC (.int 1))) (aB cM (ab 1) (fC (.int 6))))) (gz (gI (cq 3 cV [] (ac (ab 5) (ac (ab 1) (ac (aB cM (ab 1) (fC (.int 3))) ag)))))))) (aN (fC (.bl false))) dE) (df (gz (gI (cq 5 (eK n) [] (ac (ab 6) (ac (ab 1) (ac (aB qp (aB cM (ab 1) (fC (.int 3))) (ko gJ (ac (ab 5) ag))) (ac (aB bK (ab 3) (fC (.int 1))) (ac (ab 4) ag)))))))) (aN (fC (.bl false))) dE)))) (aN (fC (.bl true)))))):=rfl
def iH:List AV→Mu→Rs AV:=fh 2 ["_law_machine","_law_cells","_law_some","_law_text","_law_cell","_law_number","_law_more","_law_sign","_law_found"] (aG (bU (fC (.str [59,10,59,10,59,10,58,32,43,45,43,45,108,101,110,103,116,104,112,105,101,99,115,112,97,114,116,114,101,121,120,48,49,50,51,52,53,54,55,56,57,97,98,99,100,101,102,32,121,101,115,65,66,90,126,33])) (dn 2)) (aG (bU (fC (.str [])) (dn 3)) (aG (oO 1000000 (rP (ab 1)) (dn 4) (aG (bU (cq 2 dW [] (ac (ab 4) (ac (fC (.int 3)) ag))) (dn 5)) (aG (bU (aD 1 [(12,am),(13,az),(14,am),(15,ak),(16,(ao 40))] (ab 0) ag) (dn 6)) (aG (bU (aB cM (ab 2) (aB iK (aB gK (ab 5) (fC (.int 2))) (ko gJ (ac (ab 2) ag)))) (dn 7)) (aG (df (j7 (fT (aB (fU false) (aB iK (ab 5) (fC (.int 2))) (fC (.int 0)))) (fT (aB (fU true) (ab 6) (fC (.str []))))) (bU (aB cM (ab 6) (fC (.int 0))) (dn 7)) dE) (aG (bU (aD 2 [(12,bT),(13,aS),(14,aZ),(15,au),(16,(aH 40))] (ab 0) (ac (ab 7) ag)) (dn 8)) (df (fT (aB (j2 false) (ab 8) (fC (.bl true)))) (bU (aB bK (ab 3) (ab 7)) (dn 3)) (df (ir (fT (aB (j2 true) (ab 8) (fC (.bl false)))) (fT (aB (fU false) (ab 7) (AH yA (ab 6) kQ (lb (fC (.int 1))))))) (aN (fC .non)) dE)))))))) (aN (ab 3)))))
def BS:List AV→Mu→Rs AV:=fh 1 ["_law_script","_law_number","_law_rows_here","_law_book","_law_turn","_law_deep","_law_ends","_law_end","_law_room","_law_machine","_law_text","_law_sign","_law_body","_law_name"] (aG (bU (cq 2 dW [] (ac (cq 2 dO [] (ac (ab 0) (ac (fC (.int 0)) ag))) (ac (fC (.int 1)) ag))) (dn 1)) (aG (bU (jD (ac (fC (.int 3)) (ac (aB bK (fC (.int 1)) (aB iK (aB gK (ab 1) (fC (.int 2))) (fC (.int 8)))) (ac (aB bK (fC (.int 1)) (aB iK (aB gK (ab 1) (fC (.int 3))) (fC (.int 4)))) (ac (aB iK (aB gK (ab 1) (fC (.int 5))) (fC (.int 3))) ag))))) (dn 2)) (aG (bU (aB bK (ab 2) (jD (ac (aB iK (aB gK (ab 1) (fC (.int 7))) (fC (.int 41))) (ac (aB iK (aB gK (ab 1) (fC (.int 11))) (fC (.int 5))) (ac (aB iK (ab 1) (fC (.int 4))) ag))))) (dn 3)) (aG (bU (cq 2 dW [] (ac (cq 2 dO [] (ac (ab 0) (ac (fC (.int 1)) ag))) (ac (fC (.int 2)) ag))) (dn 4)) (aG (bU (aB qr (aB iK (aB gK (ab 4) (fC (.int 5))) (fC (.int 2))) (ko Ao (ac (fC (.int 1)) (ac (aB cM (ab 3) (fC (.int 6))) ag)))) (dn 5)) (aG (bU (rB (ac (jD (ac (fC (.str [112,105,101,99,101,115])) (ac (fC (.int 0)) ag))) (ac (jD (ac (fC (.str [112,97,114,116,115])) (ac (fC (.int 0)) ag))) (ac (jD (ac (fC (.str [112,97,114,116,115])) (ac (fC (.int 0)) ag))) (ac (jD (ac (fC (.str [112,105,101,99,101,115])) (ac (fC (.int 0)) ag))) (ac (jD (ac (fC (.str [108,101,110,103,116,104])) (ac (aB iK (aB gK (ab 4) (fC (.int 7))) (aB bK (aB cM (ab 3) (fC (.int 4))) (fC (.int 1)))) ag))) (ac (fC .non) ag))))))) (dn 6)) (aG (bU (aB cM (ab 6) (aB iK (aB gK (ab 4) (fC (.int 11))) (fC (.int 6)))) (dn 7)) (aG (df (j7 (fT (aB (fU false) (ab 5) (fC (.int 0)))) (fT (aB (fU false) (aB iK (aB gK (ab 4) (fC (.int 66))) (fC (.int 6))) (fC (.int 1))))) (bU (jD (ac (fC (.str [114,101,115,116])) (ac (fC (.int 0)) ag))) (dn 7)) dE) (aG (bU (aB iK (aB gK (ab 4) (fC (.int 13))) (aB bK (aB cM (ab 3) (fC (.int 3))) (fC (.int 1)))) (dn 8)) (aG (bU (cq 5 dA [] (ac (ab 7) (ac (ab 3) (ac (ab 8) (ac (ab 5) (ac (fX 11 2 jq (ac (aB cM (ab 3) (fC (.int 5))) ag)) ag)))))) (dn 9)) (aG (bU (cq 2 iH [] (ac (ab 9) (ac (AH yA (ab 0) (lb (fC (.int 2))) (lb (fC (.int 62)))) ag))) (dn 10)) (aG (df (fT (aB (j2 false) (ab 10) (fC .non))) (aN (fC (.bl false))) dE) (aG (oO 1000000 (rP (aD 1 [(12,am),(13,az),(14,am),(15,ak),(16,(ao 40))] (ab 9) ag)) (dn 11) (aG (df (fT (aB (j2 true) (aD 2 [(12,bT),(13,aS),(14,aZ),(15,au),(16,(aH 40))] (ab 9) (ac (ab 11) ag)) (fC (.bl true)))) (aN (fC (.bl false))) dE) (bU (aB bK (ab 10) (ab 11)) (dn 10)))) (aG (df (ir (fT (aB (j2 true) (aD 1 [(12,bp),(13,bD),(14,bp),(15,bF),(16,bt)] (ab 9) ag) (fC (.bl true)))) (fT (aB (fU true) (aD 1 [(12,am),(13,az),(14,am),(15,ak),(16,(ao 40))] (ab 9) ag) (fC (.str []))))) (aN (fC (.bl false))) dE) (aG (bU (aD 1 [(12,dJ),(13,bM),(14,ci),(15,bL),(16,bW)] (ab 9) ag) (dn 12)) (aG (bU (ug (fT (aB (j2 false) (ab 7) (fC .non))) (fC (.str [110,111,110,101])) (aB cM (ab 7) (fC (.int 0)))) (dn 13)) (aG (df (ir (gz (gI (zN (ab 12)))) (ir (fT (aB (fU true) (aB cM (ab 12) (fC (.int 0))) (ab 13))) (fT (aB (fU true) (cq 1 (cC 40) [] (ac (ab 12) ag)) (ab 10))))) (aN (fC (.bl false))) dE) (aG (df (j7 (fT (aB (fU false) (ab 13) (fC (.str [108,101,110,103,116,104])))) (fT (aB (fU true) (ko gJ (ac (aB cM (ab 12) (fC (.int 1))) ag)) (aB cM (ab 7) (fC (.int 1)))))) (aN (fC (.bl false))) dE) (aN (cq 5 (eK 40) [] (ac (ab 12) (ac (ab 3) (ac (ab 8) (ac (ab 5) (ac (rB (ac (aB cM (ab 3) (fC (.int 5))) ag)) ag)))))))))))))))))))))))))
section
seal AE AA AT AW AS BV AI AG EU Ib K7 bh
variable {P:Program} {w:World} {K:q04} {mg:Str→Option Value} {base:Heap}
theorem wo:aC ["sign"] ["sign"] (ad (top 10)):=.q
theorem vX:aC ["sign"] ["sign"] (ad (top 11)):=.q
theorem u1:aC ["self"] ["self"] (ad (aF 14 0)):=.q
theorem v9:aC ["self","sign"] ["self","sign"] (ad (aF 14 1)):=.q
theorem uO:aC ["self"] ["self"] (ad (aF 14 3)):=.q
theorem t6:aC ["self","text"] ["self","text"] (ad (aF 15 0)):=.q
theorem sH:aC ["self","sign"] ["self","sign"] (ad (aF 15 1)):=.q
theorem t9:aC ["self"] ["self"] (ad (aF 15 2)):=.q
theorem qk:aC ["self"] ["self"] (ad (aF 15 3)):=.q
theorem sr:aC ["self"] ["self"] (ad (aF 16 0)):=.q
theorem sS:aC ["self","base","most"] ["self","base","most"] (ad (aF 17 0)):=.q
theorem rD:aC ["self","sign","figure"] ["self","sign"] (ad (aF 17 1)):=.q
theorem tH:aC ["self"] ["self"] (ad (aF 17 2)):=.q
theorem pi:aC ["self"] ["self"] (ad (aF 17 3)):=.q
theorem tI:aC ["self","number","figure"] ["self"] (ad (aF 17 4)):=.q
theorem tQ:aC ["self","most"] ["self","most"] (ad (aF 18 0)):=.q
theorem sY:aC ["self","sign"] ["self","sign"] (ad (aF 18 1)):=.q
theorem tS:aC ["self"] ["self"] (ad (aF 18 2)):=.q
theorem qv:aC ["self"] ["self"] (ad (aF 18 3)):=.q
theorem u0:aC ["self","most","room","ends"] ["self","most","room","ends"] (ad (aF 19 0)):=.q
theorem ud:aC ["self","sign","text"] ["self","sign"] (ad (aF 19 1)):=.q
theorem lB:aC ["self","text"] ["self","text"] (ad (aF 19 2)):=.q
theorem uQ:aC ["self"] ["self"] (ad (aF 19 3)):=.q
theorem rH:aC ["self","end"] ["self"] (ad (aF 19 4)):=.q
theorem ua:aC ["self","number"] ["self","number"] (ad (aF 20 0)):=.q
theorem tE:aC ["self","sign"] ["self","sign"] (ad (aF 20 1)):=.q
theorem tU:aC ["self"] ["self"] (ad (aF 20 2)):=.q
theorem qt:aC ["self"] ["self"] (ad (aF 20 3)):=.q
theorem tw:aC ["self","mark","text"] ["self","mark","text"] (ad (aF 21 0)):=.q
theorem tL:aC ["self","sign"] ["self","sign"] (ad (aF 21 1)):=.q
theorem sy:aC ["self"] ["self"] (ad (aF 21 2)):=.q
theorem py:aC ["self"] ["self"] (ad (aF 21 3)):=.q
theorem tF:aC ["self"] ["self"] (ad (aF 21 4)):=.q
theorem ql:aC ["self","book","room","ends"] ["self","book","room","ends"] (ad (aF 23 0)):=.q
theorem rG:aC ["self","sign"] ["self","sign"] (ad (aF 23 1)):=.q
theorem lO:aC ["self"] ["self"] (ad (aF 23 2)):=.q
theorem lA:aC ["self","name"] ["self"] (ad (aF 23 3)):=.q
theorem ml:aC ["self","name"] ["self"] (ad (aF 23 4)):=.q
theorem qI:aC ["self"] ["self"] (ad (aF 23 5)):=.q
theorem nY:aC ["self"] ["self"] (ad (aF 23 6)):=.q
theorem qd:aC ["self"] ["self"] (ad (aF 23 7)):=.q
theorem sZ:aC ["self","book","room","ends"] ["self","book","room","ends"] (ad (aF 24 0)):=.q
theorem tX:aC ["self","sign"] ["self","sign"] (ad (aF 24 1)):=.q
theorem pY:aC ["self","sign","row"] ["self","sign"] (ad (aF 24 2)):=.q
theorem oH:aC ["self"] ["self"] (ad (aF 24 3)):=.q
theorem q0:aC ["self"] ["self"] (ad (aF 24 4)):=.q
theorem pV:aC ["self"] ["self"] (ad (aF 24 5)):=.q
theorem sK:aC ["self"] ["self"] (ad (aF 24 6)):=.q
theorem mZ:aC ["self"] ["self"] (ad (aF 24 8)):=.q
theorem nV:aC ["self"] ["self"] (ad (aF 24 9)):=.q
theorem ub:aC ["self","parts"] ["self","parts"] (ad (aF 30 0)):=.q
theorem p9:aC ["self"] ["self"] (ad (aF 30 1)):=.q
theorem oV:aC ["self"] ["self"] (ad (aF 30 2)):=.q
theorem yr:aC ["end","book","room","deep","tally","kind"] ["end","book","room","deep","tally"] (ad (top 31)):=.q
theorem wz:aC ["self","sign"] ["self","sign"] (ad (aF 32 0)):=.q
theorem tY:aC ["self"] ["self"] (ad (aF 32 1)):=.q
theorem rK:aC ["self"] ["self"] (ad (aF 32 3)):=.q
theorem u6:aC ["self"] ["self"] (ad (aF 32 4)):=.q
theorem oG:aC ["self","number"] ["self","number"] (ad (aF 33 0)):=.q
theorem qa:aC ["self","sign"] ["self","sign"] (ad (aF 33 1)):=.q
theorem nT:aC ["self"] ["self"] (ad (aF 33 2)):=.q
theorem mV:aC ["self"] ["self"] (ad (aF 33 3)):=.q
theorem oJ:aC ["self"] ["self"] (ad (aF 33 4)):=.q
theorem qh:aC ["self","most"] ["self","most"] (ad (aF 34 0)):=.q
theorem rc:aC ["self","sign"] ["self","sign"] (ad (aF 34 1)):=.q
theorem qF:aC ["self"] ["self"] (ad (aF 34 3)):=.q
theorem oF:aC ["self","book","room"] ["self","book","room"] (ad (aF 35 0)):=.q
theorem mJ:aC ["self"] ["self"] (ad (aF 35 1)):=.q
theorem pQ:aC ["self","sign"] ["self","sign"] (ad (aF 35 2)):=.q
theorem my:aC ["self","sign"] ["self","sign"] (ad (aF 35 3)):=.q
theorem lU:aC ["self","sign"] ["self","sign"] (ad (aF 35 4)):=.q
theorem lP:aC ["self","text"] ["self","text"] (ad (aF 35 5)):=.q
theorem nR:aC ["self"] ["self"] (ad (aF 35 6)):=.q
theorem nc:aC ["self","number"] ["self"] (ad (aF 35 7)):=.q
theorem oN:aC ["self"] ["self"] (ad (aF 35 8)):=.q
theorem p0:aC ["self","book","deep","tally"] ["self","book","deep","tally"] (ad (aF 36 0)):=.q
theorem qM:aC ["self","sign"] ["self","sign"] (ad (aF 36 1)):=.q
theorem mE:aC ["self","sign"] ["self","sign"] (ad (aF 36 2)):=.q
theorem mY:aC ["self"] ["self"] (ad (aF 36 3)):=.q
theorem m4:aC ["self"] ["self"] (ad (aF 36 4)):=.q
theorem m9:aC ["self","sign"] ["self","sign"] (ad (aF 36 5)):=.q
theorem oP:aC ["self"] ["self"] (ad (aF 36 6)):=.q
theorem nv:aC ["self"] ["self"] (ad (aF 36 7)):=.q
theorem pF:aC ["self"] ["self"] (ad (aF 36 8)):=.q
theorem t8:aC ["self","book","deep","tally"] ["self","book","deep","tally"] (ad (aF 37 0)):=.q
theorem vE:aC ["self","sign"] ["self","sign"] (ad (aF 37 1)):=.q
theorem mW:aC ["self"] ["self"] (ad (aF 37 2)):=.q
theorem tD:aC ["self"] ["self"] (ad (aF 37 3)):=.q
theorem qD:aC ["self"] ["self"] (ad (aF 37 5)):=.q
theorem tW:aC ["self"] ["self"] (ad (aF 37 6)):=.q
theorem tN:aC ["_law_cell","_law_k","_law_number"] ["_law_cell","_law_k"] (ad (top 39)):=.q
theorem rE:aC ["_law_script","_law_k"] ["_law_script","_law_k"] (ad (top 40)):=.q
theorem wQ:aC ["_law_number"] ["_law_number"] (ad (top 41)):=.q
theorem vA:aC ["_law_fields"] ["_law_fields"] (ad (top 42)):=.q
theorem rj:aC ["_law_body","_law_text","_law_fields","_law_inner","_law_row"] ["_law_body"] (ad (top 43)):=.q
theorem nX:aC ["_law_fields","_law_book","_law_room","_law_name","_law_value"] ["_law_fields","_law_book","_law_room"] (ad (top 44)):=.q
theorem tV:aC ["_law_body","_law_book","_law_room","_law_deep","_law_left","_law_fields","_law_inner"] ["_law_body","_law_book","_law_room","_law_deep","_law_left"] (ad (top 45)):=.q
theorem t7:aC ["_law_machine","_law_cells","_law_some","_law_text","_law_cell","_law_number","_law_more","_law_sign","_law_found"] ["_law_machine","_law_cells"] (ad (top 46)):=.q
theorem Gm:aC ["_law_script","_law_number","_law_rows_here","_law_book","_law_turn","_law_deep","_law_ends","_law_end","_law_room","_law_machine","_law_text","_law_sign","_law_body","_law_name"] ["_law_script"] (ad (top 47)):=.q
theorem xR (T:TX K mg):bh P w K mg base 1 T.jS.f T.jS.fd ["sign"] mH:=aR T.jS.F wo fun _ _ _ _ _ _ hr nd hu=>by
 exact(ai (ar (kr (ix (fO hu) (dI fZ q26 (ah (aa 0) ap) T.iO) ay) (jv (vC qO qO (aX [97]) (aa 0) (aX [122]))))))
theorem sJ (T:TX K mg):bh P w K mg base 1 T.g9.f T.g9.fd ["sign"] ls:=aR T.g9.F vX fun _ _ _ _ _ _ hr nd hu=>by
 exact(ai (ar (kr (ix (fO hu) (dI fZ q26 (ah (aa 0) ap) T.iO) ay) (jv (yu (ix (fO hu) (aa 0) (aX [10])) (jv (vC qO qO (aX [32]) (aa 0) (aX [126]))))))))
theorem kA (T:TX K mg):bh P w K mg base 1 T.gp.f T.gp.fd ["self"] iw:=aR T.gp.F u1 fun _ _ _ _ _ _ hr nd hu=>by
 exact(ai (bB [1,2,3,5,6,7] 20 T.w_text_Exact_RowEnd_Number_Value_Name_Signs (aa 0) (aX [])))
theorem om (T:TX K mg):bh P w K mg base 1 T.gk.f T.gk.fd ["self","sign"] fj:=aR T.gk.F sH fun _ _ _ _ _ _ hr nd hu=>by
 exact(ai (ar (rQ "str" q43 q77 q78 sO (aJ 21 (aa 0)) (ah (bf bq (aJ 20 (aa 0)) (aa 1)) ap) (lY rfl))))
theorem ia (T:TX K mg):bh P w K mg base 1 T.cc.f T.cc.fd ["self","text"] bR:=aR T.cc.F lB fun _ _ _ _ _ _ hr nd hu=>by
 exact(aj (bv (AW.at (kC (aY mj (aJ 24 (aa 0)) ay) (km (aY pf (dI fZ q26 (ah (aa 1) ap) T.iO) (aJ 23 (aa 0)))))) (ai (ar db)) aO) (ai (ar (yu (ix mj (dI fZ q26 (ah (aa 1) ap) T.iO) (aJ 23 (aa 0))) (jv (ix nh (aa 1) (bZ gT T.m_END_NAMES T.r_END_NAMES rfl)))))))
theorem ve (T:TX K mg):bh P w K mg base 2 T.js.f T.js.fd ["self","sign"] j3:=aR T.js.F ud fun _ _ _ _ _ _ hr nd hu=>by
 exact(aj (eN 2 nd (bf bq (aJ 20 (aa 0)) (aa 1))) (aj (bv (eC (dI (FY rfl) FD (ah (uZ 1000000 ["end","text"] [none,some 2] rfl (lh (aJ 25 (aa 0))) (fun _ _ _=>(iz 0 (by show(["end","text"]:List Str).Nodup; decide+kernel))) (fun _ _ _=>vm) (fun _ _ _=>(rQ "str" q43 q77 q78 sO (aa 0) (ah (aa 1) ap) (lY rfl)))) ap) T.EW)) (ai (ar db)) aO) (ai (ar (kr (hJ (xR T) hr.m T.jS.m T.jS.F.kp T.jS.b0 (ah (aa 1) ap)) (jv (da (k:=1) (n:=2) (D:=[(6,bR)]) (ae T.dh.n T.dh.c T.h_Name_can_grow_ordinary (ia T) T.cc.b ax) hr.m (aa 0) (ah (aa 2) ap))))))))
theorem ow (T:TX K mg):bh P w K mg base 1 T.g7.f T.g7.fd ["self"] fq:=aR T.g7.F tI fun _ _ _ _ _ _ hr nd hu=>by
 exact(aj (eN 1 nd ay) (aj (sR 1000000 PassesOwn.never rfl (lh (aJ 20 (aa 0))) (iz 2 nd) (ai (eN 1 nd (bf bq (bf mB (aa 1) (aJ 22 (aa 0))) (rQ "str" q43 PySem.F.slot_str_find PySem.F.type_str_find yX (bZ gN T.m_FIGURES T.r_FIGURES ⟨_,rfl⟩) (ah (aa 2) ap) (lY rfl)))))) (ai (ar (aa 1)))))
theorem sT (T:TX K mg):bh P w K mg base 2 T.ig.f T.ig.fd ["self","sign"] ji:=aR T.ig.F rD fun _ _ _ _ _ _ hr nd hu=>by
 exact(aj (eN 2 nd (rQ "str" q43 PySem.F.slot_str_find PySem.F.type_str_find yX (wJ sF (bZ gN T.m_FIGURES T.r_FIGURES ⟨_,rfl⟩) sk (nP (aJ 22 (aa 0)))) (ah (aa 1) ap) (lY rfl))) (aj (bv (AW.at (kC (aY mj (aa 2) ay) (km (aY (fO hu) (aJ 20 (aa 0)) (aX [48]))))) (ai (ar db)) aO) (ai (ar (ix qO (bf bq (bf mB (aI (k:=1) (n:=1) (D:=[(3,fq)]) (ae T.cQ.n T.cQ.c T.h_Number_told (ow T) T.g7.b ax) hr.m (aa 0)) (aJ 22 (aa 0))) (aa 2)) (aJ 23 (aa 0)))))))
theorem tR (T:TX K mg):bh P w K mg base 2 T.iR.f T.iR.fd ["self","sign"] jF:=aR T.iR.F tE fun _ _ _ _ _ _ hr nd hu=>by
 exact(ai (ar (kr (hJ (sJ T) hr.m T.g9.m T.g9.F.kp T.g9.b0 (ah (aa 1) ap)) (jv (ix mj (dI fZ q26 (ah (aJ 20 (aa 0)) ap) T.iO) (aJ 26 (aa 0)))))))
theorem uc (T:TX K mg):bh P w K mg base 2 T.iU.f T.iU.fd ["self","sign"] jK:=aR T.iU.F sY fun _ _ _ _ _ _ hr nd hu=>by
 exact(aj (bv (AW.at (kC (jm (eC (hJ (sJ T) hr.m T.g9.m T.g9.F.kp T.g9.b0 (ah (aa 1) ap)))) (km (aY qm (aa 1) (io (ah (aX [59]) (ah (aX [10]) ap))))))) (ai (ar db)) aO) (aj (bv (aY (fO hu) (aa 1) (aX [32])) (ai (ar (vC mj mj ay (dI fZ q26 (ah (aJ 20 (aa 0)) ap) T.iO) (bf oK (aJ 23 (aa 0)) ay)))) aO) (ai (ar (ix mj (dI fZ q26 (ah (aJ 20 (aa 0)) ap) T.iO) (aJ 23 (aa 0)))))))
theorem e9 (T:TX K mg):bh P w K mg base 3 T.ck.f T.ck.fd ["self","sign"] aV:=aR T.ck.F v9 fun _ _ _ _ _ _ hr nd hu=>by
 exact(aj (bv (jm (eC (da (k:=2) (n:=2) (D:=[(1,fj),(2,fj),(3,ji),(5,jK),(6,j3),(7,jF)]) (ae T.be.n T.be.c T.h_Exact_takes (om T) T.gk.b (ae T.eL.n T.eL.c T.h_RowEnd_takes (om T) T.gk.b (ae T.cQ.n T.cQ.c T.h_Number_takes (sT T) T.ig.b (ae T.eV.n T.eV.c T.h_Value_takes (uc T) T.iU.b (ae T.dh.n T.dh.c T.h_Name_takes (ve T) T.js.b (ae T.bQ.n T.bQ.c T.h_Signs_takes (tR T) T.iR.b ax)))))) hr.m (aa 0) (ah (aa 1) ap)))) (ai (ar db)) aO) (aj (bB [1,2,3,5,6,7] 20 T.w_text_Exact_RowEnd_Number_Value_Name_Signs (aa 0) (bf bq (aJ 20 (aa 0)) (aa 1))) (ai (ar db))))
theorem eQ (T:TX K mg):bh P w K mg base 1 T.cu.f T.cu.fd ["self"] aK:=aR T.cu.F uO fun _ _ _ _ _ _ hr nd hu=>by
 exact(ai (ar (aJ 20 (aa 0))))
theorem kd (T:TX K mg):bh P w K mg base 2 T.eG.f T.eG.fd ["self","text"] gj:=aR T.eG.F t6 fun _ _ _ _ _ _ hr nd hu=>by
 exact(aj (kM (nO T.b_Mark_init (kA T) hr.m T.oz.m T.gp.b (ah (aa 0) ap))) (ai (bB [1,2] 21 T.w_goal_Exact_RowEnd (aa 0) (aa 1))))
theorem kW (T:TX K mg):bh P w K mg base 1 T.fD.f T.fD.fd ["self"] cW:=aR T.fD.F t9 fun _ _ _ _ _ _ hr nd hu=>by
 exact(ai (ar (ix (fO hu) (aJ 20 (aa 0)) (aJ 21 (aa 0)))))
theorem gQ (T:TX K mg):bh P w K mg base 1 T.cL.f T.cL.fd ["self"] aU:=aR T.cL.F qk fun _ _ _ _ _ _ hr nd hu=>by
 exact(ai (ar (wJ sF (aJ 21 (aa 0)) (nP (dI fZ q26 (ah (aJ 20 (aa 0)) ap) T.iO)) sk)))
theorem ue (T:TX K mg):bh P w K mg base 3 T.iV.f T.iV.fd ["self"] ky:=aR T.iV.F sr fun _ _ _ _ _ _ hr nd hu=>by
 exact(ai (kM (nO T.b_Exact_init (kd T) hr.m T.be.m T.eG.b (ah (aa 0) (ah (bZ bi T.m_ROW_END T.r_ROW_END ⟨_,rfl⟩) ap)))))
theorem og (T:TX K mg):bh P w K mg base 2 T.hV.f T.hV.fd ["self","base","most"] jJ:=aR T.hV.F sS fun _ _ _ _ _ _ hr nd hu=>by
 exact(aj (kM (nO T.b_Mark_init (kA T) hr.m T.oz.m T.gp.b (ah (aa 0) ap))) (aj (bB [3] 22 T.w_base_Number (aa 0) (aa 1)) (ai (bB [3] 23 T.w_most_Number (aa 0) (aa 2)))))
theorem oo (T:TX K mg):bh P w K mg base 1 T.g5.f T.g5.fd ["self"] eE:=aR T.g5.F tH fun _ _ _ _ _ _ hr nd hu=>by
 exact(ai (ar (ix (mi hu) (aJ 20 (aa 0)) (aX []))))
theorem qE (T:TX K mg):bh P w K mg base 2 T.gq.f T.gq.fd ["self"] ff:=aR T.gq.F pi fun _ _ _ _ _ _ hr nd hu=>by
 exact(ai (ar (sI (eC (aI (k:=1) (n:=1) (D:=[(3,eE)]) (ae T.cQ.n T.cQ.c T.h_Number_good (oo T) T.g5.b ax) hr.m (aa 0))) (aX []) (aX [48]))))
theorem uN (T:TX K mg):bh P w K mg base 2 T.jt.f T.jt.fd ["self","most"] kT:=aR T.jt.F tQ fun _ _ _ _ _ _ hr nd hu=>by
 exact(aj (kM (nO T.b_Mark_init (kA T) hr.m T.oz.m T.gp.b (ah (aa 0) ap))) (ai (bB [5] 23 T.w_most_Value (aa 0) (aa 1))))
theorem pv (T:TX K mg):bh P w K mg base 1 T.iE.f T.iE.fd ["self"] gh:=aR T.iE.F tS fun _ _ _ _ _ _ hr nd hu=>by
 exact(ai (ar (kr (ix (mi hu) (aJ 20 (aa 0)) (aX [])) (jv (ix (mi hu) (eB (aJ 20 (aa 0)) (G1 ay)) (aX [32]))))))
theorem rn (T:TX K mg):bh P w K mg base 2 T.gP.f T.gP.fd ["self"] fQ:=aR T.gP.F qv fun _ _ _ _ _ _ hr nd hu=>by
 exact(ai (ar (sI (eC (aI (k:=1) (n:=1) (D:=[(5,gh)]) (ae T.eV.n T.eV.c T.h_Value_good (pv T) T.iE.b ax) hr.m (aa 0))) (aX []) (bZ gW T.m_FILLER T.r_FILLER ⟨_,rfl⟩))))
theorem wj (T:TX K mg):bh P w K mg base 2 T.jZ.f T.jZ.fd ["self","most","room","ends"] lI:=aR T.jZ.F u0 fun _ _ _ _ _ _ hr nd hu=>by
 exact(aj (kM (nO T.b_Mark_init (kA T) hr.m T.oz.m T.gp.b (ah (aa 0) ap))) (aj (bB [6] 23 T.w_most_Name (aa 0) (aa 1)) (aj (bB [6] 24 T.w_room_Name (aa 0) (aa 2)) (ai (bB [6] 25 T.w_ends_Name (aa 0) (aa 3))))))
theorem qU (T:TX K mg):bh P w K mg base 2 T.jl.f T.jl.fd ["self"] gX:=aR T.jl.F uQ fun _ _ _ _ _ _ hr nd hu=>by
 exact(aj (bv (aY qm (aJ 20 (aa 0)) (aJ 25 (aa 0))) (ai (ar db)) aO) (ai (ar (kr (ix (mi hu) (aJ 20 (aa 0)) (aX [])) (kr (ix nh (aJ 20 (aa 0)) (bZ gT T.m_END_NAMES T.r_END_NAMES rfl)) (jv (da (k:=1) (n:=2) (D:=[(6,bR)]) (ae T.dh.n T.dh.c T.h_Name_can_grow_ordinary (ia T) T.cc.b ax) hr.m (aa 0) (ah (aJ 20 (aa 0)) ap))))))))
theorem nB (T:TX K mg):bh P w K mg base 3 T.gC.f T.gC.fd ["self"] dk:=aR T.gC.F rH fun _ _ _ _ _ _ hr nd hu=>by
 exact(aj (bv (eC (aI (k:=2) (n:=1) (D:=[(6,gX)]) (ae T.dh.n T.dh.c T.h_Name_good (qU T) T.jl.b ax) hr.m (aa 0))) (ai (ar (aX []))) aO) (aj (bv (eC (da (k:=1) (n:=2) (D:=[(6,bR)]) (ae T.dh.n T.dh.c T.h_Name_can_grow_ordinary (ia T) T.cc.b ax) hr.m (aa 0) (ah (bf bq (aJ 20 (aa 0)) (bZ gW T.m_FILLER T.r_FILLER ⟨_,rfl⟩)) ap))) (ai (ar (bZ gW T.m_FILLER T.r_FILLER ⟨_,rfl⟩))) aO) (aj (sR 1000000 PassesOwn.never rfl (lh (aJ 25 (aa 0))) (iz 1 nd) (ai (bv (eC (rQ "str" q43 q77 q78 sO (aa 1) (ah (aJ 20 (aa 0)) ap) (lY rfl))) (ai (ar (wJ sF (aa 1) (nP (dI fZ q26 (ah (aJ 20 (aa 0)) ap) T.iO)) sk))) aO))) (ai (ar (aX []))))))
theorem kX (T:TX K mg):bh P w K mg base 2 T.gf.f T.gf.fd ["self","number"] iy:=aR T.gf.F ua fun _ _ _ _ _ _ hr nd hu=>by
 exact(aj (kM (nO T.b_Mark_init (kA T) hr.m T.oz.m T.gp.b (ah (aa 0) ap))) (ai (bB [7] 26 T.w_number_Signs (aa 0) (aa 1))))
theorem pZ (T:TX K mg):bh P w K mg base 1 T.iC.f T.iC.fd ["self"] fw:=aR T.iC.F tU fun _ _ _ _ _ _ hr nd hu=>by
 exact(ai (ar (ix (fO hu) (dI fZ q26 (ah (aJ 20 (aa 0)) ap) T.iO) (aJ 26 (aa 0)))))
theorem kH (T:TX K mg):bh P w K mg base 1 T.eR.f T.eR.fd ["self"] dt:=aR T.eR.F qt fun _ _ _ _ _ _ hr nd hu=>by
 exact(ai (ar (bf mB (bZ gW T.m_FILLER T.r_FILLER ⟨_,rfl⟩) (bf oK (aJ 26 (aa 0)) (dI fZ q26 (ah (aJ 20 (aa 0)) ap) T.iO)))))
theorem iS (T:TX K mg):bh P w K mg base 4 T.dP.f T.dP.fd ["self","mark","text"] fA:=aR T.dP.F tw fun _ _ _ _ _ _ hr nd hu=>by
 exact(aj (bB [8] 27 T.w_mark_Closed (aa 0) (aa 1)) (aj (bB [8] 28 T.w_closing_Closed (aa 0) (dC (C:=1) (n:=2) T.be.n T.be.c T.mk_Exact (kd T) hr.m T.be.m T.eG.b (ah (aa 2) ap))) (ai (bB [8] 29 T.w_is_closing_Closed (aa 0) db))))
theorem kS (T:TX K mg):bh P w K mg base 4 T.gi.f T.gi.fd ["self","sign"] bA:=aR T.gi.F tL fun _ _ _ _ _ _ hr nd hu=>by
 exact(aj (bv (AW.at (ny (jm (eC (aJ 29 (aa 0)))) (lK (eC (da (k:=3) (n:=2) (D:=[(6,aV),(5,aV),(3,aV),(1,aV),(7,aV)]) (ae T.dh.n T.dh.c T.h_Name_fed (e9 T) T.ck.b (ae T.eV.n T.eV.c T.h_Value_fed (e9 T) T.ck.b (ae T.cQ.n T.cQ.c T.h_Number_fed (e9 T) T.ck.b (ae T.be.n T.be.c T.h_Exact_fed (e9 T) T.ck.b (ae T.bQ.n T.bQ.c T.h_Signs_fed (e9 T) T.ck.b ax))))) hr.m (aJ 27 (aa 0)) (ah (aa 1) ap)))))) (ai (ar db)) aO) (aj (bv (AW.at (kC (jm (eC (aI (k:=2) (n:=1) (D:=[(6,gX),(5,gh),(3,eE),(1,cW),(7,fw)]) (ae T.dh.n T.dh.c T.h_Name_good (qU T) T.jl.b (ae T.eV.n T.eV.c T.h_Value_good (pv T) T.iE.b (ae T.cQ.n T.cQ.c T.h_Number_good (oo T) T.g5.b (ae T.be.n T.be.c T.h_Exact_good (kW T) T.fD.b (ae T.bQ.n T.bQ.c T.h_Signs_good (pZ T) T.iC.b ax))))) hr.m (aJ 27 (aa 0))))) (km (jm (eC (da (k:=3) (n:=2) (D:=[(1,aV)]) (ae T.be.n T.be.c T.h_Exact_fed (e9 T) T.ck.b ax) hr.m (aJ 28 (aa 0)) (ah (aa 1) ap))))))) (ai (ar db)) aO) (aj (bB [8] 29 T.w_is_closing_Closed (aa 0) db) (ai (ar db)))))
theorem jB (T:TX K mg):bh P w K mg base 2 T.eD.f T.eD.fd ["self"] cX:=aR T.eD.F sy fun _ _ _ _ _ _ hr nd hu=>by
 exact(ai (ar (aI (k:=1) (n:=1) (D:=[(1,cW)]) (ae T.be.n T.be.c T.h_Exact_good (kW T) T.fD.b ax) hr.m (aJ 28 (aa 0)))))
theorem gu (T:TX K mg):bh P w K mg base 4 T.cO.f T.cO.fd ["self"] bG:=aR T.cO.F py fun _ _ _ _ _ _ hr nd hu=>by
 exact(ai (ar (bf bq (aI (k:=3) (n:=1) (D:=[(6,dk),(5,fQ),(3,ff),(1,aU),(7,dt)]) (ae T.dh.n T.dh.c T.h_Name_awaited (nB T) T.gC.b (ae T.eV.n T.eV.c T.h_Value_awaited (rn T) T.gP.b (ae T.cQ.n T.cQ.c T.h_Number_awaited (qE T) T.gq.b (ae T.be.n T.be.c T.h_Exact_awaited (gQ T) T.cL.b (ae T.bQ.n T.bQ.c T.h_Signs_awaited (kH T) T.eR.b ax))))) hr.m (aJ 27 (aa 0))) (aI (k:=1) (n:=1) (D:=[(1,aU)]) (ae T.be.n T.be.c T.h_Exact_awaited (gQ T) T.cL.b ax) hr.m (aJ 28 (aa 0))))))
theorem iX (T:TX K mg):bh P w K mg base 2 T.dS.f T.dS.fd ["self"] cF:=aR T.dS.F tF fun _ _ _ _ _ _ hr nd hu=>by
 exact(ai (ar (aI (k:=1) (n:=1) (D:=[(6,aK),(5,aK),(3,fq),(1,aK),(7,aK)]) (ae T.dh.n T.dh.c T.h_Name_told (eQ T) T.cu.b (ae T.eV.n T.eV.c T.h_Value_told (eQ T) T.cu.b (ae T.cQ.n T.cQ.c T.h_Number_told (ow T) T.g7.b (ae T.be.n T.be.c T.h_Exact_told (eQ T) T.cu.b (ae T.bQ.n T.bQ.c T.h_Signs_told (eQ T) T.cu.b ax))))) hr.m (aJ 27 (aa 0)))))
theorem re (T:TX K mg):bh P w K mg base 6 T.gR.f T.gR.fd ["self","book","room","ends"] jM:=aR T.gR.F ql fun _ _ _ _ _ _ hr nd hu=>by
 exact(aj (bB [9] 30 T.w_book_FieldRow (aa 0) (aa 1)) (aj (bB [9] 25 T.w_ends_FieldRow (aa 0) (aa 3)) (aj (bB [9] 31 T.w_name_FieldRow (aa 0) (dC (C:=6) (n:=4) T.dh.n T.dh.c T.mk_Name (wj T) hr.m T.dh.m T.jZ.b (ah (eB (aa 1) (bZ j1 T.m_MOST_NAME T.r_MOST_NAME ⟨_,rfl⟩)) (ah (sI (aY pf (eB (aa 1) (bZ fB T.m_MOST_VALUE T.r_MOST_VALUE ⟨_,rfl⟩)) ay) (aa 2) ay) (ah (aa 3) ap))))) (aj (bB [9] 32 T.w_head_FieldRow (aa 0) (dC (C:=8) (n:=3) T.aP.n T.aP.c T.mk_Closed (iS T) hr.m T.aP.m T.dP.b (ah (aJ 31 (aa 0)) (ah (aX [58,32]) ap)))) (ai (bB [9] 33 T.w_value_FieldRow (aa 0) cP))))))
theorem jX (T:TX K mg):bh P w K mg base 4 T.cN.f T.cN.fd ["self"] bH:=aR T.cN.F lO fun _ _ _ _ _ _ hr nd hu=>by
 exact(ai (ar (bf bq (aI (k:=1) (n:=1) (D:=[(6,aK)]) (ae T.dh.n T.dh.c T.h_Name_told (eQ T) T.cu.b ax) hr.m (aJ 31 (aa 0))) (aI (k:=3) (n:=1) (D:=[(6,dk)]) (ae T.dh.n T.dh.c T.h_Name_awaited (nB T) T.gC.b ax) hr.m (aJ 31 (aa 0))))))
theorem jI (T:TX K mg):bh P w K mg base 6 T.cG.f T.cG.fd ["self"] bP:=aR T.cG.F lA fun _ _ _ _ _ _ hr nd hu=>by
 exact(aj (eN 1 nd (aI (k:=4) (n:=1) (D:=[(9,bH)]) (ae T.aT.n T.aT.c T.h_FieldRow_name_to_come (jX T) T.cN.b ax) hr.m (aa 0))) (aj (bv (aY nh (aa 1) (aJ 25 (aa 0))) (ai (ar (dC (C:=8) (n:=3) T.aP.n T.aP.c T.mk_Closed (iS T) hr.m T.aP.m T.dP.b (ah (dC (C:=5) (n:=2) T.eV.n T.eV.c T.mk_Value (uN T) hr.m T.eV.m T.jt.b (ah (eB (aJ 30 (aa 0)) (bZ fB T.m_MOST_VALUE T.r_MOST_VALUE ⟨_,rfl⟩)) ap)) (ah (bZ bi T.m_ROW_END T.r_ROW_END ⟨_,rfl⟩) ap))))) aO) (aj (bv (aY (fO hu) (aa 1) (aX [108,101,110,103,116,104])) (ai (ar (dC (C:=8) (n:=3) T.aP.n T.aP.c T.mk_Closed (iS T) hr.m T.aP.m T.dP.b (ah (dC (C:=3) (n:=3) T.cQ.n T.cQ.c T.mk_Number (og T) hr.m T.cQ.m T.hV.b (ah ay (ah (eB (aJ 30 (aa 0)) (bZ eS T.m_MOST_BODY T.r_MOST_BODY ⟨_,rfl⟩)) ap))) (ah (bZ bi T.m_ROW_END T.r_ROW_END ⟨_,rfl⟩) ap))))) aO) (ai (ar (dC (C:=8) (n:=3) T.aP.n T.aP.c T.mk_Closed (iS T) hr.m T.aP.m T.dP.b (ah (dC (C:=1) (n:=2) T.be.n T.be.c T.mk_Exact (kd T) hr.m T.be.m T.eG.b (ah (aX [121,101,115]) ap)) (ah (bZ bi T.m_ROW_END T.r_ROW_END ⟨_,rfl⟩) ap))))))))
theorem la (T:TX K mg):bh P w K mg base 7 T.fI.f T.fI.fd ["self","sign"] bc:=aR T.fI.F rG fun _ _ _ _ _ _ hr nd hu=>by
 exact(aj (bv (aY eM (aJ 33 (aa 0)) cP) (ai (ar (da (k:=4) (n:=2) (D:=[(8,bA)]) (ae T.aP.n T.aP.c T.h_Closed_fed (kS T) T.gi.b ax) hr.m (aJ 33 (aa 0)) (ah (aa 1) ap)))) aO) (aj (bv (jm (eC (da (k:=4) (n:=2) (D:=[(8,bA)]) (ae T.aP.n T.aP.c T.h_Closed_fed (kS T) T.gi.b ax) hr.m (aJ 32 (aa 0)) (ah (aa 1) ap)))) (ai (ar db)) aO) (aj (bv (eC (aI (k:=2) (n:=1) (D:=[(8,cX)]) (ae T.aP.n T.aP.c T.h_Closed_good (jB T) T.eD.b ax) hr.m (aJ 32 (aa 0)))) (ai (bB [9] 33 T.w_value_FieldRow (aa 0) (aI (k:=6) (n:=1) (D:=[(9,bP)]) (ae T.aT.n T.aT.c T.h_FieldRow_value_to_come (jI T) T.cG.b ax) hr.m (aa 0)))) aO) (ai (ar db)))))
theorem kc (T:TX K mg):bh P w K mg base 5 T.cU.f T.cU.fd ["self"] bO:=aR T.cU.F ml fun _ _ _ _ _ _ hr nd hu=>by
 exact(aj (eN 1 nd (aI (k:=4) (n:=1) (D:=[(9,bH)]) (ae T.aT.n T.aT.c T.h_FieldRow_name_to_come (jX T) T.cN.b ax) hr.m (aa 0))) (aj (bv (aY nh (aa 1) (aJ 25 (aa 0))) (ai (ar cP)) aO) (aj (bv (AW.at (kC (aY (mi hu) (aa 1) (aX [108,101,110,103,116,104])) (km (aY nA (aJ 33 (aa 0)) cP)))) (ai (ar (io (ah (aa 1) (ah ay ap))))) aO) (ai (ar (io (ah (aa 1) (ah (aI (k:=2) (n:=1) (D:=[(8,cF)]) (ae T.aP.n T.aP.c T.h_Closed_told (iX T) T.dS.b ax) hr.m (aJ 33 (aa 0))) ap))))))))
theorem rJ (T:TX K mg):bh P w K mg base 3 T.gO.f T.gO.fd ["self"] eP:=aR T.gO.F qI fun _ _ _ _ _ _ hr nd hu=>by
 exact(ai (ar (kr (ix eM (aJ 33 (aa 0)) cP) (jv (aI (k:=2) (n:=1) (D:=[(8,cX)]) (ae T.aP.n T.aP.c T.h_Closed_good (jB T) T.eD.b ax) hr.m (aJ 33 (aa 0)))))))
theorem jW (T:TX K mg):bh P w K mg base 7 T.dl.f T.dl.fd ["self"] bE:=aR T.dl.F nY fun _ _ _ _ _ _ hr nd hu=>by
 exact(aj (bv (aY eM (aJ 33 (aa 0)) cP) (ai (ar (aI (k:=4) (n:=1) (D:=[(8,bG)]) (ae T.aP.n T.aP.c T.h_Closed_awaited (gu T) T.cO.b ax) hr.m (aJ 33 (aa 0))))) aO) (ai (ar (bf bq (aI (k:=4) (n:=1) (D:=[(8,bG)]) (ae T.aP.n T.aP.c T.h_Closed_awaited (gu T) T.cO.b ax) hr.m (aJ 32 (aa 0))) (aI (k:=4) (n:=1) (D:=[(8,bG)]) (ae T.aP.n T.aP.c T.h_Closed_awaited (gu T) T.cO.b ax) hr.m (aI (k:=6) (n:=1) (D:=[(9,bP)]) (ae T.aT.n T.aT.c T.h_FieldRow_value_to_come (jI T) T.cG.b ax) hr.m (aa 0)))))))
theorem jN (T:TX K mg):bh P w K mg base 3 T.dU.f T.dU.fd ["self"] cg:=aR T.dU.F qd fun _ _ _ _ _ _ hr nd hu=>by
 exact(ai (ar (io (ah (aI (k:=1) (n:=1) (D:=[(6,aK)]) (ae T.dh.n T.dh.c T.h_Name_told (eQ T) T.cu.b ax) hr.m (aJ 31 (aa 0))) (ah (aI (k:=2) (n:=1) (D:=[(8,cF)]) (ae T.aP.n T.aP.c T.h_Closed_told (iX T) T.dS.b ax) hr.m (aJ 33 (aa 0))) ap)))))
theorem ou (T:TX K mg):bh P w K mg base 1 T.g4.f T.g4.fd ["self","book","room","ends"] jE:=aR T.g4.F sZ fun _ _ _ _ _ _ hr nd hu=>by
 exact(aj (bB [10] 30 T.w_book_Fields (aa 0) (aa 1)) (aj (bB [10] 24 T.w_room_Fields (aa 0) (aa 2)) (aj (bB [10] 25 T.w_ends_Fields (aa 0) (aa 3)) (aj (bB [10] 34 T.w_pairs_Fields (aa 0) (qg ap)) (aj (bB [10] 35 T.w_end_Fields (aa 0) cP) (aj (bB [10] 36 T.w_row_Fields (aa 0) cP) (ai (bB [10] 37 T.w_empty_row_Fields (aa 0) cP))))))))
theorem oX (T:TX K mg):bh P w K mg base 6 T.fN.f T.fN.fd ["self"] gY:=aR T.fN.F oH fun _ _ _ _ _ _ hr nd hu=>by
 exact(aj (bB [10] 35 T.w_end_Fields (aa 0) (aI (k:=5) (n:=1) (D:=[(9,bO)]) (ae T.aT.n T.aT.c T.h_FieldRow_end_to_come (kc T) T.cU.b ax) hr.m (aJ 36 (aa 0)))) (aj (bv (aY nA (aJ 35 (aa 0)) cP) (ai (kM (rQ "list" q91 q86 q87 qj (aJ 34 (aa 0)) (ah (aI (k:=3) (n:=1) (D:=[(9,cg),(1,aK)]) (ae T.aT.n T.aT.c T.h_FieldRow_told (jN T) T.dU.b (ae T.be.n T.be.c T.h_Exact_told (eQ T) T.cu.b ax)) hr.m (aJ 36 (aa 0))) ap) (lY rfl)))) aO) (ai (bB [10] 36 T.w_row_Fields (aa 0) cP))))
theorem lw (T:TX K mg):bh P w K mg base 1 T.dY.f T.dY.fd ["self"] d6:=aR T.dY.F nV fun _ _ _ _ _ _ hr nd hu=>by
 exact(ai (ar (bf oK (aJ 24 (aa 0)) (dI fZ q26 (ah (aJ 34 (aa 0)) ap) T.iO))))
theorem qG (T:TX K mg):bh P w K mg base 8 T.gr.f T.gr.fd ["self","sign"] bN:=aR T.gr.F pY fun _ _ _ _ _ _ hr nd hu=>by
 exact(aj (bv (aY eM (aJ 35 (aa 0)) cP) (ai (ar db)) aO) (aj (eN 2 nd (aJ 36 (aa 0))) (aj (bv (aY nA (aa 2) cP) (ai (eN 2 nd (dC (C:=9) (n:=4) T.aT.n T.aT.c T.mk_FieldRow (re T) hr.m T.aT.m T.gR.b (ah (aJ 30 (aa 0)) (ah (aI (k:=1) (n:=1) (D:=[(10,d6)]) (ae T.br.n T.br.c T.h_Fields_room_left (lw T) T.dY.b ax) hr.m (aa 0)) (ah (aJ 25 (aa 0)) ap)))))) aO) (aj (bv (jm (eC (da (k:=7) (n:=2) (D:=[(9,bc),(1,aV)]) (ae T.aT.n T.aT.c T.h_FieldRow_fed (la T) T.fI.b (ae T.be.n T.be.c T.h_Exact_fed (e9 T) T.ck.b ax)) hr.m (aa 2) (ah (aa 1) ap)))) (ai (ar db)) aO) (aj (bB [10] 36 T.w_row_Fields (aa 0) (aa 2)) (aj (bv (eC (aI (k:=3) (n:=1) (D:=[(9,eP),(1,cW)]) (ae T.aT.n T.aT.c T.h_FieldRow_good (rJ T) T.gO.b (ae T.be.n T.be.c T.h_Exact_good (kW T) T.fD.b ax)) hr.m (aa 2))) (ai (kM (aI (k:=6) (n:=1) (D:=[(10,gY)]) (ae T.br.n T.br.c T.h_Fields_keep_row (oX T) T.fN.b ax) hr.m (aa 0)))) aO) (ai (ar db))))))))
theorem pN (T:TX K mg):bh P w K mg base 9 T.iF.f T.iF.fd ["self","sign"] bg:=aR T.iF.F tX fun _ _ _ _ _ _ hr nd hu=>by
 exact(aj (bv (aY eM (aJ 37 (aa 0)) cP) (ai (ar (da (k:=3) (n:=2) (D:=[(2,aV)]) (ae T.eL.n T.eL.c T.h_RowEnd_fed (e9 T) T.ck.b ax) hr.m (aJ 37 (aa 0)) (ah (aa 1) ap)))) aO) (aj (bv (AW.at (ny (aY nA (aJ 36 (aa 0)) cP) (lK (aY (fO hu) (aa 1) (eB (bZ bi T.m_ROW_END T.r_ROW_END ⟨_,rfl⟩) ay))))) (aj (bB [10] 37 T.w_empty_row_Fields (aa 0) (A5 (C:=2) (n:=1) T.eL.n T.eL.c T.mk_RowEnd (ue T) hr.m T.eL.m T.iV.b)) (ai (ar (da (k:=3) (n:=2) (D:=[(2,aV)]) (ae T.eL.n T.eL.c T.h_RowEnd_fed (e9 T) T.ck.b ax) hr.m (aJ 37 (aa 0)) (ah (aa 1) ap))))) aO) (ai (ar (da (k:=8) (n:=2) (D:=[(10,bN)]) (ae T.br.n T.br.c T.h_Fields_fed_row (qG T) T.gr.b ax) hr.m (aa 0) (ah (aa 1) ap))))))
theorem nG (T:TX K mg):bh P w K mg base 2 T.gE.f T.gE.fd ["self"] cy:=aR T.gE.F q0 fun _ _ _ _ _ _ hr nd hu=>by
 exact(ai (ar (kr (ix eM (aJ 37 (aa 0)) cP) (jv (aI (k:=1) (n:=1) (D:=[(2,cW)]) (ae T.eL.n T.eL.c T.h_RowEnd_good (kW T) T.fD.b ax) hr.m (aJ 37 (aa 0)))))))
theorem lS (T:TX K mg):bh P w K mg base 8 T.eZ.f T.eZ.fd ["self"] bw:=aR T.eZ.F pV fun _ _ _ _ _ _ hr nd hu=>by
 exact(aj (bv (aY eM (aJ 37 (aa 0)) cP) (ai (ar (aI (k:=1) (n:=1) (D:=[(2,aU)]) (ae T.eL.n T.eL.c T.h_RowEnd_awaited (gQ T) T.cL.b ax) hr.m (aJ 37 (aa 0))))) aO) (aj (bv (aY eM (aJ 36 (aa 0)) cP) (ai (ar (bf bq (aI (k:=7) (n:=1) (D:=[(9,bE),(1,aU)]) (ae T.aT.n T.aT.c T.h_FieldRow_awaited (jW T) T.dl.b (ae T.be.n T.be.c T.h_Exact_awaited (gQ T) T.cL.b ax)) hr.m (aJ 36 (aa 0))) (bZ bi T.m_ROW_END T.r_ROW_END ⟨_,rfl⟩)))) aO) (ai (ar (bZ bi T.m_ROW_END T.r_ROW_END ⟨_,rfl⟩)))))
theorem oe (T:TX K mg):bh P w K mg base 1 T.g6.f T.g6.fd ["self"] du:=aR T.g6.F sK fun _ _ _ _ _ _ hr nd hu=>by
 exact(ai (ar (sf xN oZ (ah (aJ 34 (aa 0)) ap) T.o9)))
theorem nt (T:TX K mg):bh P w K mg base 6 T.ee.f T.ee.fd ["self"] cx:=aR T.ee.F mZ fun _ _ _ _ _ _ hr nd hu=>by
 exact(aj (bv (aY nA (aJ 36 (aa 0)) cP) (ai (ar (aJ 35 (aa 0)))) aO) (ai (ar (aI (k:=5) (n:=1) (D:=[(9,bO)]) (ae T.aT.n T.aT.c T.h_FieldRow_end_to_come (kc T) T.cU.b ax) hr.m (aJ 36 (aa 0))))))
theorem vO (T:TX K mg):bh P w K mg base 1 T.jo.f T.jo.fd ["self","parts"] jq:=aR T.jo.F ub fun _ _ _ _ _ _ hr nd hu=>by
 exact(ai (bB [11] 38 T.w_left_Tally (aa 0) (aa 1)))
theorem qf (T:TX K mg):bh P w K mg base 1 T.gw.f T.gw.fd ["self"] ip:=aR T.gw.F p9 fun _ _ _ _ _ _ hr nd hu=>by
 exact(ai (ar (ix pf (aJ 38 (aa 0)) ay)))
theorem qo (T:TX K mg):bh P w K mg base 1 T.gx.f T.gx.fd ["self"] il:=aR T.gx.F oV fun _ _ _ _ _ _ hr nd hu=>by
 exact(ai (bB [11] 38 T.w_left_Tally (aa 0) (bf oK (aJ 38 (aa 0)) ay)))
theorem pP (T:TX K mg):bh P w K mg base 4 T.fM.f T.fM.fd ["self","number"] je:=aR T.fM.F oG fun _ _ _ _ _ _ hr nd hu=>by
 exact(ai (bB [13] 39 T.w_signs_LengthBody (aa 0) (dC (C:=7) (n:=2) T.bQ.n T.bQ.c T.mk_Signs (kX T) hr.m T.bQ.m T.gf.b (ah (aa 1) ap))))
theorem qJ (T:TX K mg):bh P w K mg base 1 T.gv.f T.gv.fd ["self","book","deep","tally"] jp:=aR T.gv.F p0 fun _ _ _ _ _ _ hr nd hu=>by
 exact(aj (bB [16] 30 T.w_book_PartsBody (aa 0) (aa 1)) (aj (bB [16] 44 T.w_deep_PartsBody (aa 0) (aa 2)) (aj (bB [16] 45 T.w_tally_PartsBody (aa 0) (aa 3)) (aj (bB [16] 46 T.w_parts_PartsBody (aa 0) (qg ap)) (aj (bB [16] 36 T.w_row_PartsBody (aa 0) cP) (ai (bB [16] 47 T.w_part_PartsBody (aa 0) cP)))))))
theorem kg (T:TX K mg):bh P w K mg base 6 T.cZ.f T.cZ.fd ["self"] cm:=aR T.cZ.F mJ fun _ _ _ _ _ _ hr nd hu=>by
 exact(ai (ar (dC (C:=8) (n:=3) T.aP.n T.aP.c T.mk_Closed (iS T) hr.m T.aP.m T.dP.b (ah (dC (C:=3) (n:=3) T.cQ.n T.cQ.c T.mk_Number (og T) hr.m T.cQ.m T.hV.b (ah ay (ah (aJ 38 (aa 0)) ap))) (ah (bZ bi T.m_ROW_END T.r_ROW_END ⟨_,rfl⟩) ap)))))
theorem pw (T:TX K mg):bh P w K mg base 7 T.fP.f T.fP.fd ["self","book","room"] jd:=aR T.fP.F oF fun _ _ _ _ _ _ hr nd hu=>by
 exact(aj (bB [15] 38 T.w_left_PiecesBody (aa 0) (eB (aa 1) (bZ eS T.m_MOST_BODY T.r_MOST_BODY ⟨_,rfl⟩))) (aj (bB [15] 40 T.w_texts_PiecesBody (aa 0) (qg ap)) (aj (bB [15] 41 T.w_size_PiecesBody (aa 0) (aI (k:=6) (n:=1) (D:=[(15,cm)]) (ae T.aL.n T.aL.c T.h_PiecesBody_new_size (kg T) T.cZ.b ax) hr.m (aa 0))) (aj (bB [15] 42 T.w_piece_PiecesBody (aa 0) cP) (ai (bB [15] 43 T.w_trail_PiecesBody (aa 0) (dC (C:=10) (n:=4) T.br.n T.br.c T.mk_Fields (ou T) hr.m T.br.m T.g4.b (ah (aa 1) (ah (aa 2) (ah (io ap) ap))))))))))
theorem rT (T:TX K mg):bh P w K mg base 4 T.gM.f T.gM.fd ["self","most"] jO:=aR T.gM.F qh fun _ _ _ _ _ _ hr nd hu=>by
 exact(ai (bB [14] 39 T.w_signs_RestBody (aa 0) (dC (C:=7) (n:=2) T.bQ.n T.bQ.c T.mk_Signs (kX T) hr.m T.bQ.m T.gf.b (ah (aa 1) ap))))
theorem uv (T:TX K mg):bh P w K mg base 9 T.iY.f T.iY.fd ["end","book","room","deep","tally"] dA:=aR T.iY.F yr fun _ _ _ _ _ _ hr nd hu=>by
 exact(aj (bv (aY nA (aa 0) cP) (ai (ar (AY (C:=12) T.di.n T.di.c T.mo_Body.1 T.mo_Body.2.1 T.mo_Body.2.2 T.di.m))) aO) (aj (eN 5 nd (eB (aa 0) ay)) (aj (bv (aY (fO hu) (aa 5) (aX [108,101,110,103,116,104])) (ai (ar (dC (C:=13) (n:=2) T.aW.n T.aW.c T.mk_LengthBody (pP T) hr.m T.aW.m T.fM.b (ah (eB (aa 0) ay) ap)))) aO) (aj (bv (aY (fO hu) (aa 5) (aX [112,105,101,99,101,115])) (ai (ar (dC (C:=15) (n:=3) T.aL.n T.aL.c T.mk_PiecesBody (pw T) hr.m T.aL.m T.fP.b (ah (aa 1) (ah (aa 2) ap))))) aO) (aj (bv (aY (fO hu) (aa 5) (aX [112,97,114,116,115])) (ai (ar (dC (C:=16) (n:=4) T.aM.n T.aM.c T.mk_PartsBody (qJ T) hr.m T.aM.m T.gv.b (ah (aa 1) (ah (aa 3) (ah (aa 4) ap)))))) aO) (ai (ar (dC (C:=14) (n:=2) T.bj.n T.bj.c T.mk_RestBody (rT T) hr.m T.bj.m T.gM.b (ah (eB (aa 1) (bZ eS T.m_MOST_BODY T.r_MOST_BODY ⟨_,rfl⟩)) ap)))))))))
theorem oC (T:TX K mg):bh P w K mg base 1 T.jk.f T.jk.fd ["self","sign"] bT:=aR T.jk.F wz fun _ _ _ _ _ _ hr nd hu=>by
 exact(ai (ar db))
theorem kP (T:TX K mg):bh P w K mg base 1 T.fE.f T.fE.fd ["self"] bp:=aR T.fE.F tY fun _ _ _ _ _ _ hr nd hu=>by
 exact(ai (ar db))
theorem dR (T:TX K mg):bh P w K mg base 1 T.b4.f T.b4.fd ["self"] am:=aR T.b4.F rK fun _ _ _ _ _ _ hr nd hu=>by
 exact(ai (ar (aX [])))
theorem qY (T:TX K mg):bh P w K mg base 1 T.jj.f T.jj.fd ["self"] dJ:=aR T.jj.F u6 fun _ _ _ _ _ _ hr nd hu=>by
 exact(ai (ar (io (ah (aX [110,111,110,101]) ap))))
theorem kk (T:TX K mg):bh P w K mg base 4 T.d8.f T.d8.fd ["self","sign"] aS:=aR T.d8.F qa fun _ _ _ _ _ _ hr nd hu=>by
 exact(ai (ar (da (k:=3) (n:=2) (D:=[(7,aV)]) (ae T.bQ.n T.bQ.c T.h_Signs_fed (e9 T) T.ck.b ax) hr.m (aJ 39 (aa 0)) (ah (aa 1) ap))))
theorem lg (T:TX K mg):bh P w K mg base 2 T.dZ.f T.dZ.fd ["self"] bD:=aR T.dZ.F nT fun _ _ _ _ _ _ hr nd hu=>by
 exact(ai (ar (aI (k:=1) (n:=1) (D:=[(7,fw)]) (ae T.bQ.n T.bQ.c T.h_Signs_good (pZ T) T.iC.b ax) hr.m (aJ 39 (aa 0)))))
theorem fF (T:TX K mg):bh P w K mg base 2 T.ce.f T.ce.fd ["self"] az:=aR T.ce.F mV fun _ _ _ _ _ _ hr nd hu=>by
 exact(ai (ar (aI (k:=1) (n:=1) (D:=[(7,dt)]) (ae T.bQ.n T.bQ.c T.h_Signs_awaited (kH T) T.eR.b ax) hr.m (aJ 39 (aa 0)))))
theorem lF (T:TX K mg):bh P w K mg base 2 T.eI.f T.eI.fd ["self"] bM:=aR T.eI.F oJ fun _ _ _ _ _ _ hr nd hu=>by
 exact(ai (ar (io (ah (aX [108,101,110,103,116,104]) (ah (aI (k:=1) (n:=1) (D:=[(7,aK)]) (ae T.bQ.n T.bQ.c T.h_Signs_told (eQ T) T.cu.b ax) hr.m (aJ 39 (aa 0))) ap)))))
theorem lu (T:TX K mg):bh P w K mg base 4 T.fK.f T.fK.fd ["self","sign"] aZ:=aR T.fK.F rc fun _ _ _ _ _ _ hr nd hu=>by
 exact(ai (ar (da (k:=3) (n:=2) (D:=[(7,aV)]) (ae T.bQ.n T.bQ.c T.h_Signs_fed (e9 T) T.ck.b ax) hr.m (aJ 39 (aa 0)) (ah (aa 1) ap))))
theorem mO (T:TX K mg):bh P w K mg base 2 T.fR.f T.fR.fd ["self"] ci:=aR T.fR.F qF fun _ _ _ _ _ _ hr nd hu=>by
 exact(ai (ar (io (ah (aX [114,101,115,116]) (ah (aI (k:=1) (n:=1) (D:=[(7,aK)]) (ae T.bQ.n T.bQ.c T.h_Signs_told (eQ T) T.cu.b ax) hr.m (aJ 39 (aa 0))) ap)))))
theorem lX (T:TX K mg):bh P w K mg base 7 T.dc.f T.dc.fd ["self","text"] eu:=aR T.dc.F lP fun _ _ _ _ _ _ hr nd hu=>by
 exact(aj (kM (rQ "list" q91 q86 q87 qj (aJ 40 (aa 0)) (ah (aa 1) ap) (lY rfl))) (aj (bB [15] 38 T.w_left_PiecesBody (aa 0) (bf oK (aJ 38 (aa 0)) (dI fZ q26 (ah (aa 1) ap) T.iO))) (aj (bB [15] 42 T.w_piece_PiecesBody (aa 0) cP) (ai (bB [15] 41 T.w_size_PiecesBody (aa 0) (aI (k:=6) (n:=1) (D:=[(15,cm)]) (ae T.aL.n T.aL.c T.h_PiecesBody_new_size (kg T) T.cZ.b ax) hr.m (aa 0)))))))
theorem mw (T:TX K mg):bh P w K mg base 8 T.dz.f T.dz.fd ["self","sign"] b8:=aR T.dz.F lU fun _ _ _ _ _ _ hr nd hu=>by
 exact(aj (bv (jm (eC (da (k:=4) (n:=2) (D:=[(8,bA)]) (ae T.aP.n T.aP.c T.h_Closed_fed (kS T) T.gi.b ax) hr.m (aJ 42 (aa 0)) (ah (aa 1) ap)))) (ai (ar db)) aO) (aj (bv (eC (aI (k:=2) (n:=1) (D:=[(8,cX)]) (ae T.aP.n T.aP.c T.h_Closed_good (jB T) T.eD.b ax) hr.m (aJ 42 (aa 0)))) (ai (kM (da (k:=7) (n:=2) (D:=[(15,eu)]) (ae T.aL.n T.aL.c T.h_PiecesBody_keep_piece (lX T) T.dc.b ax) hr.m (aa 0) (ah (aI (k:=2) (n:=1) (D:=[(8,cF)]) (ae T.aP.n T.aP.c T.h_Closed_told (iX T) T.dS.b ax) hr.m (aJ 42 (aa 0))) ap)))) aO) (ai (ar db))))
theorem mX (T:TX K mg):bh P w K mg base 6 T.dM.f T.dM.fd ["self","sign"] bJ:=aR T.dM.F my fun _ _ _ _ _ _ hr nd hu=>by
 exact(aj (bv (jm (eC (da (k:=4) (n:=2) (D:=[(8,bA)]) (ae T.aP.n T.aP.c T.h_Closed_fed (kS T) T.gi.b ax) hr.m (aJ 41 (aa 0)) (ah (aa 1) ap)))) (ai (ar db)) aO) (aj (bv (AW.at (ny (eC (aI (k:=2) (n:=1) (D:=[(8,cX)]) (ae T.aP.n T.aP.c T.h_Closed_good (jB T) T.eD.b ax) hr.m (aJ 41 (aa 0)))) (lK (aY pf (aI (k:=2) (n:=1) (D:=[(8,cF)]) (ae T.aP.n T.aP.c T.h_Closed_told (iX T) T.dS.b ax) hr.m (aJ 41 (aa 0))) ay)))) (ai (bB [15] 42 T.w_piece_PiecesBody (aa 0) (dC (C:=8) (n:=3) T.aP.n T.aP.c T.mk_Closed (iS T) hr.m T.aP.m T.dP.b (ah (dC (C:=7) (n:=2) T.bQ.n T.bQ.c T.mk_Signs (kX T) hr.m T.bQ.m T.gf.b (ah (aI (k:=2) (n:=1) (D:=[(8,cF)]) (ae T.aP.n T.aP.c T.h_Closed_told (iX T) T.dS.b ax) hr.m (aJ 41 (aa 0))) ap)) (ah (bZ bi T.m_ROW_END T.r_ROW_END ⟨_,rfl⟩) ap))))) aO) (ai (ar db))))
theorem kq (T:TX K mg):bh P w K mg base 10 T.eh.f T.eh.fd ["self","sign"] au:=aR T.eh.F pQ fun _ _ _ _ _ _ hr nd hu=>by
 exact(aj (bv (aY eM (aJ 42 (aa 0)) cP) (ai (ar (da (k:=8) (n:=2) (D:=[(15,b8)]) (ae T.aL.n T.aL.c T.h_PiecesBody_fed_piece (mw T) T.dz.b ax) hr.m (aa 0) (ah (aa 1) ap)))) aO) (aj (bv (eC (aI (k:=2) (n:=1) (D:=[(8,cX)]) (ae T.aP.n T.aP.c T.h_Closed_good (jB T) T.eD.b ax) hr.m (aJ 41 (aa 0)))) (ai (ar (da (k:=9) (n:=2) (D:=[(10,bg)]) (ae T.br.n T.br.c T.h_Fields_fed (pN T) T.iF.b ax) hr.m (aJ 43 (aa 0)) (ah (aa 1) ap)))) aO) (ai (ar (da (k:=6) (n:=2) (D:=[(15,bJ)]) (ae T.aL.n T.aL.c T.h_PiecesBody_fed_size (mX T) T.dM.b ax) hr.m (aa 0) (ah (aa 1) ap))))))
theorem lj (T:TX K mg):bh P w K mg base 3 T.dX.f T.dX.fd ["self"] bF:=aR T.dX.F nR fun _ _ _ _ _ _ hr nd hu=>by
 exact(ai (ar (aI (k:=2) (n:=1) (D:=[(10,cy)]) (ae T.br.n T.br.c T.h_Fields_whole (nG T) T.gE.b ax) hr.m (aJ 43 (aa 0)))))
theorem fG (T:TX K mg):bh P w K mg base 9 T.cb.f T.cb.fd ["self"] ak:=aR T.cb.F nc fun _ _ _ _ _ _ hr nd hu=>by
 exact(aj (bv (aY eM (aJ 42 (aa 0)) cP) (ai (ar (bf bq (aI (k:=4) (n:=1) (D:=[(8,bG)]) (ae T.aP.n T.aP.c T.h_Closed_awaited (gu T) T.cO.b ax) hr.m (aJ 42 (aa 0))) (bZ iB T.m_PIECES_END T.r_PIECES_END ⟨_,rfl⟩)))) aO) (aj (eN 1 nd (aI (k:=2) (n:=1) (D:=[(8,cF)]) (ae T.aP.n T.aP.c T.h_Closed_told (iX T) T.dS.b ax) hr.m (aJ 41 (aa 0)))) (aj (bv (aY pf (aa 1) ay) (ai (ar (bf bq (bf bq (bf bq (aI (k:=4) (n:=1) (D:=[(8,bG)]) (ae T.aP.n T.aP.c T.h_Closed_awaited (gu T) T.cO.b ax) hr.m (aJ 41 (aa 0))) (aI (k:=1) (n:=1) (D:=[(7,dt)]) (ae T.bQ.n T.bQ.c T.h_Signs_awaited (kH T) T.eR.b ax) hr.m (dC (C:=7) (n:=2) T.bQ.n T.bQ.c T.mk_Signs (kX T) hr.m T.bQ.m T.gf.b (ah (aa 1) ap)))) (bZ bi T.m_ROW_END T.r_ROW_END ⟨_,rfl⟩)) (bZ iB T.m_PIECES_END T.r_PIECES_END ⟨_,rfl⟩)))) aO) (ai (ar (bf bq (aI (k:=4) (n:=1) (D:=[(8,bG)]) (ae T.aP.n T.aP.c T.h_Closed_awaited (gu T) T.cO.b ax) hr.m (aJ 41 (aa 0))) (aI (k:=8) (n:=1) (D:=[(10,bw)]) (ae T.br.n T.br.c T.h_Fields_awaited (lS T) T.eZ.b ax) hr.m (aJ 43 (aa 0)))))))))
theorem lL (T:TX K mg):bh P w K mg base 2 T.eJ.f T.eJ.fd ["self"] bL:=aR T.eJ.F oN fun _ _ _ _ _ _ hr nd hu=>by
 exact(ai (ar (io (ah (aX [112,105,101,99,101,115]) (ah (sf xN oZ (ah (aJ 40 (aa 0)) ap) T.o9) (ah (aI (k:=1) (n:=1) (D:=[(10,du)]) (ae T.br.n T.br.c T.h_Fields_told (oe T) T.g6.b ax) hr.m (aJ 43 (aa 0))) ap))))))
theorem nH (T:TX K mg):bh P w K mg base 2 T.d9.f T.d9.fd ["self"] fH:=aR T.d9.F mY fun _ _ _ _ _ _ hr nd hu=>by
 exact(ai (ar (kr (ix mj (aJ 44 (aa 0)) (eB (aJ 30 (aa 0)) (bZ jY T.m_MOST_DEEP T.r_MOST_DEEP ⟨_,rfl⟩))) (jv (aI (k:=1) (n:=1) (D:=[(11,ip)]) (ae T.j8.n T.j8.c T.h_Tally_has_room (qf T) T.gw.b ax) hr.m (aJ 45 (aa 0)))))))
theorem mT (T:TX K mg):bh P w K mg base 8 T.dN.f T.dN.fd ["self","sign"] bI:=aR T.dN.F mE fun _ _ _ _ _ _ hr nd hu=>by
 exact(aj (bv (aY (fO hu) (aa 1) (eB (bZ bm T.m_PARTS_END T.r_PARTS_END ⟨_,rfl⟩) ay)) (ai (bB [16] 36 T.w_row_PartsBody (aa 0) (dC (C:=1) (n:=2) T.be.n T.be.c T.mk_Exact (kd T) hr.m T.be.m T.eG.b (ah (bZ bm T.m_PARTS_END T.r_PARTS_END ⟨_,rfl⟩) ap)))) (ai (bv (AW.at (ny (aY (fO hu) (aa 1) (eB (bZ eH T.m_PART_ROW T.r_PART_ROW ⟨_,rfl⟩) ay)) (lK (eC (aI (k:=2) (n:=1) (D:=[(16,fH)]) (ae T.aM.n T.aM.c T.h_PartsBody_has_room (nH T) T.d9.b ax) hr.m (aa 0)))))) (aj (kM (aI (k:=1) (n:=1) (D:=[(11,il)]) (ae T.j8.n T.j8.c T.h_Tally_take_one (qo T) T.gx.b ax) hr.m (aJ 45 (aa 0)))) (ai (bB [16] 36 T.w_row_PartsBody (aa 0) (dC (C:=1) (n:=2) T.be.n T.be.c T.mk_Exact (kd T) hr.m T.be.m T.eG.b (ah (bZ eH T.m_PART_ROW T.r_PART_ROW ⟨_,rfl⟩) ap))))) (ai (ar db))))) (ai (ar (da (k:=7) (n:=2) (D:=[(9,bc),(1,aV)]) (ae T.aT.n T.aT.c T.h_FieldRow_fed (la T) T.fI.b (ae T.be.n T.be.c T.h_Exact_fed (e9 T) T.ck.b ax)) hr.m (aJ 36 (aa 0)) (ah (aa 1) ap)))))
theorem kD (T:TX K mg):bh P w K mg base 10 T.dj.f T.dj.fd ["self"] bo:=aR T.dj.F mW fun _ _ _ _ _ _ hr nd hu=>by
 exact(ai (ar (hJ (uv T) hr.m T.iY.m T.iY.F.kp T.iY.b0 (ah (aI (k:=6) (n:=1) (D:=[(10,cx)]) (ae T.br.n T.br.c T.h_Fields_end_to_come (nt T) T.ee.b ax) hr.m (aJ 48 (aa 0))) (ah (aJ 30 (aa 0)) (ah (aI (k:=1) (n:=1) (D:=[(10,d6)]) (ae T.br.n T.br.c T.h_Fields_room_left (lw T) T.dY.b ax) hr.m (aJ 48 (aa 0))) (ah (aJ 44 (aa 0)) (ah (aJ 45 (aa 0)) ap))))))))
theorem lT (T:TX K mg):bh P w K mg base 1 T.eX.f T.eX.fd ["self"] bW:=aR T.eX.F pF fun _ _ _ _ _ _ hr nd hu=>by
 exact(ai (ar (io (ah (aX [112,97,114,116,115]) (ah (sf xN oZ (ah (aJ 46 (aa 0)) ap) T.o9) ap)))))
theorem uR (T:TX K mg):bh P w K mg base 3 T.jn.f T.jn.fd ["self"] iG:=aR T.jn.F tW fun _ _ _ _ _ _ hr nd hu=>by
 exact(ai (ar (io (ah (aI (k:=1) (n:=1) (D:=[(10,du)]) (ae T.br.n T.br.c T.h_Fields_told (oe T) T.g6.b ax) hr.m (aJ 48 (aa 0))) (ah (aI (k:=2) (n:=1) (D:=[(12,dJ),(13,bM),(14,ci),(15,bL),(16,bW)]) (ae T.di.n T.di.c T.h_Body_told (qY T) T.jj.b (ae T.aW.n T.aW.c T.h_LengthBody_told (lF T) T.eI.b (ae T.bj.n T.bj.c T.h_RestBody_told (mO T) T.fR.b (ae T.aL.n T.aL.c T.h_PiecesBody_told (lL T) T.eJ.b (ae T.aM.n T.aM.c T.h_PartsBody_told (lT T) T.eX.b ax))))) hr.m (aJ 49 (aa 0))) ap)))))
theorem lG (T:TX K mg):bh P w K mg base 4 T.eO.f T.eO.fd ["self"] bt:=aR T.eO.F oP fun _ _ _ _ _ _ hr nd hu=>by
 exact(ai (ar (kr (ix eM (aJ 36 (aa 0)) cP) (jv (ix (fO hu) (aI (k:=3) (n:=1) (D:=[(9,cg),(1,aK)]) (ae T.aT.n T.aT.c T.h_FieldRow_told (jN T) T.dU.b (ae T.be.n T.be.c T.h_Exact_told (eQ T) T.cu.b ax)) hr.m (aJ 36 (aa 0))) (bZ bm T.m_PARTS_END T.r_PARTS_END ⟨_,rfl⟩))))))
theorem t0 (T:TX K mg):bh P w K mg base 5 T.iW.f T.iW.fd ["self"] eF:=aR T.iW.F tD fun _ _ _ _ _ _ hr nd hu=>by
 exact(ai (ar (kr (ix eM (aJ 49 (aa 0)) cP) (jv (aI (k:=4) (n:=1) (D:=[(12,bp),(13,bD),(14,bp),(15,bF),(16,bt)]) (ae T.di.n T.di.c T.h_Body_whole (kP T) T.fE.b (ae T.aW.n T.aW.c T.h_LengthBody_whole (lg T) T.dZ.b (ae T.bj.n T.bj.c T.h_RestBody_whole (kP T) T.fE.b (ae T.aL.n T.aL.c T.h_PiecesBody_whole (lj T) T.dX.b (ae T.aM.n T.aM.c T.h_PartsBody_whole (lG T) T.eO.b ax))))) hr.m (aJ 49 (aa 0)))))))
theorem vv (T:TX K mg):bh P w K mg base 3 T.ju.f T.ju.fd ["self","book","deep","tally"] kY:=aR T.ju.F t8 fun _ _ _ _ _ _ hr nd hu=>by
 exact(aj (bB [17] 30 T.w_book_Frame (aa 0) (aa 1)) (aj (bB [17] 44 T.w_deep_Frame (aa 0) (aa 2)) (aj (bB [17] 45 T.w_tally_Frame (aa 0) (aa 3)) (aj (bB [17] 48 T.w_fields_Frame (aa 0) (dC (C:=10) (n:=4) T.br.n T.br.c T.mk_Fields (ou T) hr.m T.br.m T.g4.b (ah (aa 1) (ah (eB (aa 1) (bZ iT T.m_MOST_FIELDS T.r_MOST_FIELDS ⟨_,rfl⟩)) (ah (sI (aY (fO hu) (aa 2) ay) (bZ gT T.m_END_NAMES T.r_END_NAMES rfl) (bZ ij T.m_PART_END_NAMES T.r_PART_END_NAMES rfl)) ap))))) (ai (bB [17] 49 T.w_body_Frame (aa 0) cP))))))
theorem kF (T:TX K mg):bh P w K mg base 5 T.dr.f T.dr.fd ["self"] ca:=aR T.dr.F m4 fun _ _ _ _ _ _ hr nd hu=>by
 exact(ai (ar (dC (C:=17) (n:=4) T.eA.n T.eA.c T.mk_Frame (vv T) hr.m T.eA.m T.ju.b (ah (aJ 30 (aa 0)) (ah (bf bq (aJ 44 (aa 0)) ay) (ah (aJ 45 (aa 0)) ap))))))
theorem rg (T:TX K mg) (n:Nat) (ih_PartsBody_fed:bh P w K mg base (10+n) T.bC.f T.bC.fd ["self","sign"] (aH n)) (ih_PartsBody_fed_part:bh P w K mg base (10+n) T.bn.f T.bn.fd ["self","sign"] (bS n)) (ih_Frame_fed:bh P w K mg base (10+n) T.dL.f T.dL.fd ["self","sign"] (cT n)):bh P w K mg base (10+n+1) T.bC.f T.bC.fd ["self","sign"] (aH (n+1)):=aR T.bC.F qM fun _ _ _ _ _ _ hr nd hu=>by
 exact(aj (bv (aY eM (aJ 47 (aa 0)) cP) (ai (ar (da (k:=(10+n)) (n:=2) (D:=[(16,(bS n))]) (ae T.aM.n T.aM.c T.h_PartsBody_fed_part ih_PartsBody_fed_part T.bn.b ax) hr.m (aa 0) (ah (aa 1) ap)))) aO) (aj (bv (aY nA (aJ 36 (aa 0)) cP) (ai (ar (da (k:=8) (n:=2) (D:=[(16,bI)]) (ae T.aM.n T.aM.c T.h_PartsBody_begin_row (mT T) T.dN.b ax) hr.m (aa 0) (ah (aa 1) ap)))) aO) (aj (bv (jm (eC (da (k:=7) (n:=2) (D:=[(9,bc),(1,aV)]) (ae T.aT.n T.aT.c T.h_FieldRow_fed (la T) T.fI.b (ae T.be.n T.be.c T.h_Exact_fed (e9 T) T.ck.b ax)) hr.m (aJ 36 (aa 0)) (ah (aa 1) ap)))) (ai (ar db)) aO) (aj (bv (aY (fO hu) (aI (k:=3) (n:=1) (D:=[(9,cg),(1,aK)]) (ae T.aT.n T.aT.c T.h_FieldRow_told (jN T) T.dU.b (ae T.be.n T.be.c T.h_Exact_told (eQ T) T.cu.b ax)) hr.m (aJ 36 (aa 0))) (bZ eH T.m_PART_ROW T.r_PART_ROW ⟨_,rfl⟩)) (ai (bB [16] 47 T.w_part_PartsBody (aa 0) (aI (k:=5) (n:=1) (D:=[(16,ca)]) (ae T.aM.n T.aM.c T.h_PartsBody_new_part (kF T) T.dr.b ax) hr.m (aa 0)))) aO) (ai (ar db))))))
theorem nD (T:TX K mg) (n:Nat) (ih_PartsBody_fed:bh P w K mg base (10+n) T.bC.f T.bC.fd ["self","sign"] (aH n)) (ih_PartsBody_fed_part:bh P w K mg base (10+n) T.bn.f T.bn.fd ["self","sign"] (bS n)) (ih_Frame_fed:bh P w K mg base (10+n) T.dL.f T.dL.fd ["self","sign"] (cT n)):bh P w K mg base (10+n+1) T.bn.f T.bn.fd ["self","sign"] (bS (n+1)):=aR T.bn.F m9 fun _ _ _ _ _ _ hr nd hu=>by
 exact(aj (bv (jm (eC (da (k:=(10+n)) (n:=2) (D:=[(17,(cT n))]) (ae T.eA.n T.eA.c T.h_Frame_fed ih_Frame_fed T.dL.b ax) hr.m (aJ 47 (aa 0)) (ah (aa 1) ap)))) (ai (ar db)) aO) (aj (bv (eC (aI (k:=5) (n:=1) (D:=[(17,eF)]) (ae T.eA.n T.eA.c T.h_Frame_whole (t0 T) T.iW.b ax) hr.m (aJ 47 (aa 0)))) (aj (kM (rQ "list" q91 q86 q87 qj (aJ 46 (aa 0)) (ah (aI (k:=3) (n:=1) (D:=[(17,iG)]) (ae T.eA.n T.eA.c T.h_Frame_told (uR T) T.jn.b ax) hr.m (aJ 47 (aa 0))) ap) (lY rfl))) (aj (bB [16] 47 T.w_part_PartsBody (aa 0) cP) (ai (bB [16] 36 T.w_row_PartsBody (aa 0) cP)))) aO) (ai (ar db))))
theorem wa (T:TX K mg) (n:Nat) (ih_PartsBody_fed:bh P w K mg base (10+n) T.bC.f T.bC.fd ["self","sign"] (aH n)) (ih_PartsBody_fed_part:bh P w K mg base (10+n) T.bn.f T.bn.fd ["self","sign"] (bS n)) (ih_Frame_fed:bh P w K mg base (10+n) T.dL.f T.dL.fd ["self","sign"] (cT n)):bh P w K mg base (10+n+1) T.dL.f T.dL.fd ["self","sign"] (cT (n+1)):=aR T.dL.F vE fun _ _ _ _ _ _ hr nd hu=>by
 exact(aj (bv (aY eM (aJ 49 (aa 0)) cP) (ai (ar (da (k:=(10+n)) (n:=2) (D:=[(12,bT),(13,aS),(14,aZ),(15,au),(16,(aH n))]) (ae T.di.n T.di.c T.h_Body_fed (oC T) T.jk.b (ae T.aW.n T.aW.c T.h_LengthBody_fed (kk T) T.d8.b (ae T.bj.n T.bj.c T.h_RestBody_fed (lu T) T.fK.b (ae T.aL.n T.aL.c T.h_PiecesBody_fed (kq T) T.eh.b (ae T.aM.n T.aM.c T.h_PartsBody_fed ih_PartsBody_fed T.bC.b ax))))) hr.m (aJ 49 (aa 0)) (ah (aa 1) ap)))) aO) (aj (bv (jm (eC (da (k:=9) (n:=2) (D:=[(10,bg)]) (ae T.br.n T.br.c T.h_Fields_fed (pN T) T.iF.b ax) hr.m (aJ 48 (aa 0)) (ah (aa 1) ap)))) (ai (ar db)) aO) (aj (bv (eC (aI (k:=2) (n:=1) (D:=[(10,cy)]) (ae T.br.n T.br.c T.h_Fields_whole (nG T) T.gE.b ax) hr.m (aJ 48 (aa 0)))) (ai (bB [17] 49 T.w_body_Frame (aa 0) (aI (k:=10) (n:=1) (D:=[(17,bo)]) (ae T.eA.n T.eA.c T.h_Frame_body_to_come (kD T) T.dj.b ax) hr.m (aa 0)))) aO) (ai (ar db)))))
theorem g85 (T:TX K mg):∀ n,bh P w K mg base (10+n) T.bC.f T.bC.fd ["self","sign"] (aH n)∧bh P w K mg base (10+n) T.bn.f T.bn.fd ["self","sign"] (bS n)∧bh P w K mg base (10+n) T.dL.f T.dL.fd ["self","sign"] (cT n)
 | 0=>⟨nF,nF,nF⟩
 | n+1=>by
  obtain⟨i0,i1,i2⟩:=g85 T n;exact⟨rg T n i0 i1 i2,nD T n i0 i1 i2,wa T n i0 i1 i2⟩
theorem mR (T:TX K mg):bh P w K mg base 50 T.bC.f T.bC.fd ["self","sign"] (aH 40):=(g85 T 40).1
theorem nZ (T:TX K mg) (n:Nat) (ih_PartsBody_awaited:bh P w K mg base (10+n) T.ba.f T.ba.fd ["self"] (ao n)) (ih_Frame_awaited:bh P w K mg base (10+n) T.cw.f T.cw.fd ["self"] (cf n)):bh P w K mg base (10+n+1) T.ba.f T.ba.fd ["self"] (ao (n+1)):=aR T.ba.F nv fun _ _ _ _ _ _ hr nd hu=>by
 exact(aj (bv (aY eM (aJ 47 (aa 0)) cP) (ai (ar (bf bq (aI (k:=(10+n)) (n:=1) (D:=[(17,(cf n))]) (ae T.eA.n T.eA.c T.h_Frame_awaited ih_Frame_awaited T.cw.b ax) hr.m (aJ 47 (aa 0))) (bZ bm T.m_PARTS_END T.r_PARTS_END ⟨_,rfl⟩)))) aO) (aj (bv (aY nA (aJ 36 (aa 0)) cP) (ai (ar (bZ bm T.m_PARTS_END T.r_PARTS_END ⟨_,rfl⟩))) aO) (aj (bv (aY (fO hu) (eB (aI (k:=3) (n:=1) (D:=[(9,cg),(1,aK)]) (ae T.aT.n T.aT.c T.h_FieldRow_told (jN T) T.dU.b (ae T.be.n T.be.c T.h_Exact_told (eQ T) T.cu.b ax)) hr.m (aJ 36 (aa 0))) ay) (eB (bZ bm T.m_PARTS_END T.r_PARTS_END ⟨_,rfl⟩) ay)) (ai (ar (aI (k:=7) (n:=1) (D:=[(9,bE),(1,aU)]) (ae T.aT.n T.aT.c T.h_FieldRow_awaited (jW T) T.dl.b (ae T.be.n T.be.c T.h_Exact_awaited (gQ T) T.cL.b ax)) hr.m (aJ 36 (aa 0))))) aO) (ai (ar (bf bq (bf bq (aI (k:=7) (n:=1) (D:=[(9,bE),(1,aU)]) (ae T.aT.n T.aT.c T.h_FieldRow_awaited (jW T) T.dl.b (ae T.be.n T.be.c T.h_Exact_awaited (gQ T) T.cL.b ax)) hr.m (aJ 36 (aa 0))) (aI (k:=(10+n)) (n:=1) (D:=[(17,(cf n))]) (ae T.eA.n T.eA.c T.h_Frame_awaited ih_Frame_awaited T.cw.b ax) hr.m (aI (k:=5) (n:=1) (D:=[(16,ca)]) (ae T.aM.n T.aM.c T.h_PartsBody_new_part (kF T) T.dr.b ax) hr.m (aa 0)))) (bZ bm T.m_PARTS_END T.r_PARTS_END ⟨_,rfl⟩)))))))
theorem rN (T:TX K mg) (n:Nat) (ih_PartsBody_awaited:bh P w K mg base (10+n) T.ba.f T.ba.fd ["self"] (ao n)) (ih_Frame_awaited:bh P w K mg base (10+n) T.cw.f T.cw.fd ["self"] (cf n)):bh P w K mg base (10+n+1) T.cw.f T.cw.fd ["self"] (cf (n+1)):=aR T.cw.F qD fun _ _ _ _ _ _ hr nd hu=>by
 exact(aj (bv (aY eM (aJ 49 (aa 0)) cP) (ai (ar (aI (k:=(10+n)) (n:=1) (D:=[(12,am),(13,az),(14,am),(15,ak),(16,(ao n))]) (ae T.di.n T.di.c T.h_Body_awaited (dR T) T.b4.b (ae T.aW.n T.aW.c T.h_LengthBody_awaited (fF T) T.ce.b (ae T.bj.n T.bj.c T.h_RestBody_awaited (dR T) T.b4.b (ae T.aL.n T.aL.c T.h_PiecesBody_awaited (fG T) T.cb.b (ae T.aM.n T.aM.c T.h_PartsBody_awaited ih_PartsBody_awaited T.ba.b ax))))) hr.m (aJ 49 (aa 0))))) aO) (ai (ar (bf bq (aI (k:=8) (n:=1) (D:=[(10,bw)]) (ae T.br.n T.br.c T.h_Fields_awaited (lS T) T.eZ.b ax) hr.m (aJ 48 (aa 0))) (aI (k:=(10+n)) (n:=1) (D:=[(12,am),(13,az),(14,am),(15,ak),(16,(ao n))]) (ae T.di.n T.di.c T.h_Body_awaited (dR T) T.b4.b (ae T.aW.n T.aW.c T.h_LengthBody_awaited (fF T) T.ce.b (ae T.bj.n T.bj.c T.h_RestBody_awaited (dR T) T.b4.b (ae T.aL.n T.aL.c T.h_PiecesBody_awaited (fG T) T.cb.b (ae T.aM.n T.aM.c T.h_PartsBody_awaited ih_PartsBody_awaited T.ba.b ax))))) hr.m (aI (k:=10) (n:=1) (D:=[(17,bo)]) (ae T.eA.n T.eA.c T.h_Frame_body_to_come (kD T) T.dj.b ax) hr.m (aa 0)))))))
theorem g86 (T:TX K mg):∀ n,bh P w K mg base (10+n) T.ba.f T.ba.fd ["self"] (ao n)∧bh P w K mg base (10+n) T.cw.f T.cw.fd ["self"] (cf n)
 | 0=>⟨nF,nF⟩
 | n+1=>by
  obtain⟨i0,i1⟩:=g86 T n;exact⟨nZ T n i0 i1,rN T n i0 i1⟩
theorem jx (T:TX K mg):bh P w K mg base 50 T.ba.f T.ba.fd ["self"] (ao 40):=(g86 T 40).1
theorem mI (T:TX K mg):bh P w K mg base 1 T.dB.f T.dB.fd ["_law_cell","_law_k"] dW:=aR T.dB.F tN fun _ _ _ _ _ _ hr nd hu=>by
 exact(aj (bv (AW.at (ny (aY (fO hu) (bf ja (aa 0) ay) ay) (lK (aY pf (aa 0) (bf B6 ay ay))))) (ai (ar (bf ja (bf jf (aa 0) ay) (bf B6 ay ay)))) aO) (aj (eN 2 nd (bf ja (bf mB (bf bq (bf bq (aa 0) (bf mB ay (aa 1))) ay) ay) ay)) (ai (ar (bf ja (bf mB (aa 2) (bf bq (bf jf (aa 2) ay) ay)) ay)))))
theorem nl (T:TX K mg):bh P w K mg base 1 T.dQ.f T.dQ.fd ["_law_script","_law_k"] dO:=aR T.dQ.F rE fun _ _ _ _ _ _ hr nd hu=>by
 exact(aj (bv (aY mj (aa 1) (dI fZ q26 (ah (aa 0) ap) T.iO)) (ai (ar (eB (aa 0) (aa 1)))) aO) (ai (ar ay)))
theorem xr (T:TX K mg) (n:Nat) (ih__law_hex:bh P w K mg base (0+n) T.dF.f T.dF.fd ["_law_number"] (gD n)):bh P w K mg base (0+n+1) T.dF.f T.dF.fd ["_law_number"] (gD (n+1)):=aR T.dF.F wQ fun _ _ _ _ _ _ hr nd hu=>by
 exact(aj (bv (aY mj (aa 0) ay) (ai (ar (eB (aX [48,49,50,51,52,53,54,55,56,57,97,98,99,100,101,102]) (aa 0)))) aO) (ai (ar (bf bq (hJ ih__law_hex hr.m T.dF.m T.dF.F.kp T.dF.b0 (ah (bf jf (aa 0) ay) ap)) (eB (aX [48,49,50,51,52,53,54,55,56,57,97,98,99,100,101,102]) (bf ja (aa 0) ay))))))
theorem g89 (T:TX K mg):∀ n,bh P w K mg base (0+n) T.dF.f T.dF.fd ["_law_number"] (gD n)
 | 0=>nF
 | n+1=>by
  have i0:=g89 T n;exact xr T n i0
theorem yj (T:TX K mg):bh P w K mg base 40 T.dF.f T.dF.fd ["_law_number"] (gD 40):=(g89 T 40)
theorem qW (T:TX K mg):bh P w K mg base 1 T.gm.f T.gm.fd ["_law_fields"] gn:=aR T.gm.F vA fun _ _ _ _ _ _ hr nd hu=>by
 exact(ai (ar (rQ "str" q43 q76 q99 u8 (aX []) (ah (uZ 1000000 ["_law_name","_law_value"] [none,none] rfl (lh (aa 0)) (fun _ _ _=>(vb rfl (lE (iz 0 (by show(["_law_name","_law_value"]:List Str).Nodup; decide+kernel)) (lE (iz 1 (by show(["_law_name","_law_value"]:List Str).Nodup; decide+kernel)) si)))) (fun _ _ _=>vm) (fun _ _ _=>(bf bq (bf bq (bf bq (aa 0) (aX [58,32])) (aa 1)) (aX [59,10])))) ap) (lY rfl))))
theorem sw (T:TX K mg) (n:Nat) (ih__law_writing:bh P w K mg base (40+n) T.b7.f T.b7.fd ["_law_body"] (cC n)):bh P w K mg base (40+n+1) T.b7.f T.b7.fd ["_law_body"] (cC (n+1)):=aR T.b7.F rj fun _ _ _ _ _ _ hr nd hu=>by
 exact(aj (bv (aY (fO hu) (eB (aa 0) ay) (aX [110,111,110,101])) (ai (ar (aX []))) aO) (aj (bv (AW.at (kC (aY (fO hu) (eB (aa 0) ay) (aX [108,101,110,103,116,104])) (km (aY (fO hu) (eB (aa 0) ay) (aX [114,101,115,116]))))) (ai (ar (eB (aa 0) ay))) aO) (aj (bv (aY (fO hu) (eB (aa 0) ay) (aX [112,105,101,99,101,115])) (aj (eN 1 nd (rQ "str" q43 q76 q99 u8 (aX []) (ah (uZ 1000000 ["_law_piece"] [none] rfl (lh (eB (aa 0) ay)) (fun _ _ _=>(iz 0 (by show(["_law_piece"]:List Str).Nodup; decide+kernel))) (fun _ _ _=>vm) (fun _ _ _=>(bf bq (bf bq (bf bq (hJ (yj T) hr.m T.dF.m T.dF.F.kp T.dF.b0 (ah (dI fZ q26 (ah (aa 0) ap) T.iO) ap)) (aX [59,10])) (aa 0)) (aX [59,10])))) ap) (lY rfl))) (ai (ar (bf bq (bf bq (bf bq (aa 1) (aX [48,59,10])) (hJ (qW T) hr.m T.gm.m T.gm.F.kp T.gm.b0 (ah (eB (aa 0) ay) ap))) (aX [59,10]))))) aO) (aj (eN 1 nd (aX [])) (aj (sR 1000000 PassesOwn.never rfl (lh (eB (aa 0) ay)) (vb rfl (lE (iz 2 nd) (lE (iz 3 nd) si))) (aj (eN 4 nd (bf bq (eB (aa 3) ay) (aX [58,32,121,101,115,59,10]))) (aj (bv (aY (fO hu) (eB (aa 3) ay) (aX [108,101,110,103,116,104])) (ai (eN 4 nd (bf bq (bf bq (aX [108,101,110,103,116,104,58,32]) (sf HM GJ (ah (dI fZ q26 (ah (eB (aa 3) ay) ap) T.iO) ap) T.Fj)) (aX [59,10])))) aO) (aj (bv (aY (fO hu) (eB (aa 3) ay) (aX [110,111,110,101])) (ai (eN 4 nd (aX []))) aO) (ai (eN 1 nd (bf bq (bf bq (bf bq (bf bq (bf bq (aa 1) (aX [43,59,10])) (hJ (qW T) hr.m T.gm.m T.gm.F.kp T.gm.b0 (ah (aa 2) ap))) (aa 4)) (aX [59,10])) (hJ ih__law_writing hr.m T.b7.m T.b7.F.kp T.b7.b0 (ah (aa 3) ap))))))))) (ai (ar (bf bq (aa 1) (aX [45,59,10])))))))))
theorem g91 (T:TX K mg):∀ n,bh P w K mg base (40+n) T.b7.f T.b7.fd ["_law_body"] (cC n)
 | 0=>nF
 | n+1=>by
  have i0:=g91 T n;exact sw T n i0
theorem su (T:TX K mg):bh P w K mg base 80 T.b7.f T.b7.fd ["_law_body"] (cC 40):=(g91 T 40)
theorem lc (T:TX K mg):bh P w K mg base 1 T.cH.f T.cH.fd ["_law_fields","_law_book","_law_room"] cV:=aR T.cH.F nX fun _ _ _ _ _ _ hr nd hu=>by
 exact(aj (bv (aY pf (dI fZ q26 (ah (aa 0) ap) T.iO) (aa 2)) (ai (ar db)) aO) (aj (sR 1000000 PassesOwn.never rfl (lh (aa 0)) (vb rfl (lE (iz 3 nd) (lE (iz 4 nd) si))) (aj (bv (AW.at (kC (jm (wI mj qO ay (dI fZ q26 (ah (aa 3) ap) T.iO) (eB (aa 1) ay))) (km (aY qm (aa 3) (io (ah (aX [108,101,110,103,116,104]) (ah (aX [112,105,101,99,101,115]) (ah (aX [112,97,114,116,115]) (ah (aX [114,101,115,116]) ap))))))))) (ai (ar db)) aO) (aj (bv (aY (mi hu) (uZ 1000000 ["_law_sign"] [none] rfl (lh (aa 3)) (fun _ _ _=>(iz 0 (by show(["_law_sign"]:List Str).Nodup; decide+kernel))) (fun _ _ _=>Da (aY nh (aa 0) (aX [97,98,99,100,101,102,103,104,105,106,107,108,109,110,111,112,113,114,115,116,117,118,119,120,121,122]))) (fun _ _ _=>(aa 0))) (qg ap)) (ai (ar db)) aO) (ai (bv (AW.at (kC (jm (wI mj qO ay (dI fZ q26 (ah (aa 4) ap) T.iO) (eB (aa 1) ay))) (kC (aY qm (aX [59]) (aa 4)) (kC (aY qm (aX [10]) (aa 4)) (km (aY (mi hu) (rQ "str" q43 PySem.F.slot_str_strip PySem.F.type_str_strip AX (aa 4) (ah (aX [32]) ap) (lY rfl)) (aa 4))))))) (ai (ar db)) aO))))) (ai (ar db))))
theorem uX (T:TX K mg) (n:Nat) (ih__law_keeps:bh P w K mg base (1+n) T.cK.f T.cK.fd ["_law_body","_law_book","_law_room","_law_deep","_law_left"] (eK n)):bh P w K mg base (1+n+1) T.cK.f T.cK.fd ["_law_body","_law_book","_law_room","_law_deep","_law_left"] (eK (n+1)):=aR T.cK.F tV fun _ _ _ _ _ _ hr nd hu=>by
 exact(aj (bv (aY (fO hu) (eB (aa 0) ay) (aX [112,105,101,99,101,115])) (aj (bv (AW.at (kC (aY qm (aX []) (eB (aa 0) ay)) (km (aY pf (dI fZ q26 (ah (rQ "str" q43 q76 q99 u8 (aX []) (ah (eB (aa 0) ay) ap) (lY rfl)) ap) T.iO) (eB (aa 1) ay))))) (ai (ar db)) aO) (ai (ar (hJ (lc T) hr.m T.cH.m T.cH.F.kp T.cH.b0 (ah (eB (aa 0) ay) (ah (aa 1) (ah (aa 2) ap))))))) aO) (aj (bv (aY (mi hu) (eB (aa 0) ay) (aX [112,97,114,116,115])) (ai (ar (yu (ix (fO hu) (eB (aa 0) ay) (aX [110,111,110,101])) (jv (kr (ix qO (dI fZ q26 (ah (eB (aa 0) ay) ap) T.iO) (eB (aa 1) ay)) (jv (yu (ix (fO hu) (eB (aa 0) ay) (aX [108,101,110,103,116,104])) (jv (ix (fO hu) (aa 3) ay))))))))) aO) (aj (sR 1000000 PassesOwn.never rfl (lh (eB (aa 0) ay)) (vb rfl (lE (iz 5 nd) (lE (iz 6 nd) si))) (aj (F9 (bf oK (eB (aa 4) ay) ay) (GM (aa 4) ay)) (aj (bv (AW.at (kC (aY mj (eB (aa 4) ay) ay) (kC (aY pf (bf bq (aa 3) ay) (eB (aa 1) ay)) (km (jm (eC (hJ (lc T) hr.m T.cH.m T.cH.F.kp T.cH.b0 (ah (aa 5) (ah (aa 1) (ah (eB (aa 1) ay) ap)))))))))) (ai (ar db)) aO) (ai (bv (jm (eC (hJ ih__law_keeps hr.m T.cK.m T.cK.F.kp T.cK.b0 (ah (aa 6) (ah (aa 1) (ah (bf oK (eB (aa 1) ay) (dI fZ q26 (ah (aa 5) ap) T.iO)) (ah (bf bq (aa 3) ay) (ah (aa 4) ap)))))))) (ai (ar db)) aO))))) (ai (ar db)))))
theorem g93 (T:TX K mg):∀ n,bh P w K mg base (1+n) T.cK.f T.cK.fd ["_law_body","_law_book","_law_room","_law_deep","_law_left"] (eK n)
 | 0=>nF
 | n+1=>by
  have i0:=g93 T n;exact uX T n i0
theorem vy (T:TX K mg):bh P w K mg base 41 T.cK.f T.cK.fd ["_law_body","_law_book","_law_room","_law_deep","_law_left"] (eK 40):=(g93 T 40)
theorem uT (T:TX K mg):bh P w K mg base 51 T.iJ.f T.iJ.fd ["_law_machine","_law_cells"] iH:=aR T.iJ.F t7 fun _ _ _ _ _ _ hr nd hu=>by
 exact(aj (eN 2 nd (aX [59,10,59,10,59,10,58,32,43,45,43,45,108,101,110,103,116,104,112,105,101,99,115,112,97,114,116,114,101,121,120,48,49,50,51,52,53,54,55,56,57,97,98,99,100,101,102,32,121,101,115,65,66,90,126,33])) (aj (eN 3 nd (aX [])) (aj (sR 1000000 PassesOwn.never rfl (lh (aa 1)) (iz 4 nd) (aj (eN 5 nd (hJ (mI T) hr.m T.dB.m T.dB.F.kp T.dB.b0 (ah (aa 4) (ah ay ap)))) (aj (eN 6 nd (aI (k:=50) (n:=1) (D:=[(12,am),(13,az),(14,am),(15,ak),(16,(ao 40))]) (ae T.di.n T.di.c T.h_Body_awaited (dR T) T.b4.b (ae T.aW.n T.aW.c T.h_LengthBody_awaited (fF T) T.ce.b (ae T.bj.n T.bj.c T.h_RestBody_awaited (dR T) T.b4.b (ae T.aL.n T.aL.c T.h_PiecesBody_awaited (fG T) T.cb.b (ae T.aM.n T.aM.c T.h_PartsBody_awaited (jx T) T.ba.b ax))))) hr.m (aa 0))) (aj (eN 7 nd (eB (aa 2) (bf ja (bf jf (aa 5) ay) (dI fZ q26 (ah (aa 2) ap) T.iO)))) (aj (bv (AW.at (ny (aY (fO hu) (bf ja (aa 5) ay) ay) (lK (aY (mi hu) (aa 6) (aX []))))) (ai (eN 7 nd (eB (aa 6) ay))) aO) (aj (eN 8 nd (da (k:=50) (n:=2) (D:=[(12,bT),(13,aS),(14,aZ),(15,au),(16,(aH 40))]) (ae T.di.n T.di.c T.h_Body_fed (oC T) T.jk.b (ae T.aW.n T.aW.c T.h_LengthBody_fed (kk T) T.d8.b (ae T.bj.n T.bj.c T.h_RestBody_fed (lu T) T.fK.b (ae T.aL.n T.aL.c T.h_PiecesBody_fed (kq T) T.eh.b (ae T.aM.n T.aM.c T.h_PartsBody_fed (mR T) T.bC.b ax))))) hr.m (aa 0) (ah (aa 7) ap))) (ai (bv (aY nA (aa 8) db) (ai (eN 3 nd (bf bq (aa 3) (aa 7)))) (ai (bv (AW.at (kC (aY eM (aa 8) db) (km (aY (fO hu) (aa 7) (wJ sF (aa 6) sk (nP ay)))))) (ai (ar cP)) aO)))))))))) (ai (ar (aa 3))))))
theorem K5 (T:TX K mg):bh P w K mg base 81 T.ol.f T.ol.fd ["_law_script"] BS:=aR T.ol.F Gm fun _ _ _ _ _ _ hr nd hu=>by
 exact(aj (eN 1 nd (hJ (mI T) hr.m T.dB.m T.dB.F.kp T.dB.b0 (ah (hJ (nl T) hr.m T.dQ.m T.dQ.F.kp T.dQ.b0 (ah (aa 0) (ah ay ap))) (ah ay ap)))) (aj (eN 2 nd (io (ah ay (ah (bf bq ay (bf ja (bf jf (aa 1) ay) ay)) (ah (bf bq ay (bf ja (bf jf (aa 1) ay) ay)) (ah (bf ja (bf jf (aa 1) ay) ay) ap)))))) (aj (eN 3 nd (bf bq (aa 2) (io (ah (bf ja (bf jf (aa 1) ay) ay) (ah (bf ja (bf jf (aa 1) ay) ay) (ah (bf ja (aa 1) ay) ap)))))) (aj (eN 4 nd (hJ (mI T) hr.m T.dB.m T.dB.F.kp T.dB.b0 (ah (hJ (nl T) hr.m T.dQ.m T.dQ.F.kp T.dQ.b0 (ah (aa 0) (ah ay ap))) (ah ay ap)))) (aj (eN 5 nd (bf mB (bf ja (bf jf (aa 4) ay) ay) (dI (Fw rfl) GV (ah ay (ah (eB (aa 3) ay) ap)) T.E5))) (aj (eN 6 nd (qg (ah (io (ah (aX [112,105,101,99,101,115]) (ah ay ap))) (ah (io (ah (aX [112,97,114,116,115]) (ah ay ap))) (ah (io (ah (aX [112,97,114,116,115]) (ah ay ap))) (ah (io (ah (aX [112,105,101,99,101,115]) (ah ay ap))) (ah (io (ah (aX [108,101,110,103,116,104]) (ah (bf ja (bf jf (aa 4) ay) (bf bq (eB (aa 3) ay) ay)) ap))) (ah cP ap)))))))) (aj (eN 7 nd (eB (aa 6) (bf ja (bf jf (aa 4) ay) ay))) (aj (bv (AW.at (ny (aY (fO hu) (aa 5) ay) (lK (aY (fO hu) (bf ja (bf jf (aa 4) ay) ay) ay)))) (ai (eN 7 nd (io (ah (aX [114,101,115,116]) (ah ay ap))))) aO) (aj (eN 8 nd (bf ja (bf jf (aa 4) ay) (bf bq (eB (aa 3) ay) ay))) (aj (eN 9 nd (hJ (uv T) hr.m T.iY.m T.iY.F.kp T.iY.b0 (ah (aa 7) (ah (aa 3) (ah (aa 8) (ah (aa 5) (ah (dC (C:=11) (n:=2) T.j8.n T.j8.c T.mk_Tally (vO T) hr.m T.j8.m T.jo.b (ah (eB (aa 3) ay) ap)) ap))))))) (aj (eN 10 nd (hJ (uT T) hr.m T.iJ.m T.iJ.F.kp T.iJ.b0 (ah (aa 9) (ah (wJ sF (aa 0) (nP ay) (nP ay)) ap)))) (aj (bv (aY nA (aa 10) cP) (ai (ar db)) aO) (aj (sR 1000000 PassesOwn.never rfl (lh (aI (k:=50) (n:=1) (D:=[(12,am),(13,az),(14,am),(15,ak),(16,(ao 40))]) (ae T.di.n T.di.c T.h_Body_awaited (dR T) T.b4.b (ae T.aW.n T.aW.c T.h_LengthBody_awaited (fF T) T.ce.b (ae T.bj.n T.bj.c T.h_RestBody_awaited (dR T) T.b4.b (ae T.aL.n T.aL.c T.h_PiecesBody_awaited (fG T) T.cb.b (ae T.aM.n T.aM.c T.h_PartsBody_awaited (jx T) T.ba.b ax))))) hr.m (aa 9))) (iz 11 nd) (aj (bv (aY eM (da (k:=50) (n:=2) (D:=[(12,bT),(13,aS),(14,aZ),(15,au),(16,(aH 40))]) (ae T.di.n T.di.c T.h_Body_fed (oC T) T.jk.b (ae T.aW.n T.aW.c T.h_LengthBody_fed (kk T) T.d8.b (ae T.bj.n T.bj.c T.h_RestBody_fed (lu T) T.fK.b (ae T.aL.n T.aL.c T.h_PiecesBody_fed (kq T) T.eh.b (ae T.aM.n T.aM.c T.h_PartsBody_fed (mR T) T.bC.b ax))))) hr.m (aa 9) (ah (aa 11) ap)) db) (ai (ar db)) aO) (ai (eN 10 nd (bf bq (aa 10) (aa 11)))))) (aj (bv (AW.at (kC (aY eM (aI (k:=4) (n:=1) (D:=[(12,bp),(13,bD),(14,bp),(15,bF),(16,bt)]) (ae T.di.n T.di.c T.h_Body_whole (kP T) T.fE.b (ae T.aW.n T.aW.c T.h_LengthBody_whole (lg T) T.dZ.b (ae T.bj.n T.bj.c T.h_RestBody_whole (kP T) T.fE.b (ae T.aL.n T.aL.c T.h_PiecesBody_whole (lj T) T.dX.b (ae T.aM.n T.aM.c T.h_PartsBody_whole (lG T) T.eO.b ax))))) hr.m (aa 9)) db) (km (aY (mi hu) (aI (k:=50) (n:=1) (D:=[(12,am),(13,az),(14,am),(15,ak),(16,(ao 40))]) (ae T.di.n T.di.c T.h_Body_awaited (dR T) T.b4.b (ae T.aW.n T.aW.c T.h_LengthBody_awaited (fF T) T.ce.b (ae T.bj.n T.bj.c T.h_RestBody_awaited (dR T) T.b4.b (ae T.aL.n T.aL.c T.h_PiecesBody_awaited (fG T) T.cb.b (ae T.aM.n T.aM.c T.h_PartsBody_awaited (jx T) T.ba.b ax))))) hr.m (aa 9)) (aX []))))) (ai (ar db)) aO) (aj (eN 12 nd (aI (k:=2) (n:=1) (D:=[(12,dJ),(13,bM),(14,ci),(15,bL),(16,bW)]) (ae T.di.n T.di.c T.h_Body_told (qY T) T.jj.b (ae T.aW.n T.aW.c T.h_LengthBody_told (lF T) T.eI.b (ae T.bj.n T.bj.c T.h_RestBody_told (mO T) T.fR.b (ae T.aL.n T.aL.c T.h_PiecesBody_told (lL T) T.eJ.b (ae T.aM.n T.aM.c T.h_PartsBody_told (lT T) T.eX.b ax))))) hr.m (aa 9))) (aj (eN 13 nd (sI (aY nA (aa 7) cP) (aX [110,111,110,101]) (eB (aa 7) ay))) (aj (bv (AW.at (kC (jm (eC (Hy (aa 12) T.pC T.o9))) (kC (aY (mi hu) (eB (aa 12) ay) (aa 13)) (km (aY (mi hu) (hJ (su T) hr.m T.b7.m T.b7.F.kp T.b7.b0 (ah (aa 12) ap)) (aa 10)))))) (ai (ar db)) aO) (aj (bv (AW.at (ny (aY (fO hu) (aa 13) (aX [108,101,110,103,116,104])) (lK (aY (mi hu) (dI fZ q26 (ah (eB (aa 12) ay) ap) T.iO) (eB (aa 7) ay))))) (ai (ar db)) aO) (ai (ar (hJ (vy T) hr.m T.cK.m T.cK.F.kp T.cK.b0 (ah (aa 12) (ah (aa 3) (ah (aa 8) (ah (aa 5) (ah (qg (ah (eB (aa 3) ay) ap)) ap))))))))))))))))))))))))))
end
theorem Lv {K:q04} {h:Heap} {mg:Str→Option Value} {f1 f2 f3 f4 f5 f6 f7 f8 f9 JM MQ LL L1 Kz L9 M0 Kv Kr MH KW Jh Lp Ir L6 Lq Jd Lf JC KQ KK KF MT Kt J0 JB JT LU IU Jy MJ Ko Kk Lx Ld Ky MU Iu K2 JE Ms LK LW Lg Ng La Ic HZ Kn Ls LV KU IW JV Jw Mc Jf Ku Jq Mw IE J5 Iy MA Mq Kw JU MB Lb J6 M5 IY Ip LA K3 L4 IJ KN Lm Lu Kd Nz NH Nh Nr Nt Nb NB No Nx mN iD iM gU jw j5 jz ic cY ez kK lW dG fL bX cj iI mt jL:Addr} (X:K.In h) (G:h.Ns mainGlobals mg)
  {od1 an1 od2 an2 od3 an3 od4 an4 od5 an5 od6 an6 od7 an7 od8 an8 od9 an9 Y9 an10 U2 PZ Tr Rk PL N0 Qg an14 PH SV XW OR ZE WR od18 Tz UP XS V1 QQ Wg P2 Os Rq ZG an23 YC an24 od25 SJ V2 Zd YO VU Wq Xm Zr RW Oj Pj Qx Xu WN Pf od33 Vx TK Yu P7 OK od36 Qn XX XF Q1 Yp Qz X1 O9 ZO od41 X5 WB Ov WA Xg Tb OI od45 Zq Ur Vz Qo Z8 RG Wn Zt WM O4 YZ Rr T4 od52 WQ Zo Rg Zj an54 YN TD od56 N8 WZ R3 VQ an58 od59 ZI VG OL Z0 Qi YX Xt Z2 an63 Ra Zb YH Vt Sw Qq Wi Oa Ui QK Qm an69 Pg Vo VL Pr Oe Ub Rn ZT Yq Oo OS OD YU Y8 Yt QJ U1 an78 Se UC Od Ty W7 Qh R8 an82 Oc Tg Zz SI Sb WD Oz Oi OE Sm YI T9 XC Wr Sa VS YA VY SQ an92 od93 U0 od94 an94 Vb N4 RY YK Vi an97 Q6 XV QE SA yd rf:Option Addr} {sl1 Fd sl3 sl4 sl5 sl6 sl7 sl8 sl9 Sg UM sl12 Zp Pn V0 Vs VD Wb RX XM Zv QF Vq R7 VZ Vj Zh UK Sc UJ RS UX sl33 VI PV WI V9 T8 Y2 Qu T1 SL Ue W5 VF Xk Yv OT Vu Th R4 WW sl53 Yg Uu TJ Yz QP QC sl60 ZH WE UD Tv XU sl66 Qk Yf P5 WY QW QM ZL US sl75 WO PK Wa Qe sl80 NP Zk YM XY O3 NT Zs W8 SH Pd Z7 VH Uh ZR Ua Xi sl97 PD Sj yf rh:Array (Option Value)} {oc1 kV1 dc1 pm1 cd1 ct1 oc2 kV2 dc2 pm2 cd2 ct2 oc3 kV3 dc3 pm3 cd3 ct3 oc4 kV4 dc4 pm4 cd4 ct4 oc5 kV5 dc5 pm5 cd5 ct5 oc6 kV6 dc6 pm6 cd6 ct6 oc7 kV7 dc7 pm7 cd7 ct7 oc8 kV8 dc8 pm8 cd8 ct8 oc9 kV9 dc9 pm9 cd9 ct9 oc10 QN Wc Ws Mx VR XH kV11 X4 Sr Iq VO Yn SS O2 XO J3 Zl oc13 Ob ZS SN Lj ct13 YY ZF Xv Ul Ma Us NO kV15 TR Pk J8 ct15 Tn Tl NX Xj L3 Pu Ud OJ Xs Uq J9 V8 Sf Su O1 PU KL ct18 oc19 RC Qy Qd KS Vg Q3 Z9 ZA Xd LE Zi Qs ZQ VM Qa Mj ct21 OG Tp Qf ZK Jn Ou UQ R9 OX Ze JZ QO Xf QR ZM Wj LN Va XI Yy UV Zu IV RO Ru P0 Vc Q4 IF O5 Rt Vd S5 RD Ll TZ QI Sy dc28 pm28 IS ct28 QX kV29 Rm Rb KR Yh Qp SM OM VJ JD Yc QU VE Ta X6 LY Sq oc32 SU W0 Y3 L8 Rz P9 XQ VB pm33 MC WH PC Yb Xl TV LQ QA TB Wt Xh Rw Jp WV SW Vm dc36 pm36 LH We T6 Yd dc37 PM MR Wx Z4 Zy Wv Sd KY Ve Ti X0 UZ N5 JS NS YQ Sz dc40 Xz ML Sx V5 O0 OV Ug MW OY ZU W2 dc42 Rl Jl NM NZ OU dc43 Ya Kl ct43 OO YG Tt QZ LI TC Qj Y4 ZJ W3 Mn Q8 oc46 XB UB PR Kx Vr oc47 PQ PB So IT Pa SK Y1 Xq ON MN Ri Rh V4 WU Y0 IX Up To WP YW Zc LJ XZ Q2 RR WX VN Kj XE QD XN ZY ZB KC Pb TF RL RK pm53 JO RH U8 NY ZN NU JP Za oc55 RZ SX U3 MZ YB OZ O7 Py UI ID OW R5 W4 Ol TY Js SD UL RP WK Px Ke Pz Xw PJ N2 XG Mp Ss Yr YJ WL Te Mb X3 oc61 kV61 Zf ZV JI ct61 Zg Xa Vy OC J1 WF YR Po YF RB LF TH N3 ZW Vp SE MG Pc Q5 kV65 U6 Wo Iw O6 PY U5 Pp QG KZ Wp Wd kV67 Og pm67 Kg Wz Rj kV68 Tf Y7 LG Qb Xb Xr Uy P1 Mo UH XR Wy Ql W1 II Z6 Ox kV71 Tq Pq Mf RQ oc72 kV72 TN Uz M9 ct72 Qv Sn TU XT MY Ym Xx UY PN Wm KH N6 Yj kV75 Pw VP Ju QH Td RE ZP Ow M6 OA oc77 T3 UU Uw IM ct77 PF P3 XD Rf IL RF T2 UW UR OP KA N1 Um Yw Q7 Ts JY Sh oc81 PX RN WS Kh XJ UG kV82 VV YV Mi Re Om PP dc83 Tk M8 Sv UN Xp VC X2 JA Zx X9 Vh WJ Ry Ja ct85 oc86 T5 RI pm86 KT Uv Qt V3 Z1 SR IB Zm Wk SO Vw NN LR UA YT Xn Wl Xe JG ZZ Uk QT U4 pm90 Mh V7 ZD Of Wh Uf K9 YS Vl NR S7 Rc IG WG Zn RJ Tj Qw J4 Ux QY SG Yi P4 LT UO XA kV95 TQ N7 Ly OH Uc YD Vn Vf JH ct96 Y5 Vv YL Tm K0 Z5 UF XL RM pm98 Iz TM oc99 Ys U7 Xy IQ W6:Value}
  {vZ wX vY wT BN C6 xY xW vF xv wZ xz qx qe qL zI v6 BU:Tok}
  {xP rS:Nat}
  (uS:q10 K mainGlobals "Mark"=some (some (.ref mN)))
  (xT:q22 K mN Str.empty=true) (xy:q20 K mN=true) (yo:q24 K mN=true) (xm:q00 K (.ref mN) "__setattr__"=some (some (.builtin "object.__setattr__")))
  (aCExact:q10 K mainGlobals "Exact"=some (some (.ref iD)))
  (pgExact:q22 K iD Str.empty=true) (hdExact:q20 K iD=true) (poExact:q24 K iD=true) (saExact:q00 K (.ref iD) "__setattr__"=some (some (.builtin "object.__setattr__")))
  (aCRowEnd:q10 K mainGlobals "RowEnd"=some (some (.ref iM)))
  (pgRowEnd:q22 K iM Str.empty=true) (hdRowEnd:q20 K iM=true) (poRowEnd:q24 K iM=true) (saRowEnd:q00 K (.ref iM) "__setattr__"=some (some (.builtin "object.__setattr__")))
  (aCNumber:q10 K mainGlobals "Number"=some (some (.ref gU)))
  (pgNumber:q22 K gU Str.empty=true) (hdNumber:q20 K gU=true) (poNumber:q24 K gU=true) (saNumber:q00 K (.ref gU) "__setattr__"=some (some (.builtin "object.__setattr__")))
  (aCValue:q10 K mainGlobals "Value"=some (some (.ref jw)))
  (pgValue:q22 K jw Str.empty=true) (hdValue:q20 K jw=true) (poValue:q24 K jw=true) (saValue:q00 K (.ref jw) "__setattr__"=some (some (.builtin "object.__setattr__")))
  (aCName:q10 K mainGlobals "Name"=some (some (.ref j5)))
  (pgName:q22 K j5 Str.empty=true) (hdName:q20 K j5=true) (poName:q24 K j5=true) (saName:q00 K (.ref j5) "__setattr__"=some (some (.builtin "object.__setattr__")))
  (aCSigns:q10 K mainGlobals "Signs"=some (some (.ref jz)))
  (pgSigns:q22 K jz Str.empty=true) (hdSigns:q20 K jz=true) (poSigns:q24 K jz=true) (saSigns:q00 K (.ref jz) "__setattr__"=some (some (.builtin "object.__setattr__")))
  (aCClosed:q10 K mainGlobals "Closed"=some (some (.ref ic)))
  (pgClosed:q22 K ic Str.empty=true) (hdClosed:q20 K ic=true) (poClosed:q24 K ic=true) (saClosed:q00 K (.ref ic) "__setattr__"=some (some (.builtin "object.__setattr__")))
  (aCFieldRow:q10 K mainGlobals "FieldRow"=some (some (.ref cY)))
  (pgFieldRow:q22 K cY Str.empty=true) (hdFieldRow:q20 K cY=true) (poFieldRow:q24 K cY=true) (saFieldRow:q00 K (.ref cY) "__setattr__"=some (some (.builtin "object.__setattr__")))
  (aCFields:q10 K mainGlobals "Fields"=some (some (.ref ez)))
  (pgFields:q22 K ez Str.empty=true) (hdFields:q20 K ez=true) (poFields:q24 K ez=true) (saFields:q00 K (.ref ez) "__setattr__"=some (some (.builtin "object.__setattr__")))
  (aCTally:q10 K mainGlobals "Tally"=some (some (.ref kK)))
  (pgTally:q22 K kK Str.empty=true) (hdTally:q20 K kK=true) (poTally:q24 K kK=true) (saTally:q00 K (.ref kK) "__setattr__"=some (some (.builtin "object.__setattr__")))
  (aCBody:q10 K mainGlobals "Body"=some (some (.ref lW)))
  (pgBody:q22 K lW Str.empty=true) (hdBody:q20 K lW=true) (poBody:q24 K lW=true) (saBody:q00 K (.ref lW) "__setattr__"=some (some (.builtin "object.__setattr__")))
  (aCLengthBody:q10 K mainGlobals "LengthBody"=some (some (.ref dG)))
  (pgLengthBody:q22 K dG Str.empty=true) (hdLengthBody:q20 K dG=true) (poLengthBody:q24 K dG=true) (saLengthBody:q00 K (.ref dG) "__setattr__"=some (some (.builtin "object.__setattr__")))
  (aCRestBody:q10 K mainGlobals "RestBody"=some (some (.ref fL)))
  (pgRestBody:q22 K fL Str.empty=true) (hdRestBody:q20 K fL=true) (poRestBody:q24 K fL=true) (saRestBody:q00 K (.ref fL) "__setattr__"=some (some (.builtin "object.__setattr__")))
  (aCPiecesBody:q10 K mainGlobals "PiecesBody"=some (some (.ref bX)))
  (pgPiecesBody:q22 K bX Str.empty=true) (hdPiecesBody:q20 K bX=true) (poPiecesBody:q24 K bX=true) (saPiecesBody:q00 K (.ref bX) "__setattr__"=some (some (.builtin "object.__setattr__")))
  (aCPartsBody:q10 K mainGlobals "PartsBody"=some (some (.ref cj)))
  (pgPartsBody:q22 K cj Str.empty=true) (hdPartsBody:q20 K cj=true) (poPartsBody:q24 K cj=true) (saPartsBody:q00 K (.ref cj) "__setattr__"=some (some (.builtin "object.__setattr__")))
  (aCFrame:q10 K mainGlobals "Frame"=some (some (.ref iI)))
  (pgFrame:q22 K iI Str.empty=true) (hdFrame:q20 K iI=true) (poFrame:q24 K iI=true) (saFrame:q00 K (.ref iI) "__setattr__"=some (some (.builtin "object.__setattr__")))
  (a1:q10 K mainGlobals "is_small"=some (some (.ref f1)))
  (l1:K.lookup f1=some ⟨oc1,od1,.func (q05 "is_small" "is_small" (aE (top 10)) (aA (top 10)) (ad (top 10)) .none kV1 dc1 pm1 an1 cd1 ct1),sl1⟩) (c1:q03 K cd1 "is_small"=true) (k1:q01 K (.ref f1)=true)
  (a2:q10 K mainGlobals "is_plain"=some (some (.ref f2)))
  (l2:K.lookup f2=some ⟨oc2,od2,.func (q05 "is_plain" "is_plain" (aE (top 11)) (aA (top 11)) (ad (top 11)) .none kV2 dc2 pm2 an2 cd2 ct2),Fd⟩) (c2:q03 K cd2 "is_plain"=true) (k2:q01 K (.ref f2)=true)
  (a3:q00 K (.ref mN) "__init__"=some (some (.ref f3)))
  (i3:q06 K (.ref f3)=true)
  (l3:K.lookup f3=some ⟨oc3,od3,.func (q05 "__init__" "Mark.__init__" (aE (aF 14 0)) (aA (aF 14 0)) (ad (aF 14 0)) .none kV3 dc3 pm3 an3 cd3 ct3),sl3⟩) (c3:q03 K cd3 "Mark.__init__"=true) (k3:q01 K (.ref f3)=true)
  (a4:q00 K (.ref mN) "fed"=some (some (.ref f4)))
  (i4:q06 K (.ref f4)=true)
  (l4:K.lookup f4=some ⟨oc4,od4,.func (q05 "fed" "Mark.fed" (aE (aF 14 1)) (aA (aF 14 1)) (ad (aF 14 1)) .none kV4 dc4 pm4 an4 cd4 ct4),sl4⟩) (c4:q03 K cd4 "Mark.fed"=true) (k4:q01 K (.ref f4)=true)
  (a5:q00 K (.ref mN) "told"=some (some (.ref f5)))
  (i5:q06 K (.ref f5)=true)
  (l5:K.lookup f5=some ⟨oc5,od5,.func (q05 "told" "Mark.told" (aE (aF 14 3)) (aA (aF 14 3)) (ad (aF 14 3)) .none kV5 dc5 pm5 an5 cd5 ct5),sl5⟩) (c5:q03 K cd5 "Mark.told"=true) (k5:q01 K (.ref f5)=true)
  (a6:q00 K (.ref iD) "__init__"=some (some (.ref f6)))
  (i6:q06 K (.ref f6)=true)
  (l6:K.lookup f6=some ⟨oc6,od6,.func (q05 "__init__" "Exact.__init__" (aE (aF 15 0)) (aA (aF 15 0)) (ad (aF 15 0)) .none kV6 dc6 pm6 an6 cd6 ct6),sl6⟩) (c6:q03 K cd6 "Exact.__init__"=true) (k6:q01 K (.ref f6)=true)
  (a7:q00 K (.ref iD) "takes"=some (some (.ref f7)))
  (i7:q06 K (.ref f7)=true)
  (l7:K.lookup f7=some ⟨oc7,od7,.func (q05 "takes" "Exact.takes" (aE (aF 15 1)) (aA (aF 15 1)) (ad (aF 15 1)) .none kV7 dc7 pm7 an7 cd7 ct7),sl7⟩) (c7:q03 K cd7 "Exact.takes"=true) (k7:q01 K (.ref f7)=true)
  (a8:q00 K (.ref iD) "good"=some (some (.ref f8)))
  (i8:q06 K (.ref f8)=true)
  (l8:K.lookup f8=some ⟨oc8,od8,.func (q05 "good" "Exact.good" (aE (aF 15 2)) (aA (aF 15 2)) (ad (aF 15 2)) .none kV8 dc8 pm8 an8 cd8 ct8),sl8⟩) (c8:q03 K cd8 "Exact.good"=true) (k8:q01 K (.ref f8)=true)
  (a9:q00 K (.ref iD) "awaited"=some (some (.ref f9)))
  (i9:q06 K (.ref f9)=true)
  (l9:K.lookup f9=some ⟨oc9,od9,.func (q05 "awaited" "Exact.awaited" (aE (aF 15 3)) (aA (aF 15 3)) (ad (aF 15 3)) .none kV9 dc9 pm9 an9 cd9 ct9),sl9⟩) (c9:q03 K cd9 "Exact.awaited"=true) (k9:q01 K (.ref f9)=true)
  (a10:q00 K (.ref iM) "__init__"=some (some (.ref JM)))
  (i10:q06 K (.ref JM)=true)
  (l10:K.lookup JM=some ⟨oc10,Y9,.func (q05 "__init__" "RowEnd.__init__" (aE (aF 16 0)) (aA (aF 16 0)) (ad (aF 16 0)) .none QN Wc Ws an10 Mx VR),Sg⟩) (c10:q03 K Mx "RowEnd.__init__"=true) (k10:q01 K (.ref JM)=true)
  (a11:q00 K (.ref gU) "__init__"=some (some (.ref MQ)))
  (i11:q06 K (.ref MQ)=true)
  (l11:K.lookup MQ=some ⟨XH,U2,.func (q05 "__init__" "Number.__init__" (aE (aF 17 0)) (aA (aF 17 0)) (ad (aF 17 0)) .none kV11 X4 Sr PZ Iq VO),UM⟩) (c11:q03 K Iq "Number.__init__"=true) (k11:q01 K (.ref MQ)=true)
  (a12:q00 K (.ref gU) "takes"=some (some (.ref LL)))
  (i12:q06 K (.ref LL)=true)
  (l12:K.lookup LL=some ⟨Yn,Tr,.func (q05 "takes" "Number.takes" (aE (aF 17 1)) (aA (aF 17 1)) (ad (aF 17 1)) .none SS O2 XO Rk J3 Zl),sl12⟩) (c12:q03 K J3 "Number.takes"=true) (k12:q01 K (.ref LL)=true)
  (a13:q00 K (.ref gU) "good"=some (some (.ref L1)))
  (i13:q06 K (.ref L1)=true)
  (l13:K.lookup L1=some ⟨oc13,PL,.func (q05 "good" "Number.good" (aE (aF 17 2)) (aA (aF 17 2)) (ad (aF 17 2)) .none Ob ZS SN N0 Lj ct13),Zp⟩) (c13:q03 K Lj "Number.good"=true) (k13:q01 K (.ref L1)=true)
  (a14:q00 K (.ref gU) "awaited"=some (some (.ref Kz)))
  (i14:q06 K (.ref Kz)=true)
  (l14:K.lookup Kz=some ⟨YY,Qg,.func (q05 "awaited" "Number.awaited" (aE (aF 17 3)) (aA (aF 17 3)) (ad (aF 17 3)) .none ZF Xv Ul an14 Ma Us),Pn⟩) (c14:q03 K Ma "Number.awaited"=true) (k14:q01 K (.ref Kz)=true)
  (a15:q00 K (.ref gU) "told"=some (some (.ref L9)))
  (i15:q06 K (.ref L9)=true)
  (l15:K.lookup L9=some ⟨NO,PH,.func (q05 "told" "Number.told" (aE (aF 17 4)) (aA (aF 17 4)) (ad (aF 17 4)) .none kV15 TR Pk SV J8 ct15),V0⟩) (c15:q03 K J8 "Number.told"=true) (k15:q01 K (.ref L9)=true)
  (a16:q00 K (.ref jw) "__init__"=some (some (.ref M0)))
  (i16:q06 K (.ref M0)=true)
  (l16:K.lookup M0=some ⟨Tn,XW,.func (q05 "__init__" "Value.__init__" (aE (aF 18 0)) (aA (aF 18 0)) (ad (aF 18 0)) .none Tl NX Xj OR L3 Pu),Vs⟩) (c16:q03 K L3 "Value.__init__"=true) (k16:q01 K (.ref M0)=true)
  (a17:q00 K (.ref jw) "takes"=some (some (.ref Kv)))
  (i17:q06 K (.ref Kv)=true)
  (l17:K.lookup Kv=some ⟨Ud,ZE,.func (q05 "takes" "Value.takes" (aE (aF 18 1)) (aA (aF 18 1)) (ad (aF 18 1)) .none OJ Xs Uq WR J9 V8),VD⟩) (c17:q03 K J9 "Value.takes"=true) (k17:q01 K (.ref Kv)=true)
  (a18:q00 K (.ref jw) "good"=some (some (.ref Kr)))
  (i18:q06 K (.ref Kr)=true)
  (l18:K.lookup Kr=some ⟨Sf,od18,.func (q05 "good" "Value.good" (aE (aF 18 2)) (aA (aF 18 2)) (ad (aF 18 2)) .none Su O1 PU Tz KL ct18),Wb⟩) (c18:q03 K KL "Value.good"=true) (k18:q01 K (.ref Kr)=true)
  (a19:q00 K (.ref jw) "awaited"=some (some (.ref MH)))
  (i19:q06 K (.ref MH)=true)
  (l19:K.lookup MH=some ⟨oc19,UP,.func (q05 "awaited" "Value.awaited" (aE (aF 18 3)) (aA (aF 18 3)) (ad (aF 18 3)) .none RC Qy Qd XS KS Vg),RX⟩) (c19:q03 K KS "Value.awaited"=true) (k19:q01 K (.ref MH)=true)
  (a20:q00 K (.ref j5) "__init__"=some (some (.ref KW)))
  (i20:q06 K (.ref KW)=true)
  (l20:K.lookup KW=some ⟨Q3,V1,.func (q05 "__init__" "Name.__init__" (aE (aF 19 0)) (aA (aF 19 0)) (ad (aF 19 0)) .none Z9 ZA Xd QQ LE Zi),XM⟩) (c20:q03 K LE "Name.__init__"=true) (k20:q01 K (.ref KW)=true)
  (a21:q00 K (.ref j5) "takes"=some (some (.ref Jh)))
  (i21:q06 K (.ref Jh)=true)
  (l21:K.lookup Jh=some ⟨Qs,Wg,.func (q05 "takes" "Name.takes" (aE (aF 19 1)) (aA (aF 19 1)) (ad (aF 19 1)) .none ZQ VM Qa P2 Mj ct21),Zv⟩) (c21:q03 K Mj "Name.takes"=true) (k21:q01 K (.ref Jh)=true)
  (a22:q00 K (.ref j5) "can_grow_ordinary"=some (some (.ref Lp)))
  (i22:q06 K (.ref Lp)=true)
  (l22:K.lookup Lp=some ⟨OG,Os,.func (q05 "can_grow_ordinary" "Name.can_grow_ordinary" (aE (aF 19 2)) (aA (aF 19 2)) (ad (aF 19 2)) .none Tp Qf ZK Rq Jn Ou),QF⟩) (c22:q03 K Jn "Name.can_grow_ordinary"=true) (k22:q01 K (.ref Lp)=true)
  (a23:q00 K (.ref j5) "good"=some (some (.ref Ir)))
  (i23:q06 K (.ref Ir)=true)
  (l23:K.lookup Ir=some ⟨UQ,ZG,.func (q05 "good" "Name.good" (aE (aF 19 3)) (aA (aF 19 3)) (ad (aF 19 3)) .none R9 OX Ze an23 JZ QO),Vq⟩) (c23:q03 K JZ "Name.good"=true) (k23:q01 K (.ref Ir)=true)
  (a24:q00 K (.ref j5) "awaited"=some (some (.ref L6)))
  (i24:q06 K (.ref L6)=true)
  (l24:K.lookup L6=some ⟨Xf,YC,.func (q05 "awaited" "Name.awaited" (aE (aF 19 4)) (aA (aF 19 4)) (ad (aF 19 4)) .none QR ZM Wj an24 LN Va),R7⟩) (c24:q03 K LN "Name.awaited"=true) (k24:q01 K (.ref L6)=true)
  (a25:q00 K (.ref jz) "__init__"=some (some (.ref Lq)))
  (i25:q06 K (.ref Lq)=true)
  (l25:K.lookup Lq=some ⟨XI,od25,.func (q05 "__init__" "Signs.__init__" (aE (aF 20 0)) (aA (aF 20 0)) (ad (aF 20 0)) .none Yy UV Zu SJ IV RO),VZ⟩) (c25:q03 K IV "Signs.__init__"=true) (k25:q01 K (.ref Lq)=true)
  (a26:q00 K (.ref jz) "takes"=some (some (.ref Jd)))
  (i26:q06 K (.ref Jd)=true)
  (l26:K.lookup Jd=some ⟨Ru,V2,.func (q05 "takes" "Signs.takes" (aE (aF 20 1)) (aA (aF 20 1)) (ad (aF 20 1)) .none P0 Vc Q4 Zd IF O5),Vj⟩) (c26:q03 K IF "Signs.takes"=true) (k26:q01 K (.ref Jd)=true)
  (a27:q00 K (.ref jz) "good"=some (some (.ref Lf)))
  (i27:q06 K (.ref Lf)=true)
  (l27:K.lookup Lf=some ⟨Rt,YO,.func (q05 "good" "Signs.good" (aE (aF 20 2)) (aA (aF 20 2)) (ad (aF 20 2)) .none Vd S5 RD VU Ll TZ),Zh⟩) (c27:q03 K Ll "Signs.good"=true) (k27:q01 K (.ref Lf)=true)
  (a28:q00 K (.ref jz) "awaited"=some (some (.ref JC)))
  (i28:q06 K (.ref JC)=true)
  (l28:K.lookup JC=some ⟨QI,Wq,.func (q05 "awaited" "Signs.awaited" (aE (aF 20 3)) (aA (aF 20 3)) (ad (aF 20 3)) .none Sy dc28 pm28 Xm IS ct28),UK⟩) (c28:q03 K IS "Signs.awaited"=true) (k28:q01 K (.ref JC)=true)
  (a29:q00 K (.ref ic) "__init__"=some (some (.ref KQ)))
  (i29:q06 K (.ref KQ)=true)
  (l29:K.lookup KQ=some ⟨QX,Zr,.func (q05 "__init__" "Closed.__init__" (aE (aF 21 0)) (aA (aF 21 0)) (ad (aF 21 0)) .none kV29 Rm Rb RW KR Yh),Sc⟩) (c29:q03 K KR "Closed.__init__"=true) (k29:q01 K (.ref KQ)=true)
  (a30:q00 K (.ref ic) "fed"=some (some (.ref KK)))
  (i30:q06 K (.ref KK)=true)
  (l30:K.lookup KK=some ⟨Qp,Oj,.func (q05 "fed" "Closed.fed" (aE (aF 21 1)) (aA (aF 21 1)) (ad (aF 21 1)) .none SM OM VJ Pj JD Yc),UJ⟩) (c30:q03 K JD "Closed.fed"=true) (k30:q01 K (.ref KK)=true)
  (a31:q00 K (.ref ic) "good"=some (some (.ref KF)))
  (i31:q06 K (.ref KF)=true)
  (l31:K.lookup KF=some ⟨QU,Qx,.func (q05 "good" "Closed.good" (aE (aF 21 2)) (aA (aF 21 2)) (ad (aF 21 2)) .none VE Ta X6 Xu LY Sq),RS⟩) (c31:q03 K LY "Closed.good"=true) (k31:q01 K (.ref KF)=true)
  (a32:q00 K (.ref ic) "awaited"=some (some (.ref MT)))
  (i32:q06 K (.ref MT)=true)
  (l32:K.lookup MT=some ⟨oc32,WN,.func (q05 "awaited" "Closed.awaited" (aE (aF 21 3)) (aA (aF 21 3)) (ad (aF 21 3)) .none SU W0 Y3 Pf L8 Rz),UX⟩) (c32:q03 K L8 "Closed.awaited"=true) (k32:q01 K (.ref MT)=true)
  (a33:q00 K (.ref ic) "told"=some (some (.ref Kt)))
  (i33:q06 K (.ref Kt)=true)
  (l33:K.lookup Kt=some ⟨P9,od33,.func (q05 "told" "Closed.told" (aE (aF 21 4)) (aA (aF 21 4)) (ad (aF 21 4)) .none XQ VB pm33 Vx MC WH),sl33⟩) (c33:q03 K MC "Closed.told"=true) (k33:q01 K (.ref Kt)=true)
  (a34:q00 K (.ref cY) "__init__"=some (some (.ref J0)))
  (i34:q06 K (.ref J0)=true)
  (l34:K.lookup J0=some ⟨PC,TK,.func (q05 "__init__" "FieldRow.__init__" (aE (aF 23 0)) (aA (aF 23 0)) (ad (aF 23 0)) .none Yb Xl TV Yu LQ QA),VI⟩) (c34:q03 K LQ "FieldRow.__init__"=true) (k34:q01 K (.ref J0)=true)
  (a35:q00 K (.ref cY) "fed"=some (some (.ref JB)))
  (i35:q06 K (.ref JB)=true)
  (l35:K.lookup JB=some ⟨TB,P7,.func (q05 "fed" "FieldRow.fed" (aE (aF 23 1)) (aA (aF 23 1)) (ad (aF 23 1)) .none Wt Xh Rw OK Jp WV),PV⟩) (c35:q03 K Jp "FieldRow.fed"=true) (k35:q01 K (.ref JB)=true)
  (a36:q00 K (.ref cY) "name_to_come"=some (some (.ref JT)))
  (i36:q06 K (.ref JT)=true)
  (l36:K.lookup JT=some ⟨SW,od36,.func (q05 "name_to_come" "FieldRow.name_to_come" (aE (aF 23 2)) (aA (aF 23 2)) (ad (aF 23 2)) .none Vm dc36 pm36 Qn LH We),WI⟩) (c36:q03 K LH "FieldRow.name_to_come"=true) (k36:q01 K (.ref JT)=true)
  (a37:q00 K (.ref cY) "value_to_come"=some (some (.ref LU)))
  (i37:q06 K (.ref LU)=true)
  (l37:K.lookup LU=some ⟨T6,XX,.func (q05 "value_to_come" "FieldRow.value_to_come" (aE (aF 23 3)) (aA (aF 23 3)) (ad (aF 23 3)) .none Yd dc37 PM XF MR Wx),V9⟩) (c37:q03 K MR "FieldRow.value_to_come"=true) (k37:q01 K (.ref LU)=true)
  (a38:q00 K (.ref cY) "end_to_come"=some (some (.ref IU)))
  (i38:q06 K (.ref IU)=true)
  (l38:K.lookup IU=some ⟨Z4,Q1,.func (q05 "end_to_come" "FieldRow.end_to_come" (aE (aF 23 4)) (aA (aF 23 4)) (ad (aF 23 4)) .none Zy Wv Sd Yp KY Ve),T8⟩) (c38:q03 K KY "FieldRow.end_to_come"=true) (k38:q01 K (.ref IU)=true)
  (a39:q00 K (.ref cY) "good"=some (some (.ref Jy)))
  (i39:q06 K (.ref Jy)=true)
  (l39:K.lookup Jy=some ⟨Ti,Qz,.func (q05 "good" "FieldRow.good" (aE (aF 23 5)) (aA (aF 23 5)) (ad (aF 23 5)) .none X0 UZ N5 X1 JS NS),Y2⟩) (c39:q03 K JS "FieldRow.good"=true) (k39:q01 K (.ref Jy)=true)
  (a40:q00 K (.ref cY) "awaited"=some (some (.ref MJ)))
  (i40:q06 K (.ref MJ)=true)
  (l40:K.lookup MJ=some ⟨YQ,O9,.func (q05 "awaited" "FieldRow.awaited" (aE (aF 23 6)) (aA (aF 23 6)) (ad (aF 23 6)) .none Sz dc40 Xz ZO ML Sx),Qu⟩) (c40:q03 K ML "FieldRow.awaited"=true) (k40:q01 K (.ref MJ)=true)
  (a41:q00 K (.ref cY) "told"=some (some (.ref Ko)))
  (i41:q06 K (.ref Ko)=true)
  (l41:K.lookup Ko=some ⟨V5,od41,.func (q05 "told" "FieldRow.told" (aE (aF 23 7)) (aA (aF 23 7)) (ad (aF 23 7)) .none O0 OV Ug X5 MW OY),T1⟩) (c41:q03 K MW "FieldRow.told"=true) (k41:q01 K (.ref Ko)=true)
  (a42:q00 K (.ref ez) "__init__"=some (some (.ref Kk)))
  (i42:q06 K (.ref Kk)=true)
  (l42:K.lookup Kk=some ⟨ZU,WB,.func (q05 "__init__" "Fields.__init__" (aE (aF 24 0)) (aA (aF 24 0)) (ad (aF 24 0)) .none W2 dc42 Rl Ov Jl NM),SL⟩) (c42:q03 K Jl "Fields.__init__"=true) (k42:q01 K (.ref Kk)=true)
  (a43:q00 K (.ref ez) "fed"=some (some (.ref Lx)))
  (i43:q06 K (.ref Lx)=true)
  (l43:K.lookup Lx=some ⟨NZ,WA,.func (q05 "fed" "Fields.fed" (aE (aF 24 1)) (aA (aF 24 1)) (ad (aF 24 1)) .none OU dc43 Ya Xg Kl ct43),Ue⟩) (c43:q03 K Kl "Fields.fed"=true) (k43:q01 K (.ref Lx)=true)
  (a44:q00 K (.ref ez) "fed_row"=some (some (.ref Ld)))
  (i44:q06 K (.ref Ld)=true)
  (l44:K.lookup Ld=some ⟨OO,Tb,.func (q05 "fed_row" "Fields.fed_row" (aE (aF 24 2)) (aA (aF 24 2)) (ad (aF 24 2)) .none YG Tt QZ OI LI TC),W5⟩) (c44:q03 K LI "Fields.fed_row"=true) (k44:q01 K (.ref Ld)=true)
  (a45:q00 K (.ref ez) "keep_row"=some (some (.ref Ky)))
  (i45:q06 K (.ref Ky)=true)
  (l45:K.lookup Ky=some ⟨Qj,od45,.func (q05 "keep_row" "Fields.keep_row" (aE (aF 24 3)) (aA (aF 24 3)) (ad (aF 24 3)) .none Y4 ZJ W3 Zq Mn Q8),VF⟩) (c45:q03 K Mn "Fields.keep_row"=true) (k45:q01 K (.ref Ky)=true)
  (a46:q00 K (.ref ez) "whole"=some (some (.ref MU)))
  (i46:q06 K (.ref MU)=true)
  (l46:K.lookup MU=some ⟨oc46,Ur,.func (q05 "whole" "Fields.whole" (aE (aF 24 4)) (aA (aF 24 4)) (ad (aF 24 4)) .none XB UB PR Vz Kx Vr),Xk⟩) (c46:q03 K Kx "Fields.whole"=true) (k46:q01 K (.ref MU)=true)
  (a47:q00 K (.ref ez) "awaited"=some (some (.ref Iu)))
  (i47:q06 K (.ref Iu)=true)
  (l47:K.lookup Iu=some ⟨oc47,Qo,.func (q05 "awaited" "Fields.awaited" (aE (aF 24 5)) (aA (aF 24 5)) (ad (aF 24 5)) .none PQ PB So Z8 IT Pa),Yv⟩) (c47:q03 K IT "Fields.awaited"=true) (k47:q01 K (.ref Iu)=true)
  (a48:q00 K (.ref ez) "told"=some (some (.ref K2)))
  (i48:q06 K (.ref K2)=true)
  (l48:K.lookup K2=some ⟨SK,RG,.func (q05 "told" "Fields.told" (aE (aF 24 6)) (aA (aF 24 6)) (ad (aF 24 6)) .none Y1 Xq ON Wn MN Ri),OT⟩) (c48:q03 K MN "Fields.told"=true) (k48:q01 K (.ref K2)=true)
  (a49:q00 K (.ref ez) "end_to_come"=some (some (.ref JE)))
  (i49:q06 K (.ref JE)=true)
  (l49:K.lookup JE=some ⟨Rh,Zt,.func (q05 "end_to_come" "Fields.end_to_come" (aE (aF 24 8)) (aA (aF 24 8)) (ad (aF 24 8)) .none V4 WU Y0 WM IX Up),Vu⟩) (c49:q03 K IX "Fields.end_to_come"=true) (k49:q01 K (.ref JE)=true)
  (a50:q00 K (.ref ez) "room_left"=some (some (.ref Ms)))
  (i50:q06 K (.ref Ms)=true)
  (l50:K.lookup Ms=some ⟨To,O4,.func (q05 "room_left" "Fields.room_left" (aE (aF 24 9)) (aA (aF 24 9)) (ad (aF 24 9)) .none WP YW Zc YZ LJ XZ),Th⟩) (c50:q03 K LJ "Fields.room_left"=true) (k50:q01 K (.ref Ms)=true)
  (a51:q00 K (.ref kK) "__init__"=some (some (.ref LK)))
  (i51:q06 K (.ref LK)=true)
  (l51:K.lookup LK=some ⟨Q2,Rr,.func (q05 "__init__" "Tally.__init__" (aE (aF 30 0)) (aA (aF 30 0)) (ad (aF 30 0)) .none RR WX VN T4 Kj XE),R4⟩) (c51:q03 K Kj "Tally.__init__"=true) (k51:q01 K (.ref LK)=true)
  (a52:q00 K (.ref kK) "has_room"=some (some (.ref LW)))
  (i52:q06 K (.ref LW)=true)
  (l52:K.lookup LW=some ⟨QD,od52,.func (q05 "has_room" "Tally.has_room" (aE (aF 30 1)) (aA (aF 30 1)) (ad (aF 30 1)) .none XN ZY ZB WQ KC Pb),WW⟩) (c52:q03 K KC "Tally.has_room"=true) (k52:q01 K (.ref LW)=true)
  (a53:q00 K (.ref kK) "take_one"=some (some (.ref Lg)))
  (i53:q06 K (.ref Lg)=true)
  (l53:K.lookup Lg=some ⟨TF,Zo,.func (q05 "take_one" "Tally.take_one" (aE (aF 30 2)) (aA (aF 30 2)) (ad (aF 30 2)) .none RL RK pm53 Rg JO RH),sl53⟩) (c53:q03 K JO "Tally.take_one"=true) (k53:q01 K (.ref Lg)=true)
  (a54:q10 K mainGlobals "body_of"=some (some (.ref Ng)))
  (l54:K.lookup Ng=some ⟨U8,Zj,.func (q05 "body_of" "body_of" (aE (top 31)) (aA (top 31)) (ad (top 31)) .none NY ZN NU an54 JP Za),Yg⟩) (c54:q03 K JP "body_of"=true) (k54:q01 K (.ref Ng)=true)
  (a55:q00 K (.ref lW) "fed"=some (some (.ref La)))
  (i55:q06 K (.ref La)=true)
  (l55:K.lookup La=some ⟨oc55,YN,.func (q05 "fed" "Body.fed" (aE (aF 32 0)) (aA (aF 32 0)) (ad (aF 32 0)) .none RZ SX U3 TD MZ YB),Uu⟩) (c55:q03 K MZ "Body.fed"=true) (k55:q01 K (.ref La)=true)
  (a56:q00 K (.ref lW) "whole"=some (some (.ref Ic)))
  (i56:q06 K (.ref Ic)=true)
  (l56:K.lookup Ic=some ⟨OZ,od56,.func (q05 "whole" "Body.whole" (aE (aF 32 1)) (aA (aF 32 1)) (ad (aF 32 1)) .none O7 Py UI N8 ID OW),TJ⟩) (c56:q03 K ID "Body.whole"=true) (k56:q01 K (.ref Ic)=true)
  (a57:q00 K (.ref lW) "awaited"=some (some (.ref HZ)))
  (i57:q06 K (.ref HZ)=true)
  (l57:K.lookup HZ=some ⟨R5,WZ,.func (q05 "awaited" "Body.awaited" (aE (aF 32 3)) (aA (aF 32 3)) (ad (aF 32 3)) .none W4 Ol TY R3 Js SD),Yz⟩) (c57:q03 K Js "Body.awaited"=true) (k57:q01 K (.ref HZ)=true)
  (a58:q00 K (.ref lW) "told"=some (some (.ref Kn)))
  (i58:q06 K (.ref Kn)=true)
  (l58:K.lookup Kn=some ⟨UL,VQ,.func (q05 "told" "Body.told" (aE (aF 32 4)) (aA (aF 32 4)) (ad (aF 32 4)) .none RP WK Px an58 Ke Pz),QP⟩) (c58:q03 K Ke "Body.told"=true) (k58:q01 K (.ref Kn)=true)
  (a59:q00 K (.ref dG) "__init__"=some (some (.ref Ls)))
  (i59:q06 K (.ref Ls)=true)
  (l59:K.lookup Ls=some ⟨Xw,od59,.func (q05 "__init__" "LengthBody.__init__" (aE (aF 33 0)) (aA (aF 33 0)) (ad (aF 33 0)) .none PJ N2 XG ZI Mp Ss),QC⟩) (c59:q03 K Mp "LengthBody.__init__"=true) (k59:q01 K (.ref Ls)=true)
  (a60:q00 K (.ref dG) "fed"=some (some (.ref LV)))
  (i60:q06 K (.ref LV)=true)
  (l60:K.lookup LV=some ⟨Yr,VG,.func (q05 "fed" "LengthBody.fed" (aE (aF 33 1)) (aA (aF 33 1)) (ad (aF 33 1)) .none YJ WL Te OL Mb X3),sl60⟩) (c60:q03 K Mb "LengthBody.fed"=true) (k60:q01 K (.ref LV)=true)
  (a61:q00 K (.ref dG) "whole"=some (some (.ref KU)))
  (i61:q06 K (.ref KU)=true)
  (l61:K.lookup KU=some ⟨oc61,Z0,.func (q05 "whole" "LengthBody.whole" (aE (aF 33 2)) (aA (aF 33 2)) (ad (aF 33 2)) .none kV61 Zf ZV Qi JI ct61),ZH⟩) (c61:q03 K JI "LengthBody.whole"=true) (k61:q01 K (.ref KU)=true)
  (a62:q00 K (.ref dG) "awaited"=some (some (.ref IW)))
  (i62:q06 K (.ref IW)=true)
  (l62:K.lookup IW=some ⟨Zg,YX,.func (q05 "awaited" "LengthBody.awaited" (aE (aF 33 3)) (aA (aF 33 3)) (ad (aF 33 3)) .none Xa Vy OC Xt J1 WF),WE⟩) (c62:q03 K J1 "LengthBody.awaited"=true) (k62:q01 K (.ref IW)=true)
  (a63:q00 K (.ref dG) "told"=some (some (.ref JV)))
  (i63:q06 K (.ref JV)=true)
  (l63:K.lookup JV=some ⟨YR,Z2,.func (q05 "told" "LengthBody.told" (aE (aF 33 4)) (aA (aF 33 4)) (ad (aF 33 4)) .none Po YF RB an63 LF TH),UD⟩) (c63:q03 K LF "LengthBody.told"=true) (k63:q01 K (.ref JV)=true)
  (a64:q00 K (.ref fL) "__init__"=some (some (.ref Jw)))
  (i64:q06 K (.ref Jw)=true)
  (l64:K.lookup Jw=some ⟨N3,Ra,.func (q05 "__init__" "RestBody.__init__" (aE (aF 34 0)) (aA (aF 34 0)) (ad (aF 34 0)) .none ZW Vp SE Zb MG Pc),Tv⟩) (c64:q03 K MG "RestBody.__init__"=true) (k64:q01 K (.ref Jw)=true)
  (a65:q00 K (.ref fL) "fed"=some (some (.ref Mc)))
  (i65:q06 K (.ref Mc)=true)
  (l65:K.lookup Mc=some ⟨Q5,YH,.func (q05 "fed" "RestBody.fed" (aE (aF 34 1)) (aA (aF 34 1)) (ad (aF 34 1)) .none kV65 U6 Wo Vt Iw O6),XU⟩) (c65:q03 K Iw "RestBody.fed"=true) (k65:q01 K (.ref Mc)=true)
  (a66:q00 K (.ref fL) "told"=some (some (.ref Jf)))
  (i66:q06 K (.ref Jf)=true)
  (l66:K.lookup Jf=some ⟨PY,Sw,.func (q05 "told" "RestBody.told" (aE (aF 34 3)) (aA (aF 34 3)) (ad (aF 34 3)) .none U5 Pp QG Qq KZ Wp),sl66⟩) (c66:q03 K KZ "RestBody.told"=true) (k66:q01 K (.ref Jf)=true)
  (a67:q00 K (.ref bX) "__init__"=some (some (.ref Ku)))
  (i67:q06 K (.ref Ku)=true)
  (l67:K.lookup Ku=some ⟨Wd,Wi,.func (q05 "__init__" "PiecesBody.__init__" (aE (aF 35 0)) (aA (aF 35 0)) (ad (aF 35 0)) .none kV67 Og pm67 Oa Kg Wz),Qk⟩) (c67:q03 K Kg "PiecesBody.__init__"=true) (k67:q01 K (.ref Ku)=true)
  (a68:q00 K (.ref bX) "new_size"=some (some (.ref Jq)))
  (i68:q06 K (.ref Jq)=true)
  (l68:K.lookup Jq=some ⟨Rj,Ui,.func (q05 "new_size" "PiecesBody.new_size" (aE (aF 35 1)) (aA (aF 35 1)) (ad (aF 35 1)) .none kV68 Tf Y7 QK LG Qb),Yf⟩) (c68:q03 K LG "PiecesBody.new_size"=true) (k68:q01 K (.ref Jq)=true)
  (a69:q00 K (.ref bX) "fed"=some (some (.ref Mw)))
  (i69:q06 K (.ref Mw)=true)
  (l69:K.lookup Mw=some ⟨Xb,Qm,.func (q05 "fed" "PiecesBody.fed" (aE (aF 35 2)) (aA (aF 35 2)) (ad (aF 35 2)) .none Xr Uy P1 an69 Mo UH),P5⟩) (c69:q03 K Mo "PiecesBody.fed"=true) (k69:q01 K (.ref Mw)=true)
  (a70:q00 K (.ref bX) "fed_size"=some (some (.ref IE)))
  (i70:q06 K (.ref IE)=true)
  (l70:K.lookup IE=some ⟨XR,Pg,.func (q05 "fed_size" "PiecesBody.fed_size" (aE (aF 35 3)) (aA (aF 35 3)) (ad (aF 35 3)) .none Wy Ql W1 Vo II Z6),WY⟩) (c70:q03 K II "PiecesBody.fed_size"=true) (k70:q01 K (.ref IE)=true)
  (a71:q00 K (.ref bX) "fed_piece"=some (some (.ref J5)))
  (i71:q06 K (.ref J5)=true)
  (l71:K.lookup J5=some ⟨Ox,VL,.func (q05 "fed_piece" "PiecesBody.fed_piece" (aE (aF 35 4)) (aA (aF 35 4)) (ad (aF 35 4)) .none kV71 Tq Pq Pr Mf RQ),QW⟩) (c71:q03 K Mf "PiecesBody.fed_piece"=true) (k71:q01 K (.ref J5)=true)
  (a72:q00 K (.ref bX) "keep_piece"=some (some (.ref Iy)))
  (i72:q06 K (.ref Iy)=true)
  (l72:K.lookup Iy=some ⟨oc72,Oe,.func (q05 "keep_piece" "PiecesBody.keep_piece" (aE (aF 35 5)) (aA (aF 35 5)) (ad (aF 35 5)) .none kV72 TN Uz Ub M9 ct72),QM⟩) (c72:q03 K M9 "PiecesBody.keep_piece"=true) (k72:q01 K (.ref Iy)=true)
  (a73:q00 K (.ref bX) "whole"=some (some (.ref MA)))
  (i73:q06 K (.ref MA)=true)
  (l73:K.lookup MA=some ⟨Qv,Rn,.func (q05 "whole" "PiecesBody.whole" (aE (aF 35 6)) (aA (aF 35 6)) (ad (aF 35 6)) .none Sn TU XT ZT MY Ym),ZL⟩) (c73:q03 K MY "PiecesBody.whole"=true) (k73:q01 K (.ref MA)=true)
  (a74:q00 K (.ref bX) "awaited"=some (some (.ref Mq)))
  (i74:q06 K (.ref Mq)=true)
  (l74:K.lookup Mq=some ⟨Xx,Yq,.func (q05 "awaited" "PiecesBody.awaited" (aE (aF 35 7)) (aA (aF 35 7)) (ad (aF 35 7)) .none UY PN Wm Oo KH N6),US⟩) (c74:q03 K KH "PiecesBody.awaited"=true) (k74:q01 K (.ref Mq)=true)
  (a75:q00 K (.ref bX) "told"=some (some (.ref Kw)))
  (i75:q06 K (.ref Kw)=true)
  (l75:K.lookup Kw=some ⟨Yj,OS,.func (q05 "told" "PiecesBody.told" (aE (aF 35 8)) (aA (aF 35 8)) (ad (aF 35 8)) .none kV75 Pw VP OD Ju QH),sl75⟩) (c75:q03 K Ju "PiecesBody.told"=true) (k75:q01 K (.ref Kw)=true)
  (a76:q00 K (.ref cj) "__init__"=some (some (.ref JU)))
  (i76:q06 K (.ref JU)=true)
  (l76:K.lookup JU=some ⟨Td,YU,.func (q05 "__init__" "PartsBody.__init__" (aE (aF 36 0)) (aA (aF 36 0)) (ad (aF 36 0)) .none RE ZP Ow Y8 M6 OA),WO⟩) (c76:q03 K M6 "PartsBody.__init__"=true) (k76:q01 K (.ref JU)=true)
  (a77:q00 K (.ref cj) "fed"=some (some (.ref MB)))
  (i77:q06 K (.ref MB)=true)
  (l77:K.lookup MB=some ⟨oc77,Yt,.func (q05 "fed" "PartsBody.fed" (aE (aF 36 1)) (aA (aF 36 1)) (ad (aF 36 1)) .none T3 UU Uw QJ IM ct77),PK⟩) (c77:q03 K IM "PartsBody.fed"=true) (k77:q01 K (.ref MB)=true)
  (a78:q00 K (.ref cj) "begin_row"=some (some (.ref Lb)))
  (i78:q06 K (.ref Lb)=true)
  (l78:K.lookup Lb=some ⟨PF,U1,.func (q05 "begin_row" "PartsBody.begin_row" (aE (aF 36 2)) (aA (aF 36 2)) (ad (aF 36 2)) .none P3 XD Rf an78 IL RF),Wa⟩) (c78:q03 K IL "PartsBody.begin_row"=true) (k78:q01 K (.ref Lb)=true)
  (a79:q00 K (.ref cj) "has_room"=some (some (.ref J6)))
  (i79:q06 K (.ref J6)=true)
  (l79:K.lookup J6=some ⟨T2,Se,.func (q05 "has_room" "PartsBody.has_room" (aE (aF 36 3)) (aA (aF 36 3)) (ad (aF 36 3)) .none UW UR OP UC KA N1),Qe⟩) (c79:q03 K KA "PartsBody.has_room"=true) (k79:q01 K (.ref J6)=true)
  (a80:q00 K (.ref cj) "new_part"=some (some (.ref M5)))
  (i80:q06 K (.ref M5)=true)
  (l80:K.lookup M5=some ⟨Um,Od,.func (q05 "new_part" "PartsBody.new_part" (aE (aF 36 4)) (aA (aF 36 4)) (ad (aF 36 4)) .none Yw Q7 Ts Ty JY Sh),sl80⟩) (c80:q03 K JY "PartsBody.new_part"=true) (k80:q01 K (.ref M5)=true)
  (a81:q00 K (.ref cj) "fed_part"=some (some (.ref IY)))
  (i81:q06 K (.ref IY)=true)
  (l81:K.lookup IY=some ⟨oc81,W7,.func (q05 "fed_part" "PartsBody.fed_part" (aE (aF 36 5)) (aA (aF 36 5)) (ad (aF 36 5)) .none PX RN WS Qh Kh XJ),NP⟩) (c81:q03 K Kh "PartsBody.fed_part"=true) (k81:q01 K (.ref IY)=true)
  (a82:q00 K (.ref cj) "whole"=some (some (.ref Ip)))
  (i82:q06 K (.ref Ip)=true)
  (l82:K.lookup Ip=some ⟨UG,R8,.func (q05 "whole" "PartsBody.whole" (aE (aF 36 6)) (aA (aF 36 6)) (ad (aF 36 6)) .none kV82 VV YV an82 Mi Re),Zk⟩) (c82:q03 K Mi "PartsBody.whole"=true) (k82:q01 K (.ref Ip)=true)
  (a83:q00 K (.ref cj) "awaited"=some (some (.ref LA)))
  (i83:q06 K (.ref LA)=true)
  (l83:K.lookup LA=some ⟨Om,Oc,.func (q05 "awaited" "PartsBody.awaited" (aE (aF 36 7)) (aA (aF 36 7)) (ad (aF 36 7)) .none PP dc83 Tk Tg M8 Sv),YM⟩) (c83:q03 K M8 "PartsBody.awaited"=true) (k83:q01 K (.ref LA)=true)
  (a84:q00 K (.ref cj) "told"=some (some (.ref K3)))
  (i84:q06 K (.ref K3)=true)
  (l84:K.lookup K3=some ⟨UN,Zz,.func (q05 "told" "PartsBody.told" (aE (aF 36 8)) (aA (aF 36 8)) (ad (aF 36 8)) .none Xp VC X2 SI JA Zx),XY⟩) (c84:q03 K JA "PartsBody.told"=true) (k84:q01 K (.ref K3)=true)
  (a85:q00 K (.ref iI) "__init__"=some (some (.ref L4)))
  (i85:q06 K (.ref L4)=true)
  (l85:K.lookup L4=some ⟨X9,Sb,.func (q05 "__init__" "Frame.__init__" (aE (aF 37 0)) (aA (aF 37 0)) (ad (aF 37 0)) .none Vh WJ Ry WD Ja ct85),O3⟩) (c85:q03 K Ja "Frame.__init__"=true) (k85:q01 K (.ref L4)=true)
  (a86:q00 K (.ref iI) "fed"=some (some (.ref IJ)))
  (i86:q06 K (.ref IJ)=true)
  (l86:K.lookup IJ=some ⟨oc86,Oz,.func (q05 "fed" "Frame.fed" (aE (aF 37 1)) (aA (aF 37 1)) (ad (aF 37 1)) .none T5 RI pm86 Oi KT Uv),NT⟩) (c86:q03 K KT "Frame.fed"=true) (k86:q01 K (.ref IJ)=true)
  (a87:q00 K (.ref iI) "body_to_come"=some (some (.ref KN)))
  (i87:q06 K (.ref KN)=true)
  (l87:K.lookup KN=some ⟨Qt,OE,.func (q05 "body_to_come" "Frame.body_to_come" (aE (aF 37 2)) (aA (aF 37 2)) (ad (aF 37 2)) .none V3 Z1 SR Sm IB Zm),Zs⟩) (c87:q03 K IB "Frame.body_to_come"=true) (k87:q01 K (.ref KN)=true)
  (a88:q00 K (.ref iI) "whole"=some (some (.ref Lm)))
  (i88:q06 K (.ref Lm)=true)
  (l88:K.lookup Lm=some ⟨Wk,YI,.func (q05 "whole" "Frame.whole" (aE (aF 37 3)) (aA (aF 37 3)) (ad (aF 37 3)) .none SO Vw NN T9 LR UA),W8⟩) (c88:q03 K LR "Frame.whole"=true) (k88:q01 K (.ref Lm)=true)
  (a89:q00 K (.ref iI) "awaited"=some (some (.ref Lu)))
  (i89:q06 K (.ref Lu)=true)
  (l89:K.lookup Lu=some ⟨YT,XC,.func (q05 "awaited" "Frame.awaited" (aE (aF 37 5)) (aA (aF 37 5)) (ad (aF 37 5)) .none Xn Wl Xe Wr JG ZZ),SH⟩) (c89:q03 K JG "Frame.awaited"=true) (k89:q01 K (.ref Lu)=true)
  (a90:q00 K (.ref iI) "told"=some (some (.ref Kd)))
  (i90:q06 K (.ref Kd)=true)
  (l90:K.lookup Kd=some ⟨Uk,Sa,.func (q05 "told" "Frame.told" (aE (aF 37 6)) (aA (aF 37 6)) (ad (aF 37 6)) .none QT U4 pm90 VS Mh V7),Pd⟩) (c90:q03 K Mh "Frame.told"=true) (k90:q01 K (.ref Kd)=true)
  (a91:q10 K mainGlobals "_law_mixed"=some (some (.ref Nz)))
  (l91:K.lookup Nz=some ⟨ZD,YA,.func (q05 "_law_mixed" "_law_mixed" (aE (top 39)) (aA (top 39)) (ad (top 39)) .none Of Wh Uf VY K9 YS),Z7⟩) (c91:q03 K K9 "_law_mixed"=true) (k91:q01 K (.ref Nz)=true)
  (a92:q10 K mainGlobals "_law_cell_at"=some (some (.ref NH)))
  (l92:K.lookup NH=some ⟨Vl,SQ,.func (q05 "_law_cell_at" "_law_cell_at" (aE (top 40)) (aA (top 40)) (ad (top 40)) .none NR S7 Rc an92 IG WG),VH⟩) (c92:q03 K IG "_law_cell_at"=true) (k92:q01 K (.ref NH)=true)
  (a93:q10 K mainGlobals "_law_hex"=some (some (.ref Nh)))
  (l93:K.lookup Nh=some ⟨Zn,od93,.func (q05 "_law_hex" "_law_hex" (aE (top 41)) (aA (top 41)) (ad (top 41)) .none RJ Tj Qw U0 J4 Ux),Uh⟩) (c93:q03 K J4 "_law_hex"=true) (k93:q01 K (.ref Nh)=true)
  (a94:q10 K mainGlobals "_law_rows"=some (some (.ref Nr)))
  (l94:K.lookup Nr=some ⟨QY,od94,.func (q05 "_law_rows" "_law_rows" (aE (top 42)) (aA (top 42)) (ad (top 42)) .none SG Yi P4 an94 LT UO),ZR⟩) (c94:q03 K LT "_law_rows"=true) (k94:q01 K (.ref Nr)=true)
  (a95:q10 K mainGlobals "_law_writing"=some (some (.ref Nt)))
  (l95:K.lookup Nt=some ⟨XA,Vb,.func (q05 "_law_writing" "_law_writing" (aE (top 43)) (aA (top 43)) (ad (top 43)) .none kV95 TQ N7 N4 Ly OH),Ua⟩) (c95:q03 K Ly "_law_writing"=true) (k95:q01 K (.ref Nt)=true)
  (a96:q10 K mainGlobals "_law_good_fields"=some (some (.ref Nb)))
  (l96:K.lookup Nb=some ⟨Uc,RY,.func (q05 "_law_good_fields" "_law_good_fields" (aE (top 44)) (aA (top 44)) (ad (top 44)) .none YD Vn Vf YK JH ct96),Xi⟩) (c96:q03 K JH "_law_good_fields"=true) (k96:q01 K (.ref Nb)=true)
  (a97:q10 K mainGlobals "_law_keeps"=some (some (.ref NB)))
  (l97:K.lookup NB=some ⟨Y5,Vi,.func (q05 "_law_keeps" "_law_keeps" (aE (top 45)) (aA (top 45)) (ad (top 45)) .none Vv YL Tm an97 K0 Z5),sl97⟩) (c97:q03 K K0 "_law_keeps"=true) (k97:q01 K (.ref NB)=true)
  (a98:q10 K mainGlobals "_law_signs"=some (some (.ref No)))
  (l98:K.lookup No=some ⟨UF,Q6,.func (q05 "_law_signs" "_law_signs" (aE (top 46)) (aA (top 46)) (ad (top 46)) .none XL RM pm98 XV Iz TM),PD⟩) (c98:q03 K Iz "_law_signs"=true) (k98:q01 K (.ref No)=true)
  (a99:q10 K mainGlobals "law"=some (some (.ref Nx)))
  (l99:K.lookup Nx=some ⟨oc99,QE,.func (q05 "law" "law" (aE (top 47)) (aA (top 47)) (ad (top 47)) .none Ys U7 Xy SA IQ W6),Sj⟩) (c99:q03 K IQ "law"=true) (k99:q01 K (.ref Nx)=true)
  (eExact_fed:q00 K (.ref iD) "fed"=some (some (.ref f4)))
  (eExact_told:q00 K (.ref iD) "told"=some (some (.ref f5)))
  (eName_fed:q00 K (.ref j5) "fed"=some (some (.ref f4)))
  (eName_told:q00 K (.ref j5) "told"=some (some (.ref f5)))
  (eNumber_fed:q00 K (.ref gU) "fed"=some (some (.ref f4)))
  (eRestBody_awaited:q00 K (.ref fL) "awaited"=some (some (.ref HZ)))
  (eRestBody_whole:q00 K (.ref fL) "whole"=some (some (.ref Ic)))
  (eRowEnd_awaited:q00 K (.ref iM) "awaited"=some (some (.ref f9)))
  (eRowEnd_fed:q00 K (.ref iM) "fed"=some (some (.ref f4)))
  (eRowEnd_good:q00 K (.ref iM) "good"=some (some (.ref f8)))
  (eRowEnd_takes:q00 K (.ref iM) "takes"=some (some (.ref f7)))
  (eSigns_fed:q00 K (.ref jz) "fed"=some (some (.ref f4)))
  (eSigns_told:q00 K (.ref jz) "told"=some (some (.ref f5)))
  (eValue_fed:q00 K (.ref jw) "fed"=some (some (.ref f4)))
  (eValue_told:q00 K (.ref jw) "told"=some (some (.ref f5)))
  (bgExact_init:q64 K (.ref iD) "__getattribute__"=some (some (.builtin "type.__getattribute__"))) (brExact_init:PySem.W.readsIn K iD (.type "type")=true) (bfExact_init:PySem.W.findCls K (.ref iD) (.type "type") "__init__"=some (.val (.ref f6)))
  (bgMark_init:q64 K (.ref mN) "__getattribute__"=some (some (.builtin "type.__getattribute__"))) (brMark_init:PySem.W.readsIn K mN (.type "type")=true) (bfMark_init:PySem.W.findCls K (.ref mN) (.type "type") "__init__"=some (.val (.ref f3)))
  (mmClosed:q25 K ic=true) (kcClosed:q01 K (.ref ic)=true)
  (mmExact:q25 K iD=true) (kcExact:q01 K (.ref iD)=true)
  (mmFieldRow:q25 K cY=true) (kcFieldRow:q01 K (.ref cY)=true)
  (mmFields:q25 K ez=true) (kcFields:q01 K (.ref ez)=true)
  (mmFrame:q25 K iI=true) (kcFrame:q01 K (.ref iI)=true)
  (mmLengthBody:q25 K dG=true) (kcLengthBody:q01 K (.ref dG)=true)
  (mmName:q25 K j5=true) (kcName:q01 K (.ref j5)=true)
  (mmNumber:q25 K gU=true) (kcNumber:q01 K (.ref gU)=true)
  (mmPartsBody:q25 K cj=true) (kcPartsBody:q01 K (.ref cj)=true)
  (mmPiecesBody:q25 K bX=true) (kcPiecesBody:q01 K (.ref bX)=true)
  (mmRestBody:q25 K fL=true) (kcRestBody:q01 K (.ref fL)=true)
  (mmRowEnd:q25 K iM=true) (kcRowEnd:q01 K (.ref iM)=true)
  (mmSigns:q25 K jz=true) (kcSigns:q01 K (.ref jz)=true)
  (mmTally:q25 K kK=true) (kcTally:q01 K (.ref kK)=true)
  (mmValue:q25 K jw=true) (kcValue:q01 K (.ref jw)=true)
  (mmBody:q25 K lW=true) (miBody:q00 K (.ref lW) "__init__"=some (some (.builtin "object.__init__"))) (kcBody:q01 K (.ref lW)=true)
  (nNumber_base:q00 K (.ref gU) "base"=some none)
  (nFrame_body:q00 K (.ref iI) "body"=some none)
  (nFieldRow_book:q00 K (.ref cY) "book"=some none)
  (nFields_book:q00 K (.ref ez) "book"=some none)
  (nFrame_book:q00 K (.ref iI) "book"=some none)
  (nPartsBody_book:q00 K (.ref cj) "book"=some none)
  (nClosed_closing:q00 K (.ref ic) "closing"=some none)
  (nFrame_deep:q00 K (.ref iI) "deep"=some none)
  (nPartsBody_deep:q00 K (.ref cj) "deep"=some none)
  (nFields_empty_row:q00 K (.ref ez) "empty_row"=some none)
  (nFields_end:q00 K (.ref ez) "end"=some none)
  (nFieldRow_ends:q00 K (.ref cY) "ends"=some none)
  (nFields_ends:q00 K (.ref ez) "ends"=some none)
  (nName_ends:q00 K (.ref j5) "ends"=some none)
  (nFrame_fields:q00 K (.ref iI) "fields"=some none)
  (nRowEnd_goal:q00 K (.ref iM) "goal"=some none)
  (nExact_goal:q00 K (.ref iD) "goal"=some none)
  (nFieldRow_head:q00 K (.ref cY) "head"=some none)
  (nClosed_is_closing:q00 K (.ref ic) "is_closing"=some none)
  (nPiecesBody_left:q00 K (.ref bX) "left"=some none)
  (nTally_left:q00 K (.ref kK) "left"=some none)
  (nClosed_mark:q00 K (.ref ic) "mark"=some none)
  (nName_most:q00 K (.ref j5) "most"=some none)
  (nNumber_most:q00 K (.ref gU) "most"=some none)
  (nValue_most:q00 K (.ref jw) "most"=some none)
  (nFieldRow_name:q00 K (.ref cY) "name"=some none)
  (nSigns_number:q00 K (.ref jz) "number"=some none)
  (nFields_pairs:q00 K (.ref ez) "pairs"=some none)
  (nPartsBody_part:q00 K (.ref cj) "part"=some none)
  (nPartsBody_parts:q00 K (.ref cj) "parts"=some none)
  (nPiecesBody_piece:q00 K (.ref bX) "piece"=some none)
  (nFields_room:q00 K (.ref ez) "room"=some none)
  (nName_room:q00 K (.ref j5) "room"=some none)
  (nFields_row:q00 K (.ref ez) "row"=some none)
  (nPartsBody_row:q00 K (.ref cj) "row"=some none)
  (nLengthBody_signs:q00 K (.ref dG) "signs"=some none)
  (nRestBody_signs:q00 K (.ref fL) "signs"=some none)
  (nPiecesBody_size:q00 K (.ref bX) "size"=some none)
  (nFrame_tally:q00 K (.ref iI) "tally"=some none)
  (nPartsBody_tally:q00 K (.ref cj) "tally"=some none)
  (nSigns_text:q00 K (.ref jz) "text"=some none)
  (nName_text:q00 K (.ref j5) "text"=some none)
  (nValue_text:q00 K (.ref jw) "text"=some none)
  (nNumber_text:q00 K (.ref gU) "text"=some none)
  (nRowEnd_text:q00 K (.ref iM) "text"=some none)
  (nExact_text:q00 K (.ref iD) "text"=some none)
  (nPiecesBody_texts:q00 K (.ref bX) "texts"=some none)
  (nPiecesBody_trail:q00 K (.ref bX) "trail"=some none)
  (nFieldRow_value:q00 K (.ref cY) "value"=some none)
  (gEND_NAMES:q10 K mainGlobals "END_NAMES"=some (some (.ref mt))) (hEND_NAMES:K.lookup mt=some ⟨.type "tuple",yd,.seq #[.str "length" vZ,.str "pieces" wX,.str "parts" vY,.str "rest" wT] xP,yf⟩)
  (gFIGURES:q10 K mainGlobals "FIGURES"=some (some (.str "0123456789abcdef" BN)))
  (gFILLER:q10 K mainGlobals "FILLER"=some (some (.str "a" C6)))
  (gMOST_BODY:q10 K mainGlobals "MOST_BODY"=some (some (.int 4 xY)))
  (gMOST_DEEP:q10 K mainGlobals "MOST_DEEP"=some (some (.int 6 xW)))
  (gMOST_FIELDS:q10 K mainGlobals "MOST_FIELDS"=some (some (.int 3 vF)))
  (gMOST_NAME:q10 K mainGlobals "MOST_NAME"=some (some (.int 1 xv)))
  (gMOST_VALUE:q10 K mainGlobals "MOST_VALUE"=some (some (.int 2 wZ)))
  (gPARTS_END:q10 K mainGlobals "PARTS_END"=some (some (.str "-;\n" xz)))
  (gPART_END_NAMES:q10 K mainGlobals "PART_END_NAMES"=some (some (.ref jL))) (hPART_END_NAMES:K.lookup jL=some ⟨.type "tuple",rf,.seq #[.str "length" qx,.str "pieces" qe,.str "parts" qL] rS,rh⟩)
  (gPART_ROW:q10 K mainGlobals "PART_ROW"=some (some (.str "+;\n" zI)))
  (gPIECES_END:q10 K mainGlobals "PIECES_END"=some (some (.str "0;\n;\n" v6)))
  (gROW_END:q10 K mainGlobals "ROW_END"=some (some (.str ";\n" BU)))
  (zany:q10 K mainGlobals "any"=some none)
  (zisinstance:q10 K mainGlobals "isinstance"=some none)
  (zlen:q10 K mainGlobals "len"=some none)
  (zmin:q10 K mainGlobals "min"=some none)
  (zstr:q10 K mainGlobals "str"=some none)
  (ztuple:q10 K mainGlobals "tuple"=some none):Nonempty (TX K mg):=⟨{
 oz:=⟨mN,uS,q14 X G uS,⟨xT,xy,yo,xm⟩⟩
 be:=⟨iD,aCExact,q14 X G aCExact,⟨pgExact,hdExact,poExact,saExact⟩⟩
 eL:=⟨iM,aCRowEnd,q14 X G aCRowEnd,⟨pgRowEnd,hdRowEnd,poRowEnd,saRowEnd⟩⟩
 cQ:=⟨gU,aCNumber,q14 X G aCNumber,⟨pgNumber,hdNumber,poNumber,saNumber⟩⟩
 eV:=⟨jw,aCValue,q14 X G aCValue,⟨pgValue,hdValue,poValue,saValue⟩⟩
 dh:=⟨j5,aCName,q14 X G aCName,⟨pgName,hdName,poName,saName⟩⟩
 bQ:=⟨jz,aCSigns,q14 X G aCSigns,⟨pgSigns,hdSigns,poSigns,saSigns⟩⟩
 aP:=⟨ic,aCClosed,q14 X G aCClosed,⟨pgClosed,hdClosed,poClosed,saClosed⟩⟩
 aT:=⟨cY,aCFieldRow,q14 X G aCFieldRow,⟨pgFieldRow,hdFieldRow,poFieldRow,saFieldRow⟩⟩
 br:=⟨ez,aCFields,q14 X G aCFields,⟨pgFields,hdFields,poFields,saFields⟩⟩
 j8:=⟨kK,aCTally,q14 X G aCTally,⟨pgTally,hdTally,poTally,saTally⟩⟩
 di:=⟨lW,aCBody,q14 X G aCBody,⟨pgBody,hdBody,poBody,saBody⟩⟩
 aW:=⟨dG,aCLengthBody,q14 X G aCLengthBody,⟨pgLengthBody,hdLengthBody,poLengthBody,saLengthBody⟩⟩
 bj:=⟨fL,aCRestBody,q14 X G aCRestBody,⟨pgRestBody,hdRestBody,poRestBody,saRestBody⟩⟩
 aL:=⟨bX,aCPiecesBody,q14 X G aCPiecesBody,⟨pgPiecesBody,hdPiecesBody,poPiecesBody,saPiecesBody⟩⟩
 aM:=⟨cj,aCPartsBody,q14 X G aCPartsBody,⟨pgPartsBody,hdPartsBody,poPartsBody,saPartsBody⟩⟩
 eA:=⟨iI,aCFrame,q14 X G aCFrame,⟨pgFrame,hdFrame,poFrame,saFrame⟩⟩
 jS:=⟨f1,_,_,aq l1 c1 k1,fun _=>rfl,q14 X G a1,rO ((aq (st:=(top 10)) l1 c1 k1).binds (ps:=["sign"]) fun _ _ _ _ _ _=>eT fun _=>rfl)⟩
 g9:=⟨f2,_,_,aq l2 c2 k2,fun _=>rfl,q14 X G a2,rO ((aq (st:=(top 11)) l2 c2 k2).binds (ps:=["sign"]) fun _ _ _ _ _ _=>eT fun _=>rfl)⟩
 gp:=⟨f3,_,aq l3 c3 k3,(aq (st:=(aF 14 0)) l3 c3 k3).binds (ps:=["self"]) fun _ _ _ _ _ _=>eT fun _=>rfl⟩
 ck:=⟨f4,_,aq l4 c4 k4,(aq (st:=(aF 14 1)) l4 c4 k4).binds (ps:=["self","sign"]) fun _ _ _ _ _ _=>jV fun _ _=>rfl⟩
 cu:=⟨f5,_,aq l5 c5 k5,(aq (st:=(aF 14 3)) l5 c5 k5).binds (ps:=["self"]) fun _ _ _ _ _ _=>eT fun _=>rfl⟩
 eG:=⟨f6,_,aq l6 c6 k6,(aq (st:=(aF 15 0)) l6 c6 k6).binds (ps:=["self","text"]) fun _ _ _ _ _ _=>jV fun _ _=>rfl⟩
 gk:=⟨f7,_,aq l7 c7 k7,(aq (st:=(aF 15 1)) l7 c7 k7).binds (ps:=["self","sign"]) fun _ _ _ _ _ _=>jV fun _ _=>rfl⟩
 fD:=⟨f8,_,aq l8 c8 k8,(aq (st:=(aF 15 2)) l8 c8 k8).binds (ps:=["self"]) fun _ _ _ _ _ _=>eT fun _=>rfl⟩
 cL:=⟨f9,_,aq l9 c9 k9,(aq (st:=(aF 15 3)) l9 c9 k9).binds (ps:=["self"]) fun _ _ _ _ _ _=>eT fun _=>rfl⟩
 iV:=⟨JM,_,aq l10 c10 k10,(aq (st:=(aF 16 0)) l10 c10 k10).binds (ps:=["self"]) fun _ _ _ _ _ _=>eT fun _=>rfl⟩
 hV:=⟨MQ,_,aq l11 c11 k11,(aq (st:=(aF 17 0)) l11 c11 k11).binds (ps:=["self","base","most"]) fun _ _ _ _ _ _=>Dt fun _ _ _=>rfl⟩
 ig:=⟨LL,_,aq l12 c12 k12,(aq (st:=(aF 17 1)) l12 c12 k12).binds (ps:=["self","sign"]) fun _ _ _ _ _ _=>jV fun _ _=>rfl⟩
 g5:=⟨L1,_,aq l13 c13 k13,(aq (st:=(aF 17 2)) l13 c13 k13).binds (ps:=["self"]) fun _ _ _ _ _ _=>eT fun _=>rfl⟩
 gq:=⟨Kz,_,aq l14 c14 k14,(aq (st:=(aF 17 3)) l14 c14 k14).binds (ps:=["self"]) fun _ _ _ _ _ _=>eT fun _=>rfl⟩
 g7:=⟨L9,_,aq l15 c15 k15,(aq (st:=(aF 17 4)) l15 c15 k15).binds (ps:=["self"]) fun _ _ _ _ _ _=>eT fun _=>rfl⟩
 jt:=⟨M0,_,aq l16 c16 k16,(aq (st:=(aF 18 0)) l16 c16 k16).binds (ps:=["self","most"]) fun _ _ _ _ _ _=>jV fun _ _=>rfl⟩
 iU:=⟨Kv,_,aq l17 c17 k17,(aq (st:=(aF 18 1)) l17 c17 k17).binds (ps:=["self","sign"]) fun _ _ _ _ _ _=>jV fun _ _=>rfl⟩
 iE:=⟨Kr,_,aq l18 c18 k18,(aq (st:=(aF 18 2)) l18 c18 k18).binds (ps:=["self"]) fun _ _ _ _ _ _=>eT fun _=>rfl⟩
 gP:=⟨MH,_,aq l19 c19 k19,(aq (st:=(aF 18 3)) l19 c19 k19).binds (ps:=["self"]) fun _ _ _ _ _ _=>eT fun _=>rfl⟩
 jZ:=⟨KW,_,aq l20 c20 k20,(aq (st:=(aF 19 0)) l20 c20 k20).binds (ps:=["self","most","room","ends"]) fun _ _ _ _ _ _=>Bg fun _ _ _ _=>rfl⟩
 js:=⟨Jh,_,aq l21 c21 k21,(aq (st:=(aF 19 1)) l21 c21 k21).binds (ps:=["self","sign"]) fun _ _ _ _ _ _=>jV fun _ _=>rfl⟩
 cc:=⟨Lp,_,aq l22 c22 k22,(aq (st:=(aF 19 2)) l22 c22 k22).binds (ps:=["self","text"]) fun _ _ _ _ _ _=>jV fun _ _=>rfl⟩
 jl:=⟨Ir,_,aq l23 c23 k23,(aq (st:=(aF 19 3)) l23 c23 k23).binds (ps:=["self"]) fun _ _ _ _ _ _=>eT fun _=>rfl⟩
 gC:=⟨L6,_,aq l24 c24 k24,(aq (st:=(aF 19 4)) l24 c24 k24).binds (ps:=["self"]) fun _ _ _ _ _ _=>eT fun _=>rfl⟩
 gf:=⟨Lq,_,aq l25 c25 k25,(aq (st:=(aF 20 0)) l25 c25 k25).binds (ps:=["self","number"]) fun _ _ _ _ _ _=>jV fun _ _=>rfl⟩
 iR:=⟨Jd,_,aq l26 c26 k26,(aq (st:=(aF 20 1)) l26 c26 k26).binds (ps:=["self","sign"]) fun _ _ _ _ _ _=>jV fun _ _=>rfl⟩
 iC:=⟨Lf,_,aq l27 c27 k27,(aq (st:=(aF 20 2)) l27 c27 k27).binds (ps:=["self"]) fun _ _ _ _ _ _=>eT fun _=>rfl⟩
 eR:=⟨JC,_,aq l28 c28 k28,(aq (st:=(aF 20 3)) l28 c28 k28).binds (ps:=["self"]) fun _ _ _ _ _ _=>eT fun _=>rfl⟩
 dP:=⟨KQ,_,aq l29 c29 k29,(aq (st:=(aF 21 0)) l29 c29 k29).binds (ps:=["self","mark","text"]) fun _ _ _ _ _ _=>Dt fun _ _ _=>rfl⟩
 gi:=⟨KK,_,aq l30 c30 k30,(aq (st:=(aF 21 1)) l30 c30 k30).binds (ps:=["self","sign"]) fun _ _ _ _ _ _=>jV fun _ _=>rfl⟩
 eD:=⟨KF,_,aq l31 c31 k31,(aq (st:=(aF 21 2)) l31 c31 k31).binds (ps:=["self"]) fun _ _ _ _ _ _=>eT fun _=>rfl⟩
 cO:=⟨MT,_,aq l32 c32 k32,(aq (st:=(aF 21 3)) l32 c32 k32).binds (ps:=["self"]) fun _ _ _ _ _ _=>eT fun _=>rfl⟩
 dS:=⟨Kt,_,aq l33 c33 k33,(aq (st:=(aF 21 4)) l33 c33 k33).binds (ps:=["self"]) fun _ _ _ _ _ _=>eT fun _=>rfl⟩
 gR:=⟨J0,_,aq l34 c34 k34,(aq (st:=(aF 23 0)) l34 c34 k34).binds (ps:=["self","book","room","ends"]) fun _ _ _ _ _ _=>Bg fun _ _ _ _=>rfl⟩
 fI:=⟨JB,_,aq l35 c35 k35,(aq (st:=(aF 23 1)) l35 c35 k35).binds (ps:=["self","sign"]) fun _ _ _ _ _ _=>jV fun _ _=>rfl⟩
 cN:=⟨JT,_,aq l36 c36 k36,(aq (st:=(aF 23 2)) l36 c36 k36).binds (ps:=["self"]) fun _ _ _ _ _ _=>eT fun _=>rfl⟩
 cG:=⟨LU,_,aq l37 c37 k37,(aq (st:=(aF 23 3)) l37 c37 k37).binds (ps:=["self"]) fun _ _ _ _ _ _=>eT fun _=>rfl⟩
 cU:=⟨IU,_,aq l38 c38 k38,(aq (st:=(aF 23 4)) l38 c38 k38).binds (ps:=["self"]) fun _ _ _ _ _ _=>eT fun _=>rfl⟩
 gO:=⟨Jy,_,aq l39 c39 k39,(aq (st:=(aF 23 5)) l39 c39 k39).binds (ps:=["self"]) fun _ _ _ _ _ _=>eT fun _=>rfl⟩
 dl:=⟨MJ,_,aq l40 c40 k40,(aq (st:=(aF 23 6)) l40 c40 k40).binds (ps:=["self"]) fun _ _ _ _ _ _=>eT fun _=>rfl⟩
 dU:=⟨Ko,_,aq l41 c41 k41,(aq (st:=(aF 23 7)) l41 c41 k41).binds (ps:=["self"]) fun _ _ _ _ _ _=>eT fun _=>rfl⟩
 g4:=⟨Kk,_,aq l42 c42 k42,(aq (st:=(aF 24 0)) l42 c42 k42).binds (ps:=["self","book","room","ends"]) fun _ _ _ _ _ _=>Bg fun _ _ _ _=>rfl⟩
 iF:=⟨Lx,_,aq l43 c43 k43,(aq (st:=(aF 24 1)) l43 c43 k43).binds (ps:=["self","sign"]) fun _ _ _ _ _ _=>jV fun _ _=>rfl⟩
 gr:=⟨Ld,_,aq l44 c44 k44,(aq (st:=(aF 24 2)) l44 c44 k44).binds (ps:=["self","sign"]) fun _ _ _ _ _ _=>jV fun _ _=>rfl⟩
 fN:=⟨Ky,_,aq l45 c45 k45,(aq (st:=(aF 24 3)) l45 c45 k45).binds (ps:=["self"]) fun _ _ _ _ _ _=>eT fun _=>rfl⟩
 gE:=⟨MU,_,aq l46 c46 k46,(aq (st:=(aF 24 4)) l46 c46 k46).binds (ps:=["self"]) fun _ _ _ _ _ _=>eT fun _=>rfl⟩
 eZ:=⟨Iu,_,aq l47 c47 k47,(aq (st:=(aF 24 5)) l47 c47 k47).binds (ps:=["self"]) fun _ _ _ _ _ _=>eT fun _=>rfl⟩
 g6:=⟨K2,_,aq l48 c48 k48,(aq (st:=(aF 24 6)) l48 c48 k48).binds (ps:=["self"]) fun _ _ _ _ _ _=>eT fun _=>rfl⟩
 ee:=⟨JE,_,aq l49 c49 k49,(aq (st:=(aF 24 8)) l49 c49 k49).binds (ps:=["self"]) fun _ _ _ _ _ _=>eT fun _=>rfl⟩
 dY:=⟨Ms,_,aq l50 c50 k50,(aq (st:=(aF 24 9)) l50 c50 k50).binds (ps:=["self"]) fun _ _ _ _ _ _=>eT fun _=>rfl⟩
 jo:=⟨LK,_,aq l51 c51 k51,(aq (st:=(aF 30 0)) l51 c51 k51).binds (ps:=["self","parts"]) fun _ _ _ _ _ _=>jV fun _ _=>rfl⟩
 gw:=⟨LW,_,aq l52 c52 k52,(aq (st:=(aF 30 1)) l52 c52 k52).binds (ps:=["self"]) fun _ _ _ _ _ _=>eT fun _=>rfl⟩
 gx:=⟨Lg,_,aq l53 c53 k53,(aq (st:=(aF 30 2)) l53 c53 k53).binds (ps:=["self"]) fun _ _ _ _ _ _=>eT fun _=>rfl⟩
 iY:=⟨Ng,_,_,aq l54 c54 k54,fun _=>rfl,q14 X G a54,rO ((aq (st:=(top 31)) l54 c54 k54).binds (ps:=["end","book","room","deep","tally"]) fun _ _ _ _ _ _=>K6 fun _ _ _ _ _=>rfl)⟩
 jk:=⟨La,_,aq l55 c55 k55,(aq (st:=(aF 32 0)) l55 c55 k55).binds (ps:=["self","sign"]) fun _ _ _ _ _ _=>jV fun _ _=>rfl⟩
 fE:=⟨Ic,_,aq l56 c56 k56,(aq (st:=(aF 32 1)) l56 c56 k56).binds (ps:=["self"]) fun _ _ _ _ _ _=>eT fun _=>rfl⟩
 b4:=⟨HZ,_,aq l57 c57 k57,(aq (st:=(aF 32 3)) l57 c57 k57).binds (ps:=["self"]) fun _ _ _ _ _ _=>eT fun _=>rfl⟩
 jj:=⟨Kn,_,aq l58 c58 k58,(aq (st:=(aF 32 4)) l58 c58 k58).binds (ps:=["self"]) fun _ _ _ _ _ _=>eT fun _=>rfl⟩
 fM:=⟨Ls,_,aq l59 c59 k59,(aq (st:=(aF 33 0)) l59 c59 k59).binds (ps:=["self","number"]) fun _ _ _ _ _ _=>jV fun _ _=>rfl⟩
 d8:=⟨LV,_,aq l60 c60 k60,(aq (st:=(aF 33 1)) l60 c60 k60).binds (ps:=["self","sign"]) fun _ _ _ _ _ _=>jV fun _ _=>rfl⟩
 dZ:=⟨KU,_,aq l61 c61 k61,(aq (st:=(aF 33 2)) l61 c61 k61).binds (ps:=["self"]) fun _ _ _ _ _ _=>eT fun _=>rfl⟩
 ce:=⟨IW,_,aq l62 c62 k62,(aq (st:=(aF 33 3)) l62 c62 k62).binds (ps:=["self"]) fun _ _ _ _ _ _=>eT fun _=>rfl⟩
 eI:=⟨JV,_,aq l63 c63 k63,(aq (st:=(aF 33 4)) l63 c63 k63).binds (ps:=["self"]) fun _ _ _ _ _ _=>eT fun _=>rfl⟩
 gM:=⟨Jw,_,aq l64 c64 k64,(aq (st:=(aF 34 0)) l64 c64 k64).binds (ps:=["self","most"]) fun _ _ _ _ _ _=>jV fun _ _=>rfl⟩
 fK:=⟨Mc,_,aq l65 c65 k65,(aq (st:=(aF 34 1)) l65 c65 k65).binds (ps:=["self","sign"]) fun _ _ _ _ _ _=>jV fun _ _=>rfl⟩
 fR:=⟨Jf,_,aq l66 c66 k66,(aq (st:=(aF 34 3)) l66 c66 k66).binds (ps:=["self"]) fun _ _ _ _ _ _=>eT fun _=>rfl⟩
 fP:=⟨Ku,_,aq l67 c67 k67,(aq (st:=(aF 35 0)) l67 c67 k67).binds (ps:=["self","book","room"]) fun _ _ _ _ _ _=>Dt fun _ _ _=>rfl⟩
 cZ:=⟨Jq,_,aq l68 c68 k68,(aq (st:=(aF 35 1)) l68 c68 k68).binds (ps:=["self"]) fun _ _ _ _ _ _=>eT fun _=>rfl⟩
 eh:=⟨Mw,_,aq l69 c69 k69,(aq (st:=(aF 35 2)) l69 c69 k69).binds (ps:=["self","sign"]) fun _ _ _ _ _ _=>jV fun _ _=>rfl⟩
 dM:=⟨IE,_,aq l70 c70 k70,(aq (st:=(aF 35 3)) l70 c70 k70).binds (ps:=["self","sign"]) fun _ _ _ _ _ _=>jV fun _ _=>rfl⟩
 dz:=⟨J5,_,aq l71 c71 k71,(aq (st:=(aF 35 4)) l71 c71 k71).binds (ps:=["self","sign"]) fun _ _ _ _ _ _=>jV fun _ _=>rfl⟩
 dc:=⟨Iy,_,aq l72 c72 k72,(aq (st:=(aF 35 5)) l72 c72 k72).binds (ps:=["self","text"]) fun _ _ _ _ _ _=>jV fun _ _=>rfl⟩
 dX:=⟨MA,_,aq l73 c73 k73,(aq (st:=(aF 35 6)) l73 c73 k73).binds (ps:=["self"]) fun _ _ _ _ _ _=>eT fun _=>rfl⟩
 cb:=⟨Mq,_,aq l74 c74 k74,(aq (st:=(aF 35 7)) l74 c74 k74).binds (ps:=["self"]) fun _ _ _ _ _ _=>eT fun _=>rfl⟩
 eJ:=⟨Kw,_,aq l75 c75 k75,(aq (st:=(aF 35 8)) l75 c75 k75).binds (ps:=["self"]) fun _ _ _ _ _ _=>eT fun _=>rfl⟩
 gv:=⟨JU,_,aq l76 c76 k76,(aq (st:=(aF 36 0)) l76 c76 k76).binds (ps:=["self","book","deep","tally"]) fun _ _ _ _ _ _=>Bg fun _ _ _ _=>rfl⟩
 bC:=⟨MB,_,aq l77 c77 k77,(aq (st:=(aF 36 1)) l77 c77 k77).binds (ps:=["self","sign"]) fun _ _ _ _ _ _=>jV fun _ _=>rfl⟩
 dN:=⟨Lb,_,aq l78 c78 k78,(aq (st:=(aF 36 2)) l78 c78 k78).binds (ps:=["self","sign"]) fun _ _ _ _ _ _=>jV fun _ _=>rfl⟩
 d9:=⟨J6,_,aq l79 c79 k79,(aq (st:=(aF 36 3)) l79 c79 k79).binds (ps:=["self"]) fun _ _ _ _ _ _=>eT fun _=>rfl⟩
 dr:=⟨M5,_,aq l80 c80 k80,(aq (st:=(aF 36 4)) l80 c80 k80).binds (ps:=["self"]) fun _ _ _ _ _ _=>eT fun _=>rfl⟩
 bn:=⟨IY,_,aq l81 c81 k81,(aq (st:=(aF 36 5)) l81 c81 k81).binds (ps:=["self","sign"]) fun _ _ _ _ _ _=>jV fun _ _=>rfl⟩
 eO:=⟨Ip,_,aq l82 c82 k82,(aq (st:=(aF 36 6)) l82 c82 k82).binds (ps:=["self"]) fun _ _ _ _ _ _=>eT fun _=>rfl⟩
 ba:=⟨LA,_,aq l83 c83 k83,(aq (st:=(aF 36 7)) l83 c83 k83).binds (ps:=["self"]) fun _ _ _ _ _ _=>eT fun _=>rfl⟩
 eX:=⟨K3,_,aq l84 c84 k84,(aq (st:=(aF 36 8)) l84 c84 k84).binds (ps:=["self"]) fun _ _ _ _ _ _=>eT fun _=>rfl⟩
 ju:=⟨L4,_,aq l85 c85 k85,(aq (st:=(aF 37 0)) l85 c85 k85).binds (ps:=["self","book","deep","tally"]) fun _ _ _ _ _ _=>Bg fun _ _ _ _=>rfl⟩
 dL:=⟨IJ,_,aq l86 c86 k86,(aq (st:=(aF 37 1)) l86 c86 k86).binds (ps:=["self","sign"]) fun _ _ _ _ _ _=>jV fun _ _=>rfl⟩
 dj:=⟨KN,_,aq l87 c87 k87,(aq (st:=(aF 37 2)) l87 c87 k87).binds (ps:=["self"]) fun _ _ _ _ _ _=>eT fun _=>rfl⟩
 iW:=⟨Lm,_,aq l88 c88 k88,(aq (st:=(aF 37 3)) l88 c88 k88).binds (ps:=["self"]) fun _ _ _ _ _ _=>eT fun _=>rfl⟩
 cw:=⟨Lu,_,aq l89 c89 k89,(aq (st:=(aF 37 5)) l89 c89 k89).binds (ps:=["self"]) fun _ _ _ _ _ _=>eT fun _=>rfl⟩
 jn:=⟨Kd,_,aq l90 c90 k90,(aq (st:=(aF 37 6)) l90 c90 k90).binds (ps:=["self"]) fun _ _ _ _ _ _=>eT fun _=>rfl⟩
 dB:=⟨Nz,_,_,aq l91 c91 k91,fun _=>rfl,q14 X G a91,rO ((aq (st:=(top 39)) l91 c91 k91).binds (ps:=["_law_cell","_law_k"]) fun _ _ _ _ _ _=>jV fun _ _=>rfl)⟩
 dQ:=⟨NH,_,_,aq l92 c92 k92,fun _=>rfl,q14 X G a92,rO ((aq (st:=(top 40)) l92 c92 k92).binds (ps:=["_law_script","_law_k"]) fun _ _ _ _ _ _=>jV fun _ _=>rfl)⟩
 dF:=⟨Nh,_,_,aq l93 c93 k93,fun _=>rfl,q14 X G a93,rO ((aq (st:=(top 41)) l93 c93 k93).binds (ps:=["_law_number"]) fun _ _ _ _ _ _=>eT fun _=>rfl)⟩
 gm:=⟨Nr,_,_,aq l94 c94 k94,fun _=>rfl,q14 X G a94,rO ((aq (st:=(top 42)) l94 c94 k94).binds (ps:=["_law_fields"]) fun _ _ _ _ _ _=>eT fun _=>rfl)⟩
 b7:=⟨Nt,_,_,aq l95 c95 k95,fun _=>rfl,q14 X G a95,rO ((aq (st:=(top 43)) l95 c95 k95).binds (ps:=["_law_body"]) fun _ _ _ _ _ _=>eT fun _=>rfl)⟩
 cH:=⟨Nb,_,_,aq l96 c96 k96,fun _=>rfl,q14 X G a96,rO ((aq (st:=(top 44)) l96 c96 k96).binds (ps:=["_law_fields","_law_book","_law_room"]) fun _ _ _ _ _ _=>Dt fun _ _ _=>rfl)⟩
 cK:=⟨NB,_,_,aq l97 c97 k97,fun _=>rfl,q14 X G a97,rO ((aq (st:=(top 45)) l97 c97 k97).binds (ps:=["_law_body","_law_book","_law_room","_law_deep","_law_left"]) fun _ _ _ _ _ _=>K6 fun _ _ _ _ _=>rfl)⟩
 iJ:=⟨No,_,_,aq l98 c98 k98,fun _=>rfl,q14 X G a98,rO ((aq (st:=(top 46)) l98 c98 k98).binds (ps:=["_law_machine","_law_cells"]) fun _ _ _ _ _ _=>jV fun _ _=>rfl)⟩
 ol:=⟨Nx,_,_,aq l99 c99 k99,fun _=>rfl,q14 X G a99,rO ((aq (st:=(top 47)) l99 c99 k99).binds (ps:=["_law_script"]) fun _ _ _ _ _ _=>eT fun _=>rfl)⟩
 h_Body_awaited:=⟨a57,i57,k57⟩
 h_Body_fed:=⟨a55,i55,k55⟩
 h_Body_told:=⟨a58,i58,k58⟩
 h_Body_whole:=⟨a56,i56,k56⟩
 h_Closed_awaited:=⟨a32,i32,k32⟩
 h_Closed_fed:=⟨a30,i30,k30⟩
 h_Closed_good:=⟨a31,i31,k31⟩
 h_Closed_told:=⟨a33,i33,k33⟩
 h_Exact_awaited:=⟨a9,i9,k9⟩
 h_Exact_fed:=⟨eExact_fed,i4,k4⟩
 h_Exact_good:=⟨a8,i8,k8⟩
 h_Exact_takes:=⟨a7,i7,k7⟩
 h_Exact_told:=⟨eExact_told,i5,k5⟩
 h_FieldRow_awaited:=⟨a40,i40,k40⟩
 h_FieldRow_end_to_come:=⟨a38,i38,k38⟩
 h_FieldRow_fed:=⟨a35,i35,k35⟩
 h_FieldRow_good:=⟨a39,i39,k39⟩
 h_FieldRow_name_to_come:=⟨a36,i36,k36⟩
 h_FieldRow_told:=⟨a41,i41,k41⟩
 h_FieldRow_value_to_come:=⟨a37,i37,k37⟩
 h_Fields_awaited:=⟨a47,i47,k47⟩
 h_Fields_end_to_come:=⟨a49,i49,k49⟩
 h_Fields_fed:=⟨a43,i43,k43⟩
 h_Fields_fed_row:=⟨a44,i44,k44⟩
 h_Fields_keep_row:=⟨a45,i45,k45⟩
 h_Fields_room_left:=⟨a50,i50,k50⟩
 h_Fields_told:=⟨a48,i48,k48⟩
 h_Fields_whole:=⟨a46,i46,k46⟩
 h_Frame_awaited:=⟨a89,i89,k89⟩
 h_Frame_body_to_come:=⟨a87,i87,k87⟩
 h_Frame_fed:=⟨a86,i86,k86⟩
 h_Frame_told:=⟨a90,i90,k90⟩
 h_Frame_whole:=⟨a88,i88,k88⟩
 h_LengthBody_awaited:=⟨a62,i62,k62⟩
 h_LengthBody_fed:=⟨a60,i60,k60⟩
 h_LengthBody_told:=⟨a63,i63,k63⟩
 h_LengthBody_whole:=⟨a61,i61,k61⟩
 h_Name_awaited:=⟨a24,i24,k24⟩
 h_Name_can_grow_ordinary:=⟨a22,i22,k22⟩
 h_Name_fed:=⟨eName_fed,i4,k4⟩
 h_Name_good:=⟨a23,i23,k23⟩
 h_Name_takes:=⟨a21,i21,k21⟩
 h_Name_told:=⟨eName_told,i5,k5⟩
 h_Number_awaited:=⟨a14,i14,k14⟩
 h_Number_fed:=⟨eNumber_fed,i4,k4⟩
 h_Number_good:=⟨a13,i13,k13⟩
 h_Number_takes:=⟨a12,i12,k12⟩
 h_Number_told:=⟨a15,i15,k15⟩
 h_PartsBody_awaited:=⟨a83,i83,k83⟩
 h_PartsBody_begin_row:=⟨a78,i78,k78⟩
 h_PartsBody_fed:=⟨a77,i77,k77⟩
 h_PartsBody_fed_part:=⟨a81,i81,k81⟩
 h_PartsBody_has_room:=⟨a79,i79,k79⟩
 h_PartsBody_new_part:=⟨a80,i80,k80⟩
 h_PartsBody_told:=⟨a84,i84,k84⟩
 h_PartsBody_whole:=⟨a82,i82,k82⟩
 h_PiecesBody_awaited:=⟨a74,i74,k74⟩
 h_PiecesBody_fed:=⟨a69,i69,k69⟩
 h_PiecesBody_fed_piece:=⟨a71,i71,k71⟩
 h_PiecesBody_fed_size:=⟨a70,i70,k70⟩
 h_PiecesBody_keep_piece:=⟨a72,i72,k72⟩
 h_PiecesBody_new_size:=⟨a68,i68,k68⟩
 h_PiecesBody_told:=⟨a75,i75,k75⟩
 h_PiecesBody_whole:=⟨a73,i73,k73⟩
 h_RestBody_awaited:=⟨eRestBody_awaited,i57,k57⟩
 h_RestBody_fed:=⟨a65,i65,k65⟩
 h_RestBody_told:=⟨a66,i66,k66⟩
 h_RestBody_whole:=⟨eRestBody_whole,i56,k56⟩
 h_RowEnd_awaited:=⟨eRowEnd_awaited,i9,k9⟩
 h_RowEnd_fed:=⟨eRowEnd_fed,i4,k4⟩
 h_RowEnd_good:=⟨eRowEnd_good,i8,k8⟩
 h_RowEnd_takes:=⟨eRowEnd_takes,i7,k7⟩
 h_Signs_awaited:=⟨a28,i28,k28⟩
 h_Signs_fed:=⟨eSigns_fed,i4,k4⟩
 h_Signs_good:=⟨a27,i27,k27⟩
 h_Signs_takes:=⟨a26,i26,k26⟩
 h_Signs_told:=⟨eSigns_told,i5,k5⟩
 h_Tally_has_room:=⟨a52,i52,k52⟩
 h_Tally_take_one:=⟨a53,i53,k53⟩
 h_Value_awaited:=⟨a19,i19,k19⟩
 h_Value_fed:=⟨eValue_fed,i4,k4⟩
 h_Value_good:=⟨a18,i18,k18⟩
 h_Value_takes:=⟨a17,i17,k17⟩
 h_Value_told:=⟨eValue_told,i5,k5⟩
 b_Exact_init:=⟨bgExact_init,brExact_init,bfExact_init,k6⟩
 b_Mark_init:=⟨bgMark_init,brMark_init,bfMark_init,k3⟩
 mk_Closed:=⟨mmClosed,a29,i29,kcClosed⟩
 mk_Exact:=⟨mmExact,a6,i6,kcExact⟩
 mk_FieldRow:=⟨mmFieldRow,a34,i34,kcFieldRow⟩
 mk_Fields:=⟨mmFields,a42,i42,kcFields⟩
 mk_Frame:=⟨mmFrame,a85,i85,kcFrame⟩
 mk_LengthBody:=⟨mmLengthBody,a59,i59,kcLengthBody⟩
 mk_Name:=⟨mmName,a20,i20,kcName⟩
 mk_Number:=⟨mmNumber,a11,i11,kcNumber⟩
 mk_PartsBody:=⟨mmPartsBody,a76,i76,kcPartsBody⟩
 mk_PiecesBody:=⟨mmPiecesBody,a67,i67,kcPiecesBody⟩
 mk_RestBody:=⟨mmRestBody,a64,i64,kcRestBody⟩
 mk_RowEnd:=⟨mmRowEnd,a10,i10,kcRowEnd⟩
 mk_Signs:=⟨mmSigns,a25,i25,kcSigns⟩
 mk_Tally:=⟨mmTally,a51,i51,kcTally⟩
 mk_Value:=⟨mmValue,a16,i16,kcValue⟩
 mo_Body:=⟨mmBody,miBody,kcBody⟩
 w_base_Number:=(bz aCNumber nNumber_base cI)
 w_body_Frame:=(bz aCFrame nFrame_body cI)
 w_book_FieldRow:=(bz aCFieldRow nFieldRow_book cI)
 w_book_Fields:=(bz aCFields nFields_book cI)
 w_book_Frame:=(bz aCFrame nFrame_book cI)
 w_book_PartsBody:=(bz aCPartsBody nPartsBody_book cI)
 w_closing_Closed:=(bz aCClosed nClosed_closing cI)
 w_deep_Frame:=(bz aCFrame nFrame_deep cI)
 w_deep_PartsBody:=(bz aCPartsBody nPartsBody_deep cI)
 w_empty_row_Fields:=(bz aCFields nFields_empty_row cI)
 w_end_Fields:=(bz aCFields nFields_end cI)
 w_ends_FieldRow:=(bz aCFieldRow nFieldRow_ends cI)
 w_ends_Fields:=(bz aCFields nFields_ends cI)
 w_ends_Name:=(bz aCName nName_ends cI)
 w_fields_Frame:=(bz aCFrame nFrame_fields cI)
 w_goal_Exact_RowEnd:=(bz aCExact nExact_goal (bz aCRowEnd nRowEnd_goal cI))
 w_head_FieldRow:=(bz aCFieldRow nFieldRow_head cI)
 w_is_closing_Closed:=(bz aCClosed nClosed_is_closing cI)
 w_left_PiecesBody:=(bz aCPiecesBody nPiecesBody_left cI)
 w_left_Tally:=(bz aCTally nTally_left cI)
 w_mark_Closed:=(bz aCClosed nClosed_mark cI)
 w_most_Name:=(bz aCName nName_most cI)
 w_most_Number:=(bz aCNumber nNumber_most cI)
 w_most_Value:=(bz aCValue nValue_most cI)
 w_name_FieldRow:=(bz aCFieldRow nFieldRow_name cI)
 w_number_Signs:=(bz aCSigns nSigns_number cI)
 w_pairs_Fields:=(bz aCFields nFields_pairs cI)
 w_part_PartsBody:=(bz aCPartsBody nPartsBody_part cI)
 w_parts_PartsBody:=(bz aCPartsBody nPartsBody_parts cI)
 w_piece_PiecesBody:=(bz aCPiecesBody nPiecesBody_piece cI)
 w_room_Fields:=(bz aCFields nFields_room cI)
 w_room_Name:=(bz aCName nName_room cI)
 w_row_Fields:=(bz aCFields nFields_row cI)
 w_row_PartsBody:=(bz aCPartsBody nPartsBody_row cI)
 w_signs_LengthBody:=(bz aCLengthBody nLengthBody_signs cI)
 w_signs_RestBody:=(bz aCRestBody nRestBody_signs cI)
 w_size_PiecesBody:=(bz aCPiecesBody nPiecesBody_size cI)
 w_tally_Frame:=(bz aCFrame nFrame_tally cI)
 w_tally_PartsBody:=(bz aCPartsBody nPartsBody_tally cI)
 w_text_Exact_RowEnd_Number_Value_Name_Signs:=(bz aCExact nExact_text (bz aCRowEnd nRowEnd_text (bz aCNumber nNumber_text (bz aCValue nValue_text (bz aCName nName_text (bz aCSigns nSigns_text cI))))))
 w_texts_PiecesBody:=(bz aCPiecesBody nPiecesBody_texts cI)
 w_trail_PiecesBody:=(bz aCPiecesBody nPiecesBody_trail cI)
 w_value_FieldRow:=(bz aCFieldRow nFieldRow_value cI)
 a_END_NAMES:=mt
 m_END_NAMES:=q14 X G gEND_NAMES
 r_END_NAMES:=fun em H=>by
   simp only[gT,Rp];exact⟨mt,[.str "length",.str "pieces",.str "parts",.str "rest"],rfl,.inr ⟨_,_,_,hEND_NAMES,rfl,rfl,(by show 4≤sizeLine; decide),(.cons ⟨_,rfl⟩ (.cons ⟨_,rfl⟩ (.cons ⟨_,rfl⟩ (.cons ⟨_,rfl⟩ .nil))))⟩,(de.cons (by simp only[Rp]<;>exact congrArg V.str (by decide+kernel)) (de.cons (by simp only[Rp]<;>exact congrArg V.str (by decide+kernel)) (de.cons (by simp only[Rp]<;>exact congrArg V.str (by decide+kernel)) (de.cons (by simp only[Rp]<;>exact congrArg V.str (by decide+kernel)) de.nil))))⟩
 s_FIGURES:=_
 t_FIGURES:=_
 m_FIGURES:=q14 X G gFIGURES
 r_FIGURES:=fun em H=>by
   simp only[gN,Rp];exact congrArg V.str (by decide+kernel)
 s_FILLER:=_
 t_FILLER:=_
 m_FILLER:=q14 X G gFILLER
 r_FILLER:=fun em H=>by
   simp only[gW,Rp];exact congrArg V.str (by decide+kernel)
 t_MOST_BODY:=_
 m_MOST_BODY:=q14 X G gMOST_BODY
 r_MOST_BODY:=fun em H=>by simp only[eS,Rp]
 t_MOST_DEEP:=_
 m_MOST_DEEP:=q14 X G gMOST_DEEP
 r_MOST_DEEP:=fun em H=>by simp only[jY,Rp]
 t_MOST_FIELDS:=_
 m_MOST_FIELDS:=q14 X G gMOST_FIELDS
 r_MOST_FIELDS:=fun em H=>by simp only[iT,Rp]
 t_MOST_NAME:=_
 m_MOST_NAME:=q14 X G gMOST_NAME
 r_MOST_NAME:=fun em H=>by simp only[j1,Rp]
 t_MOST_VALUE:=_
 m_MOST_VALUE:=q14 X G gMOST_VALUE
 r_MOST_VALUE:=fun em H=>by simp only[fB,Rp]
 s_PARTS_END:=_
 t_PARTS_END:=_
 m_PARTS_END:=q14 X G gPARTS_END
 r_PARTS_END:=fun em H=>by
   simp only[bm,Rp];exact congrArg V.str (by decide+kernel)
 a_PART_END_NAMES:=jL
 m_PART_END_NAMES:=q14 X G gPART_END_NAMES
 r_PART_END_NAMES:=fun em H=>by
   simp only[ij,Rp];exact⟨jL,[.str "length",.str "pieces",.str "parts"],rfl,.inr ⟨_,_,_,hPART_END_NAMES,rfl,rfl,(by show 3≤sizeLine; decide),(.cons ⟨_,rfl⟩ (.cons ⟨_,rfl⟩ (.cons ⟨_,rfl⟩ .nil)))⟩,(de.cons (by simp only[Rp]<;>exact congrArg V.str (by decide+kernel)) (de.cons (by simp only[Rp]<;>exact congrArg V.str (by decide+kernel)) (de.cons (by simp only[Rp]<;>exact congrArg V.str (by decide+kernel)) de.nil)))⟩
 s_PART_ROW:=_
 t_PART_ROW:=_
 m_PART_ROW:=q14 X G gPART_ROW
 r_PART_ROW:=fun em H=>by
   simp only[eH,Rp];exact congrArg V.str (by decide+kernel)
 s_PIECES_END:=_
 t_PIECES_END:=_
 m_PIECES_END:=q14 X G gPIECES_END
 r_PIECES_END:=fun em H=>by
   simp only[iB,Rp];exact congrArg V.str (by decide+kernel)
 s_ROW_END:=_
 t_ROW_END:=_
 m_ROW_END:=q14 X G gROW_END
 r_ROW_END:=fun em H=>by
   simp only[bi,Rp];exact congrArg V.str (by decide+kernel)
 EW:=q62 X G zany
 pC:=q62 X G zisinstance
 iO:=q62 X G zlen
 E5:=q62 X G zmin
 Fj:=q62 X G zstr
 o9:=q62 X G ztuple
 }⟩
end My
namespace AL
open L2
theorem Rs.bd_congr {α β:Type} {r r':Rs α} {k:α→Mu→Rs β} (h:r=r'):r.bd k=r'.bd k:=by rw[h]
def sq (r:Rs Fl) (g:FS):Rs Fl:=match r with
 | .ok (.nx ρ1) μ1=>g ρ1 μ1
 | r=>r
theorem K8 {r r':Rs Fl} {g:FS} (h:r=r'):sq r g=sq r' g:=by rw[h]
@[simp] theorem sq_nx (ρ:Ev) (μ:Mu) (g:FS):sq (.ok (.nx ρ) μ) g=g ρ μ:=rfl
@[simp] theorem sq_rt (d:AV) (μ:Mu) (g:FS):sq (.ok (.rt d) μ) g=.ok (.rt d) μ:=rfl
@[simp] theorem sq_no (g:FS):sq .no g=.no:=rfl
def Me (r:Rs Bool) (f g:FS) (ρ:Ev):Rs Fl:=r.bd fun k μ1=>if k then f ρ μ1 else g ρ μ1
theorem Ia {r r':Rs Bool} {f g:FS} {ρ:Ev} (h:r=r'):Me r f g ρ=Me r' f g ρ:=by rw[h]
@[simp] theorem N9 (k:Bool) (f g:FS) (ρ:Ev) (μ:Mu):Me (.ok k μ) f g ρ=if k then f ρ μ else g ρ μ:=rfl
@[simp] theorem UT (f g:FS) (ρ:Ev):Me .no f g ρ=.no:=rfl
section
variable {ρ:Ev} {μ:Mu} {fa fb fc fe f:FE} {fl:FL} {ta tb:FB} {a b:AV}
@[simp] theorem e_var (i:Nat):ab i ρ μ=(match ρ[i]? with|some (some d)=>.ok d μ|_=>.no):=rfl
@[simp] theorem e_c (d:AV):fC d ρ μ=.ok d μ:=rfl
@[simp] theorem e_op (g):aB g fa fb ρ μ=(fa ρ μ).bd fun x μ1=>(fb ρ μ1).bd fun y μ2=>g x y μ2:=rfl
@[simp] theorem e_T:fT fa ρ μ=(fa ρ μ).bd NC:=rfl
@[simp] theorem e_toB (k:Bool):NC (.bl k) μ=.ok k μ:=rfl
@[simp] theorem NF (g g'):kn g g' fa fb fc ρ μ=(fa ρ μ).bd fun x μ1=>(fb ρ μ1).bd fun y μ2=>(g x y μ2).bd fun z μ3=>match z with
 | .bl k=>if k then (fc ρ μ3).bd fun w μ4=>g' y w μ4 else .ok (.bl false) μ3
 | _=>.no:=rfl
@[simp] theorem e_and:nW fa fb ρ μ=(fa ρ μ).bd fun x μ1=>match x with
 | .bl k=>if k then fb ρ μ1 else .ok (.bl false) μ1
 | _=>.no:=rfl
@[simp] theorem e_or:EI fa fb ρ μ=(fa ρ μ).bd fun x μ1=>match x with
 | .bl k=>if k then .ok (.bl true) μ1 else fb ρ μ1
 | _=>.no:=rfl
@[simp] theorem U9:j7 ta tb ρ μ=(ta ρ μ).bd fun k μ1=>if k then tb ρ μ1 else .ok false μ1:=rfl
@[simp] theorem e_orB:ir ta tb ρ μ=(ta ρ μ).bd fun k μ1=>if k then .ok true μ1 else tb ρ μ1:=rfl
@[simp] theorem Oy:gz ta ρ μ=(ta ρ μ).bd fun k μ1=>.ok (!k) μ1:=rfl
@[simp] theorem e_ifE:ug ta fa fb ρ μ=(ta ρ μ).bd fun k μ1=>if k then fa ρ μ1 else fb ρ μ1:=rfl
@[simp] theorem e_tru:gI fa ρ μ=(fa ρ μ).bd Al:=rfl
@[simp] theorem Gr:ag ρ μ=.ok [] μ:=rfl
@[simp] theorem DX:ac f fl ρ μ=(f ρ μ).bd fun d μ1=>(fl ρ μ1).bd fun ds μ2=>.ok (d::ds) μ2:=rfl
@[simp] theorem e_tup:jD fl ρ μ=(fl ρ μ).bd fun ds μ1=>if ds.length≤cE then .ok (.tup ds) μ1 else .no:=rfl
@[simp] theorem e_lst:rB fl ρ μ=(fl ρ μ).bd fun ds μ1=>if ds.length≤cE then .ok (.loc μ1.length) (μ1++[.lst ds]) else .no:=rfl
@[simp] theorem Jt:kQ ρ μ=.ok none μ:=rfl
@[simp] theorem T7:lb f ρ μ=(f ρ μ).bd fun d μ1=>match d with
 | .int i=>.ok (some i) μ1
 | _=>.no:=rfl
@[simp] theorem e_sl (g) (lo hi:FO):AH g fe lo hi ρ μ=(fe ρ μ).bd fun d μ1=>(lo ρ μ1).bd fun l μ2=>(hi ρ μ2).bd fun h μ3=>g d l h μ3:=rfl
@[simp] theorem e_CB (g):ko g fl ρ μ=(fl ρ μ).bd g:=rfl
@[simp] theorem Gk (T g):sh T g fe fl ρ μ=(fe ρ μ).bd fun d μ1=>if HW T d μ1=true then (fl ρ μ1).bd fun ds μ2=>g d ds μ2 else .no:=rfl
@[simp] theorem Rx (n F dfl):cq n F dfl fl ρ μ=(fl ρ μ).bd fun ds μ1=>if ds.length+dfl.length=n then F (ds++dfl) μ1 else .no:=rfl
@[simp] theorem e_neg:Fv fa ρ μ=(fa ρ μ).bd FN:=rfl
@[simp] theorem Uo (i:Int):FN (.int i) μ=.ok (.int (-i)) μ:=rfl
@[simp] theorem e_nx:dE ρ μ=.ok (.nx ρ) μ:=rfl
@[simp] theorem MO (f g:FS):aG f g ρ μ=sq (f ρ μ) g:=rfl
@[simp] theorem e_ret:aN f ρ μ=(f ρ μ).bd fun d μ1=>.ok (.rt d) μ1:=rfl
@[simp] theorem Yx:kN f ρ μ=(f ρ μ).bd fun _ μ1=>.ok (.nx ρ) μ1:=rfl
@[simp] theorem e_if (fc:FB) (f g:FS):df fc f g ρ μ=Me (fc ρ μ) f g ρ:=rfl
@[simp] theorem e_nm (i:Nat) (d:AV):dn i d ρ μ=.ok (ρ.set i (some d)) μ:=rfl
@[simp] theorem NE:mQ [] ρ μ=.ok ρ μ:=rfl
@[simp] theorem Mm (g gs) (d:AV) (r:List AV):gB g gs (d::r) ρ μ=(g d ρ μ).bd fun ρ1 μ1=>gs r ρ1 μ1:=rfl
@[simp] theorem e_gTp (n gs) (ds:List AV):zj n gs (.tup ds) ρ μ=if ds.length=n then gs ds ρ μ else .no:=rfl
@[simp] theorem e_asg (g):bU f g ρ μ=(f ρ μ).bd fun d μ1=>(g d ρ μ1).bd fun ρ1 μ2=>.ok (.nx ρ1) μ2:=rfl
@[simp] theorem KM:uf ρ μ=.ok true μ:=rfl
@[simp] theorem O8 (fo fi:FE) (d:AV):uG fo fi d ρ μ=(fo ρ μ).bd fun o μ1=>(fi ρ μ1).bd fun i μ2=>(ED o i d μ2).bd fun _ μ3=>.ok ρ μ3:=rfl
@[simp] theorem e_for (n fi g fb):oO n fi g fb ρ μ=(fi ρ μ).bd fun it μ1=>m5 n it 0 g fb ρ μ1:=rfl
@[simp] theorem Hh (n N) (f:FS) (ds:List AV):wg n N f ds μ=(match f (nr N ds) μ with
 | .ok (.rt d) μ'=>.ok d μ'
 | .ok (.nx _) μ'=>.ok .non μ'
 | .exc C fs μ'=>.exc C fs μ'
 | _=>.no):=rfl
@[simp] theorem On (n N) (f:FS) (ds:List AV):fh n N f ds μ=iq μ (wg n N f ds μ):=rfl
@[simp] theorem ZC (d:AV):iq μ (.ok d μ)=.ok d μ:=Gw
@[simp] theorem Na (N:List Str) (ds:List AV):nr N ds=ds.map some++q45 (N.length-ds.length) none:=rfl
@[simp] theorem v_int (C h) (i j:Int):iA C h (.int i) (.int j) μ=if C i j=true then .ok (.int (h i j)) μ else .no:=rfl
@[simp] theorem NW (i j:Int):bK (.int i) (.int j) μ=.ok (.int (i+j)) μ:=rfl
@[simp] theorem Yo (x y:List Nat):bK (.str x) (.str y) μ=if x.length+y.length≤cE then .ok (.str (x++y)) μ else .no:=rfl
@[simp] theorem v_addt (x y:List AV):bK (.tup x) (.tup y) μ=if x.length+y.length≤cE then .ok (.tup (x++y)) μ else .no:=rfl
@[simp] theorem V6 (i j:Nat):bK (.loc i) (.loc j) μ=(match bu μ i,bu μ j with
  | some x,some y=>if x.length+y.length≤cE then .ok (.loc μ.length) (μ++[.lst (x++y)]) else .no
  | _,_=>.no):=rfl
@[simp] theorem VX (hi hs) (i j:Int):cA hi hs (.int i) (.int j) μ=.ok (.bl (hi i j)) μ:=rfl
@[simp] theorem Oh (hi hs) (x y:List Nat):cA hi hs (.str x) (.str y) μ=.ok (.bl (hs x y)) μ:=rfl
@[simp] theorem v_eqi (n:Bool) (i j:Int):fU n (.int i) (.int j) μ=.ok (.bl (if n then !(i==j) else i==j)) μ:=rfl
@[simp] theorem v_eqs (n:Bool) (x y:List Nat):fU n (.str x) (.str y) μ=.ok (.bl (if n then !(x==y) else x==y)) μ:=rfl
@[simp] theorem v_eqb (n:Bool) (x y:Bool):fU n (.bl x) (.bl y) μ=.ok (.bl (if n then !(x==y) else x==y)) μ:=rfl
@[simp] theorem v_is (n:Bool):j2 n a b μ=(match pd a b with
 | some k=>.ok (.bl (if n then !k else k)) μ
 | none=>.no):=rfl
@[simp] theorem ND:pd a .non=some (match a with | .non=>true|_=>false):=rfl
@[simp] theorem Nc (y:Bool):pd a (.bl y)=some (match a with | .bl x=>x==y|_=>false):=rfl
@[simp] theorem Y6 (ds:List AV):jG μ (.tup ds)=some ds:=rfl
@[simp] theorem He (i:Nat):jG μ (.loc i)=bu μ i:=rfl
@[simp] theorem v_ixT (ds:List AV) (k:Int):cM (.tup ds) (.int k) μ=(match L2.atI ds k with
  | some d=>.ok d μ
  | none=>.no):=rfl
@[simp] theorem v_ixS (x:List Nat) (k:Int):cM (.str x) (.int k) μ=if x.length≤cE then (match L2.atI x k with
   | some c=>.ok (.str [c]) μ
   | none=>.no) else .no:=rfl
@[simp] theorem v_ixL (i:Nat) (k:Int):cM (.loc i) (.int k) μ=(match bu μ i with
  | some ds=>(match L2.atI ds k with
   | some d=>.ok d μ
   | none=>.no)
  | none=>.no):=rfl
@[simp] theorem v_slS (x:List Nat) (lo hi:Option Int):yA (.str x) lo hi μ=if x.length≤cE then .ok (.str (kG x lo hi)) μ else .no:=rfl
@[simp] theorem v_slT (x:List AV) (lo hi:Option Int):yA (.tup x) lo hi μ=.ok (.tup (kG x lo hi)) μ:=rfl
@[simp] theorem v_slL (i:Nat) (lo hi:Option Int):yA (.loc i) lo hi μ=(match bu μ i with
  | some ds=>.ok (.loc μ.length) (μ++[.lst (kG ds lo hi)])
  | none=>.no):=rfl
@[simp] theorem Sl (x:List Nat):gJ [.str x] μ=if x.length≤cE then .ok (.int x.length) μ else .no:=rfl
@[simp] theorem v_lenT (x:List AV):gJ [.tup x] μ=.ok (.int x.length) μ:=rfl
@[simp] theorem R6 (i:Nat):gJ [.loc i] μ=(match bu μ i with
  | some ds=>.ok (.int ds.length) μ
  | none=>.no):=rfl
@[simp] theorem Xc (k:Bool):Al (.bl k) μ=.ok k μ:=rfl
@[simp] theorem Q0 (i:Nat):Al (.loc i) μ=(match bu μ i with
  | some ds=>.ok (!ds.isEmpty) μ
  | none=>.no):=rfl
@[simp] theorem Pl (d:AV):JF [d] μ=(match jG μ d with
  | some xs=>.ok (.loc μ.length) (μ++[.lst xs])
  | none=>.no):=rfl
@[simp] theorem Nk (d:AV):zp [d] μ=(match jG μ d with
  | some xs=>.ok (.tup xs) μ
  | none=>.no):=rfl
@[simp] theorem Lh (i j:Int):Ao [.int i,.int j] μ=.ok (.int (if j<i then j else i)) μ:=rfl
@[simp] theorem v_all (d:AV):VA [d] μ=(match (jG μ d).bind jc with
  | some bs=>.ok (.bl (bs.all fun b=>b)) μ
  | none=>.no):=rfl
@[simp] theorem v_any (d:AV):DO [d] μ=(match (jG μ d).bind jc with
  | some bs=>.ok (.bl (bs.any fun b=>b)) μ
  | none=>.no):=rfl
@[simp] theorem v_str (i:Int):Bk [.int i] μ=if sm 1900 i=true then .ok (.str (A3 i)) μ else .no:=rfl
@[simp] theorem F8 (x:List Nat):HW "str" (.str x) μ=true:=rfl
@[simp] theorem RV (i:Nat):HW "list" (.loc i) μ=(bu μ i).isSome:=by simp[HW]
@[simp] theorem CC (sep:List Nat) (l:AV):ot (.str sep) [l] μ=(match (jG μ l).bind jQ with
  | some ys=>if (ys.map (·.length)).sum+ys.length*sep.length≤cE then .ok (.str (nz sep ys)) μ else .no
  | none=>.no):=rfl
@[simp] theorem lR (n:Bool) (ds:List AV):oy n a (.tup ds) μ=if (ox a&&ds.all ox)=true then .ok (.bl (if n then !(ds.any fun y=>E8 y a) else ds.any fun y=>E8 y a)) μ else .no:=rfl
@[simp] theorem Tw (x:List Nat):ox (.str x)=true:=rfl
@[simp] theorem KJ (x y:List Nat):E8 (.str x) (.str y)=(x==y):=rfl
@[simp] theorem Le (i:Nat) (y:AV):mv (.loc i) [y] μ=(match μ[i]? with
  | some (.lst xs)=>if xs.length<cE then .ok .non (μ.set i (.lst (xs++[y]))) else .no
  | _=>.no):=rfl
@[simp] theorem LD (i:Nat) (y:AV):DE (.loc i) [y] μ=(match μ[i]?,jG μ y with
  | some (.lst xs),some ys=>if xs.length+ys.length≤cE then .ok .non (μ.set i (.lst (xs++ys))) else .no
  | _,_=>.no):=rfl
@[simp] theorem v_set (j:Nat) (k:Int) (v:AV):ED (.loc j) (.int k) v μ=(match μ[j]? with
  | some (.lst xs)=>(match AB xs.length k with
   | some m=>.ok () (μ.set j (.lst (xs.set m v)))
   | none=>.no)
  | _=>.no):=rfl
@[simp] theorem Ai (xs:List AV) (t:Mu):bu (μ++.lst xs::t) μ.length=some xs:=by simp[bu]
theorem nN (t:Mu) (k:Nat):bu (μ++t) (μ.length+k)=bu t k:=by
 unfold bu;rw[q27 (by omega),Nat.add_sub_cancel_left]
@[simp] theorem MF (a:AO) (xs:List AV) (t:Mu):bu (μ++a::.lst xs::t) (μ.length+1)=some xs:=nN _ 1
@[simp] theorem Jj (a b:AO) (xs:List AV) (t:Mu):bu (μ++a::b::.lst xs::t) (μ.length+1+1)=some xs:=nN _ 2
@[simp] theorem Ij (a b:AO) (xs:List AV) (t:Mu):bu (μ++a::b::.lst xs::t) (μ.length+2)=some xs:=nN _ 2
@[simp] theorem IH (a b c:AO) (xs:List AV) (t:Mu):bu (μ++a::b::c::.lst xs::t) (μ.length+3)=some xs:=nN _ 3
theorem w5 (x:List Nat):∀ ts:List (List Nat),((ts.map AV.str).any fun y=>E8 y (.str x))=decide (x∈ts)
 | []=>rfl
 | t::ts=>by
  rw[q42,List.any_cons,w5 x ts,KJ]
  by_cases h:t=x
  ·subst h; simp
  ·have h':¬ x=t:=fun e=>h e.symm
   simp[h,h']
@[simp high] theorem Jr (n:Bool) (x:List Nat) (ts:List (List Nat)):oy n (.str x) (.tup (ts.map AV.str)) μ=.ok (.bl (if n then !decide (x∈ts) else decide (x∈ts))) μ:=by
 rw[lR,w5];simp
@[simp] theorem Nd (n:Nat) (i:Int):kv n (.int i)=true:=rfl
@[simp] theorem Ni (n:Nat) (x:List Nat):kv n (.str x)=true:=rfl
@[simp] theorem Tu (n:Nat) (k:Bool):kv n (.bl k)=true:=rfl
@[simp] theorem Ny (n:Nat):kv n .non=true:=rfl
@[simp] theorem Nj (n:Nat) (ds:List AV):kv n (.tup ds)=g8 n ds:=by simp[kv]
@[simp] theorem LZ (n:Nat):g8 n []=true:=rfl
@[simp] theorem Ik (n:Nat) (d:AV) (ds:List AV):g8 n (d::ds)=(kv n d&&g8 n ds):=rfl
theorem wc (n:Nat) {α:Type} (f:α→AV) (h:∀ x,kv n (f x)=true):∀ xs:List α,g8 n (xs.map f)=true
 | []=>rfl
 | x::xs=>by simp[h x,wc n f h xs]
@[simp] theorem e_gcB {t:Mu} (k:Bool):iq μ (.ok (.bl k) (μ++t))=.ok (.bl k) μ:=se rfl
@[simp] theorem e_gcI {t:Mu} (k:Int):iq μ (.ok (.int k) (μ++t))=.ok (.int k) μ:=se rfl
@[simp] theorem e_gcS {t:Mu} (k:List Nat):iq μ (.ok (.str k) (μ++t))=.ok (.str k) μ:=se rfl
@[simp] theorem e_gcN {t:Mu}:iq μ (.ok .non (μ++t))=.ok .non μ:=se rfl
@[simp] theorem id_cm {α:Type} (p:α→Bool):(fun b=>b)∘p=p:=rfl
theorem ll {α:Type} (xs:List α) (n:Nat):L2.atI xs (n:Int)=xs[n]?:=by
 unfold L2.atI AB;rw[if_pos (by omega)]
 by_cases h:n<xs.length
 ·rw[if_pos (by omega)]; simp
 ·rw[if_neg (by omega)]; simp; omega
@[simp] theorem at_0 {α:Type} (xs:List α):L2.atI xs 0=xs[0]?:=ll xs 0
@[simp] theorem at_1 {α:Type} (xs:List α):L2.atI xs 1=xs[1]?:=ll xs 1
@[simp] theorem at_2 {α:Type} (xs:List α):L2.atI xs 2=xs[2]?:=ll xs 2
@[simp] theorem at_3 {α:Type} (xs:List α):L2.atI xs 3=xs[3]?:=ll xs 3
@[simp] theorem at_4 {α:Type} (xs:List α):L2.atI xs 4=xs[4]?:=ll xs 4
@[simp] theorem at_5 {α:Type} (xs:List α):L2.atI xs 5=xs[5]?:=ll xs 5
@[simp] theorem at_6 {α:Type} (xs:List α):L2.atI xs 6=xs[6]?:=ll xs 6
@[simp] theorem NK {α:Type} (xs:List α):L2.atI xs (-1)=xs[xs.length-1]?:=by
 unfold L2.atI AB;rw[if_neg (by omega)]
 cases xs with
 | nil=>rfl
 | cons x xs=>
  rw[if_pos (by simp; omega)]
  have:(-1+((x::xs).length:Int)).toNat=(x::xs).length-1:=by simp; omega
  simp only[this,q70]
theorem wW {α:Type} (fS f:α→AV) (g:FG) (fe:FE) (I:Ev→Prop) (all:List α) (j:Nat) :
  ∀ (as pre:List α) (n:Nat) (ρ:Ev) (μ:Mu) (xs:List AV),all=pre++as→(∀ a∈as,∀ ρ,I ρ→∀ μ,∃ ρ1,g (fS a) ρ μ=.ok ρ1 μ∧I ρ1∧fe ρ1 μ=.ok (f a) μ)→I ρ→as.length<n→μ[j]?=some (.lst xs)→xs.length+as.length≤cE→
   lH n (.s (all.map fS)) pre.length j g uf fe ρ μ=.ok (.loc j) (μ.set j (.lst (xs++as.map f)))
 | [],pre,n+1,ρ,μ,xs,ha,h,hI,hn,hj,hl=>by
  have e:(vq.s (all.map fS)).get μ pre.length=some none:=by
   show some ((all.map fS)[pre.length]?)=_;rw[ha];simp
  have hs:μ.set j (.lst xs)=μ:=by
   apply List.ext_getElem?
   intro i
   by_cases hij:j=i
   ·subst hij
    have hlt:j<μ.length:=(q07.mp hj).1;rw[q15 hlt,hj]
   ·rw[q12 hij]
  unfold lH;simp only[e,List.map_nil,q31,hs]
 | d::ds,pre,n+1,ρ,μ,xs,ha,h,hI,hn,hj,hl=>by
  have e:(vq.s (all.map fS)).get μ pre.length=some (some (fS d)):=by
   show some ((all.map fS)[pre.length]?)=_;rw[ha];simp
  obtain⟨ρ1,h1,h2,h3⟩:=h d q40 ρ hI μ;have hlt:j<μ.length:=(q07.mp hj).1
  have hp:sC j (f d) μ=.ok () (μ.set j (.lst (xs++[f d]))):=by
   unfold sC;simp only[hj];rw[if_pos (by simp at hl; omega)]
  have ih:=wW fS f g fe I all j ds (pre++[d]) n ρ1 (μ.set j (.lst (xs++[f d]))) (xs++[f d]) (by rw[ha]; simp) (fun d' hd'=>h d' (q19 _ hd')) h2 (by simp at hn; omega) (q15 hlt) (by simp at hl⊢; omega);unfold lH;simp only[e,h1,Rs.bd_ok,KM,if_true,h3,hp];rw[q02] at ih;simp only[q37,q60,Nat.zero_add] at ih;rw[ih];simp[List.set_set]
theorem yQ {α:Type} {n:Nat} {caps:List (Option Nat)} {fi:FI} {g:FG} {fe:FE} {ρ:Ev} {μ μ1:Mu} (as:List α) (fS f:α→AV) (I:Ev→Prop) (hi:fi ρ μ=.ok (.s (as.map fS)) μ1) (hI:I (rL ρ caps))
  (h:∀ a∈as,∀ ρ,I ρ→∀ μ,∃ ρ1,g (fS a) ρ μ=.ok ρ1 μ∧I ρ1∧fe ρ1 μ=.ok (f a) μ) (hn:as.length<n) (hl:as.length≤cE):kz n caps fi g uf fe ρ μ=.ok (.loc μ1.length) (μ1++[.lst (as.map f)]):=by
 unfold kz;rw[hi];have:=wW fS f g fe I as μ1.length as [] n (rL ρ caps) (μ1++[.lst []]) [] rfl h hI hn (by simp) (by simpa using hl);simp only[Rs.bd_ok];simp only[q60,List.nil_append] at this;rw[this];congr 1;rw[q79 _ _ (q11 _)];simp
theorem y8 {α:Type} {n:Nat} {caps:List (Option Nat)} {fi:FI} {fe:FE} {ρ:Ev} {μ μ1:Mu} {rest:Ev} (as:List α) (fS f:α→AV) (hi:fi ρ μ=.ok (.s (as.map fS)) μ1) (hI:rL ρ caps=none::rest)
  (h:∀ a∈as,∀ μ,fe (some (fS a)::rest) μ=.ok (f a) μ) (hn:as.length<n) (hl:as.length≤16777216):kz n caps fi (dn 0) uf fe ρ μ=.ok (.loc μ1.length) (μ1++[.lst (as.map f)]):=
 yQ as fS f (fun ρ=>∃ o,ρ=o::rest) hi ⟨none,hI⟩ (fun a ha ρ hρ μ=>by
  obtain⟨o,rfl⟩:=hρ
  exact⟨some (fS a)::rest,rfl,⟨_,rfl⟩,h a ha μ⟩) hn hl
theorem DK {α:Type} {n:Nat} {caps:List (Option Nat)} {fi:FI} {fe:FE} {ρ:Ev} {μ μ1:Mu} {rest:Ev} (as:List α) (e1 e2 f:α→AV) (hi:fi ρ μ=.ok (.s (as.map fun a=>.tup [e1 a,e2 a])) μ1) (hI:rL ρ caps=none::none::rest)
  (h:∀ a∈as,∀ μ,fe (some (e1 a)::some (e2 a)::rest) μ=.ok (f a) μ) (hn:as.length<n) (hl:as.length≤16777216):kz n caps fi (zj 2 (gB (dn 0) (gB (dn 1) mQ))) uf fe ρ μ=.ok (.loc μ1.length) (μ1++[.lst (as.map f)]):=
 yQ as (fun a=>.tup [e1 a,e2 a]) f (fun ρ=>∃ o o',ρ=o::o'::rest) hi ⟨none,none,hI⟩ (fun a ha ρ hρ μ=>by
  obtain⟨o,o',rfl⟩:=hρ
  exact⟨some (e1 a)::some (e2 a)::rest,by simp,⟨_,_,rfl⟩,h a ha μ⟩) hn hl
theorem nj {j:Nat} {o:AO} {μ:Mu} (hj:μ[j]?=some o):μ.set j o=μ:=by
 apply List.ext_getElem?
 intro i
 by_cases hij:j=i
 ·subst hij
  have hlt:j<μ.length:=(q07.mp hj).1;rw[q15 hlt,hj]
 ·rw[q12 hij]
@[simp] theorem VT {m:Mu}:iq μ (.ok (.loc μ.length) m)=.ok (.loc μ.length) m:=by
 have hc:¬ AC μ (.loc μ.length) m:=fun h=>by
  have:=h.1;simp[kv] at this
 simp[iq,hc]
@[simp] theorem e_fiA:rP f ρ μ=(f ρ μ).bd Ih:=rfl
@[simp] theorem e_itT (ds:List AV):Ih (.tup ds) μ=.ok (.s ds) μ:=rfl
@[simp] theorem e_itS (x:List Nat):Ih (.str x) μ=.ok (.s (x.map fun c=>.str [c])) μ:=rfl
@[simp] theorem e_itL (i:Nat):Ih (.loc i) μ=if (bu μ i).isSome=true then .ok (.l i) μ else .no:=rfl
@[simp] theorem HY:jc []=some []:=rfl
@[simp] theorem Hz (k:Bool) (r:List AV):jc (.bl k::r)=(jc r).map (k::·):=rfl
@[simp] theorem JK:qy []=some []:=rfl
@[simp] theorem Io (k:Int) (r:List AV):qy (.int k::r)=(qy r).map (k::·):=rfl
@[simp] theorem KG:jQ []=some []:=rfl
@[simp] theorem HV (k:List Nat) (r:List AV):jQ (.str k::r)=(jQ r).map (k::·):=rfl
@[simp] theorem zz {α:Type} (p:α→Bool):∀ xs:List α,jc (xs.map fun a=>.bl (p a))=some (xs.map p)
 | []=>rfl
 | x::xs=>by simp[jc,zz p xs]
@[simp] theorem Cn {α:Type} (p:α→Int):∀ xs:List α,qy (xs.map fun a=>.int (p a))=some (xs.map p)
 | []=>rfl
 | x::xs=>by simp[qy,Cn p xs]
@[simp] theorem wS {α:Type} (p:α→List Nat):∀ xs:List α,jQ (xs.map fun a=>.str (p a))=some (xs.map p)
 | []=>rfl
 | x::xs=>by simp[jQ,wS p xs]
theorem nM:∀ xs:List (List Nat),nz [] xs=xs.flatten
 | []=>rfl
 | [x]=>by simp[nz]
 | x::y::r=>by
  have:=nM (y::r);simp only[nz,q31] at this⊢;rw[this];simp
theorem yY {α:Type} {fk:FE} {ρ:Ev} {μ μ1:Mu} (sep:List Nat) (as:List α) (f:α→List Nat) (hc:fk ρ μ=.ok (.loc μ1.length) (μ1++[.lst (as.map fun a=>.str (f a))])) (hz:(as.map fun a=>(f a).length).sum+as.length*sep.length≤16777216) :
  sh "str" ot (fC (.str sep)) (ac fk ag) ρ μ=.ok (.str (nz sep (as.map f))) (μ1++[.lst (as.map fun a=>.str (f a))]):=by
 have e:((as.map f).map (·.length)).sum=(as.map fun a=>(f a).length).sum:=by rw[List.map_map]; rfl
 rw[Gk,e_c];simp only[Rs.bd_ok,F8,if_true,DX,hc,Gr,CC,He,Ai,q70,wS,e,q21];rw[if_pos (show _≤cE from hz)]
end
def af (μ:Mu) (i:Nat):Option (Nat×List (Nat×AV)):=match μ[i]? with
 | some (.ins C fs)=>some (C,fs)
 | _=>none
section
variable {ρ:Ev} {μ:Mu} {fa fb fc fe f fo fv:FE} {fl:FL}
@[simp] theorem o_fld (k:Nat):aQ k fe ρ μ=(fe ρ μ).bd fun d μ1=>CK k d μ1:=rfl
@[simp] theorem SZ (k i:Nat):CK k (.loc i) μ=(match af μ i with
  | some q=>(match q.2.lookup k with
   | some v=>.ok v μ
   | none=>.no)
  | none=>.no):=by
 dsimp only[CK,pB,af]
 cases μ[i]? with
 | none=>rfl
 | some o=>cases o<;>rfl
@[simp] theorem Pe (cl:List Nat) (k:Nat):bY cl k fo fv ρ μ=(fv ρ μ).bd fun y μ1=>(fo ρ μ1).bd fun d μ2=>(wN cl k d y μ2).bd fun _ μ3=>.ok (.nx ρ) μ3:=rfl
@[simp] theorem Z3 (cl:List Nat) (k i:Nat) (y:AV):wN cl k (.loc i) y μ=(match af μ i with
  | some q=>if (vK cl q.1&&decide (q.2.length<1000))=true then .ok .non (μ.set i (.ins q.1 (nE k y q.2))) else .no
  | none=>.no):=by
 dsimp only[wN,af]
 cases μ[i]? with
 | none=>rfl
 | some o=>cases o<;>rfl
@[simp] theorem jy (n:Nat) (D):aD n D fo fl ρ μ=(fo ρ μ).bd fun d μ1=>match vU D μ1 d with
 | some F=>(fl ρ μ1).bd fun ds μ2=>if ds.length+1=n then F (d::ds) μ2 else .no
 | none=>.no:=rfl
@[simp] theorem TL (D:List (Nat×(List AV→Mu→Rs AV))) (i:Nat):vU D μ (.loc i)=(match af μ i with
  | some q=>D.lookup q.1
  | none=>none):=by
 dsimp only[vU,pB,af]
 cases μ[i]? with
 | none=>rfl
 | some o=>cases o<;>rfl
@[simp] theorem Si (C n F):fX C n F fl ρ μ=(fl ρ μ).bd fun ds μ1=>if ds.length+1=n then LX C F ds μ1 else .no:=rfl
@[simp] theorem o_mkA (C F) (ds:List AV):LX C F ds μ=(F (.loc μ.length::ds) (μ++[.ins C []])).bd fun v μ2=>match v with
 | .non=>.ok (.loc μ.length) μ2
 | _=>.no:=rfl
@[simp] theorem uh {β:Type} (k g:Nat) (x:β) (r:List (Nat×β)):q28 k ((g,x)::r)=if k=g then some x else q28 k r:=by
 rw[q36]
 by_cases h:k=g
 ·rw[if_pos h,h,beq_self_eq_true]
 ·rw[if_neg h,beq_eq_false_iff_ne.mpr h]
@[simp] theorem o_lk0 {β:Type} (k:Nat):q28 k ([]:List (Nat×β))=none:=rfl
@[simp] theorem CZ (C:Nat):vK [] C=false:=rfl
@[simp] theorem GT (a C:Nat) (r:List Nat):vK (a::r) C=(a==C||vK r C):=rfl
@[simp] theorem o_put0 (k:Nat) (v:AV):nE k v []=[(k,v)]:=rfl
@[simp] theorem o_put (k g:Nat) (v x:AV) (r:List (Nat×AV)):nE k v ((g,x)::r)=if g=k then (g,v)::r else (g,x)::nE k v r:=rfl
theorem mf {i C:Nat} {fs:List (Nat×AV)} (h:μ[i]?=some (.ins C fs)):af μ i=some (C,fs):=by
 unfold af;rw[h]
@[simp] theorem oW (C:Nat) (fs:List (Nat×AV)) (t:Mu):af (μ++.ins C fs::t) μ.length=some (C,fs):=mf (by simp)
theorem x5 {i:Nat} (t:Mu) (h:i<μ.length):af (μ++t) i=af μ i:=by
 unfold af;rw[q16 h]
theorem fY {i C:Nat} {fs:List (Nat×AV)} (h:af μ i=some (C,fs)):i<μ.length:=by
 unfold af at h
 cases e:μ[i]? with
 | none=>rw[e] at h; cases h
 | some o=>exact(q07.mp e).1
theorem iQ {i C:Nat} {fs:List (Nat×AV)} (h:af μ i=some (C,fs)):μ[i]?=some (.ins C fs):=by
 unfold af at h
 cases e:μ[i]? with
 | none=>rw[e] at h; cases h
 | some o=>
  rw[e] at h
  cases o with
  | ins C' fs'=>cases h; rfl
  | _=>cases h
theorem gA {i C:Nat} {fs:List (Nat×AV)} (h:i<μ.length):af (μ.set i (.ins C fs)) i=some (C,fs):=mf (q15 h)
theorem k0 {i j:Nat} {o:AO} (h:i≠j):af (μ.set i o) j=af μ j:=by
 unfold af;rw[q12 h]
@[simp] theorem X7 (x y:List Nat):uB (.str x) [.str y] μ=.ok (.int (Txt.find ⟨x.toArray⟩ ⟨y.toArray⟩)) μ:=rfl
end
section
variable {ρ:Ev} {μ:Mu} {f:FE}
@[simp] theorem Nq (C:Nat):xX C ρ μ=.ok (.loc μ.length) (μ++[.ins C []]):=rfl
@[simp] theorem v_mulI (i j:Int):qr (.int i) (.int j) μ=if mh i j=true then .ok (.int (i*j)) μ else .no:=rfl
@[simp] theorem v_mulS (x:List Nat) (n:Int):qr (.str x) (.int n) μ=if (sm 30 n&&decide (x.length*n.toNat≤cE))=true then .ok (.str (zk x n)) μ else .no:=rfl
end
section
variable {ρ:Ev} {μ:Mu} {f:FE}
end
section
variable {ρ:Ev} {μ:Mu} {f:FE}
end
end AL
namespace My
open L2 AL
theorem F7 {it:vq} {g:FG} {fb:FS} (N:Nat) (get:Nat→AV) (I:Nat→Ev→Mu→Prop) (hget:∀ k ρ μ,I k ρ μ→k≤N→it.get μ k=some (if k<N then some (get k) else none))
  (step:∀ k ρ μ,k<N→I k ρ μ→∃ ρ1 μ1 ρ2 μ2,g (get k) ρ μ=.ok ρ1 μ1∧fb ρ1 μ1=.ok (.nx ρ2) μ2∧I (k+1) ρ2 μ2) :
  ∀ (r k n:Nat) (ρ:Ev) (μ:Mu),k+r=N→r<n→I k ρ μ→∃ ρ' μ',m5 n it k g fb ρ μ=.ok (.nx ρ') μ'∧I N ρ' μ'
 | 0,k,n+1,ρ,μ,e,_,h=>by
  have e:k=N:=e;subst e;have hg:=hget k ρ μ h (q11 _);rw[if_neg (q67 _)] at hg;refine⟨ρ,μ,?_,h⟩;unfold m5;simp only[hg]
 | r+1,k,n+1,ρ,μ,e,hn,h=>by
  have hk:k<N:=by omega
  have hg:=hget k ρ μ h (Nat.le_of_lt hk);rw[if_pos hk] at hg;obtain⟨ρ1,μ1,ρ2,μ2,h1,h2,h3⟩:=step k ρ μ hk h;obtain⟨ρ',μ',h4,h5⟩:=F7 N get I hget step r (k+1) n ρ2 μ2 (by omega) (by omega) h3;refine⟨ρ',μ',?_,h5⟩;unfold m5;simp only[hg,h1,Rs.bd_ok,h2];exact h4
theorem BP {g:FG} {fb:FS} {ds:List AV} {n:Nat} {ρ:Ev} {μ:Mu} (I:Nat→Ev→Mu→Prop) (h0:I 0 ρ μ) (hn:ds.length<n)
  (step:∀ k d ρ μ,ds[k]?=some d→I k ρ μ→∃ ρ1 μ1 ρ2 μ2,g d ρ μ=.ok ρ1 μ1∧fb ρ1 μ1=.ok (.nx ρ2) μ2∧I (k+1) ρ2 μ2):∃ ρ' μ',m5 n (.s ds) 0 g fb ρ μ=.ok (.nx ρ') μ'∧I ds.length ρ' μ':=
 F7 ds.length (fun k=>ds.getD k .non) I (fun k ρ μ _ hk=>by
  show some ds[k]?=_
  by_cases h:k<ds.length
  ·rw[if_pos h,q46,q34 h]; rfl
  ·rw[if_neg h,q74 (by omega)]) (fun k ρ μ hk h=>step k _ ρ μ (by rw[q46,q34 hk]; rfl) h) ds.length 0 n ρ μ (by omega) hn h0
theorem QL {g:FG} {fb:FS} {ds:List AV} {l n:Nat} {ρ:Ev} {μ:Mu} (I:Nat→Ev→Mu→Prop) (h0:I 0 ρ μ) (hn:ds.length<n) (hl:∀ k ρ μ,I k ρ μ→bu μ l=some ds)
  (step:∀ k d ρ μ,ds[k]?=some d→I k ρ μ→∃ ρ1 μ1 ρ2 μ2,g d ρ μ=.ok ρ1 μ1∧fb ρ1 μ1=.ok (.nx ρ2) μ2∧I (k+1) ρ2 μ2):∃ ρ' μ',m5 n (.l l) 0 g fb ρ μ=.ok (.nx ρ') μ'∧I ds.length ρ' μ':=
 F7 ds.length (fun k=>ds.getD k .non) I (fun k ρ μ h hk=>by
  show(bu μ l).map (fun ds=>ds[k]?)=_;rw[hl k ρ μ h]
  by_cases h:k<ds.length
  ·rw[if_pos h,q46]; simp[q34 h]
  ·rw[if_neg h]; simp; omega) (fun k ρ μ hk h=>step k _ ρ μ (by rw[q46,q34 hk]; rfl) h) ds.length 0 n ρ μ (by omega) hn h0
theorem bV:cE=16777216:=rfl
theorem oE (i:Int) (n:Int) (h:0<n):j9 i n=true:=by simp[j9,h]
theorem EO (i:Int) (n:Nat) (h:0<n):(i%(n:Int)).toNat<n:=by
 have a:=q80 i (show(n:Int)≠0 by omega);have b:=q73 i (show(0:Int)<(n:Int) by omega);omega
theorem Ez {α:Type} (al:List α) (d:α) (i:Int) (h:0<al.length):L2.atI al (i%(al.length:Int))=some (al.getD (i%(al.length:Int)).toNat d):=by
 have a:=q80 i (show(al.length:Int)≠0 by omega);have b:=EO i al.length h
 have e:i%(al.length:Int)=(((i%(al.length:Int)).toNat:Nat):Int):=by omega
 rw[e,ll];simp only[q82];rw[q46,q34 b]
 rfl
theorem wk {α:Type} (al:List α) (d:α) (n:Int) (hn:n=(al.length:Int)) (i:Int) (h:0<al.length):∃ a∈al,L2.atI al (i%n)=some a:=by
 subst hn;have b:=EO i al.length h;refine⟨_,?_,Ez al d i h⟩;rw[q46,q34 b];exact List.getElem_mem b
theorem Jc (x:Int) (h:0≤x) (h':x<4294967296):sm 64 x=true:=B1 (by
 have e:(2:Nat) ^ 64=18446744073709551616:=by decide
 rw[e]
 omega) (by decide)
theorem Ks (i:Int):kf i 1009=true:=by simp only[kf]; decide
abbrev Tx:=List Nat
theorem lt1 (a b:Nat):(([a]:List Nat)<[b])=(a<b):=by
 apply propext
 constructor
 ·intro h
  cases h with
  | rel h=>exact h
  | cons h=>cases h
 ·intro h
  exact List.Lex.rel h
def mU (c:Nat):Bool:=decide (97≤c)&&decide (c≤122)
def xk (c:Nat):Bool:=decide (c=10)||(decide (32≤c)&&decide (c≤126))
theorem uw (c:Nat) (μ:Mu):mH [.str [c]] μ=.ok (.bl (mU c)) μ:=by
 simp[mH,bV,lt1,mU]
 by_cases h1:c<97
 ·have h3:¬ 97≤c:=by omega
  simp[h1,h3]
 ·have h2:97≤c:=by omega
  simp[h1,h2]
  by_cases h4:122<c
  ·have h5:¬ c≤122:=by omega
   simp[h4,h5]
  ·have h5:c≤122:=by omega
   simp[h4,h5]
theorem uC (c:Nat) (μ:Mu):ls [.str [c]] μ=.ok (.bl (xk c)) μ:=by
 simp[ls,bV,lt1,xk]
 by_cases h0:c=10
 ·simp[h0]
 ·by_cases h1:c<32
  ·have h3:¬ 32≤c:=by omega
   simp[h0,h1,h3]
  ·have h2:32≤c:=by omega
   by_cases h4:126<c
   ·have h5:¬ c≤126:=by omega
    simp[h0,h1,h2,h4,h5]
   ·have h5:c≤126:=by omega
    simp[h0,h1,h2,h4,h5]
mutual
def qR:AV→Bool
 | .str x=>x.all fun c=>decide (c<0x110000)
 | .tup ds=>rC ds
 | _=>false
def rC:List AV→Bool
 | []=>true
 | d::ds=>qR d&&rC ds
end
mutual
def LP:AV→Nat
 | .tup ds=>w6 ds+1
 | _=>0
def w6:List AV→Nat
 | []=>0
 | d::ds=>max (LP d) (w6 ds)
end
mutual
theorem JQ:∀ d:AV,qR d=true→∃ p,vg d=some p∧p.canLay0=true∧p.depth=LP d
 | .str x,h=>⟨.str ⟨x.toArray⟩,rfl,by
   simp only[qR] at h;simp only[PyData.canLay0,PyData.strOk]
   simpa using h,by simp[PyData.depth,LP]⟩
 | .tup ds,h=>by
  simp only[qR] at h;obtain⟨ps,e,c,z⟩:=sP ds h;exact⟨.tuple ps,by simp[vg,e],by simpa [PyData.canLay0] using c,by simp[PyData.depth,LP,z]⟩
 | .non,h=>by simp[qR] at h
 | .bl _,h=>by simp[qR] at h
 | .int _,h=>by simp[qR] at h
 | .loc _,h=>by simp[qR] at h
theorem sP:∀ ds:List AV,rC ds=true→∃ ps,lD ds=some ps∧PyData.canLayAll0 ps=true∧PyData.depthAll ps=w6 ds
 | [],_=>⟨[],rfl,by simp[PyData.canLayAll0],by simp[PyData.depthAll,w6]⟩
 | d::ds,h=>by
  simp only[rC,q08] at h;obtain⟨p,e,c,z⟩:=JQ d h.1;obtain⟨ps,e2,c2,z2⟩:=sP ds h.2;exact⟨p::ps,by simp[lD,e,e2],by simp[PyData.canLayAll0,c,c2],by simp[PyData.depthAll,w6,z,z2]⟩
end
mutual
theorem Az:∀ (d e:AV) (p q:PyData),qR d=true→qR e=true→vg d=some p→vg e=some q→(PyData.eqv p q=true↔d=e)
 | .str x,.str y,p,q,_,_,hp,hq=>by
  simp only[vg,q51] at hp hq;subst hp hq;simp[PyData.eqv]
 | .tup ds,.tup es,p,q,h,h',hp,hq=>by
  simp only[qR] at h h';obtain⟨ps,e1,_⟩:=sP ds h;obtain⟨qs,e2,_⟩:=sP es h';simp only[vg,e1,e2,q48,q51] at hp hq;subst hp hq;have:=Kc ds es ps qs h h' e1 e2;simp only[PyData.eqv,AV.tup.injEq];exact this
 | .str x,.tup es,p,q,h,h',hp,hq=>by
  simp only[qR] at h h';obtain⟨qs,e2,_⟩:=sP es h';simp only[vg,e2,q48,q51] at hp hq;subst hp hq;simp[PyData.eqv]
 | .tup ds,.str y,p,q,h,h',hp,hq=>by
  simp only[qR] at h h';obtain⟨ps,e1,_⟩:=sP ds h;simp only[vg,e1,q48,q51] at hp hq;subst hp hq;simp[PyData.eqv]
 | .non,_,p,q,h,h',hp,hq=>by simp[qR] at h
 | .bl _,_,p,q,h,h',hp,hq=>by simp[qR] at h
 | .int _,_,p,q,h,h',hp,hq=>by simp[qR] at h
 | .loc _,_,p,q,h,h',hp,hq=>by simp[qR] at h
 | .str _,.non,p,q,h,h',hp,hq=>by simp[qR] at h'
 | .str _,.bl _,p,q,h,h',hp,hq=>by simp[qR] at h'
 | .str _,.int _,p,q,h,h',hp,hq=>by simp[qR] at h'
 | .str _,.loc _,p,q,h,h',hp,hq=>by simp[qR] at h'
 | .tup _,.non,p,q,h,h',hp,hq=>by simp[qR] at h'
 | .tup _,.bl _,p,q,h,h',hp,hq=>by simp[qR] at h'
 | .tup _,.int _,p,q,h,h',hp,hq=>by simp[qR] at h'
 | .tup _,.loc _,p,q,h,h',hp,hq=>by simp[qR] at h'
theorem Kc:∀ (ds es:List AV) (ps qs:List PyData),rC ds=true→rC es=true→lD ds=some ps→lD es=some qs→(PyData.eqvAll ps qs=true↔ds=es)
 | [],[],ps,qs,_,_,hp,hq=>by
  simp only[lD,q51] at hp hq;subst hp hq;simp[PyData.eqvAll]
 | [],e::es,ps,qs,_,h',hp,hq=>by
  simp only[rC,q08] at h';obtain⟨q,e1,_⟩:=JQ e h'.1;obtain⟨qs',e2,_⟩:=sP es h'.2;simp only[lD,e1,e2,q51] at hp hq;subst hp hq;simp[PyData.eqvAll]
 | d::ds,[],ps,qs,h,_,hp,hq=>by
  simp only[rC,q08] at h;obtain⟨q,e1,_⟩:=JQ d h.1;obtain⟨qs',e2,_⟩:=sP ds h.2;simp only[lD,e1,e2,q51] at hp hq;subst hp hq;simp[PyData.eqvAll]
 | d::ds,e::es,ps,qs,h,h',hp,hq=>by
  simp only[rC,q08] at h h';obtain⟨p1,e1,_⟩:=JQ d h.1;obtain⟨ps1,e2,_⟩:=sP ds h.2;obtain⟨q1,e3,_⟩:=JQ e h'.1;obtain⟨qs1,e4,_⟩:=sP es h'.2;simp only[lD,e1,e2,e3,e4,q51] at hp hq;subst hp hq;have a:=Az d e p1 q1 h.1 h'.1 e1 e3;have b:=Kc ds es ps1 qs1 h.2 h'.2 e2 e4;simp only[PyData.eqvAll,q08,List.cons.injEq,a,b]
end
def pre (a b:List Nat):Bool:=a==b.take a.length
@[simp] theorem HX (x y:List Nat) (μ:Mu):oI (.str x) [.str y] μ=.ok (.bl (pre y x)) μ:=by
 show Rs.ok (AV.bl (Txt.startswith ⟨x.toArray⟩ ⟨y.toArray⟩)) μ=_
 have:Txt.startswith ⟨x.toArray⟩ ⟨y.toArray⟩=pre y x:=by
  rw[q52];simp only[Txt.startswith,qa4.Str.subAt,Str.length,pre,q08,decide_eq_true_eq,beq_iff_eq];simp
  constructor
  ·rintro⟨_,h⟩
   exact h.symm
  ·intro h
   refine⟨?_,h.symm⟩;have:=congrArg List.length h;rw[q39] at this;omega
 rw[this]
theorem eW {μ m:Mu} {d:AV} (h:m.length=μ.length):iq μ (.ok d m)=.ok d m:=by
 simp only[iq];split
 ·rw[← h]; simp
 ·rfl
def kh (xs:List Tx):AV:=.tup (xs.map .str)
inductive MK
 | ex (g:Tx)
 | num (B M:Int)
 | val (M:Int)
 | name (M R:Int) (nq:List Tx)
 | sg (n:Int)
def MK.cls:MK→Nat
 | .ex _=>1
 | .num _ _=>3
 | .val _=>5
 | .name _ _ _=>6
 | .sg _=>7
def MK.rest:MK→List (Nat×AV)
 | .ex g=>[(21,.str g)]
 | .num B M=>[(22,.int B),(23,.int M)]
 | .val M=>[(23,.int M)]
 | .name M R nq=>[(23,.int M),(24,.int R),(25,kh nq)]
 | .sg n=>[(26,.int n)]
def MK.obj (k:MK) (t:Tx):AO:=.ins k.cls ((20,.str t)::k.rest)
def iu (μ:Mu) (a:Nat) (k:MK) (t:Tx):Prop:=af μ a=some (k.cls,(20,.str t)::k.rest)
def Ax:List Nat:=[48,49,50,51,52,53,54,55,56,57,97,98,99,100,101,102]
def CV (x:List Nat) (c:Nat):Int:=Txt.find ⟨x.toArray⟩ ⟨[c].toArray⟩
def Mr (c:Nat):Int:=CV Ax c
def fW (B:Int) (t:List Nat):Int:=t.foldl (fun n c=>n*B+Mr c) 0
def Jk (B:Int):Prop:=B=10∨B=16
theorem vW (B:Int) (t:List Nat) (c:Nat):fW B (t++[c])=fW B t*B+Mr c:=by simp[fW]
def ES (c:Nat):Bool:=xk c&&!(c==59||c==10)
def kB:List Tx:=[[108,101,110,103,116,104],[112,105,101,99,101,115],[112,97,114,116,115],[114,101,115,116]]
theorem Cd:gT=kh kB:=rfl
def xg (M R:Int) (t:Tx):Bool:=!(decide (R<1)||decide ((t.length:Int)>M))&&(decide ((t.length:Int)<M)||!decide (t∈kB))
def MK.tk:MK→Tx→Nat→Bool
 | .ex g,t,c=>pre (t++[c]) g
 | .num B M,t,c=>!(decide (CV (Ax.take B.toNat) c<0)||t==[48])&&decide (fW B t*B+CV (Ax.take B.toNat) c≤M)
 | .val M,t,c=>ES c&&(if c=32 then decide (0<(t.length:Int))&&decide ((t.length:Int)<M-1) else decide ((t.length:Int)<M))
 | .name M R nq,t,c=>nq.any (fun e=>pre (t++[c]) e)||(mU c&&xg M R (t++[c]))
 | .sg n,t,c=>xk c&&decide ((t.length:Int)<n)
def MK.gd:MK→Tx→Bool
 | .ex g,t=>t==g
 | .num _ _,t=>!(t==[])
 | .val _,t=>!(t==[])&&!(t.getLast?==some 32)
 | .name M R nq,t=>decide (t∈nq)||(!(t==[])&&(!decide (t∈kB)&&xg M R t))
 | .sg n,t=>decide ((t.length:Int)=n)
variable {μ:Mu} {a:Nat} {t:Tx} {c:Nat}
theorem Cq {g:Tx} (h:iu μ a (.ex g) t) (hl:t.length<10000) (hg:g.length≤10000):fj [.loc a,.str [c]] μ=.ok (.bl (MK.tk (.ex g) t c)) μ:=by
 have hz1:t.length+1≤cE:=by rw[bV]; omega
 have ho:af μ a=_:=h;simp[MK.rest,MK.cls] at ho;unfold fj;simp[ho,hz1,MK.tk]
theorem zi {M:Int} (h:iu μ a (.val M) t) (hl:t.length<10000):jK [.loc a,.str [c]] μ=.ok (.bl (MK.tk (.val M) t c)) μ:=by
 have hz:t.length≤cE:=by rw[bV]; omega
 have hz2:(2:Nat)≤cE:=by decide
 have ho:af μ a=_:=h;simp[MK.rest,MK.cls] at ho;unfold jK MK.tk;simp[ho,uC,hz,hz2,ES]
 cases xk c with
 | false=>simp
 | true=>
  by_cases h1:c=59
  ·simp[h1,hz2,ho,hz]
  ·by_cases h2:c=10
   ·simp[h2,hz2,ho,hz]
   ·by_cases h3:c=32
    ·subst h3
     by_cases h4:t=[]
     ·simp[h4] at ho; simp[h4,hz2,ho,hz]
     ·have h5:0<t.length:=q84.mpr h4
      simp[h5,hz2,ho,hz]
    ·have h1':¬ 59=c:=fun e=>h1 e.symm
     have h2':¬ 10=c:=fun e=>h2 e.symm
     simp[h1,h2,h3,h1',h2',hz2,ho,hz]
theorem Fh {B:Int} (hB:Jk B) (x:Int):mh x B=true:=by
 have h10:sm 64 10=true:=by decide+kernel
 have h16:sm 64 16=true:=by decide+kernel
 rcases hB with rfl|rfl<;>simp[mh,h10,h16]
theorem zZ {B M:Int} (hB:Jk B) (h:iu μ a (.num B M) t) (hl:t.length<1000000) :
  ∃ o,m5 1000000 (.s (t.map fun c=>.str [c])) 0 (dn 2) (bU (aB bK (aB qr (ab 1) (aQ 22 (ab 0))) (sh "str" uB (fC gN) (ac (ab 2) ag))) (dn 1)) [some (.loc a),some (.int 0),none] μ=.ok (.nx [some (.loc a),some (.int (fW B t)),o]) μ:=by
 have ho:af μ a=_:=h;simp[MK.rest,MK.cls] at ho;have hm:=Fh hB;obtain⟨ρ',μ',e,o,hρ,hμ⟩:=BP (g:=dn 2) (n:=1000000) (ds:=t.map fun c=>.str [c]) (ρ:=[some (.loc a),some (.int 0),none]) (μ:=μ) (fb:=bU (aB bK (aB qr (ab 1) (aQ 22 (ab 0))) (sh "str" uB (fC gN) (ac (ab 2) ag))) (dn 1))
  (fun k ρ ν=>∃ o,ρ=[some (.loc a),some (.int (fW B (t.take k))),o]∧ν=μ) ⟨none,rfl,rfl⟩ (by simpa using hl) (fun k d ρ ν hd ⟨o,hρ,hν⟩=>by
   subst hρ hν;rw[q33] at hd
   cases e:t[k]? with
   | none=>rw[e] at hd; cases hd
   | some c=>
    rw[e] at hd;cases hd;refine⟨_,_,_,_,rfl,?_,some (.str [c]),rfl,rfl⟩;rw[q94,e,Option.toList_some,vW]
    simp[ho,hm,gN,Mr,CV,Ax])
 refine⟨o,?_⟩;rw[e,hρ,hμ];simp
theorem wE {B M:Int} (hB:Jk B) (h:iu μ a (.num B M) t) (hl:t.length<1000000):fq [.loc a] μ=.ok (.int (fW B t)) μ:=by
 obtain⟨o,e⟩:=zZ hB h hl;have ho:af μ a=_:=h;simp[MK.rest,MK.cls] at ho;unfold fq;simp[ho,e]
theorem Aj {B M:Int} (hB:Jk B) (h:iu μ a (.num B M) t) (hl:t.length<10000):ji [.loc a,.str [c]] μ=.ok (.bl (MK.tk (.num B M) t c)) μ:=by
 have ho:af μ a=_:=h;simp[MK.rest,MK.cls] at ho;have hm:=Fh hB
 have cB:kG [48,49,50,51,52,53,54,55,56,57,97,98,99,100,101,102] none (some B)=Ax.take B.toNat:=by rcases hB with rfl|rfl<;>rfl
 unfold ji MK.tk
 by_cases h1:CV (Ax.take B.toNat) c<0
 ·have h1':Txt.find ⟨(Ax.take B.toNat).toArray⟩ ⟨[c].toArray⟩<0:=h1
  simp[ho,gN,bV,cB,h1,h1']
 ·have h1':¬ Txt.find ⟨(Ax.take B.toNat).toArray⟩ ⟨[c].toArray⟩<0:=h1
  by_cases h2:t=[48]
  ·simp[ho,gN,bV,cB,h1,h1',h2]
  ·have h3:(t==[48])=false:=by simp[h2]
   simp[ho,gN,bV,cB,h1,h1',h3,wE hB h (by omega),hm];simp[CV]
theorem ik (x:Tx) (xs:List Tx) (neg:Bool) (μ:Mu):oy neg (.str x) (kh xs) μ=.ok (.bl (if neg then !decide (x∈xs) else decide (x∈xs))) μ:=Jr _ _ _
theorem ye {M R:Int} {nq:List Tx} (h:iu μ a (.name M R nq) t) (x:Tx) (hz:x.length≤cE):bR [.loc a,.str x] μ=.ok (.bl (xg M R x)) μ:=by
 have ho:af μ a=_:=h;simp[MK.rest,MK.cls] at ho;unfold bR xg;rw[Cd]
 by_cases h1:R<1
 ·simp[ho,hz,h1]
 ·by_cases h2:M<(x.length:Int)
  ·simp[ho,hz,h1,h2]
  ·by_cases h3:(x.length:Int)<M
   ·simp[ho,hz,h1,h2,h3]
   ·simp[-lR,ho,hz,h1,h2,h3,ik]
theorem BL {M R:Int} {nq:List Tx} (h:iu μ a (.name M R nq) t) (hl:t.length<10000) (he:nq.length<1000):j3 [.loc a,.str [c]] μ=.ok (.bl (MK.tk (.name M R nq) t c)) μ:=by
 have ho:af μ a=_:=h;simp[MK.rest,MK.cls] at ho
 have hz1:t.length+1≤cE:=by rw[bV]; omega
 have hc:=y8 (n:=1000000) (caps:=[none,some 2]) (fi:=rP (aQ 25 (ab 0))) (fe:=sh "str" oI (ab 0) (ac (ab 1) ag)) (ρ:=[some (.loc a),some (.str [c]),some (.str (t++[c]))]) (μ:=μ) (μ1:=μ) (rest:=[some (.str (t++[c]))]) nq .str (fun e=>.bl (pre (t++[c]) e)) (by simp[ho,kh]) rfl (fun e _ μ=>by simp) (by omega) (by omega);have hcg:=ye (μ:=μ++[.lst (nq.map fun e=>.bl (pre (t++[c]) e))]) (a:=a) (t:=t) (M:=M) (R:=R) (nq:=nq) (by unfold iu; rw[x5 _ (fY h)]; exact h) (t++[c]) (by simpa using hz1)
 have ho2:af (μ++[.lst (nq.map fun e=>.bl (pre (t++[c]) e))]) a=some (6,[(20,.str t),(23,.int M),(24,.int R),(25,kh nq)]):=by rw[x5 _ (fY h)]; exact ho
 unfold j3 MK.tk
 cases e1:nq.any (fun e=>pre (t++[c]) e) with
 | true=>simp[ho,hz1,hc,e1]
 | false=>
  cases e2:mU c with
  | true=>simp[ho,hz1,hc,e1,uw,e2,ho2,hcg]
  | false=>simp[ho,hz1,hc,e1,uw,e2]
theorem vd {M R:Int} {nq:List Tx} (h:iu μ a (.name M R nq) t) (hl:t.length<10000):gX [.loc a] μ=.ok (.bl (MK.gd (.name M R nq) t)) μ:=by
 have ho:af μ a=_:=h;simp[MK.rest,MK.cls] at ho;have hcg:=ye h t (by rw[bV]; omega);unfold gX MK.gd;rw[Cd]
 by_cases h1:t∈nq
 ·simp[-lR,ho,ik,h1]
 ·by_cases h2:t=[]
  ·simp[-lR,ho,ik,h1,h2]
   simp[h2] at h1 ho⊢;simp[-lR,ho,ik,h1]
  ·have h2':(t==[])=false:=by simp[h2]
   by_cases h3:t∈kB
   ·simp[-lR,ho,ik,h1,h2',h3]
   ·simp[-lR,ho,ik,h1,h2',h3,hcg]
theorem yp {M R:Int} {nq:List Tx} (h:iu μ a (.name M R nq) t) (hl:t.length<10000) (hg:MK.gd (.name M R nq) t=true):dk [.loc a] μ=.ok (.str []) μ:=by
 have ho:af μ a=_:=h;simp[MK.rest,MK.cls] at ho;have e:=vd h hl;rw[hg] at e;unfold dk;simp[ho,e]
def MK.sz:MK→Prop
 | .ex g=>g.length≤10000
 | .name _ _ nq=>nq.length<1000
 | .num B _=>Jk B
 | _=>True
theorem B7 {n:Int} (h:iu μ a (.sg n) t) (hl:t.length<10000):jF [.loc a,.str [c]] μ=.ok (.bl (MK.tk (.sg n) t c)) μ:=by
 have hz:t.length≤cE:=by rw[bV]; omega
 have ho:af μ a=_:=h;simp[MK.rest,MK.cls] at ho;unfold jF MK.tk
 cases hp:xk c<;>simp[ho,uC,hp,hz]
theorem mF (k:MK) (h:iu μ a k t) (hl:t.length<10000) (hs:k.sz):aV [.loc a,.str [c]] μ=if k.tk t c=true then .ok (.bl true) (μ.set a (k.obj (t++[c]))) else .ok (.bl false) μ:=by
 have hz1:t.length+1≤cE:=by rw[bV]; omega
 have hr:k.rest.length<100:=by cases k<;>simp[MK.rest]
 have ho:af μ a=_:=h;unfold aV
 cases k with
 | ex g=>
  have e:=Cq (c:=c) h hl hs;simp only[MK.rest,MK.cls] at ho
  cases hk:MK.tk (.ex g) t c with
  | true=>rw[hk] at e; simp[ho,e,hz1]; exact eW (by simp)
  | false=>rw[hk] at e; simp[ho,e]
 | num B M=>
  have e:=Aj (c:=c) hs h hl;simp only[MK.rest,MK.cls] at ho
  cases hk:MK.tk (.num B M) t c with
  | true=>rw[hk] at e; simp[ho,e,hz1]; exact eW (by simp)
  | false=>rw[hk] at e; simp[ho,e]
 | val M=>
  have e:=zi (c:=c) h hl;simp only[MK.rest,MK.cls] at ho
  cases hk:MK.tk (.val M) t c with
  | true=>rw[hk] at e; simp[ho,e,hz1]; exact eW (by simp)
  | false=>rw[hk] at e; simp[ho,e]
 | name M R nq=>
  have e:=BL (c:=c) h hl hs;simp only[MK.rest,MK.cls] at ho
  cases hk:MK.tk (.name M R nq) t c with
  | true=>rw[hk] at e; simp[ho,e,hz1]; exact eW (by simp)
  | false=>rw[hk] at e; simp[ho,e]
 | sg n=>
  have e:=B7 (c:=c) h hl;simp only[MK.rest,MK.cls] at ho
  cases hk:MK.tk (.sg n) t c with
  | true=>rw[hk] at e; simp[ho,e,hz1]; exact eW (by simp)
  | false=>rw[hk] at e; simp[ho,e]
theorem yz {g:Tx} (h:iu μ a (.ex g) t):cW [.loc a] μ=.ok (.bl (t==g)) μ:=by
 have ho:af μ a=_:=h;simp[MK.rest,MK.cls] at ho;unfold cW;simp[ho]
theorem yP (k:MK) (h:iu μ a k t) (hl:t.length<10000) (fo:FE) (ρ:Ev) (hf:fo ρ μ=.ok (.loc a) μ):aD 1 [(6,gX),(5,gh),(3,eE),(1,cW),(7,fw)] fo ag ρ μ=.ok (.bl (k.gd t)) μ:=by
 have ho:af μ a=_:=h
 cases k with
 | ex g=>
  have e:=yz h;simp only[MK.rest,MK.cls] at ho;simp[hf,ho,e,MK.gd]
 | num B M=>
  simp only[MK.rest,MK.cls] at ho;simp[hf,ho,eE,MK.gd]
 | sg n=>
  have hz:t.length≤cE:=by rw[bV]; omega
  simp only[MK.rest,MK.cls] at ho;simp[hf,ho,fw,MK.gd,hz]
  rfl
 | val M=>
  simp only[MK.rest,MK.cls] at ho
  by_cases h1:t=[]
  ·subst h1
   simp[hf,ho,gh,MK.gd]
  ·have h2:(t==[])=false:=by simp[h1]
   have hz:t.length≤cE:=by rw[bV]; omega
   have hp:0<t.length:=q84.mpr h1;obtain⟨z,hz'⟩:∃ z,t[t.length-1]?=some z:=⟨_,q34 (by omega)⟩;simp[hf,ho,gh,MK.gd,h2,hz,hz',List.getLast?_eq_getElem?]
 | name M R nq=>
  have e:=vd h hl;simp only[MK.rest,MK.cls] at ho;simp[hf,ho,e]
def MK.told:MK→Tx→AV
 | .num B _,t=>.int (fW B t)
 | _,t=>.str t
theorem Et (k:MK) (h:iu μ a k t) (hl:t.length<10000) (hs:k.sz) (fo:FE) (ρ:Ev) (hf:fo ρ μ=.ok (.loc a) μ):aD 1 [(6,aK),(5,aK),(3,fq),(1,aK),(7,aK)] fo ag ρ μ=.ok (k.told t) μ:=by
 have ho:af μ a=_:=h
 cases k with
 | ex g=>
  simp only[MK.rest,MK.cls] at ho;simp[hf,ho,aK,MK.told]
 | num B M=>
  have e:=wE hs h (by omega);simp only[MK.rest,MK.cls] at ho;simp[hf,ho,e,MK.told]
 | sg n=>
  simp only[MK.rest,MK.cls] at ho;simp[hf,ho,aK,MK.told]
 | val M=>
  simp only[MK.rest,MK.cls] at ho;simp[hf,ho,aK,MK.told]
 | name M R nq=>
  simp only[MK.rest,MK.cls] at ho;simp[hf,ho,aK,MK.told]
def t5 (μ:Mu) (a m x:Nat) (cl:Bool):Prop:=af μ a=some (8,[(27,.loc m),(28,.loc x),(29,.bl cl)])
def ni (m x:Nat) (cl:Bool):AO:=.ins 8 [(27,.loc m),(28,.loc x),(29,.bl cl)]
theorem MK.cls_ne (k:MK):k.cls≠8∧k.cls≠9∧k.cls≠10:=by cases k<;>simp[MK.cls]
theorem t5.fed {m x:Nat} {cl:Bool} {k:MK} {g ct:Tx} (h:t5 μ a m x cl) (hm:iu μ m k t) (hx:iu μ x (.ex g) ct) (hmx:m≠x) (hl:t.length<10000) (hl':ct.length<10000) (hs:k.sz) (hg:g.length≤10000) :
  bA [.loc a,.str [c]] μ=if (!cl&&k.tk t c)=true then .ok (.bl true) (μ.set m (k.obj (t++[c]))) else if (k.gd t&&pre (ct++[c]) g)=true then .ok (.bl true) ((μ.set x (MK.obj (.ex g) (ct++[c]))).set a (ni m x true)) else .ok (.bl false) μ:=by
 have ho:af μ a=_:=h;have hom:af μ m=_:=hm;have e1:=mF (c:=c) k hm hl hs;have e3:=mF (c:=c) (.ex g) hx hl' hg;have hox:af μ x=some (1,[(20,.str ct),(21,.str g)]):=hx
 have hax:x≠a:=by rintro rfl; have:=ho.symm.trans hox; simp at this
 have e2:∀ ρ,aD 1 [(6,gX),(5,gh),(3,eE),(1,cW),(7,fw)] (aQ 27 (ab 0)) ag (some (.loc a)::ρ) μ=.ok (.bl (k.gd t)) μ:=fun ρ=>yP k hm hl _ _ (by simp[ho])
 have d1:∀ ρ,aD 2 [(6,aV),(5,aV),(3,aV),(1,aV),(7,aV)] (aQ 27 (ab 0)) (ac (ab 1) ag) (some (.loc a)::some (.str [c])::ρ) μ=aV [.loc m,.str [c]] μ:=fun ρ=>by
  cases k<;>(simp only[MK.cls] at hom; simp[ho,hom])
 have d3:∀ ρ,aD 2 [(1,aV)] (aQ 28 (ab 0)) (ac (ab 1) ag) (some (.loc a)::some (.str [c])::ρ) μ=aV [.loc x,.str [c]] μ:=fun ρ=>by simp[ho,hox]
 rw[e1] at d1;rw[e3] at d3;simp only[MK.tk] at d3
 have ho2:∀ o,af (μ.set x o) a=some (8,[(27,.loc m),(28,.loc x),(29,.bl cl)]):=fun o=>by rw[k0 hax]; exact ho
 unfold bA
 cases cl with
 | true=>
  cases h2:k.gd t with
  | false=>simp[-jy,ho,e2,h2]
  | true=>
   cases h3:pre (ct++[c]) g with
   | false=>simp[-jy,ho,e2,h2,d3,h3]
   | true=>
    simp[-jy,ho,e2,h2,d3,h3,ho2];exact eW (by simp)
 | false=>
  cases h1:k.tk t c with
  | true=>
   simp[-jy,ho,d1,h1];exact eW (by simp)
  | false=>
   cases h2:k.gd t with
   | false=>simp[-jy,ho,d1,h1,e2,h2]
   | true=>
    cases h3:pre (ct++[c]) g with
    | false=>simp[-jy,ho,d1,h1,e2,h2,d3,h3]
    | true=>
     simp[-jy,ho,d1,h1,e2,h2,d3,h3,ho2];exact eW (by simp)
theorem t5.good {m x:Nat} {cl:Bool} {g ct:Tx} (h:t5 μ a m x cl) (hx:iu μ x (.ex g) ct):cX [.loc a] μ=.ok (.bl (ct==g)) μ:=by
 have ho:af μ a=_:=h;have hox:af μ x=some (1,[(20,.str ct),(21,.str g)]):=hx;have e:=yz hx;unfold cX;simp[ho,hox,e]
theorem t5.told {m x:Nat} {cl:Bool} {k:MK} (h:t5 μ a m x cl) (hm:iu μ m k t) (hl:t.length<10000) (hs:k.sz):cF [.loc a] μ=.ok (k.told t) μ:=by
 have ho:af μ a=_:=h
 have e:∀ ρ,aD 1 [(6,aK),(5,aK),(3,fq),(1,aK),(7,aK)] (aQ 27 (ab 0)) ag (some (.loc a)::ρ) μ=.ok (k.told t) μ:=fun ρ=>Et k hm hl hs _ _ (by simp[ho])
 unfold cF;simp[-jy,e]
def wK (bk:AV) (nq:List Tx) (nm hd:Nat) (v:AV):AO:=.ins 9 [(30,bk),(25,kh nq),(31,.loc nm),(32,.loc hd),(33,v)]
def Ay (μ:Mu) (r:Nat) (bk:AV) (nq:List Tx) (nm hd:Nat) (v:AV):Prop:=af μ r=some (9,[(30,bk),(25,kh nq),(31,.loc nm),(32,.loc hd),(33,v)])
theorem iu.set_ne {k:MK} (h:iu μ a k t) {b:Nat} (o:AO) (hb:b≠a):iu (μ.set b o) a k t:=by unfold iu; rw[k0 hb]; exact h
theorem iu.set_self {k k':MK} {t':Tx} (h:iu μ a k t):iu (μ.set a (k'.obj t')) a k' t':=gA (fY h)
theorem t5.set_ne {m x:Nat} {cl:Bool} (h:t5 μ a m x cl) {b:Nat} (o:AO) (hb:b≠a):t5 (μ.set b o) a m x cl:=by unfold t5; rw[k0 hb]; exact h
theorem Ay.set_ne {bk v:AV} {nq:List Tx} {nm hd r:Nat} (h:Ay μ r bk nq nm hd v) {b:Nat} (o:AO) (hb:b≠r):Ay (μ.set b o) r bk nq nm hd v:=by unfold Ay; rw[k0 hb]; exact h
theorem cJ {i j C D:Nat} {fs gs:List (Nat×AV)} (h:af μ i=some (C,fs)) (h':af μ j=some (D,gs)) (hne:C≠D):i≠j:=by
 rintro rfl;have:=h.symm.trans h';simp at this;exact hne this.1
structure ib (μ:Mu) (r nm hd x:Nat) (bk:AV) (nq:List Tx) (M R:Int) (t:Tx) (cl:Bool) (ct:Tx):Prop where
 f:Ay μ r bk nq nm hd .non
 n:iu μ nm (.name M R nq) t
 h:t5 μ hd nm x cl
 x:iu μ x (.ex [58,32]) ct
variable {r nm hd x:Nat} {bk:AV} {nq:List Tx} {M R:Int} {cl:Bool} {ct:Tx}
theorem ib.ne (h:ib μ r nm hd x bk nq M R t cl ct):nm≠x∧nm≠r∧nm≠hd∧x≠hd∧x≠r∧hd≠r:=by
 have h1:af μ nm=some (6,_):=h.n;have h2:af μ x=some (1,_):=h.x;have h3:af μ hd=some (8,_):=h.h;have h4:af μ r=some (9,_):=h.f;exact⟨cJ h1 h2 (by decide),cJ h1 h4 (by decide),cJ h1 h3 (by decide),cJ h2 h3 (by decide),cJ h2 h4 (by decide),cJ h3 h4 (by decide)⟩
theorem ib.name (h:ib μ r nm hd x bk nq M R t false []) (hl:t.length<10000) (he:nq.length<1000) (hk:MK.tk (.name M R nq) t c=true) :
  bc [.loc r,.str [c]] μ=.ok (.bl true) (μ.set nm (MK.obj (.name M R nq) (t++[c])))∧ib (μ.set nm (MK.obj (.name M R nq) (t++[c]))) r nm hd x bk nq M R (t++[c]) false []:=by
 obtain⟨n1,n2,n3,n4,n5,n6⟩:=h.ne;have e:=h.h.fed (c:=c) h.n h.x n1 hl (by decide) he (by decide);rw[if_pos (by simp[hk])] at e;have z:ib (μ.set nm (MK.obj (.name M R nq) (t++[c]))) r nm hd x bk nq M R (t++[c]) false []:=⟨h.f.set_ne _ n2,h.n.set_self,h.h.set_ne _ n3,h.x.set_ne _ n1⟩;have eg:=z.h.good z.x;have ho:af μ r=_:=h.f;have hoh:af μ hd=_:=h.h;have ho':af (μ.set nm (MK.obj (.name M R nq) (t++[c]))) r=_:=z.f;have hoh':af (μ.set nm (MK.obj (.name M R nq) (t++[c]))) hd=_:=z.h;refine⟨?_,z⟩;unfold bc;simp[ho,hoh,e,ho',hoh',eg];exact eW (by simp)
def setC (μ:Mu) (x hd nm:Nat) (ct:Tx):Mu:=(μ.set x (MK.obj (.ex [58,32]) ct)).set hd (ni nm x true)
theorem ib.toC (h:ib μ r nm hd x bk nq M R t cl ct) (ct':Tx):ib (setC μ x hd nm ct') r nm hd x bk nq M R t true ct':=by
 obtain⟨n1,n2,n3,n4,n5,n6⟩:=h.ne;refine⟨(h.f.set_ne _ n5).set_ne _ n6,(h.n.set_ne _ (q56 n1)).set_ne _ (q56 n3),?_,h.x.set_self.set_ne _ (q56 n4)⟩;exact gA (by rw[q66]; exact fY h.h)
theorem ib.colon (h:ib μ r nm hd x bk nq M R t false []) (hl:t.length<10000) (he:nq.length<1000) (hk:MK.tk (.name M R nq) t 58=false) (hg:MK.gd (.name M R nq) t=true) :
  bc [.loc r,.str [58]] μ=.ok (.bl true) (setC μ x hd nm [58])∧ib (setC μ x hd nm [58]) r nm hd x bk nq M R t true [58]:=by
 obtain⟨n1,n2,n3,n4,n5,n6⟩:=h.ne;have e:=h.h.fed (c:=58) h.n h.x n1 hl (by decide) he (by decide);rw[if_neg (by simp[hk]),if_pos (by simp[hg,pre])] at e;have z:=h.toC [58];have eg:=z.h.good z.x;have ho:af μ r=_:=h.f;have hoh:af μ hd=_:=h.h;have ho':af (setC μ x hd nm [58]) r=_:=z.f;have hoh':af (setC μ x hd nm [58]) hd=_:=z.h;refine⟨?_,z⟩
 change bA [.loc hd,.str [58]] μ=.ok (.bl true) (setC μ x hd nm [58]) at e
 unfold bc;simp[ho,hoh,e,ho',hoh',eg];exact eW (by simp[setC])
theorem gF (μ:Mu) (o o':AO):(μ++[o]).set μ.length o'=μ++[o']:=by rw[q79 _ _ (q11 _)]; simp
theorem jC (μ:Mu) (o o':AO) (r:Mu):(μ++o::r).set μ.length o'=μ++o'::r:=by rw[q79 _ _ (q11 _)]; simp
theorem mz (μ:Mu) (o o':AO):iq (μ++[o]) (.ok .non (μ++[o']))=.ok .non (μ++[o']):=eW (by simp)
theorem lQ {l:Nat} {m:Mu} (h:μ.length≤l):iq μ (.ok (.loc l) m)=.ok (.loc l) m:=by
 have hc:¬ AC μ (.loc l) m:=fun h=>by
  have:=h.1;simp[kv] at this;omega
 simp[iq,hc]
theorem gH {i:Nat} {o:AO} {m:Mu} {d:AV} (hi:i<μ.length) (hm:m[i]?=some o) (hb:jU μ.length o=false) (hne:μ[i]?≠some o):iq μ (.ok d m)=.ok d m:=by
 have hc:¬ AC μ d m:=fun h=>by
  rcases h.2.2 i hi with z|⟨o',z,z'⟩
  ·exact hne (z.symm.trans hm)
  ·rw[hm] at z
   cases z;rw[hb] at z';cases z'
 simp[iq,hc]
theorem lV (C:Nat) (hC:vK [1,2,3,5,6,7] C=true) (μ:Mu):iw [.loc μ.length] (μ++[.ins C []])=.ok .non (μ++[.ins C [(20,.str [])]]):=by
 unfold iw;simp[gF,-GT,-CZ,hC];exact mz _ _ _
theorem lm (C:Nat) (hC:C=1∨C=2) (g:Tx) (μ:Mu):gj [.loc μ.length,.str g] (μ++[.ins C []])=.ok .non (μ++[.ins C [(20,.str []),(21,.str g)]]):=by
 have e:=lV C (by rcases hC with rfl|rfl<;>rfl) μ;unfold gj
 rcases hC with rfl|rfl
 ·simp[e,gF]
  exact mz _ _ _
 ·simp[e,gF]
  exact mz _ _ _
theorem lJ (B m:Int) (μ:Mu):jJ [.loc μ.length,.int B,.int m] (μ++[.ins 3 []])=.ok .non (μ++[MK.obj (.num B m) []]):=by
 have e:=lV 3 rfl μ;unfold jJ;simp[e,gF];exact mz _ _ _
theorem ms (n:Int) (μ:Mu):iy [.loc μ.length,.int n] (μ++[.ins 7 []])=.ok .non (μ++[MK.obj (.sg n) []]):=by
 have e:=lV 7 rfl μ;unfold iy;simp[e,gF];exact mz _ _ _
theorem tj (m:Int) (μ:Mu):kT [.loc μ.length,.int m] (μ++[.ins 5 []])=.ok .non (μ++[MK.obj (.val m) []]):=by
 have e:=lV 5 rfl μ;unfold kT;simp[e,gF];exact mz _ _ _
theorem An (M R:Int) (nq:List Tx) (μ:Mu):lI [.loc μ.length,.int M,.int R,kh nq] (μ++[.ins 6 []])=.ok .non (μ++[MK.obj (.name M R nq) []]):=by
 have e:=lV 6 rfl μ;unfold lI;simp[e,gF];exact mz _ _ _
theorem j0 (m:Nat) (g:Tx) (μ:Mu):fA [.loc μ.length,.loc m,.str g] (μ++[.ins 8 []])=.ok .non (μ++[ni m (μ.length+1) false,MK.obj (.ex g) []]):=by
 have e:=lm 1 (.inl rfl) g (μ++[.ins 8 [(27,.loc m)]]);simp at e;unfold fA;simp[e,gF,jC];exact gH (i:=μ.length) (o:=ni m (μ.length+1) false) (by simp) (by simp[ni]) (by simp[jU,g8,kv,ni]) (by simp[ni])
def fV (a b d e m p q:Int):AV:=.tup [.int a,.int b,.int d,.int e,.int m,.int p,.int q]
def li:Tx:=[108,101,110,103,116,104]
def xo:Tx:=[121,101,115]
def vk (nq:List Tx) (t:Tx) (d m:Int):MK:=if t∈nq then (if t=li then .num 10 m else .ex xo) else .val d
theorem ntc {v:AV} (hf:Ay μ r bk nq nm hd v) (hn:iu μ nm (.name M R nq) t) (hl:t.length<10000) (hg:MK.gd (.name M R nq) t=true):bH [.loc r] μ=.ok (.str t) μ:=by
 have ho:af μ r=_:=hf;have hon:af μ nm=some (6,[(20,.str t),(23,.int M),(24,.int R),(25,kh nq)]):=hn;have e:=yp hn hl hg
 have hz:t.length≤cE:=by rw[bV]; omega
 unfold bH;simp[ho,hon,aK,e,hz]
theorem vtc {b0 b1 d b3 m b5 b6:Int} {v:AV} (hf:Ay μ r (fV b0 b1 d b3 m b5 b6) nq nm hd v) (hn:iu μ nm (.name M R nq) t) (hl:t.length<10000) (hg:MK.gd (.name M R nq) t=true) :
  bP [.loc r] μ=.ok (.loc (μ.length+1)) (μ++[(vk nq t d m).obj [],ni μ.length (μ.length+2) false,MK.obj (.ex [59,10]) []]):=by
 have ho:af μ r=_:=hf;have e:=ntc hf hn hl hg
 have ec:=fun (o:AO)=>j0 μ.length [59,10] (μ++[o])
 simp at ec;have hz:μ.length+1=μ.length+1:=rfl
 have gg:∀ m,iq μ (.ok (.loc (μ.length+1)) m)=.ok (.loc (μ.length+1)) m:=fun m=>lQ (by omega)
 unfold bP vk
 by_cases h1:t∈nq
 ·by_cases h2:t=li
  ·have h2':t=[108,101,110,103,116,104]:=h2
   rw[if_pos h1,if_pos h2];simp[-lR,ho,e,ik,h1,← h2',fV,eS,lJ,bi,ec,gg]
  ·have h2':¬ t=[108,101,110,103,116,104]:=h2
   have e3:=lm 1 (.inl rfl) xo μ;unfold xo at e3;rw[if_pos h1,if_neg h2];simp[-lR,ho,e,ik,h1,h2',e3,bi,ec,gg]
   rfl
 ·rw[if_neg h1]
  simp[-lR,ho,e,ik,h1,fV,fB,tj,bi,ec,gg]
structure jR (μ:Mu) (r nm hd vc mk x2:Nat) (bk:AV) (nq:List Tx) (M R:Int) (t:Tx) (k:MK) (vt:Tx) (cl:Bool) (ct:Tx):Prop where
 f:Ay μ r bk nq nm hd (.loc vc)
 n:iu μ nm (.name M R nq) t
 v:t5 μ vc mk x2 cl
 m:iu μ mk k vt
 x:iu μ x2 (.ex [59,10]) ct
 mx:mk≠x2
 nmk:k.cls≠6
def setR (μ:Mu) (r:Nat) (bk:AV) (nq:List Tx) (nm hd:Nat) (k:MK):Mu:=(μ++[k.obj [],ni μ.length (μ.length+2) false,MK.obj (.ex [59,10]) []]).set r (wK bk nq nm hd (.loc (μ.length+1)))
theorem rM (i:Nat) (C:Nat) (fs:List (Nat×AV)) (u:Mu) (h:af μ i=some (C,fs)):af (μ++u) i=some (C,fs):=by rw[x5 _ (fY h)]; exact h
theorem sB (nq:List Tx) (t:Tx) (d m:Int):(vk nq t d m).cls≠6∧(vk nq t d m).sz:=by
 unfold vk;split
 ·split
  ·exact⟨by simp[MK.cls],.inl rfl⟩
  ·exact⟨by simp[MK.cls],by simp[MK.sz,xo]⟩
 ·exact⟨by simp[MK.cls],trivial⟩
theorem ib.toV (h:ib μ r nm hd x bk nq M R t cl ct) (k:MK) (hk:k.cls≠6):jR (setR μ r bk nq nm hd k) r nm hd (μ.length+1) μ.length (μ.length+2) bk nq M R t k [] false []:=by
 have l1:=fY h.f;have l2:=fY h.n;obtain⟨n1,n2,n3,n4,n5,n6⟩:=h.ne;refine⟨gA (by simp; omega),?_,?_,?_,?_,by omega,hk⟩
 ·refine iu.set_ne (rM _ _ _ _ h.n) _ (q56 n2)
 ·refine t5.set_ne ?_ _ (by omega)
  unfold t5;simp[af,ni]
 ·refine iu.set_ne ?_ _ (by omega)
  unfold iu;simp[af,MK.obj]
 ·refine iu.set_ne ?_ _ (by omega)
  unfold iu;simp[af,MK.obj]
theorem ib.blank {b0 b1 d b3 m b5 b6:Int} (h:ib μ r nm hd x (fV b0 b1 d b3 m b5 b6) nq M R t true [58]) (hl:t.length<10000) (he:nq.length<1000) (hg:MK.gd (.name M R nq) t=true) :
  ∃ μ',bc [.loc r,.str [32]] μ=.ok (.bl true) μ'∧μ'=setR (setC μ x hd nm [58,32]) r (fV b0 b1 d b3 m b5 b6) nq nm hd (vk nq t d m):=by
 obtain⟨n1,n2,n3,n4,n5,n6⟩:=h.ne;have e:=h.h.fed (c:=32) h.n h.x n1 hl (by decide) he (by decide);rw[if_neg (by simp),if_pos (by simp[hg,pre])] at e;have z:=h.toC [58,32];have eg:=z.h.good z.x;have ev:=vtc z.f z.n hl hg;have ho:af μ r=_:=h.f;have hoh:af μ hd=_:=h.h;have ho':af (setC μ x hd nm [58,32]) r=_:=z.f;have hoh':af (setC μ x hd nm [58,32]) hd=_:=z.h
 have hoV:∀ u,af (setC μ x hd nm [58,32]++u) r=some (9,[(30,fV b0 b1 d b3 m b5 b6),(25,kh nq),(31,.loc nm),(32,.loc hd),(33,.non)]):=fun u=>rM _ _ _ _ z.f
 refine⟨_,?_,rfl⟩
 change bA [.loc hd,.str [32]] μ=.ok (.bl true) (setC μ x hd nm [58,32]) at e
 unfold bc;simp[ho,hoh,e,ho',hoh',eg,ev,hoV]
 have hlen:(setC μ x hd nm [58,32]).length=μ.length:=by simp[setC]
 have hr:r<μ.length:=fY h.f;refine gH (i:=r) (o:=wK (fV b0 b1 d b3 m b5 b6) nq nm hd (.loc ((setC μ x hd nm [58,32]).length+1))) hr ?_ ?_ ?_
 ·rw[q15 (by simp[hlen]; omega)]; rfl
 ·simp[jU,g8,kv,wK,fV,kh,hlen]
 ·rw[iQ ho]
  simp[wK]
theorem jR.ne {vc mk x2:Nat} {k:MK} {vt:Tx} (h:jR μ r nm hd vc mk x2 bk nq M R t k vt cl ct):mk≠r∧mk≠nm∧mk≠vc∧x2≠r∧x2≠nm∧x2≠vc∧vc≠r∧vc≠nm:=by
 have h1:af μ nm=some (6,_):=h.n;have h2:af μ x2=some (1,_):=h.x;have h3:af μ vc=some (8,_):=h.v;have h4:af μ r=some (9,_):=h.f;have h5:af μ mk=some (k.cls,_):=h.m;have hc:=k.cls_ne;exact⟨cJ h5 h4 hc.2.1,cJ h5 h1 h.nmk,cJ h5 h3 hc.1,cJ h2 h4 (by decide),cJ h2 h1 (by decide),cJ h2 h3 (by decide),cJ h3 h4 (by decide),cJ h3 h1 (by decide)⟩
variable {vc mk x2:Nat} {k:MK} {vt:Tx}
theorem jR.value (h:jR μ r nm hd vc mk x2 bk nq M R t k vt false []) (hl:vt.length<10000) (hs:k.sz) (hk:k.tk vt c=true) :
  bc [.loc r,.str [c]] μ=.ok (.bl true) (μ.set mk (k.obj (vt++[c])))∧jR (μ.set mk (k.obj (vt++[c]))) r nm hd vc mk x2 bk nq M R t k (vt++[c]) false []:=by
 obtain⟨n1,n2,n3,n4,n5,n6,n7,n8⟩:=h.ne;have e:=h.v.fed (c:=c) h.m h.x h.mx hl (by decide) hs (by decide);rw[if_pos (by simp[hk])] at e;have ho:af μ r=_:=h.f;have hoh:af μ vc=_:=h.v;refine⟨?_,h.f.set_ne _ n1,h.n.set_ne _ n2,h.v.set_ne _ n3,h.m.set_self,h.x.set_ne _ h.mx,h.mx,h.nmk⟩;unfold bc;simp[ho,hoh,e];exact eW (by simp)
def setE (μ:Mu) (x2 vc mk:Nat) (ct:Tx):Mu:=(μ.set x2 (MK.obj (.ex [59,10]) ct)).set vc (ni mk x2 true)
theorem jR.toE (h:jR μ r nm hd vc mk x2 bk nq M R t k vt cl ct) (ct':Tx):jR (setE μ x2 vc mk ct') r nm hd vc mk x2 bk nq M R t k vt true ct':=by
 obtain⟨n1,n2,n3,n4,n5,n6,n7,n8⟩:=h.ne;refine⟨(h.f.set_ne _ n4).set_ne _ n7,(h.n.set_ne _ n5).set_ne _ n8,?_,(h.m.set_ne _ (q56 h.mx)).set_ne _ (q56 n3),h.x.set_self.set_ne _ (q56 n6),h.mx,h.nmk⟩;exact gA (by rw[q66]; exact fY h.v)
theorem jR.close (h:jR μ r nm hd vc mk x2 bk nq M R t k vt cl ct) (hl:vt.length<10000) (hs:k.sz) (hk:(!cl&&k.tk vt c)=false) (hg:k.gd vt=true) (hc:pre (ct++[c]) [59,10]=true) (hct:ct.length<100) :
  bc [.loc r,.str [c]] μ=.ok (.bl true) (setE μ x2 vc mk (ct++[c])):=by
 have e:=h.v.fed (c:=c) h.m h.x h.mx hl (by omega) hs (by decide);rw[if_neg (by simp[hk]),if_pos (by simp[hg,hc])] at e;have ho:af μ r=_:=h.f;have hoh:af μ vc=_:=h.v
 change bA [.loc vc,.str [c]] μ=.ok (.bl true) (setE μ x2 vc mk (ct++[c])) at e
 unfold bc;simp[ho,hoh,e];exact eW (by simp[setE])
theorem jR.good (h:jR μ r nm hd vc mk x2 bk nq M R t k vt cl ct):eP [.loc r] μ=.ok (.bl (ct==[59,10])) μ:=by
 have ho:af μ r=_:=h.f;have hoh:af μ vc=_:=h.v;have e:=h.v.good h.x;unfold eP;simp[ho,hoh,e]
theorem ib.good (h:ib μ r nm hd x bk nq M R t cl ct):eP [.loc r] μ=.ok (.bl false) μ:=by
 have ho:af μ r=_:=h.f;unfold eP;simp[ho]
def ku (nq:List Tx) (t:Tx) (k:MK) (vt:Tx):AV:=if t∈nq then (if t=li then .tup [.str t,k.told vt] else .tup [.str t,.int 0]) else .non
theorem jR.etc (h:jR μ r nm hd vc mk x2 bk nq M R t k vt cl ct) (hl:t.length<10000) (hl':vt.length<10000) (hs:k.sz) (hg:MK.gd (.name M R nq) t=true):bO [.loc r] μ=.ok (ku nq t k vt) μ:=by
 have ho:af μ r=_:=h.f;have hoh:af μ vc=_:=h.v;have e:=ntc h.f h.n hl hg;have e2:=h.v.told h.m hl' hs;unfold bO ku
 by_cases h1:t∈nq
 ·by_cases h2:t=li
  ·have h2':t=[108,101,110,103,116,104]:=h2
   rw[if_pos h1,if_pos h2];simp[-lR,ho,hoh,e,ik,h1,← h2',e2,bV]
  ·have h2':¬ t=[108,101,110,103,116,104]:=h2
   rw[if_pos h1,if_neg h2];simp[-lR,ho,hoh,e,ik,h1,h2',bV]
 ·rw[if_neg h1]
  simp[-lR,ho,e,ik,h1]
theorem jR.told (h:jR μ r nm hd vc mk x2 bk nq M R t k vt cl ct) (hl':vt.length<10000) (hs:k.sz):cg [.loc r] μ=.ok (.tup [.str t,k.told vt]) μ:=by
 have ho:af μ r=_:=h.f;have hoh:af μ vc=_:=h.v;have hon:af μ nm=some (6,[(20,.str t),(23,.int M),(24,.int R),(25,kh nq)]):=h.n;have e2:=h.v.told h.m hl' hs;unfold cg;simp[ho,hoh,hon,aK,e2,bV]
theorem jP {y:Rs AV} {d:AV} {m:Mu} (h:iq μ y=.ok d m):iq μ (.ok d m)=.ok d m:=by
 cases y with
 | ok d' m'=>
  by_cases hc:AC μ d' m'
  ·have h2:Rs.ok d' (m'.take μ.length)=Rs.ok d m:=by rw[← h]; simp[iq,hc]
   cases h2;refine eW ?_;rw[q39];have:=hc.2.1;omega
  ·have h2:Rs.ok d' m'=Rs.ok d m:=by rw[← h]; simp[iq,hc]
   cases h2;simp[iq,hc]
 | exc C fs m'=>simp[iq] at h
 | no=>simp[iq] at h
def qw (bk:AV) (R0:Int) (nq:List Tx) (lp:Nat) (en row er:AV):List (Nat×AV):=[(30,bk),(24,.int R0),(25,kh nq),(34,.loc lp),(35,en),(36,row),(37,er)]
def oQ (bk:AV) (R0:Int) (nq:List Tx) (lp:Nat) (en row er:AV):AO:=.ins 10 (qw bk R0 nq lp en row er)
def jr (μ:Mu) (i:Nat) (bk:AV) (R0:Int) (nq:List Tx) (lp:Nat) (en row er:AV):Prop:=af μ i=some (10,qw bk R0 nq lp en row er)
theorem jr.set_ne {i lp:Nat} {R0:Int} {en row er:AV} (h:jr μ i bk R0 nq lp en row er) {b:Nat} (o:AO) (hb:b≠i):jr (μ.set b o) i bk R0 nq lp en row er:=by unfold jr; rw[k0 hb]; exact h
variable {i lp:Nat} {R0:Int} {en row er:AV} {ps:List AV}
theorem rZ (h:jr μ i bk R0 nq lp en row er) (hp:bu μ lp=some ps) (hl:ps.length<1000):d6 [.loc i] μ=.ok (.int (R0-ps.length)) μ:=by
 have ho:af μ i=some (10,[(30,bk),(24,.int R0),(25,kh nq),(34,.loc lp),(35,en),(36,row),(37,er)]):=h
 have hz:ps.length≤cE:=by rw[bV]; omega
 unfold d6;simp[ho,hp,hz]
theorem td {μ1:Mu} {fs fs1:List (Nat×AV)} (h:jr μ i bk R0 nq lp .non (.loc r) .non) (e:bc [.loc r,.str [c]] μ=.ok (.bl true) μ1) (h1:jr μ1 i bk R0 nq lp .non (.loc r) .non) (hr:af μ r=some (9,fs)) (hr1:af μ1 r=some (9,fs1)) (eg:eP [.loc r] μ1=.ok (.bl false) μ1) :
  bg [.loc i,.str [c]] μ=.ok (.bl true) μ1:=by
 have hg:iq μ (.ok (.bl true) μ1)=.ok (.bl true) μ1:=jP e;have ho:af μ i=some (10,[(30,bk),(24,.int R0),(25,kh nq),(34,.loc lp),(35,.non),(36,.loc r),(37,.non)]):=h;have ho1:af μ1 i=some (10,[(30,bk),(24,.int R0),(25,kh nq),(34,.loc lp),(35,.non),(36,.loc r),(37,.non)]):=h1;have hs:μ1.set i (.ins 10 [(30,bk),(24,.int R0),(25,kh nq),(34,.loc lp),(35,.non),(36,.loc r),(37,.non)])=μ1:=nj (iQ ho1)
 have e2:bN [.loc i,.str [c]] μ=.ok (.bl true) μ1:=by
  unfold bN;simp[ho,hr,e,ho1,hs,hr1,eg,hg]
 unfold bg;simp[ho,e2,hg]
def zQ (μ:Mu) (i:Nat) (bk:AV) (R0:Int) (nq:List Tx) (lp:Nat) (en:AV) (ps:List AV) (p:AV):Mu:=(match en with
 | .non=>μ.set lp (.lst (ps++[p]))
 | _=>μ).set i (oQ bk R0 nq lp en .non .non)
theorem C0 {μ1:Mu} (h:jr μ i bk R0 nq lp .non (.loc r) .non) (hp:μ[lp]?=some (.lst ps)) (hl:ps.length<1000) (hv:jR μ r nm hd vc mk x2 bk nq M R t k vt cl ct) (hs:k.sz) (hlt:t.length<10000) (hlv:vt.length<10000) (hg:MK.gd (.name M R nq) t=true) :
  gY [.loc i] μ=.ok .non (zQ μ i bk R0 nq lp (ku nq t k vt) ps (.tup [.str t,k.told vt])):=by
 have ho:af μ i=some (10,[(30,bk),(24,.int R0),(25,kh nq),(34,.loc lp),(35,.non),(36,.loc r),(37,.non)]):=h;have hor:af μ r=some (9,_):=hv.f;have hir:i≠r:=cJ h hor (by decide);have hin:i≠nm:=cJ h (show af μ nm=some (6,_) from hv.n) (by decide);have hiv:i≠vc:=cJ h (show af μ vc=some (8,_) from hv.v) (by decide);have him:i≠mk:=cJ h (show af μ mk=some (k.cls,_) from hv.m) (q56 k.cls_ne.2.2);have hix:i≠x2:=cJ h (show af μ x2=some (1,_) from hv.x) (by decide)
 have hlpi:i≠lp:=by
  rintro rfl;have:=(iQ h).symm.trans hp;simp at this
 have e1:=hv.etc hlt hlv hs hg
 have hz:ps.length<cE:=by rw[bV]; omega
 have hi:=fY h
 have oS:∀ fs,af (μ.set i (.ins 10 fs)) i=some (10,fs):=fun fs=>gA hi
 have oR:∀ o,af (μ.set i o) r=some (9,[(30,bk),(25,kh nq),(31,.loc nm),(32,.loc hd),(33,.loc vc)]):=fun o=>by rw[k0 hir]; exact hor
 have hv':∀ o,jR (μ.set i o) r nm hd vc mk x2 bk nq M R t k vt cl ct:=fun o=>⟨hv.f.set_ne _ hir,hv.n.set_ne _ hin,hv.v.set_ne _ hiv,hv.m.set_ne _ him,hv.x.set_ne _ hix,hv.mx,hv.nmk⟩
 have e2:∀ o,cg [.loc r] (μ.set i o)=.ok (.tup [.str t,k.told vt]) (μ.set i o):=fun o=>(hv' o).told hlv hs
 have hp':∀ o,(μ.set i o)[lp]?=some (.lst ps):=fun o=>by rw[q12 hlpi]; exact hp
 have hpl:∀ o,bu (μ.set i o) lp=some ps:=fun o=>by unfold bu; rw[hp' o]
 have oT:∀ fs o,af ((μ.set lp o).set i (.ins 10 fs)) i=some (10,fs):=fun fs o=>gA (by rw[q66]; exact hi)
 have hcm:∀ o o':AO,(μ.set i o).set lp o'=(μ.set lp o').set i o:=fun o o'=>List.set_comm _ _ hlpi
 unfold gY zQ
 cases hd:ku nq t k vt with
 | non=>
  rw[hd] at e1;simp[ho,hor,e1,oS,oR,e2,hp',hpl,hz,oT,hcm];exact eW (by simp)
 | tup ds=>
  rw[hd] at e1;simp[ho,hor,e1,oS,oR];exact eW (by simp)
 | _=>
  exfalso
  unfold ku at hd;split at hd
  ·split at hd<;>cases hd
  ·cases hd
theorem CB {μ1:Mu} {fs:List (Nat×AV)} (h:jr μ i bk R0 nq lp .non (.loc r) .non) (e:bc [.loc r,.str [c]] μ=.ok (.bl true) μ1) (hlen:μ1.length=μ.length) (h1:jr μ1 i bk R0 nq lp .non (.loc r) .non) (hr:af μ r=some (9,fs)) (hv:jR μ1 r nm hd vc mk x2 bk nq M R t k vt cl [59,10]) (hsz:k.sz) (hp:μ1[lp]?=some (.lst ps)) (hl:ps.length<1000) (hlt:t.length<10000) (hlv:vt.length<10000) (hg:MK.gd (.name M R nq) t=true) :
  bg [.loc i,.str [c]] μ=.ok (.bl true) (zQ μ1 i bk R0 nq lp (ku nq t k vt) ps (.tup [.str t,k.told vt])):=by
 have ho:af μ i=some (10,[(30,bk),(24,.int R0),(25,kh nq),(34,.loc lp),(35,.non),(36,.loc r),(37,.non)]):=h;have ho1:af μ1 i=some (10,[(30,bk),(24,.int R0),(25,kh nq),(34,.loc lp),(35,.non),(36,.loc r),(37,.non)]):=h1;have hr1:af μ1 r=some (9,_):=hv.f;have eg:=hv.good;have ek:=C0 (μ1:=μ1) h1 hp hl hv hsz hlt hlv hg;have hs:μ1.set i (.ins 10 [(30,bk),(24,.int R0),(25,kh nq),(34,.loc lp),(35,.non),(36,.loc r),(37,.non)])=μ1:=nj (iQ ho1);have hgc:iq μ (.ok (.bl true) (zQ μ1 i bk R0 nq lp (ku nq t k vt) ps (.tup [.str t,k.told vt])))=.ok (.bl true) (zQ μ1 i bk R0 nq lp (ku nq t k vt) ps (.tup [.str t,k.told vt])):=eW (by unfold zQ; cases ku nq t k vt<;>simp[hlen])
 have e2:bN [.loc i,.str [c]] μ=.ok (.bl true) (zQ μ1 i bk R0 nq lp (ku nq t k vt) ps (.tup [.str t,k.told vt])):=by
  unfold bN;simp[ho,hr,e,ho1,hs,hr1,eg,ek,hgc]
 unfold bg;simp[ho,e2,hgc]
theorem ut {b0 b1 d b3 m b5 b6:Int} (R:Int) (nq:List Tx) (μ:Mu):jM [.loc μ.length,fV b0 b1 d b3 m b5 b6,.int R,kh nq] (μ++[.ins 9 []])=.ok .non (μ++[wK (fV b0 b1 d b3 m b5 b6) nq (μ.length+1) (μ.length+2) .non,MK.obj (.name b1 (if d>0 then R else 0) nq) [],ni (μ.length+1) (μ.length+3) false,MK.obj (.ex [58,32]) []]):=by
 have e1:=An b1 (if d>0 then R else 0) nq (μ++[.ins 9 [(30,fV b0 b1 d b3 m b5 b6),(25,kh nq)]])
 have e2:=fun o=>j0 (μ.length+1) [58,32] (μ++[.ins 9 [(30,fV b0 b1 d b3 m b5 b6),(25,kh nq),(31,.loc (μ.length+1))],o])
 simp at e1 e2;unfold jM
 have hgc:∀ u,iq (μ++[AO.ins 9 []]) (.ok .non (μ++wK (fV b0 b1 d b3 m b5 b6) nq (μ.length+1) (μ.length+2) .non::u))=.ok .non (μ++wK (fV b0 b1 d b3 m b5 b6) nq (μ.length+1) (μ.length+2) .non::u):=fun u=>
  gH (i:=μ.length) (o:=wK (fV b0 b1 d b3 m b5 b6) nq (μ.length+1) (μ.length+2) .non) (by simp) (by simp) (by simp[jU,g8,kv,wK,fV,kh]) (by simp[wK])
 unfold wK fV at hgc;unfold fV at e1 e2
 by_cases hd:(0:Int)<d
 ·simp[hd] at e1
  simp[gF,jC,fV,j1,fB,hd,e1,e2,wK];exact hgc _
 ·simp[hd] at e1
  simp[gF,jC,fV,j1,fB,hd,e1,e2,wK];exact hgc _
theorem ib.set_ne (h:ib μ r nm hd x bk nq M R t cl ct) {b:Nat} (o:AO) (h1:b≠r) (h2:b≠nm) (h3:b≠hd) (h4:b≠x):ib (μ.set b o) r nm hd x bk nq M R t cl ct:=⟨h.f.set_ne _ h1,h.n.set_ne _ h2,h.h.set_ne _ h3,h.x.set_ne _ h4⟩
theorem Bv {b0 b1 d b3 m b5 b6:Int} (h:jr μ i (fV b0 b1 d b3 m b5 b6) R0 nq lp .non .non .non) (hp:bu μ lp=some ps) (hl:ps.length<1000) (he:nq.length<1000) (hc:c≠59) (hk:MK.tk (.name b1 (if d>0 then R0-ps.length else 0) nq) [] c=true) :
  ∃ ν,bg [.loc i,.str [c]] μ=.ok (.bl true) ν∧jr ν i (fV b0 b1 d b3 m b5 b6) R0 nq lp .non (.loc μ.length) .non∧
   ib ν μ.length (μ.length+1) (μ.length+2) (μ.length+3) (fV b0 b1 d b3 m b5 b6) nq b1 (if d>0 then R0-ps.length else 0) [c] false []∧∀ l,l<μ.length→l≠i→ν[l]?=μ[l]?:=by
 have hi:=fY h;have ho:af μ i=some (10,[(30,fV b0 b1 d b3 m b5 b6),(24,.int R0),(25,kh nq),(34,.loc lp),(35,.non),(36,.non),(37,.non)]):=h;have er:=rZ h hp hl;have em:=ut (b0:=b0) (b1:=b1) (d:=d) (b3:=b3) (m:=m) (b5:=b5) (b6:=b6) (R0-ps.length) nq μ;obtain⟨u,hu⟩:∃ u,u=[wK (fV b0 b1 d b3 m b5 b6) nq (μ.length+1) (μ.length+2) .non,MK.obj (.name b1 (if d>0 then R0-ps.length else 0) nq) [],ni (μ.length+1) (μ.length+3) false,MK.obj (.ex [58,32]) []]:=⟨_,rfl⟩
 have z0:ib (μ++u) μ.length (μ.length+1) (μ.length+2) (μ.length+3) (fV b0 b1 d b3 m b5 b6) nq b1 (if d>0 then R0-ps.length else 0) [] false []:=by
  subst hu;refine⟨?_,?_,?_,?_⟩
  ·unfold Ay; simp[af,wK]
  ·unfold iu; simp[af,MK.obj]
  ·unfold t5; simp[af,ni]
  ·unfold iu; simp[af,MK.obj]
 rw[← hu] at em;obtain⟨e1,z1⟩:=z0.name (c:=c) (by decide) he hk;obtain⟨ν1,hν1⟩:∃ ν1,ν1=(μ++u).set (μ.length+1) (MK.obj (.name b1 (if d>0 then R0-ps.length else 0) nq) ([]++[c])):=⟨_,rfl⟩;rw[← hν1] at e1 z1
 have ho1:af ν1 i=some (10,[(30,fV b0 b1 d b3 m b5 b6),(24,.int R0),(25,kh nq),(34,.loc lp),(35,.non),(36,.non),(37,.non)]):=by
  rw[hν1,k0 (by omega)];exact rM _ _ _ _ ho
 have l1:ν1.length=μ.length+u.length:=by rw[hν1]; simp
 obtain⟨ν2,hν2⟩:∃ ν2,ν2=ν1.set i (oQ (fV b0 b1 d b3 m b5 b6) R0 nq lp .non (.loc μ.length) .non):=⟨_,rfl⟩
 have z2:ib ν2 μ.length (μ.length+1) (μ.length+2) (μ.length+3) (fV b0 b1 d b3 m b5 b6) nq b1 (if d>0 then R0-ps.length else 0) [c] false []:=by
  rw[hν2];exact z1.set_ne _ (by omega) (by omega) (by omega) (by omega)
 have f2:jr ν2 i (fV b0 b1 d b3 m b5 b6) R0 nq lp .non (.loc μ.length) .non:=by
  rw[hν2];exact gA (by omega)
 have hgc:iq μ (.ok (.bl true) ν2)=.ok (.bl true) ν2:=gH (i:=i) (o:=oQ (fV b0 b1 d b3 m b5 b6) R0 nq lp .non (.loc μ.length) .non) hi (iQ f2) (by simp[jU,g8,kv,oQ,qw,fV,kh]) (by rw[iQ ho]; simp[oQ,qw]);have eg:=z2.good;have hor:af (μ++u) μ.length=some (9,_):=z0.f;have hor2:af ν2 μ.length=some (9,_):=z2.f
 have e2:bN [.loc i,.str [c]] μ=.ok (.bl true) ν2:=by
  unfold oQ qw at hν2;unfold bN;simp[ho,er,em,hor,e1,ho1,← hν2,hor2,eg,hgc]
 refine⟨ν2,?_,f2,z2,fun l hl hne=>?_⟩
 ·have hc':¬ c=59:=hc
  unfold bg;simp[ho,bi,bV,hc',e2,hgc]
 ·rw[hν2,q12 (q56 hne),hν1,q12 (by omega),q16 hl]
def Kp (N:Nat) (μ μ':Mu):Prop:=∀ l,l<N→μ'[l]?=μ[l]?
theorem Kp.trans {N:Nat} {μ1 μ2:Mu} (h:Kp N μ μ1) (h':Kp N μ1 μ2):Kp N μ μ2:=fun l hl=>(h' l hl).trans (h l hl)
theorem Kp.set {N b:Nat} {o:AO} (h:N≤b):Kp N μ (μ.set b o):=fun l hl=>q12 (by omega)
def CW (μ:Mu) (a:Nat) (t:Tx):Prop:=af μ a=some (2,[(20,.str t),(21,.str [59,10])])
def GY (t:Tx):AO:=.ins 2 [(20,.str t),(21,.str [59,10])]
theorem B0 (h:CW μ a t) (hl:t.length<100):aV [.loc a,.str [c]] μ=if pre (t++[c]) [59,10]=true then .ok (.bl true) (μ.set a (GY (t++[c]))) else .ok (.bl false) μ:=by
 have ho:af μ a=_:=h
 have hz1:t.length+1≤cE:=by rw[bV]; omega
 have e:fj [.loc a,.str [c]] μ=.ok (.bl (pre (t++[c]) [59,10])) μ:=by
  unfold fj;simp[ho,hz1]
 unfold aV
 cases hk:pre (t++[c]) [59,10] with
 | true=>rw[hk] at e; simp[ho,e,hz1]; exact eW (by simp)
 | false=>rw[hk] at e; simp[ho,e]
theorem zE (μ:Mu):ky [.loc μ.length] (μ++[.ins 2 []])=.ok .non (μ++[GY []]):=by
 have e:=lm 2 (.inr rfl) [59,10] μ;unfold ky;simp[bi,e];exact mz _ _ _
theorem jr.whole {er:Nat} (h:jr μ i bk R0 nq lp en row (.loc er)) (hr:CW μ er t):cy [.loc i] μ=.ok (.bl (t==[59,10])) μ:=by
 have ho:af μ i=some (10,[(30,bk),(24,.int R0),(25,kh nq),(34,.loc lp),(35,en),(36,row),(37,.loc er)]):=h;have hor:af μ er=_:=hr
 have e:cW [.loc er] μ=.ok (.bl (t==[59,10])) μ:=by
  unfold cW;simp[hor]
 unfold cy;simp[ho,hor,e]
theorem jr.nw (h:jr μ i bk R0 nq lp en row .non):cy [.loc i] μ=.ok (.bl false) μ:=by
 have ho:af μ i=some (10,[(30,bk),(24,.int R0),(25,kh nq),(34,.loc lp),(35,en),(36,row),(37,.non)]):=h;unfold cy;simp[ho]
theorem jr.fedE {er:Nat} (h:jr μ i bk R0 nq lp en row (.loc er)) (hr:CW μ er t) (hl:t.length<100):bg [.loc i,.str [c]] μ=if pre (t++[c]) [59,10]=true then .ok (.bl true) (μ.set er (GY (t++[c]))) else .ok (.bl false) μ:=by
 have ho:af μ i=some (10,[(30,bk),(24,.int R0),(25,kh nq),(34,.loc lp),(35,en),(36,row),(37,.loc er)]):=h;have hor:af μ er=_:=hr;have e:=B0 (c:=c) hr hl;unfold bg
 cases hk:pre (t++[c]) [59,10] with
 | true=>rw[hk] at e; simp at e; simp[ho,hor,e]; exact eW (by simp)
 | false=>rw[hk] at e; simp at e; simp[ho,hor,e]
theorem jr.toldP (h:jr μ i bk R0 nq lp en row er) (hp:bu μ lp=some ps) (hl:ps.length<1000):du [.loc i] μ=.ok (.tup ps) μ:=by
 have ho:af μ i=some (10,[(30,bk),(24,.int R0),(25,kh nq),(34,.loc lp),(35,en),(36,row),(37,er)]):=h
 have hz:ps.length≤cE:=by rw[bV]; omega
 unfold du;simp[ho,hp,hz]
theorem qP {b0 b1 d b3 m b5 b6:Int} (R0:Int) (nq:List Tx) (μ:Mu):jE [.loc μ.length,fV b0 b1 d b3 m b5 b6,.int R0,kh nq] (μ++[.ins 10 []])=.ok .non (μ++[oQ (fV b0 b1 d b3 m b5 b6) R0 nq (μ.length+1) .non .non .non,.lst []]):=by
 unfold jE;simp[gF,jC,bV];exact gH (i:=μ.length) (o:=oQ (fV b0 b1 d b3 m b5 b6) R0 nq (μ.length+1) .non .non .non) (by simp) (by simp[oQ,qw]) (by simp[jU,g8,kv,oQ,qw,fV,kh]) (by simp[oQ,qw])
theorem GP (neg:Bool) (a b:Nat) (ds:List AV) (μ:Mu) (ha:bu μ a=some ds) (hb:bu μ b=some []) (ho:rC ds=true) (hd:w6 ds≤1):fU neg (.loc a) (.loc b) μ=.ok (.bl (if neg then !ds.isEmpty else ds.isEmpty)) μ:=by
 obtain⟨ps,e,c1,c2⟩:=sP ds ho
 have t1:Fq μ (.loc a)=some (.list ps):=by
  show((bu μ a).bind lD).map PyData.list=_;rw[ha,q70,e]
  rfl
 have t2:Fq μ (.loc b)=some (.list []):=by
  show((bu μ b).bind lD).map PyData.list=_;rw[hb]
  rfl
 have s1:SeqAt.shaped (.list ps)=true:=by
  simp only[SeqAt.shaped,PyData.canLay0,c1,Bool.true_and,decide_eq_true_eq,PyData.depth,c2];omega
 have s2:SeqAt.shaped (.list [])=true:=by decide
 show C4 neg (.loc a) (.loc b) μ=_;unfold C4;rw[t1,t2];simp only;rw[if_pos ⟨s1,s2⟩]
 cases ds with
 | nil=>cases ps with
  | nil=>simp[PyData.eqv,PyData.eqvAll]
  | cons p ps=>simp[lD] at e
 | cons d ds=>cases ps with
  | nil=>
   rw[lD] at e
   cases h1:vg d<;>cases h2:lD ds<;>simp[h1,h2] at e
  | cons p ps=>simp[PyData.eqv,PyData.eqvAll]
theorem CH:∀ xs:List (List Nat),(∀ x∈xs,∀ c∈x,c<1114112)→rC (xs.map .str)=true∧w6 (xs.map .str)=0
 | [],_=>⟨rfl,rfl⟩
 | x::xs,h=>by
  obtain⟨a,b⟩:=CH xs fun y hy=>h y (q19 _ hy)
  have hx:∀ c∈x,c<1114112:=h x q40;refine⟨?_,?_⟩
  ·simp only[q42,rC,qR,a,Bool.and_true]
   simpa using hx
  ·simp only[q42,w6,LP,b]
   rfl
theorem Ml (neg:Bool) (a b:Nat) (xs:List (List Nat)) (μ:Mu) (ha:bu μ a=some (xs.map .str)) (hb:bu μ b=some []) (ho:∀ x∈xs,∀ c∈x,c<1114112):fU neg (.loc a) (.loc b) μ=.ok (.bl (if neg then !xs.isEmpty else xs.isEmpty)) μ:=by
 obtain⟨h1,h2⟩:=CH xs ho;rw[GP neg a b _ μ ha hb h1 (by omega)]
 cases xs<;>rfl
theorem sW {α:Type} (fS f:α→AV) (p:α→Bool) (ft:FB) (fe:FE) (rest:Ev) (all:List α) (j:Nat) :
  ∀ (as pre:List α) (n:Nat) (ρ:Ev) (μ:Mu) (xs:List AV),all=pre++as→(∃ o,ρ=o::rest)→(∀ a∈as,∀ μ,ft (some (fS a)::rest) μ=.ok (p a) μ∧fe (some (fS a)::rest) μ=.ok (f a) μ)→as.length<n→μ[j]?=some (.lst xs)→xs.length+as.length≤cE→
   lH n (.s (all.map fS)) pre.length j (dn 0) ft fe ρ μ=.ok (.loc j) (μ.set j (.lst (xs++(as.filter p).map f)))
 | [],pre,n+1,ρ,μ,xs,ha,hI,h,hn,hj,hl=>by
  have e:(vq.s (all.map fS)).get μ pre.length=some none:=by
   show some ((all.map fS)[pre.length]?)=_;rw[ha];simp
  unfold lH;simp only[e,List.filter_nil,List.map_nil,q31,nj hj]
 | d::ds,pre,n+1,ρ,μ,xs,ha,hI,h,hn,hj,hl=>by
  have e:(vq.s (all.map fS)).get μ pre.length=some (some (fS d)):=by
   show some ((all.map fS)[pre.length]?)=_;rw[ha];simp
  obtain⟨o,rfl⟩:=hI;obtain⟨h1,h2⟩:=h d q40 μ;have hg:dn 0 (fS d) (o::rest) μ=.ok (some (fS d)::rest) μ:=rfl;have hlt:j<μ.length:=(q07.mp hj).1
  have hlen:(pre++[d]).length=pre.length+1:=by simp
  cases hp:p d with
  | true=>
   rw[hp] at h1
   have hpu:sC j (f d) μ=.ok () (μ.set j (.lst (xs++[f d]))):=by
    unfold sC;simp only[hj];rw[if_pos (by simp at hl; omega)]
   have ih:=sW fS f p ft fe rest all j ds (pre++[d]) n (some (fS d)::rest) (μ.set j (.lst (xs++[f d]))) (xs++[f d]) (by rw[ha]; simp) ⟨_,rfl⟩ (fun d' hd'=>h d' (q19 _ hd')) (by simp at hn; omega) (q15 hlt) (by simp at hl⊢; omega);unfold lH;simp only[e,hg,Rs.bd_ok,h1,if_true,h2,hpu];rw[hlen] at ih;rw[ih];simp[List.set_set,hp]
  | false=>
   rw[hp] at h1;have ih:=sW fS f p ft fe rest all j ds (pre++[d]) n (some (fS d)::rest) μ xs (by rw[ha]; simp) ⟨_,rfl⟩ (fun d' hd'=>h d' (q19 _ hd')) (by simp at hn; omega) hj (by simp at hl⊢; omega);unfold lH;simp only[e,hg,Rs.bd_ok,h1];rw[hlen] at ih;simp[ih,hp]
theorem DA {α:Type} {n:Nat} {caps:List (Option Nat)} {fi:FI} {ft:FB} {fe:FE} {ρ:Ev} {μ μ1:Mu} {rest:Ev} (as:List α) (fS f:α→AV) (p:α→Bool) (hi:fi ρ μ=.ok (.s (as.map fS)) μ1) (hI:rL ρ caps=none::rest)
  (h:∀ a∈as,∀ μ,ft (some (fS a)::rest) μ=.ok (p a) μ∧fe (some (fS a)::rest) μ=.ok (f a) μ) (hn:as.length<n) (hl:as.length≤16777216):kz n caps fi (dn 0) ft fe ρ μ=.ok (.loc μ1.length) (μ1++[.lst ((as.filter p).map f)]):=by
 unfold kz;rw[hi];have:=sW fS f p ft fe rest as μ1.length as [] n (rL ρ caps) (μ1++[.lst []]) [] rfl ⟨none,hI⟩ h hn (by simp) (by simp only[q60,Nat.zero_add]; exact hl);simp only[Rs.bd_ok];simp only[q60,List.nil_append] at this;rw[this];congr 1;rw[q79 _ _ (q11 _)];simp
theorem KO (x:List Nat) (c:Nat):(!(qa4.Str.occurrences ⟨x.toArray⟩ ⟨[c].toArray⟩ 0 x.length 1).isEmpty)=decide (c∈x):=by
 have:=PySem.StrLaws.found_one ⟨x.toArray⟩ c
 simpa [Str.length] using this
theorem BO (x:List Nat) (c:Nat) (μ:Mu):oy false (.str [c]) (.str x) μ=.ok (.bl (decide (c∈x))) μ:=by
 rw[← KO x c]
 rfl
theorem HB {α:Type} (x:List α) (n:Nat):kG x none (some (n:Int))=x.take n:=by
 unfold kG;show List.take ((if (n:Int)<0 then ((n:Int)+(x.length:Int)).toNat else min (n:Int).toNat x.length)-0) (List.drop 0 x)=_;rw[if_neg (by omega)];simp only[List.drop_zero,Nat.sub_zero,q82]
 rcases Nat.le_total n x.length with h1|h1
 ·rw[Nat.min_eq_left h1]
 ·rw[Nat.min_eq_right h1,qa3,q93 h1]
theorem qN {α:Type} (xs:List α) (z:Nat):kG xs (some (z:Int)) none=xs.drop z:=by
 have e:kG xs (some (z:Int)) none=List.take ((xs.length)-(if (z:Int)<0 then ((z:Int)+(xs.length:Int)).toNat else min (z:Int).toNat xs.length)) (List.drop (if (z:Int)<0 then ((z:Int)+(xs.length:Int)).toNat else min (z:Int).toNat xs.length) xs):=rfl;rw[e,if_neg (by omega),q82]
 by_cases h:z≤xs.length
 ·rw[Nat.min_eq_left h,q93 (by simp)]
 ·rw[Nat.min_eq_right (by omega),List.drop_of_length_le (q11 _),List.drop_of_length_le (by omega)]
  simp
theorem dg {f g:FS} {ρ ρ1:Ev} {μ μ1:Mu} (h:f ρ μ=.ok (.nx ρ1) μ1):aG f g ρ μ=g ρ1 μ1:=by
 rw[MO,h]
 rfl
variable {r nm hd x:Nat} {bk:AV} {nq:List Tx} {M R:Int} {cl:Bool} {ct:Tx} {vc mk x2:Nat} {k:MK} {vt:Tx} {i lp:Nat} {R0:Int} {en row er:AV} {ps:List AV}
theorem ib.no (h:ib μ r nm hd x bk nq M R t cl ct) (hl:t.length<10000) (hct:ct.length<100) (he:nq.length<1000) (h1:(!cl&&MK.tk (.name M R nq) t c)=false) (h2:(MK.gd (.name M R nq) t&&pre (ct++[c]) [58,32])=false) :
  bc [.loc r,.str [c]] μ=.ok (.bl false) μ:=by
 obtain⟨n1,n2,n3,n4,n5,n6⟩:=h.ne;have e:=h.h.fed (c:=c) h.n h.x n1 hl (by omega) he (by decide);rw[if_neg (by rw[h1]; simp),if_neg (by rw[h2]; simp)] at e;have ho:af μ r=_:=h.f;have hoh:af μ hd=_:=h.h;unfold bc;simp[ho,hoh,e]
theorem jR.no (h:jR μ r nm hd vc mk x2 bk nq M R t k vt cl ct) (hl:vt.length<10000) (hct:ct.length<100) (hs:k.sz) (h1:(!cl&&k.tk vt c)=false) (h2:(k.gd vt&&pre (ct++[c]) [59,10])=false) :
  bc [.loc r,.str [c]] μ=.ok (.bl false) μ:=by
 have e:=h.v.fed (c:=c) h.m h.x h.mx hl (by omega) hs (by decide);rw[if_neg (by rw[h1]; simp),if_neg (by rw[h2]; simp)] at e;have ho:af μ r=_:=h.f;have hoh:af μ vc=_:=h.v;unfold bc;simp[ho,hoh,e]
theorem yL {fs:List (Nat×AV)} (h:jr μ i bk R0 nq lp .non (.loc r) .non) (e:bc [.loc r,.str [c]] μ=.ok (.bl false) μ) (hr:af μ r=some (9,fs)) :
  bg [.loc i,.str [c]] μ=.ok (.bl false) μ:=by
 have ho:af μ i=some (10,[(30,bk),(24,.int R0),(25,kh nq),(34,.loc lp),(35,.non),(36,.loc r),(37,.non)]):=h
 have e2:bN [.loc i,.str [c]] μ=.ok (.bl false) μ:=by
  unfold bN;simp[ho,hr,e]
 unfold bg;simp[ho,e2]
theorem zO (h:jr μ i bk R0 nq lp en .non .non) (hen:∃ ds,en=.tup ds) (hc:c≠59) :
  bg [.loc i,.str [c]] μ=.ok (.bl false) μ:=by
 obtain⟨ds,rfl⟩:=hen;have ho:af μ i=some (10,[(30,bk),(24,.int R0),(25,kh nq),(34,.loc lp),(35,.tup ds),(36,.non),(37,.non)]):=h
 have e2:bN [.loc i,.str [c]] μ=.ok (.bl false) μ:=by
  unfold bN;simp[ho]
 have hc':¬ c=59:=hc;unfold bg;simp[ho,bi,bV,hc',e2]
theorem Ee (μ u:Mu) (b:Bool):iq μ (.ok (.bl b) (μ++u))=.ok (.bl b) μ:=by
 have hc:AC μ (.bl b) (μ++u):=⟨by simp[kv],by simp,fun l hl=>.inl (q16 hl)⟩;simp[iq,hc]
theorem wH {b0 b1 d b3 m b5 b6:Int} (h:jr μ i (fV b0 b1 d b3 m b5 b6) R0 nq lp .non .non .non) (hp:bu μ lp=some ps) (hl:ps.length<1000) (he:nq.length<1000) (hne:[]∉nq) (hc:c≠59) (hk:MK.tk (.name b1 (if d>0 then R0-ps.length else 0) nq) [] c=false) :
  bg [.loc i,.str [c]] μ=.ok (.bl false) μ:=by
 have ho:af μ i=some (10,[(30,fV b0 b1 d b3 m b5 b6),(24,.int R0),(25,kh nq),(34,.loc lp),(35,.non),(36,.non),(37,.non)]):=h;have er:=rZ h hp hl;have em:=ut (b0:=b0) (b1:=b1) (d:=d) (b3:=b3) (m:=m) (b5:=b5) (b6:=b6) (R0-ps.length) nq μ;obtain⟨u,hu⟩:∃ u,u=[wK (fV b0 b1 d b3 m b5 b6) nq (μ.length+1) (μ.length+2) .non,MK.obj (.name b1 (if d>0 then R0-ps.length else 0) nq) [],ni (μ.length+1) (μ.length+3) false,MK.obj (.ex [58,32]) []]:=⟨_,rfl⟩
 have z0:ib (μ++u) μ.length (μ.length+1) (μ.length+2) (μ.length+3) (fV b0 b1 d b3 m b5 b6) nq b1 (if d>0 then R0-ps.length else 0) [] false []:=by
  subst hu;refine⟨?_,?_,?_,?_⟩
  ·unfold Ay; simp[af,wK]
  ·unfold iu; simp[af,MK.obj]
  ·unfold t5; simp[af,ni]
  ·unfold iu; simp[af,MK.obj]
 rw[← hu] at em;have e1:=z0.no (c:=c) (by decide) (by decide) he (by simp[hk]) (by simp[MK.gd,hne]);have hor:af (μ++u) μ.length=some (9,_):=z0.f
 have e2:bN [.loc i,.str [c]] μ=.ok (.bl false) μ:=by
  unfold bN;simp[ho,er,em,hor,e1,Ee]
 have hc':¬ c=59:=hc;unfold bg;simp[ho,bi,bV,hc',e2]
theorem BR (h:jr μ i bk R0 nq lp en .non .non) (hb:kv μ.length bk=true) :
  ∃ ν,bg [.loc i,.str [59]] μ=.ok (.bl true) ν∧jr ν i bk R0 nq lp en .non (.loc μ.length)∧CW ν μ.length [59]∧(∀ l,l<μ.length→l≠i→ν[l]?=μ[l]?):=by
 have hi:=fY h;have ho:af μ i=some (10,[(30,bk),(24,.int R0),(25,kh nq),(34,.loc lp),(35,en),(36,.non),(37,.non)]):=h;have ei:=zE μ;obtain⟨ν1,hν1⟩:∃ ν1,ν1=(μ++[GY []]).set i (oQ bk R0 nq lp en .non (.loc μ.length)):=⟨_,rfl⟩
 have f1:jr ν1 i bk R0 nq lp en .non (.loc μ.length):=by rw[hν1]; exact gA (by simp; omega)
 have r1:CW ν1 μ.length []:=by
  rw[hν1];unfold CW;rw[k0 (by omega)];exact oW _ _ _
 have e1:=B0 (c:=59) r1 (by decide);rw[if_pos (by decide)] at e1;obtain⟨ν2,hν2⟩:∃ ν2,ν2=ν1.set μ.length (GY ([]++[59])):=⟨_,rfl⟩;rw[← hν2] at e1
 have l1:ν1.length=μ.length+1:=by rw[hν1]; simp
 have f2:jr ν2 i bk R0 nq lp en .non (.loc μ.length):=by rw[hν2]; exact f1.set_ne _ (by omega)
 have r2:CW ν2 μ.length [59]:=by rw[hν2]; exact gA (by omega)
 have ho0:af (μ++[GY []]) i=some (10,[(30,bk),(24,.int R0),(25,kh nq),(34,.loc lp),(35,en),(36,.non),(37,.non)]):=rM _ _ _ _ ho;have hor1:af ν1 μ.length=_:=r1;have ho1:af ν1 i=some (10,[(30,bk),(24,.int R0),(25,kh nq),(34,.loc lp),(35,en),(36,.non),(37,.loc μ.length)]):=f1;have hgc:iq μ (.ok (.bl true) ν2)=.ok (.bl true) ν2:=gH (i:=i) (o:=oQ bk R0 nq lp en .non (.loc μ.length)) hi (iQ f2) (by simp[jU,g8,kv,oQ,qw]) (by rw[iQ ho]; simp[oQ,qw])
 have e2:bg [.loc i,.str [59]] μ=.ok (.bl true) ν2:=by
  unfold oQ qw at hν1;unfold bg;simp[ho,bi,bV,ei,ho0,← hν1,ho1,hor1,e1,hgc]
 refine⟨_,e2,f2,r2,fun l hl hne=>?_⟩;rw[hν2,q12 (by omega),hν1,q12 (q56 hne),q16 hl]
inductive Ph
 | idle
 | name (t:Tx)
 | colon (t:Tx)
 | val (t vt:Tx)
 | clo (t vt:Tx)
 | e1
 | e2
structure Cf where
 b0:Int
 b1:Int
 d:Int
 b3:Int
 m:Int
 b5:Int
 b6:Int
 R0:Int
 nq:List Tx
structure St where
 ps:List AV
 en:AV
 ph:Ph
def Cf.bok (f:Cf):AV:=fV f.b0 f.b1 f.d f.b3 f.m f.b5 f.b6
def Cf.rm (f:Cf) (ps:List AV):Int:=f.R0-ps.length
def Cf.nk (f:Cf) (ps:List AV):MK:=.name f.b1 (f.rm ps) f.nq
def Cf.vk (f:Cf) (t:Tx):MK:=My.vk f.nq t f.d f.m
def wF:AV→Bool
 | .non=>true
 | _=>false
def kept (f:Cf) (ps:List AV) (t vt:Tx):St:=⟨match ku f.nq t (f.vk t) vt with
 | .non=>ps++[.tup [.str t,(f.vk t).told vt]]
 | _=>ps,ku f.nq t (f.vk t) vt,.idle⟩
def step (f:Cf) (ps:List AV) (en:AV) (c:Nat):Ph→Option St
 | .idle=>if c=59 then some ⟨ps,en,.e1⟩ else if (wF en&&(f.nk ps).tk [] c)=true then some ⟨ps,en,.name [c]⟩ else none
 | .name t=>if (f.nk ps).tk t c=true then some ⟨ps,en,.name (t++[c])⟩ else if c=58∧(f.nk ps).gd t=true then some ⟨ps,en,.colon t⟩ else none
 | .colon t=>if c=32 then some ⟨ps,en,.val t []⟩ else none
 | .val t vt=>if (f.vk t).tk vt c=true then some ⟨ps,en,.val t (vt++[c])⟩ else if c=59∧(f.vk t).gd vt=true then some ⟨ps,en,.clo t vt⟩ else none
 | .clo t vt=>if c=10 then some (kept f ps t vt) else none
 | .e1=>if c=10 then some ⟨ps,en,.e2⟩ else none
 | .e2=>none
def yw (f:Cf) (n:Nat) (ps:List AV):Ph→Prop
 | .idle=>True
 | .name t=>t.length≤n
 | .colon t=>t.length≤n∧(f.nk ps).gd t=true
 | .val t vt=>t.length≤n∧(f.nk ps).gd t=true∧vt.length≤n
 | .clo t vt=>t.length≤n∧(f.nk ps).gd t=true∧vt.length≤n∧(f.vk t).gd vt=true
 | .e1=>True
 | .e2=>True
def Ok (f:Cf) (n:Nat) (s:St):Prop:=s.ps.length≤n∧(s.en=.non∨∃ ds,s.en=.tup ds)∧yw f n s.ps s.ph
def WC (N:Nat) (f:Cf) (μ:Mu) (i lp:Nat) (ps:List AV) (en:AV):Ph→Prop
 | .idle=>jr μ i f.bok f.R0 f.nq lp en .non .non
 | .name t=>en=.non∧∃ r nm hd x,(N≤r∧N≤nm∧N≤hd∧N≤x)∧jr μ i f.bok f.R0 f.nq lp .non (.loc r) .non∧ib μ r nm hd x f.bok f.nq f.b1 (f.rm ps) t false []
 | .colon t=>en=.non∧∃ r nm hd x,(N≤r∧N≤nm∧N≤hd∧N≤x)∧jr μ i f.bok f.R0 f.nq lp .non (.loc r) .non∧ib μ r nm hd x f.bok f.nq f.b1 (f.rm ps) t true [58]
 | .val t vt=>en=.non∧∃ r nm hd vc mk x2,(N≤r∧N≤vc∧N≤mk∧N≤x2)∧jr μ i f.bok f.R0 f.nq lp .non (.loc r) .non∧jR μ r nm hd vc mk x2 f.bok f.nq f.b1 (f.rm ps) t (f.vk t) vt false []
 | .clo t vt=>en=.non∧∃ r nm hd vc mk x2,(N≤r∧N≤vc∧N≤mk∧N≤x2)∧jr μ i f.bok f.R0 f.nq lp .non (.loc r) .non∧jR μ r nm hd vc mk x2 f.bok f.nq f.b1 (f.rm ps) t (f.vk t) vt true [59]
 | .e1=>∃ e,N≤e∧jr μ i f.bok f.R0 f.nq lp en .non (.loc e)∧CW μ e [59]
 | .e2=>∃ e,N≤e∧jr μ i f.bok f.R0 f.nq lp en .non (.loc e)∧CW μ e [59,10]
def zV (N:Nat) (f:Cf) (μ:Mu) (i lp:Nat) (s:St):Prop:=μ[lp]?=some (.lst s.ps)∧WC N f μ i lp s.ps s.en s.ph
def Fa (μ ν:Mu):Prop:=∀ (l:Nat) (x:List AV),μ[l]?=some (.lst x)→ν[l]?=some (.lst x)
def Fr (lp:Nat) (μ ν:Mu):Prop:=∀ (l:Nat) (x:List AV),l≠lp→μ[l]?=some (.lst x)→ν[l]?=some (.lst x)
theorem Fa.fr {lp:Nat} {μ ν:Mu} (h:Fa μ ν):Fr lp μ ν:=fun l x _=>h l x
theorem Fa.trans {μ ν ξ:Mu} (h:Fa μ ν) (h':Fa ν ξ):Fa μ ξ:=fun l x e=>h' l x (h l x e)
theorem Fr.trans {lp:Nat} {μ ν ξ:Mu} (h:Fr lp μ ν) (h':Fr lp ν ξ):Fr lp μ ξ:=fun l x n e=>h' l x n (h l x n e)
theorem Fa.set {b C:Nat} {fs:List (Nat×AV)} {μ:Mu} (o:AO) (h:af μ b=some (C,fs)):Fa μ (μ.set b o):=fun l x e=>by
 have hne:b≠l:=by
  rintro rfl;have:=(iQ h).symm.trans e;simp at this
 rw[q12 hne];exact e
theorem Fa.app (μ u:Mu):Fa μ (μ++u):=fun l x e=>by
 rw[q16 (q07.mp e).1];exact e
theorem Fa.of {i C:Nat} {fs:List (Nat×AV)} {μ ν:Mu} (h:af μ i=some (C,fs)) (k:∀ l,l<μ.length→l≠i→ν[l]?=μ[l]?):Fa μ ν:=fun l x e=>by
 have hne:l≠i:=by
  rintro rfl;have:=(iQ h).symm.trans e;simp at this
 rw[k l (q07.mp e).1 hne];exact e
theorem Fa.setC (h:ib μ r nm hd x bk nq M R t cl ct) (ct':Tx):Fa μ (setC μ x hd nm ct'):=
 (Fa.set _ (show af μ x=some (1,_) from h.x)).trans (Fa.set _ (show af _ hd=some (8,_) from h.h.set_ne _ h.ne.2.2.2.1))
theorem Fa.setE (h:jR μ r nm hd vc mk x2 bk nq M R t k vt cl ct) (ct':Tx):Fa μ (setE μ x2 vc mk ct'):=
 (Fa.set _ (show af μ x2=some (1,_) from h.x)).trans (Fa.set _ (show af _ vc=some (8,_) from h.v.set_ne _ h.ne.2.2.2.2.2.1))
theorem Fa.setR (h:ib μ r nm hd x bk nq M R t cl ct) (k:MK):Fa μ (setR μ r bk nq nm hd k):=
 (Fa.app _ _).trans (Fa.set _ (show af _ r=some (9,_) from rM _ _ _ _ h.f))
theorem jr.setC (hF:jr μ i bk R0 nq lp en row er) (h:ib μ r nm hd x bk nq M R t cl ct) (ct':Tx):jr (setC μ x hd nm ct') i bk R0 nq lp en row er:=
 (hF.set_ne _ (cJ (show af μ x=some (1,_) from h.x) (show af μ i=some (10,_) from hF) (by decide))).set_ne _ (cJ (show af μ hd=some (8,_) from h.h) (show af μ i=some (10,_) from hF) (by decide))
theorem jr.setE (hF:jr μ i bk R0 nq lp en row er) (h:jR μ r nm hd vc mk x2 bk nq M R t k vt cl ct) (ct':Tx):jr (setE μ x2 vc mk ct') i bk R0 nq lp en row er:=
 (hF.set_ne _ (cJ (show af μ x2=some (1,_) from h.x) (show af μ i=some (10,_) from hF) (by decide))).set_ne _ (cJ (show af μ vc=some (8,_) from h.v) (show af μ i=some (10,_) from hF) (by decide))
theorem jr.setR (hF:jr μ i bk R0 nq lp en row er) (h:ib μ r nm hd x bk nq M R t cl ct) (k:MK):jr (setR μ r bk nq nm hd k) i bk R0 nq lp en row er:=
 jr.set_ne (rM _ _ _ _ hF) _ (cJ (show af μ r=some (9,_) from h.f) (show af μ i=some (10,_) from hF) (by decide))
theorem Kp.app {N:Nat} {u:Mu} (h:N≤μ.length):Kp N μ (μ++u):=fun l hl=>q16 (by omega)
theorem Kp.setC {N:Nat} {ct:Tx} (h1:N≤x) (h2:N≤hd):Kp N μ (setC μ x hd nm ct):=(Kp.set h1).trans (Kp.set h2)
theorem Kp.setE {N:Nat} {ct:Tx} (h1:N≤x2) (h2:N≤vc):Kp N μ (setE μ x2 vc mk ct):=(Kp.set h1).trans (Kp.set h2)
theorem Kp.setR {N:Nat} {k:MK} (h:N≤μ.length) (h1:N≤r):Kp N μ (setR μ r bk nq nm hd k):=(Kp.app h).trans (Kp.set h1)
def Kq (N i lp:Nat) (μ ν:Mu):Prop:=∀ l,l<N→l≠i→l≠lp→ν[l]?=μ[l]?
theorem Kp.q {N i lp:Nat} {μ ν:Mu} (h:Kp N μ ν):Kq N i lp μ ν:=fun l hl _ _=>h l hl
def Fed (N:Nat) (f:Cf) (μ:Mu) (i lp c:Nat):Option St→Prop
 | some s'=>∃ ν,bg [.loc i,.str [c]] μ=.ok (.bl true) ν∧zV N f ν i lp s'∧Fr lp μ ν∧Kq N i lp μ ν∧μ.length≤ν.length
 | none=>bg [.loc i,.str [c]] μ=.ok (.bl false) μ
theorem Dg (c a b:Nat):pre ([]++[c]) [a,b]=decide (c=a):=by
 by_cases h:c=a<;>simp[pre,h]
theorem Ce (c a b:Nat):pre ([a]++[c]) [a,b]=decide (c=b):=by
 by_cases h:c=b<;>simp[pre,h]
theorem RU (c a b:Nat):pre ([a,b]++[c]) [a,b]=false:=by simp[pre]
theorem xf {f:Cf} {n N:Nat} (hd0:0<f.d) (he:f.nq.length<1000) (hne:[]∉f.nq) (hn:n<1000) (hN:N≤μ.length):∀ {s:St},Ok f n s→zV N f μ i lp s→Fed N f μ i lp c (step f s.ps s.en c s.ph)
 | ⟨ps,en,.idle⟩,⟨a,b,_⟩,⟨hp,hF⟩=>by
  simp only at a b hp;have hF:jr μ i f.bok f.R0 f.nq lp en .non .non:=hF
  have hpl:bu μ lp=some ps:=by unfold bu; rw[hp]
  have hR:(if f.d>0 then f.R0-(ps.length:Int) else 0)=f.rm ps:=if_pos hd0;simp only[step]
  by_cases hc:c=59
  ·subst hc
   rw[if_pos rfl];obtain⟨ν,e,h1,h2,h3⟩:=BR hF (by simp[Cf.bok,fV,kv,g8]);have fa:=Fa.of (show af μ i=some (10,_) from hF) h3;have hil:=fY hF;have hrl:=fY h2;exact⟨ν,e,⟨fa _ _ hp,_,by omega,h1,h2⟩,fa.fr,fun l hl hi _=>h3 l (by omega) hi,by omega⟩
  ·rw[if_neg hc]
   rcases b with rfl|⟨ds,rfl⟩
   ·by_cases hk:(f.nk ps).tk [] c=true
    ·rw[if_pos (by simp[wF,hk])]
     obtain⟨ν,e,h1,h2,h3⟩:=Bv (c:=c) hF hpl (by omega) he hc (by rw[hR]; exact hk);rw[hR] at h2;have fa:=Fa.of (show af μ i=some (10,_) from hF) h3;have hil:=fY hF;have hrl:=fY h2.f;exact⟨ν,e,⟨fa _ _ hp,rfl,_,_,_,_,⟨by omega,by omega,by omega,by omega⟩,h1,h2⟩,fa.fr,fun l hl hi _=>h3 l (by omega) hi,by omega⟩
    ·rw[if_neg (by simp[wF,hk])]
     exact wH hF hpl (by omega) he hne hc (by rw[hR]; exact eq_false_of_ne_true hk)
   ·rw[if_neg (by simp[wF])]
    exact zO hF ⟨_,rfl⟩ hc
 | ⟨ps,en,.name t⟩,⟨a,b,d⟩,⟨hp,hen,r,nm,hd,x,hM,hF,hR⟩=>by
  simp only[yw] at d;simp only at hp hen;subst hen;simp only[step]
  by_cases hk:(f.nk ps).tk t c=true
  ·rw[if_pos hk]
   obtain⟨e,z⟩:=hR.name (by omega) he hk;have hin:nm≠i:=cJ (show af μ nm=some (6,_) from hR.n) (show af μ i=some (10,_) from hF) (by decide);have fa:Fa μ _:=Fa.set (MK.obj (.name f.b1 (f.rm ps) f.nq) (t++[c])) (show af μ nm=some (6,_) from hR.n);have hF1:=hF.set_ne (MK.obj (.name f.b1 (f.rm ps) f.nq) (t++[c])) hin;exact⟨_,td hF e hF1 (show af μ r=some (9,_) from hR.f) (show af _ r=some (9,_) from z.f) z.good,⟨fa _ _ hp,rfl,_,_,_,_,hM,hF1,z⟩,fa.fr,(Kp.set hM.2.1).q,by simp⟩
  ·rw[if_neg hk]
   by_cases hg:c=58∧(f.nk ps).gd t=true
   ·rw[if_pos hg]
    obtain⟨rfl,hg⟩:=hg;obtain⟨e,z⟩:=hR.colon (by omega) he (eq_false_of_ne_true hk) hg;have fa:=Fa.setC hR [58];have hF1:=hF.setC hR [58];exact⟨_,td hF e hF1 (show af μ r=some (9,_) from hR.f) (show af _ r=some (9,_) from z.f) z.good,⟨fa _ _ hp,rfl,_,_,_,_,hM,hF1,z⟩,fa.fr,(Kp.setC hM.2.2.2 hM.2.2.1).q,by simp[My.setC]⟩
   ·rw[if_neg hg]
    refine yL hF (hR.no (by omega) (by decide) he ?_ ?_) (show af μ r=some (9,_) from hR.f)
    ·have hk':(f.nk ps).tk t c=false:=by simpa using hk
     have hk':MK.tk (.name f.b1 (f.rm ps) f.nq) t c=false:=hk';simp[hk']
    ·rw[Dg]
     have hg':¬ (c=58∧MK.gd (.name f.b1 (f.rm ps) f.nq) t=true):=hg
     cases h2:MK.gd (.name f.b1 (f.rm ps) f.nq) t with
     | false=>rfl
     | true=>simp[h2] at hg'⊢; exact hg'
 | ⟨ps,en,.colon t⟩,⟨a,b,d⟩,⟨hp,hen,r,nm,hd,x,hM,hF,hR⟩=>by
  simp only[yw] at d;simp only at hp hen;subst hen;simp only[step]
  by_cases hk:c=32
  ·subst hk
   rw[if_pos rfl];obtain⟨μ',e,hμ⟩:=ib.blank (b0:=f.b0) (b1:=f.b1) (d:=f.d) (b3:=f.b3) (m:=f.m) (b5:=f.b5) (b6:=f.b6) hR (by omega) he d.2;have z0:=hR.toC [58,32];have z:=z0.toV (f.vk t) (sB _ _ _ _).1
   have fa:Fa μ μ':=by rw[hμ]; exact(Fa.setC hR [58,32]).trans (Fa.setR z0 _)
   have hF1:jr μ' i f.bok f.R0 f.nq lp .non (.loc r) .non:=by rw[hμ]; exact(hF.setC hR [58,32]).setR z0 _
   have hil:=fY hF
   have hlC:(setC μ x hd nm [58,32]).length=μ.length:=by simp[My.setC]
   obtain⟨vc,mk,x2,hM2,z⟩:∃ vc mk x2,(N≤r∧N≤vc∧N≤mk∧N≤x2)∧jR μ' r nm hd vc mk x2 f.bok f.nq f.b1 (f.rm ps) t (f.vk t) [] false []:=⟨(setC μ x hd nm [58,32]).length+1,(setC μ x hd nm [58,32]).length,(setC μ x hd nm [58,32]).length+2,⟨hM.1,by omega,by omega,by omega⟩,by rw[hμ]; exact z⟩;exact⟨_,td hF e hF1 (show af μ r=some (9,_) from hR.f) (show af _ r=some (9,_) from z.f) z.good,⟨fa _ _ hp,rfl,_,_,_,_,_,_,hM2,hF1,z⟩,fa.fr,by rw[hμ]; exact((Kp.setC hM.2.2.2 hM.2.2.1).trans (Kp.setR (by omega) hM.1)).q,by rw[hμ]; simp[My.setR,My.setC]⟩
  ·rw[if_neg hk]
   refine yL hF (hR.no (by omega) (by decide) he (by simp) ?_) (show af μ r=some (9,_) from hR.f);rw[Ce];simp[hk]
 | ⟨ps,en,.val t vt⟩,⟨a,b,d⟩,⟨hp,hen,r,nm,hd,vc,mk,x2,hM,hF,hR⟩=>by
  simp only[yw] at d;simp only at hp hen;subst hen;simp only[step];have hsz:(f.vk t).sz:=(sB _ _ _ _).2
  by_cases hk:(f.vk t).tk vt c=true
  ·rw[if_pos hk]
   obtain⟨e,z⟩:=hR.value (by omega) hsz hk;have hin:mk≠i:=cJ (show af μ mk=some ((f.vk t).cls,_) from hR.m) (show af μ i=some (10,_) from hF) (f.vk t).cls_ne.2.2;have fa:Fa μ _:=Fa.set ((f.vk t).obj (vt++[c])) (show af μ mk=some ((f.vk t).cls,_) from hR.m);have hF1:=hF.set_ne ((f.vk t).obj (vt++[c])) hin;exact⟨_,td hF e hF1 (show af μ r=some (9,_) from hR.f) (show af _ r=some (9,_) from z.f) z.good,⟨fa _ _ hp,rfl,_,_,_,_,_,_,hM,hF1,z⟩,fa.fr,(Kp.set hM.2.2.1).q,by simp⟩
  ·rw[if_neg hk]
   have hk':(f.vk t).tk vt c=false:=by simpa using hk
   by_cases hg:c=59∧(f.vk t).gd vt=true
   ·rw[if_pos hg]
    obtain⟨rfl,hg⟩:=hg;have e:=hR.close (c:=59) (by omega) hsz (by simp[hk']) hg (by decide) (by decide);have z:=hR.toE [59];have fa:=Fa.setE hR [59];have hF1:=hF.setE hR [59];exact⟨_,td hF e hF1 (show af μ r=some (9,_) from hR.f) (show af _ r=some (9,_) from z.f) z.good,⟨fa _ _ hp,rfl,_,_,_,_,_,_,hM,hF1,z⟩,fa.fr,(Kp.setE hM.2.2.2 hM.2.1).q,by simp[My.setE]⟩
   ·rw[if_neg hg]
    refine yL hF (hR.no (by omega) (by decide) hsz (by simp[hk']) ?_) (show af μ r=some (9,_) from hR.f);rw[Dg]
    cases h2:(f.vk t).gd vt with
    | false=>rfl
    | true=>simp[h2] at hg⊢; exact hg
 | ⟨ps,en,.clo t vt⟩,⟨a,b,d⟩,⟨hp,hen,r,nm,hd,vc,mk,x2,hM,hF,hR⟩=>by
  simp only[yw] at d;simp only at hp hen a;subst hen;simp only[step];have hsz:(f.vk t).sz:=(sB _ _ _ _).2
  by_cases hk:c=10
  ·subst hk
   rw[if_pos rfl];have e:=hR.close (c:=10) (by omega) hsz (by simp) d.2.2.2 (by decide) (by decide);have z:=hR.toE [59,10];have fa:=Fa.setE hR [59,10];have hF1:=hF.setE hR [59,10];have hp1:=fa _ _ hp;have ef:=CB hF e (by simp[My.setE]) hF1 (show af μ r=some (9,_) from hR.f) z hsz hp1 (by omega) (by omega) (by omega) d.2.1;refine⟨_,ef,⟨?_,?_⟩,?_,?_,?_⟩
   ·have hlpi:i≠lp:=by
     rintro rfl;have:=(iQ hF).symm.trans hp;simp at this
    show(zQ _ _ _ _ _ _ _ _ _)[lp]?=some (.lst (kept f ps t vt).ps);have hlt:=(q07.mp hp1).1;simp only[zQ,kept];rw[q12 hlpi]
    cases ku f.nq t (f.vk t) vt with
    | non=>simp[hlt]
    | _=>exact hp1
   ·show jr _ _ _ _ _ _ _ _ _
    unfold zQ;have hi1:=fY hF1;exact gA (by cases ku f.nq t (f.vk t) vt<;>simp[hi1])
   ·refine fa.fr.trans ?_
    unfold zQ;intro l y hl e
    have hne:i≠l:=by
     rintro rfl;have:=(iQ hF1).symm.trans e;simp at this
    rw[q12 hne]
    cases ku f.nq t (f.vk t) vt with
    | non=>exact(q12 (q56 hl)).trans e
    | _=>exact e
   ·intro l hl hi hlp
    have hq:=Kp.setE (μ:=μ) (mk:=mk) (ct:=[59]++[10]) hM.2.2.2 hM.2.1 l hl;unfold zQ;rw[q12 (q56 hi)]
    cases ku f.nq t (f.vk t) vt with
    | non=>exact(q12 (q56 hlp)).trans hq
    | _=>exact hq
   ·unfold zQ
    cases ku f.nq t (f.vk t) vt<;>simp[My.setE]
  ·rw[if_neg hk]
   refine yL hF (hR.no (by omega) (by decide) hsz (by simp) ?_) (show af μ r=some (9,_) from hR.f);rw[Ce];simp[hk]
 | ⟨ps,en,.e1⟩,⟨a,b,d⟩,⟨hp,e,hM,hF,hR⟩=>by
  simp only at hp;simp only[step];have ef:=hF.fedE (c:=c) hR (by decide);rw[Ce] at ef
  by_cases hk:c=10
  ·subst hk
   rw[if_pos rfl];rw[if_pos (by simp)] at ef;have fa:Fa μ _:=Fa.set (GY ([59]++[10])) (show af μ e=some (2,_) from hR);exact⟨_,ef,⟨fa _ _ hp,_,hM,hF.set_ne _ (cJ (show af μ e=some (2,_) from hR) (show af μ i=some (10,_) from hF) (by decide)),gA (fY hR)⟩,fa.fr,(Kp.set hM).q,by simp⟩
  ·rw[if_neg hk]
   rw[if_neg (by simp[hk])] at ef;exact ef
 | ⟨ps,en,.e2⟩,⟨a,b,d⟩,⟨hp,e,hM,hF,hR⟩=>by
  simp only[step];have ef:=hF.fedE (c:=c) hR (by decide);rw[RU,if_neg (by simp)] at ef;exact ef
def nS (M R:Int) (nq:List Tx) (t:Tx):Tx:=if MK.gd (.name M R nq) t=true then [] else if xg M R (t++[97])=true then [97] else match nq.find? (fun e=>pre t e) with
 | some e=>e.drop t.length
 | none=>[]
def MK.aw:MK→Tx→Tx
 | .ex g,t=>g.drop t.length
 | .num _ _,t=>if t=[] then [48] else []
 | .sg n,t=>q45 (n-t.length).toNat 97
 | .val M,t=>if MK.gd (.val M) t=true then [] else [97]
 | .name M R nq,t=>nS M R nq t
def MK.ok:MK→Prop
 | .ex g=>g.length≤1000
 | .name _ _ nq=>nq.length<1000∧∀ e∈nq,e.length≤1000
 | .sg n=>0≤n∧n≤1000
 | _=>True
theorem yt (h:iu μ a (.name M R nq) t) (hz:∀ e∈nq,e.length≤1000) (ht:t.length<10000):∀ (es:List Tx) (k n:Nat) (o:Option AV),nq.drop k=es→es.length<n→
  m5 n (.s (nq.map .str)) k (dn 1) (df (gI (sh "str" oI (ab 1) (ac (aQ 20 (ab 0)) ag))) (aN (AH yA (ab 1) (lb (ko gJ (ac (aQ 20 (ab 0)) ag))) kQ)) dE) [some (.loc a),o] μ=(match es.find? (fun e=>pre t e) with
   | some e=>.ok (.rt (.str (e.drop t.length))) μ
   | none=>.ok (.nx [some (.loc a),(es.getLast?.map AV.str).or o]) μ)
 | [],k,n+1,o,he,_=>by
  have hk:(nq.map AV.str)[k]?=none:=by
   rw[q33];have:=congrArg (fun l=>l[0]?) he;simp only[List.getElem?_drop,Nat.add_zero,List.getElem?_nil] at this;rw[this]
   rfl
  have e:(vq.s (nq.map .str)).get μ k=some none:=by show some _=_; rw[hk]
  unfold m5;simp only[e,List.find?_nil];simp
 | y::es,k,n+1,o,he,hn=>by
  have ho:af μ a=_:=h;simp[MK.rest,MK.cls] at ho
  have hy:nq[k]?=some y:=by
   have:=congrArg (fun l=>l[0]?) he
   simpa only[List.getElem?_drop,Nat.add_zero,List.getElem?_cons_zero] using this
  have hr:nq.drop (k+1)=es:=by
   have:=congrArg List.tail he
   simpa using this
  have hyl:=hz y (q59 hy)
  have e:(vq.s (nq.map .str)).get μ k=some (some (.str y)):=by show some _=_; rw[q33,hy]; rfl
  have hz1:y.length≤cE:=by rw[bV]; omega
  have hz2:t.length≤cE:=by rw[bV]; omega
  have ih:=yt h hz ht es (k+1) n (some (.str y)) hr (by simp at hn; omega);unfold m5;simp only[e]
  cases hp:pre t y with
  | true=>simp[ho,hp,hz1,hz2,qN]
  | false=>
   simp only[List.find?_cons,hp];simp[ho,hp];rw[ih]
   cases es with
   | nil=>rfl
   | cons z zs=>
    cases hf:List.find? (fun e=>pre t e) (z::zs) with
    | some _=>rfl
    | none=>simp[List.getLast?_cons]
theorem Fi (h:iu μ a (.name M R nq) t) (hz:∀ e∈nq,e.length≤1000) (he:nq.length<1000) (hl:t.length<10000):dk [.loc a] μ=.ok (.str (nS M R nq t)) μ:=by
 have ho:af μ a=_:=h;simp[MK.rest,MK.cls] at ho;have e:=vd h hl
 have hz1:t.length+1≤cE:=by rw[bV]; omega
 have hc:=ye h (t++[97]) (by simpa using hz1);have lp:=yt h hz hl nq 0 1000000 none rfl (by omega);unfold dk nS
 cases h1:MK.gd (.name M R nq) t with
 | true=>simp[ho,e,h1]
 | false=>
  cases h2:xg M R (t++[97]) with
  | true=>simp[ho,e,h1,gW,hz1,hc,h2]
  | false=>
   simp[ho,e,h1,gW,hz1,hc,h2,kh,lp]
   cases nq.find? (fun e=>pre t e) with
   | some y=>simp
   | none=>simp
theorem Do (k:Int):zk [97] k=q45 k.toNat 97:=by
 unfold zk
 generalize k.toNat=n
 induction n with
 | zero=>rfl
 | succ n ih=>rw[q69,qb6,ih,q69]; rfl
theorem Bs (k:MK) (h:iu μ a k t) (hl:t.length<10000) (hk:k.ok) (fo:FE) (ρ:Ev) (hf:fo ρ μ=.ok (.loc a) μ):aD 1 [(6,dk),(5,fQ),(3,ff),(1,aU),(7,dt)] fo ag ρ μ=.ok (.str (k.aw t)) μ:=by
 have ho:af μ a=_:=h
 have hz:t.length≤cE:=by rw[bV]; omega
 cases k with
 | ex g=>
  simp only[MK.rest,MK.cls] at ho
  have hzg:g.length≤cE:=by
   have:g.length≤1000:=hk;rw[bV]; omega
  simp[hf,ho,aU,MK.aw,hz,hzg,qN]
 | sg n=>
  simp only[MK.rest,MK.cls] at ho;have hn:0≤n∧n≤1000:=hk
  have hzn:n≤(cE:Int)+(t.length:Int):=by rw[bV]; omega
  have hsm:sm 30 (n-(t.length:Int))=true:=B1 (by
   have e:(2:Nat) ^ 30=1073741824:=by decide
   rw[e]
   omega) (by decide)
  simp[hf,ho,dt,MK.aw,gW,hz,hzn,hsm,Do]
 | num B M=>
  simp only[MK.rest,MK.cls] at ho
  by_cases h1:t=[]
  ·simp[hf,ho,ff,eE,MK.aw,h1]
  ·have h1':(t==[])=false:=by simp[h1]
   simp[hf,ho,ff,eE,MK.aw,h1,h1']
 | val M=>
  have eg:=yP (.val M) h hl (ab 0) [some (.loc a)] rfl;simp only[MK.rest,MK.cls] at ho;simp[ho] at eg
  cases hg:MK.gd (.val M) t with
  | true=>rw[hg] at eg; simp[hf,ho,fQ,eg,MK.aw,hg]
  | false=>rw[hg] at eg; simp[hf,ho,fQ,eg,MK.aw,hg,gW]
 | name M R nq=>
  have e:=Fi h hk.2 hk.1 hl;simp only[MK.rest,MK.cls] at ho;simp[hf,ho,e,MK.aw]
theorem kJ (k:MK) (t:Tx) (hk:k.ok):(k.aw t).length≤1000:=by
 cases k with
 | ex g=>
  have:g.length≤1000:=hk;simp[MK.aw]; omega
 | num B M=>simp only[MK.aw]; split<;>simp
 | sg n=>
  have hn:0≤n∧n≤1000:=hk;simp[MK.aw]; omega
 | val M=>simp only[MK.aw]; split<;>simp
 | name M R nq=>
  simp only[MK.aw,nS];split
  ·simp
  ·split
   ·simp
   ·split
    ·rename_i e he
     have:=hk.2 e (q63 he);simp; omega
    ·simp
theorem Cb (μ u:Mu) (y:Tx):iq μ (.ok (.str y) (μ++u))=.ok (.str y) μ:=by
 have hc:AC μ (.str y) (μ++u):=⟨by simp[kv],by simp,fun l hl=>.inl (q16 hl)⟩;simp[iq,hc]
theorem t5.aw {m x:Nat} {cl:Bool} {k:MK} {g ct:Tx} (h:t5 μ a m x cl) (hm:iu μ m k t) (hx:iu μ x (.ex g) ct) (hl:t.length<10000) (hl':ct.length<10000) (hk:k.ok) (hg:g.length≤1000) :
  bG [.loc a] μ=.ok (.str (k.aw t++g.drop ct.length)) μ:=by
 have ho:af μ a=_:=h;have hox:af μ x=some (1,[(20,.str ct),(21,.str g)]):=hx
 have e1:∀ ρ,aD 1 [(6,dk),(5,fQ),(3,ff),(1,aU),(7,dt)] (aQ 27 (ab 0)) ag (some (.loc a)::ρ) μ=.ok (.str (k.aw t)) μ:=fun ρ=>Bs k hm hl hk _ _ (by simp[ho])
 have hz:ct.length≤cE:=by rw[bV]; omega
 have hzg:g.length≤cE:=by rw[bV]; omega
 have e2:aU [.loc x] μ=.ok (.str (g.drop ct.length)) μ:=by
  unfold aU;simp[hox,hz,hzg,qN]
 have e3:∀ ρ,aD 1 [(1,aU)] (aQ 28 (ab 0)) ag (some (.loc a)::ρ) μ=.ok (.str (g.drop ct.length)) μ:=fun ρ=>by simp[ho,hox,e2]
 have hs:=kJ k t hk
 have hz3:(k.aw t).length+(g.length-ct.length)≤cE:=by rw[bV]; omega
 unfold bG;simp[-jy,e1,e3,hz3]
theorem Lr {v:AV} (hf:Ay μ r bk nq nm hd v) (hn:iu μ nm (.name M R nq) t) (hl:t.length<10000) (hk:MK.ok (.name M R nq)):bH [.loc r] μ=.ok (.str (t++nS M R nq t)) μ:=by
 have ho:af μ r=_:=hf;have hon:af μ nm=some (6,[(20,.str t),(23,.int M),(24,.int R),(25,kh nq)]):=hn;have e:=Fi hn hk.2 hk.1 hl;have hs:(nS M R nq t).length≤1000:=kJ (.name M R nq) t hk
 have hz:t.length+(nS M R nq t).length≤cE:=by rw[bV]; omega
 unfold bH;simp[ho,hon,aK,e,hz]
theorem Ye {b0 b1 d b3 m b5 b6:Int} {v:AV} (y:Tx) (hf:Ay μ r (fV b0 b1 d b3 m b5 b6) nq nm hd v) (e:bH [.loc r] μ=.ok (.str y) μ) :
  bP [.loc r] μ=.ok (.loc (μ.length+1)) (μ++[(vk nq y d m).obj [],ni μ.length (μ.length+2) false,MK.obj (.ex [59,10]) []]):=by
 have ho:af μ r=_:=hf
 have ec:=fun (o:AO)=>j0 μ.length [59,10] (μ++[o])
 simp at ec
 have gg:∀ m,iq μ (.ok (.loc (μ.length+1)) m)=.ok (.loc (μ.length+1)) m:=fun m=>lQ (by omega)
 unfold bP vk
 by_cases h1:y∈nq
 ·by_cases h2:y=li
  ·have h2':y=[108,101,110,103,116,104]:=h2
   rw[if_pos h1,if_pos h2];simp[-lR,ho,e,ik,h1,← h2',fV,eS,lJ,bi,ec,gg]
  ·have h2':¬ y=[108,101,110,103,116,104]:=h2
   have e3:=lm 1 (.inl rfl) xo μ;unfold xo at e3;rw[if_pos h1,if_neg h2];simp[-lR,ho,e,ik,h1,h2',e3,bi,ec,gg]
   rfl
 ·rw[if_neg h1]
  simp[-lR,ho,e,ik,h1,fV,fB,tj,bi,ec,gg]
theorem wD (nq:List Tx) (t:Tx) (d m:Int):(vk nq t d m).ok:=by
 unfold vk;split
 ·split
  ·trivial
  ·show xo.length≤1000
   decide
 ·trivial
theorem ib.aw {b0 b1 d b3 m b5 b6:Int} (h:ib μ r nm hd x (fV b0 b1 d b3 m b5 b6) nq M R t cl ct) (hl:t.length<10000) (hct:ct.length<100) (hk:MK.ok (.name M R nq)) :
  bE [.loc r] μ=.ok (.str ((nS M R nq t++[58,32].drop ct.length)++((vk nq (t++nS M R nq t) d m).aw []++[59,10]))) μ:=by
 have ho:af μ r=_:=h.f;have hoh:af μ hd=_:=h.h;have e1:=h.h.aw h.n h.x hl (by omega) hk (by decide);have e1:bG [.loc hd] μ=.ok (.str (nS M R nq t++[58,32].drop ct.length)) μ:=e1;have e2:=Ye _ h.f (Lr h.f h.n hl hk);obtain⟨k,hkk⟩:∃ k,k=vk nq (t++nS M R nq t) d m:=⟨_,rfl⟩
 have hko:k.ok:=by rw[hkk]; exact wD _ _ _ _
 rw[← hkk] at e2⊢;obtain⟨u,hu⟩:∃ u,u=[k.obj [],ni μ.length (μ.length+2) false,MK.obj (.ex [59,10]) []]:=⟨_,rfl⟩
 have hc:t5 (μ++u) (μ.length+1) μ.length (μ.length+2) false:=by subst hu; unfold t5; simp[af,ni]
 have hm:iu (μ++u) μ.length k []:=by subst hu; unfold iu; simp[af,MK.obj]
 have hx:iu (μ++u) (μ.length+2) (.ex [59,10]) []:=by subst hu; unfold iu; simp[af,MK.obj]
 have e3:=hc.aw hm hx (by decide) (by decide) hko (by decide);rw[← hu] at e2;have hoc:af (μ++u) (μ.length+1)=_:=hc;have hs1:(nS M R nq t).length≤1000:=kJ (.name M R nq) t hk;have hs2:=kJ k [] hko
 have hz:(nS M R nq t).length+(2-ct.length)+((k.aw []).length+2)≤cE:=by rw[bV]; omega
 simp only[q60,List.drop_zero] at e3;unfold bE;simp[ho,hoh,e1,e2,hoc,e3,hz]
theorem jR.aw (h:jR μ r nm hd vc mk x2 bk nq M R t k vt cl ct) (hl:vt.length<10000) (hct:ct.length<100) (hk:k.ok) :
  bE [.loc r] μ=.ok (.str (k.aw vt++[59,10].drop ct.length)) μ:=by
 have ho:af μ r=_:=h.f;have hoh:af μ vc=_:=h.v;have e1:=h.v.aw h.m h.x hl (by omega) hk (by decide);unfold bE;simp[ho,hoh,e1]
theorem jr.awR {fs:List (Nat×AV)} {y:Tx} (h:jr μ i bk R0 nq lp .non (.loc r) .non) (hr:af μ r=some (9,fs)) (e:bE [.loc r] μ=.ok (.str y) μ) (hy:y.length≤5000):bw [.loc i] μ=.ok (.str (y++[59,10])) μ:=by
 have ho:af μ i=some (10,[(30,bk),(24,.int R0),(25,kh nq),(34,.loc lp),(35,.non),(36,.loc r),(37,.non)]):=h
 have hz:y.length+2≤cE:=by rw[bV]; omega
 unfold bw;simp[ho,hr,e,bi,hz]
theorem jr.awI (h:jr μ i bk R0 nq lp en .non .non):bw [.loc i] μ=.ok (.str [59,10]) μ:=by
 have ho:af μ i=some (10,[(30,bk),(24,.int R0),(25,kh nq),(34,.loc lp),(35,en),(36,.non),(37,.non)]):=h;unfold bw;simp[ho,bi]
theorem jr.awE {er:Nat} (h:jr μ i bk R0 nq lp en row (.loc er)) (hr:CW μ er t) (hl:t.length<100):bw [.loc i] μ=.ok (.str ([59,10].drop t.length)) μ:=by
 have ho:af μ i=some (10,[(30,bk),(24,.int R0),(25,kh nq),(34,.loc lp),(35,en),(36,row),(37,.loc er)]):=h;have hor:af μ er=_:=hr
 have hz:t.length≤cE:=by rw[bV]; omega
 have hz2:(2:Nat)≤cE:=by decide
 have e:aU [.loc er] μ=.ok (.str ([59,10].drop t.length)) μ:=by
  unfold aU;simp[hor,hz,hz2,qN]
 unfold bw;simp[ho,hor,e]
def mr (f:Cf) (ps:List AV):Ph→Tx
 | .idle=>[59,10]
 | .name t=>((nS f.b1 (f.rm ps) f.nq t++[58,32])++((f.vk (t++nS f.b1 (f.rm ps) f.nq t)).aw []++[59,10]))++[59,10]
 | .colon t=>([32]++((f.vk t).aw []++[59,10]))++[59,10]
 | .val t vt=>((f.vk t).aw vt++[59,10])++[59,10]
 | .clo t vt=>((f.vk t).aw vt++[10])++[59,10]
 | .e1=>[10]
 | .e2=>[]
theorem BM {f:Cf} {n N:Nat} (hk:∀ R,MK.ok (.name f.b1 R f.nq)) (hn:n<1000):∀ {s:St},Ok f n s→zV N f μ i lp s→bw [.loc i] μ=.ok (.str (mr f s.ps s.ph)) μ
 | ⟨ps,en,.idle⟩,_,⟨hp,hF⟩=>jr.awI hF
 | ⟨ps,en,.name t⟩,⟨a,b,d⟩,⟨hp,hen,r,nm,hd,x,hM,hF,hR⟩=>by
  simp only[yw] at d;have e:=ib.aw (b0:=f.b0) (b1:=f.b1) (d:=f.d) (b3:=f.b3) (m:=f.m) (b5:=f.b5) (b6:=f.b6) hR (by omega) (by decide) (hk _);refine hF.awR (show af μ r=some (9,_) from hR.f) e ?_;have h1:(nS f.b1 (f.rm ps) f.nq t).length≤1000:=kJ (.name f.b1 (f.rm ps) f.nq) t (hk _);have h2:=kJ (f.vk (t++nS f.b1 (f.rm ps) f.nq t)) [] (wD _ _ _ _);simp; omega
 | ⟨ps,en,.colon t⟩,⟨a,b,d⟩,⟨hp,hen,r,nm,hd,x,hM,hF,hR⟩=>by
  simp only[yw] at d;have e:=ib.aw (b0:=f.b0) (b1:=f.b1) (d:=f.d) (b3:=f.b3) (m:=f.m) (b5:=f.b5) (b6:=f.b6) hR (by omega) (by decide) (hk _);have h0:nS f.b1 (f.rm ps) f.nq t=[]:=if_pos d.2;simp only[h0,q31,List.nil_append] at e;refine hF.awR (show af μ r=some (9,_) from hR.f) e ?_;have h2:=kJ (f.vk t) [] (wD _ _ _ _);simp; omega
 | ⟨ps,en,.val t vt⟩,⟨a,b,d⟩,⟨hp,hen,r,nm,hd,vc,mk,x2,hM,hF,hR⟩=>by
  simp only[yw] at d;have hok:(f.vk t).ok:=wD _ _ _ _;have e:=hR.aw (by omega) (by decide) hok;refine hF.awR (show af μ r=some (9,_) from hR.f) e ?_;have h2:=kJ (f.vk t) vt hok;simp; omega
 | ⟨ps,en,.clo t vt⟩,⟨a,b,d⟩,⟨hp,hen,r,nm,hd,vc,mk,x2,hM,hF,hR⟩=>by
  simp only[yw] at d;have hok:(f.vk t).ok:=wD _ _ _ _;have e:=hR.aw (by omega) (by decide) hok;refine hF.awR (show af μ r=some (9,_) from hR.f) e ?_;have h2:=kJ (f.vk t) vt hok;simp; omega
 | ⟨ps,en,.e1⟩,_,⟨hp,e,hM,hF,hR⟩=>hF.awE hR (by decide)
 | ⟨ps,en,.e2⟩,_,⟨hp,e,hM,hF,hR⟩=>hF.awE hR (by decide)
def qC:Ph→Bool
 | .e2=>true
 | _=>false
theorem um {f:Cf} {N:Nat}:∀ {s:St},zV N f μ i lp s→cy [.loc i] μ=.ok (.bl (qC s.ph)) μ
 | ⟨ps,en,.idle⟩,⟨hp,hF⟩=>jr.nw hF
 | ⟨ps,en,.name t⟩,⟨hp,hen,r,nm,hd,x,hM,hF,hR⟩=>hF.nw
 | ⟨ps,en,.colon t⟩,⟨hp,hen,r,nm,hd,x,hM,hF,hR⟩=>hF.nw
 | ⟨ps,en,.val t vt⟩,⟨hp,hen,r,nm,hd,vc,mk,x2,hM,hF,hR⟩=>hF.nw
 | ⟨ps,en,.clo t vt⟩,⟨hp,hen,r,nm,hd,vc,mk,x2,hM,hF,hR⟩=>hF.nw
 | ⟨ps,en,.e1⟩,⟨hp,e,hM,hF,hR⟩=>hF.whole hR
 | ⟨ps,en,.e2⟩,⟨hp,e,hM,hF,hR⟩=>hF.whole hR
theorem ng {f:Cf} {N:Nat}:∀ {s:St},zV N f μ i lp s→∃ row er,jr μ i f.bok f.R0 f.nq lp s.en row er
 | ⟨ps,en,.idle⟩,⟨hp,hF⟩=>⟨_,_,hF⟩
 | ⟨ps,en,.name t⟩,⟨hp,hen,r,nm,hd,x,hM,hF,hR⟩=>⟨_,_,by rw[hen]; exact hF⟩
 | ⟨ps,en,.colon t⟩,⟨hp,hen,r,nm,hd,x,hM,hF,hR⟩=>⟨_,_,by rw[hen]; exact hF⟩
 | ⟨ps,en,.val t vt⟩,⟨hp,hen,r,nm,hd,vc,mk,x2,hM,hF,hR⟩=>⟨_,_,by rw[hen]; exact hF⟩
 | ⟨ps,en,.clo t vt⟩,⟨hp,hen,r,nm,hd,vc,mk,x2,hM,hF,hR⟩=>⟨_,_,by rw[hen]; exact hF⟩
 | ⟨ps,en,.e1⟩,⟨hp,e,hM,hF,hR⟩=>⟨_,_,hF⟩
 | ⟨ps,en,.e2⟩,⟨hp,e,hM,hF,hR⟩=>⟨_,_,hF⟩
def tK (left:Int) (lt cz:Nat) (pc:AV) (tr:Nat):List (Nat×AV):=[(38,.int left),(40,.loc lt),(41,.loc cz),(42,pc),(43,.loc tr)]
def tJ (μ:Mu) (p:Nat) (left:Int) (lt cz:Nat) (pc:AV) (tr:Nat):Prop:=af μ p=some (15,tK left lt cz pc tr)
def nQ (left:Int) (lt cz:Nat) (pc:AV) (tr:Nat):AO:=.ins 15 (tK left lt cz pc tr)
structure mP (μ:Mu) (cz mk x:Nat) (k:MK) (t:Tx) (cl:Bool) (ct:Tx):Prop where
 c:t5 μ cz mk x cl
 m:iu μ mk k t
 y:iu μ x (.ex [59,10]) ct
 mx:mk≠x
theorem mP.ne {cz mk x:Nat} {k:MK} {cl:Bool} {ct:Tx} (h:mP μ cz mk x k t cl ct):mk≠cz∧x≠cz:=
 ⟨cJ (show af μ mk=some (k.cls,_) from h.m) (show af μ cz=some (8,_) from h.c) k.cls_ne.1,cJ (show af μ x=some (1,_) from h.y) (show af μ cz=some (8,_) from h.c) (by decide)⟩
theorem mP.take {cz mk x:Nat} {k:MK} (h:mP μ cz mk x k t false []) (hl:t.length<10000) (hs:k.sz) (hk:k.tk t c=true) :
  bA [.loc cz,.str [c]] μ=.ok (.bl true) (μ.set mk (k.obj (t++[c])))∧mP (μ.set mk (k.obj (t++[c]))) cz mk x k (t++[c]) false []:=by
 have e:=h.c.fed (c:=c) h.m h.y h.mx hl (by decide) hs (by decide);rw[if_pos (by simp[hk])] at e;exact⟨e,h.c.set_ne _ h.ne.1,h.m.set_self,h.y.set_ne _ h.mx,h.mx⟩
def rk (μ:Mu) (x cz mk:Nat) (ct:Tx):Mu:=(μ.set x (MK.obj (.ex [59,10]) ct)).set cz (ni mk x true)
theorem mP.toE {cz mk x:Nat} {k:MK} {cl:Bool} {ct:Tx} (h:mP μ cz mk x k t cl ct) (ct':Tx):mP (rk μ x cz mk ct') cz mk x k t true ct':=by
 obtain⟨n1,n2⟩:=h.ne;refine⟨gA (by rw[q66]; exact fY h.c),(h.m.set_ne _ (q56 h.mx)).set_ne _ (q56 n1),h.y.set_self.set_ne _ (q56 n2),h.mx⟩
theorem mP.close {cz mk x:Nat} {k:MK} {cl:Bool} {ct:Tx} (h:mP μ cz mk x k t cl ct) (hl:t.length<10000) (hct:ct.length<100) (hs:k.sz) (hk:(!cl&&k.tk t c)=false) (hg:k.gd t=true) (hc:pre (ct++[c]) [59,10]=true) :
  bA [.loc cz,.str [c]] μ=.ok (.bl true) (rk μ x cz mk (ct++[c])):=by
 have e:=h.c.fed (c:=c) h.m h.y h.mx hl (by omega) hs (by decide);rw[if_neg (by rw[hk]; simp),if_pos (by simp[hg,hc])] at e;exact e
theorem mP.no {cz mk x:Nat} {k:MK} {cl:Bool} {ct:Tx} (h:mP μ cz mk x k t cl ct) (hl:t.length<10000) (hct:ct.length<100) (hs:k.sz) (hk:(!cl&&k.tk t c)=false) (hg:(k.gd t&&pre (ct++[c]) [59,10])=false) :
  bA [.loc cz,.str [c]] μ=.ok (.bl false) μ:=by
 have e:=h.c.fed (c:=c) h.m h.y h.mx hl (by omega) hs (by decide);rw[if_neg (by rw[hk]; simp),if_neg (by rw[hg]; simp)] at e;exact e
theorem yU {p lt cz tr mk x:Nat} {left:Int} {k:MK} {cl cl':Bool} {ct ct' t':Tx} {μ1:Mu} (h:tJ μ p left lt cz .non tr) (hc:mP μ cz mk x k t cl ct) (hct:(ct==[59,10])=false)
  (e:bA [.loc cz,.str [c]] μ=.ok (.bl true) μ1) (h1:tJ μ1 p left lt cz .non tr) (hc1:mP μ1 cz mk x k t' cl' ct') (hct':(ct'==[59,10])=false) (hlen:μ1.length=μ.length) :
  au [.loc p,.str [c]] μ=.ok (.bl true) μ1:=by
 have ho:af μ p=some (15,[(38,.int left),(40,.loc lt),(41,.loc cz),(42,.non),(43,.loc tr)]):=h;have ho1:af μ1 p=some (15,[(38,.int left),(40,.loc lt),(41,.loc cz),(42,.non),(43,.loc tr)]):=h1;have hoc:af μ cz=some (8,_):=hc.c;have hoc1:af μ1 cz=some (8,_):=hc1.c;have eg:=hc.c.good hc.y;have eg1:=hc1.c.good hc1.y;rw[hct] at eg;rw[hct'] at eg1;have hgc:iq μ (.ok (.bl true) μ1)=.ok (.bl true) μ1:=eW hlen
 have e2:bJ [.loc p,.str [c]] μ=.ok (.bl true) μ1:=by
  unfold bJ;simp[ho,hoc,e,ho1,hoc1,eg1,hgc]
 unfold au;simp[ho,hoc,eg,e2,hgc]
theorem C8 {p lt cz tr mk x:Nat} {left:Int} {k:MK} {cl cl':Bool} {ct t':Tx} {μ1:Mu} (h:tJ μ p left lt cz .non tr) (hc:mP μ cz mk x k t cl ct) (hct:(ct==[59,10])=false)
  (e:bA [.loc cz,.str [c]] μ=.ok (.bl true) μ1) (h1:tJ μ1 p left lt cz .non tr) (hc1:mP μ1 cz mk x k t' cl' [59,10]) (hs:k.sz) (hl:t'.length<10000) (ht:k.told t'=.int 0) (hlen:μ1.length=μ.length) :
  au [.loc p,.str [c]] μ=.ok (.bl true) μ1:=by
 have ho:af μ p=some (15,[(38,.int left),(40,.loc lt),(41,.loc cz),(42,.non),(43,.loc tr)]):=h;have ho1:af μ1 p=some (15,[(38,.int left),(40,.loc lt),(41,.loc cz),(42,.non),(43,.loc tr)]):=h1;have hoc:af μ cz=some (8,_):=hc.c;have hoc1:af μ1 cz=some (8,_):=hc1.c;have eg:=hc.c.good hc.y;have eg1:=hc1.c.good hc1.y;have et:=hc1.c.told hc1.m hl hs;rw[ht] at et;rw[hct] at eg;have hgc:iq μ (.ok (.bl true) μ1)=.ok (.bl true) μ1:=eW hlen
 have e2:bJ [.loc p,.str [c]] μ=.ok (.bl true) μ1:=by
  unfold bJ;simp[ho,hoc,e,ho1,hoc1,eg1,et,hgc]
 unfold au;simp[ho,hoc,eg,e2,hgc]
theorem ss {p lt cz tr mk x:Nat} {left:Int} {k:MK} {cl:Bool} {ct:Tx} (h:tJ μ p left lt cz .non tr) (hc:mP μ cz mk x k t cl ct) (hct:(ct==[59,10])=false)
  (e:bA [.loc cz,.str [c]] μ=.ok (.bl false) μ):au [.loc p,.str [c]] μ=.ok (.bl false) μ:=by
 have ho:af μ p=some (15,[(38,.int left),(40,.loc lt),(41,.loc cz),(42,.non),(43,.loc tr)]):=h;have hoc:af μ cz=some (8,_):=hc.c;have eg:=hc.c.good hc.y;rw[hct] at eg
 have e2:bJ [.loc p,.str [c]] μ=.ok (.bl false) μ:=by
  unfold bJ;simp[ho,hoc,e]
 unfold au;simp[ho,hoc,eg,e2]
theorem wd {p lt cz tr pz mk x:Nat} {left:Int} {k:MK} {cl:Bool} {ct t':Tx} {μ1:Mu} {fs:List (Nat×AV)} (h:tJ μ p left lt cz (.loc pz) tr) (hz:af μ pz=some (8,fs))
  (e:bA [.loc pz,.str [c]] μ=.ok (.bl true) μ1) (h1:tJ μ1 p left lt cz (.loc pz) tr) (hc1:mP μ1 pz mk x k t' cl ct) (hct:(ct==[59,10])=false) (hlen:μ1.length=μ.length) :
  au [.loc p,.str [c]] μ=.ok (.bl true) μ1:=by
 have ho:af μ p=some (15,[(38,.int left),(40,.loc lt),(41,.loc cz),(42,.loc pz),(43,.loc tr)]):=h;have ho1:af μ1 p=some (15,[(38,.int left),(40,.loc lt),(41,.loc cz),(42,.loc pz),(43,.loc tr)]):=h1;have hoc1:af μ1 pz=some (8,_):=hc1.c;have eg1:=hc1.c.good hc1.y;rw[hct] at eg1;have hgc:iq μ (.ok (.bl true) μ1)=.ok (.bl true) μ1:=eW hlen
 have e2:b8 [.loc p,.str [c]] μ=.ok (.bl true) μ1:=by
  unfold b8;simp[ho,hz,e,ho1,hoc1,eg1,hgc]
 unfold au;simp[ho,e2,hgc]
theorem qT {p lt cz tr pz:Nat} {left:Int} {fs:List (Nat×AV)} (h:tJ μ p left lt cz (.loc pz) tr) (hz:af μ pz=some (8,fs))
  (e:bA [.loc pz,.str [c]] μ=.ok (.bl false) μ):au [.loc p,.str [c]] μ=.ok (.bl false) μ:=by
 have ho:af μ p=some (15,[(38,.int left),(40,.loc lt),(41,.loc cz),(42,.loc pz),(43,.loc tr)]):=h
 have e2:b8 [.loc p,.str [c]] μ=.ok (.bl false) μ:=by
  unfold b8;simp[ho,hz,e]
 unfold au;simp[ho,e2]
theorem wB {p lt cz tr mk x:Nat} {left:Int} {k:MK} {cl b:Bool} {μ1:Mu} {fs:List (Nat×AV)} (h:tJ μ p left lt cz .non tr) (hc:mP μ cz mk x k t cl [59,10]) (hz:af μ tr=some (10,fs))
  (e:bg [.loc tr,.str [c]] μ=.ok (.bl b) μ1):au [.loc p,.str [c]] μ=.ok (.bl b) μ1:=by
 have ho:af μ p=some (15,[(38,.int left),(40,.loc lt),(41,.loc cz),(42,.non),(43,.loc tr)]):=h;have hoc:af μ cz=some (8,_):=hc.c;have eg:=hc.c.good hc.y;have hg:iq μ (.ok (.bl b) μ1)=.ok (.bl b) μ1:=jP e;unfold au;simp[ho,hoc,eg,hz,e,hg]
theorem BZ {p lt cz tr mk x:Nat} {left n:Int} {k:MK} {cl cl':Bool} {ct t':Tx} {μ1:Mu} (h:tJ μ p left lt cz .non tr) (hc:mP μ cz mk x k t cl ct) (hct:(ct==[59,10])=false)
  (e:bA [.loc cz,.str [c]] μ=.ok (.bl true) μ1) (h1:tJ μ1 p left lt cz .non tr) (hc1:mP μ1 cz mk x k t' cl' [59,10]) (hs:k.sz) (hl:t'.length<10000) (ht:k.told t'=.int n) (hn:0<n) (hlen:μ1.length=μ.length) :
  au [.loc p,.str [c]] μ=.ok (.bl true) ((μ1++[MK.obj (.sg n) [],ni μ1.length (μ1.length+2) false,MK.obj (.ex [59,10]) []]).set p (nQ left lt cz (.loc (μ1.length+1)) tr)):=by
 have ho:af μ p=some (15,[(38,.int left),(40,.loc lt),(41,.loc cz),(42,.non),(43,.loc tr)]):=h;have ho1:af μ1 p=some (15,[(38,.int left),(40,.loc lt),(41,.loc cz),(42,.non),(43,.loc tr)]):=h1
 have ho1':∀ u,af (μ1++u) p=some (15,[(38,.int left),(40,.loc lt),(41,.loc cz),(42,.non),(43,.loc tr)]):=fun u=>rM _ _ _ _ ho1
 have hoc:af μ cz=some (8,_):=hc.c;have hoc1:af μ1 cz=some (8,_):=hc1.c;have eg:=hc.c.good hc.y;have eg1:=hc1.c.good hc1.y;have et:=hc1.c.told hc1.m hl hs;rw[ht] at et;rw[hct] at eg;have es:=ms n μ1;have ec:=j0 μ1.length [59,10] (μ1++[MK.obj (.sg n) []]);simp at ec;have hp:=fY h
 have hgc:iq μ (.ok (.bl true) ((μ1++[MK.obj (.sg n) [],ni μ1.length (μ1.length+2) false,MK.obj (.ex [59,10]) []]).set p (nQ left lt cz (.loc (μ1.length+1)) tr)))=.ok (.bl true) ((μ1++[MK.obj (.sg n) [],ni μ1.length (μ1.length+2) false,MK.obj (.ex [59,10]) []]).set p (nQ left lt cz (.loc (μ1.length+1)) tr)):=by
  refine gH (i:=p) (o:=nQ left lt cz (.loc (μ1.length+1)) tr) hp ?_ ?_ ?_
  ·rw[q15 (by simp; omega)]
  ·simp[jU,g8,kv,nQ,tK,hlen]
   omega
  ·rw[iQ ho]
   simp[nQ,tK]
 unfold nQ tK at hgc⊢
 have e2:bJ [.loc p,.str [c]] μ=.ok (.bl true) ((μ1++[MK.obj (.sg n) [],ni μ1.length (μ1.length+2) false,MK.obj (.ex [59,10]) []]).set p (.ins 15 [(38,.int left),(40,.loc lt),(41,.loc cz),(42,.loc (μ1.length+1)),(43,.loc tr)])):=by
  unfold bJ;simp[ho,hoc,e,ho1,hoc1,eg1,et,hn,es,bi,ec,ho1',hgc]
 unfold au;simp[ho,hoc,eg,e2,hgc]
theorem BG {p lt cz tr:Nat} {left:Int} {pc:AV} (h:tJ μ p left lt cz pc tr):cm [.loc p] μ=.ok (.loc (μ.length+1)) (μ++[MK.obj (.num 16 left) [],ni μ.length (μ.length+2) false,MK.obj (.ex [59,10]) []]):=by
 have ho:af μ p=some (15,[(38,.int left),(40,.loc lt),(41,.loc cz),(42,pc),(43,.loc tr)]):=h;have en:=lJ 16 left μ;have ec:=j0 μ.length [59,10] (μ++[MK.obj (.num 16 left) []]);simp at ec
 have gg:∀ m,iq μ (.ok (.loc (μ.length+1)) m)=.ok (.loc (μ.length+1)) m:=fun m=>lQ (by omega)
 unfold cm;simp[ho,en,bi,ec,gg]
def mS (μ:Mu) (p lt cz tr:Nat) (left:Int) (ts:List AV) (y:Tx):Mu:=
 ((μ.set lt (.lst (ts++[.str y]))).set p (nQ (left-y.length) lt cz .non tr)++[MK.obj (.num 16 (left-y.length)) [],ni μ.length (μ.length+2) false,MK.obj (.ex [59,10]) []]).set p (nQ (left-y.length) lt (μ.length+1) .non tr)
theorem DT {p lt cz tr pz:Nat} {left:Int} {ts:List AV} (y:Tx) (h:tJ μ p left lt cz (.loc pz) tr) (hp:μ[lt]?=some (.lst ts)) (hts:ts.length<1000) (hy:y.length<10000) :
  eu [.loc p,.str y] μ=.ok .non (mS μ p lt cz tr left ts y):=by
 have ho:af μ p=some (15,[(38,.int left),(40,.loc lt),(41,.loc cz),(42,.loc pz),(43,.loc tr)]):=h;have hil:=fY ho
 have hlp:lt≠p:=by
  rintro rfl;have:=(iQ ho).symm.trans hp;simp at this
 have hpl:bu μ lt=some ts:=by unfold bu; rw[hp]
 have hz:ts.length<cE:=by rw[bV]; omega
 have hzy:y.length≤cE:=by rw[bV]; omega
 have o1:∀ o,af (μ.set lt o) p=some (15,[(38,.int left),(40,.loc lt),(41,.loc cz),(42,.loc pz),(43,.loc tr)]):=fun o=>by rw[k0 hlp]; exact ho
 have o2:∀ o fs,af ((μ.set lt o).set p (.ins 15 fs)) p=some (15,fs):=fun o fs=>gA (by rw[q66]; exact hil)
 have o3:∀ o fs u,af ((μ.set lt o).set p (.ins 15 fs)++u) p=some (15,fs):=fun o fs u=>rM _ _ _ _ (o2 o fs)
 have en:=fun o=>BG (μ:=(μ.set lt o).set p (nQ (left-y.length) lt cz .non tr)) (p:=p) (left:=left-y.length) (lt:=lt) (cz:=cz) (pc:=.non) (tr:=tr) (o2 _ _)
 simp[nQ,tK] at en
 have hgc:iq μ (.ok .non (mS μ p lt cz tr left ts y))=.ok .non (mS μ p lt cz tr left ts y):=by
  refine gH (i:=p) (o:=nQ (left-y.length) lt (μ.length+1) .non tr) hil ?_ ?_ ?_
  ·unfold mS
   rw[q15 (by simp; omega)]
  ·simp[jU,g8,kv,nQ,tK]
   omega
  ·rw[iQ ho]
   simp[nQ,tK]
 unfold mS nQ tK at hgc⊢;unfold eu;simp[ho,hp,hpl,hz,o1,hzy,o2,en,o3,hgc]
theorem Dq {p lt cz tr pz mk x:Nat} {left:Int} {k:MK} {cl:Bool} {t':Tx} {ts:List AV} {μ1:Mu} {fs:List (Nat×AV)} (h:tJ μ p left lt cz (.loc pz) tr) (hz:af μ pz=some (8,fs))
  (e:bA [.loc pz,.str [c]] μ=.ok (.bl true) μ1) (h1:tJ μ1 p left lt cz (.loc pz) tr) (hc1:mP μ1 pz mk x k t' cl [59,10]) (hs:k.sz) (ht:k.told t'=.str t') (hl:t'.length<10000) (hp:μ1[lt]?=some (.lst ts)) (hts:ts.length<1000) (hlen:μ1.length=μ.length) :
  au [.loc p,.str [c]] μ=.ok (.bl true) (mS μ1 p lt cz tr left ts t'):=by
 have ho:af μ p=some (15,[(38,.int left),(40,.loc lt),(41,.loc cz),(42,.loc pz),(43,.loc tr)]):=h;have ho1:af μ1 p=some (15,[(38,.int left),(40,.loc lt),(41,.loc cz),(42,.loc pz),(43,.loc tr)]):=h1;have hoc1:af μ1 pz=some (8,_):=hc1.c;have eg1:=hc1.c.good hc1.y;have et:=hc1.c.told hc1.m hl hs;rw[ht] at et;have ek:=DT t' h1 hp hts hl;have hil:=fY ho
 have hgc:iq μ (.ok (.bl true) (mS μ1 p lt cz tr left ts t'))=.ok (.bl true) (mS μ1 p lt cz tr left ts t'):=by
  refine gH (i:=p) (o:=nQ (left-t'.length) lt (μ1.length+1) .non tr) hil ?_ ?_ ?_
  ·unfold mS
   rw[q15 (by simp; omega)]
  ·simp[jU,g8,kv,nQ,tK,hlen]
   omega
  ·rw[iQ ho]
   simp[nQ,tK]
 have e2:b8 [.loc p,.str [c]] μ=.ok (.bl true) (mS μ1 p lt cz tr left ts t'):=by
  unfold b8;simp[ho,hz,e,ho1,hoc1,eg1,et,ek,hgc]
 unfold au;simp[ho,e2,hgc]
theorem sA {p lt cz tr:Nat} {left:Int} {pc:AV} {b:Bool} {fs:List (Nat×AV)} (h:tJ μ p left lt cz pc tr) (hz:af μ tr=some (10,fs)) (e:cy [.loc tr] μ=.ok (.bl b) μ):bF [.loc p] μ=.ok (.bl b) μ:=by
 have ho:af μ p=some (15,[(38,.int left),(40,.loc lt),(41,.loc cz),(42,pc),(43,.loc tr)]):=h;unfold bF;simp[ho,hz,e]
theorem Dk {p lt cz tr:Nat} {left:Int} {pc:AV} {ts ps:List AV} {fs:List (Nat×AV)} (h:tJ μ p left lt cz pc tr) (hz:af μ tr=some (10,fs)) (hp:bu μ lt=some ts) (hts:ts.length<1000) (e:du [.loc tr] μ=.ok (.tup ps) μ) :
  bL [.loc p] μ=.ok (.tup [.str [112,105,101,99,101,115],.tup ts,.tup ps]) μ:=by
 have ho:af μ p=some (15,[(38,.int left),(40,.loc lt),(41,.loc cz),(42,pc),(43,.loc tr)]):=h
 have hz1:ts.length≤cE:=by rw[bV]; omega
 have hz3:(3:Nat)≤cE:=by decide
 unfold bL;simp[ho,hz,hp,hz1,hz3,e]
def pL:Tx:=[48,59,10,59,10]
theorem Fk:iB=.str pL:=rfl
theorem FM {p lt cz tr pz mk x:Nat} {left:Int} {k:MK} {cl:Bool} {ct:Tx} (h:tJ μ p left lt cz (.loc pz) tr) (hc:mP μ pz mk x k t cl ct) (hl:t.length<10000) (hct:ct.length<100) (hk:k.ok) :
  ak [.loc p] μ=.ok (.str ((k.aw t++[59,10].drop ct.length)++pL)) μ:=by
 have ho:af μ p=some (15,[(38,.int left),(40,.loc lt),(41,.loc cz),(42,.loc pz),(43,.loc tr)]):=h;have hoc:af μ pz=some (8,_):=hc.c;have e:=hc.c.aw hc.m hc.y hl (by omega) hk (by decide);have hs:=kJ k t hk
 have hz:(k.aw t).length+(2-ct.length)+5≤cE:=by rw[bV]; omega
 have hz':(k.aw t).length+(2-ct.length+5)≤cE:=by rw[bV]; omega
 unfold ak;simp[ho,hoc,e,Fk,pL,hz,hz']
theorem xi {p lt cz tr mk x:Nat} {left:Int} {k:MK} {cl:Bool} {ct y:Tx} {fs:List (Nat×AV)} (h:tJ μ p left lt cz .non tr) (hc:mP μ cz mk x k t cl ct) (hl:t.length<10000) (hct:ct.length<100) (hk:k.ok) (hs':k.sz) (ht:k.told t=.int 0) (hz:af μ tr=some (10,fs)) (e2:bw [.loc tr] μ=.ok (.str y) μ) (hy:y.length≤5000) :
  ak [.loc p] μ=.ok (.str ((k.aw t++[59,10].drop ct.length)++y)) μ:=by
 have ho:af μ p=some (15,[(38,.int left),(40,.loc lt),(41,.loc cz),(42,.non),(43,.loc tr)]):=h;have hoc:af μ cz=some (8,_):=hc.c;have e:=hc.c.aw hc.m hc.y hl (by omega) hk (by decide);have et:=hc.c.told hc.m hl hs';rw[ht] at et;have hs:=kJ k t hk
 have hz1:(k.aw t).length+(2-ct.length)+y.length≤cE:=by rw[bV]; omega
 unfold ak;simp[ho,hoc,e,et,hz,e2,hz1]
theorem GU {p lt cz tr mk x:Nat} {left n:Int} {k:MK} {cl:Bool} {ct:Tx} (h:tJ μ p left lt cz .non tr) (hc:mP μ cz mk x k t cl ct) (hl:t.length<10000) (hct:ct.length<100) (hk:k.ok) (hs':k.sz) (ht:k.told t=.int n) (hn:0<n) (hn':n≤1000) :
  ak [.loc p] μ=.ok (.str ((((k.aw t++[59,10].drop ct.length)++q45 n.toNat 97)++[59,10])++pL)) μ:=by
 have ho:af μ p=some (15,[(38,.int left),(40,.loc lt),(41,.loc cz),(42,.non),(43,.loc tr)]):=h;have hoc:af μ cz=some (8,_):=hc.c;have e:=hc.c.aw hc.m hc.y hl (by omega) hk (by decide);have et:=hc.c.told hc.m hl hs';rw[ht] at et;have hs:=kJ k t hk;have es:=ms n μ;have hm:iu (μ++[MK.obj (.sg n) []]) μ.length (.sg n) []:=oW _ _ _;have hom:af (μ++[MK.obj (.sg n) []]) μ.length=some (7,_):=hm;have ea:=Bs (.sg n) hm (by decide) ⟨by omega,hn'⟩ (ab 0) [some (.loc μ.length)] rfl;simp[hom,MK.aw] at ea
 have hz1:(k.aw t).length+(2-ct.length)+n.toNat≤cE:=by rw[bV]; omega
 have hz2:(k.aw t).length+(2-ct.length+n.toNat)+2≤cE:=by rw[bV]; omega
 have hz3:(k.aw t).length+(2-ct.length+(n.toNat+2))+5≤cE:=by rw[bV]; omega
 have hz2':(k.aw t).length+(2-ct.length)+n.toNat+2≤cE:=by rw[bV]; omega
 have hz3':(k.aw t).length+(2-ct.length)+n.toNat+2+5≤cE:=by rw[bV]; omega
 unfold ak;simp[ho,hoc,e,et,hn,es,hom,ea,bi,Fk,pL,hz1,hz2,hz3,hz2',hz3']
theorem Aq {p:Nat} {left:Int} {fs:List (Nat×AV)} (ho:af μ p=some (15,(38,.int left)::fs)):cm [.loc p] μ=.ok (.loc (μ.length+1)) (μ++[MK.obj (.num 16 left) [],ni μ.length (μ.length+2) false,MK.obj (.ex [59,10]) []]):=by
 have en:=lJ 16 left μ;have ec:=j0 μ.length [59,10] (μ++[MK.obj (.num 16 left) []]);simp at ec
 have gg:∀ m,iq μ (.ok (.loc (μ.length+1)) m)=.ok (.loc (μ.length+1)) m:=fun m=>lQ (by omega)
 unfold cm;simp[ho,en,bi,ec,gg]
theorem wM {b0 b1 d b3 m b5 b6:Int} (rq:Int) (μ:Mu):jd [.loc μ.length,fV b0 b1 d b3 m b5 b6,.int rq] (μ++[.ins 15 []])=.ok .non (μ++[nQ m (μ.length+1) (μ.length+3) .non (μ.length+5),.lst [],MK.obj (.num 16 m) [],ni (μ.length+2) (μ.length+4) false,MK.obj (.ex [59,10]) [],oQ (fV b0 b1 d b3 m b5 b6) rq [] (μ.length+6) .non .non .non,.lst []]):=by
 have i0:cM (fV b0 b1 d b3 m b5 b6) (.int 4)=fun μ=>.ok (.int m) μ:=rfl
 have en:=Aq (μ:=μ++[.ins 15 [(38,.int m),(40,.loc (μ.length+1))],.lst []]) (p:=μ.length) (left:=m) (fs:=[(40,.loc (μ.length+1))]) (by simp[af]);have ef:=qP (b0:=b0) (b1:=b1) (d:=d) (b3:=b3) (m:=m) (b5:=b5) (b6:=b6) rq [] (μ++[.ins 15 [(38,.int m),(40,.loc (μ.length+1)),(41,.loc (μ.length+3)),(42,.non)],.lst [],MK.obj (.num 16 m) [],ni (μ.length+2) (μ.length+4) false,MK.obj (.ex [59,10]) []]);simp[kh] at en ef
 have hgc:∀ u,iq (μ++[AO.ins 15 []]) (.ok .non (μ++nQ m (μ.length+1) (μ.length+3) .non (μ.length+5)::u))=.ok .non (μ++nQ m (μ.length+1) (μ.length+3) .non (μ.length+5)::u):=fun u=>
  gH (i:=μ.length) (o:=nQ m (μ.length+1) (μ.length+3) .non (μ.length+5)) (by simp) (by simp) (by simp[jU,g8,kv,nQ,tK]) (by simp[nQ,tK])
 unfold nQ tK at hgc⊢;unfold jd;simp[gF,jC,eS,i0,bV,en,ef,hgc]
def sn (μ:Mu) (a:Nat) (n:Int):Prop:=af μ a=some (11,[(38,.int n)])
def CQ (n:Int):AO:=.ins 11 [(38,.int n)]
def oh (μ:Mu) (p:Nat) (bk:AV) (dq:Int) (tl lp:Nat) (row part:AV):Prop:=af μ p=some (16,[(30,bk),(44,.int dq),(45,.loc tl),(46,.loc lp),(36,row),(47,part)])
def l0 (bk:AV) (dq:Int) (tl lp:Nat) (row part:AV):AO:=.ins 16 [(30,bk),(44,.int dq),(45,.loc tl),(46,.loc lp),(36,row),(47,part)]
theorem yW {b0 b1 d b3 m b5 b6 dq n:Int} {p tl lp:Nat} {row part:AV} (h:oh μ p (fV b0 b1 d b3 m b5 b6) dq tl lp row part) (ht:sn μ tl n):fH [.loc p] μ=.ok (.bl (decide (dq<b6)&&decide (0<n))) μ:=by
 have ho:af μ p=_:=h;have hot:af μ tl=_:=ht
 have i6:∀ μ,cM (fV b0 b1 d b3 m b5 b6) (.int 6) μ=.ok (.int b6) μ:=fun _=>rfl
 have er:ip [.loc tl] μ=.ok (.bl (decide (0<n))) μ:=by
  unfold ip;simp[hot]
 unfold fH
 by_cases h1:dq<b6
 ·simp[ho,jY,i6,h1,hot,er]
 ·simp[ho,jY,i6,h1]
theorem Bo (g:Tx) (μ:Mu):gj [.loc μ.length,.str g] (μ++[.ins 1 []])=.ok .non (μ++[MK.obj (.ex g) []]):=lm 1 (.inl rfl) g μ
theorem Km {b0 b1 d b3 m b5 b6 dq n:Int} {p tl lp:Nat} (h:oh μ p (fV b0 b1 d b3 m b5 b6) dq tl lp .non .non) (ht:sn μ tl n) (hc:c≠45) (hk:(decide (c=43)&&(decide (dq<b6)&&decide (0<n)))=false) :
  bI [.loc p,.str [c]] μ=.ok (.bl false) μ:=by
 have ho:af μ p=_:=h;have er:=yW h ht;have hc':¬ c=45:=hc;unfold bI
 by_cases h43:c=43
 ·subst h43
  simp at hk
  have hb:(decide (dq<b6)&&decide (0<n))=false:=by simpa using hk
  rw[hb] at er;simp[ho,bm,eH,bV,er]
 ·simp[bm,eH,bV,hc',h43]
theorem Ft {bk:AV} {dq:Int} {p tl lp:Nat} (h:oh μ p bk dq tl lp .non .non) :
  bI [.loc p,.str [45]] μ=.ok (.bl true) ((μ++[MK.obj (.ex [45,59,10]) [45]]).set p (l0 bk dq tl lp (.loc μ.length) .non)):=by
 have ho:af μ p=some (16,[(30,bk),(44,.int dq),(45,.loc tl),(46,.loc lp),(36,.non),(47,.non)]):=h;have hp:=fY ho
 have ho1:∀ u,af (μ++u) p=some (16,[(30,bk),(44,.int dq),(45,.loc tl),(46,.loc lp),(36,.non),(47,.non)]):=fun u=>rM _ _ _ _ ho
 have ei:=Bo [45,59,10] μ;obtain⟨ν,hν⟩:∃ ν,ν=(μ++[MK.obj (.ex [45,59,10]) []]).set p (.ins 16 [(30,bk),(44,.int dq),(45,.loc tl),(46,.loc lp),(36,.loc μ.length),(47,.non)]):=⟨_,rfl⟩
 have hx:iu ν μ.length (.ex [45,59,10]) []:=by
  rw[hν];exact iu.set_ne (oW _ _ _) _ (by omega)
 have hop:af ν p=some (16,[(30,bk),(44,.int dq),(45,.loc tl),(46,.loc lp),(36,.loc μ.length),(47,.non)]):=by rw[hν]; exact gA (by simp; omega)
 have hox:af ν μ.length=some (1,_):=hx;have e:=mF (c:=45) (.ex [45,59,10]) hx (by decide) (by show _≤_; decide);rw[if_pos (by decide)] at e
 have hfin:ν.set μ.length (MK.obj (.ex [45,59,10]) ([]++[45]))=(μ++[MK.obj (.ex [45,59,10]) [45]]).set p (l0 bk dq tl lp (.loc μ.length) .non):=by
  rw[hν,List.set_comm _ _ (by omega),gF]
  rfl
 rw[hfin] at e
 have hgc:iq μ (.ok (.bl true) ((μ++[MK.obj (.ex [45,59,10]) [45]]).set p (l0 bk dq tl lp (.loc μ.length) .non)))=.ok (.bl true) ((μ++[MK.obj (.ex [45,59,10]) [45]]).set p (l0 bk dq tl lp (.loc μ.length) .non)):=by
  refine gH (i:=p) (o:=l0 bk dq tl lp (.loc μ.length) .non) hp ?_ ?_ ?_
  ·rw[q15 (by simp; omega)]
  ·simp[jU,g8,kv,l0]
  ·rw[iQ ho]
   simp[l0]
 unfold bI;simp[bm,bV,ei,ho1,← hν,hop,hox,e,hgc]
theorem Ey {tl:Nat} {n:Int} (ht:sn μ tl n):il [.loc tl] μ=.ok .non (μ.set tl (CQ (n-1))):=by
 have hot:af μ tl=some (11,[(38,.int n)]):=ht;unfold il;simp[hot];exact eW (by simp)
theorem D3 {b0 b1 d b3 m b5 b6 dq n:Int} {p tl lp:Nat} (h:oh μ p (fV b0 b1 d b3 m b5 b6) dq tl lp .non .non) (ht:sn μ tl n) (hk:(decide (dq<b6)&&decide (0<n))=true) :
  bI [.loc p,.str [43]] μ=.ok (.bl true) ((μ.set tl (CQ (n-1))++[MK.obj (.ex [43,59,10]) [43]]).set p (l0 (fV b0 b1 d b3 m b5 b6) dq tl lp (.loc μ.length) .non)):=by
 obtain⟨bk,hbk⟩:∃ bk,bk=fV b0 b1 d b3 m b5 b6:=⟨_,rfl⟩;have er:=yW h ht;rw[hk] at er;rw[← hbk] at h⊢;have ho:af μ p=some (16,[(30,bk),(44,.int dq),(45,.loc tl),(46,.loc lp),(36,.non),(47,.non)]):=h;have hot:af μ tl=some (11,[(38,.int n)]):=ht;have htp:tl≠p:=cJ hot ho (by decide);have et:=Ey ht;have hp:=fY ho;obtain⟨μa,hμa⟩:∃ μa,μa=μ.set tl (CQ (n-1)):=⟨_,rfl⟩;rw[← hμa] at et⊢
 have hla:μa.length=μ.length:=by rw[hμa]; simp
 have hoa:af μa p=some (16,[(30,bk),(44,.int dq),(45,.loc tl),(46,.loc lp),(36,.non),(47,.non)]):=by rw[hμa,k0 htp]; exact ho
 have ho1:∀ u,af (μa++u) p=some (16,[(30,bk),(44,.int dq),(45,.loc tl),(46,.loc lp),(36,.non),(47,.non)]):=fun u=>rM _ _ _ _ hoa
 have ei:=Bo [43,59,10] μa;obtain⟨ν,hν⟩:∃ ν,ν=(μa++[MK.obj (.ex [43,59,10]) []]).set p (.ins 16 [(30,bk),(44,.int dq),(45,.loc tl),(46,.loc lp),(36,.loc μa.length),(47,.non)]):=⟨_,rfl⟩
 have hx:iu ν μa.length (.ex [43,59,10]) []:=by
  rw[hν];exact iu.set_ne (oW _ _ _) _ (by omega)
 have hop:af ν p=some (16,[(30,bk),(44,.int dq),(45,.loc tl),(46,.loc lp),(36,.loc μa.length),(47,.non)]):=by rw[hν]; exact gA (by simp; omega)
 have hox:af ν μa.length=some (1,_):=hx;have e:=mF (c:=43) (.ex [43,59,10]) hx (by decide) (by show _≤_; decide);rw[if_pos (by decide)] at e
 have hfin:ν.set μa.length (MK.obj (.ex [43,59,10]) ([]++[43]))=(μa++[MK.obj (.ex [43,59,10]) [43]]).set p (l0 bk dq tl lp (.loc μ.length) .non):=by
  rw[hν,List.set_comm _ _ (by omega),gF,hla]
  rfl
 rw[hfin] at e
 have hgc:iq μ (.ok (.bl true) ((μa++[MK.obj (.ex [43,59,10]) [43]]).set p (l0 bk dq tl lp (.loc μ.length) .non)))=.ok (.bl true) ((μa++[MK.obj (.ex [43,59,10]) [43]]).set p (l0 bk dq tl lp (.loc μ.length) .non)):=by
  refine gH (i:=p) (o:=l0 bk dq tl lp (.loc μ.length) .non) hp ?_ ?_ ?_
  ·rw[q15 (by simp; omega)]
  ·simp[jU,g8,kv,l0]
  ·rw[iQ ho]
   simp[l0]
 unfold bI;simp[bm,eH,bV,ho,er,hot,et,ei,ho1,← hν,hop,hox,e,hgc]
theorem tq {bk:AV} {dq:Int} {p tl lp:Nat} {b:Bool} {μ1:Mu} (n:Nat) (h:oh μ p bk dq tl lp .non .non) (e:bI [.loc p,.str [c]] μ=.ok (.bl b) μ1):aH (n+1) [.loc p,.str [c]] μ=.ok (.bl b) μ1:=by
 have ho:af μ p=some (16,[(30,bk),(44,.int dq),(45,.loc tl),(46,.loc lp),(36,.non),(47,.non)]):=h;have hg:iq μ (.ok (.bl b) μ1)=.ok (.bl b) μ1:=jP e;rw[dH];simp[ho,e,hg]
theorem zA {bk:AV} {dq:Int} {p tl lp rx:Nat} {fs:List (Nat×AV)} (n:Nat) (h:oh μ p bk dq tl lp (.loc rx) .non) (hr:af μ rx=some (1,fs)) (e:aV [.loc rx,.str [c]] μ=.ok (.bl false) μ):aH (n+1) [.loc p,.str [c]] μ=.ok (.bl false) μ:=by
 have ho:af μ p=some (16,[(30,bk),(44,.int dq),(45,.loc tl),(46,.loc lp),(36,.loc rx),(47,.non)]):=h;rw[dH];simp[ho,hr,e]
theorem FR {bk:AV} {dq:Int} {p tl lp rx:Nat} {g t':Tx} {μ1:Mu} {fs:List (Nat×AV)} (n:Nat) (h:oh μ p bk dq tl lp (.loc rx) .non) (hr:af μ rx=some (1,fs)) (e:aV [.loc rx,.str [c]] μ=.ok (.bl true) μ1) (h1:oh μ1 p bk dq tl lp (.loc rx) .non) (hx:iu μ1 rx (.ex g) t') (ht:t'≠[43,59,10]) (hlen:μ1.length=μ.length) :
  aH (n+1) [.loc p,.str [c]] μ=.ok (.bl true) μ1:=by
 have ho:af μ p=some (16,[(30,bk),(44,.int dq),(45,.loc tl),(46,.loc lp),(36,.loc rx),(47,.non)]):=h;have ho1:af μ1 p=some (16,[(30,bk),(44,.int dq),(45,.loc tl),(46,.loc lp),(36,.loc rx),(47,.non)]):=h1;have hox:af μ1 rx=some (1,[(20,.str t'),(21,.str g)]):=hx
 have et:aK [.loc rx] μ1=.ok (.str t') μ1:=by
  unfold aK;simp[hox]
 have hb:(t'==[43,59,10])=false:=by simp[ht]
 have hgc:iq μ (.ok (.bl true) μ1)=.ok (.bl true) μ1:=eW hlen;rw[dH];simp[ho,hr,e,ho1,hox,et,eH,hb,hgc]
def ur (μ:Mu) (p:Nat) (bk:AV) (dq:Int) (tl fl:Nat) (body:AV):Prop:=af μ p=some (17,[(30,bk),(44,.int dq),(45,.loc tl),(48,.loc fl),(49,body)])
def qV (bk:AV) (dq:Int) (tl fl:Nat) (body:AV):AO:=.ins 17 [(30,bk),(44,.int dq),(45,.loc tl),(48,.loc fl),(49,body)]
def PEN:List Tx:=kB.take 3
theorem Pi:ij=kh PEN:=rfl
def kR (dq:Int):List Tx:=if dq=0 then kB else PEN
theorem xu {b0 b1 d b3 m b5 b6:Int} (dq:Int) (tl:Nat) (htl:tl<μ.length):kY [.loc μ.length,fV b0 b1 d b3 m b5 b6,.int dq,.loc tl] (μ++[.ins 17 []])=.ok .non (μ++[qV (fV b0 b1 d b3 m b5 b6) dq tl (μ.length+1) .non,oQ (fV b0 b1 d b3 m b5 b6) b3 (kR dq) (μ.length+2) .non .non .non,.lst []]):=by
 obtain⟨bk,hbk⟩:∃ bk,bk=fV b0 b1 d b3 m b5 b6:=⟨_,rfl⟩
 have i3:∀ μ,cM bk (.int 3) μ=.ok (.int b3) μ:=fun _=>by rw[hbk]; rfl
 have ef:=fun nq=>qP (b0:=b0) (b1:=b1) (d:=d) (b3:=b3) (m:=m) (b5:=b5) (b6:=b6) b3 nq (μ++[.ins 17 [(30,bk),(44,.int dq),(45,.loc tl)]])
 rw[← hbk] at ef⊢
 have hb:kv μ.length bk=true:=by rw[hbk]; simp[fV,kv,g8]
 simp at ef
 have hgc:∀ u,iq (μ++[AO.ins 17 []]) (.ok .non (μ++qV bk dq tl (μ.length+1) .non::u))=.ok .non (μ++qV bk dq tl (μ.length+1) .non::u):=fun u=>
  gH (i:=μ.length) (o:=qV bk dq tl (μ.length+1) .non) (by simp) (by simp) (by simp[jU,g8,kv,qV]) (by simp[qV])
 unfold qV at hgc⊢;unfold kY kR;rw[Pi,Cd]
 by_cases h0:dq=0
 ·subst h0
  simp[gF,jC,iT,i3,ef,hgc]
 ·simp[gF,jC,iT,i3,ef,h0,hgc]
theorem wu {b0 b1 d b3 m b5 b6 dq:Int} {p tl lp:Nat} {row part:AV} (h:oh μ p (fV b0 b1 d b3 m b5 b6) dq tl lp row part) (htl:tl<μ.length) :
  ca [.loc p] μ=.ok (.loc μ.length) (μ++[qV (fV b0 b1 d b3 m b5 b6) (dq+1) tl (μ.length+1) .non,oQ (fV b0 b1 d b3 m b5 b6) b3 (kR (dq+1)) (μ.length+2) .non .non .non,.lst []]):=by
 have ho:af μ p=_:=h;have ei:=xu (b0:=b0) (b1:=b1) (d:=d) (b3:=b3) (m:=m) (b5:=b5) (b6:=b6) (dq+1) tl htl
 have gg:∀ m,iq μ (.ok (.loc μ.length) m)=.ok (.loc μ.length) m:=fun m=>lQ (q11 _)
 unfold ca;simp[ho,ei,gg]
theorem zY {bk:AV} {dq:Int} {p tl fl:Nat} {μ1:Mu} {fs fs1:List (Nat×AV)} (n:Nat) (h:ur μ p bk dq tl fl .non) (hf:af μ fl=some (10,fs)) (e:bg [.loc fl,.str [c]] μ=.ok (.bl true) μ1) (h1:ur μ1 p bk dq tl fl .non) (hf1:af μ1 fl=some (10,fs1)) (ew:cy [.loc fl] μ1=.ok (.bl false) μ1) :
  cT (n+1) [.loc p,.str [c]] μ=.ok (.bl true) μ1:=by
 have ho:af μ p=some (17,[(30,bk),(44,.int dq),(45,.loc tl),(48,.loc fl),(49,.non)]):=h;have ho1:af μ1 p=some (17,[(30,bk),(44,.int dq),(45,.loc tl),(48,.loc fl),(49,.non)]):=h1;have hg:iq μ (.ok (.bl true) μ1)=.ok (.bl true) μ1:=jP e;rw[jH];simp[ho,hf,e,ho1,hf1,ew,hg]
theorem vI {bk:AV} {dq:Int} {p tl fl:Nat} {fs:List (Nat×AV)} (n:Nat) (h:ur μ p bk dq tl fl .non) (hf:af μ fl=some (10,fs)) (e:bg [.loc fl,.str [c]] μ=.ok (.bl false) μ) :
  cT (n+1) [.loc p,.str [c]] μ=.ok (.bl false) μ:=by
 have ho:af μ p=some (17,[(30,bk),(44,.int dq),(45,.loc tl),(48,.loc fl),(49,.non)]):=h;rw[jH];simp[ho,hf,e]
theorem zg {bk:AV} {dq:Int} {p tl fl by_ C:Nat} {b:Bool} {μ1:Mu} {fs:List (Nat×AV)} {F:List AV→Mu→Rs AV} (n:Nat) (h:ur μ p bk dq tl fl (.loc by_)) (hb:af μ by_=some (C,fs)) (hF:q28 C [(12,bT),(13,aS),(14,aZ),(15,au),(16,(aH n))]=some F) (e:F [.loc by_,.str [c]] μ=.ok (.bl b) μ1) (hg:iq μ (.ok (.bl b) μ1)=.ok (.bl b) μ1) :
  cT (n+1) [.loc p,.str [c]] μ=.ok (.bl b) μ1:=by
 have ho:af μ p=some (17,[(30,bk),(44,.int dq),(45,.loc tl),(48,.loc fl),(49,.loc by_)]):=h;have k49:q28 49 [((30:Nat),bk),(44,.int dq),(45,.loc tl),(48,.loc fl),(49,.loc by_)]=some (AV.loc by_):=rfl;rw[jH];simp[-uh,ho,k49,hb,hF,e,hg]
theorem G3 {b0 b1 d b3 m b5 b6 dq:Int} {p tl lp rx:Nat} {g:Tx} {μ1:Mu} {fs:List (Nat×AV)} (n:Nat) (h:oh μ p (fV b0 b1 d b3 m b5 b6) dq tl lp (.loc rx) .non) (hr:af μ rx=some (1,fs)) (e:aV [.loc rx,.str [c]] μ=.ok (.bl true) μ1) (h1:oh μ1 p (fV b0 b1 d b3 m b5 b6) dq tl lp (.loc rx) .non) (hx:iu μ1 rx (.ex g) [43,59,10]) (htl:tl<μ.length) (hlen:μ1.length=μ.length) :
  aH (n+1) [.loc p,.str [c]] μ=.ok (.bl true) ((μ1++[qV (fV b0 b1 d b3 m b5 b6) (dq+1) tl (μ.length+1) .non,oQ (fV b0 b1 d b3 m b5 b6) b3 (kR (dq+1)) (μ.length+2) .non .non .non,.lst []]).set p (l0 (fV b0 b1 d b3 m b5 b6) dq tl lp (.loc rx) (.loc μ.length))):=by
 have en:=wu h1 (by omega);obtain⟨bk,hbk⟩:∃ bk,bk=fV b0 b1 d b3 m b5 b6:=⟨_,rfl⟩;rw[← hbk] at h h1 en⊢;rw[hlen] at en;have ho:af μ p=some (16,[(30,bk),(44,.int dq),(45,.loc tl),(46,.loc lp),(36,.loc rx),(47,.non)]):=h;have ho1:af μ1 p=some (16,[(30,bk),(44,.int dq),(45,.loc tl),(46,.loc lp),(36,.loc rx),(47,.non)]):=h1
 have ho2:∀ u,af (μ1++u) p=some (16,[(30,bk),(44,.int dq),(45,.loc tl),(46,.loc lp),(36,.loc rx),(47,.non)]):=fun u=>rM _ _ _ _ ho1
 have hox:af μ1 rx=some (1,[(20,.str [43,59,10]),(21,.str g)]):=hx;have hp:=fY ho
 have et:aK [.loc rx] μ1=.ok (.str [43,59,10]) μ1:=by
  unfold aK;simp[hox]
 obtain⟨u,hu⟩:∃ u,u=[qV bk (dq+1) tl (μ.length+1) .non,oQ bk b3 (kR (dq+1)) (μ.length+2) .non .non .non,.lst []]:=⟨_,rfl⟩;rw[← hu] at en⊢
 have hgc:iq μ (.ok (.bl true) ((μ1++u).set p (l0 bk dq tl lp (.loc rx) (.loc μ.length))))=.ok (.bl true) ((μ1++u).set p (l0 bk dq tl lp (.loc rx) (.loc μ.length))):=by
  refine gH (i:=p) (o:=l0 bk dq tl lp (.loc rx) (.loc μ.length)) hp ?_ ?_ ?_
  ·rw[q15 (by simp; omega)]
  ·simp[jU,g8,kv,l0]
  ·rw[iQ ho]
   simp[l0]
 unfold l0 at hgc⊢;rw[dH];simp[ho,hr,e,ho1,hox,et,eH,en,ho2,hgc]
theorem tB {bk:AV} {dq:Int} {p tl lp fm:Nat} {row:AV} {fs:List (Nat×AV)} (n:Nat) (h:oh μ p bk dq tl lp row (.loc fm)) (hf:af μ fm=some (17,fs)) (e:cT n [.loc fm,.str [c]] μ=.ok (.bl false) μ):aH (n+2) [.loc p,.str [c]] μ=.ok (.bl false) μ:=by
 have ho:af μ p=some (16,[(30,bk),(44,.int dq),(45,.loc tl),(46,.loc lp),(36,row),(47,.loc fm)]):=h
 have e2:bS (n+1) [.loc p,.str [c]] μ=.ok (.bl false) μ:=by
  rw[iL];simp[ho,hf,e]
 rw[dH];simp[ho,e2]
theorem yC {bk:AV} {dq:Int} {p tl lp fm:Nat} {row:AV} {μ1:Mu} {fs fs1:List (Nat×AV)} (n:Nat) (h:oh μ p bk dq tl lp row (.loc fm)) (hf:af μ fm=some (17,fs)) (e:cT n [.loc fm,.str [c]] μ=.ok (.bl true) μ1) (h1:oh μ1 p bk dq tl lp row (.loc fm)) (hf1:af μ1 fm=some (17,fs1)) (ew:eF [.loc fm] μ1=.ok (.bl false) μ1) (hg:iq μ (.ok (.bl true) μ1)=.ok (.bl true) μ1) :
  aH (n+2) [.loc p,.str [c]] μ=.ok (.bl true) μ1:=by
 have ho:af μ p=some (16,[(30,bk),(44,.int dq),(45,.loc tl),(46,.loc lp),(36,row),(47,.loc fm)]):=h;have ho1:af μ1 p=some (16,[(30,bk),(44,.int dq),(45,.loc tl),(46,.loc lp),(36,row),(47,.loc fm)]):=h1
 have e2:bS (n+1) [.loc p,.str [c]] μ=.ok (.bl true) μ1:=by
  rw[iL];simp[ho,hf,e,ho1,hf1,ew,hg]
 rw[dH];simp[ho,e2,hg]
theorem uI {bk v:AV} {dq:Int} {p tl lp fm:Nat} {row:AV} {μ1:Mu} {ts:List AV} {fs fs1:List (Nat×AV)} (n:Nat) (h:oh μ p bk dq tl lp row (.loc fm)) (hf:af μ fm=some (17,fs)) (e:cT n [.loc fm,.str [c]] μ=.ok (.bl true) μ1) (h1:oh μ1 p bk dq tl lp row (.loc fm)) (hf1:af μ1 fm=some (17,fs1)) (ew:eF [.loc fm] μ1=.ok (.bl true) μ1) (et:iG [.loc fm] μ1=.ok v μ1) (hp:μ1[lp]?=some (.lst ts)) (hts:ts.length<1000)
  (hg:iq μ (.ok (.bl true) ((μ1.set lp (.lst (ts++[v]))).set p (l0 bk dq tl lp .non .non)))=.ok (.bl true) ((μ1.set lp (.lst (ts++[v]))).set p (l0 bk dq tl lp .non .non))) :
  aH (n+2) [.loc p,.str [c]] μ=.ok (.bl true) ((μ1.set lp (.lst (ts++[v]))).set p (l0 bk dq tl lp .non .non)):=by
 have ho:af μ p=some (16,[(30,bk),(44,.int dq),(45,.loc tl),(46,.loc lp),(36,row),(47,.loc fm)]):=h;have ho1:af μ1 p=some (16,[(30,bk),(44,.int dq),(45,.loc tl),(46,.loc lp),(36,row),(47,.loc fm)]):=h1;have hil:=fY ho1
 have hlp:lp≠p:=by
  rintro rfl;have:=(iQ ho1).symm.trans hp;simp at this
 have hpl:bu μ1 lp=some ts:=by unfold bu; rw[hp]
 have hz:ts.length<cE:=by rw[bV]; omega
 have o1:∀ o,af (μ1.set lp o) p=some (16,[(30,bk),(44,.int dq),(45,.loc tl),(46,.loc lp),(36,row),(47,.loc fm)]):=fun o=>by rw[k0 hlp]; exact ho1
 have o2:∀ o gs,af ((μ1.set lp o).set p (.ins 16 gs)) p=some (16,gs):=fun o gs=>gA (by rw[q66]; exact hil)
 unfold l0 at hg⊢
 have e2:bS (n+1) [.loc p,.str [c]] μ=.ok (.bl true) ((μ1.set lp (.lst (ts++[v]))).set p (.ins 16 [(30,bk),(44,.int dq),(45,.loc tl),(46,.loc lp),(36,.non),(47,.non)])):=by
  rw[iL];simp[ho,hf,e,ho1,hf1,ew,et,hp,hpl,hz,o1,o2,hg]
 rw[dH];simp[ho,e2,hg]
theorem zM {bk part:AV} {dq:Int} {p tl lp:Nat} (h:oh μ p bk dq tl lp .non part):bt [.loc p] μ=.ok (.bl false) μ:=by
 have ho:af μ p=some (16,[(30,bk),(44,.int dq),(45,.loc tl),(46,.loc lp),(36,.non),(47,part)]):=h;unfold bt;simp[ho]
theorem sx {bk part:AV} {dq:Int} {p tl lp rx:Nat} {g:Tx} (h:oh μ p bk dq tl lp (.loc rx) part) (hx:iu μ rx (.ex g) t):bt [.loc p] μ=.ok (.bl (t==[45,59,10])) μ:=by
 have ho:af μ p=some (16,[(30,bk),(44,.int dq),(45,.loc tl),(46,.loc lp),(36,.loc rx),(47,part)]):=h;have hox:af μ rx=some (1,[(20,.str t),(21,.str g)]):=hx
 have et:aK [.loc rx] μ=.ok (.str t) μ:=by
  unfold aK;simp[hox]
 unfold bt;simp[ho,hox,et,bm]
theorem C5 {bk row part:AV} {dq:Int} {p tl lp:Nat} {ts:List AV} (h:oh μ p bk dq tl lp row part) (hp:bu μ lp=some ts) (hts:ts.length<1000):bW [.loc p] μ=.ok (.tup [.str [112,97,114,116,115],.tup ts]) μ:=by
 have ho:af μ p=some (16,[(30,bk),(44,.int dq),(45,.loc tl),(46,.loc lp),(36,row),(47,part)]):=h
 have hz:ts.length≤cE:=by rw[bV]; omega
 have hz2:(2:Nat)≤cE:=by decide
 unfold bW;simp[ho,hp,hz,hz2]
theorem Ac {bk:AV} {dq:Int} {p tl fl:Nat} (h:ur μ p bk dq tl fl .non):eF [.loc p] μ=.ok (.bl false) μ:=by
 have ho:af μ p=some (17,[(30,bk),(44,.int dq),(45,.loc tl),(48,.loc fl),(49,.non)]):=h;unfold eF;simp[ho]
theorem Bi {bk:AV} {dq:Int} {p tl fl by_ C:Nat} {b:Bool} {fs:List (Nat×AV)} {F:List AV→Mu→Rs AV} (h:ur μ p bk dq tl fl (.loc by_)) (hb:af μ by_=some (C,fs)) (hF:q28 C [(12,bp),(13,bD),(14,bp),(15,bF),(16,bt)]=some F) (e:F [.loc by_] μ=.ok (.bl b) μ) :
  eF [.loc p] μ=.ok (.bl b) μ:=by
 have ho:af μ p=some (17,[(30,bk),(44,.int dq),(45,.loc tl),(48,.loc fl),(49,.loc by_)]):=h;have k49:q28 49 [((30:Nat),bk),(44,.int dq),(45,.loc tl),(48,.loc fl),(49,.loc by_)]=some (AV.loc by_):=rfl;unfold eF;simp[-uh,ho,k49,hb,hF,e]
theorem DC {bk v w:AV} {dq:Int} {p tl fl by_ C:Nat} {fs gs:List (Nat×AV)} {F:List AV→Mu→Rs AV} (h:ur μ p bk dq tl fl (.loc by_)) (hb:af μ by_=some (C,fs)) (hf:af μ fl=some (10,gs)) (ef:du [.loc fl] μ=.ok v μ) (hF:q28 C [(12,dJ),(13,bM),(14,ci),(15,bL),(16,bW)]=some F) (e:F [.loc by_] μ=.ok w μ) :
  iG [.loc p] μ=.ok (.tup [v,w]) μ:=by
 have ho:af μ p=some (17,[(30,bk),(44,.int dq),(45,.loc tl),(48,.loc fl),(49,.loc by_)]):=h;have k49:q28 49 [((30:Nat),bk),(44,.int dq),(45,.loc tl),(48,.loc fl),(49,.loc by_)]=some (AV.loc by_):=rfl;have k48:q28 48 [((30:Nat),bk),(44,.int dq),(45,.loc tl),(48,.loc fl),(49,.loc by_)]=some (AV.loc fl):=rfl;have k10:q28 10 [((10:Nat),du)]=some du:=rfl
 have hz2:(2:Nat)≤cE:=by decide
 unfold iG;simp[-uh,ho,k49,k48,hb,hf,k10,ef,hF,e,hz2]
def EQ (μ:Mu) (p C a:Nat):Prop:=af μ p=some (C,[(39,.loc a)])
theorem B8 {p a:Nat} {n:Int} (h:EQ μ p 13 a) (hs:iu μ a (.sg n) t) (hl:t.length<10000):aS [.loc p,.str [c]] μ=if MK.tk (.sg n) t c=true then .ok (.bl true) (μ.set a (MK.obj (.sg n) (t++[c]))) else .ok (.bl false) μ:=by
 have ho:af μ p=some (13,[(39,.loc a)]):=h;have hos:af μ a=some (7,_):=hs;have e:=mF (c:=c) (.sg n) hs hl trivial;unfold aS
 cases hk:MK.tk (.sg n) t c with
 | true=>rw[hk] at e; simp at e; simp[ho,hos,e]; exact eW (by simp)
 | false=>rw[hk] at e; simp at e; simp[ho,hos,e]
theorem BK {p a:Nat} {n:Int} (h:EQ μ p 14 a) (hs:iu μ a (.sg n) t) (hl:t.length<10000):aZ [.loc p,.str [c]] μ=if MK.tk (.sg n) t c=true then .ok (.bl true) (μ.set a (MK.obj (.sg n) (t++[c]))) else .ok (.bl false) μ:=by
 have ho:af μ p=some (14,[(39,.loc a)]):=h;have hos:af μ a=some (7,_):=hs;have e:=mF (c:=c) (.sg n) hs hl trivial;unfold aZ
 cases hk:MK.tk (.sg n) t c with
 | true=>rw[hk] at e; simp at e; simp[ho,hos,e]; exact eW (by simp)
 | false=>rw[hk] at e; simp at e; simp[ho,hos,e]
theorem CG {p a:Nat} {n:Int} (h:EQ μ p 13 a) (hs:iu μ a (.sg n) t) (hl:t.length<10000):bD [.loc p] μ=.ok (.bl (decide ((t.length:Int)=n))) μ:=by
 have ho:af μ p=some (13,[(39,.loc a)]):=h;have hos:af μ a=some (7,[(20,.str t),(26,.int n)]):=hs
 have hz:t.length≤cE:=by rw[bV]; omega
 have e:fw [.loc a] μ=.ok (.bl (decide ((t.length:Int)=n))) μ:=by
  unfold fw;simp[hos,hz]
  rfl
 unfold bD;simp[ho,hos,e]
theorem Am {p a:Nat} {n:Int} (h:EQ μ p 13 a) (hs:iu μ a (.sg n) t):bM [.loc p] μ=.ok (.tup [.str li,.str t]) μ:=by
 have ho:af μ p=some (13,[(39,.loc a)]):=h;have hos:af μ a=some (7,[(20,.str t),(26,.int n)]):=hs
 have hz2:(2:Nat)≤cE:=by decide
 unfold bM;simp[ho,hos,aK,hz2,li]
theorem zF {p a:Nat} {n:Int} (h:EQ μ p 14 a) (hs:iu μ a (.sg n) t):ci [.loc p] μ=.ok (.tup [.str [114,101,115,116],.str t]) μ:=by
 have ho:af μ p=some (14,[(39,.loc a)]):=h;have hos:af μ a=some (7,[(20,.str t),(26,.int n)]):=hs
 have hz2:(2:Nat)≤cE:=by decide
 unfold ci;simp[ho,hos,aK,hz2]
theorem Fc {p a:Nat} {n:Int} (h:EQ μ p 13 a) (hs:iu μ a (.sg n) t) (hl:t.length<10000) (hn:0≤n∧n≤1000):az [.loc p] μ=.ok (.str (q45 (n-t.length).toNat 97)) μ:=by
 have ho:af μ p=some (13,[(39,.loc a)]):=h;have hos:af μ a=some (7,[(20,.str t),(26,.int n)]):=hs;have ea:=Bs (.sg n) hs hl hn (ab 0) [some (.loc a)] rfl;simp[hos,MK.aw] at ea;unfold az;simp[ho,hos,ea]
def m8:Tx:=[114,101,115,116]
def gc:Tx:=[112,105,101,99,101,115]
def iN:Tx:=[112,97,114,116,115]
theorem EC {bk rm dp tl:AV}:dA [.non,bk,rm,dp,tl] μ=.ok (.loc μ.length) (μ++[.ins 12 []]):=by
 have gg:∀ m,iq μ (.ok (.loc μ.length) m)=.ok (.loc μ.length) m:=fun m=>lQ (q11 _)
 unfold dA;simp[gg]
theorem wG (n:Int) (μ:Mu):je [.loc μ.length,.int n] (μ++[.ins 13 []])=.ok .non (μ++[.ins 13 [(39,.loc (μ.length+1))],MK.obj (.sg n) []]):=by
 have e:=ms n (μ++[.ins 13 []]);simp at e;unfold je;simp[e,jC];exact gH (i:=μ.length) (o:=.ins 13 [(39,.loc (μ.length+1))]) (by simp) (by simp) (by simp[jU,g8,kv]) (by simp)
theorem Ar (n:Int) (μ:Mu):jO [.loc μ.length,.int n] (μ++[.ins 14 []])=.ok .non (μ++[.ins 14 [(39,.loc (μ.length+1))],MK.obj (.sg n) []]):=by
 have e:=ms n (μ++[.ins 14 []]);simp at e;unfold jO;simp[e,jC];exact gH (i:=μ.length) (o:=.ins 14 [(39,.loc (μ.length+1))]) (by simp) (by simp) (by simp[jU,g8,kv]) (by simp)
theorem xA {b0 b1 d b3 m b5 b6:Int} (dq:Int) (tl:Nat) (μ:Mu):jp [.loc μ.length,fV b0 b1 d b3 m b5 b6,.int dq,.loc tl] (μ++[.ins 16 []])=.ok .non (μ++[l0 (fV b0 b1 d b3 m b5 b6) dq tl (μ.length+1) .non .non,.lst []]):=by
 have hgc:∀ u,iq (μ++[AO.ins 16 []]) (.ok .non (μ++l0 (fV b0 b1 d b3 m b5 b6) dq tl (μ.length+1) .non .non::u))=.ok .non (μ++l0 (fV b0 b1 d b3 m b5 b6) dq tl (μ.length+1) .non .non::u):=fun u=>
  gH (i:=μ.length) (o:=l0 (fV b0 b1 d b3 m b5 b6) dq tl (μ.length+1) .non .non) (by simp) (by simp) (by simp[jU,g8,kv,l0]) (by simp[l0])
 unfold l0 at hgc⊢;unfold jp;simp[gF,jC,bV,hgc]
theorem At {n:Int} {bk rm dp tl:AV}:dA [.tup [.str li,.int n],bk,rm,dp,tl] μ=.ok (.loc μ.length) (μ++[.ins 13 [(39,.loc (μ.length+1))],MK.obj (.sg n) []]):=by
 have gg:∀ m,iq μ (.ok (.loc μ.length) m)=.ok (.loc μ.length) m:=fun m=>lQ (q11 _)
 have e:=wG n μ;unfold dA;simp[li,e,gg]
theorem El {b0 b1 d b3 m b5 b6:Int} {w rm dp tl:AV}:dA [.tup [.str m8,w],fV b0 b1 d b3 m b5 b6,rm,dp,tl] μ=.ok (.loc μ.length) (μ++[.ins 14 [(39,.loc (μ.length+1))],MK.obj (.sg m) []]):=by
 have gg:∀ m,iq μ (.ok (.loc μ.length) m)=.ok (.loc μ.length) m:=fun m=>lQ (q11 _)
 have e:=Ar m μ
 have i4:∀ μ,cM (fV b0 b1 d b3 m b5 b6) (.int 4) μ=.ok (.int m) μ:=fun _=>rfl
 unfold dA;simp[m8,eS,i4,e,gg]
theorem BA {b0 b1 d b3 m b5 b6 dq:Int} {tl:Nat} {w rm:AV}:dA [.tup [.str iN,w],fV b0 b1 d b3 m b5 b6,rm,.int dq,.loc tl] μ=.ok (.loc μ.length) (μ++[l0 (fV b0 b1 d b3 m b5 b6) dq tl (μ.length+1) .non .non,.lst []]):=by
 have gg:∀ m,iq μ (.ok (.loc μ.length) m)=.ok (.loc μ.length) m:=fun m=>lQ (q11 _)
 have e:=xA (b0:=b0) (b1:=b1) (d:=d) (b3:=b3) (m:=m) (b5:=b5) (b6:=b6) dq tl μ;unfold dA;simp[iN,e,gg]
theorem zB {b0 b1 d b3 m b5 b6 rq:Int} {w dp tl:AV}:dA [.tup [.str gc,w],fV b0 b1 d b3 m b5 b6,.int rq,dp,tl] μ=.ok (.loc μ.length) (μ++[nQ m (μ.length+1) (μ.length+3) .non (μ.length+5),.lst [],MK.obj (.num 16 m) [],ni (μ.length+2) (μ.length+4) false,MK.obj (.ex [59,10]) [],oQ (fV b0 b1 d b3 m b5 b6) rq [] (μ.length+6) .non .non .non,.lst []]):=by
 have gg:∀ m,iq μ (.ok (.loc μ.length) m)=.ok (.loc μ.length) m:=fun m=>lQ (q11 _)
 have e:=wM (b0:=b0) (b1:=b1) (d:=d) (b3:=b3) (m:=m) (b5:=b5) (b6:=b6) rq μ;unfold dA;simp[gc,e,gg]
theorem vh {bk en:AV} {R0:Int} {nq:List Tx} {i lp:Nat} {er:AV} (h:jr μ i bk R0 nq lp en .non er):cx [.loc i] μ=.ok en μ:=by
 have ho:af μ i=some (10,[(30,bk),(24,.int R0),(25,kh nq),(34,.loc lp),(35,en),(36,.non),(37,er)]):=h;unfold cx;simp[ho]
theorem GH {bk en er:AV} {dq R0:Int} {nq:List Tx} {p tl fl lp:Nat} {v:AV} {μ1:Mu} {ps:List AV} {bd:AV} (h:ur μ p bk dq tl fl bd) (hf:jr μ fl bk R0 nq lp en .non er) (hp:bu μ lp=some ps) (hl:ps.length<1000)
  (e:dA [en,bk,.int (R0-ps.length),.int dq,.loc tl] μ=.ok v μ1):bo [.loc p] μ=.ok v μ1:=by
 have ho:af μ p=some (17,[(30,bk),(44,.int dq),(45,.loc tl),(48,.loc fl),(49,bd)]):=h;have hof:af μ fl=some (10,_):=hf;have e1:=vh hf;have e2:=rZ hf hp hl;have hg:iq μ (.ok v μ1)=.ok v μ1:=jP e;unfold bo;simp[ho,hof,e1,e2,e,hg]
theorem D5 {bk en er:AV} {dq R0:Int} {nq:List Tx} {p tl fl lp l:Nat} {μ1:Mu} {u:Mu} {ps:List AV} {fs:List (Nat×AV)} (n:Nat) (h:ur μ p bk dq tl fl .non) (hf:af μ fl=some (10,fs)) (e:bg [.loc fl,.str [c]] μ=.ok (.bl true) μ1) (hlen:μ.length≤μ1.length) (h1:ur μ1 p bk dq tl fl .non) (hf1:jr μ1 fl bk R0 nq lp en .non er) (ew:cy [.loc fl] μ1=.ok (.bl true) μ1) (hp:bu μ1 lp=some ps) (hl:ps.length<1000)
  (eb:dA [en,bk,.int (R0-ps.length),.int dq,.loc tl] μ1=.ok (.loc l) (μ1++u)) (hll:μ1.length≤l) :
  cT (n+1) [.loc p,.str [c]] μ=.ok (.bl true) ((μ1++u).set p (qV bk dq tl fl (.loc l))):=by
 have ho:af μ p=some (17,[(30,bk),(44,.int dq),(45,.loc tl),(48,.loc fl),(49,.non)]):=h;have ho1:af μ1 p=some (17,[(30,bk),(44,.int dq),(45,.loc tl),(48,.loc fl),(49,.non)]):=h1;have ho2:af (μ1++u) p=some (17,[(30,bk),(44,.int dq),(45,.loc tl),(48,.loc fl),(49,.non)]):=rM _ _ _ _ ho1;have hof1:af μ1 fl=some (10,_):=hf1;have ebt:=GH h1 hf1 hp hl eb;have hpl:=fY ho
 have hgc:iq μ (.ok (.bl true) ((μ1++u).set p (qV bk dq tl fl (.loc l))))=.ok (.bl true) ((μ1++u).set p (qV bk dq tl fl (.loc l))):=by
  refine gH (i:=p) (o:=qV bk dq tl fl (.loc l)) hpl ?_ ?_ ?_
  ·rw[q15 (by simp; omega)]
  ·simp[jU,g8,kv,qV]
   intros
   omega
  ·rw[iQ ho]
   simp[qV]
 unfold qV at hgc⊢;rw[jH];simp[ho,hf,e,ho1,hof1,ew,ebt,ho2,hgc]
theorem Bp {bk:AV} {dq:Int} {p tl lp:Nat} (n:Nat) (h:oh μ p bk dq tl lp .non .non):ao (n+1) [.loc p] μ=.ok (.str [45,59,10]) μ:=by
 have ho:af μ p=some (16,[(30,bk),(44,.int dq),(45,.loc tl),(46,.loc lp),(36,.non),(47,.non)]):=h;rw[gG];simp[ho,bm]
theorem Cy {bk row:AV} {dq:Int} {p tl lp fm:Nat} {y:Tx} {fs:List (Nat×AV)} (n:Nat) (h:oh μ p bk dq tl lp row (.loc fm)) (hf:af μ fm=some (17,fs)) (e:cf n [.loc fm] μ=.ok (.str y) μ) (hy:y.length≤5000):ao (n+1) [.loc p] μ=.ok (.str (y++[45,59,10])) μ:=by
 have ho:af μ p=some (16,[(30,bk),(44,.int dq),(45,.loc tl),(46,.loc lp),(36,row),(47,.loc fm)]):=h
 have hz:y.length+3≤cE:=by rw[bV]; omega
 rw[gG];simp[ho,hf,e,bm,hz]
theorem HR {bk:AV} {dq:Int} {p tl lp rx:Nat} {g r:Tx} (n:Nat) (h:oh μ p bk dq tl lp (.loc rx) .non) (hx:iu μ rx (.ex g) (45::r)) (hr:r.length<100) (hg:g.length≤100):ao (n+1) [.loc p] μ=.ok (.str (g.drop (r.length+1))) μ:=by
 have ho:af μ p=some (16,[(30,bk),(44,.int dq),(45,.loc tl),(46,.loc lp),(36,.loc rx),(47,.non)]):=h;have hox:af μ rx=some (1,[(20,.str (45::r)),(21,.str g)]):=hx
 have et:aK [.loc rx] μ=.ok (.str (45::r)) μ:=by
  unfold aK;simp[hox]
 have hz:r.length+1≤cE:=by rw[bV]; omega
 have hzg:g.length≤cE:=by rw[bV]; omega
 have ec:kG g (some ((r.length:Int)+1)) none=g.drop (r.length+1):=by
  have:=qN g (r.length+1)
  simpa using this
 have ea:aU [.loc rx] μ=.ok (.str (g.drop (r.length+1))) μ:=by
  unfold aU;simp[hox,hz,hzg,ec]
 rw[gG]
 have hz3:(3:Nat)≤cE:=by decide
 simp[ho,hox,et,hz,bm,hz3,ea]
theorem Gx {bk:AV} {dq:Int} {p tl fl by_ C:Nat} {y:Tx} {fs:List (Nat×AV)} {F:List AV→Mu→Rs AV} (n:Nat) (h:ur μ p bk dq tl fl (.loc by_)) (hb:af μ by_=some (C,fs)) (hF:q28 C [(12,am),(13,az),(14,am),(15,ak),(16,(ao n))]=some F) (e:F [.loc by_] μ=.ok (.str y) μ) :
  cf (n+1) [.loc p] μ=.ok (.str y) μ:=by
 have ho:af μ p=some (17,[(30,bk),(44,.int dq),(45,.loc tl),(48,.loc fl),(49,.loc by_)]):=h;have k49:q28 49 [((30:Nat),bk),(44,.int dq),(45,.loc tl),(48,.loc fl),(49,.loc by_)]=some (AV.loc by_):=rfl;rw[lM];simp[-uh,ho,k49,hb,hF,e]
theorem zw {b0 b1 d b3 m b5 b6 dq:Int} {p tl lp rx:Nat} {g r y:Tx} {u:Mu} {fs:List (Nat×AV)} (n:Nat) (h:oh μ p (fV b0 b1 d b3 m b5 b6) dq tl lp (.loc rx) .non) (hx:iu μ rx (.ex g) (43::r)) (hr:r.length<100) (hg:g.length≤100)
  (en:ca [.loc p] μ=.ok (.loc μ.length) (μ++u)) (hu:af (μ++u) μ.length=some (17,fs)) (e:cf n [.loc μ.length] (μ++u)=.ok (.str y) (μ++u)) (hy:y.length≤5000):ao (n+1) [.loc p] μ=.ok (.str ((g.drop (r.length+1)++y)++[45,59,10])) μ:=by
 have ho:af μ p=_:=h;have hox:af μ rx=some (1,[(20,.str (43::r)),(21,.str g)]):=hx
 have et:aK [.loc rx] μ=.ok (.str (43::r)) μ:=by
  unfold aK;simp[hox]
 have hz:r.length+1≤cE:=by rw[bV]; omega
 have hzg:g.length≤cE:=by rw[bV]; omega
 have ec:kG g (some ((r.length:Int)+1)) none=g.drop (r.length+1):=by
  have:=qN g (r.length+1)
  simpa using this
 have ea:aU [.loc rx] μ=.ok (.str (g.drop (r.length+1))) μ:=by
  unfold aU;simp[hox,hz,hzg,ec]
 have hz3:(3:Nat)≤cE:=by decide
 have w1:g.length-(r.length+1)+y.length≤cE:=by rw[bV]; omega
 have w2:g.length-(r.length+1)+y.length+3≤cE:=by rw[bV]; omega
 have w2':g.length-(r.length+1)+(y.length+3)≤cE:=by rw[bV]; omega
 rw[gG];simp[ho,hox,et,hz,bm,hz3,ea,en,hu,e,w1,w2,w2']
theorem F1 {bk:AV} {dq:Int} {p tl fl l C:Nat} {y z:Tx} {u:Mu} {fs gs:List (Nat×AV)} {F:List AV→Mu→Rs AV} (n:Nat) (h:ur μ p bk dq tl fl .non) (hf:af μ fl=some (10,fs)) (ef:bw [.loc fl] μ=.ok (.str y) μ) (hy:y.length≤5000)
  (eb:bo [.loc p] μ=.ok (.loc l) (μ++u)) (hb:af (μ++u) l=some (C,gs)) (hF:q28 C [(12,am),(13,az),(14,am),(15,ak),(16,(ao n))]=some F) (e:F [.loc l] (μ++u)=.ok (.str z) (μ++u)) (hz:z.length≤5000) :
  cf (n+1) [.loc p] μ=.ok (.str (y++z)) μ:=by
 have ho:af μ p=some (17,[(30,bk),(44,.int dq),(45,.loc tl),(48,.loc fl),(49,.non)]):=h;have k49:q28 49 [((30:Nat),bk),(44,.int dq),(45,.loc tl),(48,.loc fl),(49,.non)]=some AV.non:=rfl;have k48:q28 48 [((30:Nat),bk),(44,.int dq),(45,.loc tl),(48,.loc fl),(49,.non)]=some (AV.loc fl):=rfl;have k10:q28 10 [((10:Nat),bw)]=some bw:=rfl;have k17:q28 17 [((17:Nat),bo)]=some bo:=rfl
 have w:y.length+z.length≤cE:=by rw[bV]; omega
 have hgd:=Cb μ u (y++z);rw[lM];simp[-uh,ho,k49,k48,hf,k10,ef,k17,eb,hb,hF,e,w,hgd]
end My
namespace My
open L2 AL
def zK (j:Nat):Nat:=if j<10 then 48+j else 87+j
def sD (B n:Nat):Tx:=if n<B then [zK n] else [zK (n/B),zK (n%B)]
theorem oA {t g:Tx} (h:pre t g=true):∃ y,g=t++y:=by
 simp only[pre,beq_iff_eq] at h;have e:=qa0 t.length g;rw[← h] at e;exact⟨_,e.symm⟩
theorem vn (t y:Tx):pre t (t++y)=true:=by simp[pre]
theorem Cw:∀ c,c<127→CV (Ax.take 10) c=if 48≤c∧c≤57 then (c:Int)-48 else -1:=by decide+kernel
theorem Cp:∀ c,c<127→CV (Ax.take 16) c=if 48≤c∧c≤57 then (c:Int)-48 else if 97≤c∧c≤102 then (c:Int)-87 else -1:=by decide+kernel
theorem DZ:∀ c,c<127→Mr c=if 48≤c∧c≤57 then (c:Int)-48 else if 97≤c∧c≤102 then (c:Int)-87 else -1:=by decide+kernel
theorem fndB {B c:Nat} (hB:B=10∨B=16) (hc:c<127) (h:¬ CV (Ax.take B) c<0):∃ j,j<B∧c=zK j∧CV (Ax.take B) c=j∧Mr c=j:=by
 rw[DZ c hc]
 rcases hB with rfl|rfl
 ·rw[Cw c hc] at h⊢
  by_cases h1:48≤c∧c≤57
  ·rw[if_pos h1,if_pos h1]
   refine⟨c-48,by omega,?_,by omega,by omega⟩;unfold zK;rw[if_pos (by omega)];omega
  ·rw[if_neg h1] at h
   omega
 ·rw[Cp c hc] at h⊢
  by_cases h1:48≤c∧c≤57
  ·rw[if_pos h1]
   refine⟨c-48,by omega,?_,by omega,by omega⟩;unfold zK;rw[if_pos (by omega)];omega
  ·rw[if_neg h1] at h⊢
   by_cases h2:97≤c∧c≤102
   ·rw[if_pos h2]
    refine⟨c-87,by omega,?_,by omega,by omega⟩;unfold zK;rw[if_neg (by omega)];omega
   ·rw[if_neg h2] at h
    omega
def Du (B:Nat) (M:Int) (t:Tx):Prop:=t=[]∨∃ n:Nat,(n:Int)≤M∧t=sD B n∧fW B t=n
def MI:MK→Tx→Prop
 | .ex g,t=>pre t g=true
 | .num B M,t=>Du B.toNat M t
 | .val M,t=>(∀ c∈t,ES c=true)∧(t.length:Int)≤M∧t.head?≠some 32∧(t.getLast?=some 32→(t.length:Int)<M)
 | .sg n,t=>(t.length:Int)≤n
 | .name M R nq,t=>t.all mU=true∧(t=[]∨nq.any (fun e=>pre t e)=true∨xg M R t=true)
def MP:MK→Prop
 | .ex g=>∀ c∈g,c<127
 | .num B M=>(B=10∨B=16)∧0≤M∧M≤40
 | .val M=>0<M
 | .sg _=>True
 | .name _ _ nq=>∀ e∈nq,e∈kB
theorem A9 (k:MK) (hk:MP k) (hs:∀ n,k=.sg n→0≤n):MI k []:=by
 cases k with
 | ex g=>simp[MI,pre]
 | num B M=>exact .inl rfl
 | val M=>simp only[MP] at hk; simp[MI]; omega
 | sg n=>simp[MI]; exact hs n rfl
 | name M R nq=>simp[MI]
theorem qq:∀ e∈kB,e.all mU=true∧e≠[]∧e.length≤6:=by decide
theorem Bx:∀ e∈kB,e.getLast?≠some 97:=by decide
theorem Dc:∀ e∈kB,∀ e'∈kB,pre e' e=true→e'=e:=by decide
theorem wU {B:Nat} {M:Int} {t:Tx} {c:Nat} (hB:B=10∨B=16) (hM:M≤40) (hc:c<127) (h:Du B M t) (hk:MK.tk (.num B M) t c=true):Du B M (t++[c]):=by
 simp only[MK.tk,q08,q81,Bool.or_eq_false_iff,decide_eq_false_iff_not,decide_eq_true_eq,q82] at hk;obtain⟨⟨h1,h2⟩,h3⟩:=hk;obtain⟨j,hj,rfl,e1,e2⟩:=fndB hB hc h1;rw[e1] at h3
 right
 rcases h with rfl|⟨n,hn,rfl,hv⟩
 ·refine⟨j,by simpa [fW] using h3,?_,?_⟩
  ·simp[sD,hj]
  ·simp[fW,e2]
 ·rw[hv] at h3
  have h0:n≠0:=by
   rintro rfl
   rcases hB with rfl|rfl<;>simp[sD,zK] at h2
  have hnB:n<B:=by rcases hB with rfl|rfl<;>omega
  refine⟨n*B+j,by omega,?_,?_⟩
  ·unfold sD
   have h5:¬ n*B+j<B:=by
    have:1*B≤n*B:=Nat.mul_le_mul_right _ (by omega);omega
   have h6:(n*B+j)/B=n:=by
    rw[Nat.add_comm,Nat.add_mul_div_right _ _ (by omega),Nat.div_eq_of_lt hj]; omega
   have h7:(n*B+j)%B=j:=by
    rw[Nat.add_comm,Nat.add_mul_mod_self_right,Nat.mod_eq_of_lt hj]
   rw[if_pos hnB,if_neg h5,h6,h7]
   rfl
  ·rw[vW,hv,e2]
   simp
theorem va (k:MK) (hk:MP k) {t:Tx} {c:Nat} (hc:c<127) (h:MI k t) (ht:k.tk t c=true):MI k (t++[c]):=by
 cases k with
 | ex g=>exact ht
 | num B M=>
  obtain⟨hB,h0,hM⟩:=hk
  have hb:B=(B.toNat:Int):=by rcases hB with rfl|rfl<;>rfl
  have hB':B.toNat=10∨B.toNat=16:=by rcases hB with rfl|rfl<;>simp
  rw[hb] at ht;exact wU hB' hM hc h ht
 | val M=>
  obtain⟨h1,h2,h3,h4⟩:=h;simp only[MK.tk,q08] at ht;obtain⟨hv,ht⟩:=ht;refine⟨?_,?_,?_,?_⟩
  ·intro x hx
   rw[q58] at hx
   rcases hx with hx|hx
   ·exact h1 x hx
   ·rw[q54] at hx
    rw[hx]; exact hv
  ·by_cases hb:c=32
   ·rw[if_pos hb] at ht
    simp at ht;simp; omega
   ·rw[if_neg hb] at ht
    simp at ht;simp; omega
  ·cases t with
   | nil=>
    by_cases hb:c=32
    ·rw[if_pos hb] at ht; simp at ht
    ·simp[hb]
   | cons a r=>simpa using h3
  ·intro hl
   rw[show List.getLast? (t++[c])=some c from List.getLast?_concat] at hl;cases hl;simp at ht;simp; omega
 | sg n=>
  simp only[MK.tk,q08,decide_eq_true_eq] at ht;simp only[MI,q02,q97];omega
 | name M R nq=>
  obtain⟨h1,h2⟩:=h;simp only[MK.tk,q75,q08] at ht;refine⟨?_,?_⟩
  ·rw[qb1,h1]
   rcases ht with ht|ht
   ·rw[qa2] at ht
    obtain⟨e,he,hp⟩:=ht;obtain⟨y,hy⟩:=oA hp;have:=(qq e (hk e he)).1;rw[hy,qb1,qb1] at this;simp only[q08] at this;rw[this.1.2]
    rfl
   ·simp[ht.1]
  ·rcases ht with ht|ht
   ·exact .inr (.inl ht)
   ·exact .inr (.inr ht.2)
theorem uD {α:Type} {p q:α→Bool} {e:α}:∀ {l:List α},l.find? p=some e→q e=true→(∀ x,q x=true→p x=true)→l.find? q=some e
 | [],h,_,_=>by simp at h
 | a::l,h,hq,hs=>by
  rw[List.find?_cons] at h⊢
  cases hp:p a with
  | true=>
   rw[hp] at h;cases h;rw[hq]
  | false=>
   rw[hp] at h
   have hqa:q a=false:=by
    cases hx:q a with
    | false=>rfl
    | true=>rw[hs a hx] at hp; cases hp
   rw[hqa];exact uD h hq hs
theorem wv {k:MK} {t:Tx} (h:k.gd t=true):k.aw t=[]:=by
 cases k with
 | ex g=>simp only[MK.gd,beq_iff_eq] at h; subst h; simp[MK.aw]
 | num B M=>simp only[MK.gd,q81,beq_eq_false_iff_ne] at h; simp[MK.aw,h]
 | val M=>simp only[MK.aw,h,if_true]
 | sg n=>simp only[MK.gd,decide_eq_true_eq] at h; subst h; simp[MK.aw]
 | name M R nq=>simp only[MK.aw,nS,h,if_true]
theorem AN {k:MK} (hk:MP k) {t:Tx} (hi:MI k t) (ht:(∀ M R es,k=.name M R es→t≠[])) (h:k.aw t=[]):k.gd t=true:=by
 cases k with
 | ex g=>
  obtain⟨y,rfl⟩:=oA hi;simp[MK.aw] at h;simp[MK.gd,h]
 | num B M=>
  simp only[MK.aw] at h
  by_cases h0:t=[]
  ·simp[h0] at h
  ·simp[MK.gd,h0]
 | val M=>
  simp only[MK.aw] at h
  cases hg:MK.gd (.val M) t with
  | true=>rfl
  | false=>simp[hg] at h
 | sg n=>
  simp only[MK.aw,qb3] at h;simp only[MI] at hi;simp only[MK.gd,decide_eq_true_eq];omega
 | name M R nq=>
  have h0:=ht M R nq rfl;simp only[MK.aw,nS] at h
  cases hg:MK.gd (.name M R nq) t with
  | true=>rfl
  | false=>
   rw[hg] at h;simp only[q72,if_false] at h
   cases hc:xg M R (t++[97]) with
   | true=>simp[hc] at h
   | false=>
    rw[hc] at h;simp only[q72,if_false] at h;obtain⟨h1,h2⟩:=hi
    have ha:nq.any (fun e=>pre t e)=true:=by
     rcases h2 with h2|h2|h2
     ·exact absurd h2 h0
     ·exact h2
     ·exfalso
      have hn:t++[97]∉kB:=fun h=>Bx _ h (by simp)
      by_cases hq:t∈kB
      ·simp[xg,hn,hq] at hc h2; omega
      ·simp[MK.gd,h0,hq,h2] at hg
    rw[qa2] at ha;obtain⟨e,he,hp⟩:=ha
    cases hf:nq.find? (fun e=>pre t e) with
    | none=>
     rw[List.find?_eq_none] at hf;exact absurd hp (hf e he)
    | some e'=>
     rw[hf] at h;have he':=q63 hf;obtain⟨y,rfl⟩:=oA (List.find?_some hf);simp at h;subst h;simp at he';simp[MK.gd,he'] at hg
theorem np {k:MK} (hk:MP k) {t y:Tx} {c:Nat} (hi:MI k t) (h:k.aw t=c::y):k.tk t c=true∧k.aw (t++[c])=y∧c<127:=by
 cases k with
 | ex g=>
  obtain⟨z,rfl⟩:=oA hi;simp[MK.aw] at h;subst h;refine⟨?_,?_,hk c (by simp)⟩
  ·show pre (t++[c]) (t++c::y)=true
   rw[show t++c::y=(t++[c])++y by simp];exact vn _ _
  ·show(t++c::y).drop (t++[c]).length=y
   rw[show t++c::y=(t++[c])++y by simp,List.drop_left]
 | num B M=>
  obtain⟨hB,h0,hM⟩:=hk;simp only[MK.aw] at h
  by_cases ht:t=[]
  ·subst ht
   rw[if_pos rfl] at h;cases h;refine⟨?_,by simp[MK.aw],by decide⟩
   rcases hB with rfl|rfl
   ·have:=Cw 48 (by decide)
    simp only[MK.tk,show(10:Int).toNat=10 from rfl,this];simp[fW]; exact h0
   ·have:=Cp 48 (by decide)
    simp only[MK.tk,show(16:Int).toNat=16 from rfl,this];simp[fW]; exact h0
  ·rw[if_neg ht] at h
   cases h
 | val M=>
  simp only[MP] at hk;obtain⟨h1,h2,h3,h4⟩:=hi
  cases hg:MK.gd (.val M) t with
  | true=>simp[MK.aw,hg] at h
  | false=>
   simp only[MK.aw,hg] at h;cases h
   have hv:ES 97=true:=by decide
   have hlt:(t.length:Int)<M:=by
    by_cases h0:t=[]
    ·subst h0; simpa using hk
    ·by_cases hl:t.getLast?=some 32
     ·exact h4 hl
     ·have:MK.gd (.val M) t=true:=by simp[MK.gd,h0,hl]
      rw[this] at hg; cases hg
   refine⟨by simp[MK.tk,hv,hlt],?_,by decide⟩
   apply wv
   simp[MK.gd]
 | sg n=>
  simp only[MI] at hi;simp only[MK.aw] at h
  have hp:0<(n-(t.length:Int)).toNat:=by
   apply Nat.pos_of_ne_zero
   intro h0;rw[h0] at h;cases h
  obtain⟨j,hj⟩:∃ j,(n-(t.length:Int)).toNat=j+1:=⟨(n-(t.length:Int)).toNat-1,by omega⟩;rw[hj,q69] at h;cases h;refine⟨?_,?_,by decide⟩
  ·simp[MK.tk,xk]; omega
  ·have:(n-((t++[97]).length:Int)).toNat=j:=by simp; omega
   simp only[MK.aw,this]
 | name M R nq=>
  obtain⟨h1,h2⟩:=hi;simp only[MK.aw] at h⊢
  cases hg:MK.gd (.name M R nq) t with
  | true=>simp[nS,hg] at h
  | false=>
   cases hc:xg M R (t++[97]) with
   | true=>
    simp only[nS,hg,hc] at h;cases h
    have hn:t++[97]∉kB:=fun h=>Bx _ h (by simp)
    refine⟨?_,?_,by decide⟩
    ·simp[MK.tk,hc,mU]
    ·have:MK.gd (.name M R nq) (t++[97])=true:=by simp[MK.gd,hn,hc]
     exact wv this
   | false=>
    simp only[nS,hg,hc,q72,if_false] at h
    cases hf:nq.find? (fun e=>pre t e) with
    | none=>rw[hf] at h; cases h
    | some e=>
     rw[hf] at h;have he:=q63 hf;obtain⟨z,rfl⟩:=oA (List.find?_some hf);simp at h;subst h
     have hp:pre (t++[c]) (t++c::y)=true:=by
      rw[show t++c::y=(t++[c])++y by simp]; exact vn _ _
     have hsm:mU c=true:=by
      have:=(qq _ (hk _ he)).1;rw[qb1] at this;simp only[q08,q49] at this;exact this.2.1
     have hn:t++[97]∉kB:=fun h=>Bx _ h (by simp)
     have hR:¬ (1≤R∧(t.length:Int)+1≤M):=by
      intro hh;simp[xg,hn] at hc;omega
     refine⟨?_,?_,by simp[mU] at hsm; omega⟩
     ·simp only[MK.tk,q75]
      left
      rw[qa2];exact⟨_,he,hp⟩
     ·cases hg2:MK.gd (.name M R nq) (t++[c]) with
      | true=>
       have hy:y=[]:=by
        simp only[MK.gd,q75,decide_eq_true_eq,q08] at hg2
        rcases hg2 with hg2|hg2
        ·have:=Dc _ (hk _ he) _ (hk _ hg2) hp
         have:=congrArg List.length this;simp at this;exact this
        ·exfalso
         have:=hg2.2.2;simp[xg] at this;omega
       rw[hy];exact wv hg2
      | false=>
       have hc2:xg M R (t++[c]++[97])=false:=by
        cases hx:xg M R (t++[c]++[97]) with
        | false=>rfl
        | true=>exfalso; simp[xg] at hx; omega
       have hf2:=uD (q:=fun e=>pre (t++[c]) e) hf hp (fun x hx=>by
        obtain⟨w,rfl⟩:=oA hx
        rw[List.append_assoc]; exact vn _ _)
       simp only[nS,hg2,hc2,hf2];simp
def fS (q:Tx×Tx):AV:=.tup [.str q.1,.str q.2]
def pb (q:Tx×Tx):Tx:=q.1++[58,32]++q.2++[59,10]
def gZ (qs:List (Tx×Tx)):Tx:=qs.flatMap pb
theorem yq (qs:List (Tx×Tx)) (q:Tx×Tx):gZ (qs++[q])=gZ qs++pb q:=by simp[gZ]
def gdN (b1:Int) (t:Tx):Prop:=t≠[]∧(t.length:Int)≤b1∧t∉kB∧t.all mU=true
def Nv (d:Int) (t:Tx):Prop:=t≠[]∧(t.length:Int)≤d∧(∀ c∈t,ES c=true)∧t.head?≠some 32∧t.getLast?≠some 32
def Fb (f:Cf) (R:Int) (qs:List (Tx×Tx)):Prop:=(∀ q∈qs,gdN f.b1 q.1∧Nv f.d q.2)∧(qs.length:Int)≤R
def vi (nm:Tx) (k:Nat):Tx:=if nm=li then li++[58,32]++sD 10 k++[59,10] else nm++[58,32]++xo++[59,10]
def yB (f:Cf) (en:AV) (y:Tx):Prop:=(en=.non∧y=[])∨∃ nm,∃ k:Nat,en=.tup [.str nm,.int k]∧nm∈f.nq∧y=vi nm k∧(nm=li→(k:Int)≤f.m)∧(nm≠li→k=0)
def u4 (f:Cf) (qs:List (Tx×Tx)) (en:AV) (ey x:Tx):Ph→Prop
 | .idle=>x=gZ qs++ey
 | .name t=>en=.non∧x=gZ qs++t∧t≠[]∧MI (f.nk (qs.map fS)) t
 | .colon t=>en=.non∧x=gZ qs++t++[58]∧t≠[]∧MI (f.nk (qs.map fS)) t∧(f.nk (qs.map fS)).gd t=true
 | .val t vt=>en=.non∧x=gZ qs++t++[58,32]++vt∧t≠[]∧MI (f.nk (qs.map fS)) t∧(f.nk (qs.map fS)).gd t=true∧MI (f.vk t) vt
 | .clo t vt=>en=.non∧x=gZ qs++t++[58,32]++vt++[59]∧t≠[]∧MI (f.nk (qs.map fS)) t∧(f.nk (qs.map fS)).gd t=true∧MI (f.vk t) vt∧(f.vk t).gd vt=true
 | .e1=>x=gZ qs++ey++[59]
 | .e2=>x=gZ qs++ey++[59,10]
def FI (f:Cf) (s:St) (x:Tx):Prop:=∃ qs ey,s.ps=qs.map fS∧Fb f f.R0 qs∧yB f s.en ey∧u4 f qs s.en ey x s.ph
structure Gd (f:Cf):Prop where
 d:0<f.d
 m0:0≤f.m
 m:f.m≤40
 E:∀ e∈f.nq,e∈kB
 el:f.nq.length<1000
theorem GG:∀ c∈xo,c<127:=by decide
theorem yZ {f:Cf} (hG:Gd f) (t:Tx):MP (f.vk t):=by
 unfold Cf.vk vk;split
 ·split
  ·exact⟨.inl rfl,hG.m0,hG.m⟩
  ·exact GG
 ·exact hG.d
theorem wb {f:Cf} (hG:Gd f) (ps:List AV):MP (f.nk ps):=hG.E
theorem LB {f:Cf} (hG:Gd f) (t:Tx):MI (f.vk t) []:=A9 _ (yZ hG t) (fun n h=>by
 unfold Cf.vk vk at h;split at h
 ·split at h<;>cases h
 ·cases h)
theorem xS {f:Cf} (h:0≤f.R0):FI f ⟨[],.non,.idle⟩ []:=⟨[],[],rfl,⟨by simp,by simpa using h⟩,.inl ⟨rfl,rfl⟩,rfl⟩
theorem En {f:Cf} (hG:Gd f) {qs:List (Tx×Tx)} {t vt:Tx} (hq:Fb f f.R0 qs) (h0:t≠[]) (h1:MI (f.nk (qs.map fS)) t) (h2:(f.nk (qs.map fS)).gd t=true) (h3:MI (f.vk t) vt) (h4:(f.vk t).gd vt=true) :
  FI f (kept f (qs.map fS) t vt) (gZ qs++t++[58,32]++vt++[59,10]):=by
 unfold kept ku
 by_cases he:t∈f.nq
 ·by_cases hL:t=li
  ·subst hL
   have hvk:f.vk li=.num 10 f.m:=by simp[Cf.vk,vk,he]
   rw[hvk] at h3 h4⊢
   have hv:vt≠[]:=by simpa [MK.gd] using h4
   rcases h3 with h3|⟨n,hn,hd,hv'⟩
   ·exact absurd h3 hv
   have hv':fW 10 vt=n:=hv';simp only[he,if_true,MK.told,hv'];refine⟨qs,vi li n,rfl,hq,.inr ⟨li,n,rfl,he,rfl,fun _=>hn,fun h=>absurd rfl h⟩,?_⟩;have hd:vt=sD 10 n:=hd;simp[u4,vi,hd]
  ·have hvk:f.vk t=.ex xo:=by simp[Cf.vk,vk,he,hL]
   rw[hvk] at h4⊢;simp only[MK.gd,beq_iff_eq] at h4;subst h4;simp only[he,hL,if_true,if_false];refine⟨qs,vi t 0,rfl,hq,.inr ⟨t,0,rfl,he,rfl,fun h=>absurd h hL,fun _=>rfl⟩,?_⟩;simp[u4,vi,hL]
 ·have hvk:f.vk t=.val f.d:=by simp[Cf.vk,vk,he]
  rw[hvk] at h3 h4⊢;obtain⟨v1,v2,v3,v4⟩:=h3;simp only[MK.gd,q08,q81,beq_eq_false_iff_ne] at h4;simp only[Cf.nk,MK.gd,he,decide_false,Bool.false_or,q08,q81,beq_eq_false_iff_ne,decide_eq_false_iff_not,Cf.rm,xg,Bool.or_eq_false_iff,q75,decide_eq_true_eq,q21] at h2;simp only[he,if_false,MK.told];refine⟨qs++[(t,vt)],[],by simp[fS],⟨?_,?_⟩,.inl ⟨rfl,rfl⟩,?_⟩
  ·intro q hqm
   rw[q58] at hqm
   rcases hqm with hqm|hqm
   ·exact hq.1 q hqm
   ·rw[q54] at hqm
    subst hqm;exact⟨⟨h0,by have:=h2.2.2.1.2; simp only; omega,h2.2.1,h1.1⟩,h4.1,v2,v1,v3,h4.2⟩
  ·have:=h2.2.2.1.1
   simp; omega
  ·simp[u4,yq,pb]
theorem rY {f:Cf} (hG:Gd f) {c:Nat} (hc:c<127):∀ {s s':St} {x:Tx},FI f s x→step f s.ps s.en c s.ph=some s'→FI f s' (x++[c])
 | ⟨ps,en,.idle⟩,s',x,⟨qs,ey,hp,hq,he,hx⟩,h=>by
  simp only at hp he;subst hp;simp only[u4] at hx;subst hx;simp only[step] at h;split at h
  ·rename_i h59
   cases h;exact⟨qs,ey,rfl,hq,he,by simp[u4,h59]⟩
  ·split at h
   ·rename_i h1
    cases h;simp only[q08] at h1
    have hn:en=.non:=by
     rcases he with he|⟨nm,k,he,_⟩
     ·exact he.1
     ·rw[he] at h1; simp[wF] at h1
    have hey:ey=[]:=by
     rcases he with he|⟨nm,k,he,_⟩
     ·exact he.2
     ·rw[he] at hn; cases hn
    refine⟨qs,ey,rfl,hq,he,hn,by simp[hey],by simp,?_⟩;exact va (t:=[]) _ (wb hG _) hc (A9 _ (wb hG _) (fun n h=>by cases h)) h1.2
   ·cases h
 | ⟨ps,en,.name t⟩,s',x,⟨qs,ey,hp,hq,he,hx⟩,h=>by
  simp only at hp he;subst hp;simp only[u4] at hx;obtain⟨hn,rfl,h0,h1⟩:=hx;simp only[step] at h;split at h
  ·rename_i hk
   cases h;exact⟨qs,ey,rfl,hq,he,hn,by simp,by simp,va _ (wb hG _) hc h1 hk⟩
  ·split at h
   ·rename_i h2
    cases h;exact⟨qs,ey,rfl,hq,he,hn,by simp[h2.1],h0,h1,h2.2⟩
   ·cases h
 | ⟨ps,en,.colon t⟩,s',x,⟨qs,ey,hp,hq,he,hx⟩,h=>by
  simp only at hp he;subst hp;simp only[u4] at hx;obtain⟨hn,rfl,h0,h1,h2⟩:=hx;simp only[step] at h;split at h
  ·rename_i hk
   cases h;exact⟨qs,ey,rfl,hq,he,hn,by simp[hk],h0,h1,h2,LB hG t⟩
  ·cases h
 | ⟨ps,en,.val t vt⟩,s',x,⟨qs,ey,hp,hq,he,hx⟩,h=>by
  simp only at hp he;subst hp;simp only[u4] at hx;obtain⟨hn,rfl,h0,h1,h2,h3⟩:=hx;simp only[step] at h;split at h
  ·rename_i hk
   cases h;exact⟨qs,ey,rfl,hq,he,hn,by simp,h0,h1,h2,va _ (yZ hG _) hc h3 hk⟩
  ·split at h
   ·rename_i h4
    cases h;exact⟨qs,ey,rfl,hq,he,hn,by simp[h4.1],h0,h1,h2,h3,h4.2⟩
   ·cases h
 | ⟨ps,en,.clo t vt⟩,s',x,⟨qs,ey,hp,hq,he,hx⟩,h=>by
  simp only at hp he;subst hp;simp only[u4] at hx;obtain⟨hn,rfl,h0,h1,h2,h3,h4⟩:=hx;simp only[step] at h;split at h
  ·rename_i hk
   cases h;have:=En hG hq h0 h1 h2 h3 h4;rw[hk]
   simpa using this
  ·cases h
 | ⟨ps,en,.e1⟩,s',x,⟨qs,ey,hp,hq,he,hx⟩,h=>by
  simp only at hp he;subst hp;simp only[u4] at hx;subst hx;simp only[step] at h;split at h
  ·rename_i hk
   cases h;exact⟨qs,ey,rfl,hq,he,by simp[u4,hk]⟩
  ·cases h
 | ⟨ps,en,.e2⟩,s',x,hi,h=>by simp[step] at h
def v7 (f:Cf) (z:Tx):AV:=if z∈f.nq then .tup [.str z,.int 0] else .non
def mq (f:Cf) (s:St):AV:=match s.ph with
 | .name t=>v7 f (t++nS f.b1 (f.rm s.ps) f.nq t)
 | .colon t=>v7 f t
 | .val t vt=>ku f.nq t (f.vk t) vt
 | .clo t vt=>ku f.nq t (f.vk t) vt
 | _=>s.en
theorem Pm (f:Cf) (t:Tx):ku f.nq t (f.vk t) []=v7 f t:=by
 unfold ku v7
 by_cases he:t∈f.nq
 ·by_cases hL:t=li
  ·subst hL
   simp[he,Cf.vk,vk,MK.told,fW]
  ·simp[he,hL]
 ·simp[he]
theorem G9 {f:Cf} {t vt:Tx} {c:Nat} {y:Tx} (h:(f.vk t).aw vt=c::y):ku f.nq t (f.vk t) (vt++[c])=ku f.nq t (f.vk t) vt:=by
 unfold ku
 by_cases he:t∈f.nq
 ·by_cases hL:t=li
  ·subst hL
   have hvk:f.vk li=.num 10 f.m:=by simp[Cf.vk,vk,he]
   rw[hvk] at h⊢;simp only[MK.aw] at h
   by_cases h0:vt=[]
   ·subst h0
    simp at h;rw[← h.1];simp[he,MK.told,fW,DZ 48 (by decide)]
   ·simp[h0] at h
  ·simp[he,hL]
 ·simp[he]
theorem Gz {f:Cf} {t vt:Tx} (hg:(f.vk t).gd vt=true):(f.vk t).tk vt 59=false:=by
 unfold Cf.vk vk at hg⊢;split
 ·split
  ·have:=Cw 59 (by decide)
   simp[MK.tk,this]
  ·simp only[MK.tk]
   cases h:pre (vt++[59]) xo with
   | false=>rfl
   | true=>
    simp only[pre,beq_iff_eq] at h;have hm:59∈xo:=List.mem_of_mem_take (by rw[← h]; simp);simp[xo] at hm
 ·simp[MK.tk,ES]
theorem FQ {f:Cf} (hG:Gd f) {ps:List AV} {t:Tx}:(f.nk ps).tk t 58=false:=by
 simp only[Cf.nk,MK.tk]
 have h1:mU 58=false:=by decide
 rw[h1];simp only[Bool.false_and,Bool.or_false];rw[List.any_eq_false];intro e he hp;obtain⟨y,rfl⟩:=oA hp;have:=(qq _ (hG.E _ he)).1;simp[mU] at this
theorem wy {f:Cf} (hG:Gd f) {c:Nat} {y:Tx}:∀ {s:St} {x:Tx},FI f s x→mr f s.ps s.ph=c::y→∃ s',step f s.ps s.en c s.ph=some s'∧mr f s'.ps s'.ph=y∧mq f s'=mq f s∧c<127
 | ⟨ps,en,.idle⟩,x,_,h=>by
  simp only[mr] at h;cases h;exact⟨⟨ps,en,.e1⟩,by simp[step],rfl,rfl,by decide⟩
 | ⟨ps,en,.name t⟩,x,⟨qs,ey,hp,hq,he,hx⟩,h=>by
  simp only at hp;subst hp;simp only[u4] at hx;obtain⟨hn,rfl,h0,h1⟩:=hx;simp only[mr] at h
  cases ha:nS f.b1 (f.rm (qs.map fS)) f.nq t with
  | nil=>
   rw[ha] at h;simp at h;obtain⟨rfl,rfl⟩:=h;have hg:=AN (k:=f.nk (qs.map fS)) (wb hG _) h1 (fun _ _ _ _=>h0) ha;refine⟨⟨qs.map fS,en,.colon t⟩,?_,?_,?_,by decide⟩
   ·simp[step,FQ hG,hg]
   ·simp[mr]
   ·simp[mq,ha]
  | cons b z=>
   rw[ha] at h;simp at h;obtain⟨rfl,rfl⟩:=h;obtain⟨s1,s2,s3⟩:=np (k:=f.nk (qs.map fS)) (wb hG _) h1 ha;have s2:nS f.b1 (f.rm (qs.map fS)) f.nq (t++[b])=z:=s2;refine⟨⟨qs.map fS,en,.name (t++[b])⟩,?_,?_,?_,s3⟩
   ·simp[step,s1]
   ·simp[mr,s2]
   ·simp[mq,ha,s2]
 | ⟨ps,en,.colon t⟩,x,⟨qs,ey,hp,hq,he,hx⟩,h=>by
  simp only[mr] at h;simp at h;obtain⟨rfl,rfl⟩:=h;refine⟨⟨ps,en,.val t []⟩,by simp[step],by simp[mr],?_,by decide⟩;simp[mq,Pm]
 | ⟨ps,en,.val t vt⟩,x,⟨qs,ey,hp,hq,he,hx⟩,h=>by
  simp only at hp;subst hp;simp only[u4] at hx;obtain⟨hn,rfl,h0,h1,h2,h3⟩:=hx;simp only[mr] at h
  cases ha:(f.vk t).aw vt with
  | nil=>
   rw[ha] at h;simp at h;obtain⟨rfl,rfl⟩:=h
   have hg:=AN (yZ hG _) h3 (fun M R es hk=>by
    unfold Cf.vk vk at hk;split at hk
    ·split at hk<;>cases hk
    ·cases hk) ha
   refine⟨⟨qs.map fS,en,.clo t vt⟩,?_,?_,?_,by decide⟩
   ·simp[step,Gz hg,hg]
   ·simp[mr,ha]
   ·simp[mq]
  | cons b z=>
   rw[ha] at h;simp at h;obtain⟨rfl,rfl⟩:=h;obtain⟨s1,s2,s3⟩:=np (yZ hG _) h3 ha;refine⟨⟨qs.map fS,en,.val t (vt++[b])⟩,?_,?_,?_,s3⟩
   ·simp[step,s1]
   ·simp[mr,s2]
   ·simp[mq,G9 ha]
 | ⟨ps,en,.clo t vt⟩,x,⟨qs,ey,hp,hq,he,hx⟩,h=>by
  simp only at hp;subst hp;simp only[u4] at hx;obtain⟨hn,rfl,h0,h1,h2,h3,h4⟩:=hx;simp only[mr,wv h4] at h;simp at h;obtain⟨rfl,rfl⟩:=h;refine⟨kept f (qs.map fS) t vt,by simp[step],?_,?_,by decide⟩
  ·simp[kept,mr]
  ·simp[kept,mq]
 | ⟨ps,en,.e1⟩,x,_,h=>by
  simp only[mr] at h;cases h;exact⟨⟨ps,en,.e2⟩,by simp[step],rfl,rfl,by decide⟩
 | ⟨ps,en,.e2⟩,x,_,h=>by simp[mr] at h
theorem yG {f:Cf}:∀ {s:St},mr f s.ps s.ph=[]→qC s.ph=true
 | ⟨ps,en,.idle⟩,h=>by simp[mr] at h
 | ⟨ps,en,.name t⟩,h=>by simp[mr] at h
 | ⟨ps,en,.colon t⟩,h=>by simp[mr] at h
 | ⟨ps,en,.val t vt⟩,h=>by simp[mr] at h
 | ⟨ps,en,.clo t vt⟩,h=>by simp[mr] at h
 | ⟨ps,en,.e1⟩,h=>by simp[mr] at h
 | ⟨ps,en,.e2⟩,h=>rfl
theorem Gh:∀ n:Nat,n<16→Ax[n]?=some (zK n):=by decide
theorem BJ (n:Nat) (h:n<16):L2.atI [48,49,50,51,52,53,54,55,56,57,97,98,99,100,101,102] (n:Int)=some (zK n):=by
 rw[ll];exact Gh n h
theorem Jg (k:Nat) (n:Nat) (hn:n<16) (μ:Mu):gD (k+1) [.int n] μ=.ok (.str [zK n]) μ:=by
 rw[pJ];have h:=BJ n hn
 have h16:(n:Int)<16:=by omega
 have hz:(16:Nat)≤cE:=by decide
 simp[h16,h,hz]
theorem G8 (k:Nat) (n:Nat) (hn:n≤40) (μ:Mu):gD (k+2) [.int n] μ=.ok (.str (sD 16 n)) μ:=by
 by_cases h:n<16
 ·rw[Jg (k+1) n h]
  simp[sD,h]
 ·obtain⟨a,ha⟩:∃ a,a=n/16:=⟨_,rfl⟩
  obtain⟨b,hb⟩:∃ b,b=n%16:=⟨_,rfl⟩;have e:=Jg k a (by omega) μ;have h2:=BJ b (by omega)
  have h16:¬ (n:Int)<16:=by omega
  have d1:(n:Int)/16=(a:Int):=by omega
  have d2:(n:Int)%16=(b:Int):=by omega
  have hz6:(16:Nat)≤cE:=by decide
  have hg:sD 16 n=[zK a,zK b]:=by rw[sD,if_neg h,ha,hb]
  rw[hg];have hm:j9 (n:Int) 16=true:=oE _ _ (by decide)
  have hd:kf (n:Int) 16=true:=by simp only[kf]; decide
  have hz:(2:Nat)≤cE:=by decide
  rw[pJ];simp[h16,hd,hm,d1,d2,e,h2,hz,hz6]
theorem xM {α:Type} (f:α→List Nat):∀ as:List α,(as.map fun a=>(f a).length).sum=(as.flatMap f).length
 | []=>rfl
 | a::as=>by rw[q42,List.sum_cons,List.flatMap_cons,q02,xM f as]
theorem rX {α:Type} (f:α→List Nat) {a:α}:∀ {as:List α},a∈as→(f a).length≤(as.flatMap f).length
 | b::as,h=>by
  rw[List.flatMap_cons,q02]
  rcases q32.mp h with rfl|h
  ·omega
  ·have:=rX f h
   omega
theorem yI (qs:List (Tx×Tx)) (h:(gZ qs).length<10000) (hq:qs.length<10000) (μ:Mu):gn [.tup (qs.map fS)] μ=.ok (.str (gZ qs)) μ:=by
 have hb:∀ q∈qs,(pb q).length<10000:=fun q hq=>Nat.lt_of_le_of_lt (rX pb hq) h
 have hc:=DK (n:=1000000) (caps:=[none,none]) (fi:=rP (ab 0)) (fe:=aB bK (aB bK (aB bK (ab 0) (fC (.str [58,32]))) (ab 1)) (fC (.str [59,10]))) (ρ:=[some (.tup (qs.map fS))]) (μ:=μ) (μ1:=μ) (rest:=[]) qs (fun q=>.str q.1) (fun q=>.str q.2) (fun q=>.str (pb q)) (by simp[fS]) rfl (fun q hq μ=>by
  have:=hb q hq;simp[pb] at this
  have z1:q.1.length+2≤cE:=by rw[bV]; omega
  have z6:q.1.length+(q.2.length+1+1)≤cE:=by rw[bV]; omega
  have z7:q.1.length+(q.2.length+1+1)+2≤cE:=by rw[bV]; omega
  have z4:q.1.length+2+q.2.length≤cE:=by rw[bV]; omega
  have z5:q.1.length+(q.2.length+1+1)+1+1≤cE:=by rw[bV]; omega
  simp[pb,z1,z4,z5,z6,z7]) (by omega) (by omega)
 have hj:=yY [] qs pb hc (by
  have h1:=xM pb qs;have h2:(qs.flatMap pb).length<10000:=h
  simp; omega)
 simp only[nM] at hj;unfold gn;simp[-Gk,hj]
 rfl
def sV (g:Nat→Bool) (x:Tx):Tx:=((x.dropWhile g).reverse.dropWhile g).reverse
theorem pj (g:Nat→Bool):∀ x:Tx,x.drop (x.takeWhile g).length=x.dropWhile g
 | []=>rfl
 | a::x=>by
  by_cases h:g a=true
  ·simp[h,pj g x]
  ·simp[h]
theorem CN (x:Tx) (y:Tx):(Txt.stripChars ⟨x.toArray⟩ ⟨y.toArray⟩).cps.toList=sV (fun c=>y.contains c) x:=by
 unfold Txt.stripChars;rw[W.stripBy_eq]
 have hg:(y.toArray.contains)=fun c=>y.contains c:=by funext c; simp
 show((W.stripped (y.toArray.contains) true true ⟨x.toArray⟩).cps).toList=_;rw[hg]
 generalize (fun c=>y.contains c)=g
 unfold W.stripped sV;simp only[if_true,Builtin.Str.strSub,Str.length,q17];rw[pj]
 have e1:(x.dropWhile g).length=x.length-(x.takeWhile g).length:=by rw[← pj,qa1]
 have e2:(x.takeWhile g).length≤x.length:=by
  have:=congrArg List.length (q95 (p:=g) (l:=x));rw[q02] at this;omega
 have e3:=pj g (x.dropWhile g).reverse
 have e4:((x.dropWhile g).reverse.takeWhile g).length≤(x.dropWhile g).length:=by
  have:=congrArg List.length (q95 (p:=g) (l:=(x.dropWhile g).reverse));rw[q02,List.length_reverse] at this;omega
 rw[← e3,List.drop_reverse,List.reverse_reverse];simp only[Array.toList_extract,List.extract_eq_take_drop,pj];congr 1;omega
theorem A7 (g:Nat→Bool) (x:Tx) (h0:∀ c,x.head?=some c→g c=false) (h1:∀ c,x.getLast?=some c→g c=false):sV g x=x:=by
 unfold sV
 have e1:x.dropWhile g=x:=by
  cases x with
  | nil=>rfl
  | cons a r=>rw[List.dropWhile_cons,h0 a rfl]; simp
 rw[e1]
 have e2:x.reverse.dropWhile g=x.reverse:=by
  cases hx:x.reverse with
  | nil=>rfl
  | cons a r=>
   have:x.getLast?=some a:=by rw[← List.head?_reverse,hx]; rfl
   rw[List.dropWhile_cons,h1 a this]; simp
 rw[e2,List.reverse_reverse]
theorem DH {d:Int} {v:Tx} (h:Nv d v) (hl:v.length≤cE) (μ:Mu):vp (.str v) [.str [32]] μ=.ok (.str v) μ:=by
 have e:sV (fun c=>[32].contains c) v=v:=A7 _ v (fun c hc=>by
  have:c≠32:=fun e=>h.2.2.2.1 (by rw[hc,e])
  simp[this]) (fun c hc=>by
  have:c≠32:=fun e=>h.2.2.2.2 (by rw[hc,e])
  simp[this])
 show(if v.length≤cE then Rs.ok (AV.str (Txt.stripChars ⟨v.toArray⟩ ⟨[32].toArray⟩).cps.toList) μ else .no)=_;rw[if_pos hl,CN,e]
def AZ:Tx:=[97,98,99,100,101,102,103,104,105,106,107,108,109,110,111,112,113,114,115,116,117,118,119,120,121,122]
theorem Oq:AZ=List.range' 97 26:=by decide
theorem Jm (c:Nat):decide (c∈AZ)=mU c:=by
 rw[q52,Oq];simp[mU,List.mem_range'_1];omega
theorem DJ (x:List Nat) (c:Nat) (μ:Mu):oy true (.str [c]) (.str x) μ=.ok (.bl (!decide (c∈x))) μ:=by
 rw[← KO x c]
 rfl
theorem azC (μ:Mu) (t:Tx) (h:t.length<1000) (a b d:Option AV) (o:Ev):kz 1000000 [none] (rP (ab 3)) (dn 0) (fT (aB (oy true) (ab 0) (fC (.str AZ)))) (ab 0) (a::b::d::some (.str t)::o) μ=.ok (.loc μ.length) (μ++[.lst ((t.filter fun c=>!mU c).map fun c=>.str [c])]):=
 DA (n:=1000000) (caps:=[none]) (fi:=rP (ab 3)) (ft:=fT (aB (oy true) (ab 0) (fC (.str AZ)))) (fe:=ab 0) (ρ:=a::b::d::some (.str t)::o) (μ:=μ) (μ1:=μ) (rest:=[]) t (fun c=>.str [c]) (fun c=>.str [c]) (fun c=>!mU c) (by simp) rfl (fun c _ μ=>by
  refine⟨?_,by simp⟩
  simp[DJ,Jm]) (by omega) (by omega)
theorem Cm {t:Tx} (h:t.all mU=true):(t.filter fun c=>!mU c)=[]:=by
 rw[List.filter_eq_nil_iff];intro c hc;rw[List.all_eq_true.mp h c hc];simp
theorem Wu (μ:Mu) (a b:Nat) (ha:bu μ a=some []) (hb:bu μ b=some []):fU true (.loc a) (.loc b) μ=.ok (.bl false) μ:=by
 have:=Ml true a b [] μ ha hb (by simp)
 simpa using this
def NI:FS:=(aG (df (ir (gz (fT (kn vL AD (fC (.int 0)) (ko gJ (ac (ab 3) ag)) (aB cM (ab 1) (fC (.int 1)))))) (fT (aB (oy false) (ab 3) (jD (ac (fC (.str [108,101,110,103,116,104])) (ac (fC (.str [112,105,101,99,101,115])) (ac (fC (.str [112,97,114,116,115])) (ac (fC (.str [114,101,115,116])) ag)))))))) (aN (fC (.bl false))) dE) (aG (df (fT (aB (fU true) (kz 1000000 [none] (rP (ab 3)) (dn 0) (fT (aB (oy true) (ab 0) (fC (.str [97,98,99,100,101,102,103,104,105,106,107,108,109,110,111,112,113,114,115,116,117,118,119,120,121,122])))) (ab 0)) (rB ag))) (aN (fC (.bl false))) dE) (df (ir (gz (fT (kn vL AD (fC (.int 0)) (ko gJ (ac (ab 4) ag)) (aB cM (ab 1) (fC (.int 2)))))) (ir (fT (aB (oy false) (fC (.str [59])) (ab 4))) (ir (fT (aB (oy false) (fC (.str [10])) (ab 4))) (fT (aB (fU true) (sh "str" vp (ab 4) (ac (fC (.str [32])) ag)) (ab 4)))))) (aN (fC (.bl false))) dE)))
theorem Hq {b0 b1 d b3 m b5 b6:Int} {fd rm:AV} (q:Tx×Tx) (h1:gdN b1 q.1) (h2:Nv d q.2) (z1:q.1.length<1000) (z2:q.2.length<1000) (μ:Mu) :
  ∃ u,NI [some fd,some (fV b0 b1 d b3 m b5 b6),some rm,some (.str q.1),some (.str q.2)] μ=.ok (.nx [some fd,some (fV b0 b1 d b3 m b5 b6),some rm,some (.str q.1),some (.str q.2)]) (μ++u):=by
 obtain⟨n,v⟩:=q;simp only at h1 h2 z1 z2⊢;obtain⟨n1,n2,n3,n4⟩:=h1;have hv:=h2;obtain⟨v1,v2,v3,v4,v5⟩:=h2;have n0:0<n.length:=q84.mpr n1;have v0:0<v.length:=q84.mpr v1
 have zn:n.length≤cE:=by rw[bV]; omega
 have zv:v.length≤cE:=by rw[bV]; omega
 have z7:(7:Nat)≤cE:=by decide
 have z4:(4:Nat)≤cE:=by decide
 have hc:=azC μ n z1;rw[Cm n4] at hc
 have hin:∀ μ,oy false (.str n) (.tup [.str [108,101,110,103,116,104],.str [112,105,101,99,101,115],.str [112,97,114,116,115],.str [114,101,115,116]]) μ=.ok (.bl false) μ:=fun μ=>by
  have:=ik n kB false μ;rw[decide_eq_false n3] at this;exact this
 have e59:∀ μ,oy false (.str [59]) (.str v) μ=.ok (.bl false) μ:=fun μ=>by
  rw[BO,decide_eq_false];intro hm;have:=v3 59 hm;simp[ES] at this
 have e10:∀ μ,oy false (.str [10]) (.str v) μ=.ok (.bl false) μ:=fun μ=>by
  rw[BO,decide_eq_false];intro hm;have:=v3 10 hm;simp[ES] at this
 have hst:=fun μ=>DH hv zv μ
 have hll:fU true (.loc μ.length) (.loc (μ.length+1)) (μ++[.lst [],.lst []])=.ok (.bl false) (μ++[.lst [],.lst []]):=Wu _ _ _ (by simp[bu]) (by simp[bu]);refine⟨[.lst [],.lst []],?_⟩;unfold NI;simp only[AZ] at hc
 have hb1:∀ μ,cM (fV b0 b1 d b3 m b5 b6) (.int 1) μ=.ok (.int b1) μ:=fun μ=>by simp[fV,z7]
 have hb2:∀ μ,cM (fV b0 b1 d b3 m b5 b6) (.int 2) μ=.ok (.int d) μ:=fun μ=>by simp[fV,z7]
 simp[-lR,n0,zn,z7,z4,n2,hin,hb1,hb2,hc,hll,v0,zv,v2,e59,e10,hst]
theorem E7 {b0 b1 d b3 m b5 b6 R:Int} (qs:List (Tx×Tx)) (hq:∀ q∈qs,gdN b1 q.1∧Nv d q.2) (hR:(qs.length:Int)≤R) (z:∀ q∈qs,q.1.length<1000∧q.2.length<1000) (zl:qs.length<1000) (μ:Mu) :
  cV [.tup (qs.map fS),fV b0 b1 d b3 m b5 b6,.int R] μ=.ok (.bl true) μ:=by
 have zl':qs.length≤cE:=by rw[bV]; omega
 obtain⟨ρ',μ',e,⟨o3,o4,u,hρ,hμ⟩⟩:=BP (g:=zj 2 (gB (dn 3) (gB (dn 4) mQ))) (n:=1000000) (ds:=qs.map fS) (ρ:=[some (.tup (qs.map fS)),some (fV b0 b1 d b3 m b5 b6),some (.int R),none,none]) (μ:=μ) (fb:=NI)
  (fun k ρ ν=>∃ o3 o4 u,ρ=[some (.tup (qs.map fS)),some (fV b0 b1 d b3 m b5 b6),some (.int R),o3,o4]∧ν=μ++u) ⟨none,none,[],rfl,by simp⟩ (by simp; omega) (fun k dd ρ ν hd ⟨o3,o4,u,hρ,hν⟩=>by
   subst hρ hν;rw[q33] at hd
   cases e:qs[k]? with
   | none=>rw[e] at hd; cases hd
   | some q=>
    rw[e] at hd;cases hd;have hm:=q59 e;obtain⟨u',hu⟩:=Hq (b0:=b0) (b3:=b3) (m:=m) (b5:=b5) (b6:=b6) (fd:=.tup (qs.map fS)) (rm:=.int R) q (hq q hm).1 (hq q hm).2 (z q hm).1 (z q hm).2 (μ++u)
    exact⟨_,_,_,_,by simp[fS],hu,_,_,u++u',rfl,by simp⟩)
 subst hρ hμ
 have hR':¬ R<(qs.length:Int):=by omega
 unfold NI at e;unfold cV;simp[zl',hR',e]
def m7:Tx:=[110,111,110,101]
def Hc (dp:Nat) (v:AV) (x:Tx):Prop:=∀ k μ,cC (k+dp+1) [v] μ=.ok (.str x) μ
def GS (f:Cf) (dq rq:Int) (dp:Nat) (v:AV) (u:Int):Prop:=∀ k μ l left,μ[l]?=some (.lst [.int left])→u≤left→eK (k+dp+1) [v,f.bok,.int rq,.int dq,.loc l] μ=.ok (.bl true) (μ.set l (.lst [.int (left-u)]))
theorem DB {μ:Mu} {l:Nat} {left:Int} (h:μ[l]?=some (.lst [.int left])):μ.set l (.lst [.int (left-0)])=μ:=by
 rw[Int.sub_zero];exact nj h
theorem GB (dp:Nat):Hc dp (.tup [.str m7]) []:=fun k μ=>by
 rw[ie]
 have z1:(1:Nat)≤cE:=by decide
 simp[m7,z1]
theorem E1 (dp:Nat) (t:Tx):Hc dp (.tup [.str li,.str t]) t:=fun k μ=>by
 rw[ie]
 have z1:(2:Nat)≤cE:=by decide
 simp[li,z1]
theorem Ka (dp:Nat) (t:Tx):Hc dp (.tup [.str m8,.str t]) t:=fun k μ=>by
 rw[ie]
 have z1:(2:Nat)≤cE:=by decide
 simp[m8,z1]
theorem FA {f:Cf} {dq rq:Int} (dp:Nat):GS f dq rq dp (.tup [.str m7]) 0:=fun k μ l left h _=>by
 rw[jg,DB h]
 have z1:(1:Nat)≤cE:=by decide
 simp[m7,z1]
theorem Jx {f:Cf} {dq rq:Int} (dp:Nat) {t:Tx} (h1:(t.length:Int)≤f.m) (z:t.length<10000):GS f dq rq dp (.tup [.str li,.str t]) 0:=fun k μ l left h _=>by
 rw[jg,DB h]
 have z2:(2:Nat)≤cE:=by decide
 have z7:(7:Nat)≤cE:=by decide
 have zt:t.length≤cE:=by rw[bV]; omega
 simp[li,z2,zt,Cf.bok,fV,z7,h1]
theorem JW {f:Cf} {rq:Int} (dp:Nat) {t:Tx} (h1:(t.length:Int)≤f.m) (z:t.length<10000):GS f 0 rq dp (.tup [.str m8,.str t]) 0:=fun k μ l left h _=>by
 rw[jg,DB h]
 have z2:(2:Nat)≤cE:=by decide
 have z7:(7:Nat)≤cE:=by decide
 have zt:t.length≤cE:=by rw[bV]; omega
 simp[m8,z2,zt,Cf.bok,fV,z7,h1]
def lZ (t:Tx):Tx:=sD 16 t.length++[59,10]++t++[59,10]
def t4 (ts:List Tx):Tx:=ts.flatMap lZ
theorem Bq (ts:List Tx) (t:Tx):t4 (ts++[t])=t4 ts++lZ t:=by simp[t4]
def px (ts:List Tx) (qs:List (Tx×Tx)):AV:=.tup [.str gc,.tup (ts.map .str),.tup (qs.map fS)]
theorem IN (dp:Nat) {ts:List Tx} {qs:List (Tx×Tx)} (h40:∀ t∈ts,t.length≤40) (z:(t4 ts++[48,59,10]++gZ qs++[59,10]).length<10000) (zl:ts.length<10000) (zq:qs.length<10000):Hc dp (px ts qs) (t4 ts++[48,59,10]++gZ qs++[59,10]):=fun k μ=>by
 have z':=z;simp only[q02,q37,q60] at z'
 have hb:∀ t∈ts,(lZ t).length<10000:=fun t ht=>Nat.lt_of_le_of_lt (rX lZ ht) (by unfold t4 at z'; omega)
 have hr:=fun μ=>yI qs (by omega) zq μ
 have z3:(3:Nat)≤cE:=by decide
 have hc:=fun (w:Ev)=>y8 (n:=1000000) (caps:=[none]) (fi:=rP (aB cM (ab 0) (fC (.int 1)))) (fe:=aB bK (aB bK (aB bK (cq 1 (gD 40) [] (ac (ko gJ (ac (ab 0) ag)) ag)) (fC (.str [59,10]))) (ab 0)) (fC (.str [59,10]))) (ρ:=some (px ts qs)::w) (μ:=μ) (μ1:=μ) (rest:=[]) ts (fun t=>.str t) (fun t=>.str (lZ t)) (by simp[px,z3]) rfl (fun t ht μ=>by
  have hx:=G8 38 t.length (h40 t ht) μ
  have zt:t.length≤cE:=by have:=h40 t ht; rw[bV]; omega
  have hd:(sD 16 t.length).length≤2:=by unfold sD; split<;>simp
  have w1:(sD 16 t.length).length+2≤cE:=by rw[bV]; omega
  have w2:(sD 16 t.length).length+2+t.length≤cE:=by have:=h40 t ht; rw[bV]; omega
  have w3:(sD 16 t.length).length+(t.length+1+1)+2≤cE:=by have:=h40 t ht; rw[bV]; omega
  simp only[show(38+2:Nat)=40 from rfl] at hx
  simp[zt,hx,w1,w2,w3,lZ]) (by omega) (by omega)
 have hj:=fun w=>yY [] ts lZ (hc w) (by
  have h1:=xM lZ ts
  have h2:(ts.flatMap lZ).length<10000:=by unfold t4 at z'; omega
  simp; omega)
 simp only[nM] at hj
 have hf:(ts.map lZ).flatten=t4 ts:=by simp[t4,List.flatMap]
 rw[hf] at hj
 have y1:(t4 ts).length+3≤cE:=by rw[bV]; omega
 have y2:(t4 ts).length+3+(gZ qs).length≤cE:=by rw[bV]; omega
 have y3:(t4 ts).length+((gZ qs).length+1+1+1)+2≤cE:=by rw[bV]; omega
 have hT:∀ μ,cM (px ts qs) (.int 0) μ=.ok (.str gc) μ:=fun μ=>by simp[px,z3]
 have hT2:∀ μ,cM (px ts qs) (.int 2) μ=.ok (.tup (qs.map fS)) μ:=fun μ=>by simp[px,z3]
 rw[ie];simp[-Gk,hT,hT2,gc,hj,hr,y1,y2,y3]
theorem Bt (xs:List Tx):jQ (xs.map AV.str)=some xs:=by
 induction xs with
 | nil=>rfl
 | cons x xs ih=>simp[jQ,ih]
theorem Li {f:Cf} {dq rq:Int} (dp:Nat) {ts:List Tx} {qs:List (Tx×Tx)} (h0:[]∉ts) (hs:(ts.flatten.length:Int)≤f.m) (hm:f.m≤40) (zl:ts.length<10000) (hq:Fb f rq qs) (zq:∀ q∈qs,q.1.length<1000∧q.2.length<1000) (zq':qs.length<1000):GS f dq rq dp (px ts qs) 0:=fun k μ l left h _=>by
 rw[jg,DB h]
 have z3:(3:Nat)≤cE:=by decide
 have z7:(7:Nat)≤cE:=by decide
 have hT0:∀ μ,cM (px ts qs) (.int 0) μ=.ok (.str gc) μ:=fun μ=>by simp[px,z3]
 have hT1:∀ μ,cM (px ts qs) (.int 1) μ=.ok (kh ts) μ:=fun μ=>by simp[px,z3,kh]
 have hT2:∀ μ,cM (px ts qs) (.int 2) μ=.ok (.tup (qs.map fS)) μ:=fun μ=>by simp[px,z3]
 have hin:∀ μ,oy false (.str []) (kh ts) μ=.ok (.bl false) μ:=fun μ=>by rw[ik]; simp[h0]
 obtain⟨T,hT⟩:∃ T,T=ts.flatten:=⟨_,rfl⟩
 have hjn:∀ μ,ot (.str []) [kh ts] μ=.ok (.str T) μ:=fun μ=>by
  have e:jQ (ts.map .str)=some ts:=Bt ts
  have h1:(ts.map List.length).sum≤cE:=by
   have:=List.length_flatten (L:=ts);rw[bV]; omega
  have h1:(ts.map (fun x=>x.length)).sum≤cE:=h1;simp[kh,e,nM,h1,hT]
 rw[← hT] at hs
 have zf:T.length≤cE:=by rw[bV]; omega
 have hg:=fun μ=>E7 (b0:=f.b0) (b1:=f.b1) (d:=f.d) (b3:=f.b3) (m:=f.m) (b5:=f.b5) (b6:=f.b6) (R:=rq) qs hq.1 hq.2 zq zq' μ
 have hb:∀ μ,cM (fV f.b0 f.b1 f.d f.b3 f.m f.b5 f.b6) (.int 4) μ=.ok (.int f.m) μ:=fun μ=>by simp[fV,z7]
 have hs':¬ f.m<(T.length:Int):=by omega
 simp[-lR,-CC,hT0,hT1,hT2,gc,hin,hjn,zf,Cf.bok,hb,hs',hg]
structure nU (f:Cf):Prop where
 b1:f.b1≤100
 d0:0<f.d
 d:f.d≤100
 b3:f.b3≤100
 b30:0≤f.b3
 m0:0≤f.m
 m:f.m≤40
 b6:f.b6≤3
def Cj (v:AV) (er:Tx):Prop:=(v=.tup [.str m7]∧er=[])∨(∃ t,v=.tup [.str li,.str t]∧er=vi li t.length∧t.length≤40)∨(∃ nm ds,v=.tup (.str nm::ds)∧(nm=gc∨nm=iN)∧er=vi nm 0∧ds.length≤10)
structure Pt where
 qs:List (Tx×Tx)
 v:AV
 er:Tx
 y:Tx
 u:Int
def Pt.av (p:Pt):AV:=.tup [.tup (p.qs.map fS),p.v]
def Pt.tx (p:Pt):Tx:=[43,59,10]++gZ p.qs++p.er++[59,10]++p.y
structure Ae (f:Cf) (dq:Int) (dp:Nat) (p:Pt):Prop where
 g:Fb f f.b3 p.qs
 e:Cj p.v p.er
 w:Hc dp p.v p.y
 k:GS f (dq+1) (f.b3-p.qs.length) dp p.v p.u
 u:0≤p.u
def kE (L:List Pt):Tx:=L.flatMap Pt.tx
def lz:List Pt→Int
 | []=>0
 | p::L=>1+p.u+lz L
theorem qi (L:List Pt) (p:Pt):kE (L++[p])=kE L++p.tx:=by simp[kE]
theorem nJ:∀ (L:List Pt) (p:Pt),lz (L++[p])=lz L+(1+p.u)
 | [],p=>by simp[lz]
 | q::L,p=>by simp only[List.cons_append,lz,nJ L p]; omega
theorem pM {f:Cf} {dq:Int} {dp:Nat}:∀ {L:List Pt},(∀ p∈L,Ae f dq dp p)→(L.length:Int)≤lz L
 | [],_=>by simp[lz]
 | q::L,h=>by
  have h1:=(h q (by simp)).u;have h2:=pM (L:=L) (fun p hp=>h p (by simp[hp]));simp[lz]; omega
def Nu (n:Nat):FS:=(aG (bU (aB bK (aB cM (ab 3) (fC (.int 0))) (fC (.str [58,32,121,101,115,59,10]))) (dn 4)) (aG (df (fT (aB (fU false) (aB cM (ab 3) (fC (.int 0))) (fC (.str [108,101,110,103,116,104])))) (bU (aB bK (aB bK (fC (.str [108,101,110,103,116,104,58,32])) (ko Bk (ac (ko gJ (ac (aB cM (ab 3) (fC (.int 1))) ag)) ag))) (fC (.str [59,10]))) (dn 4)) dE) (aG (df (fT (aB (fU false) (aB cM (ab 3) (fC (.int 0))) (fC (.str [110,111,110,101])))) (bU (fC (.str [])) (dn 4)) dE) (bU (aB bK (aB bK (aB bK (aB bK (aB bK (ab 1) (fC (.str [43,59,10]))) (cq 1 gn [] (ac (ab 2) ag))) (ab 4)) (fC (.str [59,10]))) (cq 1 (cC n) [] (ac (ab 3) ag))) (dn 1)))))
theorem C2:∀ n:Nat,n≤40→A3 (n:Int)=sD 10 n:=by decide+kernel
theorem FW (n:Nat) (h:n≤40):sm 1900 (n:Int)=true:=B1 (by
 have e:(2:Nat) ^ 64≤2 ^ 1900:=Nat.pow_le_pow_right (by decide) (by decide)
 have e2:(2:Nat) ^ 64=18446744073709551616:=by decide
 omega) (by decide)
theorem GN {T R E Y:Tx} (h:(T++([43,59,10]++R++E++[59,10]++Y)).length<10000) (n:Nat) {a b v o:AV} (hr:∀ μ,gn [b] μ=.ok (.str R) μ) (hw:∀ μ,cC n [v] μ=.ok (.str Y) μ) (μ:Mu) :
  (bU (aB bK (aB bK (aB bK (aB bK (aB bK (ab 1) (fC (.str [43,59,10]))) (cq 1 gn [] (ac (ab 2) ag))) (ab 4)) (fC (.str [59,10]))) (cq 1 (cC n) [] (ac (ab 3) ag))) (dn 1)) [some a,some (.str T),some b,some v,some (.str E)] μ=.ok (.nx [some a,some (.str (T++([43,59,10]++R++E++[59,10]++Y))),some b,some v,some (.str E)]) μ:=by
 simp only[q02,q37,q60] at h
 have y1:T.length+3≤cE:=by rw[bV]; omega
 have y2:T.length+3+R.length≤cE:=by rw[bV]; omega
 have y3:T.length+(R.length+1+1+1)+E.length≤cE:=by rw[bV]; omega
 have y4:T.length+(R.length+E.length+1+1+1)+2≤cE:=by rw[bV]; omega
 have y4':T.length+(R.length+(E.length+1+1)+1+1+1)+Y.length≤cE:=by rw[bV]; omega
 have y5:T.length+(R.length+(E.length+2)+1+1+1)+Y.length≤cE:=by rw[bV]; omega
 simp[hr,hw,y1,y2,y3,y4,y4',y5]
theorem FF {f:Cf} (hB:nU f) {dq:Int} {dp:Nat} {p:Pt} (hp:Ae f dq dp p) (k:Nat) {T:Tx} {a:AV} {o4:Option AV} (h:(T++p.tx).length<10000) (μ:Mu) :
  ∃ o,Nu (k+dp+1) [some a,some (.str T),some (.tup (p.qs.map fS)),some p.v,o4] μ=.ok (.nx [some a,some (.str (T++p.tx)),some (.tup (p.qs.map fS)),some p.v,o]) μ:=by
 have hql:p.qs.length<10000:=by have:=hp.g.2; have:=hB.b3; omega
 have hrl:(gZ p.qs).length<10000:=by
  simp only[Pt.tx,q02] at h;omega
 have hr:=fun μ=>yI p.qs hrl hql μ
 have hw:=hp.w k
 have hc:=fun μ=>GN (E:=p.er) h (k+dp+1) (a:=a) (o:=a) hr hw μ
 refine⟨some (.str p.er),?_⟩
 have z1:(1:Nat)≤cE:=by decide
 have z2:(2:Nat)≤cE:=by decide
 have z11:(11:Nat)≤cE:=by decide
 have z13:(13:Nat)≤cE:=by decide
 unfold Nu
 rcases hp.e with ⟨hv,he⟩|⟨t,hv,he,ht⟩|⟨nm,ds,hv,hn,he,hl⟩
 ·rw[dg (ρ1:=[some a,some (.str T),some (.tup (p.qs.map fS)),some p.v,some (.str (m7++[58,32,121,101,115,59,10]))]) (μ1:=μ) (by rw[hv]; simp[m7,z1,z11])]
  rw[dg (ρ1:=[some a,some (.str T),some (.tup (p.qs.map fS)),some p.v,some (.str (m7++[58,32,121,101,115,59,10]))]) (μ1:=μ) (by rw[hv]; simp[m7,z1,z11])];rw[dg (ρ1:=[some a,some (.str T),some (.tup (p.qs.map fS)),some p.v,some (.str p.er)]) (μ1:=μ) (by rw[hv,he]; simp[m7,z1,z11])];exact hc μ
 ·have zt:t.length≤cE:=by rw[bV]; omega
  have hd:=C2 t.length ht;have hs:=FW t.length ht
  have hdl:(sD 10 t.length).length≤2:=by unfold sD; split<;>simp
  have w1:8+(sD 10 t.length).length≤cE:=by rw[bV]; omega
  have w2:(sD 10 t.length).length+1+1+1+1+1+1+1+1+2≤cE:=by rw[bV]; omega
  have w3:(sD 10 t.length).length+8+2≤cE:=by rw[bV]; omega
  rw[dg (ρ1:=[some a,some (.str T),some (.tup (p.qs.map fS)),some p.v,some (.str (li++[58,32,121,101,115,59,10]))]) (μ1:=μ) (by rw[hv]; simp[li,z2,z13])];rw[dg (ρ1:=[some a,some (.str T),some (.tup (p.qs.map fS)),some p.v,some (.str p.er)]) (μ1:=μ) (by rw[hv,he]; simp[li,z2,z13,zt,hd,hs,w1,w2,w3,vi])];rw[dg (ρ1:=[some a,some (.str T),some (.tup (p.qs.map fS)),some p.v,some (.str p.er)]) (μ1:=μ) (by rw[hv,he]; simp[li,z2,z13])];exact hc μ
 ·have zd:ds.length+1≤cE:=by rw[bV]; omega
  have z12:(12:Nat)≤cE:=by decide
  have hne:nm≠li∧nm≠m7∧nm.length+7≤cE:=by
   rcases hn with rfl|rfl
   ·exact⟨by decide,by decide,by decide⟩
   ·exact⟨by decide,by decide,by decide⟩
  have hx:∀ μ,cM p.v (.int 0) μ=.ok (.str nm) μ:=fun μ=>by rw[hv]; simp[zd]
  obtain⟨n1,n2,n3⟩:=hne
  have n1':(nm==[108,101,110,103,116,104])=false:=by simpa [li] using n1
  have n2':(nm==[110,111,110,101])=false:=by simpa [m7] using n2
  have hee:p.er=nm++[58,32,121,101,115,59,10]:=by rw[he,vi,if_neg n1]; simp[xo]
  rw[dg (ρ1:=[some a,some (.str T),some (.tup (p.qs.map fS)),some p.v,some (.str p.er)]) (μ1:=μ) (by rw[hee]; simp[hx,n3])];rw[dg (ρ1:=[some a,some (.str T),some (.tup (p.qs.map fS)),some p.v,some (.str p.er)]) (μ1:=μ) (by simp[hx,n1'])];rw[dg (ρ1:=[some a,some (.str T),some (.tup (p.qs.map fS)),some p.v,some (.str p.er)]) (μ1:=μ) (by simp[hx,n2'])];exact hc μ
def kO (L:List Pt):AV:=.tup [.str iN,.tup (L.map Pt.av)]
theorem L5 {f:Cf} (hB:nU f) {dq:Int} {dp:Nat} {L:List Pt} (hL:∀ p∈L,Ae f dq dp p) (h:(kE L).length<9000):Hc (dp+1) (kO L) (kE L++[45,59,10]):=fun k μ=>by
 have hLl:L.length≤(kE L).length:=by
  clear h hL
  induction L with
  | nil=>simp
  | cons p L ih=>
   have e:kE (p::L)=p.tx++kE L:=by simp[kE]
   rw[e,q02,q37]
   have:3≤p.tx.length:=by simp[Pt.tx]
   omega
 have hT0:∀ μ,cM (kO L) (.int 0) μ=.ok (.str iN) μ:=fun μ=>by
  have z2:(2:Nat)≤cE:=by decide
  simp[kO,z2]
 have hT1:∀ μ,cM (kO L) (.int 1) μ=.ok (.tup (L.map Pt.av)) μ:=fun μ=>by
  have z2:(2:Nat)≤cE:=by decide
  simp[kO,z2]
 obtain⟨ρ',μ',e,⟨o2,o3,o4,hρ,hμ⟩⟩:=BP (g:=zj 2 (gB (dn 2) (gB (dn 3) mQ))) (n:=1000000) (ds:=L.map Pt.av) (ρ:=[some (kO L),some (.str []),none,none,none]) (μ:=μ) (fb:=Nu (k+dp+1))
  (fun j ρ ν=>∃ o2 o3 o4,ρ=[some (kO L),some (.str (kE (L.take j))),o2,o3,o4]∧ν=μ) ⟨none,none,none,rfl,rfl⟩ (by simp; omega) (fun j dd ρ ν hd ⟨o2,o3,o4,hρ,hν⟩=>by
   subst hρ hν;rw[q33] at hd
   cases e:L[j]? with
   | none=>rw[e] at hd; cases hd
   | some p=>
    rw[e] at hd;cases hd;have hm:=q59 e
    have ht:L.take (j+1)=L.take j++[p]:=by rw[q94,e]; rfl
    have hpre:(kE (L.take j)++p.tx).length<10000:=by
     rw[← qi,← ht]
     have:kE L=kE (L.take (j+1))++kE (L.drop (j+1)):=by
      unfold kE;rw[← List.flatMap_append,qa0]
     rw[this,q02] at h;omega
    obtain⟨o,ho⟩:=FF hB (hL p hm) k (T:=kE (L.take j)) (a:=kO L) (o4:=o4) hpre ν
    exact⟨_,_,_,_,by simp[Pt.av],ho,_,_,_,by rw[ht,qi],rfl⟩)
 subst hρ hμ;rw[show(L.map Pt.av).length=L.length from by simp,qa3] at e
 have z3:(kE L).length+3≤cE:=by rw[bV]; omega
 rw[show k+(dp+1)+1=(k+dp+1)+1 from by omega,ie];unfold Nu at e;simp[hT0,hT1,iN,e,z3]
def Nn (n:Nat):FS:=(aG (bU (aB qp (aB cM (ab 4) (fC (.int 0))) (fC (.int 1))) (uG (ab 4) (fC (.int 0)))) (aG (df (ir (fT (aB vL (aB cM (ab 4) (fC (.int 0))) (fC (.int 0)))) (ir (fT (aB Ak (aB bK (ab 3) (fC (.int 1))) (aB cM (ab 1) (fC (.int 6))))) (gz (gI (cq 3 cV [] (ac (ab 5) (ac (ab 1) (ac (aB cM (ab 1) (fC (.int 3))) ag)))))))) (aN (fC (.bl false))) dE) (df (gz (gI (cq 5 (eK n) [] (ac (ab 6) (ac (ab 1) (ac (aB qp (aB cM (ab 1) (fC (.int 3))) (ko gJ (ac (ab 5) ag))) (ac (aB bK (ab 3) (fC (.int 1))) (ac (ab 4) ag)))))))) (aN (fC (.bl false))) dE)))
theorem Fg {f:Cf} (hB:nU f) {R:Int} {qs:List (Tx×Tx)} (h:Fb f R qs):∀ q∈qs,q.1.length<1000∧q.2.length<1000:=fun q hq=>by
 obtain⟨h1,h2⟩:=h.1 q hq;have a:=h1.2.1;have b:=h2.2.1;have:=hB.b1;have:=hB.d;omega
theorem FJ {f:Cf} (hB:nU f) {dq:Int} (hdp:dq+1≤f.b6) {dp:Nat} {p:Pt} (hp:Ae f dq dp p) (k:Nat) {a r:AV} {l:Nat} {left:Int} (hl:1+p.u≤left) (μ:Mu) (hμ:μ[l]?=some (.lst [.int left])) :
  Nn (k+dp+1) [some a,some f.bok,some r,some (.int dq),some (.loc l),some (.tup (p.qs.map fS)),some p.v] μ=.ok (.nx [some a,some f.bok,some r,some (.int dq),some (.loc l),some (.tup (p.qs.map fS)),some p.v]) (μ.set l (.lst [.int (left-(1+p.u))])):=by
 have hlt:=(q07.mp hμ).1
 have hL:bu μ l=some [.int left]:=by unfold bu; rw[hμ]
 have z1:(1:Nat)≤cE:=by decide
 have z7:(7:Nat)≤cE:=by decide
 have hu:=hp.u;have hq:=hp.g.2;have hb3:=hB.b3
 have zq:p.qs.length≤cE:=by rw[bV]; omega
 have b1:∀ μ,cM f.bok (.int 6) μ=.ok (.int f.b6) μ:=fun μ=>by simp[Cf.bok,fV,z7]
 have b2:∀ μ,cM f.bok (.int 3) μ=.ok (.int f.b3) μ:=fun μ=>by simp[Cf.bok,fV,z7]
 have hg:=fun μ=>E7 (b0:=f.b0) (b1:=f.b1) (d:=f.d) (b3:=f.b3) (m:=f.m) (b5:=f.b5) (b6:=f.b6) (R:=f.b3) p.qs hp.g.1 hp.g.2 (Fg hB hp.g) (by omega) μ
 have hg:∀ μ,cV [.tup (p.qs.map fS),f.bok,.int f.b3] μ=.ok (.bl true) μ:=hg;have hμ1:(μ.set l (.lst [.int (left-1)]))[l]?=some (.lst [.int (left-1)]):=q15 hlt
 have hL1:bu (μ.set l (.lst [.int (left-1)])) l=some [.int (left-1)]:=by unfold bu; rw[hμ1]
 have hk:=hp.k k (μ.set l (.lst [.int (left-1)])) l (left-1) hμ1 (by omega)
 have n1:¬ left-1<0:=by omega
 have n2:¬ f.b6<dq+1:=by omega
 have e1:(bU (aB qp (aB cM (ab 4) (fC (.int 0))) (fC (.int 1))) (uG (ab 4) (fC (.int 0)))) [some a,some f.bok,some r,some (.int dq),some (.loc l),some (.tup (p.qs.map fS)),some p.v] μ=.ok (.nx [some a,some f.bok,some r,some (.int dq),some (.loc l),some (.tup (p.qs.map fS)),some p.v]) (μ.set l (.lst [.int (left-1)])):=by
  have hi:AB 1 0=some 0:=by decide
  simp[hL,z1,hμ,hi]
 unfold Nn;rw[dg e1];rw[dg (ρ1:=[some a,some f.bok,some r,some (.int dq),some (.loc l),some (.tup (p.qs.map fS)),some p.v]) (μ1:=μ.set l (.lst [.int (left-1)])) (by simp[hL1,z1,n1,b1,b2,n2,hg])];rw[List.set_set,show left-1-p.u=left-(1+p.u) by omega] at hk;simp[hL1,z1,b2,zq,hk]
theorem Ji {f:Cf} (hB:nU f) {dq rq:Int} {dp:Nat} {L:List Pt} (hL:∀ p∈L,Ae f dq dp p) (hd:L≠[]→dq+1≤f.b6) (hl:L.length<10000):GS f dq rq (dp+1) (kO L) (lz L):=fun k μ l left hμ hu=>by
 have hT0:∀ μ,cM (kO L) (.int 0) μ=.ok (.str iN) μ:=fun μ=>by
  have z2:(2:Nat)≤cE:=by decide
  simp[kO,z2]
 have hT1:∀ μ,cM (kO L) (.int 1) μ=.ok (.tup (L.map Pt.av)) μ:=fun μ=>by
  have z2:(2:Nat)≤cE:=by decide
  simp[kO,z2]
 have hlt:=(q07.mp hμ).1;obtain⟨ρ',μ',e,⟨o2,o3,hρ,hν⟩⟩:=BP (g:=zj 2 (gB (dn 5) (gB (dn 6) mQ))) (n:=1000000) (ds:=L.map Pt.av) (ρ:=[some (kO L),some f.bok,some (.int rq),some (.int dq),some (.loc l),none,none]) (μ:=μ) (fb:=Nn (k+dp+1))
  (fun j ρ ν=>∃ o2 o3,ρ=[some (kO L),some f.bok,some (.int rq),some (.int dq),some (.loc l),o2,o3]∧ν=μ.set l (.lst [.int (left-lz (L.take j))])) ⟨none,none,rfl,by simp[lz]; exact(nj hμ).symm⟩ (by simp; omega) (fun j dd ρ ν hd' ⟨o2,o3,hρ,hν⟩=>by
   subst hρ hν;rw[q33] at hd'
   cases e:L[j]? with
   | none=>rw[e] at hd'; cases hd'
   | some p=>
    rw[e] at hd';cases hd';have hm:=q59 e
    have ht:L.take (j+1)=L.take j++[p]:=by rw[q94,e]; rfl
    have hU:lz L=lz (L.take (j+1))+lz (L.drop (j+1)):=by
     have:∀ A B:List Pt,lz (A++B)=lz A+lz B:=fun A B=>by
      induction A with
      | nil=>simp[lz]
      | cons q A ih=>simp only[List.cons_append,lz,ih]; omega
     rw[← this,qa0]
    have hnn:=pM (L:=L.drop (j+1)) (fun p hp=>hL p (List.mem_of_mem_drop hp));rw[ht,nJ] at hU;have hr:=FJ hB (hd (by rintro rfl; simp at e)) (hL p hm) k (a:=kO L) (r:=.int rq) (l:=l) (left:=left-lz (L.take j)) (by omega) (μ.set l (.lst [.int (left-lz (L.take j))])) (q15 hlt);refine⟨_,_,_,_,by simp[Pt.av],hr,_,_,rfl,?_⟩;rw[ht,nJ,List.set_set];congr 4
    omega)
 subst hρ hν;rw[show(L.map Pt.av).length=L.length from by simp,qa3] at e;rw[show k+(dp+1)+1=(k+dp+1)+1 from by omega,jg];unfold Nn at e;simp[hT0,hT1,iN,e];exact eW (by simp)
def Cf.at (f:Cf) (R:Int) (es:List Tx):Cf:={ f with R0:=R,nq:=es }
inductive Bd
 | non
 | len (n:Int) (t:Tx)
 | rst (n:Int) (t:Tx)
 | size (ts:List Tx) (left:Int) (t:Tx) (cl:Bool)
 | piece (ts:List Tx) (left n:Int) (t:Tx) (cl:Bool)
 | trail (ts:List Tx) (left:Int) (t:Tx) (s:St)
 | row (ps:List AV) (rt:Tx)
 | prt (ps:List AV) (s:St)
 | prb (ps fp:List AV) (en:AV) (b:Bd)
def rR (f:Cf):AV→Bd
 | .tup [.str nm,.int n]=>if nm=li then .len n [] else if nm=gc then .size [] f.m [] false else if nm=iN then .row [] [] else .rst f.m []
 | _=>.non
def Ap:AV→Tx
 | .tup [.str nm,.int n]=>if nm=li then q45 n.toNat 97 else if nm=gc then pL else if nm=iN then [45,59,10] else []
 | _=>[]
def Bd.whole:Bd→Bool
 | .non=>true
 | .len n t=>decide ((t.length:Int)=n)
 | .rst _ _=>true
 | .trail _ _ _ s=>qC s.ph
 | .row _ rt=>rt==[45,59,10]
 | _=>false
def Bd.told:Bd→AV
 | .non=>.tup [.str m7]
 | .len _ t=>.tup [.str li,.str t]
 | .rst _ t=>.tup [.str m8,.str t]
 | .size ts _ _ _=>.tup [.str gc,.tup (ts.map .str),.tup []]
 | .piece ts _ _ _ _=>.tup [.str gc,.tup (ts.map .str),.tup []]
 | .trail ts _ _ s=>.tup [.str gc,.tup (ts.map .str),.tup s.ps]
 | .row ps _=>.tup [.str iN,.tup ps]
 | .prt ps _=>.tup [.str iN,.tup ps]
 | .prb ps _ _ _=>.tup [.str iN,.tup ps]
def nK (ps fp:List AV) (en:AV) (b:Bd):Bd:=if b.whole=true then .row (ps++[.tup [.tup fp,b.told]]) [] else .prb ps fp en b
def s0:St:=⟨[],.non,.idle⟩
def bx (f:Cf) (n:Int) (c:Nat):Bd→Int→Int→Option (Int×Bd)
 | .non,_,_=>none
 | .len m t,_,_=>if MK.tk (.sg m) t c=true then some (n,.len m (t++[c])) else none
 | .rst m t,_,_=>if MK.tk (.sg m) t c=true then some (n,.rst m (t++[c])) else none
 | .size ts left t false,_,_=>if MK.tk (.num 16 left) t c=true then some (n,.size ts left (t++[c]) false) else if c=59∧t≠[] then some (n,.size ts left t true) else none
 | .size ts left t true,_,_=>if c=10 then some (n,if 0<fW 16 t then .piece ts left (fW 16 t) [] false else .trail ts left t s0) else none
 | .piece ts left k t false,_,_=>if MK.tk (.sg k) t c=true then some (n,.piece ts left k (t++[c]) false) else if c=59∧(t.length:Int)=k then some (n,.piece ts left k t true) else none
 | .piece ts left _ t true,_,_=>if c=10 then some (n,.size (ts++[t]) (left-t.length) [] false) else none
 | .trail ts left t s,_,rq=>(step (f.at rq []) s.ps s.en c s.ph).map fun s'=>(n,.trail ts left t s')
 | .row ps [],dq,_=>if c=45 then some (n,.row ps [45]) else if c=43∧dq<f.b6∧0<n then some (n-1,.row ps [43]) else none
 | .row ps [45],_,_=>if c=59 then some (n,.row ps [45,59]) else none
 | .row ps [45,59],_,_=>if c=10 then some (n,.row ps [45,59,10]) else none
 | .row ps [43],_,_=>if c=59 then some (n,.row ps [43,59]) else none
 | .row ps [43,59],_,_=>if c=10 then some (n,.prt ps s0) else none
 | .row _ _,_,_=>none
 | .prt ps s,dq,_=>(step (f.at f.b3 (kR (dq+1))) s.ps s.en c s.ph).map fun s'=>(n,if qC s'.ph=true then nK ps s'.ps s'.en (rR f s'.en) else .prt ps s')
 | .prb ps fp en b,dq,_=>(bx f n c b (dq+1) (f.b3-fp.length)).map fun q=>(q.1,nK ps fp en q.2)
def im (f:Cf):Bd→Int→Int→Tx
 | .non,_,_=>[]
 | .len n t,_,_=>q45 (n-t.length).toNat 97
 | .rst _ _,_,_=>[]
 | .size _ left t cl,_,_=>if 0<fW 16 t then ((((MK.num 16 left).aw t++[59,10].drop (if cl then 1 else 0))++q45 (fW 16 t).toNat 97)++[59,10])++pL else ((MK.num 16 left).aw t++[59,10].drop (if cl then 1 else 0))++[59,10]
 | .piece _ _ n t cl,_,_=>((MK.sg n).aw t++[59,10].drop (if cl then 1 else 0))++pL
 | .trail _ _ _ s,_,rq=>mr (f.at rq []) s.ps s.ph
 | .row _ rt,_,_=>if rt=[] then [45,59,10] else if rt.head?=some 45 then [45,59,10].drop rt.length else ([43,59,10].drop rt.length++[59,10])++[45,59,10]
 | .prt _ s,dq,_=>(mr (f.at f.b3 (kR (dq+1))) s.ps s.ph++Ap (mq (f.at f.b3 (kR (dq+1))) s))++[45,59,10]
 | .prb _ fp _ b,dq,_=>im f b (dq+1) (f.b3-fp.length)++[45,59,10]
def Mt (en:AV):Bd→Prop
 | .non=>en=.non
 | .len n _=>en=.tup [.str li,.int n]
 | .rst _ _=>en=.tup [.str m8,.int 0]
 | .size _ _ _ _=>en=.tup [.str gc,.int 0]
 | .piece _ _ _ _ _=>en=.tup [.str gc,.int 0]
 | .trail _ _ _ _=>en=.tup [.str gc,.int 0]
 | .row _ _=>en=.tup [.str iN,.int 0]
 | .prt _ _=>en=.tup [.str iN,.int 0]
 | .prb _ _ _ _=>en=.tup [.str iN,.int 0]
def NJ (f:Cf) (ts:List Tx) (left:Int):Prop:=[]∉ts∧(ts.flatten.length:Int)+left=f.m∧0≤left
def za (f:Cf) (dq:Int):Nat:=(f.b6-dq).toNat
def Ii (f:Cf) (dq:Int) (ps:List AV) (y:Tx) (u:Int):Prop:=∃ L:List Pt,ps=L.map Pt.av∧(∀ p∈L,Ae f dq (za f dq) p)∧y=kE L∧u=lz L∧(L≠[]→dq+1≤f.b6)
def xB:List Tx:=[[],[45],[45,59],[45,59,10],[43],[43,59]]
def Iv (f:Cf):Bd→Int→Int→Tx→Int→Prop
 | .non,_,_,x,u=>x=[]∧u=0
 | .len n t,_,_,x,u=>x=t∧u=0∧(t.length:Int)≤n∧n≤f.m
 | .rst n t,dq,_,x,u=>x=t∧u=0∧(t.length:Int)≤n∧n=f.m∧dq=0
 | .size ts left t cl,_,rq,x,u=>u=0∧0≤rq∧rq≤100∧NJ f ts left∧Du 16 left t∧(cl=true→t≠[])∧x=t4 ts++t++(if cl then [59] else [])
 | .piece ts left n t cl,_,rq,x,u=>u=0∧0≤rq∧rq≤100∧NJ f ts left∧(t.length:Int)≤n∧0<n∧n≤left∧(cl=true→(t.length:Int)=n)∧x=t4 ts++sD 16 n.toNat++[59,10]++t++(if cl then [59] else [])
 | .trail ts left t s,_,rq,x,u=>u=0∧0≤rq∧rq≤100∧NJ f ts left∧t=[48]∧∃ z,FI (f.at rq []) s z∧x=t4 ts++[48,59,10]++z
 | .row ps rt,dq,_,x,u=>∃ y u',Ii f dq ps y u'∧rt∈xB∧x=y++rt∧u=u'+(if rt.head?=some 43 then 1 else 0)∧(rt.head?=some 43→dq<f.b6)
 | .prt ps s,dq,_,x,u=>∃ y u' z,Ii f dq ps y u'∧dq<f.b6∧u=u'+1∧FI (f.at f.b3 (kR (dq+1))) s z∧qC s.ph=false∧x=y++[43,59,10]++z
 | .prb ps fp en b,dq,_,x,u=>∃ y u' qs er z u2,Ii f dq ps y u'∧dq<f.b6∧fp=qs.map fS∧Fb f f.b3 qs∧yB (f.at f.b3 (kR (dq+1))) en er∧Mt en b∧b.whole=false∧Iv f b (dq+1) (f.b3-qs.length) z u2∧u=u'+1+u2∧x=y++[43,59,10]++(gZ qs++er++[59,10])++z
theorem ET {f:Cf} (hB:nU f) (R:Int) {es:List Tx} (hE:∀ e∈es,e∈kB) (hl:es.length<1000):Gd (f.at R es):=⟨hB.d0,hB.m0,hB.m,hE,hl⟩
theorem lx (dq:Int):(∀ e∈kR dq,e∈kB)∧(kR dq).length<1000:=by
 unfold kR;split
 ·exact⟨fun e h=>h,by decide⟩
 ·exact⟨by decide,by decide⟩
theorem yg {f:Cf} (hB:nU f) (dq:Int):Gd (f.at f.b3 (kR dq)):=ET hB _ (lx dq).1 (lx dq).2
theorem D8 {f:Cf} (hB:nU f) (rq:Int):Gd (f.at rq []):=ET hB _ (by simp) (by simp)
theorem mL {dq:Int} (h:dq≠0):m8∉kR dq:=by
 unfold kR;rw[if_neg h]
 decide
theorem NL:∀ e∈kB,e=li∨e=gc∨e=iN∨e=m8:=by decide
theorem sN:gc≠li∧iN≠li∧m8≠li∧iN≠gc∧m8≠gc∧m8≠iN:=by decide
theorem vR {f:Cf} {es:List Tx} {R dq:Int} {en:AV} {er:Tx} (hE:∀ e∈es,e∈kB) (hr:m8∈es→dq=0) (h:yB (f.at R es) en er) (hB:nU f) (rq:Int) (h0:0≤rq) (h1:rq≤100):Mt en (rR f en)∧Iv f (rR f en) dq rq [] 0∧im f (rR f en) dq rq=Ap en:=by
 obtain⟨n1,n2,n3,n4,n5,n6⟩:=sN
 rcases h with ⟨rfl,_⟩|⟨nm,k,rfl,hm,_,hk,hk0⟩
 ·exact⟨rfl,⟨rfl,rfl⟩,rfl⟩
 ·rcases NL nm (hE nm hm) with rfl|rfl|rfl|rfl
  ·simp only[rR,if_true,Ap]
   refine⟨rfl,⟨rfl,rfl,by simp,hk rfl⟩,by simp[im]⟩
  ·have:=hk0 n1
   subst this;simp only[rR,n1,if_false,if_true,Ap];refine⟨rfl,⟨rfl,h0,h1,⟨by simp,by simp,hB.m0⟩,.inl rfl,by simp,by simp[t4]⟩,?_⟩;simp[im,fW,MK.aw,pL]
  ·have:=hk0 n2
   subst this;simp only[rR,n2,n4,if_false,if_true,Ap];exact⟨rfl,⟨[],0,⟨[],rfl,by simp,rfl,rfl,by simp⟩,by simp[xB],by simp,by simp,by simp⟩,by simp[im]⟩
  ·have:=hk0 n3
   subst this;simp only[rR,n3,n5,n6,if_false,Ap];exact⟨rfl,⟨rfl,rfl,by simpa using hB.m0,rfl,hr hm⟩,by simp[im]⟩
theorem LM {f:Cf}:∀ {b:Bd} {dq rq:Int} {x:Tx} {u:Int},Iv f b dq rq x u→0≤u
 | .non,_,_,_,_,h=>by simp only[Iv] at h; omega
 | .len _ _,_,_,_,_,h=>by simp only[Iv] at h; omega
 | .rst _ _,_,_,_,_,h=>by simp only[Iv] at h; omega
 | .size _ _ _ _,_,_,_,_,h=>by simp only[Iv] at h; omega
 | .piece _ _ _ _ _,_,_,_,_,h=>by simp only[Iv] at h; omega
 | .trail _ _ _ _,_,_,_,_,h=>by simp only[Iv] at h; omega
 | .row _ _,_,_,_,_,h=>by
  simp only[Iv] at h;obtain⟨y,u',⟨L,_,h1,_,h2,_⟩,_,_,h3,_⟩:=h;have:=pM h1
  split at h3<;>omega
 | .prt _ _,_,_,_,_,h=>by
  simp only[Iv] at h;obtain⟨y,u',z,⟨L,_,h1,_,h2,_⟩,_,h3,_⟩:=h;have:=pM h1;omega
 | .prb _ _ _ b,_,_,_,_,h=>by
  simp only[Iv] at h;obtain⟨y,u',qs,er,z,u2,⟨L,_,h1,_,h2,_⟩,_,_,_,_,_,_,hb,h3,_⟩:=h;have:=pM h1;have:=LM hb;omega
theorem FK {f:Cf} (hB:nU f) {ts:List Tx} {left:Int} (h:NJ f ts left):(∀ t∈ts,t.length≤40)∧(ts.flatten.length:Int)≤f.m:=by
 obtain⟨h1,h2,h3⟩:=h;have hm:=hB.m;refine⟨fun t ht=>?_,by omega⟩;have:=rX (fun t:Tx=>t) ht;rw[show ts.flatMap (fun t=>t)=ts.flatten from by simp[List.flatMap]] at this;omega
theorem uK:∀ ts:List Tx,ts.length≤(t4 ts).length
 | []=>by simp
 | t::ts=>by
  have:=uK ts
  have e:t4 (t::ts)=lZ t++t4 ts:=by simp[t4]
  rw[e];simp[lZ];omega
theorem yM {f:Cf} (hB:nU f):∀ {b:Bd} {dq rq:Int} {x:Tx} {u:Int},Iv f b dq rq x u→b.whole=true→x.length<8000→Hc (za f dq+1) b.told x∧GS f dq rq (za f dq+1) b.told u
 | .non,_,_,_,_,w5_,_,_=>by
  obtain⟨h1,h2⟩:=w5_;subst h1 h2; exact⟨GB _,FA _⟩
 | .len n t,_,_,_,_,w5_,_,hx=>by
  obtain⟨h1,h2,h3,h4⟩:=w5_;subst h1 h2; exact⟨E1 _ _,Jx _ (by omega) (by omega)⟩
 | .rst n t,_,_,_,_,w5_,_,hx=>by
  obtain⟨h1,h2,h3,h4,h5⟩:=w5_;subst h1 h2 h5; exact⟨Ka _ _,JW _ (by omega) (by omega)⟩
 | .size _ _ _ _,_,_,_,_,_,h,_=>by simp[Bd.whole] at h
 | .piece _ _ _ _ _,_,_,_,_,_,h,_=>by simp[Bd.whole] at h
 | .trail ts left t ⟨ps,en,ph⟩,dq,rq,x,u,w5_,hw,hl=>by
  obtain⟨h1,h2,h2',h3,h4,z,⟨qs,ey,hp,hq,he,hi⟩,hx⟩:=w5_;simp only[Bd.whole] at hw;simp only at hp he hi;subst h1 h4 hp
  have hey:ey=[]:=by
   rcases he with he|⟨nm,k,_,hm,_⟩
   ·exact he.2
   ·cases hm
  subst hey
  cases ph with
  | e2=>
   simp only[u4] at hi;subst hi
   have hx':x=t4 ts++[48,59,10]++gZ qs++[59,10]:=by rw[hx]; simp
   subst hx';obtain⟨p1,p2⟩:=FK hB h3
   have hql:qs.length<1000:=by
    have:(qs.length:Int)≤rq:=hq.2;omega
   have hq':Fb f rq qs:=hq;have hpl:=uK ts;have hl':=hl;simp only[q02] at hl';exact⟨IN _ p1 (by omega) (by omega) (by omega),Li _ h3.1 p2 hB.m (by omega) hq' (Fg hB hq') hql⟩
  | _=>simp[qC] at hw
 | .row ps rt,dq,rq,x,u,w5_,hw,hl=>by
  obtain⟨y,u',⟨L,hp,hL,hy,hu,hd⟩,hr,hx,hu',h4⟩:=w5_;simp only[Bd.whole,beq_iff_eq] at hw;subst hw hx hp hy hu hu';rw[q02] at hl
  have hLl:L.length≤(kE L).length:=by
   clear hr h4 hd hL hl
   induction L with
   | nil=>simp
   | cons p L ih=>
    have e:kE (p::L)=p.tx++kE L:=by simp[kE]
    rw[e,q02,q37]
    have:3≤p.tx.length:=by simp[Pt.tx]
    omega
  have e:=Ji hB (rq:=rq) hL hd (by omega);exact⟨L5 hB hL (by omega),by simp; exact e⟩
 | .prt _ _,_,_,_,_,_,h,_=>by simp[Bd.whole] at h
 | .prb _ _ _ _,_,_,_,_,_,h,_=>by simp[Bd.whole] at h
theorem HF {f:Cf} (hB:nU f) {dq R rq:Int} (hd:dq≠0) {en:AV} {er x:Tx} {u:Int}:∀ {b:Bd},yB (f.at R (kR dq)) en er→Mt en b→Iv f b dq rq x u→b.whole=true→Cj b.told er
 | .non,he,hm,_,_=>by
  simp only[Mt] at hm;subst hm
  rcases he with he|⟨nm,k,h,_⟩
  ·exact .inl ⟨rfl,he.2⟩
  ·cases h
 | .len n t,he,hm,hi,hw=>by
  simp only[Mt] at hm;simp only[Bd.whole,decide_eq_true_eq] at hw;subst hm
  rcases he with ⟨h,_⟩|⟨nm,k,h,h1,h2,h3,_⟩
  ·cases h
  ·cases h
   have hk:k=t.length:=by omega
   subst hk;have h3:((t.length:Nat):Int)≤f.m:=h3 rfl;have:=hB.m;exact .inr (.inl ⟨t,rfl,h2,by omega⟩)
 | .rst n t,he,hm,_,_=>by
  simp only[Mt] at hm;subst hm
  rcases he with ⟨h,_⟩|⟨nm,k,h,h1,_⟩
  ·cases h
  ·cases h
   exact absurd h1 (mL hd)
 | .size _ _ _ _,_,_,_,h=>by simp[Bd.whole] at h
 | .piece _ _ _ _ _,_,_,_,h=>by simp[Bd.whole] at h
 | .trail ts left t s,he,hm,_,_=>by
  simp only[Mt] at hm;subst hm
  rcases he with ⟨h,_⟩|⟨nm,k,h,h1,h2,_,h4⟩
  ·cases h
  ·simp only[AV.tup.injEq,List.cons.injEq,AV.str.injEq,AV.int.injEq,and_true] at h
   obtain⟨rfl,hk⟩:=h;have hk:k=0:=h4 sN.1;subst hk;exact .inr (.inr ⟨gc,_,rfl,.inl rfl,h2,by simp⟩)
 | .row ps rt,he,hm,_,_=>by
  simp only[Mt] at hm;subst hm
  rcases he with ⟨h,_⟩|⟨nm,k,h,h1,h2,_,h4⟩
  ·cases h
  ·simp only[AV.tup.injEq,List.cons.injEq,AV.str.injEq,AV.int.injEq,and_true] at h
   obtain⟨rfl,hk⟩:=h;have hk:k=0:=h4 sN.2.1;subst hk;exact .inr (.inr ⟨iN,_,rfl,.inr rfl,h2,by simp⟩)
 | .prt _ _,_,_,_,h=>by simp[Bd.whole] at h
 | .prb _ _ _ _,_,_,_,h=>by simp[Bd.whole] at h
theorem BE {en:AV} {ps fp:List AV} {e:AV} {b:Bd} (h:en=.tup [.str iN,.int 0]):Mt en (nK ps fp e b):=by
 unfold nK
 split<;>exact h
theorem wt {f:Cf} {n:Int} {c:Nat} {ps:List AV} {rt:Tx} {dq rq:Int} {q:Int×Bd} (hr:rt∈xB) (h:bx f n c (.row ps rt) dq rq=some q) :
  (rt=[]∧c=45∧q=(n,.row ps [45]))∨(rt=[]∧c=43∧dq<f.b6∧0<n∧q=(n-1,.row ps [43]))∨(rt=[45]∧c=59∧q=(n,.row ps [45,59]))∨(rt=[45,59]∧c=10∧q=(n,.row ps [45,59,10]))∨(rt=[43]∧c=59∧q=(n,.row ps [43,59]))∨(rt=[43,59]∧c=10∧q=(n,.prt ps s0)):=by
 simp only[xB,q32,q71,or_false] at hr
 rcases hr with rfl|rfl|rfl|rfl|rfl|rfl
 ·simp only[bx] at h
  split at h
  ·rename_i hc
   cases h;exact .inl ⟨rfl,hc,rfl⟩
  ·split at h
   ·rename_i hc
    cases h;exact .inr (.inl ⟨rfl,hc.1,hc.2.1,hc.2.2,rfl⟩)
   ·cases h
 ·simp only[bx] at h
  split at h
  ·rename_i hc
   cases h;exact .inr (.inr (.inl ⟨rfl,hc,rfl⟩))
  ·cases h
 ·simp only[bx] at h
  split at h
  ·rename_i hc
   cases h;exact .inr (.inr (.inr (.inl ⟨rfl,hc,rfl⟩)))
  ·cases h
 ·simp[bx] at h
 ·simp only[bx] at h
  split at h
  ·rename_i hc
   cases h;exact .inr (.inr (.inr (.inr (.inl ⟨rfl,hc,rfl⟩))))
  ·cases h
 ·simp only[bx] at h
  split at h
  ·rename_i hc
   cases h;exact .inr (.inr (.inr (.inr (.inr ⟨rfl,hc,rfl⟩))))
  ·cases h
theorem yS {f:Cf} {n n':Int} {c:Nat} {en:AV} {x:Tx} {u:Int}:∀ {b b':Bd} {dq rq:Int},Iv f b dq rq x u→bx f n c b dq rq=some (n',b')→Mt en b→Mt en b'
 | .non,_,_,_,_,h,_=>by simp[bx] at h
 | .len m t,_,_,_,_,h,hm=>by
  simp only[bx] at h
  split at h<;>cases h
  exact hm
 | .rst m t,_,_,_,_,h,hm=>by
  simp only[bx] at h
  split at h<;>cases h
  exact hm
 | .size ts left t false,_,_,_,_,h,hm=>by
  simp only[bx] at h;split at h
  ·cases h; exact hm
  ·split at h<;>cases h
   exact hm
 | .size ts left t true,_,_,_,_,h,hm=>by
  simp only[bx] at h;split at h
  ·cases h
   split<;>exact hm
  ·cases h
 | .piece ts left k t false,_,_,_,_,h,hm=>by
  simp only[bx] at h;split at h
  ·cases h; exact hm
  ·split at h<;>cases h
   exact hm
 | .piece ts left k t true,_,_,_,_,h,hm=>by
  simp only[bx] at h
  split at h<;>cases h
  exact hm
 | .trail ts left t s,_,_,rq,_,h,hm=>by
  simp only[bx,q55] at h;obtain⟨s',_,h⟩:=h;cases h;exact hm
 | .row ps rt,_,_,_,w4_,h,hm=>by
  obtain⟨_,_,_,hr,_⟩:=w4_
  rcases wt hr h with ⟨_,_,h⟩|⟨_,_,_,_,h⟩|⟨_,_,h⟩|⟨_,_,h⟩|⟨_,_,h⟩|⟨_,_,h⟩<;>cases h<;>exact hm
 | .prt ps s,_,dq,_,_,h,hm=>by
  simp only[bx,q55] at h;obtain⟨s',_,h⟩:=h;cases h;split
  ·exact BE hm
  ·exact hm
 | .prb ps fp e b,_,dq,_,_,h,hm=>by
  simp only[bx,q55] at h;obtain⟨s',_,h⟩:=h;cases h;exact BE hm
theorem Bw {f:Cf} (hB:nU f) {dq rq:Int} {ps:List AV} {y er z:Tx} {u' u2:Int} {qs:List (Tx×Tx)} {en:AV} {b:Bd} (hp:Ii f dq ps y u') (h0:0≤dq) (hd:dq<f.b6) (hq:Fb f f.b3 qs) (he:yB (f.at f.b3 (kR (dq+1))) en er) (hm:Mt en b) (hi:Iv f b (dq+1) (f.b3-qs.length) z u2) (hl:z.length<8000) :
  Iv f (nK ps (qs.map fS) en b) dq rq (y++[43,59,10]++(gZ qs++er++[59,10])++z) (u'+1+u2):=by
 unfold nK
 cases hw:b.whole with
 | false=>
  rw[if_neg (by simp)];exact⟨y,u',qs,er,z,u2,hp,hd,rfl,hq,he,hm,hw,hi,rfl,rfl⟩
 | true=>
  rw[if_pos rfl];obtain⟨L,h1,h2,h3,h4,h5⟩:=hp;obtain⟨w,k⟩:=yM hB hi hw hl
  have hdp:za f (dq+1)+1=za f dq:=by unfold za; omega
  rw[hdp] at w k;refine⟨_,u'+1+u2,⟨L++[⟨qs,b.told,er,z,u2⟩],?_,?_,rfl,?_,fun _=>by omega⟩,by simp[xB],?_,by simp,by simp⟩
  ·rw[h1,List.map_append]; rfl
  ·intro p hp
   rw[q58] at hp
   rcases hp with hp|hp
   ·exact h2 p hp
   ·rw[q54] at hp
    subst hp;exact⟨hq,HF hB (by omega) he hm hi hw,w,k,LM hi⟩
  ·rw[nJ,h4]; simp only; omega
  ·rw[qi,h3]; simp[Pt.tx]
theorem uM {f:Cf} (hB:nU f) {n n':Int} {c:Nat} (hc:c<127):∀ {b b':Bd} {dq rq:Int} {x:Tx} {u:Int},Iv f b dq rq x u→0≤dq→x.length<7000→bx f n c b dq rq=some (n',b')→∃ u',Iv f b' dq rq (x++[c]) u'∧n'+u'=n+u∧(0≤n→0≤n')
 | .non,_,_,_,_,_,_,_,_,h=>by simp[bx] at h
 | .len m t,_,_,_,_,_,w6_,_,_,h=>by
  obtain⟨h1,h2,h3,h4⟩:=w6_;simp only[bx] at h;split at h
  ·rename_i hk
   cases h;subst h1 h2;simp only[MK.tk,q08,decide_eq_true_eq] at hk;exact⟨0,⟨rfl,rfl,by simp; omega,h4⟩,rfl,id⟩
  ·cases h
 | .rst m t,_,_,_,_,_,w6_,_,_,h=>by
  obtain⟨h1,h2,h3,h4,h5⟩:=w6_;simp only[bx] at h;split at h
  ·rename_i hk
   cases h;subst h1 h2;simp only[MK.tk,q08,decide_eq_true_eq] at hk;exact⟨0,⟨rfl,rfl,by simp; omega,h4,h5⟩,rfl,id⟩
  ·cases h
 | .size ts left t false,_,_,_,_,_,w6_,_,_,h=>by
  obtain⟨h1,h2,h2',h3,h4,h5,h6⟩:=w6_;simp only[bx] at h
  have hl40:left≤40:=by have:=h3.2.1; have:=hB.m; omega
  subst h1 h6;split at h
  ·rename_i hk
   cases h;exact⟨0,⟨rfl,h2,h2',h3,wU (B:=16) (.inr rfl) hl40 hc h4 hk,by simp,by simp⟩,rfl,id⟩
  ·split at h
   ·rename_i hk
    cases h;exact⟨0,⟨rfl,h2,h2',h3,h4,fun _=>hk.2,by simp[hk.1]⟩,rfl,id⟩
   ·cases h
 | .size ts left t true,_,_,_,_,_,w6_,_,_,h=>by
  obtain⟨h1,h2,h2',h3,h4,h5,h6⟩:=w6_;simp only[bx] at h;have h5:=h5 rfl;subst h1 h6;split at h
  ·rename_i hk
   cases h;subst hk
   rcases h4 with h4|⟨j,hj,ht,hv⟩
   ·exact absurd h4 h5
   have hv:fW 16 t=j:=hv
   by_cases hp:0<fW 16 t
   ·rw[if_pos hp]
    refine⟨0,⟨rfl,h2,h2',h3,by simp; omega,hp,by omega,by simp,?_⟩,rfl,id⟩;rw[hv,q82,← ht];simp
   ·rw[if_neg hp]
    have hj0:j=0:=by omega
    subst hj0
    have ht:t=[48]:=by rw[ht]; decide
    subst ht;exact⟨0,⟨rfl,h2,h2',h3,rfl,[],xS h2,by simp⟩,rfl,id⟩
  ·cases h
 | .piece ts left k t false,_,_,_,_,_,w6_,_,_,h=>by
  obtain⟨h1,h2,h2',h3,h4,h5,h6,h7,h8⟩:=w6_;simp only[bx] at h;subst h1 h8;split at h
  ·rename_i hk
   cases h;simp only[MK.tk,q08,decide_eq_true_eq] at hk;exact⟨0,⟨rfl,h2,h2',h3,by simp; omega,h5,h6,by simp,by simp⟩,rfl,id⟩
  ·split at h
   ·rename_i hk
    cases h;exact⟨0,⟨rfl,h2,h2',h3,h4,h5,h6,fun _=>hk.2,by simp[hk.1]⟩,rfl,id⟩
   ·cases h
 | .piece ts left k t true,_,_,_,_,_,w6_,_,_,h=>by
  obtain⟨h1,h2,h2',h3,h4,h5,h6,h7,h8⟩:=w6_;simp only[bx] at h;have h7:=h7 rfl;subst h1 h8;split at h
  ·rename_i hk
   cases h;subst hk;obtain⟨p1,p2,p3⟩:=h3;refine⟨0,⟨rfl,h2,h2',⟨?_,?_,by omega⟩,.inl rfl,by simp,?_⟩,rfl,id⟩
   ·intro hm
    rw[q58] at hm
    rcases hm with hm|hm
    ·exact p1 hm
    ·rw[q54] at hm
     rw[← hm] at h7;simp at h7;omega
   ·rw[List.flatten_append,q02]
    simp only[qb6,List.flatten_nil,q31];omega
   ·rw[Bq,lZ,show k.toNat=t.length by omega]
    simp
  ·cases h
 | .trail ts left t s,_,_,rq,_,_,w6_,_,_,h=>by
  obtain⟨h1,h2,h2',h3,h4,z,hz,hx⟩:=w6_;simp only[bx,q55] at h;obtain⟨s',hs,h⟩:=h;cases h;subst h1 hx;exact⟨0,⟨rfl,h2,h2',h3,h4,z++[c],rY (D8 hB rq) hc hz hs,by simp⟩,rfl,id⟩
 | .row ps rt,_,dq,_,_,_,w6_,_,_,h=>by
  obtain⟨y,u',hp,hr,hx,hu,hd⟩:=w6_;subst hx hu
  rcases wt hr h with ⟨rfl,rfl,h⟩|⟨rfl,rfl,hd',hn,h⟩|⟨rfl,rfl,h⟩|⟨rfl,rfl,h⟩|⟨rfl,rfl,h⟩|⟨rfl,rfl,h⟩<;>cases h
  ·exact⟨u',⟨y,u',hp,by simp[xB],by simp,by simp,by simp⟩,by simp,id⟩
  ·exact⟨u'+1,⟨y,u',hp,by simp[xB],by simp,by simp,fun _=>hd'⟩,by simp; omega,fun _=>by omega⟩
  ·exact⟨u',⟨y,u',hp,by simp[xB],by simp,by simp,by simp⟩,by simp,id⟩
  ·exact⟨u',⟨y,u',hp,by simp[xB],by simp,by simp,by simp⟩,by simp,id⟩
  ·exact⟨u'+1,⟨y,u',hp,by simp[xB],by simp,by simp,hd⟩,by simp,id⟩
  ·exact⟨u'+1,⟨y,u',[],hp,hd rfl,rfl,xS hB.b30,rfl,by simp⟩,by simp,id⟩
 | .prt ps s,_,dq,_,_,_,w6_,h0,_,h=>by
  obtain⟨y,u',z,hp,hd,hu,hz,he,hx⟩:=w6_;simp only[bx,q55] at h;obtain⟨s',hs,h⟩:=h;cases h;subst hu hx;have hz':=rY (yg hB _) hc hz hs
  cases hw:qC s'.ph with
  | false=>
   rw[if_neg (by simp)];exact⟨u'+1,⟨y,u',z++[c],hp,hd,rfl,hz',hw,by simp⟩,rfl,id⟩
  | true=>
   rw[if_pos rfl];obtain⟨ps',en',ph'⟩:=s';obtain⟨qs,ey,q1,q2,q3,q4⟩:=hz';simp only at q1 q3 q4 hw⊢;subst q1
   cases ph' with
   | e2=>
    simp only[u4] at q4;have hq2:(qs.length:Int)≤f.b3:=q2.2;have hb3:=hB.b3;obtain⟨m1,m2,_⟩:=vR (dq:=dq+1) (lx (dq+1)).1 (fun hr=>Decidable.byContradiction fun hne=>mL hne hr) q3 hB (f.b3-qs.length) (by omega) (by omega);refine⟨u'+1+0,?_,by omega,id⟩
    have e:y++[43,59,10]++z++[c]=y++[43,59,10]++(gZ qs++ey++[59,10])++[]:=by
     rw[← q4]; simp
    rw[e];exact Bw hB hp h0 hd q2 q3 m1 m2 (by simp)
   | _=>simp[qC] at hw
 | .prb ps fp e b,_,dq,_,_,_,w6_,h0,hl,h=>by
  obtain⟨y,u',qs,er,z,u2,hp,hd,hf,hq,he,hm,hw,hi,hu,hx⟩:=w6_;simp only[bx,q55] at h;obtain⟨⟨n2,b2⟩,hs,h⟩:=h;cases h;subst hf hu hx;rw[q21] at hs;simp only[q02] at hl;obtain⟨u3,i3,e3,g3⟩:=uM hB hc hi (by omega) (by omega) hs;refine⟨u'+1+u3,?_,by simp only; omega,g3⟩
  have e:y++[43,59,10]++(gZ qs++er++[59,10])++z++[c]=y++[43,59,10]++(gZ qs++er++[59,10])++(z++[c]):=by simp
  rw[e];exact Bw hB hp h0 hd hq he (yS hi hs hm) i3 (by simp; omega)
theorem BH {f:Cf}:∀ {b:Bd} {dq rq:Int},b.whole=true→im f b dq rq=[]
 | .non,_,_,_=>rfl
 | .len n t,_,_,h=>by
  simp only[Bd.whole,decide_eq_true_eq] at h;simp[im,h]
 | .rst _ _,_,_,_=>rfl
 | .size _ _ _ _,_,_,h=>by simp[Bd.whole] at h
 | .piece _ _ _ _ _,_,_,h=>by simp[Bd.whole] at h
 | .trail _ _ _ ⟨ps,en,ph⟩,_,_,h=>by
  simp only[Bd.whole] at h
  cases ph with
  | e2=>rfl
  | _=>simp[qC] at h
 | .row _ rt,_,_,h=>by
  simp only[Bd.whole,beq_iff_eq] at h;subst h
  rfl
 | .prt _ _,_,_,h=>by simp[Bd.whole] at h
 | .prb _ _ _ _,_,_,h=>by simp[Bd.whole] at h
theorem wR {f:Cf}:∀ {b:Bd} {dq rq:Int} {x:Tx} {u:Int},Iv f b dq rq x u→im f b dq rq=[]→b.whole=true
 | .non,_,_,_,_,_,_=>rfl
 | .len n t,_,_,_,_,w5_,h=>by
  obtain⟨_,_,h3,_⟩:=w5_;simp only[im,qb3] at h;simp only[Bd.whole,decide_eq_true_eq];omega
 | .rst _ _,_,_,_,_,_,_=>rfl
 | .size _ _ _ _,_,_,_,_,_,h=>by
  simp only[im] at h
  split at h<;>simp at h
 | .piece _ _ _ _ _,_,_,_,_,_,h=>by
  simp[im,pL] at h
 | .trail _ _ _ s,_,_,_,_,_,h=>yG (f:=_) h
 | .row _ rt,_,_,_,_,w5_,h=>by
  obtain⟨_,_,_,hr,_⟩:=w5_;simp only[xB,q32,q71,or_false] at hr
  rcases hr with rfl|rfl|rfl|rfl|rfl|rfl
  ·simp[im] at h
  ·simp[im] at h
  ·simp[im] at h
  ·rfl
  ·simp[im] at h
  ·simp[im] at h
 | .prt _ _,_,_,_,_,_,h=>by simp[im] at h
 | .prb _ _ _ _,_,_,_,_,_,h=>by simp[im] at h
theorem Bf {f:Cf} {ps fp:List AV} {en:AV} {b:Bd} {dq rq:Int}:im f (nK ps fp en b) dq rq=im f b (dq+1) (f.b3-fp.length)++[45,59,10]:=by
 unfold nK
 cases hw:b.whole with
 | false=>rw[if_neg (by simp)]; rfl
 | true=>rw[if_pos rfl,BH hw]; simp[im]
theorem pX {f:Cf} (hB:nU f) {n:Int} {c:Nat}:∀ {b:Bd} {dq rq:Int} {x:Tx} {u:Int} {y:Tx},Iv f b dq rq x u→0≤dq→im f b dq rq=c::y→∃ b',bx f n c b dq rq=some (n,b')∧im f b' dq rq=y∧c<127
 | .non,_,_,_,_,_,_,_,h=>by simp[im] at h
 | .len m t,_,_,_,_,_,w6_,_,h=>by
  obtain⟨h1,h2,h3,h4⟩:=w6_;obtain⟨s1,s2,s3⟩:=np (k:=.sg m) (t:=t) trivial h3 h;exact⟨.len m (t++[c]),by simp[bx,s1],s2,s3⟩
 | .rst m t,_,_,_,_,_,_,_,h=>by simp[im] at h
 | .size ts left t false,_,_,_,_,_,w6_,_,h=>by
  obtain⟨h1,h2,h2',h3,h4,h5,h6⟩:=w6_
  have hl40:left≤40:=by have:=h3.2.1; have:=hB.m; omega
  have hl0:0≤left:=h3.2.2
  by_cases h0:t=[]
  ·subst h0
   have hv0:¬ 0<fW 16 []:=by simp[fW]
   simp only[im] at h;rw[if_neg hv0] at h;simp[MK.aw] at h;obtain⟨rfl,rfl⟩:=h;obtain⟨s1,s2,s3⟩:=np (k:=.num 16 left) (t:=[]) (c:=48) (y:=[]) ⟨.inr rfl,hl0,hl40⟩ h4 (by simp[MK.aw]);refine⟨.size ts left ([]++[48]) false,by simp[bx,s1],?_,s3⟩;simp only[im,s2]
   have:fW 16 ([]++[48])=0:=by simp[fW,DZ 48 (by decide)]
   rw[this];simp
  ·have ha:(MK.num 16 left).aw t=[]:=by simp[MK.aw,h0]
   have h59:MK.tk (.num 16 left) t 59=false:=by
    have:=Cp 59 (by decide);simp[MK.tk,this]
   have hc:c=59:=by
    simp only[im,ha] at h
    split at h<;>simp at h<;>exact h.1.symm
   subst hc;refine⟨.size ts left t true,by simp[bx,h59,h0],?_,by decide⟩;simp only[im,ha] at h⊢;split at h
   ·rename_i hp
    rw[if_pos hp]
    simpa using h
   ·rename_i hp
    rw[if_neg hp]
    simpa using h
 | .size ts left t true,_,_,_,_,_,w6_,_,h=>by
  obtain⟨h1,h2,h2',h3,h4,h5,h6⟩:=w6_;have h5:=h5 rfl
  have ha:(MK.num 16 left).aw t=[]:=by simp[MK.aw,h5]
  have hc:c=10:=by
   simp only[im,ha] at h
   split at h<;>simp at h<;>exact h.1.symm
  subst hc
  by_cases hp:0<fW 16 t
  ·refine⟨.piece ts left (fW 16 t) [] false,by simp[bx,hp],?_,by decide⟩
   simp only[im,ha,if_pos hp] at h⊢
   simpa [MK.aw] using h
  ·refine⟨.trail ts left t s0,by simp[bx,hp],?_,by decide⟩
   simp only[im,ha,if_neg hp] at h⊢
   simpa [s0,mr] using h
 | .piece ts left k t false,_,_,_,_,_,w6_,_,h=>by
  obtain⟨h1,h2,h2',h3,h4,h5,h6,h7,h8⟩:=w6_
  cases ha:(MK.sg k).aw t with
  | nil=>
   have hg:=AN (k:=.sg k) trivial h4 (fun _ _ _ h=>by cases h) ha;simp only[MK.gd,decide_eq_true_eq] at hg;simp only[im,ha] at h;simp at h;obtain⟨rfl,rfl⟩:=h
   have hk:MK.tk (.sg k) t 59=false:=by simp[MK.tk,hg]
   refine⟨.piece ts left k t true,by simp[bx,hk,hg],?_,by decide⟩;simp[im,ha]
  | cons a z=>
   obtain⟨s1,s2,s3⟩:=np (k:=.sg k) (t:=t) trivial h4 ha;simp only[im,ha] at h;simp at h;obtain⟨rfl,rfl⟩:=h;refine⟨.piece ts left k (t++[a]) false,by simp[bx,s1],?_,s3⟩;simp[im,s2]
 | .piece ts left k t true,_,_,_,_,_,w6_,_,h=>by
  obtain⟨h1,h2,h2',h3,h4,h5,h6,h7,h8⟩:=w6_;have h7:=h7 rfl;have ha:(MK.sg k).aw t=[]:=wv (by simp[MK.gd,h7]);simp only[im,ha] at h;simp at h;obtain⟨rfl,rfl⟩:=h;refine⟨.size (ts++[t]) (left-t.length) [] false,by simp[bx],?_,by decide⟩;simp[im,fW,MK.aw,pL]
 | .trail ts left t s,_,rq,_,_,_,w6_,_,h=>by
  obtain⟨h1,h2,h2',h3,h4,z,hz,hx⟩:=w6_;obtain⟨s',e1,e2,_,e3⟩:=wy (D8 hB rq) hz h;exact⟨.trail ts left t s',by simp[bx,e1],e2,e3⟩
 | .row ps rt,_,_,_,_,_,w6_,_,h=>by
  obtain⟨_,_,_,hr,_⟩:=w6_;simp only[xB,q32,q71,or_false] at hr
  rcases hr with rfl|rfl|rfl|rfl|rfl|rfl
  ·simp[im] at h
   obtain⟨rfl,rfl⟩:=h;exact⟨.row ps [45],by simp[bx],by simp[im],by decide⟩
  ·simp[im] at h
   obtain⟨rfl,rfl⟩:=h;exact⟨.row ps [45,59],by simp[bx],by simp[im],by decide⟩
  ·simp[im] at h
   obtain⟨rfl,rfl⟩:=h;exact⟨.row ps [45,59,10],by simp[bx],by simp[im],by decide⟩
  ·simp[im] at h
  ·simp[im] at h
   obtain⟨rfl,rfl⟩:=h;exact⟨.row ps [43,59],by simp[bx],by simp[im],by decide⟩
  ·simp[im] at h
   obtain⟨rfl,rfl⟩:=h;exact⟨.prt ps s0,by simp[bx],by simp[im,s0,mr,mq,Ap],by decide⟩
 | .prt ps s,dq,_,_,_,_,w6_,h0,h=>by
  obtain⟨y',u',z,hp,hd,hu,hz,he,hx⟩:=w6_
  cases ha:mr (f.at f.b3 (kR (dq+1))) s.ps s.ph with
  | nil=>
   have:=yG ha;rw[this] at he;cases he
  | cons a w=>
   simp only[im,ha] at h;simp at h;obtain⟨rfl,rfl⟩:=h;obtain⟨s',e1,e2,e3,e4⟩:=wy (yg hB _) hz ha;refine⟨_,by simp only[bx,e1,q48]; rfl,?_,e4⟩
   cases hw:qC s'.ph with
   | false=>
    rw[if_neg (by simp)];simp[im,e2,e3]
   | true=>
    rw[if_pos rfl,Bf];have hz':=rY (yg hB _) e4 hz e1;obtain⟨ps',en',ph'⟩:=s';obtain⟨qs,ey,q1,q2,q3,q4⟩:=hz';simp only at q1 q3 q4 hw e2⊢;subst q1
    cases ph' with
    | e2=>
     have hq2:(qs.length:Int)≤f.b3:=q2.2;have hb3:=hB.b3;obtain⟨_,_,m3⟩:=vR (dq:=dq+1) (lx (dq+1)).1 (fun hr=>Decidable.byContradiction fun hne=>mL hne hr) q3 hB (f.b3-(qs.map fS).length) (by simp; omega) (by simp; omega);rw[m3,← e3];simp only[mr] at e2;subst e2;simp[mq]
    | _=>simp[qC] at hw
 | .prb ps fp en b,dq,_,_,_,_,w6_,h0,h=>by
  obtain⟨y',u',qs,er,z,u2,hp,hd,hf,hq,he,hm,hw,hi,hu,hx⟩:=w6_;subst hf
  cases ha:im f b (dq+1) (f.b3-(qs.map fS).length) with
  | nil=>
   rw[q21] at ha;have:=wR hi ha;rw[this] at hw;cases hw
  | cons a w=>
   simp only[im,ha] at h;simp at h;obtain⟨rfl,rfl⟩:=h;rw[← q21 (f:=fS)] at hi;obtain⟨b',e1,e2,e3⟩:=pX hB (n:=n) hi (by omega) ha;refine⟨nK ps (qs.map fS) en b',by simp only[bx,e1,q48],?_,e3⟩;rw[Bf,e2]
def Ch (A:List Nat) (μ ν:Mu):Prop:=∀ l,l<μ.length→l∉A→ν[l]?=μ[l]?
theorem Ch.set {μ:Mu} (a:Nat) (o:AO):Ch [a] μ (μ.set a o):=fun l _ h=>q12 (by simp at h; omega)
theorem Ch.app (μ u:Mu):Ch [] μ (μ++u):=fun l hl _=>q16 hl
theorem Ch.trans {A B:List Nat} {μ ν ξ:Mu} (h:Ch A μ ν) (h':Ch B ν ξ) (hl:μ.length≤ν.length):Ch (A++B) μ ξ:=fun l hl' hn=>by
 rw[q58,not_or] at hn;rw[h' l (by omega) hn.2,h l hl' hn.1]
theorem Ch.ins {A:List Nat} {μ ν:Mu} (h:Ch A μ ν) {i:Nat} {q:Nat×List (Nat×AV)} (hi:af μ i=some q) (hn:i∉A):af ν i=some q:=by
 have e:ν[i]?=μ[i]?:=h i (fY (C:=q.1) (fs:=q.2) hi) hn;unfold af at hi⊢;rw[e];exact hi
theorem Ch.lst {A:List Nat} {μ ν:Mu} (h:Ch A μ ν) {i:Nat} {q:List AV} (hi:μ[i]?=some (.lst q)) (hn:i∉A):ν[i]?=some (.lst q):=by
 rw[h i (q07.mp hi).1 hn];exact hi
theorem eY {μ:Mu} {l i:Nat} {y:List AV} {q:Nat×List (Nat×AV)} (h:μ[l]?=some (.lst y)) (h':af μ i=some q):l≠i:=by
 rintro rfl;have:=(iQ (C:=q.1) (fs:=q.2) h').symm.trans h;simp at this
def Ot (μ:Mu) (N:Nat) (D:List Nat) (A:List Nat):Prop:=∀ a∈A,N≤a∧∃ q,af μ a=some q∧q.1∉D
theorem Ot.ins {μ:Mu} {N:Nat} {D A:List Nat} (h:Ot μ N D A) {i:Nat} {q:Nat×List (Nat×AV)} (hi:af μ i=some q) (hq:q.1∈D):i∉A:=fun hm=>by
 obtain⟨_,q',h1,h2⟩:=h i hm;rw[hi] at h1;cases h1;exact h2 hq
theorem Ot.lst {μ:Mu} {N:Nat} {D A:List Nat} (h:Ot μ N D A) {i:Nat} {q:List AV} (hi:μ[i]?=some (.lst q)):i∉A:=fun hm=>by
 obtain⟨_,q',h1,_⟩:=h i hm;exact eY hi h1 rfl
theorem Ot.lt {μ:Mu} {N:Nat} {D A:List Nat} (h:Ot μ N D A) {i:Nat} (hi:i<N):i∉A:=fun hm=>by
 have:=(h i hm).1;omega
theorem Ot.one {μ:Mu} {N:Nat} {D:List Nat} {a:Nat} {q:Nat×List (Nat×AV)} (hN:N≤a) (h:af μ a=some q) (hq:q.1∉D):Ot μ N D [a]:=fun b hb=>by
 rw[q54] at hb;subst hb;exact⟨hN,q,h,hq⟩
theorem Ot.two {μ:Mu} {N:Nat} {D:List Nat} {a b:Nat} {q r:Nat×List (Nat×AV)} (hN:N≤a) (hN':N≤b) (h:af μ a=some q) (h':af μ b=some r) (hq:q.1∉D) (hr:r.1∉D):Ot μ N D [a,b]:=fun c hc=>by
 rw[q32,q54] at hc
 rcases hc with rfl|rfl
 ·exact⟨hN,q,h,hq⟩
 ·exact⟨hN',r,h',hr⟩
structure xh (f:Cf) (μ:Mu) (N p:Nat) (left:Int) (lt cz:Nat) (pc:AV) (tr lr:Nat) (rq:Int) (ts:List Tx):Prop where
 b:tJ μ p left lt cz pc tr
 l:μ[lt]?=some (.lst (ts.map .str))
 t:jr μ tr f.bok rq [] lr .non .non .non
 r:μ[lr]?=some (.lst [])
 n:lt≠lr
 N:N≤p∧N≤lt∧N≤tr∧N≤lr
theorem xh.keep {f:Cf} {μ ν:Mu} {N p:Nat} {left:Int} {lt cz:Nat} {pc:AV} {tr lr:Nat} {rq:Int} {ts:List Tx} {A:List Nat} (h:xh f μ N p left lt cz pc tr lr rq ts) (hc:Ch A μ ν) (hA:Ot μ N [15,10] A):xh f ν N p left lt cz pc tr lr rq ts:=
 ⟨hc.ins h.b (hA.ins h.b (by simp)),hc.lst h.l (hA.lst h.l),hc.ins h.t (hA.ins h.t (by simp)),hc.lst h.r (hA.lst h.r),h.n,h.N⟩
def Ef (cl:Bool):Tx:=if cl then [59] else []
def lN (rt:Tx):Tx:=if rt.head?=some 43 then [43,59,10] else [45,59,10]
def kt (f:Cf) (tl:Nat) (μ:Mu):Bd→Nat→Nat→Int→Int→Prop
 | .non,N,p,_,_=>N≤p∧af μ p=some (12,[])
 | .len m t,N,p,_,_=>∃ a,(N≤p∧N≤a)∧EQ μ p 13 a∧iu μ a (.sg m) t
 | .rst m t,N,p,_,_=>∃ a,(N≤p∧N≤a)∧EQ μ p 14 a∧iu μ a (.sg m) t
 | .size ts left t cl,N,p,_,rq=>∃ lt cz tr lr mk x,(N≤cz∧N≤mk∧N≤x)∧xh f μ N p left lt cz .non tr lr rq ts∧mP μ cz mk x (.num 16 left) t cl (Ef cl)
 | .piece ts left n t cl,N,p,_,rq=>∃ lt cz tr lr pz mk x,(N≤pz∧N≤mk∧N≤x)∧xh f μ N p left lt cz (.loc pz) tr lr rq ts∧mP μ pz mk x (.sg n) t cl (Ef cl)
 | .trail ts left t s,N,p,_,rq=>∃ lt cz tr lr mk x M left',(N≤p∧N≤lt∧N≤tr∧N≤lr)∧(p<M∧lt<M∧cz<M∧mk<M∧x<M∧M≤μ.length)∧tJ μ p left lt cz .non tr∧μ[lt]?=some (.lst (ts.map .str))∧lt≠lr∧mP μ cz mk x (.num 16 left') t true [59,10]∧zV M (f.at rq []) μ tr lr s
 | .row ps [],N,p,dq,_=>∃ lp,(N≤p∧N≤lp)∧oh μ p f.bok dq tl lp .non .non∧μ[lp]?=some (.lst ps)
 | .row ps (r::rt),N,p,dq,_=>∃ lp rx,(N≤p∧N≤lp∧N≤rx)∧oh μ p f.bok dq tl lp (.loc rx) .non∧μ[lp]?=some (.lst ps)∧iu μ rx (.ex (lN (r::rt))) (r::rt)
 | .prt ps s,N,p,dq,_=>∃ lp rx fm fl fp M,(N≤p∧N≤lp∧N≤rx∧N≤fm∧N≤fl∧N≤fp)∧(p<M∧lp<M∧rx<M∧fm<M∧M≤μ.length)∧oh μ p f.bok dq tl lp (.loc rx) (.loc fm)∧μ[lp]?=some (.lst ps)∧lp≠fp∧iu μ rx (.ex [43,59,10]) [43,59,10]∧ur μ fm f.bok (dq+1) tl fl .non∧zV M (f.at f.b3 (kR (dq+1))) μ fl fp s
 | .prb ps fp en b,N,p,dq,_=>∃ lp rx fm fl lf row er b' M,(N≤p∧N≤lp∧N≤rx∧N≤fm∧N≤fl∧N≤lf)∧(p<M∧lp<M∧rx<M∧fm<M∧fl<M∧lf<M)∧oh μ p f.bok dq tl lp (.loc rx) (.loc fm)∧μ[lp]?=some (.lst ps)∧lp≠lf∧iu μ rx (.ex [43,59,10]) [43,59,10]∧ur μ fm f.bok (dq+1) tl fl (.loc b')∧jr μ fl f.bok f.b3 (kR (dq+1)) lf en row er∧μ[lf]?=some (.lst fp)∧kt f tl μ b M b' (dq+1) (f.b3-fp.length)
def Bd.cls:Bd→Nat
 | .non=>12
 | .len _ _=>13
 | .rst _ _=>14
 | .size _ _ _ _=>15
 | .piece _ _ _ _ _=>15
 | .trail _ _ _ _=>15
 | .row _ _=>16
 | .prt _ _=>16
 | .prb _ _ _ _=>16
theorem j4 {f:Cf} {tl:Nat} {μ:Mu}:∀ {b:Bd} {N p:Nat} {dq rq:Int},kt f tl μ b N p dq rq→N≤p∧∃ fs,af μ p=some (b.cls,fs)
 | .non,_,_,_,_,w5_=>by
  obtain⟨h,h'⟩:=w5_;exact⟨h,_,h'⟩
 | .len _ _,_,_,_,_,w5_=>by
  obtain⟨_,h,h',_⟩:=w5_;exact⟨h.1,_,h'⟩
 | .rst _ _,_,_,_,_,w5_=>by
  obtain⟨_,h,h',_⟩:=w5_;exact⟨h.1,_,h'⟩
 | .size _ _ _ _,_,_,_,_,w5_=>by
  obtain⟨_,_,_,_,_,_,_,h,_⟩:=w5_;exact⟨h.N.1,_,h.b⟩
 | .piece _ _ _ _ _,_,_,_,_,w5_=>by
  obtain⟨_,_,_,_,_,_,_,_,h,_⟩:=w5_;exact⟨h.N.1,_,h.b⟩
 | .trail _ _ _ _,_,_,_,_,w5_=>by
  obtain⟨_,_,_,_,_,_,_,_,h,_,h',_⟩:=w5_;exact⟨h.1,_,h'⟩
 | .row _ [],_,_,_,_,w5_=>by
  obtain⟨_,h,h',_⟩:=w5_;exact⟨h.1,_,h'⟩
 | .row _ (_::_),_,_,_,_,w5_=>by
  obtain⟨_,_,h,h',_⟩:=w5_;exact⟨h.1,_,h'⟩
 | .prt _ _,_,_,_,_,w5_=>by
  obtain⟨_,_,_,_,_,_,h,_,h',_⟩:=w5_;exact⟨h.1,_,h'⟩
 | .prb _ _ _ _,_,_,_,_,w5_=>by
  obtain⟨_,_,_,_,_,_,_,_,_,h,_,h',_⟩:=w5_;exact⟨h.1,_,h'⟩
def sE (k:Nat) (b:Bd):List AV→Mu→Rs AV:=match b.cls with
 | 12=>bT
 | 13=>aS
 | 14=>aZ
 | 15=>au
 | _=>aH k
theorem tu (k:Nat) (b:Bd):q28 b.cls [(12,bT),(13,aS),(14,aZ),(15,au),(16,(aH k))]=some (sE k b):=by
 cases b<;>rfl
def As (μ ν:Mu):Prop:=∀ (q:Nat) (c:Int) (cs:List AV),μ[q]?=some (.lst (.int c::cs))→ν[q]?=some (.lst (.int c::cs))
theorem Ch.int {A:List Nat} {μ ν:Mu} (h:Ch A μ ν) (hA:∀ (q:Nat) (c:Int) (cs:List AV),μ[q]?=some (.lst (.int c::cs))→q∉A):As μ ν:=fun q c cs hq=>h.lst hq (hA q c cs hq)
theorem uY {μ:Mu} {l q:Nat} {y cs:List AV} {c:Int} (h:μ[l]?=some (.lst y)) (hy:∀ c cs,y≠.int c::cs) (hq:μ[q]?=some (.lst (.int c::cs))):q≠l:=by
 rintro rfl;rw[h] at hq;cases hq;exact hy _ _ rfl
theorem F3 (ts:List Tx):∀ c cs,ts.map AV.str≠.int c::cs:=by
 intro c cs h
 cases ts<;>simp at h
def ke (f:Cf) (tl N p:Nat) (dq rq:Int) (k c:Nat) (μ:Mu) (b:Bd):Option (Int×Bd)→Prop
 | some (n',b')=>∃ ν,sE (k+1) b [.loc p,.str [c]] μ=.ok (.bl true) ν∧kt f tl ν b' N p dq rq∧sn ν tl n'∧(∀ l,l<N→l≠tl→ν[l]?=μ[l]?)∧μ.length≤ν.length∧As μ ν
 | none=>sE (k+1) b [.loc p,.str [c]] μ=.ok (.bl false) μ
theorem ke.mk {f:Cf} {tl N p:Nat} {dq rq n:Int} {k c:Nat} {μ ν:Mu} {b b':Bd} {A D:List Nat} (hF:sE (k+1) b [.loc p,.str [c]] μ=.ok (.bl true) ν) (hS:kt f tl ν b' N p dq rq) (ht:sn μ tl n) (hN:N≤μ.length) (htl:tl<N) (hc:Ch A μ ν) (hA:Ot μ N D A) (hl:μ.length≤ν.length):ke f tl N p dq rq k c μ b (some (n,b')):=
 ⟨ν,hF,hS,hc.ins ht (hA.lt htl),fun l hl _=>hc l (by omega) (hA.lt hl),hl,hc.int fun q c cs hq=>hA.lst hq⟩
theorem HD {f:Cf} {tl N p:Nat} {dq rq n:Int} {k c:Nat} {μ:Mu}:ke f tl N p dq rq k c μ .non (bx f n c .non dq rq):=by
 show bT [.loc p,.str [c]] μ=.ok (.bl false) μ;unfold bT;simp
theorem GI {f:Cf} {tl N p:Nat} {dq rq n:Int} {k c:Nat} {μ:Mu} {m:Int} {t:Tx} (ht:sn μ tl n) (hN:N≤μ.length) (htl:tl<N) (hl:t.length<1000) (h:kt f tl μ (.len m t) N p dq rq):ke f tl N p dq rq k c μ (.len m t) (bx f n c (.len m t) dq rq):=by
 obtain⟨a,h1,h2,h3⟩:=h;have e:=B8 (c:=c) h2 h3 (by omega);simp only[bx]
 by_cases hk:MK.tk (.sg m) t c=true
 ·rw[if_pos hk] at e⊢
  refine ke.mk (D:=[]) e ⟨a,h1,?_,h3.set_self⟩ ht hN htl (Ch.set a _) (Ot.one h1.2 h3 (by simp)) (by simp);exact(Ch.set a _).ins h2 (by simp; exact cJ h2 h3 (by show(13:Nat)≠7; decide))
 ·rw[if_neg hk] at e⊢
  exact e
theorem HA {f:Cf} {tl N p:Nat} {dq rq n:Int} {k c:Nat} {μ:Mu} {m:Int} {t:Tx} (ht:sn μ tl n) (hN:N≤μ.length) (htl:tl<N) (hl:t.length<1000) (h:kt f tl μ (.rst m t) N p dq rq):ke f tl N p dq rq k c μ (.rst m t) (bx f n c (.rst m t) dq rq):=by
 obtain⟨a,h1,h2,h3⟩:=h;have e:=BK (c:=c) h2 h3 (by omega);simp only[bx]
 by_cases hk:MK.tk (.sg m) t c=true
 ·rw[if_pos hk] at e⊢
  refine ke.mk (D:=[]) e ⟨a,h1,?_,h3.set_self⟩ ht hN htl (Ch.set a _) (Ot.one h1.2 h3 (by simp)) (by simp);exact(Ch.set a _).ins h2 (by simp; exact cJ h2 h3 (by show(14:Nat)≠7; decide))
 ·rw[if_neg hk] at e⊢
  exact e
theorem so {μ:Mu} (x cz mk:Nat) (ct:Tx):Ch [x,cz] μ (rk μ x cz mk ct):=by
 unfold rk;exact(Ch.set x _).trans (Ch.set cz _) (by simp)
theorem mn {μ:Mu} (x cz mk:Nat) (ct:Tx):(rk μ x cz mk ct).length=μ.length:=by simp[rk]
theorem Ct {f:Cf} {tl N p:Nat} {dq rq n:Int} {k c:Nat} {μ:Mu} {ts:List Tx} {left:Int} {t:Tx} (ht:sn μ tl n) (hN:N≤μ.length) (htl:tl<N) (hl:t.length<1000) (h:kt f tl μ (.size ts left t false) N p dq rq):ke f tl N p dq rq k c μ (.size ts left t false) (bx f n c (.size ts left t false) dq rq):=by
 obtain⟨lt,cz,tr,lr,mk,x,h1,hP,hC⟩:=h;have hC:mP μ cz mk x (.num 16 left) t false []:=hC;have hs:MK.sz (.num 16 left):=.inr rfl;simp only[bx]
 by_cases hk:MK.tk (.num 16 left) t c=true
 ·rw[if_pos hk]
  obtain⟨e,z⟩:=hC.take (c:=c) (by omega) hs hk;have hO:Ot μ N [15,10] [mk]:=Ot.one h1.2.1 hC.m (by simp[MK.cls]);have hc:=Ch.set (μ:=μ) mk (MK.obj (.num 16 left) (t++[c]));have hP':=hP.keep hc hO;exact ke.mk (yU hP.b hC rfl e hP'.b z rfl (by simp)) ⟨lt,cz,tr,lr,mk,x,h1,hP',z⟩ ht hN htl hc hO (by simp)
 ·rw[if_neg hk]
  have hk':(!false&&MK.tk (.num 16 left) t c)=false:=by simpa using hk
  by_cases hg:c=59∧t≠[]
  ·rw[if_pos hg]
   obtain⟨rfl,hg⟩:=hg
   have hgd:MK.gd (.num 16 left) t=true:=by simp[MK.gd,hg]
   have e:=hC.close (c:=59) (by omega) (by decide) hs hk' hgd (by decide);have z:=hC.toE [59];have hO:Ot μ N [15,10] [x,cz]:=Ot.two h1.2.2 h1.1 hC.y hC.c (by simp[MK.cls]) (by simp);have hc:=so (μ:=μ) x cz mk [59];have hP':=hP.keep hc hO;exact ke.mk (yU hP.b hC rfl e hP'.b z rfl (mn _ _ _ _)) ⟨lt,cz,tr,lr,mk,x,h1,hP',z⟩ ht hN htl hc hO (by rw[mn]; omega)
  ·rw[if_neg hg]
   refine ss hP.b hC rfl (hC.no (by omega) (by decide) hs hk' ?_);rw[Dg]
   by_cases h0:t=[]
   ·simp[MK.gd,h0]
   ·have:c≠59:=fun h=>hg ⟨h,h0⟩
    simp[this]
theorem Ot.app {μ:Mu} {N:Nat} {D A B:List Nat} (h:Ot μ N D A) (h':Ot μ N D B):Ot μ N D (A++B):=fun a ha=>by
 rcases q58.mp ha with ha|ha
 ·exact h a ha
 ·exact h' a ha
theorem Ot.weak {μ:Mu} {N:Nat} {D A:List Nat} (h:Ot μ N D A):Ot μ N [] A:=fun a ha=>by
 obtain⟨h1,q,h2,_⟩:=h a ha;exact⟨h1,q,h2,by simp⟩
def yi (μ:Mu) (k:MK):Mu:=μ++[k.obj [],ni μ.length (μ.length+2) false,MK.obj (.ex [59,10]) []]
theorem yJ (μ:Mu) (k:MK):mP (yi μ k) (μ.length+1) μ.length (μ.length+2) k [] false []:=by
 unfold yi;exact⟨mf (by simp[ni]),mf (by simp[MK.obj]),mf (by simp[MK.obj]),by omega⟩
theorem mP.keep {μ ν:Mu} {A:List Nat} {cz mk x:Nat} {k:MK} {t:Tx} {cl:Bool} {ct:Tx} (h:mP μ cz mk x k t cl ct) (hc:Ch A μ ν) (h1:cz∉A) (h2:mk∉A) (h3:x∉A):mP ν cz mk x k t cl ct:=
 ⟨hc.ins h.c h1,hc.ins h.m h2,hc.ins h.y h3,h.mx⟩
theorem xh.setp {f:Cf} {μ:Mu} {N p:Nat} {left left':Int} {lt cz cz':Nat} {pc pc':AV} {tr lr:Nat} {rq:Int} {ts:List Tx} (h:xh f μ N p left lt cz pc tr lr rq ts):xh f (μ.set p (nQ left' lt cz' pc' tr)) N p left' lt cz' pc' tr lr rq ts:=by
 have hc:=Ch.set (μ:=μ) p (nQ left' lt cz' pc' tr);refine⟨gA (fY h.b),hc.lst h.l (by simp; exact eY h.l h.b),hc.ins h.t (by simp; exact cJ h.t h.b (by decide)),hc.lst h.r (by simp; exact eY h.r h.b),h.n,h.N⟩
theorem xh.app {f:Cf} {μ:Mu} {N p:Nat} {left:Int} {lt cz:Nat} {pc:AV} {tr lr:Nat} {rq:Int} {ts:List Tx} (h:xh f μ N p left lt cz pc tr lr rq ts) (u:Mu):xh f (μ++u) N p left lt cz pc tr lr rq ts:=
 h.keep (Ch.app μ u) (fun a ha=>by cases ha)
theorem Ck {f:Cf} {tl N p:Nat} {dq rq n:Int} {k c:Nat} {μ:Mu} {ts:List Tx} {left:Int} {t:Tx} (ht:sn μ tl n) (hN:N≤μ.length) (htl:tl<N) (hl:t.length<1000) (h0:t≠[]) (hnn:0≤fW 16 t) (h:kt f tl μ (.size ts left t true) N p dq rq):ke f tl N p dq rq k c μ (.size ts left t true) (bx f n c (.size ts left t true) dq rq):=by
 obtain⟨lt,cz,tr,lr,mk,x,h1,hP,hC⟩:=h;have hC:mP μ cz mk x (.num 16 left) t true [59]:=hC;have hs:MK.sz (.num 16 left):=.inr rfl;simp only[bx]
 by_cases hk:c=10
 ·rw[if_pos hk]
  subst hk
  have hgd:MK.gd (.num 16 left) t=true:=by simp[MK.gd,h0]
  have e:=hC.close (c:=10) (by omega) (by decide) hs rfl hgd (by decide);have z:=hC.toE [59,10];have hO:Ot μ N [15,10] [x,cz]:=Ot.two h1.2.2 h1.1 hC.y hC.c (by simp[MK.cls]) (by simp);have hc:=so (μ:=μ) x cz mk [59,10];have hP':=hP.keep hc hO;have hlen:(rk μ x cz mk [59,10]).length=μ.length:=mn _ _ _ _
  by_cases hp:0<fW 16 t
  ·rw[if_pos hp]
   have ef:=BZ hP.b hC rfl e hP'.b z hs (by omega) rfl hp hlen;obtain⟨μ1,hμ1⟩:∃ μ1,μ1=rk μ x cz mk [59,10]:=⟨_,rfl⟩;rw[show rk μ x cz mk ([59]++[10])=μ1 from hμ1.symm] at ef;rw[← hμ1] at hP' hc hlen;have hpl:=fY hP'.b;have hN':=hP'.N;have hZ:=yJ μ1 (.sg (fW 16 t));have hc2:=Ch.set (μ:=yi μ1 (.sg (fW 16 t))) p (nQ left lt cz (.loc (μ1.length+1)) tr);have hc3:=hc.trans ((Ch.app μ1 [MK.obj (.sg (fW 16 t)) [],ni μ1.length (μ1.length+2) false,MK.obj (.ex [59,10]) []]).trans hc2 (by simp)) (by omega);refine ke.mk (D:=[]) ef ⟨lt,cz,tr,lr,μ1.length+1,μ1.length,μ1.length+2,⟨by omega,by omega,by omega⟩,(hP'.app _).setp,hZ.keep hc2 (by simp; omega) (by simp; omega) (by simp; omega)⟩ ht hN htl hc3 (hO.weak.app (Ot.app (fun a ha=>by cases ha) (Ot.one hN'.1 hP.b (by simp)))) (by simp; omega)
  ·rw[if_neg hp]
   have h00:fW 16 t=0:=by omega
   have ef:=C8 hP.b hC rfl e hP'.b z hs (by omega) (by rw[MK.told,h00]) hlen;refine ke.mk ef ⟨lt,cz,tr,lr,mk,x,_,left,hP'.N,⟨fY hP'.b,(q07.mp hP'.l).1,fY z.c,fY z.m,fY z.y,q11 _⟩,hP'.b,hP'.l,hP'.n,z,hP'.r,hP'.t⟩ ht hN htl hc hO (Nat.le_of_eq hlen.symm)
 ·rw[if_neg hk]
  refine ss hP.b hC rfl (hC.no (by omega) (by decide) hs rfl ?_);rw[Ce];simp[hk]
theorem z9 {f:Cf} {tl N p:Nat} {dq rq n:Int} {k c:Nat} {μ:Mu} {ts:List Tx} {left m:Int} {t:Tx} (ht:sn μ tl n) (hN:N≤μ.length) (htl:tl<N) (hl:t.length<1000) (h:kt f tl μ (.piece ts left m t false) N p dq rq):ke f tl N p dq rq k c μ (.piece ts left m t false) (bx f n c (.piece ts left m t false) dq rq):=by
 obtain⟨lt,cz,tr,lr,pz,mk,x,h1,hP,hC⟩:=h;have hC:mP μ pz mk x (.sg m) t false []:=hC;have hs:MK.sz (.sg m):=trivial;simp only[bx]
 by_cases hk:MK.tk (.sg m) t c=true
 ·rw[if_pos hk]
  obtain⟨e,z⟩:=hC.take (c:=c) (by omega) hs hk;have hO:Ot μ N [15,10] [mk]:=Ot.one h1.2.1 hC.m (by simp[MK.cls]);have hc:=Ch.set (μ:=μ) mk (MK.obj (.sg m) (t++[c]));have hP':=hP.keep hc hO;exact ke.mk (wd hP.b hC.c e hP'.b z rfl (by simp)) ⟨lt,cz,tr,lr,pz,mk,x,h1,hP',z⟩ ht hN htl hc hO (by simp)
 ·rw[if_neg hk]
  have hk':(!false&&MK.tk (.sg m) t c)=false:=by simpa using hk
  by_cases hg:c=59∧(t.length:Int)=m
  ·rw[if_pos hg]
   obtain⟨rfl,hg⟩:=hg
   have hgd:MK.gd (.sg m) t=true:=by simp[MK.gd,hg]
   have e:=hC.close (c:=59) (by omega) (by decide) hs hk' hgd (by decide);have z:=hC.toE [59];have hO:Ot μ N [15,10] [x,pz]:=Ot.two h1.2.2 h1.1 hC.y hC.c (by simp[MK.cls]) (by simp);have hc:=so (μ:=μ) x pz mk [59];have hP':=hP.keep hc hO;exact ke.mk (wd hP.b hC.c e hP'.b z rfl (mn _ _ _ _)) ⟨lt,cz,tr,lr,pz,mk,x,h1,hP',z⟩ ht hN htl hc hO (by rw[mn]; omega)
  ·rw[if_neg hg]
   refine qT hP.b hC.c (hC.no (by omega) (by decide) hs hk' ?_);rw[Dg]
   by_cases h0:(t.length:Int)=m
   ·have:c≠59:=fun h=>hg ⟨h,h0⟩
    simp[this]
   ·simp[MK.gd,h0]
theorem xh.setl {f:Cf} {μ:Mu} {N p:Nat} {left:Int} {lt cz:Nat} {pc:AV} {tr lr:Nat} {rq:Int} {ts:List Tx} (h:xh f μ N p left lt cz pc tr lr rq ts) (t:Tx):xh f (μ.set lt (.lst (ts.map .str++[.str t]))) N p left lt cz pc tr lr rq (ts++[t]):=by
 have hc:=Ch.set (μ:=μ) lt (.lst (ts.map .str++[.str t]));refine⟨hc.ins h.b (by simp; exact(eY h.l h.b).symm),?_,hc.ins h.t (by simp; exact(eY h.l h.t).symm),hc.lst h.r (by simp; exact h.n.symm),h.n,h.N⟩;rw[q15 (q07.mp h.l).1];simp
theorem zh {f:Cf} {tl N p:Nat} {dq rq n:Int} {k c:Nat} {μ:Mu} {ts:List Tx} {left m:Int} {t:Tx} (ht:sn μ tl n) (hN:N≤μ.length) (htl:tl<N) (hl:t.length<1000) (hts:ts.length<1000) (hm:(t.length:Int)=m) (h:kt f tl μ (.piece ts left m t true) N p dq rq):ke f tl N p dq rq k c μ (.piece ts left m t true) (bx f n c (.piece ts left m t true) dq rq):=by
 obtain⟨lt,cz,tr,lr,pz,mk,x,h1,hP,hC⟩:=h;have hC:mP μ pz mk x (.sg m) t true [59]:=hC;have hs:MK.sz (.sg m):=trivial;simp only[bx]
 by_cases hk:c=10
 ·rw[if_pos hk]
  subst hk
  have hgd:MK.gd (.sg m) t=true:=by simp[MK.gd,hm]
  have e:=hC.close (c:=10) (by omega) (by decide) hs rfl hgd (by decide);have z:=hC.toE [59,10];have hO:Ot μ N [15,10] [x,pz]:=Ot.two h1.2.2 h1.1 hC.y hC.c (by simp[MK.cls]) (by simp);have hc:=so (μ:=μ) x pz mk [59,10];have hP':=hP.keep hc hO;have hlen:(rk μ x pz mk [59,10]).length=μ.length:=mn _ _ _ _;have ef:=Dq hP.b hC.c e hP'.b z hs rfl (by omega) hP'.l (by simpa using hts) hlen;obtain⟨μ1,hμ1⟩:∃ μ1,μ1=rk μ x pz mk [59,10]:=⟨_,rfl⟩;rw[show rk μ x pz mk ([59]++[10])=μ1 from hμ1.symm] at ef;rw[← hμ1] at hP' hc hlen;have hN':=hP'.N;have hpl:=fY hP'.b;have hP2:=(hP'.setl t).setp (left':=left-t.length) (cz':=cz) (pc':=.non)
  obtain⟨μ2,hμ2⟩:∃ μ2,μ2=(μ1.set lt (.lst (ts.map .str++[.str t]))).set p (nQ (left-t.length) lt cz .non tr):=⟨_,rfl⟩;rw[← hμ2] at hP2
  have hl2:μ2.length=μ1.length:=by rw[hμ2]; simp
  have hZ:=yJ μ2 (.num 16 (left-t.length))
  have hk:mS μ1 p lt cz tr left (ts.map .str) t=(yi μ2 (.num 16 (left-t.length))).set p (nQ (left-t.length) lt (μ2.length+1) .non tr):=by
   unfold mS yi;rw[hl2,hμ2]
  rw[hk] at ef;have hc2:=Ch.set (μ:=yi μ2 (.num 16 (left-t.length))) p (nQ (left-t.length) lt (μ2.length+1) .non tr)
  have hcl:Ch [lt,p] μ1 μ2:=by
   rw[hμ2];exact(Ch.set lt _).trans (Ch.set p _) (by simp)
  have hc3:=(hc.trans hcl (by omega)).trans ((Ch.app μ2 [MK.obj (.num 16 (left-t.length)) [],ni μ2.length (μ2.length+2) false,MK.obj (.ex [59,10]) []]).trans hc2 (by simp)) (by omega);refine⟨_,ef,⟨lt,_,tr,lr,μ2.length,μ2.length+2,⟨by omega,by omega,by omega⟩,(hP2.app _).setp,hZ.keep hc2 (by simp; omega) (by simp; omega) (by simp; omega)⟩,hc3.ins ht ?_,fun l hl _=>hc3 l (by omega) ?_,by simp[yi]; omega,hc3.int fun q c cs hq=>?_⟩
  ·simp; omega
  ·simp; omega
  ·have a1:=eY hq hC.y
   have a2:=eY hq hC.c;have a3:=eY hq hP.b;have a4:=uY hP.l (F3 ts) hq;simp; omega
 ·rw[if_neg hk]
  refine qT hP.b hC.c (hC.no (by omega) (by decide) hs rfl ?_);rw[Ce];simp[hk]
theorem Ex (q:Tx×Tx):1≤(pb q).length:=by simp[pb]; omega
theorem sL:∀ qs:List (Tx×Tx),qs.length≤(gZ qs).length
 | []=>by simp
 | q::qs=>by
  have:=sL qs;have:=Ex q
  have e:gZ (q::qs)=pb q++gZ qs:=by simp[gZ]
  rw[e];simp; omega
theorem uj {f:Cf}:∀ {s:St} {x:Tx},FI f s x→Ok f x.length s
 | ⟨ps,en,ph⟩,x,⟨qs,ey,h1,h2,h3,h4⟩=>by
  simp only at h1 h3 h4;subst h1;have hl:=sL qs;refine⟨?_,?_,?_⟩
  ·show(qs.map fS).length≤x.length
   rw[q21]
   cases ph<;>simp only[u4] at h4
   ·rw[h4,q02]; omega
   ·rw[h4.2.1,q02]; omega
   ·rw[h4.2.1,q02,q02]; omega
   ·rw[h4.2.1,q02,q02,q02]; omega
   ·rw[h4.2.1,q02,q02,q02,q02]; omega
   ·rw[h4,q02,q02]; omega
   ·rw[h4,q02,q02]; omega
  ·rcases h3 with h3|⟨nm,k,h3,_⟩
   ·exact .inl h3.1
   ·exact .inr ⟨_,h3⟩
  ·cases ph<;>simp only[u4,yw] at h4⊢
   ·rw[h4.2.1,q02]; omega
   ·refine⟨?_,h4.2.2.2.2⟩
    rw[h4.2.1,q02,q02]; omega
   ·refine⟨?_,h4.2.2.2.2.1,?_⟩
    ·rw[h4.2.1,q02,q02,q02]; omega
    ·rw[h4.2.1,q02,q02,q02]; omega
   ·refine⟨?_,h4.2.2.2.2.1,?_,h4.2.2.2.2.2.2⟩
    ·rw[h4.2.1,q02,q02,q02,q02]; omega
    ·rw[h4.2.1,q02,q02,q02,q02]; omega
theorem Kq.ins {M i lp:Nat} {μ ν:Mu} (h:Kq M i lp μ ν) {l:Nat} {q:Nat×List (Nat×AV)} (hl:l<M) (h1:l≠i) (h2:l≠lp) (hq:af μ l=some q):af ν l=some q:=by
 have e:ν[l]?=μ[l]?:=h l hl h1 h2;unfold af at hq⊢;rw[e];exact hq
theorem EK {f:Cf} (hG:Gd f):[]∉f.nq:=fun h=>(qq _ (hG.E _ h)).2.1 rfl
theorem Hb (qs:List (Tx×Tx)):∀ c cs,qs.map fS≠.int c::cs:=by
 intro c cs h
 cases qs<;>simp[fS] at h
theorem EX {f:Cf} {s:St} {x:Tx} (h:FI f s x):∀ c cs,s.ps≠.int c::cs:=by
 obtain⟨qs,_,h1,_⟩:=h;rw[h1];exact Hb qs
theorem AK {f:Cf} (hB:nU f) {tl N p:Nat} {dq rq n:Int} {k c:Nat} {μ:Mu} {ts:List Tx} {left:Int} {t:Tx} {s:St} {z:Tx} (ht:sn μ tl n) (hN:N≤μ.length) (htl:tl<N) (hz:FI (f.at rq []) s z) (hl:z.length<1000) (h:kt f tl μ (.trail ts left t s) N p dq rq):ke f tl N p dq rq k c μ (.trail ts left t s) (bx f n c (.trail ts left t s) dq rq):=by
 obtain⟨lt,cz,tr,lr,mk,x,M,left',hN',hM,hP,hL,hne,hC,hS⟩:=h;have hG:=D8 hB rq;have hF:=xf (c:=c) hG.d hG.el (EK hG) hl hM.2.2.2.2.2 (uj hz) hS;obtain⟨row,er,hfs⟩:=ng hS;have hlr:=hS.1;simp only[bx]
 cases hs:step (f.at rq []) s.ps s.en c s.ph with
 | none=>
  rw[hs] at hF;exact wB hP hC hfs hF
 | some s'=>
  rw[hs] at hF;obtain⟨ν,e,hS',hFr,hK,hlen⟩:=hF;refine⟨ν,wB hP hC hfs e,⟨lt,cz,tr,lr,mk,x,M,left',hN',⟨hM.1,hM.2.1,hM.2.2.1,hM.2.2.2.1,hM.2.2.2.2.1,by omega⟩,?_,?_,hne,⟨?_,?_,?_,hC.mx⟩,hS'⟩,?_,fun l hl _=>hK l (by omega) (by omega) (by omega),hlen,fun q c cs hq=>hFr q _ (uY hlr (EX hz) hq) hq⟩
  ·exact hK.ins hM.1 (cJ hP hfs (by decide)) (eY hlr hP).symm hP
  ·rw[hK lt hM.2.1 (eY hL hfs) hne]; exact hL
  ·exact hK.ins hM.2.2.1 (cJ hC.c hfs (by decide)) (eY hlr hC.c).symm hC.c
  ·exact hK.ins hM.2.2.2.1 (cJ hC.m hfs (by simp[MK.cls])) (eY hlr hC.m).symm hC.m
  ·exact hK.ins hM.2.2.2.2.1 (cJ hC.y hfs (by simp[MK.cls])) (eY hlr hC.y).symm hC.y
  ·exact hK.ins (by omega) (by omega) (by omega) ht
theorem vx {j:Nat} {ds:List AV} {μ m:Mu} {d:AV} (h:cT (j+1) ds μ=.ok d m):iq μ (.ok d m)=.ok d m:=by
 rw[jH] at h;exact jP h
theorem Es {k:Nat} {b:Bd} {ds:List AV} {μ m:Mu} {d:AV} (h:sE (k+1) b ds μ=.ok d m):iq μ (.ok d m)=.ok d m:=by
 have hp:aH (k+1) ds μ=.ok d m→iq μ (.ok d m)=.ok d m:=fun h=>by
  rw[dH] at h;exact jP h
 have hc:au ds μ=.ok d m→iq μ (.ok d m)=.ok d m:=fun h=>by
  unfold au at h;exact jP h
 cases b with
 | non=>
  have h:bT ds μ=.ok d m:=h
  unfold bT at h; exact jP h
 | len _ _=>
  have h:aS ds μ=.ok d m:=h
  unfold aS at h; exact jP h
 | rst _ _=>
  have h:aZ ds μ=.ok d m:=h
  unfold aZ at h; exact jP h
 | size _ _ _ _=>exact hc h
 | piece _ _ _ _ _=>exact hc h
 | trail _ _ _ _=>exact hc h
 | row _ _=>exact hp h
 | prt _ _=>exact hp h
 | prb _ _ _ _=>exact hp h
theorem Dm {μ m:Mu} {p q:Nat} {o o':AO} (h:iq μ (.ok (.bl true) m)=.ok (.bl true) m) (hp:m[p]?=μ[p]?) (hq:m[q]?=μ[q]?):iq μ (.ok (.bl true) ((m.set q o).set p o'))=.ok (.bl true) ((m.set q o).set p o'):=by
 simp only[iq] at h⊢;split
 ·rename_i hc
  have hc':AC μ (.bl true) m:=by
   obtain⟨h1,h2,h3⟩:=hc;refine⟨h1,by simpa using h2,fun i hi=>?_⟩
   by_cases hip:i=p
   ·subst hip; exact .inl hp
   ·by_cases hiq:i=q
    ·subst hiq; exact .inl hq
    ·have:=h3 i hi
     rw[q12 (q56 hip),q12 (q56 hiq)] at this;exact this
  rw[if_pos hc'] at h
  have hl:(m.take μ.length).length=m.length:=by
   have:m.take μ.length=m:=by simpa using h
   rw[this]
  congr 1;rw[q93];rw[q39] at hl;simp; omega
 ·rfl
def whF (b:Bd):List AV→Mu→Rs AV:=match b.cls with
 | 12=>bp
 | 13=>bD
 | 14=>bp
 | 15=>bF
 | _=>bt
theorem ze (b:Bd):q28 b.cls [(12,bp),(13,bD),(14,bp),(15,bF),(16,bt)]=some (whF b):=by
 cases b<;>rfl
def tdF (b:Bd):List AV→Mu→Rs AV:=match b.cls with
 | 12=>dJ
 | 13=>bM
 | 14=>ci
 | 15=>bL
 | _=>bW
theorem yF (b:Bd):q28 b.cls [(12,dJ),(13,bM),(14,ci),(15,bL),(16,bW)]=some (tdF b):=by
 cases b<;>rfl
theorem sQ (p:Nat) (μ:Mu):bp [.loc p] μ=.ok (.bl true) μ:=by
 unfold bp;simp
theorem zJ (p:Nat) (μ:Mu):dJ [.loc p] μ=.ok (.tup [.str m7]) μ:=by
 unfold dJ
 have z1:(1:Nat)≤cE:=by decide
 simp[m7,z1]
theorem nC {μ:Mu} {l:Nat} {x:List AV} (h:μ[l]?=some (.lst x)):bu μ l=some x:=by unfold bu; rw[h]
theorem ER {f:Cf} {tl:Nat} {μ:Mu}:∀ {b:Bd} {N p:Nat} {dq rq:Int} {x:Tx} {u:Int},Iv f b dq rq x u→x.length<1000→kt f tl μ b N p dq rq→whF b [.loc p] μ=.ok (.bl b.whole) μ
 | .non,_,_,_,_,_,_,_,_,_=>sQ _ _
 | .len _ _,_,_,_,_,_,_,hi,hx,w9_=>by
  obtain⟨_,_,h2,h3⟩:=w9_;obtain⟨rfl,_⟩:=hi;exact CG h2 h3 (by omega)
 | .rst _ _,_,_,_,_,_,_,_,_,_=>sQ _ _
 | .size _ _ _ _,_,_,_,_,_,_,_,_,w9_=>by
  obtain⟨_,_,_,_,_,_,_,h,_⟩:=w9_;exact sA h.b h.t (jr.nw h.t)
 | .piece _ _ _ _ _,_,_,_,_,_,_,_,_,w9_=>by
  obtain⟨_,_,_,_,_,_,_,_,h,_⟩:=w9_;exact sA h.b h.t (jr.nw h.t)
 | .trail _ _ _ _,_,_,_,_,_,_,_,_,w9_=>by
  obtain⟨_,_,_,_,_,_,_,_,_,_,h,_,_,_,hS⟩:=w9_;obtain⟨row,er,hfs⟩:=ng hS;exact sA h hfs (um hS)
 | .row _ [],_,_,_,_,_,_,_,_,w9_=>by
  obtain⟨_,_,h,_⟩:=w9_;exact zM h
 | .row _ (_::_),_,_,_,_,_,_,_,_,w9_=>by
  obtain⟨_,_,_,h,_,h'⟩:=w9_;exact sx h h'
 | .prt _ _,_,_,_,_,_,_,_,_,w9_=>by
  obtain⟨_,_,_,_,_,_,_,_,h,_,_,h',_⟩:=w9_;exact sx h h'
 | .prb _ _ _ _,_,_,_,_,_,_,_,_,w9_=>by
  obtain⟨_,_,_,_,_,_,_,_,_,_,_,h,_,_,h',_⟩:=w9_;exact sx h h'
theorem B5 {f:Cf} {N i lp:Nat} {μ:Mu} {s:St} (h:zV N f μ i lp s) (hl:s.ps.length<1000):du [.loc i] μ=.ok (.tup s.ps) μ:=by
 obtain⟨row,er,hfs⟩:=ng h;exact hfs.toldP (nC h.1) hl
theorem yD:∀ L:List Pt,L.length≤(kE L).length
 | []=>by simp
 | p::L=>by
  have:=yD L
  have e:kE (p::L)=p.tx++kE L:=by simp[kE]
  rw[e,q02,q37]
  have:3≤p.tx.length:=by simp[Pt.tx]
  omega
theorem xO {f:Cf} {dq:Int} {ps:List AV} {y:Tx} {u:Int} (h:Ii f dq ps y u):ps.length≤y.length:=by
 obtain⟨L,rfl,_,rfl,_⟩:=h;rw[q21];exact yD L
theorem EN {f:Cf} {tl:Nat} {μ:Mu}:∀ {b:Bd} {N p:Nat} {dq rq:Int} {x:Tx} {u:Int},Iv f b dq rq x u→x.length<1000→b.whole=true→kt f tl μ b N p dq rq→tdF b [.loc p] μ=.ok b.told μ
 | .non,_,_,_,_,_,_,_,_,_,_=>zJ _ _
 | .len _ _,_,_,_,_,_,_,_,_,_,w10_=>by
  obtain⟨_,_,h2,h3⟩:=w10_;exact Am h2 h3
 | .rst _ _,_,_,_,_,_,_,_,_,_,w10_=>by
  obtain⟨_,_,h2,h3⟩:=w10_;exact zF h2 h3
 | .size _ _ _ _,_,_,_,_,_,_,_,_,h,_=>by simp[Bd.whole] at h
 | .piece _ _ _ _ _,_,_,_,_,_,_,_,_,h,_=>by simp[Bd.whole] at h
 | .trail ts _ _ s,_,_,_,_,_,_,w7_,hl,_,w10_=>by
  obtain⟨_,_,_,_,_,z,hz,hx⟩:=w7_;obtain⟨_,_,_,_,_,_,_,_,_,_,h,hL,_,_,hS⟩:=w10_;obtain⟨row,er,hfs⟩:=ng hS;have h1:=uK ts;have h2:=(uj hz).1;subst hx;rw[q02,q02] at hl;exact Dk h hfs (nC hL) (by rw[q21]; omega) (B5 hS (by omega))
 | .row _ [],_,_,_,_,_,_,_,_,h,_=>by simp[Bd.whole] at h
 | .row ps (r::rt),_,_,_,_,_,_,w7_,hl,_,w10_=>by
  obtain⟨y,u',hp,_,hx,_⟩:=w7_;obtain⟨_,_,_,h,hL,_⟩:=w10_;have:=xO hp;subst hx;rw[q02] at hl;exact C5 h (nC hL) (by omega)
 | .prt _ _,_,_,_,_,_,_,_,_,h,_=>by simp[Bd.whole] at h
 | .prb _ _ _ _,_,_,_,_,_,_,_,_,h,_=>by simp[Bd.whole] at h
theorem xK {f:Cf} {es:List Tx} {R dq rq:Int} {tl:Nat} {en:AV} {er:Tx} (hE:∀ e∈es,e∈kB) (h:yB (f.at R es) en er) (μ:Mu) :
  ∃ u,dA [en,f.bok,.int rq,.int dq,.loc tl] μ=.ok (.loc μ.length) (μ++u)∧(∀ ν:Mu,(∀ l,μ.length≤l→l<μ.length+u.length→ν[l]?=(μ++u)[l]?)→kt f tl ν (rR f en) μ.length μ.length dq rq)∧(tl<μ.length→∀ o∈u,jU (μ.length+u.length) o=true):=by
 obtain⟨n1,n2,n3,n4,n5,n6⟩:=sN
 have get:∀ (u ν:Mu),(∀ l,μ.length≤l→l<μ.length+u.length→ν[l]?=(μ++u)[l]?)→∀ j o,u[j]?=some o→ν[μ.length+j]?=some o:=fun u ν hν j o hj=>by
  have hlt:=(q07.mp hj).1;rw[hν _ (by omega) (by omega),q27 (by omega),← hj];congr 1;omega
 have ins:∀ (u ν:Mu),(∀ l,μ.length≤l→l<μ.length+u.length→ν[l]?=(μ++u)[l]?)→∀ j C fs,u[j]?=some (.ins C fs)→af ν (μ.length+j)=some (C,fs):=fun u ν hν j C fs hj=>mf (get u ν hν _ _ hj)
 rcases h with ⟨rfl,_⟩|⟨nm,k,rfl,hm,_,hk,hk0⟩
 ·exact⟨_,EC,fun ν hν=>⟨q11 _,ins _ ν hν 0 12 [] rfl⟩,fun _=>by simp[jU]⟩
 ·rcases NL nm (hE nm hm) with rfl|rfl|rfl|rfl
  ·refine⟨_,At,fun ν hν=>?_,fun _=>by simp[jU,kv,MK.obj,MK.rest]⟩
   simp only[rR,if_true];exact⟨μ.length+1,⟨q11 _,by omega⟩,ins _ ν hν 0 _ _ rfl,ins _ ν hν 1 _ _ rfl⟩
  ·refine⟨_,zB,fun ν hν=>?_,fun _=>by simp[jU,kv,MK.obj,MK.rest,nQ,tK,ni,oQ,qw,kh,fV]⟩
   simp only[rR,n1,if_false,if_true];refine⟨μ.length+1,μ.length+3,μ.length+5,μ.length+6,μ.length+2,μ.length+4,⟨by omega,by omega,by omega⟩,⟨ins _ ν hν 0 _ _ rfl,get _ ν hν 1 _ rfl,ins _ ν hν 5 _ _ rfl,get _ ν hν 6 _ rfl,by omega,⟨q11 _,by omega,by omega,by omega⟩⟩,ins _ ν hν 3 _ _ rfl,ins _ ν hν 2 _ _ rfl,ins _ ν hν 4 _ _ rfl,by omega⟩
  ·refine⟨_,BA,fun ν hν=>?_,fun htl=>by simp[jU,kv,l0,fV]; omega⟩
   simp only[rR,n2,n4,if_false,if_true];exact⟨μ.length+1,⟨q11 _,by omega⟩,ins _ ν hν 0 _ _ rfl,get _ ν hν 1 _ rfl⟩
  ·refine⟨_,El,fun ν hν=>?_,fun _=>by simp[jU,kv,MK.obj,MK.rest]⟩
   simp only[rR,n3,n5,n6,if_false];exact⟨μ.length+1,⟨q11 _,by omega⟩,ins _ ν hν 0 _ _ rfl,ins _ ν hν 1 _ _ rfl⟩
theorem p3a (c a b d:Nat):pre ([a]++[c]) [a,b,d]=decide (c=b):=by
 by_cases h:c=b<;>simp[pre,h]
theorem p3b (c a b d:Nat):pre ([a,b]++[c]) [a,b,d]=decide (c=d):=by
 by_cases h:c=d<;>simp[pre,h]
theorem p3c (c a b d:Nat):pre ([a,b,d]++[c]) [a,b,d]=false:=by simp[pre]
theorem D2 {f:Cf} {tl N p:Nat} {dq rq n:Int} {k c:Nat} {μ:Mu} {ps:List AV} (ht:sn μ tl n) (hN:N≤μ.length) (htl:tl<N) (h:kt f tl μ (.row ps []) N p dq rq):ke f tl N p dq rq k c μ (.row ps []) (bx f n c (.row ps []) dq rq):=by
 obtain⟨lp,h1,hP,hL⟩:=h;have hpl:=fY hP;have hll:=(q07.mp hL).1;have hlp:lp≠p:=eY hL hP;simp only[bx]
 by_cases hc:c=45
 ·rw[if_pos hc]
  subst hc;have e:=tq k hP (Ft hP);have hch:=(Ch.app μ [MK.obj (.ex [45,59,10]) [45]]).trans (Ch.set p (l0 f.bok dq tl lp (.loc μ.length) .non)) (by simp)
  refine ke.mk (D:=[]) e ⟨lp,μ.length,⟨h1.1,h1.2,by omega⟩,gA (by simp; omega),hch.lst hL (by simpa using hlp),?_⟩ ht hN htl hch (fun a ha=>by
   simp at ha;subst ha
   exact⟨h1.1,_,hP,by simp⟩) (by simp)
  exact(Ch.set p _).ins (mf (by simp[MK.obj]; exact⟨rfl,rfl⟩)) (by simp; omega)
 ·rw[if_neg hc]
  by_cases hr:c=43∧dq<f.b6∧0<n
  ·rw[if_pos hr]
   obtain⟨rfl,h3,h4⟩:=hr;have e:=tq k hP (D3 hP ht (by simp[h3,h4]));have hch:=(Ch.set tl (CQ (n-1))).trans ((Ch.app (μ.set tl (CQ (n-1))) [MK.obj (.ex [43,59,10]) [43]]).trans (Ch.set p (l0 f.bok dq tl lp (.loc μ.length) .non)) (by simp)) (by simp)
   refine⟨_,e,⟨lp,μ.length,⟨h1.1,h1.2,by omega⟩,gA (by simp; omega),hch.lst hL (by simp; omega),?_⟩,?_,fun l hl hn=>hch l (by omega) (by simp; omega),by simp,hch.int fun q c cs hq=>by
    have a1:=eY hq ht;have a2:=eY hq hP
    simp; omega⟩
   ·exact(Ch.set p _).ins (mf (by rw[q27 (by simp)]; simp[MK.obj]; exact⟨rfl,rfl⟩)) (by simp; omega)
   ·exact((Ch.app (μ.set tl (CQ (n-1))) [MK.obj (.ex [43,59,10]) [43]]).trans (Ch.set p (l0 f.bok dq tl lp (.loc μ.length) .non)) (by simp)).ins (gA (fY ht)) (by simp; omega)
  ·rw[if_neg hr]
   refine tq k hP (Km hP ht hc ?_)
   by_cases h43:c=43
   ·by_cases h6:dq<f.b6
    ·have:¬ 0<n:=fun h=>hr ⟨h43,h6,h⟩
     simp[this]
    ·simp[h6]
   ·simp[h43]
theorem vH {f:Cf} {tl N p:Nat} {dq rq n:Int} {k c:Nat} {μ:Mu} {ps:List AV} {r:Nat} {rt rt':Tx} (ht:sn μ tl n) (hN:N≤μ.length) (htl:tl<N) (h:kt f tl μ (.row ps (r::rt)) N p dq rq) (hr:rt.length<100) (hg:(lN (r::rt)).length≤10000)
  (he:r::rt'=r::rt++[c]) (hk:pre (r::rt++[c]) (lN (r::rt))=true) (hne:r::rt'≠[43,59,10]):ke f tl N p dq rq k c μ (.row ps (r::rt)) (some (n,.row ps (r::rt'))):=by
 obtain⟨lp,rx,h1,hP,hL,hx⟩:=h;have e:=mF (c:=c) (.ex (lN (r::rt))) hx (by simp; omega) hg;rw[if_pos (show MK.tk (.ex (lN (r::rt))) (r::rt) c=true from hk),← he] at e;have hch:=Ch.set (μ:=μ) rx (MK.obj (.ex (lN (r::rt))) (r::rt'));have hO:Ot μ N [16] [rx]:=Ot.one h1.2.2 hx (by simp[MK.cls]);have hP':oh (μ.set rx (MK.obj (.ex (lN (r::rt))) (r::rt'))) p f.bok dq tl lp (.loc rx) .non:=hch.ins hP (hO.ins hP (by simp));have hx':iu (μ.set rx (MK.obj (.ex (lN (r::rt))) (r::rt'))) rx (.ex (lN (r::rt))) (r::rt'):=hx.set_self
 have hgo:lN (r::rt')=lN (r::rt):=by simp[lN]
 exact ke.mk (FR k hP hx e hP' hx' hne (by simp)) ⟨lp,rx,h1,hP',hch.lst hL (hO.lst hL),by rw[hgo]; exact hx'⟩ ht hN htl hch hO (by simp)
theorem pA {f:Cf} {tl N p:Nat} {dq rq:Int} {k c:Nat} {μ:Mu} {ps:List AV} {r:Nat} {rt:Tx} (h:kt f tl μ (.row ps (r::rt)) N p dq rq) (hr:rt.length<100) (hg:(lN (r::rt)).length≤10000) (hk:pre (r::rt++[c]) (lN (r::rt))=false):ke f tl N p dq rq k c μ (.row ps (r::rt)) none:=by
 obtain⟨lp,rx,h1,hP,hL,hx⟩:=h;have e:=mF (c:=c) (.ex (lN (r::rt))) hx (by simp; omega) hg
 have hk':¬ MK.tk (.ex (lN (r::rt))) (r::rt) c=true:=by
  show ¬pre (r::rt++[c]) (lN (r::rt))=true;rw[hk]; simp
 rw[if_neg hk'] at e;exact zA k hP hx e
theorem Eh {f:Cf} {tl N p:Nat} {dq rq n:Int} {k:Nat} {μ:Mu} {ps:List AV} (ht:sn μ tl n) (hN:N≤μ.length) (htl:tl<N) (h:kt f tl μ (.row ps [43,59]) N p dq rq):ke f tl N p dq rq k 10 μ (.row ps [43,59]) (some (n,.prt ps s0)):=by
 obtain⟨lp,rx,h1,hP,hL,hx⟩:=h;have hx:iu μ rx (.ex [43,59,10]) [43,59]:=hx;have e:=mF (c:=10) (.ex [43,59,10]) hx (by simp) (by show _≤10000; simp);rw[if_pos (by decide)] at e;have hch:=Ch.set (μ:=μ) rx (MK.obj (.ex [43,59,10]) [43,59,10]);have hO:Ot μ N [16] [rx]:=Ot.one h1.2.2 hx (by simp[MK.cls]);obtain⟨μ1,hμ1⟩:∃ μ1,μ1=μ.set rx (MK.obj (.ex [43,59,10]) [43,59,10]):=⟨_,rfl⟩
 have hP1:oh μ1 p f.bok dq tl lp (.loc rx) .non:=by rw[hμ1]; exact hch.ins hP (hO.ins hP (by simp))
 have hx1:iu μ1 rx (.ex [43,59,10]) [43,59,10]:=by rw[hμ1]; exact hx.set_self
 have hL1:μ1[lp]?=some (.lst ps):=by rw[hμ1]; exact hch.lst hL (hO.lst hL)
 have hlen:μ1.length=μ.length:=by rw[hμ1]; simp
 have htl1:=fY ht
 have e:aV [.loc rx,.str [10]] μ=.ok (.bl true) μ1:=by rw[hμ1]; exact e
 have ef:=G3 k hP hx e hP1 hx1 htl1 hlen;have hpl:=fY hP1;have hll:=(q07.mp hL1).1;have hxl:=fY hx1
 have hch:Ch [rx] μ μ1:=by rw[hμ1]; exact hch
 have hc2:=(Ch.app μ1 [qV f.bok (dq+1) tl (μ.length+1) .non,oQ f.bok f.b3 (kR (dq+1)) (μ.length+2) .non .non .non,.lst []]).trans (Ch.set p (l0 f.bok dq tl lp (.loc rx) (.loc μ.length))) (by simp);have hc3:=hch.trans hc2 (by omega);have hc4:=Ch.set (μ:=μ1++[qV f.bok (dq+1) tl (μ.length+1) .non,oQ f.bok f.b3 (kR (dq+1)) (μ.length+2) .non .non .non,.lst []]) p (l0 f.bok dq tl lp (.loc rx) (.loc μ.length))
 have g:∀ j,(μ1++[qV f.bok (dq+1) tl (μ.length+1) .non,oQ f.bok f.b3 (kR (dq+1)) (μ.length+2) .non .non .non,.lst []])[μ.length+j]?=[qV f.bok (dq+1) tl (μ.length+1) .non,oQ f.bok f.b3 (kR (dq+1)) (μ.length+2) .non .non .non,.lst []][j]?:=fun j=>by
  rw[q27 (by omega)];congr 1;omega
 refine⟨_,ef,⟨lp,rx,μ.length,μ.length+1,μ.length+2,μ.length+3,⟨h1.1,h1.2.1,h1.2.2,by omega,by omega,by omega⟩,⟨by omega,by omega,by omega,by omega,by simp; omega⟩,gA (by simp; omega),hc2.lst hL1 ?_,by omega,hc2.ins hx1 ?_,hc4.ins (mf (g 0)) (by simp; omega),?_,hc4.ins (mf (g 1)) (by simp; omega)⟩,hc3.ins ht ?_,fun l hl _=>hc3 l (by omega) ?_,by simp; omega,hc3.int fun q c cs hq=>by
  have a1:=eY hq hx;have a2:=eY hq hP
  simp; omega⟩
 ·simp; exact eY hL1 hP1
 ·simp; exact cJ hx1 hP1 (by simp[MK.cls])
 ·exact hc4.lst (g 2) (by simp; omega)
 ·simp; omega
 ·simp; omega
theorem FC {f:Cf} {tl N p:Nat} {dq rq n:Int} {k c:Nat} {μ:Mu} {ps:List AV} {rt:Tx} (hr:rt∈xB) (ht:sn μ tl n) (hN:N≤μ.length) (htl:tl<N) (h:kt f tl μ (.row ps rt) N p dq rq):ke f tl N p dq rq k c μ (.row ps rt) (bx f n c (.row ps rt) dq rq):=by
 simp only[xB,q32,q71,or_false] at hr
 rcases hr with rfl|rfl|rfl|rfl|rfl|rfl
 ·exact D2 ht hN htl h
 ·simp only[bx]
  by_cases hc:c=59
  ·rw[if_pos hc]
   subst hc;exact vH ht hN htl h (by simp) (by decide) rfl (by decide) (by decide)
  ·rw[if_neg hc]
   exact pA h (by simp) (by decide) ((p3a c 45 59 10).trans (by simp[hc]))
 ·simp only[bx]
  by_cases hc:c=10
  ·rw[if_pos hc]
   subst hc;exact vH ht hN htl h (by simp) (by decide) rfl (by decide) (by decide)
  ·rw[if_neg hc]
   exact pA h (by simp) (by decide) ((p3b c 45 59 10).trans (by simp[hc]))
 ·have:bx f n c (.row ps [45,59,10]) dq rq=none:=by simp[bx]
  rw[this];exact pA h (by simp) (by decide) (p3c c 45 59 10)
 ·simp only[bx]
  by_cases hc:c=59
  ·rw[if_pos hc]
   subst hc;exact vH ht hN htl h (by simp) (by decide) rfl (by decide) (by decide)
  ·rw[if_neg hc]
   exact pA h (by simp) (by decide) ((p3a c 43 59 10).trans (by simp[hc]))
 ·simp only[bx]
  by_cases hc:c=10
  ·rw[if_pos hc]
   subst hc;exact Eh ht hN htl h
  ·rw[if_neg hc]
   exact pA h (by simp) (by decide) ((p3b c 43 59 10).trans (by simp[hc]))
theorem Br {f:Cf} (hB:nU f) {tl N p lp rx fm fl lf b' M:Nat} {dq rq n':Int} {k j c:Nat} {μ ν:Mu} {ps fp:List AV} {en row er:AV} {b b0:Bd} {z:Tx} {u:Int}
  (hb0:b0.cls=16) (hk:k+1=j+1+2) (hP:oh μ p f.bok dq tl lp (.loc rx) (.loc fm)) (hFm:∃ bb,ur μ fm f.bok (dq+1) tl fl bb) (hL:μ[lp]?=some (.lst ps))
  (e:cT (j+1) [.loc fm,.str [c]] μ=.ok (.bl true) ν)
  (hN:N≤p∧N≤lp∧N≤rx∧N≤fm∧N≤fl∧N≤lf) (hM:p<M∧lp<M∧rx<M∧fm<M∧fl<M∧lf<M) (hne:lp≠lf)
  (hP1:oh ν p f.bok dq tl lp (.loc rx) (.loc fm)) (hL1:ν[lp]?=some (.lst ps)) (hx1:iu ν rx (.ex [43,59,10]) [43,59,10]) (hF1:ur ν fm f.bok (dq+1) tl fl (.loc b')) (hfs1:jr ν fl f.bok f.b3 (kR (dq+1)) lf en row er) (hlf1:ν[lf]?=some (.lst fp))
  (hS:kt f tl ν b M b' (dq+1) (f.b3-fp.length)) (hi:Iv f b (dq+1) (f.b3-fp.length) z u) (hz:z.length<1000) (hps:ps.length<1000) (hfp:fp.length<1000)
  (ht:sn ν tl n') (htl:tl<N) (hkp:∀ l,l<N→l≠tl→ν[l]?=μ[l]?) (hlen:μ.length≤ν.length) (hni:∀ c cs,ps≠.int c::cs) (hIL:As μ ν):ke f tl N p dq rq k c μ b0 (some (n',nK ps fp en b)):=by
 obtain⟨bb,hFm⟩:=hFm;obtain⟨hMb,fs,hcls⟩:=j4 hS
 have hfd:sE (k+1) b0=aH (j+1+2):=by
  unfold sE;rw[hb0,hk]
  rfl
 have ew:=Bi hF1 hcls (ze b) (ER hi hz hS);unfold nK
 cases hw:b.whole with
 | false=>
  rw[hw] at ew;rw[if_neg (by simp)];refine⟨ν,by rw[hfd]; exact yC (j+1) hP hFm e hP1 hF1 ew (vx e),?_,ht,hkp,hlen,hIL⟩;exact⟨lp,rx,fm,fl,lf,row,er,b',M,hN,hM,hP1,hL1,hne,hx1,hF1,hfs1,hlf1,hS⟩
 | true=>
  rw[hw] at ew;rw[if_pos rfl];have et:=DC hF1 hcls hfs1 (hfs1.toldP (nC hlf1) hfp) (yF b) (EN hi hz hw hS);have hg:=Dm (p:=p) (q:=lp) (o:=.lst (ps++[.tup [.tup fp,b.told]])) (o':=l0 f.bok dq tl lp .non .non) (vx e) ((iQ hP1).trans (iQ hP).symm) (hL1.trans hL.symm);have ed:=uI (j+1) hP hFm e hP1 hF1 ew et hL1 hps hg;have hlp:lp≠p:=eY hL1 hP1;have hch:Ch [lp,p] ν ((ν.set lp (.lst (ps++[.tup [.tup fp,b.told]]))).set p (l0 f.bok dq tl lp .non .non)):=(Ch.set lp _).trans (Ch.set p _) (by simp);have hpl:=fY hP1;have hll:=(q07.mp hL1).1;refine⟨_,by rw[hfd]; exact ed,⟨lp,⟨hN.1,hN.2.1⟩,gA (by simpa using hpl),?_⟩,hch.ins ht (by simp; omega),fun l hl hn=>?_,by simpa using hlen,fun q c cs hq=>?_⟩
  ·rw[q12 (q56 hlp),q15 hll]
  ·exact(hch l (by omega) (by simp; omega)).trans (hkp l hl hn)
  ·have h1:=hIL q c cs hq
   have a1:=uY hL1 hni h1;have a2:=eY h1 hP1;exact hch.lst h1 (by simp; omega)
theorem HH {f:Cf} (hB:nU f) {tl N p:Nat} {dq rq n:Int} {k c:Nat} {μ:Mu} {ps:List AV} {s:St} {z:Tx} (hni:∀ c cs,ps≠.int c::cs) (hc:c<127) (h0:0≤dq) (hk:2≤k) (hps:ps.length<1000) (ht:sn μ tl n) (hN:N≤μ.length) (htl:tl<N) (hz:FI (f.at f.b3 (kR (dq+1))) s z) (hl:z.length<990) (h:kt f tl μ (.prt ps s) N p dq rq):ke f tl N p dq rq k c μ (.prt ps s) (bx f n c (.prt ps s) dq rq):=by
 obtain⟨lp,rx,fm,fl,fp,M,hN',hM,hP,hL,hne,hx,hFm,hS⟩:=h;obtain⟨j,hj⟩:∃ j,k+1=j+1+2:=⟨k-2,by omega⟩;have hG:=yg hB (dq+1);have hF:=xf (c:=c) hG.d hG.el (EK hG) (n:=z.length) (by omega) hM.2.2.2.2 (uj hz) hS;obtain⟨row,er,hfs⟩:=ng hS;have hlr:=hS.1
 have hfd:sE (k+1) (.prt ps s)=aH (j+1+2):=by
  show aH (k+1)=_;rw[hj]
 simp only[bx]
 cases hs:step (f.at f.b3 (kR (dq+1))) s.ps s.en c s.ph with
 | none=>
  rw[hs] at hF;show sE (k+1) (.prt ps s) _ _=_;rw[hfd];exact tB (j+1) hP hFm (vI j hFm hfs hF)
 | some s'=>
  rw[hs] at hF;obtain⟨ν,e,hS',hFr,hK,hlen⟩:=hF;obtain⟨row',er',hfs'⟩:=ng hS';have hP1:oh ν p f.bok dq tl lp (.loc rx) (.loc fm):=hK.ins hM.1 (cJ hP hfs (by decide)) (eY hlr hP).symm hP
  have hL1:ν[lp]?=some (.lst ps):=by rw[hK lp hM.2.1 (eY hL hfs) hne]; exact hL
  have hx1:iu ν rx (.ex [43,59,10]) [43,59,10]:=hK.ins hM.2.2.1 (cJ hx hfs (by simp[MK.cls])) (eY hlr hx).symm hx;have hF1:ur ν fm f.bok (dq+1) tl fl .non:=hK.ins hM.2.2.2.1 (cJ hFm hfs (by decide)) (eY hlr hFm).symm hFm;have ht1:sn ν tl n:=hK.ins (by omega) (by omega) (by omega) ht
  have hkp:∀ l,l<N→l≠tl→ν[l]?=μ[l]?:=fun l hl _=>hK l (by omega) (by omega) (by omega)
  have hIL:As μ ν:=fun q c cs hq=>hFr q _ (uY hlr (EX hz) hq) hq
  have ew:=um hS';simp only[q48]
  cases hw:qC s'.ph with
  | false=>
   rw[hw] at ew;rw[if_neg (by simp)];have ef:=zY j hFm hfs e hF1 hfs' ew;refine⟨ν,by rw[hfd]; exact yC (j+1) hP hFm ef hP1 hF1 (Ac hF1) (vx ef),?_,ht1,hkp,hlen,hIL⟩;exact⟨lp,rx,fm,fl,fp,M,hN',⟨hM.1,hM.2.1,hM.2.2.1,hM.2.2.2.1,by omega⟩,hP1,hL1,hne,hx1,hF1,hS'⟩
  | true=>
   rw[hw] at ew;rw[if_pos rfl];have hz':=rY hG hc hz hs;have hok:=(uj hz').1;obtain⟨ps',en',ph'⟩:=s';obtain⟨qs,ey,q1,q2,q3,q4⟩:=hz';simp only at q1 q3 q4 hw hok hS' ew⊢;have hok:ps'.length≤(z++[c]).length:=hok;rw[q02,q97] at hok
   cases ph' with
   | e2=>
    obtain⟨hlr1,e0,_,hfs2,_⟩:=hS';have hq2:(qs.length:Int)≤f.b3:=q2.2;have hb3:=hB.b3
    have hpl:ps'.length=qs.length:=by rw[q1]; simp
    obtain⟨u,eb,hsim,_⟩:=xK (dq:=dq+1) (rq:=f.b3-ps'.length) (tl:=tl) (lx (dq+1)).1 q3 ν;obtain⟨m1,m2,_⟩:=vR (dq:=dq+1) (lx (dq+1)).1 (fun hr=>Decidable.byContradiction fun hne=>mL hne hr) q3 hB (f.b3-ps'.length) (by omega) (by omega);have ef:=D5 j hFm hfs e hlen hF1 hfs2 ew (nC hlr1) (by show ps'.length<1000; omega) eb (q11 _);have hfl:=fY hF1
    have hc2:Ch [fm] ν ((ν++u).set fm (qV f.bok (dq+1) tl fl (.loc ν.length))):=by
     have:=(Ch.app ν u).trans (Ch.set fm (qV f.bok (dq+1) tl fl (.loc ν.length))) (by simp)
     simpa using this
    have hO:Ot ν N [16,1,10,11] [fm]:=Ot.one hN'.2.2.2.1 hF1 (by simp);have hpl1:=fY hP1;have hll1:=(q07.mp hL1).1;have hxl1:=fY hx1;have hfsl:=fY hfs2;have hlrl:=(q07.mp hlr1).1;exact Br hB (b:=rR f en') (M:=ν.length) (z:=[]) (u:=0) rfl hj hP ⟨_,hFm⟩ hL ef hN' ⟨hpl1,hll1,hxl1,hfl,hfsl,hlrl⟩ hne
     (hc2.ins hP1 (hO.ins hP1 (by simp))) (hc2.lst hL1 (hO.lst hL1)) (hc2.ins hx1 (hO.ins hx1 (by simp[MK.cls]))) (gA (by simp; omega)) (hc2.ins hfs2 (hO.ins hfs2 (by simp))) (hc2.lst hlr1 (hO.lst hlr1))
     (hsim _ (fun l hl _=>by rw[q12 (by omega)])) m2 (by simp) hps (by omega) (hc2.ins ht1 (hO.ins ht1 (by simp))) htl (fun l hl hn=>by rw[hc2 l (by omega) (hO.lt hl)]; exact hkp l hl hn) (by simp; omega) hni (fun q c cs hq=>hc2.lst (hIL q c cs hq) (by simpa using eY (hIL q c cs hq) hF1))
   | _=>simp[qC] at hw
def uA:Bd→Nat
 | .prt _ _=>1
 | .prb _ _ _ b=>uA b+1
 | _=>0
theorem yc {f:Cf}:∀ {b:Bd} {dq rq:Int} {x:Tx} {u:Int},Iv f b dq rq x u→0≤dq→uA b≤(f.b6-dq).toNat
 | .non,_,_,_,_,_,_=>by simp[uA]
 | .len _ _,_,_,_,_,_,_=>by simp[uA]
 | .rst _ _,_,_,_,_,_,_=>by simp[uA]
 | .size _ _ _ _,_,_,_,_,_,_=>by simp[uA]
 | .piece _ _ _ _ _,_,_,_,_,_,_=>by simp[uA]
 | .trail _ _ _ _,_,_,_,_,_,_=>by simp[uA]
 | .row _ _,_,_,_,_,_,_=>by simp[uA]
 | .prt _ _,_,_,_,_,w5_,_=>by
  obtain⟨_,_,_,_,hd,_⟩:=w5_;simp only[uA]; omega
 | .prb _ _ _ b,_,_,_,_,w5_,h0=>by
  obtain⟨_,_,_,_,_,_,_,hd,_,_,_,_,_,hi,_⟩:=w5_;have:=yc hi (by omega);simp only[uA];omega
theorem EM {f:Cf} {dq:Int} {ps:List AV} {y:Tx} {u:Int} (h:Ii f dq ps y u):∀ c cs,ps≠.int c::cs:=by
 obtain⟨L,rfl,_⟩:=h;intro c cs h
 cases L<;>simp[Pt.av] at h
theorem BF {f:Cf} (hB:nU f) {tl:Nat} {n:Int} {c:Nat} (hc:c<127) {μ:Mu} (ht:sn μ tl n):∀ {b:Bd} {N p:Nat} {dq rq:Int} {x:Tx} {u:Int} {k:Nat},Iv f b dq rq x u→0≤dq→x.length<900→3*uA b≤k→N≤μ.length→tl<N→kt f tl μ b N p dq rq→ke f tl N p dq rq k c μ b (bx f n c b dq rq)
 | .non,_,_,_,_,_,_,_,_,_,_,_,_,_,_=>HD
 | .len _ _,_,_,_,_,_,_,_,hi,_,hx,_,hN,htl,h=>by
  obtain⟨rfl,_⟩:=hi;exact GI ht hN htl (by omega) h
 | .rst _ _,_,_,_,_,_,_,_,hi,_,hx,_,hN,htl,h=>by
  obtain⟨rfl,_⟩:=hi;exact HA ht hN htl (by omega) h
 | .size ts left t false,_,_,_,_,_,_,_,hi,_,hx,_,hN,htl,h=>by
  obtain⟨_,_,_,_,_,_,rfl⟩:=hi;rw[q02,q02] at hx;exact Ct ht hN htl (by omega) h
 | .size ts left t true,_,_,_,_,_,_,_,hi,_,hx,_,hN,htl,h=>by
  obtain⟨_,_,_,_,hn,h0,rfl⟩:=hi;rw[q02,q02] at hx;have h0:=h0 rfl;refine Ck ht hN htl (by omega) h0 ?_ h
  rcases hn with hn|⟨j,_,_,hv⟩
  ·exact absurd hn h0
  ·have hv:fW 16 t=j:=hv
   omega
 | .piece ts left m t false,_,_,_,_,_,_,_,hi,_,hx,_,hN,htl,h=>by
  obtain⟨_,_,_,_,_,_,_,_,rfl⟩:=hi;rw[q02,q02] at hx;exact z9 ht hN htl (by omega) h
 | .piece ts left m t true,_,_,_,_,_,_,_,hi,_,hx,_,hN,htl,h=>by
  obtain⟨_,_,_,_,_,_,_,hm,rfl⟩:=hi;simp only[q02] at hx;have:=uK ts;exact zh ht hN htl (by omega) (by omega) (hm rfl) h
 | .trail ts left t s,_,_,_,_,_,_,_,hi,_,hx,_,hN,htl,h=>by
  obtain⟨_,_,_,_,_,z,hz,rfl⟩:=hi;simp only[q02] at hx;exact AK hB ht hN htl hz (by omega) h
 | .row ps rt,_,_,_,_,_,_,_,hi,_,_,_,hN,htl,h=>by
  obtain⟨_,_,_,hr,_⟩:=hi;exact FC hr ht hN htl h
 | .prt ps s,_,_,_,_,_,_,_,hi,h0,hx,hk,hN,htl,h=>by
  obtain⟨y,u',z,hp,_,_,hz,_,rfl⟩:=hi;have:=xO hp;simp only[q02] at hx;simp only[uA] at hk;exact HH hB (EM hp) hc h0 (by omega) (by omega) ht hN htl hz (by omega) h
 | .prb ps fp en b,N,p,dq,rq,_,_,k,hi,h0,hx,hk,hN,htl,h=>by
  have hi0:=hi;obtain⟨y,u',qs,er,z,u2,hp,hd,hf,hq,he,hm,hw,hi,hu,hx'⟩:=hi;subst hf hx';have hpl:=xO hp;simp only[q02] at hx;simp only[uA] at hk;have hrl:=sL qs;obtain⟨lp,rx,fm,fl,lf,row,er',b',M,hN',hM,hP,hL,hne,hx1,hFm,hfs,hlf,hS⟩:=h;obtain⟨j,hj⟩:∃ j,k=j+3:=⟨k-3,by omega⟩;subst hj;obtain⟨hMb,fs,hcls⟩:=j4 hS;have hbl:=fY hcls;rw[← q21 (f:=fS)] at hi;have ih:=BF hB (n:=n) (c:=c) hc ht (k:=j) hi (by omega) (by omega) (by omega) (by omega) (by omega) hS;simp only[bx]
  cases hs:bx f n c b (dq+1) (f.b3-(qs.map fS).length) with
  | none=>
   rw[hs] at ih;have ef:=zg (j+1) hFm hcls (tu (j+1) b) ih (ZC _);exact tB (j+2) hP hFm ef
  | some q=>
   obtain⟨n',b2⟩:=q;rw[hs] at ih;obtain⟨ν,e,hS',ht',hkp,hlen,hIL⟩:=ih;have ef:=zg (j+1) hFm hcls (tu (j+1) b) e (Es e)
   have kI:∀ {l:Nat} {q:Nat×List (Nat×AV)},af μ l=some q→l<M→q.1≠11→af ν l=some q:=fun {l q} h hl hq=>by
    have hne:l≠tl:=cJ (C:=q.1) (fs:=q.2) h ht hq;have e:=hkp l hl hne;unfold af at h⊢;rw[e]; exact h
   have kL:∀ {l:Nat} {q:List AV},μ[l]?=some (.lst q)→l<M→ν[l]?=some (.lst q):=fun {l q} h hl=>by
    rw[hkp l hl (eY h ht)]; exact h
   obtain⟨u3,i3,_,_⟩:=uM hB hc hi (by omega) (by omega) hs;simp only[q48];exact Br hB (b:=b2) (M:=M) (z:=z++[c]) (u:=u3) rfl rfl hP ⟨_,hFm⟩ hL ef hN' hM hne (kI hP hM.1 (by simp)) (kL hL hM.2.1) (kI hx1 hM.2.2.1 (by simp[MK.cls])) (kI hFm hM.2.2.2.1 (by simp)) (kI hfs hM.2.2.2.2.1 (by simp)) (kL hlf hM.2.2.2.2.2)
    hS' i3 (by simp; omega) (by omega) (by simp; omega) ht' htl (fun l hl hn=>hkp l (by omega) hn) hlen (EM hp) hIL
end My
namespace My
open L2 AL
variable {μ:Mu} {a:Nat} {t:Tx} {c:Nat}
variable {r nm hd x:Nat} {bk:AV} {nq:List Tx} {M R:Int} {cl:Bool} {ct:Tx} {vc mk x2:Nat} {k:MK} {vt:Tx} {i lp:Nat} {R0:Int} {en row er:AV} {ps:List AV}
theorem ib.etc (h:ib μ r nm hd x bk nq M R t cl ct) (hl:t.length<10000) (hk:MK.ok (.name M R nq)) {f:Cf} (hf:f.nq=nq):bO [.loc r] μ=.ok (v7 f (t++nS M R nq t)) μ:=by
 have ho:af μ r=_:=h.f;have e:=Lr h.f h.n hl hk;obtain⟨y,hy⟩:∃ y,y=t++nS M R nq t:=⟨_,rfl⟩;rw[← hy] at e⊢
 have z2:(2:Nat)≤cE:=by decide
 unfold bO v7;rw[hf]
 by_cases h1:y∈nq
 ·rw[if_pos h1]
  by_cases h2:y=li
  ·have h2':y=[108,101,110,103,116,104]:=h2
   simp[-lR,ho,e,ik,h1,← h2',z2]
  ·have h2':¬ y=[108,101,110,103,116,104]:=h2
   simp[-lR,ho,e,ik,h1,h2',z2]
 ·rw[if_neg h1]
  simp[-lR,ho,e,ik,h1]
theorem sj {fs:List (Nat×AV)} {v:AV} (h:jr μ i bk R0 nq lp en (.loc r) er) (hr:af μ r=some (9,fs)) (e:bO [.loc r] μ=.ok v μ):cx [.loc i] μ=.ok v μ:=by
 have ho:af μ i=some (10,[(30,bk),(24,.int R0),(25,kh nq),(34,.loc lp),(35,en),(36,.loc r),(37,er)]):=h;unfold cx;simp[ho,hr,e]
theorem D4 {f:Cf} {n N:Nat} (hk:∀ R,MK.ok (.name f.b1 R f.nq)) (hn:n<1000):∀ {s:St},Ok f n s→zV N f μ i lp s→cx [.loc i] μ=.ok (mq f s) μ
 | ⟨ps,en,.idle⟩,_,w2_=>by
  obtain⟨hp,hF⟩:=w2_;exact vh hF
 | ⟨ps,en,.name t⟩,w1_,w2_=>by
  obtain⟨a,b,d⟩:=w1_;obtain⟨hp,hen,r,nm,hd,x,hM,hF,hR⟩:=w2_;simp only[yw] at d;exact sj hF hR.f (hR.etc (by omega) (hk _) rfl)
 | ⟨ps,en,.colon t⟩,w1_,w2_=>by
  obtain⟨a,b,d⟩:=w1_;obtain⟨hp,hen,r,nm,hd,x,hM,hF,hR⟩:=w2_;simp only[yw] at d;have e:=hR.etc (by omega) (hk _) (f:=f) rfl;have h0:nS f.b1 (f.rm ps) f.nq t=[]:=if_pos d.2;rw[h0,q31] at e;exact sj hF hR.f e
 | ⟨ps,en,.val t vt⟩,w1_,w2_=>by
  obtain⟨a,b,d⟩:=w1_;obtain⟨hp,hen,r,nm,hd,vc,mk,x2,hM,hF,hR⟩:=w2_;simp only[yw] at d;exact sj hF hR.f (hR.etc (by omega) (by omega) (sB _ _ _ _).2 d.2.1)
 | ⟨ps,en,.clo t vt⟩,w1_,w2_=>by
  obtain⟨a,b,d⟩:=w1_;obtain⟨hp,hen,r,nm,hd,vc,mk,x2,hM,hF,hR⟩:=w2_;simp only[yw] at d;exact sj hF hR.f (hR.etc (by omega) (by omega) (sB _ _ _ _).2 d.2.1)
 | ⟨ps,en,.e1⟩,_,w2_=>by
  obtain⟨hp,e,hM,hF,hR⟩:=w2_;exact vh hF
 | ⟨ps,en,.e2⟩,_,w2_=>by
  obtain⟨hp,e,hM,hF,hR⟩:=w2_;exact vh hF
theorem C1 {en' er' row':AV} {dq:Int} {p tl fl:Nat} {v:AV} {μ1:Mu} {bd w:AV} (h:ur μ p bk dq tl fl bd) (hf:jr μ fl bk R0 nq lp en' row' er') (hp:bu μ lp=some ps) (hl:ps.length<1000) (e1:cx [.loc fl] μ=.ok w μ)
  (e:dA [w,bk,.int (R0-ps.length),.int dq,.loc tl] μ=.ok v μ1):bo [.loc p] μ=.ok v μ1:=by
 have ho:af μ p=some (17,[(30,bk),(44,.int dq),(45,.loc tl),(48,.loc fl),(49,bd)]):=h;have hof:af μ fl=some (10,_):=hf;have e2:=rZ hf hp hl;have hg:iq μ (.ok v μ1)=.ok v μ1:=jP e;unfold bo;simp[ho,hof,e1,e2,e,hg]
end My
namespace My
open L2 AL
theorem Db {M R:Int} {nq:List Tx} (hE:∀ e∈nq,e∈kB) (t:Tx):(nS M R nq t).length≤6:=by
 unfold nS;split
 ·simp
 ·split
  ·simp
  ·split
   ·rename_i e hf
    have:=(qq e (hE e (q63 hf))).2.2;simp; omega
   ·simp
theorem sd (f:Cf) (t vt:Tx):((f.vk t).aw vt).length≤3:=by
 unfold Cf.vk vk;split
 ·split
  ·simp only[MK.aw]; split<;>simp
  ·simp[MK.aw,xo]
 ·simp only[MK.aw]; split<;>simp
theorem pU {f:Cf} (hE:∀ e∈f.nq,e∈kB) (ps:List AV):∀ ph:Ph,(mr f ps ph).length≤15
 | .idle=>by simp[mr]
 | .name t=>by
  have h1:=Db (M:=f.b1) (R:=f.rm ps) hE t;have h2:=sd f (t++nS f.b1 (f.rm ps) f.nq t) [];simp[mr]; omega
 | .colon t=>by
  have h2:=sd f t [];simp[mr]; omega
 | .val t vt=>by
  have h2:=sd f t vt;simp[mr]; omega
 | .clo t vt=>by
  have h2:=sd f t vt;simp[mr]; omega
 | .e1=>by simp[mr]
 | .e2=>by simp[mr]
theorem xQ {f:Cf} (hG:Gd f):∀ {s:St} {x:Tx},FI f s x→∃ er,yB f (mq f s) er
 | ⟨ps,en,.idle⟩,_,w2_=>by
  obtain⟨qs,ey,_,_,he,_⟩:=w2_;exact⟨ey,he⟩
 | ⟨ps,en,.name t⟩,_,_=>by
  simp only[mq,v7];split
  ·rename_i h
   exact⟨_,.inr ⟨_,0,rfl,h,rfl,fun _=>by simpa using hG.m0,fun _=>rfl⟩⟩
  ·exact⟨[],.inl ⟨rfl,rfl⟩⟩
 | ⟨ps,en,.colon t⟩,_,_=>by
  simp only[mq,v7];split
  ·rename_i h
   exact⟨_,.inr ⟨_,0,rfl,h,rfl,fun _=>by simpa using hG.m0,fun _=>rfl⟩⟩
  ·exact⟨[],.inl ⟨rfl,rfl⟩⟩
 | ⟨ps,en,.val t vt⟩,_,w2_=>by
  obtain⟨qs,ey,hp,_,_,_,_,_,_,_,hv⟩:=w2_;simp only[mq];exact due_en hG hv
 | ⟨ps,en,.clo t vt⟩,_,w2_=>by
  obtain⟨qs,ey,hp,_,_,_,_,_,_,_,hv,_⟩:=w2_;simp only[mq];exact due_en hG hv
 | ⟨ps,en,.e1⟩,_,w2_=>by
  obtain⟨qs,ey,_,_,he,_⟩:=w2_;exact⟨ey,he⟩
 | ⟨ps,en,.e2⟩,_,w2_=>by
  obtain⟨qs,ey,_,_,he,_⟩:=w2_;exact⟨ey,he⟩
where
 due_en {f:Cf} (hG:Gd f) {t vt:Tx} (hv:MI (f.vk t) vt):∃ er,yB f (ku f.nq t (f.vk t) vt) er:=by
  unfold ku;split
  ·rename_i he
   split
   ·rename_i hL
    subst hL
    have hvk:f.vk li=.num 10 f.m:=by simp[Cf.vk,vk,he]
    rw[hvk] at hv⊢
    rcases hv with hv|⟨n,hn,_,hv⟩
    ·subst hv
     exact⟨_,.inr ⟨_,0,rfl,he,rfl,fun _=>by simpa using hG.m0,fun _=>rfl⟩⟩
    ·have hv:fW 10 vt=n:=hv
     exact⟨_,.inr ⟨_,n,by rw[MK.told,hv],he,rfl,fun _=>hn,fun h=>absurd rfl h⟩⟩
   ·exact⟨_,.inr ⟨_,0,rfl,he,rfl,fun _=>by simpa using hG.m0,fun _=>rfl⟩⟩
  ·exact⟨[],.inl ⟨rfl,rfl⟩⟩
theorem vD {f:Cf} (hB:nU f) {R:Int} {es:List Tx} {en:AV} {er:Tx} (h:yB (f.at R es) en er):(Ap en).length≤40:=by
 rcases h with ⟨rfl,_⟩|⟨nm,k,rfl,hm,_,hk,hk0⟩
 ·simp[Ap]
 ·simp only[Ap]
  split
  ·rename_i h
   have h1:(k:Int)≤f.m:=hk h;have:=hB.m;simp; omega
  ·split
   ·simp[pL]
   ·split<;>simp
theorem o0 {f:Cf} (hB:nU f):∀ {b:Bd} {dq rq:Int} {x:Tx} {u:Int},Iv f b dq rq x u→(im f b dq rq).length≤60+3*uA b
 | .non,_,_,_,_,_=>by simp[im]
 | .len n t,_,_,_,_,w5_=>by
  obtain⟨_,_,h3,h4⟩:=w5_;have:=hB.m;simp[im]; omega
 | .rst _ _,_,_,_,_,_=>by simp[im]
 | .size ts left t cl,_,_,_,_,w5_=>by
  obtain⟨_,_,_,h3,h4,_,_⟩:=w5_;have hm:=hB.m
  have hl:left≤40:=by have:=h3.2.1; omega
  have hn:fW 16 t≤40:=by
   rcases h4 with rfl|⟨j,hj,_,hv⟩
   ·simp[fW]
   ·have hv:fW 16 t=j:=hv
    omega
  have ha:((MK.num 16 left).aw t).length≤1:=by simp only[MK.aw]; split<;>simp
  simp only[im];split
  ·simp[pL]; omega
  ·simp; omega
 | .piece ts left n t cl,_,_,_,_,w5_=>by
  obtain⟨_,_,_,h3,h4,h5,h6,_⟩:=w5_;have hm:=hB.m
  have hl:left≤40:=by have:=h3.2.1; omega
  simp[im,MK.aw,pL]; omega
 | .trail _ _ _ s,_,rq,_,_,_=>by
  have:=pU (f:=f.at rq []) (by simp[Cf.at]) s.ps s.ph;simp only[im]; omega
 | .row ps rt,_,_,_,_,_=>by
  simp only[im];split
  ·simp; omega
  ·split
   ·simp; omega
   ·simp; omega
 | .prt ps s,dq,_,_,_,w5_=>by
  obtain⟨_,_,z,_,_,_,hz,_⟩:=w5_;have h1:=pU (f:=f.at f.b3 (kR (dq+1))) (lx _).1 s.ps s.ph;obtain⟨er,he⟩:=xQ (yg hB (dq+1)) hz;have h2:=vD hB he;simp[im]; omega
 | .prb ps fp en b,dq,_,_,_,w5_=>by
  obtain⟨_,_,qs,_,_,_,_,_,hf,_,_,_,_,hi,_⟩:=w5_;subst hf;rw[← q21 (f:=fS)] at hi;have:=o0 hB hi;simp only[im,uA,q02,q37,q60];omega
def Ps (k:Nat) (b:Bd):List AV→Mu→Rs AV:=match b.cls with
 | 12=>am
 | 13=>az
 | 14=>am
 | 15=>ak
 | _=>ao k
theorem uP (k:Nat) (b:Bd):q28 b.cls [(12,am),(13,az),(14,am),(15,ak),(16,(ao k))]=some (Ps k b):=by
 cases b<;>rfl
theorem uJ (p:Nat) (μ:Mu):am [.loc p] μ=.ok (.str []) μ:=by
 unfold am;simp
theorem A2 {f:Cf} (hG:Gd f) (R:Int):MK.ok (.name f.b1 R f.nq):=⟨hG.el,fun e he=>by have:=(qq e (hG.E e he)).2.2; omega⟩
theorem vP (cl:Bool):[59,10].drop (Ef cl).length=[59,10].drop (if cl then 1 else 0):=by cases cl<;>rfl
theorem FH {f:Cf} (hB:nU f) {tl:Nat} {dq rq:Int} {k:Nat} {μ:Mu} {b:Bd} {p:Nat} (hb:∃ en er es R,b=rR f en∧yB (f.at R es) en er∧(∀ e∈es,e∈kB)) (hx:b.cls≠14) (h:kt f tl μ b p p dq rq):Ps (k+1) b [.loc p] μ=.ok (.str (im f b dq rq)) μ:=by
 obtain⟨n1,n2,n3,n4,n5,n6⟩:=sN;have hm0:=hB.m0;have hm:=hB.m;obtain⟨en,er,es,R,rfl,he,hE⟩:=hb
 rcases he with ⟨rfl,_⟩|⟨nm,j,rfl,hm',_,hk,hk0⟩
 ·exact uJ _ _
 ·rcases NL nm (hE nm hm') with rfl|rfl|rfl|rfl
  ·simp only[rR,if_true] at h⊢
   obtain⟨a,_,h2,h3⟩:=h;have hj:(j:Int)≤f.m:=hk rfl;exact Fc h2 h3 (by simp) ⟨by omega,by omega⟩
  ·simp only[rR,n1,if_false,if_true] at h⊢
   obtain⟨lt,cz,tr,lr,mk,x,_,hP,hC⟩:=h;have e:=xi hP.b hC (by simp) (by simp[Ef]) trivial (.inr rfl) rfl hP.t (jr.awI hP.t) (by simp)
   have:ak [.loc p] μ=.ok (.str (im f (.size [] f.m [] false) dq rq)) μ:=by
    rw[e];simp[im,fW,Ef]
   exact this
  ·simp only[rR,n2,n4,if_false,if_true] at h⊢
   obtain⟨lp,_,hP,_⟩:=h;exact Bp k hP
  ·simp only[rR,n3,n5,n6,if_false] at hx
   exact absurd rfl hx
theorem DD {f:Cf} {R dq:Int} {en:AV} {er:Tx} (hd:dq≠0) (h:yB (f.at R (kR dq)) en er):(rR f en).cls≠14:=by
 obtain⟨n1,n2,n3,n4,n5,n6⟩:=sN
 rcases h with ⟨rfl,_⟩|⟨nm,j,rfl,hm',_⟩
 ·simp[rR,Bd.cls]
 ·rcases NL nm ((lx dq).1 nm hm') with rfl|rfl|rfl|rfl
  ·simp[rR,Bd.cls]
  ·simp[rR,Bd.cls,n1]
  ·simp[rR,Bd.cls,n2,n4]
  ·exact absurd hm' (mL hd)
theorem EH {f:Cf} (hB:nU f) {tl fm fl fp M:Nat} {dq:Int} {k:Nat} {μ:Mu} {s:St} {z:Tx} (hd:dq≠0) (hz:FI (f.at f.b3 (kR dq)) s z) (hl:z.length<990) (hF:ur μ fm f.bok dq tl fl .non) (hS:zV M (f.at f.b3 (kR dq)) μ fl fp s) :
  cf (k+2) [.loc fm] μ=.ok (.str (mr (f.at f.b3 (kR dq)) s.ps s.ph++Ap (mq (f.at f.b3 (kR dq)) s))) μ:=by
 have hG:=yg hB dq;obtain⟨row,er,hfs⟩:=ng hS;have hok:=uj hz;have e1:=BM (A2 hG) (n:=z.length) (by omega) hok hS;have e2:=D4 (A2 hG) (n:=z.length) (by omega) hok hS;obtain⟨er',he⟩:=xQ hG hz;obtain⟨u,eb,hsim,_⟩:=xK (dq:=dq) (rq:=f.b3-s.ps.length) (tl:=tl) (lx dq).1 he μ;have hb:=hsim (μ++u) (fun l _ _=>rfl);obtain⟨_,fs,hcls⟩:=j4 hb;have ea:=FH hB (k:=k) ⟨_,_,_,_,rfl,he,(lx dq).1⟩ (DD hd he) hb;have hpl:(s.ps.length:Nat)≤z.length:=hok.1
 have hq:(f.b3-s.ps.length:Int)≤100:=by have:=hB.b3; omega
 have h0:0≤(f.b3-s.ps.length:Int):=by
  obtain⟨qs,ey,q1,q2,_⟩:=hz;have q2:(qs.length:Int)≤f.b3:=q2.2;rw[q1,q21];omega
 obtain⟨_,_,m3⟩:=vR (dq:=dq) (lx dq).1 (fun hr=>Decidable.byContradiction fun hne=>mL hne hr) he hB (f.b3-s.ps.length) h0 hq;rw[m3] at ea;have hy:=pU (f:=f.at f.b3 (kR dq)) (lx dq).1 s.ps s.ph;have hw:=vD hB he;exact F1 (k+1) hF hfs e1 (by omega) (C1 hF hfs (nC hS.1) (by omega) e2 eb) hcls (uP (k+1) _) ea (by omega)
theorem BI {f:Cf} (hB:nU f) {tl:Nat} {μ:Mu} {n:Int} (ht:sn μ tl n):∀ {b:Bd} {N p:Nat} {dq rq:Int} {x:Tx} {u:Int} {k:Nat},Iv f b dq rq x u→0≤dq→x.length<900→2*uA b+2≤k→kt f tl μ b N p dq rq→Ps (k+1) b [.loc p] μ=.ok (.str (im f b dq rq)) μ
 | .non,_,_,_,_,_,_,_,_,_,_,_,_=>uJ _ _
 | .len m t,_,_,_,_,_,_,_,w8_,_,hx,_,w12_=>by
  obtain⟨rfl,_,h3,h4⟩:=w8_;obtain⟨a,_,h2,h5⟩:=w12_;have hm:=hB.m;exact Fc h2 h5 (by omega) ⟨by omega,by omega⟩
 | .rst _ _,_,_,_,_,_,_,_,_,_,_,_,_=>uJ _ _
 | .size ts left t cl,_,_,dq,rq,_,_,_,w8_,_,hx,_,w12_=>by
  obtain⟨_,_,_,h3,h4,_,hx'⟩:=w8_;obtain⟨lt,cz,tr,lr,mk,x,_,hP,hC⟩:=w12_;subst hx';simp only[q02] at hx;have hm:=hB.m
  have hl:left≤40:=by have:=h3.2.1; omega
  have hn:0≤fW 16 t∧fW 16 t≤40:=by
   rcases h4 with rfl|⟨j,hj,_,hv⟩
   ·simp[fW]
   ·have hv:fW 16 t=j:=hv
    omega
  have hct:(Ef cl).length<100:=by cases cl<;>simp[Ef]
  show ak _ _=_
  by_cases hp:0<fW 16 t
  ·have e:=GU hP.b hC (by omega) hct trivial (.inr rfl) rfl hp (by omega)
   rw[e];simp only[im,if_pos hp,vP]
  ·have h0:fW 16 t=0:=by omega
   have e:=xi hP.b hC (by omega) hct trivial (.inr rfl) (by rw[MK.told,h0]) hP.t (jr.awI hP.t) (by simp);rw[e];simp only[im,if_neg hp,vP]
 | .piece ts left m t cl,_,_,dq,rq,_,_,_,w8_,_,hx,_,w12_=>by
  obtain⟨_,_,_,h3,h4,h5,h6,_,hx'⟩:=w8_;obtain⟨lt,cz,tr,lr,pz,mk,x,_,hP,hC⟩:=w12_;subst hx';simp only[q02] at hx;have hm:=hB.m
  have hl:left≤40:=by have:=h3.2.1; omega
  have hct:(Ef cl).length<100:=by cases cl<;>simp[Ef]
  have e:=FM hP.b hC (by omega) hct ⟨by omega,by omega⟩;show ak _ _=_;rw[e];simp only[im,vP]
 | .trail ts left t s,_,_,dq,rq,_,_,_,w8_,_,hx,_,w12_=>by
  obtain⟨_,_,_,_,h4,z,hz,hx'⟩:=w8_;obtain⟨lt,cz,tr,lr,mk,x,M,left',_,hM,hP,hL,hne,hC,hS⟩:=w12_;subst hx' h4;simp only[q02] at hx;obtain⟨row,er,hfs⟩:=ng hS;have hG:=D8 hB rq;have e1:=BM (A2 hG) (n:=z.length) (by omega) (uj hz) hS;have hy:=pU (f:=f.at rq []) (by simp[Cf.at]) s.ps s.ph
  have h0:fW 16 [48]=0:=by simp[fW,DZ 48 (by decide)]
  have e:=xi hP hC (by simp) (by simp) trivial (.inr rfl) (by rw[MK.told,h0]) hfs e1 (by omega);show ak _ _=_;rw[e];simp[im,MK.aw]
 | .row ps [],_,_,_,_,_,_,k,_,_,_,_,w12_=>by
  obtain⟨lp,_,hP,_⟩:=w12_;exact Bp k hP
 | .row ps (r::rt),_,p,dq,rq,_,_,k,hi,h0,_,hk,w12_=>by
  obtain⟨lp,rx,_,hP,hL,hx⟩:=w12_;obtain⟨y,u',_,hr,_,_,_⟩:=hi
  have hrr:(r=45∧rt.length<100)∨(r=43∧rt.length<100):=by
   simp[xB] at hr
   rcases hr with ⟨rfl,rfl⟩|⟨rfl,rfl⟩|⟨rfl,rfl⟩|⟨rfl,rfl⟩|⟨rfl,rfl⟩<;>simp
  rcases hrr with ⟨rfl,hl⟩|⟨rfl,hl⟩
  ·have e:=HR k hP hx hl (by simp[lN])
   show ao _ _ _=_;rw[e];simp[im,lN]
  ·obtain⟨j,rfl⟩:∃ j,k=j+2:=⟨k-2,by omega⟩
   have htl:=fY ht;have en:=wu hP htl;obtain⟨u,hu⟩:∃ u:Mu,u=[qV f.bok (dq+1) tl (μ.length+1) .non,oQ f.bok f.b3 (kR (dq+1)) (μ.length+2) .non .non .non,.lst []]:=⟨_,rfl⟩;rw[show [qV (fV f.b0 f.b1 f.d f.b3 f.m f.b5 f.b6) (dq+1) tl (μ.length+1) .non,oQ (fV f.b0 f.b1 f.d f.b3 f.m f.b5 f.b6) f.b3 (kR (dq+1)) (μ.length+2) .non .non .non,.lst []]=u from hu.symm] at en;have hF:ur (μ++u) μ.length f.bok (dq+1) tl (μ.length+1) .non:=mf (by rw[hu]; simp[qV]);have hS:zV (μ.length+3) (f.at f.b3 (kR (dq+1))) (μ++u) (μ.length+1) (μ.length+2) s0:=⟨by rw[hu]; simp[s0],mf (by rw[hu]; simp[oQ]; rfl)⟩;have ea:=EH hB (k:=j) (dq:=dq+1) (by omega) (xS hB.b30) (by simp) hF hS
   have e:=zw (j+2) hP hx hl (by simp[lN]) en hF ea (by simp[s0,mr,mq,Ap]);show ao _ _ _=_;rw[e];simp[im,lN,s0,mr,mq,Ap]
 | .prt ps s,_,_,dq,rq,_,_,k,w8_,h0,hx,hk,w12_=>by
  obtain⟨y,u',z,hp,_,_,hz,_,hx'⟩:=w8_;obtain⟨lp,rx,fm,fl,fp,M,_,hM,hP,hL,hne,hx1,hFm,hS⟩:=w12_;subst hx';simp only[q02] at hx;obtain⟨j,rfl⟩:∃ j,k=j+2:=⟨k-2,by simp only[uA] at hk; omega⟩;have ea:=EH hB (k:=j) (dq:=dq+1) (by omega) hz (by omega) hFm hS;have hy:=pU (f:=f.at f.b3 (kR (dq+1))) (lx (dq+1)).1 s.ps s.ph;obtain⟨er',he⟩:=xQ (yg hB (dq+1)) hz;have hw:=vD hB he;exact Cy (j+2) hP hFm ea (by rw[q02]; omega)
 | .prb ps fp en b,_,_,dq,rq,_,_,k,w8_,h0,hx,hk,w12_=>by
  obtain⟨y,u',qs,er,z,u2,hp,hd,hf,hq,he,hm,hw,hi,hu,hx'⟩:=w8_;obtain⟨lp,rx,fm,fl,lf,row,er',b',M,hN',hM,hP,hL,hne,hx1,hFm,hfs,hlf,hS⟩:=w12_;subst hf hx';simp only[q02] at hx;simp only[uA] at hk;obtain⟨j,rfl⟩:∃ j,k=j+2:=⟨k-2,by omega⟩;rw[← q21 (f:=fS)] at hi;have ih:=BI hB ht (k:=j) hi (by omega) (by omega) (by omega) hS;obtain⟨_,fs,hcls⟩:=j4 hS;have hln:=o0 hB hi;have hdp:=yc hi (by omega);have hb6:=hB.b6;have ea:=Gx (j+1) hFm hcls (uP (j+1) b) ih;exact Cy (j+2) hP hFm ea (by omega)
def Wf (m:Nat) (ν:Mu):Prop:=∀ i o,i<m→ν[i]?=some o→jU m o=true
theorem wL {m:Nat}:∀ {l:List AV} {d:AV},g8 m l=true→d∈l→kv m d=true
 | a::l,d,h,hm=>by
  simp only[g8,q08] at h
  rcases q32.mp hm with rfl|hm
  ·exact h.1
  ·exact wL h.2 hm
theorem cv {m i C k a:Nat} {ν:Mu} {fs:List (Nat×AV)} (hW:Wf m ν) (h:af ν i=some (C,fs)) (hi:i<m) (hm:(k,AV.loc a)∈fs):a<m:=by
 have hb:=hW i _ hi (iQ h);have:=wL hb (List.mem_map.mpr ⟨_,hm,rfl⟩)
 simpa [kv] using this
theorem cR {m i:Nat} {ν:Mu} {q:Nat×List (Nat×AV)} (h:af ν i=some q) (hi:i<m):af (ν.take m) i=some q:=by
 have e:(ν.take m)[i]?=ν[i]?:=q65 hi;unfold af at h⊢;rw[e];exact h
theorem jT {m i:Nat} {ν:Mu} {q:List AV} (h:ν[i]?=some (.lst q)) (hi:i<m):(ν.take m)[i]?=some (.lst q):=by
 rw[q65 hi];exact h
theorem B9 {m:Nat} {ν:Mu} {r nm hd x:Nat} {bk:AV} {nq:List Tx} {M R:Int} {t:Tx} {cl:Bool} {ct:Tx} (hW:Wf m ν) (hr:r<m) (h:ib ν r nm hd x bk nq M R t cl ct):ib (ν.take m) r nm hd x bk nq M R t cl ct:=by
 have h1:nm<m:=cv (k:=31) hW h.f hr (by simp);have h2:hd<m:=cv (k:=32) hW h.f hr (by simp);have h3:x<m:=cv (k:=28) hW h.h h2 (by simp);exact⟨cR h.f hr,cR h.n h1,cR h.h h2,cR h.x h3⟩
theorem y7 {m:Nat} {ν:Mu} {r nm hd vc mk x2:Nat} {bk:AV} {nq:List Tx} {M R:Int} {t:Tx} {k:MK} {vt:Tx} {cl:Bool} {ct:Tx} (hW:Wf m ν) (hr:r<m) (h:jR ν r nm hd vc mk x2 bk nq M R t k vt cl ct):jR (ν.take m) r nm hd vc mk x2 bk nq M R t k vt cl ct:=by
 have h1:nm<m:=cv (k:=31) hW h.f hr (by simp);have h2:vc<m:=cv (k:=33) hW h.f hr (by simp);have h3:mk<m:=cv (k:=27) hW h.v h2 (by simp);have h4:x2<m:=cv (k:=28) hW h.v h2 (by simp);exact⟨cR h.f hr,cR h.n h1,cR h.v h2,cR h.m h3,cR h.x h4,h.mx,h.nmk⟩
theorem B3 {m M M':Nat} {f:Cf} {ν:Mu} {i lp:Nat} (hW:Wf m ν) (hi:i<m) (hM:M'≤M):∀ {s:St},zV M f ν i lp s→lp<m∧zV M' f (ν.take m) i lp s
 | ⟨ps,en,.idle⟩,w1_=>by
  obtain⟨hp,hF⟩:=w1_;have hl:lp<m:=cv (k:=34) hW hF hi (by simp[qw]);exact⟨hl,jT hp hl,cR hF hi⟩
 | ⟨ps,en,.name t⟩,w1_=>by
  obtain⟨hp,hen,r,nm,hd,x,hN,hF,hR⟩:=w1_;have hl:lp<m:=cv (k:=34) hW hF hi (by simp[qw]);have hr:r<m:=cv (k:=36) hW hF hi (by simp[qw]);exact⟨hl,jT hp hl,hen,r,nm,hd,x,⟨by omega,by omega,by omega,by omega⟩,cR hF hi,B9 hW hr hR⟩
 | ⟨ps,en,.colon t⟩,w1_=>by
  obtain⟨hp,hen,r,nm,hd,x,hN,hF,hR⟩:=w1_;have hl:lp<m:=cv (k:=34) hW hF hi (by simp[qw]);have hr:r<m:=cv (k:=36) hW hF hi (by simp[qw]);exact⟨hl,jT hp hl,hen,r,nm,hd,x,⟨by omega,by omega,by omega,by omega⟩,cR hF hi,B9 hW hr hR⟩
 | ⟨ps,en,.val t vt⟩,w1_=>by
  obtain⟨hp,hen,r,nm,hd,vc,mk,x2,hN,hF,hR⟩:=w1_;have hl:lp<m:=cv (k:=34) hW hF hi (by simp[qw]);have hr:r<m:=cv (k:=36) hW hF hi (by simp[qw]);exact⟨hl,jT hp hl,hen,r,nm,hd,vc,mk,x2,⟨by omega,by omega,by omega,by omega⟩,cR hF hi,y7 hW hr hR⟩
 | ⟨ps,en,.clo t vt⟩,w1_=>by
  obtain⟨hp,hen,r,nm,hd,vc,mk,x2,hN,hF,hR⟩:=w1_;have hl:lp<m:=cv (k:=34) hW hF hi (by simp[qw]);have hr:r<m:=cv (k:=36) hW hF hi (by simp[qw]);exact⟨hl,jT hp hl,hen,r,nm,hd,vc,mk,x2,⟨by omega,by omega,by omega,by omega⟩,cR hF hi,y7 hW hr hR⟩
 | ⟨ps,en,.e1⟩,w1_=>by
  obtain⟨hp,e,hN,hF,hR⟩:=w1_;have hl:lp<m:=cv (k:=34) hW hF hi (by simp[qw]);have hr:e<m:=cv (k:=37) hW hF hi (by simp[qw]);exact⟨hl,jT hp hl,e,by omega,cR hF hi,cR hR hr⟩
 | ⟨ps,en,.e2⟩,w1_=>by
  obtain⟨hp,e,hN,hF,hR⟩:=w1_;have hl:lp<m:=cv (k:=34) hW hF hi (by simp[qw]);have hr:e<m:=cv (k:=37) hW hF hi (by simp[qw]);exact⟨hl,jT hp hl,e,by omega,cR hF hi,cR hR hr⟩
theorem xE {m:Nat} {ν:Mu} {cz mk x:Nat} {k:MK} {t:Tx} {cl:Bool} {ct:Tx} (hW:Wf m ν) (hc:cz<m) (h:mP ν cz mk x k t cl ct):(mk<m∧x<m)∧mP (ν.take m) cz mk x k t cl ct:=by
 have h3:mk<m:=cv (k:=27) hW h.c hc (by simp);have h4:x<m:=cv (k:=28) hW h.c hc (by simp);exact⟨⟨h3,h4⟩,cR h.c hc,cR h.m h3,cR h.y h4,h.mx⟩
theorem Bh {f:Cf} {m:Nat} {ν:Mu} {N p:Nat} {left:Int} {lt cz:Nat} {pc:AV} {tr lr:Nat} {rq:Int} {ts:List Tx} (hW:Wf m ν) (hp:p<m) (h:xh f ν N p left lt cz pc tr lr rq ts):xh f (ν.take m) N p left lt cz pc tr lr rq ts:=by
 have h1:lt<m:=cv (k:=40) hW h.b hp (by simp[tK]);have h2:tr<m:=cv (k:=43) hW h.b hp (by simp[tK]);have h3:lr<m:=cv (k:=34) hW h.t h2 (by simp[qw]);exact⟨cR h.b hp,jT h.l h1,cR h.t h2,jT h.r h3,h.n,h.N⟩
theorem yx {f:Cf} {tl m:Nat} {ν:Mu} (hW:Wf m ν) (hm:m≤ν.length):∀ {b:Bd} {N p:Nat} {dq rq:Int},p<m→kt f tl ν b N p dq rq→kt f tl (ν.take m) b N p dq rq
 | .non,_,_,_,_,hp,w6_=>by
  obtain⟨h1,h2⟩:=w6_;exact⟨h1,cR h2 hp⟩
 | .len _ _,_,_,_,_,hp,w6_=>by
  obtain⟨a,h1,h2,h3⟩:=w6_;exact⟨a,h1,cR h2 hp,cR h3 (cv (k:=39) hW h2 hp (by simp))⟩
 | .rst _ _,_,_,_,_,hp,w6_=>by
  obtain⟨a,h1,h2,h3⟩:=w6_;exact⟨a,h1,cR h2 hp,cR h3 (cv (k:=39) hW h2 hp (by simp))⟩
 | .size _ _ _ _,_,_,_,_,hp,w6_=>by
  obtain⟨lt,cz,tr,lr,mk,x,h1,hP,hC⟩:=w6_;exact⟨lt,cz,tr,lr,mk,x,h1,Bh hW hp hP,(xE hW (cv (k:=41) hW hP.b hp (by simp[tK])) hC).2⟩
 | .piece _ _ _ _ _,_,_,_,_,hp,w6_=>by
  obtain⟨lt,cz,tr,lr,pz,mk,x,h1,hP,hC⟩:=w6_;exact⟨lt,cz,tr,lr,pz,mk,x,h1,Bh hW hp hP,(xE hW (cv (k:=42) hW hP.b hp (by simp[tK])) hC).2⟩
 | .trail _ _ _ s,N,p,_,_,hp,w6_=>by
  obtain⟨lt,cz,tr,lr,mk,x,M,left',hN,hM,hP,hL,hne,hC,hS⟩:=w6_;have h1:lt<m:=cv (k:=40) hW hP hp (by simp[tK]);have h2:tr<m:=cv (k:=43) hW hP hp (by simp[tK]);have h3:cz<m:=cv (k:=41) hW hP hp (by simp[tK]);obtain⟨⟨h4,h5⟩,hC'⟩:=xE hW h3 hC;have hS':=(B3 (M':=min M m) hW h2 (Nat.min_le_left _ _) hS).2;exact⟨lt,cz,tr,lr,mk,x,min M m,left',hN,⟨by omega,by omega,by omega,by omega,by omega,by rw[q39]; omega⟩,cR hP hp,jT hL h1,hne,hC',hS'⟩
 | .row _ [],_,_,_,_,hp,w6_=>by
  obtain⟨lp,h1,hP,hL⟩:=w6_;exact⟨lp,h1,cR hP hp,jT hL (cv (k:=46) hW hP hp (by simp))⟩
 | .row _ (_::_),_,_,_,_,hp,w6_=>by
  obtain⟨lp,rx,h1,hP,hL,hx⟩:=w6_;exact⟨lp,rx,h1,cR hP hp,jT hL (cv (k:=46) hW hP hp (by simp)),cR hx (cv (k:=36) hW hP hp (by simp))⟩
 | .prt _ s,N,p,_,_,hp,w6_=>by
  obtain⟨lp,rx,fm,fl,fp,M,hN,hM,hP,hL,hne,hx,hF,hS⟩:=w6_;have h1:lp<m:=cv (k:=46) hW hP hp (by simp);have h2:rx<m:=cv (k:=36) hW hP hp (by simp);have h3:fm<m:=cv (k:=47) hW hP hp (by simp);have h4:fl<m:=cv (k:=48) hW hF h3 (by simp);have hS':=(B3 (M':=min M m) hW h4 (Nat.min_le_left _ _) hS).2;exact⟨lp,rx,fm,fl,fp,min M m,hN,⟨by omega,by omega,by omega,by omega,by rw[q39]; omega⟩,cR hP hp,jT hL h1,hne,cR hx h2,cR hF h3,hS'⟩
 | .prb _ fp en b,N,p,_,_,hp,w6_=>by
  obtain⟨lp,rx,fm,fl,lf,row,er,b',M,hN,hM,hP,hL,hne,hx,hF,hfs,hlf,hS⟩:=w6_;have h1:lp<m:=cv (k:=46) hW hP hp (by simp);have h2:rx<m:=cv (k:=36) hW hP hp (by simp);have h3:fm<m:=cv (k:=47) hW hP hp (by simp);have h4:fl<m:=cv (k:=48) hW hF h3 (by simp);have h5:b'<m:=cv (k:=49) hW hF h3 (by simp);have h6:lf<m:=cv (k:=34) hW hfs h4 (by simp[qw]);exact⟨lp,rx,fm,fl,lf,row,er,b',M,hN,hM,cR hP hp,jT hL h1,hne,cR hx h2,cR hF h3,cR hfs h4,jT hlf h6,yx hW hm h5 hS⟩
theorem yH (l:Nat) (ns:List Int) (k:Nat) (μ:Mu) (h:bu μ l=some (ns.map .int)):∃ c:Int,dO [.loc l,.int k] μ=.ok (.int c) μ:=by
 by_cases hk:k<ns.length
 ·refine⟨ns[k],?_⟩
  have e:((k:Int)<(ns.length:Int))=True:=by simp; exact_mod_cast hk
  unfold dO;simp[h,ll,hk,q34 hk]
 ·refine⟨0,?_⟩
  have e:¬ ((k:Int)<(ns.length:Int)):=by exact_mod_cast hk
  unfold dO;simp[h,hk]
theorem xI (c k:Int) (μ:Mu):∃ x:Int,0≤x∧x<2147483647∧dW [.int c,.int k] μ=.ok (.int x) μ:=by
 have hp:CP 10 9=true:=by decide+kernel
 have h2:j9 c 2=true:=oE _ _ (by decide)
 have hd2:kf c 2=true:=by simp only[kf]; decide
 have hm9:j9 (c/2) 1000000000=true:=oE _ _ (by decide)
 have h1:mh 7919 k=true:=by
  have:sm 64 7919=true:=by decide+kernel
  simp[mh,this]
 have h3:mh (c+7919*k+1) 48271=true:=by
  have:sm 64 48271=true:=by decide+kernel
  simp[mh,this]
 have h4:∀ y:Int,j9 y 2147483647=true:=fun y=>oE _ _ (by decide)
 obtain⟨z,hz⟩:∃ z,z=(c+7919*k+1)*48271%2147483647:=⟨_,rfl⟩
 have z0:0≤z:=by rw[hz]; exact q80 _ (by decide)
 have z1:z<2147483647:=by rw[hz]; exact q73 _ (by decide)
 have h5:mh z (z/1009+69621)=true:=by
  have:sm 64 (z/1009+69621)=true:=Jc _ (by omega) (by omega);simp[mh,this]
 by_cases hc:c%2=1∧1000000000<c
 ·refine⟨c/2%1000000000,q80 _ (by decide),?_,?_⟩
  ·have:=q73 (c/2) (show(0:Int)<1000000000 by decide)
   omega
  ·unfold dW
   simp[h2,hc.1,hc.2,hp,hd2,hm9]
 ·refine⟨z*(z/1009+69621)%2147483647,q80 _ (by decide),q73 _ (by decide),?_⟩
  unfold dW
  by_cases ha:c%2=1
  ·have hb:¬ 1000000000<c:=fun h=>hc ⟨ha,h⟩
   simp[h2,ha,hb,hp,h1,h3,h4,← hz,Ks,h5]
  ·simp[h2,ha,h1,h3,h4,← hz,Ks,h5]
structure MS (f:Cf) (dq rq:Int) (en:AV) (tl N p:Nat) (μ:Mu) (x:Tx) (b:Bd) (n u:Int):Prop where
 i:Iv f b dq rq x u
 s:kt f tl μ b N p dq rq
 t:sn μ tl n
 e:n+u=f.b5
 n:0≤n
 m:Mt en b
 tl:tl<N
 N:N≤μ.length
theorem tG {f:Cf} (hB:nU f) {dq rq:Int} {en:AV} {tl N p:Nat} {μ:Mu} {x:Tx} {b:Bd} {n u:Int} (h:MS f dq rq en tl N p μ x b n u) (h0:0≤dq):uA b≤3:=by
 have:=yc h.i h0;have:=hB.b6;omega
theorem CI {f:Cf} (hB:nU f) {dq rq:Int} {en:AV} {tl N p:Nat} {μ:Mu} {x:Tx} {b:Bd} {n u:Int} (h:MS f dq rq en tl N p μ x b n u) (h0:0≤dq) (hx:x.length<900) (fo:FE) (ρ:Ev) (hf:fo ρ μ=.ok (.loc p) μ) :
  aD 1 [(12,am),(13,az),(14,am),(15,ak),(16,(ao 40))] fo ag ρ μ=.ok (.str (im f b dq rq)) μ:=by
 have hd:=tG hB h h0;have e:=BI hB h.t (k:=39) h.i h0 hx (by omega) h.s;obtain⟨_,fs,hc⟩:=j4 h.s;have hl:=uP 40 b;simp[-uh,hf,hc,hl,e]
theorem KD {f:Cf} {dq rq:Int} {en:AV} {tl N p:Nat} {μ:Mu} {x:Tx} {b:Bd} {n u:Int} (h:MS f dq rq en tl N p μ x b n u) (hx:x.length<900) (fo:FE) (ρ:Ev) (hf:fo ρ μ=.ok (.loc p) μ) :
  aD 1 [(12,bp),(13,bD),(14,bp),(15,bF),(16,bt)] fo ag ρ μ=.ok (.bl b.whole) μ:=by
 have e:=ER h.i (by omega) h.s;obtain⟨_,fs,hc⟩:=j4 h.s;have hl:=ze b;simp[-uh,hf,hc,hl,e]
theorem IA {f:Cf} {dq rq:Int} {en:AV} {tl N p:Nat} {μ:Mu} {x:Tx} {b:Bd} {n u:Int} (h:MS f dq rq en tl N p μ x b n u) (hx:x.length<900) (hw:b.whole=true) (fo:FE) (ρ:Ev) (hf:fo ρ μ=.ok (.loc p) μ) :
  aD 1 [(12,dJ),(13,bM),(14,ci),(15,bL),(16,bW)] fo ag ρ μ=.ok b.told μ:=by
 have e:=EN h.i (by omega) hw h.s;obtain⟨_,fs,hc⟩:=j4 h.s;have hl:=yF b;simp[-uh,hf,hc,hl,e]
theorem BQ {f:Cf} (hB:nU f) {dq rq:Int} {en:AV} {tl N p:Nat} {μ:Mu} {x:Tx} {b:Bd} {n u:Int} {c:Nat} (hc:c<127) (h:MS f dq rq en tl N p μ x b n u) (h0:0≤dq) (hx:x.length<900) :
  match bx f n c b dq rq with
  | some (n',b')=>∃ ν u',(∀ (fo fk:FE) (ρ:Ev),fo ρ μ=.ok (.loc p) μ→fk ρ μ=.ok (.str [c]) μ→aD 2 [(12,bT),(13,aS),(14,aZ),(15,au),(16,(aH 40))] fo (ac fk ag) ρ μ=.ok (.bl true) ν)∧MS f dq rq en tl N p ν (x++[c]) b' n' u'∧(∀ l,l<N→l≠tl→ν[l]?=μ[l]?)∧μ.length≤ν.length∧As μ ν
  | none=>∀ (fo fk:FE) (ρ:Ev),fo ρ μ=.ok (.loc p) μ→fk ρ μ=.ok (.str [c]) μ→aD 2 [(12,bT),(13,aS),(14,aZ),(15,au),(16,(aH 40))] fo (ac fk ag) ρ μ=.ok (.bl false) μ:=by
 have hd:=tG hB h h0;have hF:=BF hB hc h.t (k:=39) h.i h0 hx (by omega) h.N h.tl h.s;obtain⟨_,fs,hcl⟩:=j4 h.s;have hl:=tu 40 b
 cases hs:bx f n c b dq rq with
 | none=>
  rw[hs] at hF;have hF:sE 40 b [.loc p,.str [c]] μ=.ok (.bl false) μ:=hF;intro fo fk ρ h1 h2;simp[-uh,h1,h2,hcl,hl,hF]
 | some q=>
  obtain⟨n',b'⟩:=q;rw[hs] at hF;obtain⟨ν,e,hS,ht,hkp,hlen,hIL⟩:=hF;obtain⟨u',i',e',nn⟩:=uM hB hc h.i h0 (by omega) hs;have e:sE 40 b [.loc p,.str [c]] μ=.ok (.bl true) ν:=e;refine⟨ν,u',fun fo fk ρ h1 h2=>?_,⟨i',hS,ht,by have:=h.e; omega,nn h.n,yS h.i hs h.m,h.tl,by have:=h.N; omega⟩,hkp,hlen,hIL⟩;simp[-uh,h1,h2,hcl,hl,e]
def pr:Tx:=[59,10,59,10,59,10,58,32,43,45,43,45,108,101,110,103,116,104,112,105,101,99,115,112,97,114,116,114,101,121,120,48,49,50,51,52,53,54,55,56,57,97,98,99,100,101,102,32,121,101,115,65,66,90,126,33]
theorem HJ:∀ c∈pr,c<127:=by decide
theorem F6 (m:Int) (μ:Mu):∃ d,d<127∧cM (.str pr) (.int (m/2%(pr.length:Int))) μ=.ok (.str [d]) μ:=by
 obtain⟨a,h1,h2⟩:=wk pr 0 (pr.length:Int) rfl (m/2) (by decide)
 have z:pr.length≤cE:=by decide
 exact⟨a,HJ a h1,by simp[z,h2]⟩
theorem Df {f:Cf} (hB:nU f) {dq rq:Int} {en:AV} {tl N p l:Nat} {μ:Mu} {x:Tx} {b:Bd} {n u:Int} (h:MS f dq rq en tl N p μ x b n u) (h0:0≤dq) (hx:x.length<800) (cell:Int) (o5 o6 o7 o8:Option AV) :
  ∃ ν x' b' n' u' o5' o6' o7' o8',(aG (bU (cq 2 dW [] (ac (ab 4) (ac (fC (.int 3)) ag))) (dn 5)) (aG (bU (aD 1 [(12,am),(13,az),(14,am),(15,ak),(16,(ao 40))] (ab 0) ag) (dn 6)) (aG (bU (aB cM (ab 2) (aB iK (aB gK (ab 5) (fC (.int 2))) (ko gJ (ac (ab 2) ag)))) (dn 7)) (aG (df (j7 (fT (aB (fU false) (aB iK (ab 5) (fC (.int 2))) (fC (.int 0)))) (fT (aB (fU true) (ab 6) (fC (.str []))))) (bU (aB cM (ab 6) (fC (.int 0))) (dn 7)) dE) (aG (bU (aD 2 [(12,bT),(13,aS),(14,aZ),(15,au),(16,(aH 40))] (ab 0) (ac (ab 7) ag)) (dn 8)) (df (fT (aB (j2 false) (ab 8) (fC (.bl true)))) (bU (aB bK (ab 3) (ab 7)) (dn 3)) (df (ir (fT (aB (j2 true) (ab 8) (fC (.bl false)))) (fT (aB (fU false) (ab 7) (AH yA (ab 6) kQ (lb (fC (.int 1))))))) (aN (fC .non)) dE))))))) [some (.loc p),some (.loc l),some (.str pr),some (.str x),some (.int cell),o5,o6,o7,o8] μ=.ok (.nx [some (.loc p),some (.loc l),some (.str pr),some (.str x'),some (.int cell),o5',o6',o7',o8']) ν∧
   MS f dq rq en tl N p ν x' b' n' u'∧x'.length≤x.length+1∧(∀ l,l<N→l≠tl→ν[l]?=μ[l]?)∧μ.length≤ν.length∧As μ ν:=by
 obtain⟨m,m0,m1,em⟩:=xI cell 3 μ;obtain⟨d,hd,ed⟩:=F6 m μ;have hln:=o0 hB h.i;have hdp:=tG hB h h0;obtain⟨y,hy⟩:∃ y,y=im f b dq rq:=⟨_,rfl⟩
 have zs:pr.length≤cE:=by decide
 have zy:y.length≤cE:=by rw[hy,bV]; omega
 have hm2:j9 m 2=true:=oE _ _ (by decide)
 have hd2:kf m 2=true:=by simp only[kf]; decide
 have hms:j9 (m/2) (pr.length:Int)=true:=oE _ _ (by decide)
 have e1:=fun ρ=>CI hB h h0 (by omega) (ab 0) (some (.loc p)::ρ) (by simp)
 rw[← hy] at e1
 obtain⟨c,hc,e3,hcy⟩:∃ c,c<127∧(df (j7 (fT (aB (fU false) (aB iK (ab 5) (fC (.int 2))) (fC (.int 0)))) (fT (aB (fU true) (ab 6) (fC (.str []))))) (bU (aB cM (ab 6) (fC (.int 0))) (dn 7)) dE) [some (.loc p),some (.loc l),some (.str pr),some (.str x),some (.int cell),some (.int m),some (.str y),some (.str [d]),o8] μ=.ok (.nx [some (.loc p),some (.loc l),some (.str pr),some (.str x),some (.int cell),some (.int m),some (.str y),some (.str [c]),o8]) μ∧True:=by
  by_cases he:m%2=0
  ·cases hyc:y with
   | nil=>exact⟨d,hd,by simp[hm2,he],trivial⟩
   | cons a r=>
    rw[hyc] at zy
    have zy':r.length+1≤cE:=by simpa using zy
    obtain⟨_,_,_,ha⟩:=pX hB (n:=n) h.i h0 (hy.symm.trans hyc)
    have hat:L2.atI (a::r) 0=some a:=by
     have:=ll (a::r) 0
     simpa using this
    exact⟨a,ha,by simp[hm2,he,zy',hat],trivial⟩
  ·exact⟨d,hd,by simp[hm2,he],trivial⟩
 have hF:=BQ hB hc h h0 (by omega)
 have r0:∀ g,aG (bU (cq 2 dW [] (ac (ab 4) (ac (fC (.int 3)) ag))) (dn 5)) g [some (.loc p),some (.loc l),some (.str pr),some (.str x),some (.int cell),o5,o6,o7,o8] μ=g [some (.loc p),some (.loc l),some (.str pr),some (.str x),some (.int cell),some (.int m),o6,o7,o8] μ:=fun g=>dg (by simp[em])
 have r1:∀ g,aG (bU (aD 1 [(12,am),(13,az),(14,am),(15,ak),(16,(ao 40))] (ab 0) ag) (dn 6)) g [some (.loc p),some (.loc l),some (.str pr),some (.str x),some (.int cell),some (.int m),o6,o7,o8] μ=g [some (.loc p),some (.loc l),some (.str pr),some (.str x),some (.int cell),some (.int m),some (.str y),o7,o8] μ:=fun g=>dg (by simp[-jy,e1])
 have r2:∀ g,aG (bU (aB cM (ab 2) (aB iK (aB gK (ab 5) (fC (.int 2))) (ko gJ (ac (ab 2) ag)))) (dn 7)) g [some (.loc p),some (.loc l),some (.str pr),some (.str x),some (.int cell),some (.int m),some (.str y),o7,o8] μ=g [some (.loc p),some (.loc l),some (.str pr),some (.str x),some (.int cell),some (.int m),some (.str y),some (.str [d]),o8] μ:=fun g=>dg (by simp[zs,hd2,hms] at ed⊢; simp[ed])
 have r3:∀ g,aG (df (j7 (fT (aB (fU false) (aB iK (ab 5) (fC (.int 2))) (fC (.int 0)))) (fT (aB (fU true) (ab 6) (fC (.str []))))) (bU (aB cM (ab 6) (fC (.int 0))) (dn 7)) dE) g [some (.loc p),some (.loc l),some (.str pr),some (.str x),some (.int cell),some (.int m),some (.str y),some (.str [d]),o8] μ=g [some (.loc p),some (.loc l),some (.str pr),some (.str x),some (.int cell),some (.int m),some (.str y),some (.str [c]),o8] μ:=fun g=>dg e3
 rw[r0,r1,r2,r3]
 cases hs:bx f n c b dq rq with
 | none=>
  rw[hs] at hF;have e4:=hF (ab 0) (ab 7) [some (.loc p),some (.loc l),some (.str pr),some (.str x),some (.int cell),some (.int m),some (.str y),some (.str [c]),o8] (by simp) (by simp)
  have hne:¬ [c]=y.take 1:=fun hh=>by
   cases hyc:y with
   | nil=>rw[hyc] at hh; simp at hh
   | cons a r=>
    rw[hyc] at hh;simp at hh;subst hh;obtain⟨b',hb',_⟩:=pX hB (n:=n) h.i h0 (hy.symm.trans hyc);rw[hb'] at hs;cases hs
  have hcut:kG y none (some 1)=y.take 1:=HB y 1;refine⟨μ,x,b,n,u,some (.int m),some (.str y),some (.str [c]),some (.bl false),?_,h,by omega,fun _ _ _=>rfl,q11 _,fun _ _ _ hq=>hq⟩
  have r4:∀ g,aG (bU (aD 2 [(12,bT),(13,aS),(14,aZ),(15,au),(16,(aH 40))] (ab 0) (ac (ab 7) ag)) (dn 8)) g [some (.loc p),some (.loc l),some (.str pr),some (.str x),some (.int cell),some (.int m),some (.str y),some (.str [c]),o8] μ=g [some (.loc p),some (.loc l),some (.str pr),some (.str x),some (.int cell),some (.int m),some (.str y),some (.str [c]),some (.bl false)] μ:=fun g=>dg (by simp[-jy,e4])
  rw[r4]
  have hb:([c]==y.take 1)=false:=by simp[hne]
  simp[zy,hcut,hb]
 | some q=>
  obtain⟨n',b'⟩:=q;rw[hs] at hF;obtain⟨ν,u',e4,h',hkp,hlen,hIL⟩:=hF;have e4:=e4 (ab 0) (ab 7) [some (.loc p),some (.loc l),some (.str pr),some (.str x),some (.int cell),some (.int m),some (.str y),some (.str [c]),o8] (by simp) (by simp);refine⟨ν,x++[c],b',n',u',some (.int m),some (.str y),some (.str [c]),some (.bl true),?_,h',by simp,hkp,hlen,hIL⟩
  have r4:∀ g,aG (bU (aD 2 [(12,bT),(13,aS),(14,aZ),(15,au),(16,(aH 40))] (ab 0) (ac (ab 7) ag)) (dn 8)) g [some (.loc p),some (.loc l),some (.str pr),some (.str x),some (.int cell),some (.int m),some (.str y),some (.str [c]),o8] μ=g [some (.loc p),some (.loc l),some (.str pr),some (.str x),some (.int cell),some (.int m),some (.str y),some (.str [c]),some (.bl true)] ν:=fun g=>dg (by simp[-jy,e4])
  rw[r4]
  have zx:x.length+1≤cE:=by rw[bV]; omega
  simp[zx]
theorem Ca {f:Cf} (hB:nU f) {dq rq:Int} {en:AV} {tl N p l:Nat} {μ:Mu} {b:Bd} {n u:Int} (h:MS f dq rq en tl N p μ [] b n u) (h0:0≤dq) (cs:List Int) (hcs:cs.length≤63) (hl:μ[l]?=some (.lst (cs.map .int))) (hp:p<μ.length) (hW:Wf μ.length μ) :
  ∃ ν x b' n' u',iH [.loc p,.loc l] μ=.ok (.str x) ν∧MS f dq rq en tl N p ν x b' n' u'∧x.length≤63∧μ.length≤ν.length:=by
 obtain⟨ρ',ν,e,x,b',n',u',o4,o5,o6,o7,o8,hρ,hM,hx,hll,hkp,hlen⟩:=QL (g:=dn 4) (n:=1000000) (l:=l) (ds:=cs.map .int) (ρ:=[some (.loc p),some (.loc l),some (.str pr),some (.str []),none,none,none,none,none]) (μ:=μ) (fb:=(aG (bU (cq 2 dW [] (ac (ab 4) (ac (fC (.int 3)) ag))) (dn 5)) (aG (bU (aD 1 [(12,am),(13,az),(14,am),(15,ak),(16,(ao 40))] (ab 0) ag) (dn 6)) (aG (bU (aB cM (ab 2) (aB iK (aB gK (ab 5) (fC (.int 2))) (ko gJ (ac (ab 2) ag)))) (dn 7)) (aG (df (j7 (fT (aB (fU false) (aB iK (ab 5) (fC (.int 2))) (fC (.int 0)))) (fT (aB (fU true) (ab 6) (fC (.str []))))) (bU (aB cM (ab 6) (fC (.int 0))) (dn 7)) dE) (aG (bU (aD 2 [(12,bT),(13,aS),(14,aZ),(15,au),(16,(aH 40))] (ab 0) (ac (ab 7) ag)) (dn 8)) (df (fT (aB (j2 false) (ab 8) (fC (.bl true)))) (bU (aB bK (ab 3) (ab 7)) (dn 3)) (df (ir (fT (aB (j2 true) (ab 8) (fC (.bl false)))) (fT (aB (fU false) (ab 7) (AH yA (ab 6) kQ (lb (fC (.int 1))))))) (aN (fC .non)) dE))))))))
  (fun k ρ ν=>∃ x b' n' u' o4 o5 o6 o7 o8,ρ=[some (.loc p),some (.loc l),some (.str pr),some (.str x),o4,o5,o6,o7,o8]∧MS f dq rq en tl N p ν x b' n' u'∧x.length≤k∧ν[l]?=some (.lst (cs.map .int))∧(∀ l,l<N→l≠tl→ν[l]?=μ[l]?)∧μ.length≤ν.length)
  ⟨[],b,n,u,none,none,none,none,none,rfl,h,by simp,hl,fun _ _ _=>rfl,q11 _⟩ (by simp; omega) (fun k ρ ν ⟨x,b',n',u',o4,o5,o6,o7,o8,_,_,_,hq,_⟩=>nC hq) (fun k dd ρ ν hd ⟨x,b',n',u',o4,o5,o6,o7,o8,hρ,hM,hx,hq,hkp,hlen⟩=>by
   subst hρ
   have hk:k<cs.length:=by
    have:=(q07.mp hd).1
    simpa using this
   rw[q33,q34 hk] at hd;cases hd;obtain⟨ν2,x2,b2,n2,u2,p5,p6,p7,p8,e2,hM2,hx2,hkp2,hlen2,hIL2⟩:=Df hB (l:=l) hM h0 (by omega) cs[k] o5 o6 o7 o8;refine⟨_,_,_,_,rfl,e2,x2,b2,n2,u2,_,p5,p6,p7,p8,rfl,hM2,by omega,?_,fun l hl hn=>(hkp2 l hl hn).trans (hkp l hl hn),by omega⟩
   cases hcc:cs with
   | nil=>rw[hcc] at hk; simp at hk
   | cons c0 cr=>
    rw[hcc] at hq
    exact hIL2 l c0 _ hq)
 subst hρ
 have hz:iH [.loc p,.loc l] μ=iq μ (.ok (.str x) ν):=by
  have hll':=nC hl;unfold pr at e;unfold iH;simp[hll',e]
 have hx60:x.length≤63:=by simp at hx; omega
 by_cases hc:AC μ (.str x) ν
 ·refine⟨ν.take μ.length,x,b',n',u',?_,?_,hx60,by rw[q39]; omega⟩
  ·rw[hz]
   simp only[iq,if_pos hc]
  ·have hWν:Wf μ.length ν:=fun i o hi ho=>by
    rcases hc.2.2 i hi with h1|⟨o',h1,h2⟩
    ·rw[h1] at ho
     exact hW i o hi ho
    ·rw[h1] at ho
     cases ho;exact h2
   have htl:tl<μ.length:=by have:=h.tl; have:=h.N; omega
   exact⟨hM.i,yx hWν hlen hp hM.s,cR hM.t htl,hM.e,hM.n,hM.m,hM.tl,by rw[q39]; have:=h.N; omega⟩
 ·refine⟨ν,x,b',n',u',?_,hM,hx60,hlen⟩
  rw[hz];simp only[iq,if_neg hc]
theorem zm {en:AV} {b:Bd} (hw:b.whole=true) (hm:Mt en b):∃ nm ds,b.told=.tup (.str nm::ds)∧ds.length≤2∧((en=.non∧nm=m7)∨∃ k,en=.tup [.str nm,.int k]∧nm≠m7∧(nm=li→∃ t,ds=[.str t]∧(t.length:Int)=k)):=by
 obtain⟨n1,n2,n3,n4,n5,n6⟩:=sN
 cases b with
 | non=>exact⟨_,_,rfl,by simp,.inl ⟨hm,rfl⟩⟩
 | len n t=>
  simp only[Bd.whole,decide_eq_true_eq] at hw;exact⟨_,_,rfl,by simp,.inr ⟨n,hm,by decide,fun _=>⟨t,rfl,hw⟩⟩⟩
 | rst n t=>exact⟨_,_,rfl,by simp,.inr ⟨0,hm,by decide,fun h=>absurd h n3⟩⟩
 | trail ts left t s=>exact⟨_,_,rfl,by simp,.inr ⟨0,hm,by decide,fun h=>absurd h n1⟩⟩
 | row ps rt=>exact⟨_,_,rfl,by simp,.inr ⟨0,hm,by decide,fun h=>absurd h n2⟩⟩
 | _=>simp[Bd.whole] at hw
theorem C3 {f:Cf} (hB:nU f) {dq rq:Int} {en:AV} {tl N p:Nat} {μ:Mu} {x:Tx} {b:Bd} {n u:Int} (h:MS f dq rq en tl N p μ x b n u) (h0:0≤dq) (hx:x.length<700) (a0 a1 a2 a3 a4 a5 a6 a7 a8 o11 o12 o13:Option AV) :
  ∃ ν b' n' u' o,m5 1000000 (.s ((im f b dq rq).map fun c=>.str [c])) 0 (dn 11) (aG (df (fT (aB (j2 true) (aD 2 [(12,bT),(13,aS),(14,aZ),(15,au),(16,(aH 40))] (ab 9) (ac (ab 11) ag)) (fC (.bl true)))) (aN (fC (.bl false))) dE) (bU (aB bK (ab 10) (ab 11)) (dn 10))) [a0,a1,a2,a3,a4,a5,a6,a7,a8,some (.loc p),some (.str x),o11,o12,o13] μ=.ok (.nx [a0,a1,a2,a3,a4,a5,a6,a7,a8,some (.loc p),some (.str (x++im f b dq rq)),o,o12,o13]) ν∧
   MS f dq rq en tl N p ν (x++im f b dq rq) b' n' u'∧im f b' dq rq=[]:=by
 obtain⟨y,hy⟩:∃ y,y=im f b dq rq:=⟨_,rfl⟩;have hln:=o0 hB h.i;have hdp:=tG hB h h0;rw[← hy] at hln⊢;obtain⟨ρ',ν,e,b',n',u',o,hρ,hM,ha⟩:=BP (g:=dn 11) (n:=1000000) (ds:=y.map fun c=>AV.str [c]) (ρ:=[a0,a1,a2,a3,a4,a5,a6,a7,a8,some (.loc p),some (.str x),o11,o12,o13]) (μ:=μ) (fb:=(aG (df (fT (aB (j2 true) (aD 2 [(12,bT),(13,aS),(14,aZ),(15,au),(16,(aH 40))] (ab 9) (ac (ab 11) ag)) (fC (.bl true)))) (aN (fC (.bl false))) dE) (bU (aB bK (ab 10) (ab 11)) (dn 10))))
  (fun k ρ ν=>∃ b' n' u' o,ρ=[a0,a1,a2,a3,a4,a5,a6,a7,a8,some (.loc p),some (.str (x++y.take k)),o,o12,o13]∧MS f dq rq en tl N p ν (x++y.take k) b' n' u'∧im f b' dq rq=y.drop k)
  ⟨b,n,u,o11,by simp,by simpa using h,by simp[hy]⟩ (by simp; omega) (fun k dd ρ ν hd ⟨b',n',u',o,hρ,hM,ha⟩=>by
   subst hρ;rw[q33] at hd
   cases hk:y[k]? with
   | none=>rw[hk] at hd; cases hd
   | some c=>
    rw[hk] at hd;cases hd;have hkl:=(q07.mp hk).1
    have hdr:y.drop k=c::y.drop (k+1):=by
     rw[List.drop_eq_getElem_cons hkl];congr 1;rw[q34 hkl] at hk;cases hk
     rfl
    have htk:y.take (k+1)=y.take k++[c]:=by rw[q94,hk]; rfl
    obtain⟨b2,e1,e2,hc⟩:=pX hB (n:=n') hM.i h0 (ha.trans hdr)
    have hxl:(x++y.take k).length<900:=by
     rw[q02,q39];omega
    have hF:=BQ hB hc hM h0 hxl;rw[e1] at hF;obtain⟨ξ,u2,ef,hM2,_,_,_⟩:=hF;have ef:=ef (ab 9) (ab 11) [a0,a1,a2,a3,a4,a5,a6,a7,a8,some (.loc p),some (.str (x++y.take k)),some (.str [c]),o12,o13] (by simp) (by simp)
    have zl:(x++y.take k).length+1≤cE:=by rw[bV]; omega
    obtain⟨w,hw⟩:∃ w,w=x++y.take k:=⟨_,rfl⟩;rw[htk,← List.append_assoc,← hw];rw[← hw] at ef zl hM2;refine⟨_,_,_,_,rfl,?_,b2,n',u2,some (.str [c]),rfl,hM2,e2⟩
    simp[-jy,ef,zl])
 subst hρ;rw[show(y.map fun c=>AV.str [c]).length=y.length from by simp,qa3] at e hM;rw[show(y.map fun c=>AV.str [c]).length=y.length from by simp,List.drop_length] at ha;exact⟨ν,b',n',u',o,e,hM,ha⟩
theorem C7 {f:Cf} (hB:nU f) {dq rq:Int} {en:AV} {tl N p:Nat} {μ:Mu} {x:Tx} {b:Bd} {n u:Int} (h:MS f dq rq en tl N p μ x b n u) (h0:0≤dq) (hx:x.length<700) (a0 a1 a2 a4 a6 o11 o12 o13:Option AV) :
  ∃ μ',aG (df (fT (aB (j2 false) (ab 10) (fC .non))) (aN (fC (.bl false))) dE) (aG (oO 1000000 (rP (aD 1 [(12,am),(13,az),(14,am),(15,ak),(16,(ao 40))] (ab 9) ag)) (dn 11) (aG (df (fT (aB (j2 true) (aD 2 [(12,bT),(13,aS),(14,aZ),(15,au),(16,(aH 40))] (ab 9) (ac (ab 11) ag)) (fC (.bl true)))) (aN (fC (.bl false))) dE) (bU (aB bK (ab 10) (ab 11)) (dn 10)))) (aG (df (ir (fT (aB (j2 true) (aD 1 [(12,bp),(13,bD),(14,bp),(15,bF),(16,bt)] (ab 9) ag) (fC (.bl true)))) (fT (aB (fU true) (aD 1 [(12,am),(13,az),(14,am),(15,ak),(16,(ao 40))] (ab 9) ag) (fC (.str []))))) (aN (fC (.bl false))) dE) (aG (bU (aD 1 [(12,dJ),(13,bM),(14,ci),(15,bL),(16,bW)] (ab 9) ag) (dn 12)) (aG (bU (ug (fT (aB (j2 false) (ab 7) (fC .non))) (fC (.str [110,111,110,101])) (aB cM (ab 7) (fC (.int 0)))) (dn 13)) (aG (df (ir (gz (gI (zN (ab 12)))) (ir (fT (aB (fU true) (aB cM (ab 12) (fC (.int 0))) (ab 13))) (fT (aB (fU true) (cq 1 (cC 40) [] (ac (ab 12) ag)) (ab 10))))) (aN (fC (.bl false))) dE) (aG (df (j7 (fT (aB (fU false) (ab 13) (fC (.str [108,101,110,103,116,104])))) (fT (aB (fU true) (ko gJ (ac (aB cM (ab 12) (fC (.int 1))) ag)) (aB cM (ab 7) (fC (.int 1)))))) (aN (fC (.bl false))) dE) (aN (cq 5 (eK 40) [] (ac (ab 12) (ac (ab 3) (ac (ab 8) (ac (ab 5) (ac (rB (ac (aB cM (ab 3) (fC (.int 5))) ag)) ag))))))))))))) [a0,a1,a2,some f.bok,a4,some (.int dq),a6,some en,some (.int rq),some (.loc p),some (.str x),o11,o12,o13] μ=.ok (.rt (.bl true)) μ':=by
 obtain⟨ν,b',n',u',o,el,hM,ha⟩:=C3 hB h h0 hx a0 a1 a2 (some f.bok) a4 (some (.int dq)) a6 (some en) (some (.int rq)) o11 o12 o13;have hln:=o0 hB h.i;have hdp:=tG hB h h0
 have ew:=fun ρ=>CI hB h h0 (by omega) (ab 9) (a0::a1::a2::some f.bok::a4::some (.int dq)::a6::some en::some (.int rq)::some (.loc p)::ρ) (by simp)
 obtain⟨X,hX⟩:∃ X,X=x++im f b dq rq:=⟨_,rfl⟩;rw[← hX] at el hM
 have hXl:X.length<900:=by rw[hX,q02]; omega
 have hw:=wR hM.i ha;obtain⟨wr,kp⟩:=yM hB hM.i hw (by omega)
 have e1:=fun ρ=>KD hM hXl (ab 9) (a0::a1::a2::some f.bok::a4::some (.int dq)::a6::some en::some (.int rq)::some (.loc p)::ρ) (by simp)
 rw[hw] at e1
 have e2:=fun ρ=>CI hB hM h0 hXl (ab 9) (a0::a1::a2::some f.bok::a4::some (.int dq)::a6::some en::some (.int rq)::some (.loc p)::ρ) (by simp)
 rw[ha] at e2
 have e3:=fun ρ=>IA hM hXl hw (ab 9) (a0::a1::a2::some f.bok::a4::some (.int dq)::a6::some en::some (.int rq)::some (.loc p)::ρ) (by simp)
 obtain⟨nm,ds,hv,hds,hen⟩:=zm hw hM.m
 have zd:ds.length+1≤cE:=by rw[bV]; omega
 have z2:(2:Nat)≤cE:=by decide
 have z7:(7:Nat)≤cE:=by decide
 have hdq:za f dq≤3:=by
  have:=hB.b6;unfold za;omega
 have wr:=wr (40-(za f dq+2));rw[show 40-(za f dq+2)+(za f dq+1)+1=40 by omega] at wr;have kp:=kp (40-(za f dq+2));rw[show 40-(za f dq+2)+(za f dq+1)+1=40 by omega] at kp;have hkp:=kp (ν++[.lst [.int f.b5]]) ν.length f.b5 (by simp) (by have:=hM.e; have:=hM.n; omega)
 have hi0:∀ μ,cM b'.told (.int 0) μ=.ok (.str nm) μ:=fun μ=>by rw[hv]; simp[zd]
 have hb5:∀ μ,cM f.bok (.int 5) μ=.ok (.int f.b5) μ:=fun μ=>by simp[Cf.bok,fV,z7]
 have r11:∀ g,aG (df (fT (aB (j2 false) (ab 10) (fC .non))) (aN (fC (.bl false))) dE) g [a0,a1,a2,some f.bok,a4,some (.int dq),a6,some en,some (.int rq),some (.loc p),some (.str x),o11,o12,o13] μ=g [a0,a1,a2,some f.bok,a4,some (.int dq),a6,some en,some (.int rq),some (.loc p),some (.str x),o11,o12,o13] μ:=fun g=>dg (by simp)
 have r12:∀ g,aG (oO 1000000 (rP (aD 1 [(12,am),(13,az),(14,am),(15,ak),(16,(ao 40))] (ab 9) ag)) (dn 11) (aG (df (fT (aB (j2 true) (aD 2 [(12,bT),(13,aS),(14,aZ),(15,au),(16,(aH 40))] (ab 9) (ac (ab 11) ag)) (fC (.bl true)))) (aN (fC (.bl false))) dE) (bU (aB bK (ab 10) (ab 11)) (dn 10)))) g [a0,a1,a2,some f.bok,a4,some (.int dq),a6,some en,some (.int rq),some (.loc p),some (.str x),o11,o12,o13] μ=g [a0,a1,a2,some f.bok,a4,some (.int dq),a6,some en,some (.int rq),some (.loc p),some (.str X),o,o12,o13] ν:=fun g=>dg (by simp[-jy,ew,el])
 have r13:∀ g,aG (df (ir (fT (aB (j2 true) (aD 1 [(12,bp),(13,bD),(14,bp),(15,bF),(16,bt)] (ab 9) ag) (fC (.bl true)))) (fT (aB (fU true) (aD 1 [(12,am),(13,az),(14,am),(15,ak),(16,(ao 40))] (ab 9) ag) (fC (.str []))))) (aN (fC (.bl false))) dE) g [a0,a1,a2,some f.bok,a4,some (.int dq),a6,some en,some (.int rq),some (.loc p),some (.str X),o,o12,o13] ν=g [a0,a1,a2,some f.bok,a4,some (.int dq),a6,some en,some (.int rq),some (.loc p),some (.str X),o,o12,o13] ν:=fun g=>dg (by simp[-jy,e1,e2])
 have r14:∀ g,aG (bU (aD 1 [(12,dJ),(13,bM),(14,ci),(15,bL),(16,bW)] (ab 9) ag) (dn 12)) g [a0,a1,a2,some f.bok,a4,some (.int dq),a6,some en,some (.int rq),some (.loc p),some (.str X),o,o12,o13] ν=g [a0,a1,a2,some f.bok,a4,some (.int dq),a6,some en,some (.int rq),some (.loc p),some (.str X),o,some b'.told,o13] ν:=fun g=>dg (by simp[-jy,e3])
 have r15:∀ g,aG (bU (ug (fT (aB (j2 false) (ab 7) (fC .non))) (fC (.str [110,111,110,101])) (aB cM (ab 7) (fC (.int 0)))) (dn 13)) g [a0,a1,a2,some f.bok,a4,some (.int dq),a6,some en,some (.int rq),some (.loc p),some (.str X),o,some b'.told,o13] ν=g [a0,a1,a2,some f.bok,a4,some (.int dq),a6,some en,some (.int rq),some (.loc p),some (.str X),o,some b'.told,some (.str nm)] ν:=fun g=>dg (by
  rcases hen with ⟨h1,h2⟩|⟨k,h1,_,_⟩
  ·rw[h1,h2]; simp[m7]
  ·rw[h1]; simp[z2])
 have r16:∀ g,aG (df (ir (gz (gI (zN (ab 12)))) (ir (fT (aB (fU true) (aB cM (ab 12) (fC (.int 0))) (ab 13))) (fT (aB (fU true) (cq 1 (cC 40) [] (ac (ab 12) ag)) (ab 10))))) (aN (fC (.bl false))) dE) g [a0,a1,a2,some f.bok,a4,some (.int dq),a6,some en,some (.int rq),some (.loc p),some (.str X),o,some b'.told,some (.str nm)] ν=g [a0,a1,a2,some f.bok,a4,some (.int dq),a6,some en,some (.int rq),some (.loc p),some (.str X),o,some b'.told,some (.str nm)] ν:=fun g=>dg (by
  have hty:Co b'.told=true:=by rw[hv]; rfl
  simp[zN,hty,hi0,wr])
 have r17:∀ g,aG (df (j7 (fT (aB (fU false) (ab 13) (fC (.str [108,101,110,103,116,104])))) (fT (aB (fU true) (ko gJ (ac (aB cM (ab 12) (fC (.int 1))) ag)) (aB cM (ab 7) (fC (.int 1)))))) (aN (fC (.bl false))) dE) g [a0,a1,a2,some f.bok,a4,some (.int dq),a6,some en,some (.int rq),some (.loc p),some (.str X),o,some b'.told,some (.str nm)] ν=g [a0,a1,a2,some f.bok,a4,some (.int dq),a6,some en,some (.int rq),some (.loc p),some (.str X),o,some b'.told,some (.str nm)] ν:=fun g=>dg (by
  by_cases hL:nm=li
  ·rcases hen with ⟨h1,h2⟩|⟨k,h1,_,h3⟩
   ·rw[hL] at h2; exact absurd h2 (by decide)
   ·obtain⟨t,hd,hk⟩:=h3 hL
    have zt:t.length≤cE:=by
     have hti:b'.told=.tup [.str nm,.str t]:=by rw[hv,hd]
     have hX2:=wr ν;rw[hti,hL] at hX2;have hX3:=E1 38 t 1 ν;rw[show 1+38+1=40 from rfl] at hX3;rw[hX3] at hX2
     have:t=X:=by simpa using hX2
     rw[this,bV]; omega
    have hi1:∀ μ,cM b'.told (.int 1) μ=.ok (.str t) μ:=fun μ=>by rw[hv,hd]; simp[z2]
    have hL':(nm==[108,101,110,103,116,104])=true:=by rw[hL]; rfl
    rw[h1];simp[hi1,zt,z2,hk,hL']
  ·have hL':(nm==[108,101,110,103,116,104])=false:=by simpa [li] using hL
   simp[hL'])
 obtain⟨ξ,hξ⟩:∃ ξ,ξ=(ν++[AO.lst [.int f.b5]]).set ν.length (.lst [.int (f.b5-u')]):=⟨_,rfl⟩;rw[← hξ] at hkp;refine⟨ξ,?_⟩;rw[r11,r12,r13,r14,r15,r16,r17]
 have z1:(1:Nat)≤cE:=by decide
 simp[hb5,hkp,z1]
theorem ym (n:Int) (μ:Mu):jq [.loc μ.length,.int n] (μ++[.ins 11 []])=.ok .non (μ++[CQ n]):=by
 have e:=mz μ (.ins 11 []) (CQ n);unfold CQ at e⊢;unfold jq;simp[gF,e]
mutual
theorem GQ {a b:Nat} (h:a≤b):∀ {d:AV},kv a d=true→kv b d=true
 | .loc i,h'=>by simp only[kv,decide_eq_true_eq] at h'⊢; omega
 | .tup ds,h'=>by simp only[kv] at h'⊢; exact qb h h'
 | .non,_=>rfl
 | .bl _,_=>rfl
 | .int _,_=>rfl
 | .str _,_=>rfl
theorem qb {a b:Nat} (h:a≤b):∀ {l:List AV},g8 a l=true→g8 b l=true
 | [],_=>rfl
 | d::l,h'=>by
  simp only[g8,q08] at h'⊢;exact⟨GQ h h'.1,qb h h'.2⟩
end
theorem Dz {a b:Nat} (h:a≤b):∀ {o:AO},jU a o=true→jU b o=true
 | .lst _,h'=>qb h h'
 | .fz _,h'=>qb h h'
 | .ins _ _,h'=>qb h h'
theorem wq (n:Nat) (ns:List Int):g8 n (ns.map AV.int)=true:=wc n _ (fun _=>rfl) ns
theorem Zw (b:Int) (h:0≤b) (μ:Mu):∃ w:Int,0≤w∧w≤1∧Ao [.int 1,.int b] μ=.ok (.int w) μ:=by
 by_cases hb:b<1
 ·exact⟨b,h,by omega,by simp[hb]⟩
 ·exact⟨1,by omega,by omega,by simp[hb]⟩
theorem C9 {α:Type} (x:List α) (lo hi:Option Int):(kG x lo hi).length≤x.length:=by
 unfold kG;rw[q39,qa1];omega
theorem HI {f:Cf} (hB:nU f) {dq rq:Int} {en:AV} {er:Tx} (h0:0≤dq) (hr0:0≤rq) (hr1:rq≤100) (h5:0≤f.b5) (he:yB (f.at 0 (kR dq)) en er) (ns:List Int) (hl:ns.length≤63) (L:List AV) (hL:∀ m,g8 m L=true) (a1 a2 a4 a6:Option AV) :
  ∃ μ',aG (bU (cq 5 dA [] (ac (ab 7) (ac (ab 3) (ac (ab 8) (ac (ab 5) (ac (fX 11 2 jq (ac (aB cM (ab 3) (fC (.int 5))) ag)) ag)))))) (dn 9)) (aG (bU (cq 2 iH [] (ac (ab 9) (ac (AH yA (ab 0) (lb (fC (.int 2))) (lb (fC (.int 62)))) ag))) (dn 10)) (aG (df (fT (aB (j2 false) (ab 10) (fC .non))) (aN (fC (.bl false))) dE) (aG (oO 1000000 (rP (aD 1 [(12,am),(13,az),(14,am),(15,ak),(16,(ao 40))] (ab 9) ag)) (dn 11) (aG (df (fT (aB (j2 true) (aD 2 [(12,bT),(13,aS),(14,aZ),(15,au),(16,(aH 40))] (ab 9) (ac (ab 11) ag)) (fC (.bl true)))) (aN (fC (.bl false))) dE) (bU (aB bK (ab 10) (ab 11)) (dn 10)))) (aG (df (ir (fT (aB (j2 true) (aD 1 [(12,bp),(13,bD),(14,bp),(15,bF),(16,bt)] (ab 9) ag) (fC (.bl true)))) (fT (aB (fU true) (aD 1 [(12,am),(13,az),(14,am),(15,ak),(16,(ao 40))] (ab 9) ag) (fC (.str []))))) (aN (fC (.bl false))) dE) (aG (bU (aD 1 [(12,dJ),(13,bM),(14,ci),(15,bL),(16,bW)] (ab 9) ag) (dn 12)) (aG (bU (ug (fT (aB (j2 false) (ab 7) (fC .non))) (fC (.str [110,111,110,101])) (aB cM (ab 7) (fC (.int 0)))) (dn 13)) (aG (df (ir (gz (gI (zN (ab 12)))) (ir (fT (aB (fU true) (aB cM (ab 12) (fC (.int 0))) (ab 13))) (fT (aB (fU true) (cq 1 (cC 40) [] (ac (ab 12) ag)) (ab 10))))) (aN (fC (.bl false))) dE) (aG (df (j7 (fT (aB (fU false) (ab 13) (fC (.str [108,101,110,103,116,104])))) (fT (aB (fU true) (ko gJ (ac (aB cM (ab 12) (fC (.int 1))) ag)) (aB cM (ab 7) (fC (.int 1)))))) (aN (fC (.bl false))) dE) (aN (cq 5 (eK 40) [] (ac (ab 12) (ac (ab 3) (ac (ab 8) (ac (ab 5) (ac (rB (ac (aB cM (ab 3) (fC (.int 5))) ag)) ag))))))))))))))) [some (.loc 0),a1,a2,some f.bok,a4,some (.int dq),a6,some en,some (.int rq),none,none,none,none,none] [.fz (ns.map .int),.lst L]=.ok (.rt (.bl true)) μ':=by
 obtain⟨μ2,hμ2⟩:∃ μ2:Mu,μ2=[.fz (ns.map .int),.lst L,CQ f.b5]:=⟨_,rfl⟩
 have hl2:μ2.length=3:=by rw[hμ2]; rfl
 have z7:(7:Nat)≤cE:=by decide
 have hb5:∀ μ,cM f.bok (.int 5) μ=.ok (.int f.b5) μ:=fun μ=>by simp[Cf.bok,fV,z7]
 have et:=ym f.b5 [.fz (ns.map .int),.lst L];obtain⟨u,eb,hsim,hbd⟩:=xK (f:=f) (dq:=dq) (rq:=rq) (tl:=2) (lx dq).1 he μ2;obtain⟨m1,m2,_⟩:=vR (dq:=dq) (lx dq).1 (fun hr=>Decidable.byContradiction fun hne=>mL hne hr) he hB rq hr0 hr1;rw[hl2] at eb hsim hbd;obtain⟨cs,hcs⟩:∃ cs,cs=kG ns (some 2) (some 62):=⟨_,rfl⟩
 have hcl:cs.length≤63:=by rw[hcs]; have:=C9 ns (some 2) (some 62); omega
 have hcm:kG (ns.map AV.int) (some 2) (some 62)=cs.map .int:=by rw[hcs]; simp[kG,List.map_take,List.map_drop]
 obtain⟨μ3,hμ3⟩:∃ μ3:Mu,μ3=μ2++u++[.lst (cs.map .int)]:=⟨_,rfl⟩
 have hl3:μ3.length=3+u.length+1:=by rw[hμ3]; simp[hl2]; omega
 have hS:=hsim μ3 (fun l h1 h2=>by rw[hμ3]; exact q16 (by simp; omega));obtain⟨_,fs,hcls⟩:=j4 hS;have hpl:=fY hcls;have hT:sn μ3 2 f.b5:=mf (by rw[hμ3,hμ2]; rfl);have hM:MS f dq rq en 2 3 3 μ3 [] (rR f en) f.b5 0:=⟨m2,hS,hT,by omega,h5,m1,by omega,by omega⟩
 have hW:Wf μ3.length μ3:=fun i o hi ho=>by
  have hm:o∈μ3:=q59 ho;rw[hμ3,hμ2] at hm;simp only[q58,q32,q71,or_false] at hm
  rcases hm with ((rfl|rfl|rfl)|hm)|rfl
  ·exact wq _ ns
  ·exact hL _
  ·rfl
  ·exact Dz (by omega) (hbd (by omega) o hm)
  ·exact wq _ cs
 have hq:μ3[3+u.length]?=some (.lst (cs.map .int)):=by
  rw[hμ3,q27 (by simp[hl2])];simp[hl2]
 obtain⟨ν,x,b',n',u',es,hM',hx,_⟩:=Ca hB hM h0 cs hcl hq hpl hW
 have hl0:bu (μ2++u) 0=some (ns.map .int):=by rw[hμ2]; rfl
 have r9:∀ g,aG (bU (cq 5 dA [] (ac (ab 7) (ac (ab 3) (ac (ab 8) (ac (ab 5) (ac (fX 11 2 jq (ac (aB cM (ab 3) (fC (.int 5))) ag)) ag)))))) (dn 9)) g [some (.loc 0),a1,a2,some f.bok,a4,some (.int dq),a6,some en,some (.int rq),none,none,none,none,none] [.fz (ns.map .int),.lst L]=g [some (.loc 0),a1,a2,some f.bok,a4,some (.int dq),a6,some en,some (.int rq),some (.loc 3),none,none,none,none] (μ2++u):=fun g=>dg (by
  simp at et;rw[hμ2] at eb⊢;simp at eb
  simp[hb5,et,eb])
 have r10:∀ g,aG (bU (cq 2 iH [] (ac (ab 9) (ac (AH yA (ab 0) (lb (fC (.int 2))) (lb (fC (.int 62)))) ag))) (dn 10)) g [some (.loc 0),a1,a2,some f.bok,a4,some (.int dq),a6,some en,some (.int rq),some (.loc 3),none,none,none,none] (μ2++u)=g [some (.loc 0),a1,a2,some f.bok,a4,some (.int dq),a6,some en,some (.int rq),some (.loc 3),some (.str x),none,none,none] ν:=fun g=>dg (by
  have hlen:(μ2++u).length=3+u.length:=by simp[hl2]
  simp[hl0,hcm,hlen,← hμ3,es])
 obtain⟨μ',e⟩:=C7 hB hM' h0 (by omega) (some (.loc 0)) a1 a2 a4 a6 none none none;exact⟨μ',by rw[r9,r10]; exact e⟩
theorem dv (i:Int):kf i 2=true∧kf i 3=true∧kf i 5=true∧kf i 7=true∧kf i 11=true∧kf i 13=true∧kf i 66=true:=by
 simp only[kf]
 decide
theorem md (i:Int):j9 i 8=true∧j9 i 4=true∧j9 i 3=true∧j9 i 41=true∧j9 i 5=true∧j9 i 2=true∧j9 i 6=true:=⟨oE _ _ (by decide),oE _ _ (by decide),oE _ _ (by decide),oE _ _ (by decide),oE _ _ (by decide),oE _ _ (by decide),oE _ _ (by decide)⟩
theorem mb (i n:Int) (h:0<n):0≤i%n∧i%n<n:=⟨q80 _ (by omega),q73 _ h⟩
def mM (k:Int):List AV:=[.tup [.str [112,105,101,99,101,115],.int 0],.tup [.str [112,97,114,116,115],.int 0],.tup [.str [112,97,114,116,115],.int 0],.tup [.str [112,105,101,99,101,115],.int 0],.tup [.str [108,101,110,103,116,104],.int k],.non]
theorem FP (k:Int) (m:Nat):g8 m (mM k)=true:=by simp[mM,g8,kv]
theorem EE {f:Cf} {dq k:Int} (h0:0≤k) (h1:k≤f.m):∀ e∈mM k,∃ er,yB (f.at 0 (kR dq)) e er:=by
 have hP:gc∈kR dq:=by unfold kR; split<;>decide
 have hQ:iN∈kR dq:=by unfold kR; split<;>decide
 have hR:li∈kR dq:=by unfold kR; split<;>decide
 intro e he;simp only[mM,q32,q71,or_false] at he
 rcases he with rfl|rfl|rfl|rfl|rfl|rfl
 ·exact⟨_,.inr ⟨gc,0,rfl,hP,rfl,fun h=>absurd h (by decide),fun _=>rfl⟩⟩
 ·exact⟨_,.inr ⟨iN,0,rfl,hQ,rfl,fun h=>absurd h (by decide),fun _=>rfl⟩⟩
 ·exact⟨_,.inr ⟨iN,0,rfl,hQ,rfl,fun h=>absurd h (by decide),fun _=>rfl⟩⟩
 ·exact⟨_,.inr ⟨gc,0,rfl,hP,rfl,fun h=>absurd h (by decide),fun _=>rfl⟩⟩
 ·refine⟨_,.inr ⟨li,k.toNat,?_,hR,rfl,fun _=>?_,fun h=>absurd rfl h⟩⟩
  ·rw[qb0 h0]; rfl
  ·rw[qb0 h0]; exact h1
 ·exact⟨[],.inl ⟨rfl,rfl⟩⟩
theorem Hx (ns:List Int) (hl:ns.length≤63):∃ μ',BS [.loc 0] [.fz (ns.map .int)]=.ok (.bl true) μ':=by
 have hl0:bu [AO.fz (ns.map .int)] 0=some (ns.map .int):=rfl;obtain⟨c0,e0⟩:=yH 0 ns 0 [.fz (ns.map .int)] hl0;obtain⟨c1,e1⟩:=yH 0 ns 1 [.fz (ns.map .int)] hl0;obtain⟨x,x0,_,ex⟩:=xI c0 1 [.fz (ns.map .int)];obtain⟨y,y0,_,ey⟩:=xI c1 2 [.fz (ns.map .int)];obtain⟨b1,hb1⟩:∃ b1,b1=1+x/2%8:=⟨_,rfl⟩;obtain⟨d,hd⟩:∃ d,d=1+x/3%4:=⟨_,rfl⟩;obtain⟨b3,hb3⟩:∃ b3,b3=x/5%3:=⟨_,rfl⟩;obtain⟨m,hm⟩:∃ m,m=x/7%41:=⟨_,rfl⟩;obtain⟨b5,hb5⟩:∃ b5,b5=x/11%5:=⟨_,rfl⟩;obtain⟨b6,hb6⟩:∃ b6,b6=x%4:=⟨_,rfl⟩;have q1:=mb (x/2) 8 (by decide);have q2:=mb (x/3) 4 (by decide);have q3:=mb (x/5) 3 (by decide);have q4:=mb (x/7) 41 (by decide)
 have q5:=mb (x/11) 5 (by decide);have q6:=mb x 4 (by decide);rw[← hb3] at q3;rw[← hm] at q4;rw[← hb5] at q5;rw[← hb6] at q6;obtain⟨f,hf⟩:∃ f:Cf,f=⟨3,b1,d,b3,m,b5,b6,0,[]⟩:=⟨_,rfl⟩
 have hbk:f.bok=.tup [.int 3,.int b1,.int d,.int b3,.int m,.int b5,.int b6]:=by rw[hf]; rfl
 have hB:nU f:=by
  rw[hf];exact⟨by simp only; omega,by simp only; omega,by simp only; omega,by simp only; omega,by simp only; omega,by simp only; omega,by simp only; omega,by simp only; omega⟩
 have z7:(7:Nat)≤cE:=by decide
 have i6:∀ μ,cM f.bok (.int 6) μ=.ok (.int b6) μ:=fun μ=>by rw[hbk]; simp[z7]
 have i4:∀ μ,cM f.bok (.int 4) μ=.ok (.int m) μ:=fun μ=>by rw[hbk]; simp[z7]
 have i3:∀ μ,cM f.bok (.int 3) μ=.ok (.int b3) μ:=fun μ=>by rw[hbk]; simp[z7]
 obtain⟨w,w0,w1,ew⟩:=Zw b6 q6.1 [.fz (ns.map .int)];have q7:=mb (y/5) 2 (by decide);obtain⟨v,hv⟩:∃ v,v=y/5%2:=⟨_,rfl⟩;rw[← hv] at q7;obtain⟨dp,hdp⟩:∃ dp,dp=v*w:=⟨_,rfl⟩
 have hdp0:0≤dp:=by rw[hdp]; exact Int.mul_nonneg q7.1 w0
 have hmul:mh v w=true:=by
  have:sm 64 w=true:=Jc _ w0 (by omega);simp[mh,this]
 obtain⟨k,hk⟩:∃ k,k=y/7%(m+1):=⟨_,rfl⟩;have q8:=mb (y/7) (m+1) (by omega);rw[← hk] at q8;obtain⟨rm,hrm⟩:∃ rm,rm=y/13%(b3+1):=⟨_,rfl⟩;have q9:=mb (y/13) (b3+1) (by omega);rw[← hrm] at q9;have mk1:j9 (y/7) (m+1)=true:=oE _ _ (by omega);have mk2:j9 (y/13) (b3+1)=true:=oE _ _ (by omega);obtain⟨en1,hen1,eat⟩:=wk (mM k) .non 6 rfl (y/11) (by simp[mM])
 have hkm:k≤f.m:=by rw[hf]; simp only; omega
 obtain⟨er1,he1⟩:=EE (f:=f) (dq:=dp) q8.1 hkm en1 hen1
 have z2:(2:Nat)≤cE:=by decide
 obtain⟨en,er,e7,he⟩:∃ en er,(df (j7 (fT (aB (fU false) (ab 5) (fC (.int 0)))) (fT (aB (fU false) (aB iK (aB gK (ab 4) (fC (.int 66))) (fC (.int 6))) (fC (.int 1))))) (bU (jD (ac (fC (.str [114,101,115,116])) (ac (fC (.int 0)) ag))) (dn 7)) dE) [some (.loc 0),some (.int x),some (.tup [.int 3,.int b1,.int d,.int b3]),some f.bok,some (.int y),some (.int dp),some (.loc 1),some en1,none,none,none,none,none,none] [.fz (ns.map .int),.lst (mM k)]=.ok (.nx [some (.loc 0),some (.int x),some (.tup [.int 3,.int b1,.int d,.int b3]),some f.bok,some (.int y),some (.int dp),some (.loc 1),some en,none,none,none,none,none,none]) [.fz (ns.map .int),.lst (mM k)]∧yB (f.at 0 (kR dp)) en er:=by
  by_cases hd0:dp=0
  ·by_cases h66:y/66%6=1
   ·refine⟨.tup [.str m8,.int 0],_,by simp[dv,md,hd0,h66,m8,z2],.inr ⟨m8,0,rfl,?_,rfl,fun h=>absurd h (by decide),fun _=>rfl⟩⟩
    show m8∈kR dp;rw[hd0]; decide
   ·exact⟨en1,er1,by simp[dv,md,hd0,h66],he1⟩
  ·exact⟨en1,er1,by simp[hd0],he1⟩
 obtain⟨μ',el⟩:=HI hB hdp0 q9.1 (by omega) (by rw[hf]; exact q5.1) he ns hl (mM k) (FP k) (some (.int x)) (some (.tup [.int 3,.int b1,.int d,.int b3])) (some (.int y)) (some (.loc 1))
 have r0:∀ g,aG (bU (cq 2 dW [] (ac (cq 2 dO [] (ac (ab 0) (ac (fC (.int 0)) ag))) (ac (fC (.int 1)) ag))) (dn 1)) g [some (.loc 0),none,none,none,none,none,none,none,none,none,none,none,none,none] [.fz (ns.map .int)]=g [some (.loc 0),some (.int x),none,none,none,none,none,none,none,none,none,none,none,none] [.fz (ns.map .int)]:=fun g=>dg (by
  have e0':dO [.loc 0,.int 0] [.fz (ns.map .int)]=.ok (.int c0) [.fz (ns.map .int)]:=e0
  simp[e0',ex])
 have r1:∀ g,aG (bU (jD (ac (fC (.int 3)) (ac (aB bK (fC (.int 1)) (aB iK (aB gK (ab 1) (fC (.int 2))) (fC (.int 8)))) (ac (aB bK (fC (.int 1)) (aB iK (aB gK (ab 1) (fC (.int 3))) (fC (.int 4)))) (ac (aB iK (aB gK (ab 1) (fC (.int 5))) (fC (.int 3))) ag))))) (dn 2)) g [some (.loc 0),some (.int x),none,none,none,none,none,none,none,none,none,none,none,none] [.fz (ns.map .int)]=g [some (.loc 0),some (.int x),some (.tup [.int 3,.int b1,.int d,.int b3]),none,none,none,none,none,none,none,none,none,none,none] [.fz (ns.map .int)]:=fun g=>dg (by
  have z4:(4:Nat)≤cE:=by decide
  simp[dv,md,hb1,hd,hb3,z4])
 have r2:∀ g,aG (bU (aB bK (ab 2) (jD (ac (aB iK (aB gK (ab 1) (fC (.int 7))) (fC (.int 41))) (ac (aB iK (aB gK (ab 1) (fC (.int 11))) (fC (.int 5))) (ac (aB iK (ab 1) (fC (.int 4))) ag))))) (dn 3)) g [some (.loc 0),some (.int x),some (.tup [.int 3,.int b1,.int d,.int b3]),none,none,none,none,none,none,none,none,none,none,none] [.fz (ns.map .int)]=g [some (.loc 0),some (.int x),some (.tup [.int 3,.int b1,.int d,.int b3]),some f.bok,none,none,none,none,none,none,none,none,none,none] [.fz (ns.map .int)]:=fun g=>dg (by
  have z3:(3:Nat)≤cE:=by decide
  rw[hbk]
  simp[dv,md,← hm,← hb5,← hb6,z3,z7])
 have r3:∀ g,aG (bU (cq 2 dW [] (ac (cq 2 dO [] (ac (ab 0) (ac (fC (.int 1)) ag))) (ac (fC (.int 2)) ag))) (dn 4)) g [some (.loc 0),some (.int x),some (.tup [.int 3,.int b1,.int d,.int b3]),some f.bok,none,none,none,none,none,none,none,none,none,none] [.fz (ns.map .int)]=g [some (.loc 0),some (.int x),some (.tup [.int 3,.int b1,.int d,.int b3]),some f.bok,some (.int y),none,none,none,none,none,none,none,none,none] [.fz (ns.map .int)]:=fun g=>dg (by
  have e1':dO [.loc 0,.int 1] [.fz (ns.map .int)]=.ok (.int c1) [.fz (ns.map .int)]:=e1
  simp[e1',ey])
 have r4:∀ g,aG (bU (aB qr (aB iK (aB gK (ab 4) (fC (.int 5))) (fC (.int 2))) (ko Ao (ac (fC (.int 1)) (ac (aB cM (ab 3) (fC (.int 6))) ag)))) (dn 5)) g [some (.loc 0),some (.int x),some (.tup [.int 3,.int b1,.int d,.int b3]),some f.bok,some (.int y),none,none,none,none,none,none,none,none,none] [.fz (ns.map .int)]=g [some (.loc 0),some (.int x),some (.tup [.int 3,.int b1,.int d,.int b3]),some f.bok,some (.int y),some (.int dp),none,none,none,none,none,none,none,none] [.fz (ns.map .int)]:=fun g=>dg (by
  simp[-Lh,dv,md,i6,ew,← hv,hmul,← hdp])
 have r5:∀ g,aG (bU (rB (ac (jD (ac (fC (.str [112,105,101,99,101,115])) (ac (fC (.int 0)) ag))) (ac (jD (ac (fC (.str [112,97,114,116,115])) (ac (fC (.int 0)) ag))) (ac (jD (ac (fC (.str [112,97,114,116,115])) (ac (fC (.int 0)) ag))) (ac (jD (ac (fC (.str [112,105,101,99,101,115])) (ac (fC (.int 0)) ag))) (ac (jD (ac (fC (.str [108,101,110,103,116,104])) (ac (aB iK (aB gK (ab 4) (fC (.int 7))) (aB bK (aB cM (ab 3) (fC (.int 4))) (fC (.int 1)))) ag))) (ac (fC .non) ag))))))) (dn 6)) g [some (.loc 0),some (.int x),some (.tup [.int 3,.int b1,.int d,.int b3]),some f.bok,some (.int y),some (.int dp),none,none,none,none,none,none,none,none] [.fz (ns.map .int)]=g [some (.loc 0),some (.int x),some (.tup [.int 3,.int b1,.int d,.int b3]),some f.bok,some (.int y),some (.int dp),some (.loc 1),none,none,none,none,none,none,none] [.fz (ns.map .int),.lst (mM k)]:=fun g=>dg (by
  have z2:(2:Nat)≤cE:=by decide
  have z6:(6:Nat)≤cE:=by decide
  simp[dv,i4,mk1,← hk,z2,z6,mM])
 have r6:∀ g,aG (bU (aB cM (ab 6) (aB iK (aB gK (ab 4) (fC (.int 11))) (fC (.int 6)))) (dn 7)) g [some (.loc 0),some (.int x),some (.tup [.int 3,.int b1,.int d,.int b3]),some f.bok,some (.int y),some (.int dp),some (.loc 1),none,none,none,none,none,none,none] [.fz (ns.map .int),.lst (mM k)]=g [some (.loc 0),some (.int x),some (.tup [.int 3,.int b1,.int d,.int b3]),some f.bok,some (.int y),some (.int dp),some (.loc 1),some en1,none,none,none,none,none,none] [.fz (ns.map .int),.lst (mM k)]:=fun g=>dg (by
  have hL:bu [AO.fz (ns.map .int),.lst (mM k)] 1=some (mM k):=rfl
  simp[dv,md,hL,eat])
 have r7:∀ g,aG (df (j7 (fT (aB (fU false) (ab 5) (fC (.int 0)))) (fT (aB (fU false) (aB iK (aB gK (ab 4) (fC (.int 66))) (fC (.int 6))) (fC (.int 1))))) (bU (jD (ac (fC (.str [114,101,115,116])) (ac (fC (.int 0)) ag))) (dn 7)) dE) g [some (.loc 0),some (.int x),some (.tup [.int 3,.int b1,.int d,.int b3]),some f.bok,some (.int y),some (.int dp),some (.loc 1),some en1,none,none,none,none,none,none] [.fz (ns.map .int),.lst (mM k)]=g [some (.loc 0),some (.int x),some (.tup [.int 3,.int b1,.int d,.int b3]),some f.bok,some (.int y),some (.int dp),some (.loc 1),some en,none,none,none,none,none,none] [.fz (ns.map .int),.lst (mM k)]:=fun g=>dg e7
 have r8:∀ g,aG (bU (aB iK (aB gK (ab 4) (fC (.int 13))) (aB bK (aB cM (ab 3) (fC (.int 3))) (fC (.int 1)))) (dn 8)) g [some (.loc 0),some (.int x),some (.tup [.int 3,.int b1,.int d,.int b3]),some f.bok,some (.int y),some (.int dp),some (.loc 1),some en,none,none,none,none,none,none] [.fz (ns.map .int),.lst (mM k)]=g [some (.loc 0),some (.int x),some (.tup [.int 3,.int b1,.int d,.int b3]),some f.bok,some (.int y),some (.int dp),some (.loc 1),some en,some (.int rm),none,none,none,none,none] [.fz (ns.map .int),.lst (mM k)]:=fun g=>dg (by
  simp[dv,i3,mk2,← hrm])
 obtain⟨μ2,hg⟩:∃ μ2,iq [.fz (ns.map .int)] (.ok (.bl true) μ')=.ok (.bl true) μ2:=by
  simp only[iq];split
  ·exact⟨_,rfl⟩
  ·exact⟨_,rfl⟩
 refine⟨μ2,?_⟩;rw[← hg];unfold BS;rw[On,Hh];congr 1;have hst:nr ["_law_script","_law_number","_law_rows_here","_law_book","_law_turn","_law_deep","_law_ends","_law_end","_law_room","_law_machine","_law_text","_law_sign","_law_body","_law_name"] [.loc 0]=[some (.loc 0),none,none,none,none,none,none,none,none,none,none,none,none,none]:=rfl;rw[hst,r0,r1,r2,r3,r4,r5,r6,r7,r8,el]
end My
namespace My
open L2 AL
def spLaw (K:q04):Sp:=fun vs H Q _=>∃ (a:Addr) (ns:List Int),vs=[.ref a]∧Jb K H a (ns.map V.int)∧ns.length≤63∧∀ H',Q (.bl true) H'
theorem rp_ints (K:q04) (em:Em) (H:Hp):∀ ns:List Int,de K em H (ns.map AV.int) (ns.map V.int)
 | []=>de.nil
 | n::r=>de.cons (by simp only[Rp]) (rp_ints K em H r)
theorem law_ok {P:Program} {w:World} {K:q04} {mg:Str→Option Value} {base:Heap} (T:TX K mg):oa P w K mg base Gb 81 T.ol.f T.ol.fd ["_law_script"] (spLaw K):=by
 refine oa.imp (K5 (P:=P) (w:=w) (base:=base) T) fun vs H Q E h=>?_
 obtain⟨a,ns,rfl,hq,hl,q⟩:=h;obtain⟨μ',e⟩:=Hx ns hl;refine⟨rfl,[.loc 0],[.fz (ns.map .int)],[a],de.cons (by simp only[Rp]; exact⟨a,rfl,rfl⟩) de.nil,⟨rfl,fun i j b oi oj h1 h2 h3 h4 m1 m2=>?_,fun i b o h1 h2=>?_⟩,?_⟩
 ·have hi:i<1:=(q07.mp h1).1
  have hj:j<1:=(q07.mp h2).1;omega
 ·have hi:i<1:=(q07.mp h1).1
  have hi0:i=0:=by omega
  subst hi0;cases h1;cases h2;exact⟨ns.map V.int,hq,rp_ints K _ H ns⟩
 ·rw[e]
  intro em' H' v p x S r;simp only[Rp] at r;subst r;exact q H'
theorem only_frz {K:q04} {H:Hp} {a:Addr} {xs:List V} (hO:Bl H) (h:oU K H a xs):Jb K H a xs:=by
 rcases h with h|h
 ·rcases h with h|h
  ·rcases hO a with z|⟨o,ys,z⟩
   ·rw[h] at z; cases z
   ·rw[h] at z; cases z
  ·exact .inl h
 ·exact .inr h
end My
open PySem PySem.W PyProof.Rows
set_option maxRecDepth 100000 in
set_option maxHeartbeats 0 in
theorem PySem.Challenge.cw_framepost_k44_whole_any_signs_holds : PySem.Challenge.rw_framepost_k44_whole_any_signs.Holds := by
 refine TP.hd ?_
 k_fill
 refine L2.Bn (l:=PySem.Challenge.rw_framepost_k44_whole_any_signs) (n:=63) (k:=81) (x:="_law_script") (CX:=L2.Gb) (sp:=My.spLaw) rfl (by decide) rfl ⟨rfl,by decide,by decide⟩ (fun w h Y=>TP.hook_in Y) ?F ?S ?C
 case F=>
  intro w mg fa h KX G hmg
  have T:Nonempty (My.TX (L2.Nf KX) mg):=by
   dsimp only[L2.Nf];refine' My.Lv KX G ?_ ?_ ?_ ?_ ?_ ?_ ?_ ?_ ?_ ?_ ?_ ?_ ?_ ?_ ?_ ?_ ?_ ?_ ?_ ?_ ?_ ?_ ?_ ?_ ?_ ?_ ?_ ?_ ?_ ?_ ?_ ?_ ?_ ?_ ?_ ?_ ?_ ?_ ?_ ?_ ?_ ?_ ?_ ?_ ?_ ?_ ?_ ?_ ?_ ?_ ?_ ?_ ?_ ?_ ?_ ?_ ?_ ?_ ?_ ?_ ?_ ?_ ?_ ?_ ?_ ?_ ?_ ?_ ?_ ?_ ?_ ?_ ?_ ?_ ?_ ?_ ?_ ?_ ?_ ?_ ?_ ?_ ?_ ?_ ?_ ?_ ?_ ?_ ?_ ?_ ?_ ?_ ?_ ?_ ?_ ?_ ?_ ?_ ?_ ?_ ?_ ?_ ?_ ?_ ?_ ?_ ?_ ?_ ?_ ?_ ?_ ?_ ?_ ?_ ?_ ?_ ?_ ?_ ?_ ?_ ?_ ?_ ?_ ?_ ?_ ?_ ?_ ?_ ?_ ?_ ?_ ?_ ?_ ?_ ?_ ?_ ?_ ?_ ?_ ?_ ?_ ?_ ?_ ?_ ?_ ?_ ?_ ?_ ?_ ?_ ?_ ?_ ?_ ?_ ?_ ?_ ?_ ?_ ?_ ?_ ?_ ?_ ?_ ?_ ?_ ?_ ?_ ?_ ?_ ?_ ?_ ?_ ?_ ?_ ?_ ?_ ?_ ?_ ?_ ?_ ?_ ?_ ?_ ?_ ?_ ?_ ?_ ?_ ?_ ?_ ?_ ?_ ?_ ?_ ?_ ?_ ?_ ?_ ?_ ?_ ?_ ?_ ?_ ?_ ?_ ?_ ?_ ?_ ?_ ?_ ?_ ?_ ?_ ?_ ?_ ?_ ?_ ?_ ?_ ?_ ?_ ?_ ?_ ?_ ?_ ?_ ?_ ?_ ?_ ?_ ?_ ?_ ?_ ?_ ?_ ?_ ?_ ?_ ?_ ?_ ?_ ?_ ?_ ?_ ?_ ?_ ?_ ?_ ?_ ?_ ?_ ?_ ?_ ?_ ?_ ?_ ?_ ?_ ?_ ?_ ?_ ?_ ?_ ?_ ?_ ?_ ?_ ?_ ?_ ?_ ?_ ?_ ?_ ?_ ?_ ?_ ?_ ?_ ?_ ?_ ?_ ?_ ?_ ?_ ?_ ?_ ?_ ?_ ?_ ?_ ?_ ?_ ?_ ?_ ?_ ?_ ?_ ?_ ?_ ?_ ?_ ?_ ?_ ?_ ?_ ?_ ?_ ?_ ?_ ?_ ?_ ?_ ?_ ?_ ?_ ?_ ?_ ?_ ?_ ?_ ?_ ?_ ?_ ?_ ?_ ?_ ?_ ?_ ?_ ?_ ?_ ?_ ?_ ?_ ?_ ?_ ?_ ?_ ?_ ?_ ?_ ?_ ?_ ?_ ?_ ?_ ?_ ?_ ?_ ?_ ?_ ?_ ?_ ?_ ?_ ?_ ?_ ?_ ?_ ?_ ?_ ?_ ?_ ?_ ?_ ?_ ?_ ?_ ?_ ?_ ?_ ?_ ?_ ?_ ?_ ?_ ?_ ?_ ?_ ?_ ?_ ?_ ?_ ?_ ?_ ?_ ?_ ?_ ?_ ?_ ?_ ?_ ?_ ?_ ?_ ?_ ?_ ?_ ?_ ?_ ?_ ?_ ?_ ?_ ?_ ?_ ?_ ?_ ?_ ?_ ?_ ?_ ?_ ?_ ?_ ?_ ?_ ?_ ?_ ?_ ?_ ?_ ?_ ?_ ?_ ?_ ?_ ?_ ?_ ?_ ?_ ?_ ?_ ?_ ?_ ?_ ?_ ?_ ?_ ?_ ?_ ?_ ?_ ?_ ?_ ?_ ?_ ?_ ?_ ?_ ?_ ?_ ?_ ?_ ?_ ?_ ?_ ?_ ?_ ?_ ?_ ?_ ?_ ?_ ?_ ?_ ?_ ?_ ?_ ?_ ?_ ?_ ?_ ?_ ?_ ?_ ?_ ?_ ?_ ?_ ?_ ?_ ?_ ?_ ?_ ?_ ?_ ?_ ?_ ?_ ?_ ?_ ?_ ?_ ?_ ?_ ?_ ?_ ?_ ?_ ?_ ?_ ?_ ?_ ?_ ?_ ?_ ?_ ?_ ?_ ?_ ?_ ?_ ?_ ?_ ?_ ?_ ?_ ?_ ?_ ?_ ?_ ?_ ?_ ?_ ?_ ?_ ?_ ?_ ?_ ?_ ?_ ?_ ?_ ?_ ?_ ?_ ?_ ?_ ?_ ?_ ?_ ?_ ?_ ?_ ?_ ?_ ?_ ?_ ?_ ?_ ?_ ?_ ?_ ?_ ?_ ?_ ?_ ?_ ?_ ?_ ?_ ?_ ?_ ?_ ?_ ?_ ?_ ?_ ?_ ?_ ?_ ?_ ?_ ?_ ?_ ?_ ?_ ?_ ?_ ?_ ?_ ?_ ?_ ?_ ?_ ?_ ?_ ?_ ?_ ?_ ?_ ?_ ?_ ?_ ?_ ?_ ?_ ?_ ?_ ?_ ?_ ?_ ?_ ?_ ?_ ?_ ?_ ?_ ?_ ?_ ?_ ?_ ?_ ?_ ?_ ?_ ?_ ?_ ?_ ?_ ?_ ?_ ?_ ?_ ?_ ?_ ?_ ?_ ?_ ?_ ?_ ?_ ?_ ?_ ?_ ?_ ?_ ?_ ?_ ?_ ?_ ?_ ?_ ?_ ?_ ?_ ?_ ?_ ?_ ?_ ?_ ?_ ?_ ?_ ?_ ?_ ?_ ?_ ?_ ?_ ?_ ?_ ?_ ?_ ?_ ?_ ?_ ?_ ?_ ?_ ?_ ?_ ?_ ?_ ?_ ?_ ?_ ?_ ?_ ?_ ?_ ?_ ?_ ?_ ?_ ?_ ?_ ?_ ?_ ?_ ?_
   all_goals try k_is
  obtain⟨T⟩:=T;have e0:=hmg.symm.trans T.ol.m;cases e0;obtain⟨oc,od,kV,doc,pm,an,cdv,ct,osl,e1,lk,hcd⟩:=T.ol.F.ex;refine⟨T.ol.fd,fun s u=>?_,fun base _ _=>My.law_ok T⟩;rw[e1,T.ol.hd rfl];exact .of_eq rfl
 case S=>exact fun K H a ns hl hO hS=>⟨a,ns,rfl,My.only_frz hO hS,hl,fun _=>rfl⟩
 case C=>exact fun _ _ _ _ z=>z
end
