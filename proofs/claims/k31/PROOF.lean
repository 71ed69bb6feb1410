import PyProof.Rows.All
import Wide.All
import OpenK.AllK
import Wide.FinOn
import Lean
import PyProof.EqAt
import PyProof.EqKinds
import PyProof.TupleCall
import KE.KRevIter
import PyProof.JoinWalk
import PyProof.CollectIter
import PyProof.StrWalks
import PyProof.CompFree
import PyProof.CompMap
import PyProof.CompUse
import PyProof.SumAny
import KE.KIntText
import PySem.Challenge.RW_framepost_k31_rows_of_fields_read
set_option Elab.async false
namespace TP
open PySem PySem.W PyProof.Rows
noncomputable def run (g:SharedT→Thread→Option (SharedT × Thread)) (c:Thread→Bool):Nat→SharedT→Thread→Option SharedT
  | 0,_,_=>none
  | k + 1,x,t=>match through t with
    | true=>some x
    | false=>match c t with
      | false=>none
      | true=>match g x t with
        | some y=>run g c k y.1 y.2
        | none=>none
theorem run_ok {T:String→Option Builtin} {p:Program} {w:World} {m:Nat} {v:Option Value}:∀ (k:Nat) (x y:SharedT) (t:Thread),run (stepT (denote T) p w) (stepOk m v) k x t=some y→topRun T p w m v k x.abs t=some y.abs:=by
  intro k
  induction k with
  | zero=>intro x y t e; cases e
  | succ k ih =>
    intro x y t e
    rw [run] at e
    rw [topRun]
    cases a:through t
    · cases b:stepOk m v t
      · simp only [a,b] at e; cases e
      · cases d:stepT (denote T) p w x t
        · simp only [a,b,d] at e; cases e
        · simp only [a,b,d] at e
          simp only [stepT_spec d]
          exact ih _ _ _ e
    · simp only [a] at e
      cases e
      rfl
noncomputable def tr (P:Params):BT:=((boot_heap P).objs.toList.foldl (fun (z:BT × Nat) o=>(z.1.ins z.2 o,z.2 + 1)) (.nil,0)).1
noncomputable def beg (w:World) (z:OsState):SharedT:=⟨tr w.params,11,(boot_heap w.params).life,Array.mk [],boot_drawn,boot_toks,z⟩
theorem beg_ok (w : World) : ((boot_heap w.params).isNs mainGlobals,(boot_heap w.params).objs.size,(boot_heap w.params).nsMap mainGlobals "__annotations__",absHeap (tr w.params) 11 (boot_heap w.params).life) = (true,11,some (.ref 6),boot_heap w.params) := by kernel_rfl
noncomputable def see (p:Program) {α β:Type} (F:Shared→α) (G:Shared→β) (w:World) (x:SharedT):Bool × α × β :=
  (staticsOk (importedModules p.main.body) (boot_heap w.params) x.abs.heap && namesBound p x.abs.heap && gensDone x.abs && laidKept (boot_heap w.params) x.abs.heap,F x.abs,G x.abs)
noncomputable def go (p:Program) (w:World) (N:Nat) (z:OsState):Option SharedT :=
  run (Fast.tw10156331382660048174 (Fast.tw11892475500146522536 Fast.tw14364793385576792824) p w) (Fast.tw6613529449190102663 11 (some (.ref 6))) N (beg w z) (topStub p)
theorem left {p q:Program} {lo:List Str} {Xt:Shared→Bool} {β:Type} {G:Shared→β} {Ga:World→β} {N:Nat} (e1:opening p=plainProg p.main.scope.names) (e2:Nat.ble 600 N=true) (e3:∀ s,fenceModules? p s=some s)
    (h:∀ w:World,(fun z=>(go p w N z).map (see p (Fast.tw4187177175401517315 q lo (importedModules p.main.body) Xt true) G w))=fun _=>some (true,openGood q lo,Ga w)):LeftO p q lo Xt G Ga N:=by
  intro w
  have A:=boot_open e1 e2 e3 w
  have Z:=beg_ok w
  simp only [Prod.mk.injEq] at Z
  obtain ⟨Z1,Z2,Z3,Z4⟩:=Z
  unfold openEnds
  cases B:fencedOpening treeTable p w N with
  | none=>rw [B] at A; cases A
  | some s =>
    obtain ⟨x1,x2,x3,x4,os⟩:=s
    rw [B] at A
    simp only [Option.map_some,Option.some.injEq,Prod.mk.injEq] at A
    obtain ⟨rfl,rfl,rfl,rfl⟩:=A
    have D:=congrFun (h w) os
    unfold go at D
    rw [← Fast.te10156331382660048174,← Fast.te11892475500146522536,← Fast.te14364793385576792824,← Fast.te6613529449190102663,← Fast.te4187177175401517315] at D
    generalize C:run _ _ _ _ _=r at D
    cases r with
    | none=>cases D
    | some y =>
      have D:=Option.some.inj D
      simp only [see,Prod.mk.injEq] at D
      obtain ⟨D1,D2,D3⟩:=D
      have R:=run_ok _ _ _ _ C
      rw [show (beg w os).abs=Shared.mk (absHeap (tr w.params) 11 (boot_heap w.params).life) (Array.mk []) boot_drawn boot_toks os from rfl,Z4] at R
      simp only [Option.bind_some,topFrom,Z1,Z2,Z3,R,D1]
      simp only [List.size_toArray,List.length_nil,beq_self_eq_true,Bool.and_self,Option.map_some,D2,D3]
def live (o:Obj):Option Obj:=match some o with
  | some ⟨_,_,.freed,_⟩=>none
  | o=>o
noncomputable def pick (l:List Obj):Nat→List Nat→List (Option Obj) :=
  @List.rec Obj (fun _=>Nat→List Nat→List (Option Obj)) (fun _ as=>as.map fun _=>none)
    (fun o _ ih i as=>@List.rec Nat (fun _=>List (Option Obj)) [] (fun a r _=>@Bool.rec (fun _=>List (Option Obj)) (ih (Nat.succ i) (a :: r)) (live o :: ih (Nat.succ i) r) (Nat.beq i a)) as) l
theorem pick_nil (i:Nat) (as:List Nat):pick [] i as=as.map fun _=>none:=rfl
theorem pick_cons (o:Obj) (l:List Obj) (i a:Nat) (r:List Nat):pick (o :: l) i (a :: r)=bif Nat.beq i a then live o :: pick l (i + 1) r else pick l (i + 1) (a :: r):=by
  show @Bool.rec (fun _=>List (Option Obj)) (pick l (Nat.succ i) (a :: r)) (live o :: pick l (Nat.succ i) r) (Nat.beq i a)=_
  cases Nat.beq i a <;> rfl
theorem pick_ok:∀ (l:List Obj) (i:Nat) (xs:List (Nat × Obj)),pick l i (xs.map (·.1))=xs.map (fun p=>some p.2)→∀ p ∈ xs,∃ k,p.1=i + k∧∃ o,l[k]?=some o∧live o=some p.2
  | _,_,[],_,p,m=>by cases m
  | [],i,(a,x) :: xs,e,p,m=>by
    simp [pick_nil] at e
  | o :: l,i,(a,x) :: xs,e,p,m=>by
    rw [List.map_cons,pick_cons] at e
    cases hb:Nat.beq i a with
    | false =>
      rw [hb] at e
      obtain ⟨k,h1,h2⟩:=pick_ok l (i + 1) ((a,x) :: xs) e p m
      exact ⟨k + 1,by omega,by simpa using h2⟩
    | true =>
      rw [hb] at e
      have hia:i=a:=Nat.eq_of_beq_eq_true hb
      simp only [cond_true,List.map_cons,List.cons.injEq] at e
      rcases List.mem_cons.mp m with rfl | m
      · exact ⟨0,by simp [hia],o,by simp,e.1⟩
      · obtain ⟨k,h1,h2⟩:=pick_ok l (i + 1) xs e.2 p m
        exact ⟨k + 1,by omega,by simpa using h2⟩
theorem lookup_mem {a:Nat} {o:Obj}:∀ {xs:List (Nat × Obj)},xs.lookup a=some o→(a,o) ∈ xs
  | [],e=>by cases e
  | (b,x) :: r,e=>by
    unfold List.lookup at e
    split at e
    · rename_i q; cases e; rw [beq_iff_eq.mp q]; exact List.mem_cons_self
    · exact List.mem_cons_of_mem _ (lookup_mem e)
theorem get_of {h:Heap} {a:Nat} {o x:Obj} (e:h.objs.toList[a]?=some o) (f:live o=some x):h.get? a=some x:=by
  have e':h.objs[a]?=some o:=by simpa using e
  unfold Heap.get?
  rw [e']
  exact f
theorem in_of {h:Heap} {xs:List (Nat × Obj)} {as:List Nat} (ea:as=xs.map (·.1)) (e:pick h.objs.toList 0 as=xs.map fun p=>some p.2) (a:Nat) (o:Obj) (l:xs.lookup a=some o):h.get? a=some o:=by
  subst ea
  obtain ⟨k,h1,o',h2,h3⟩:=pick_ok _ _ _ e _ (lookup_mem l)
  have:k=a:=by simpa using h1.symm
  subst this
  exact get_of h2 h3
noncomputable def hook (K:Params→PySem.W.Frag) (as:List Nat) (e:∀ P,as=(K P).map (·.1)):PySem.W.Hook :=
  ⟨List (Option Obj),fun s=>pick s.heap.objs.toList 0 as,fun w=>(K w.params).map fun p=>some p.2,PySem.W.InK K,fun w s x=>in_of (e _) x,PySem.W.InK.keeps⟩
theorem hook_in {K:Params→PySem.W.Frag} {as:List Nat} {e:∀ P,as=(K P).map (·.1)} {w:World} {h:Heap} (Y:(hook K as e).says w h):(K w.params).In h:=Y
end TP
def TP.q:PySem.Program:=PySem.W.view PySem.Challenge.pw_framepost_k31_rows_of_fields_read [29]
def TP.lo:List PySem.Str:=(PySem.Challenge.pw_framepost_k31_rows_of_fields_read.main.scope.names.map (·.1)).filter fun x=>!(x==PySem.Str.ofString "law"||x==PySem.Str.ofString "__name__")
set_option Elab.async false
set_option linter.all false
set_option maxRecDepth 100000
set_option genSizeOfSpec false
set_option bootstrap.genMatcherCode false
set_option compiler.extract_closed false
namespace L2
open PySem PySem.Spec PyProof.Rows

noncomputable abbrev Key := Sum Int Str
noncomputable def keyIs : Key → Value → Bool
  | .inl k, v => Value.isInt k v
  | .inr x, v => Value.isStrOf x v
noncomputable def keyH (w : World) : Key → Int
  | .inl k => hashInt k
  | .inr x => hashStr w x
theorem keyIs_shape : ∀ {k : Key} {v : Value}, keyIs k v = true → (∃ i t, k = Sum.inl i ∧ v = Value.int i t) ∨ (∃ x t, k = Sum.inr x ∧ v = Value.str x t)
  | .inl i, v, h => by
    obtain ⟨t, e⟩ := Value.isInt_shape (k := i) (v := v) h
    exact .inl ⟨i, t, rfl, e⟩
  | .inr x, v, h => by
    obtain ⟨t, e⟩ := Value.isStrOf_shape (x := x) (v := v) h
    exact .inr ⟨x, t, rfl, e⟩
theorem key_ll (a b : Int) : decide ((Sum.inl a : Key) = Sum.inl b) = (a == b) := by
  by_cases e : a = b
  · subst e; simp
  · have h : ¬ (Sum.inl a : Key) = Sum.inl b := fun q => e (Sum.inl.inj q)
    rw [decide_eq_false h]
    exact (beq_eq_false_iff_ne.mpr e).symm
theorem key_rr (a b : Str) : decide ((Sum.inr a : Key) = Sum.inr b) = decide (a = b) := by
  by_cases e : a = b
  · subst e; simp
  · have h : ¬ (Sum.inr a : Key) = Sum.inr b := fun q => e (Sum.inr.inj q)
    rw [decide_eq_false h, decide_eq_false e]
theorem key_lr (a : Int) (b : Str) : decide ((Sum.inl a : Key) = Sum.inr b) = false := decide_eq_false (fun q => nomatch q)
theorem key_rl (a : Str) (b : Int) : decide ((Sum.inr a : Key) = Sum.inl b) = false := decide_eq_false (fun q => nomatch q)

noncomputable def mixKind (prog : Program) (w : World) : PySem.KeyKind prog w Key where
  is := keyIs
  hash := keyH w
  inj := fun v a b ha hb => by
    rcases keyIs_shape ha with ⟨i, t, rfl, rfl⟩ | ⟨x, t, rfl, rfl⟩
    · rcases keyIs_shape hb with ⟨j, u, rfl, e⟩ | ⟨y, u, rfl, e⟩
      · injection e with e1 _; rw [e1]
      · exact nomatch e
    · rcases keyIs_shape hb with ⟨j, u, rfl, e⟩ | ⟨y, u, rfl, e⟩
      · exact nomatch e
      · injection e with e1 _; rw [e1]
  byValue := fun k v h => by
    rcases keyIs_shape h with ⟨i, t, rfl, rfl⟩ | ⟨x, t, rfl, rfl⟩ <;> rfl
  pyHash := fun hv h => by
    rcases keyIs_shape hv with ⟨i, t, rfl, rfl⟩ | ⟨x, t, rfl, rfl⟩
    · exact wpAny_pyHash_int h
    · exact wpAny_pyHash_str h
  eqBool := fun hu hv h => by
    rcases keyIs_shape hu with ⟨i, t, rfl, rfl⟩ | ⟨x, t, rfl, rfl⟩
    · rcases keyIs_shape hv with ⟨j, u, rfl, rfl⟩ | ⟨y, u, rfl, rfl⟩
      · rw [key_ll] at h; exact wpAny_eqBool_int h
      · rw [key_lr] at h; exact SeqAt.EqAt.int_str i t y u _ _ _ _ h
    · rcases keyIs_shape hv with ⟨j, u, rfl, rfl⟩ | ⟨y, u, rfl, rfl⟩
      · rw [key_rl] at h; exact SeqAt.EqAt.str_int x t j u _ _ _ _ h
      · rw [key_rr] at h; exact wpAny_eqBool_str h
  «strs» := fun k x t v h => by
    rcases keyIs_shape h with ⟨i, u, rfl, e⟩ | ⟨y, u, rfl, e⟩
    · exact nomatch e
    · injection e with e1 _
      subst e1
      cases v <;> rfl

end L2

namespace L2
open PySem PySem.Spec PyProof.Rows

inductive V where
  | non | bl (b : Bool) | int (i : Int) | str (x : Str) | byt (b : Array UInt8) | flt (b : UInt64) | ref (a : Addr) | ty (n : String)
  deriving DecidableEq

noncomputable def RelV : V → Value → Prop
  | .non, u => u = Value.none
  | .bl b, u => u = Value.bool b
  | .int i, u => ∃ t, u = Value.int i t
  | .str x, u => ∃ t, u = Value.str x t
  | .byt b, u => ∃ t, u = Value.bytes b t
  | .flt b, u => ∃ t, u = Value.float b t
  | .ref a, u => u = Value.ref a
  | .ty n, u => u = Value.type n

noncomputable abbrev Vals : List V → List Value → Prop := Paired RelV
theorem Vals.length {xs : List V} {us : List Value} (r : Vals xs us) : xs.length = us.length := Paired.length r
theorem Vals.get : ∀ {xs : List V} {us : List Value} {i : Nat} {x : V}, Vals xs us → xs[i]? = some x → ∃ u, us[i]? = some u ∧ RelV x u
  | _, _, _, _, .nil, e => by simp at e
  | _, _, 0, _, .cons r _, e => by simp at e; subst e; exact ⟨_, rfl, r⟩
  | _, _, i + 1, x, .cons _ t, e => by
    obtain ⟨u, h1, h2⟩ := Vals.get (i := i) (x := x) t (by simpa using e)
    exact ⟨u, by simpa using h1, h2⟩
theorem Vals.append : ∀ {xs ys : List V} {us ws : List Value}, Vals xs us → Vals ys ws → Vals (xs ++ ys) (us ++ ws)
  | _, _, _, _, .nil, s => s
  | _, _, _, _, .cons r t, s => .cons r (Vals.append t s)
theorem Vals.take : ∀ {xs : List V} {us : List Value} (n : Nat), Vals xs us → Vals (xs.take n) (us.take n)
  | _, _, 0, _ => .nil
  | _, _, _ + 1, .nil => .nil
  | _, _, n + 1, .cons r t => .cons r (Vals.take n t)
theorem Vals.drop : ∀ {xs : List V} {us : List Value} (n : Nat), Vals xs us → Vals (xs.drop n) (us.drop n)
  | _, _, 0, r => r
  | _, _, _ + 1, .nil => .nil
  | _, _, n + 1, .cons _ t => Vals.drop n t
noncomputable def RelO : Option V → Option Value → Prop
  | some v, some u => RelV v u
  | none, none => True
  | _, _ => False
noncomputable def KV {κ : Type} : List (κ × V) → List (κ × Value) → Prop := Paired fun (p : κ × V) (q : κ × Value) => p.1 = q.1 ∧ RelV p.2 q.2

noncomputable def kV : Key → V
  | .inl i => .int i
  | .inr x => .str x

inductive HO where
    | lst (xs : List V)
    | tup (xs : List V)
    | dK (kvs : List (Key × V)) | dT (kvs : List (List Key × V))
    | set (S : Int → Bool) (n : Nat)
    | ins (C dx : Addr) (fs : List (Str × V))
    | own (x : Addr)
    | xd (fs : List (Str × V))
    | met (f x : Addr)
    | rng (lo hi : Int)
    | frz (o : Obj) (u : HO)
    | tbl (ps : Array Value)
    | ext (φ : Heap → Prop)

noncomputable abbrev Hp := Addr → Option HO
noncomputable def upd (H : Hp) (a : Addr) (o : HO) : Hp := fun b => if b = a then some o else H b
theorem upd_same {H : Hp} {a : Addr} {o : HO} : upd H a o a = some o := by unfold upd; rw [if_pos rfl]
theorem upd_ne {H : Hp} {a b : Addr} {o : HO} (h : b ≠ a) : upd H a o b = H b := by unfold upd; rw [if_neg h]
theorem ne_of_none {H : Hp} {a b : Addr} {o : HO} (h : H a = some o) (h' : H b = none) : a ≠ b := by
  intro e; subst e; rw [h] at h'; cases h'

section
variable (P : Program) (w : World)
noncomputable def ObjOk (H : Hp) (h : Heap) (a : Addr) : HO → Prop
  | .lst xs => xs.length ≤ sizeLine ∧ ∃ (its : List Value) (n : Nat), Vals xs its ∧ h.get? a = some { cls := .type "list", data := .seq its.toArray n }
  | .tup xs => xs.length ≤ sizeLine ∧ ∃ its : List Value, Vals xs its ∧ IsTup h a its.toArray
  | .dK kvs => kvs.length ≤ sizeLine ∧ (a == sysModules) = false ∧ ∃ vs, KV kvs vs ∧ h.DictOf (mixKind P w) a vs
  | .dT kvs => kvs.length ≤ sizeLine ∧ (a == sysModules) = false ∧ ∃ xs : List (List Key × Addr × Value),
      Paired (fun (p : List Key × V) (q : List Key × Addr × Value) => p.1 = q.1 ∧ H q.2.1 = some (.tup (p.1.map kV)) ∧ RelV p.2 q.2.2) kvs xs ∧
      ∃ o es ep, h.get? a = some o ∧ o.ExactDict ∧ o.data = .dict es ep ∧ es.toList = xs.map (entryOfKey (tupleKind (mixKind P w))) ∧ (xs.map (·.1)).Nodup
  | .set S n => h.SetOf (intKind P w) a S n
  | .ins C dx fs => H dx = some (.own a) ∧ fs.length ≤ 1000 ∧ dx ≠ a ∧ h.get? a = some (PySem.W.instObj C dx) ∧
      ∃ mA, h.Ns1 dx mA ∧ (∀ f, RelO (fs.lookup f) (mA f)) ∧ PySem.Within mA (fs.map (·.1))
  | .own _ => ∃ o, h.get? a = some o
  | .xd fs => ∃ mA, h.Ns1 a mA ∧ ∀ f, RelO (fs.lookup f) (mA f)
  | .rng lo hi => ∃ t u v, h.get? a = some { cls := .type "range", data := .fields #[.int lo t, .int hi u, .int 1 v] }
  | .frz o u => h.get? a = some o ∧ ObjOk H h a u
  | .tbl ps => h.get? a = some { cls := .none, data := .fields ps }
  | .met f x => h.get? a = some (PySem.W.methodObj (.ref f) (.ref x))
  | .ext φ => φ h ∧ (∃ o, h.get? a = some o) ∧ ∀ h1 h2 : Heap, φ h1 → (∀ o, h1.get? a = some o → h2.get? a = some o) → φ h2
noncomputable def HOk (H : Hp) (h : Heap) : Prop := ∀ a o, H a = some o → ObjOk P w H h a o
end

section
variable {P : Program} {w : World} {H H' : Hp} {h h' : Heap} {a : Addr} {o : HO}
theorem ObjOk.lt (x : ObjOk P w H h a o) : a < h.objs.size := by
  cases o with
  | lst xs => obtain ⟨_, _, _, _, e⟩ := x; exact Heap.lt_size e
  | tup xs => obtain ⟨_, _, _, p⟩ := x; exact p.lt
  | dK kvs => obtain ⟨_, _, _, _, o, _, _, e, _⟩ := x; exact Heap.lt_size e
  | dT kvs => obtain ⟨_, _, _, _, o, _, _, e, _⟩ := x; exact Heap.lt_size e
  | set S n => obtain ⟨o, _, _, _, e, _⟩ := x; exact Heap.lt_size e
  | ins C dx fs => obtain ⟨_, _, _, e, _⟩ := x; exact Heap.lt_size e
  | own y => obtain ⟨_, e⟩ := x; exact Heap.lt_size e
  | xd fs => obtain ⟨_, ⟨_, _, _, e, _⟩, _⟩ := x; exact Heap.lt_size e
  | rng lo hi => obtain ⟨_, _, _, e⟩ := x; exact Heap.lt_size e
  | frz ob u => obtain ⟨e, _⟩ := x; exact Heap.lt_size e
  | tbl ps => exact Heap.lt_size (show h.get? a = some _ from x)
  | met f y => exact Heap.lt_size (show h.get? a = some _ from x)
  | ext φ => obtain ⟨_, ⟨_, e⟩, _⟩ := x; exact Heap.lt_size e
theorem Paired.mapP {α β : Type} {F G : α → β → Prop} : ∀ {l₁ : List α} {l₂ : List β}, Paired F l₁ l₂ → (∀ a b, F a b → G a b) → Paired G l₁ l₂
  | _, _, .nil, _ => .nil
  | _, _, .cons r t, f => .cons (f _ _ r) (Paired.mapP t f)
theorem ObjOk.stay (x : ObjOk P w H h a o) (k : ∀ b u, (b = a ∨ H b = some (.own a)) → h.get? b = some u → h'.get? b = some u)
    (ho : ∀ b, H b = some (.own a) → H' b = some (.own a)) (ht : ∀ b xs, H b = some (.tup xs) → H' b = some (.tup xs)) : ObjOk P w H' h' a o := by
  induction o with
  | lst xs => obtain ⟨z, its, n, r, e⟩ := x; exact ⟨z, its, n, r, k _ _ (.inl rfl) e⟩
  | tup xs => obtain ⟨z, its, r, ob, e, c⟩ := x; exact ⟨z, its, r, ob, k _ _ (.inl rfl) e, c⟩
  | dK kvs => obtain ⟨z, y, vs, r, ob, es, ep, e, c⟩ := x; exact ⟨z, y, vs, r, ob, es, ep, k _ _ (.inl rfl) e, c⟩
  | dT kvs =>
    obtain ⟨z, y, xs, r, ob, es, ep, e, c⟩ := x
    exact ⟨z, y, xs, Paired.mapP r fun p q z => ⟨z.1, ht _ _ z.2.1, z.2.2⟩, ob, es, ep, k _ _ (.inl rfl) e, c⟩
  | set S n => obtain ⟨ob, es, ep, t, e, c⟩ := x; exact ⟨ob, es, ep, t, k _ _ (.inl rfl) e, c⟩
  | ins C dx fs =>
    obtain ⟨d, z, ne, e, mA, ⟨od, es, ep, e2, c⟩, r⟩ := x
    exact ⟨ho _ d, z, ne, k _ _ (.inl rfl) e, mA, ⟨od, es, ep, k _ _ (.inr d) e2, c⟩, r⟩
  | own y => obtain ⟨ob, e⟩ := x; exact ⟨ob, k _ _ (.inl rfl) e⟩
  | xd fs => obtain ⟨mA, ⟨od, es, ep, e, c⟩, r⟩ := x; exact ⟨mA, ⟨od, es, ep, k _ _ (.inl rfl) e, c⟩, r⟩
  | rng lo hi => obtain ⟨t, u, v, e⟩ := x; exact ⟨t, u, v, k _ _ (.inl rfl) e⟩
  | frz ob u ih => obtain ⟨e, q⟩ := x; exact ⟨k _ _ (.inl rfl) e, ih q⟩
  | tbl ps =>
    have e : h.get? a = some { cls := .none, data := .fields ps } := x
    show h'.get? a = some { cls := .none, data := .fields ps }
    exact k a _ (.inl rfl) e
  | met f y =>
    have e : h.get? a = some (PySem.W.methodObj (.ref f) (.ref y)) := x
    show h'.get? a = some (PySem.W.methodObj (.ref f) (.ref y))
    exact k a _ (.inl rfl) e
  | ext φ => obtain ⟨p, ⟨o, e⟩, st⟩ := x; exact ⟨st _ _ p fun o q => k _ _ (.inl rfl) q, ⟨o, k _ _ (.inl rfl) e⟩, st⟩
theorem HOk.lt (x : HOk P w H h) (e : H a = some o) : a < h.objs.size := (x a o e).lt
theorem HOk.fresh (x : HOk P w H h) (e : h.objs.size ≤ a) : H a = none := by
  cases q : H a with
  | none => rfl
  | some u => exact absurd (Nat.lt_of_lt_of_le (x.lt q) e) (Nat.lt_irrefl _)
theorem HOk.kept (x : HOk P w H h) (k : ∀ b u, h.get? b = some u → h'.get? b = some u) : HOk P w H h' := fun a o e =>
  (x a o e).stay (fun b u _ q => k b u q) (fun _ q => q) fun _ _ q => q
theorem HOk.laid (x : HOk P w H h) (k : ∀ b u, h.get? b = some u → h'.get? b = some u) (hp : h.objs.size ≤ a) (new : ObjOk P w (upd H a o) h' a o) : HOk P w (upd H a o) h' := fun b u e => by
  have hn := x.fresh hp
  by_cases hb : b = a
  · subst hb; rw [upd_same] at e; cases e; exact new
  · rw [upd_ne hb] at e
    exact (x b u e).stay (fun c v _ q => k c v q) (fun c q => by rw [upd_ne (ne_of_none q hn)]; exact q) fun c xs q => by rw [upd_ne (ne_of_none q hn)]; exact q
end

noncomputable def Rd (H : Hp) (a : Addr) (u : HO) : Prop := H a = some u ∨ ∃ o, H a = some (.frz o u)
theorem Rd.ok {P : Program} {w : World} {H : Hp} {h : Heap} {a : Addr} {u : HO} (r : Rd H a u) (x : HOk P w H h) : ObjOk P w H h a u := by
  rcases r with r | ⟨o, r⟩
  · exact x a u r
  · obtain ⟨_, q⟩ := x a _ r
    exact q
noncomputable def Mut : Option HO → Prop
  | some (.lst _) => True
  | some (.dK _) => True
  | some (.dT _) => True
  | some (.set _ _) => True
  | some (.ins _ _ _) => True
  | some (.ext _) => True
  | _ => False
section
variable {P : Program} {w : World} {H : Hp} {h h' : Heap} {x e : Addr} {o' : HO}
theorem HOk.write (ok : HOk P w H h) (mu : Mut (H x)) (he : e = x ∨ H e = some (.own x)) (k : ∀ b u, b ≠ e → h.get? b = some u → h'.get? b = some u) (heo : ∃ u, h'.get? e = some u)
    (new : ObjOk P w (upd H x o') h' x o') : HOk P w (upd H x o') h' := fun b u q => by
  have nown : ∀ c y, H c = some (.own y) → c ≠ x := fun c y r z => by subst z; rw [r] at mu; exact mu
  have ntup : ∀ c xs, H c = some (.tup xs) → c ≠ x := fun c xs r z => by subst z; rw [r] at mu; exact mu
  by_cases hb : b = x
  · subst hb; rw [upd_same] at q; cases q; exact new
  · rw [upd_ne hb] at q
    by_cases hbe : b = e
    · have q' : H b = some (.own x) := by
        rcases he with z | z
        · exact absurd (hbe.trans z) hb
        · rw [hbe]; exact z
      rw [q] at q'; cases q'
      obtain ⟨v, hv⟩ := heo
      exact ⟨v, by rw [hbe]; exact hv⟩
    · refine (ok b u q).stay (fun c v hc r => k c v ?_ r) (fun c r => by rw [upd_ne (nown c b r)]; exact r) fun c xs r => by rw [upd_ne (ntup c xs r)]; exact r
      rcases hc with rfl | hc
      · exact hbe
      · rintro rfl
        rcases he with z | z
        · exact nown c b hc z
        · rw [hc] at z; cases z; exact hb rfl
end

structure Un (fs ex : List Addr) (H H' : Hp) (h h' : Heap) : Prop where
  keep : ∀ b o, h.get? b = some o → H b = none → b ∉ fs → b ∉ ex → h'.get? b = some o
  slot : ∀ b o, h.get? b = some o → H b = none → b ∈ fs → b ∉ ex → ∃ sl, h'.get? b = some { o with slots := sl }
  free : ∀ b o, h.get? b = some o → H b = none → b ∉ ex → H' b = none
  there : ∀ b o, h.get? b = some o → b ∉ ex → ∃ o', h'.get? b = some o'
  tups : ∀ b xs, H b = some (.tup xs) → H' b = some (.tup xs)
  frzs : ∀ b o u, H b = some (.frz o u) → H' b = some (.frz o u)
  tbls : ∀ b ps, H b = some (.tbl ps) → ∃ more, H' b = some (.tbl (ps ++ more))
section
variable {fs fs' ex ex' : List Addr} {H H1 H2 : Hp} {h h1 h2 h' : Heap} {a x e : Addr} {o : HO}
theorem Un.any (u : Un fs ex H H1 h h1) {b : Addr} {ob : Obj} (q : h.get? b = some ob) (n : H b = none) (hx : b ∉ ex) : ∃ sl, h1.get? b = some { ob with slots := sl } := by
  by_cases hb : b ∈ fs
  · exact u.slot b ob q n hb hx
  · exact ⟨ob.slots, u.keep b ob q n hb hx⟩
theorem Un.kept (k : ∀ b u, h.get? b = some u → h'.get? b = some u) : Un fs ex H H h h' :=
  ⟨fun b ob q _ _ _ => k b ob q, fun b ob q _ _ _ => ⟨ob.slots, k b ob q⟩, fun _ _ _ n _ => n, fun b ob q _ => ⟨ob, k b ob q⟩, fun _ _ q => q, fun _ _ _ q => q, fun _ ps q => ⟨#[], by rw [q]; simp⟩⟩
theorem Un.refl : Un fs ex H H h h := Un.kept fun _ _ q => q
theorem Un.laid (k : ∀ b u, h.get? b = some u → h'.get? b = some u) (hp : h.objs.size ≤ a) (hn : H a = none) : Un fs ex H (upd H a o) h h' where
  keep := fun b u q _ _ _ => k b u q
  slot := fun b u q _ _ _ => ⟨u.slots, k b u q⟩
  free := fun b u q n _ => by rw [upd_ne (Nat.ne_of_lt (Nat.lt_of_lt_of_le (Heap.lt_size q) hp))]; exact n
  there := fun b u q _ => ⟨u, k b u q⟩
  tups := fun b xs q => by rw [upd_ne (ne_of_none q hn)]; exact q
  frzs := fun b u xs q => by rw [upd_ne (ne_of_none q hn)]; exact q
  tbls := fun b ps q => ⟨#[], by rw [upd_ne (ne_of_none q hn), q]; simp⟩
theorem Un.write (mu : Mut (H x)) (he : e = x ∨ H e = some (.own x)) (k : ∀ b u, b ≠ e → h.get? b = some u → h'.get? b = some u) (heo : ∃ u, h'.get? e = some u) : Un fs ex H (upd H x o) h h' := by
  have hx : ∀ b, H b = none → b ≠ x := fun b n z => by subst z; rw [n] at mu; exact mu
  have hb : ∀ b, H b = none → b ≠ e := fun b n z => by
    subst z
    rcases he with r | r
    · exact hx b n r
    · rw [n] at r; cases r
  have hm : ∀ b u, H b = some u → ¬ Mut (some u) → b ≠ x := fun b u q nm z => by subst z; rw [q] at mu; exact nm mu
  refine ⟨fun b u q n _ _ => k b u (hb b n) q, fun b u q n _ _ => ⟨u.slots, k b u (hb b n) q⟩, fun b u q n _ => by rw [upd_ne (hx b n)]; exact n, fun b u q _ => ?_,
    fun b xs q => by rw [upd_ne (hm b _ q fun z => z)]; exact q, fun b u xs q => by rw [upd_ne (hm b _ q fun z => z)]; exact q, fun b ps q => ⟨#[], by rw [upd_ne (hm b _ q fun z => z), q]; simp⟩⟩
  by_cases hbe : b = e
  · subst hbe; exact heo
  · exact ⟨u, k b u hbe q⟩
end

noncomputable def trk (h : Heap) (H : Hp) : List Addr := (List.range h.objs.size).filter fun a => (H a).isSome
noncomputable def hidT (h : Heap) (H : Hp) : Heap := PySem.W.hideAll h (trk h H)
theorem hidT_size (h : Heap) (H : Hp) : (hidT h H).objs.size = h.objs.size := PySem.W.hideAll_size _ _
theorem hidT_get {h : Heap} {H : Hp} {b : Addr} {o : Obj} (e : h.get? b = some o) (n : H b = none) : (hidT h H).get? b = some o :=
  PySem.W.hideAll_get _ e fun hm => by
    have q : (H b).isSome = true := (List.mem_filter.mp hm).2
    rw [n] at q; simp at q
theorem of_hidT {h : Heap} {H : Hp} {b : Addr} {o : Obj} (e : (hidT h H).get? b = some o) : h.get? b = some o ∧ H b = none := by
  have e' : h.get? b = some o := PySem.W.of_hideAll (trk h H) e
  refine ⟨e', ?_⟩
  cases q : H b with
  | none => rfl
  | some x =>
    have hm : b ∈ trk h H := List.mem_filter.mpr ⟨List.mem_range.mpr (Heap.lt_size e'), by simp [q]⟩
    have z : (hidT h H).get? b = none := PySem.W.hideAll_none (trk h H) hm
    rw [z] at e; cases e

noncomputable def allNews (g h : Heap) (L : Addr) : List (Addr × Obj) := (List.range h.objs.size).filterMap fun a => if a = L ∨ (g.get? a).isSome = true then none else (h.get? a).map fun o => (a, o)
noncomputable def rest (g h : Heap) (L d : Addr) : List (Addr × Obj) := (allNews g h L).filter fun p => decide (p.1 ≠ d)
end L2

namespace L2
open PySem PySem.Spec PyProof.Rows

structure Mod (K : PySem.W.Frag) (mg : Str → Option Value) (base : Heap) : Prop where
  kin : K.In base
  glob : base.Ns mainGlobals mg
  blt : ∃ mb, base.Ns builtinsNs mb ∧ ∀ x : Str, x ≠ "__name__" → mb x = bootBuiltins x
  nolimit : base.NoLimit

structure Cx where
  prog : Program
  w : World
  K : PySem.W.Frag
  mg : Str → Option Value
  base : Heap
  A : Around
  N : List Str
  s₀ : Shared
  H₀ : Hp
  env : Env
  outer : List Env
  stack : List Env
  ex : List Addr
  fn : Str → Bool
  calm : Bool
  pn : List (Addr × Obj)
  xe : Value → Shared → Prop
noncomputable def frs (l : List Env) : List Addr := l.filterMap (·.frame)
noncomputable abbrev Cx.fs (X : Cx) : List Addr := frs X.outer

noncomputable def Vis (sc : Scope) (x : Str) : Prop := sc.names.lookup x = some .local ∨ sc.names.lookup x = some .cell ∨ sc.names.lookup x = some .free
noncomputable def Loc (sc : Scope) (x : Str) : Prop := sc.names.lookup x = some .local ∨ sc.names.lookup x = some .cell
noncomputable def Look (env : Env) (h : Heap) (m : Str → Option Value) (x : Str) (u : Value) : Prop :=
  (env.kindOf x = some .local ∧ m x = some u) ∨ ((env.kindOf x = some .cell ∨ env.kindOf x = some .free) ∧ ∃ c, env.cells.lookup x = some c ∧ h.IsCell c (some u))

structure Cx.Ok (X : Cx) : Prop where
  mod : Mod X.K X.mg X.base
  kind : X.env.scope.kind = .function
  glob : X.env.globals = mainGlobals
  blt : X.env.builtins = builtinsNs
  above : X.s₀.heap.objs.size ≤ X.env.locals
  inj : ∀ x y c, X.env.cells.lookup x = some c → X.env.cells.lookup y = some c → x = y
  has : ∀ x, (X.env.kindOf x = some .cell ∨ X.env.kindOf x = some .free) → ∃ c, X.env.cells.lookup x = some c
  cab : ∀ x c, X.fn x = true → X.env.cells.lookup x = some c → X.s₀.heap.objs.size ≤ c
  hd : X.calm = true → X.A.handled = none
  frames : X.A.frames = some X.stack
  stk : X.stack = X.outer ∨ (X.stack = X.env :: X.outer ∧ X.env.frame = some X.env.locals)
  exf : ∀ b ∈ X.ex, b ≠ X.env.locals ∧ ∀ x c, X.env.cells.lookup x = some c → c ≠ b
  bs : ∀ b o, X.base.get? b = some o → X.s₀.heap.get? b = some o ∧ X.H₀ b = none
  bsz : X.base.objs.size ≤ X.s₀.heap.objs.size
  noex : ∀ b o, X.base.get? b = some o → b ∉ X.ex
  exfs : ∀ b ∈ X.ex, b ∉ X.fs
  funs : X.s₀.heap.FunFrames X.base X.outer
  frf : ∀ b ∈ X.fs, X.H₀ b = none

structure Inv (X : Cx) (pins : List (Addr × Obj)) (σ : List (Option V)) (H : Hp) (s : Shared) : Prop where
  ok : X.Ok
  os : s.os = X.s₀.os
  bare : AllBare s.gens
  base : Un X.fs X.ex X.H₀ H X.s₀.heap s.heap
  loc : ∃ m, s.heap.Ns X.env.locals m ∧ ∀ (i : Nat) (x : Str) (v : V), X.N[i]? = some x → σ[i]? = some (some v) → Vis X.env.scope x → ∃ u, RelV v u ∧ Look X.env s.heap m x u
  cell : ∀ x c, X.env.cells.lookup x = some c → ∃ v, s.heap.IsCell c v
  free : H X.env.locals = none
  freeC : ∀ x c, X.env.cells.lookup x = some c → H c = none
  pin : ∀ p ∈ X.pn ++ pins, s.heap.get? p.1 = some p.2 ∧ H p.1 = none ∧ p.1 ≠ X.env.locals ∧ p.1 ∉ X.fs ∧ ∀ v, p.2.data ≠ .cell v
  hok : HOk X.prog X.w H s.heap
  len : σ.length = X.N.length

section
variable {X : Cx} {pins : List (Addr × Obj)} {σ : List (Option V)} {H H' : Hp} {s : Shared} {h' : Heap}

theorem Cx.Ok.nofr (ok : X.Ok) {b : Addr} {o : Obj} (e : X.base.get? b = some o) : b ∉ X.fs := fun hb => by
  have := (ok.funs.mem hb).1
  rw [e] at this; cases this
theorem Inv.bs (I : Inv X pins σ H s) : ∀ b o, X.base.get? b = some o → s.heap.get? b = some o ∧ H b = none := fun b o e =>
  ⟨I.base.keep b o (I.ok.bs b o e).1 (I.ok.bs b o e).2 (I.ok.nofr e) (I.ok.noex b o e), I.base.free b o (I.ok.bs b o e).1 (I.ok.bs b o e).2 (I.ok.noex b o e)⟩
theorem Inv.bk (I : Inv X pins σ H s) : ∀ b o, X.base.get? b = some o → s.heap.get? b = some o := fun b o e => (I.bs b o e).1
theorem Inv.mod (I : Inv X pins σ H s) : Mod X.K X.mg X.base := I.ok.mod
theorem Inv.kIn (I : Inv X pins σ H s) : X.K.In s.heap := I.ok.mod.kin.keeps I.bk
theorem Inv.lt (I : Inv X pins σ H s) : X.env.locals < s.heap.objs.size := let ⟨_, hn, _⟩ := I.loc; hn.lt
theorem Inv.sz (I : Inv X pins σ H s) : X.s₀.heap.objs.size ≤ s.heap.objs.size := Nat.le_trans I.ok.above (Nat.le_of_lt I.lt)
theorem Inv.nofs (I : Inv X pins σ H s) {a : Addr} (h : s.heap.objs.size ≤ a) : a ∉ X.fs := fun hb => by
  obtain ⟨_, o, ho, _⟩ := I.ok.funs.mem hb
  exact absurd (Nat.lt_of_lt_of_le (Heap.lt_size ho) (Nat.le_trans I.sz h)) (Nat.lt_irrefl _)
theorem Inv.cne (I : Inv X pins σ H s) : ∀ x c, X.env.cells.lookup x = some c → c ≠ X.env.locals := fun x c e z => by
  obtain ⟨v, o, ho, hd⟩ := I.cell x c e
  obtain ⟨m, ⟨o', es, ep, ho', hd', _⟩, _⟩ := I.loc
  rw [z, ho'] at ho; cases ho; rw [hd'] at hd; cases hd
theorem Inv.funs (I : Inv X pins σ H s) : s.heap.FunFrames X.base X.outer := by
  have all : ∀ (l : List Env), (∀ b ∈ frs l, b ∈ X.fs) → X.s₀.heap.FunFrames X.base l → s.heap.FunFrames X.base l := by
    intro l
    induction l with
    | nil => intro _ _; trivial
    | cons env r ih =>
      intro hs hl
      obtain ⟨hk, ⟨L, o, hf, hn, ho, hd⟩, hr⟩ := hl
      have hL : L ∈ X.fs := hs L (by unfold frs; rw [List.filterMap_cons, hf]; exact List.mem_cons_self)
      obtain ⟨sl, e⟩ := I.base.slot L o ho (I.ok.frf L hL) hL fun z => I.ok.exfs L z hL
      exact ⟨hk, ⟨L, _, hf, hn, e, hd⟩, ih (fun b hb => hs b (by unfold frs; rw [List.filterMap_cons, hf]; exact List.mem_cons_of_mem _ hb)) hr⟩
  exact all X.outer (fun _ hb => hb) I.ok.funs

theorem Inv.stack (I : Inv X pins σ H s) : s.heap.FunFrames X.base X.stack := by
  rcases I.ok.stk with e | ⟨e, hf⟩
  · rw [e]; exact I.funs
  · rw [e]
    obtain ⟨m, hn, _⟩ := I.loc
    refine .cons (by rw [I.ok.kind]; decide) hf hn ?_ I.funs
    exact Heap.get?_none_of_le (Nat.le_trans I.ok.bsz I.ok.above)
theorem Inv.stkSub (I : Inv X pins σ H s) : ∀ b ∈ frs X.stack, b ∈ X.env.locals :: X.fs := fun b hb => by
  rcases I.ok.stk with e | ⟨e, hf⟩
  · rw [e] at hb; exact List.mem_cons_of_mem _ hb
  · rw [e] at hb
    unfold frs at hb
    rw [List.filterMap_cons, hf] at hb
    exact hb
theorem Inv.stkFree (I : Inv X pins σ H s) : ∀ b ∈ frs X.stack, H b = none := fun b hb => by
  rcases List.mem_cons.mp (I.stkSub b hb) with e | hb
  · rw [e]; exact I.free
  · obtain ⟨_, o, ho, _⟩ := I.ok.funs.mem hb
    exact I.base.free b o ho (I.ok.frf b hb) fun z => I.ok.exfs b z hb

theorem Inv.step {g' : Array GenState} {t' : Nat} {d' : Drawn} {ch : List Addr} (I : Inv X pins σ H s)
    (hch : ∀ b ∈ ch, (b ∈ X.ex ∨ X.s₀.heap.objs.size ≤ b) ∧ b ≠ X.env.locals ∧ (∀ x c, X.env.cells.lookup x = some c → c ≠ b) ∧ ∀ p ∈ X.pn ++ pins, p.1 ≠ b)
    (keep : ∀ b o, b ≠ X.env.locals → b ∉ X.fs → b ∉ ch → s.heap.get? b = some o → H b = none → h'.get? b = some o)
    (slot : ∀ b o, b ≠ X.env.locals → b ∈ X.fs → b ∉ ch → s.heap.get? b = some o → H b = none → ∃ sl, h'.get? b = some { o with slots := sl }) (free : ∀ b o, b ∉ ch → s.heap.get? b = some o → H b = none → H' b = none)
    (there : ∀ b o, b ∉ ch → s.heap.get? b = some o → ∃ o', h'.get? b = some o')
    (tups : ∀ b xs, H b = some (.tup xs) → H' b = some (.tup xs)) (frzs : ∀ b o u, H b = some (.frz o u) → H' b = some (.frz o u)) (tbls : ∀ b ps, H b = some (.tbl ps) → ∃ more, H' b = some (.tbl (ps ++ more)))
    (ns : ∀ m, s.heap.Ns X.env.locals m → h'.Ns X.env.locals m) (hok : HOk X.prog X.w H' h') (hg : AllBare g') :
    Inv X pins σ H' { s with heap := h', gens := g', drawn := d', toks := t' } := by
  have neL : ∀ b o, X.s₀.heap.get? b = some o → b ≠ X.env.locals := fun b o e => Nat.ne_of_lt (Nat.lt_of_lt_of_le (Heap.lt_size e) I.ok.above)
  have neC : ∀ b o, X.s₀.heap.get? b = some o → b ∉ X.ex → b ∉ ch := fun b o e hx hb => by
    rcases (hch b hb).1 with z | z
    · exact hx z
    · exact absurd (Nat.lt_of_lt_of_le (Heap.lt_size e) z) (Nat.lt_irrefl _)
  have cellK : ∀ x c, X.env.cells.lookup x = some c → ∀ v, s.heap.IsCell c v → h'.IsCell c v := fun x c e v ⟨o, ho, hd⟩ => by
    have nch : c ∉ ch := fun z => (hch c z).2.2.1 x c e rfl
    by_cases hc : c ∈ X.fs
    · obtain ⟨sl, q⟩ := slot c o (I.cne x c e) hc nch ho (I.freeC x c e)
      exact ⟨_, q, hd⟩
    · exact ⟨o, keep c o (I.cne x c e) hc nch ho (I.freeC x c e), hd⟩
  refine ⟨I.ok, I.os, hg, ⟨fun b o e n hb hx => ?_, fun b o e n hb hx => ?_, fun b o e n hx => ?_, fun b o e hx => ?_, fun b xs e => tups b xs (I.base.tups b xs e), fun b o xs e => frzs b o xs (I.base.frzs b o xs e), fun b ps e => ?_⟩, ?_, fun x c e => ?_, ?_, fun x c e => ?_, fun p hp => ?_, hok, I.len⟩
  · exact keep b o (neL b o e) hb (neC b o e hx) (I.base.keep b o e n hb hx) (I.base.free b o e n hx)
  · obtain ⟨sl, e1⟩ := I.base.slot b o e n hb hx
    obtain ⟨sl', e2⟩ := slot b _ (neL b o e) hb (neC b o e hx) e1 (I.base.free b o e n hx)
    exact ⟨sl', e2⟩
  · obtain ⟨o', e1⟩ := I.base.there b o e hx
    exact free b o' (neC b o e hx) e1 (I.base.free b o e n hx)
  · obtain ⟨o', e1⟩ := I.base.there b o e hx
    exact there b o' (neC b o e hx) e1
  · obtain ⟨m1, e1⟩ := I.base.tbls b ps e
    obtain ⟨m2, e2⟩ := tbls b _ e1
    exact ⟨m1 ++ m2, by rw [e2, Array.append_assoc]⟩
  · obtain ⟨m, hn, hl⟩ := I.loc
    refine ⟨m, ns m hn, fun i x v e1 e2 e3 => ?_⟩
    obtain ⟨u, r, l⟩ := hl i x v e1 e2 e3
    refine ⟨u, r, ?_⟩
    rcases l with l | ⟨k, c, e, z⟩
    · exact .inl l
    · exact .inr ⟨k, c, e, cellK x c e _ z⟩
  · obtain ⟨v, z⟩ := I.cell x c e
    exact ⟨v, cellK x c e v z⟩
  · obtain ⟨m, ⟨o, _, _, ho, _⟩, _⟩ := I.loc
    exact free _ o (fun z => (hch _ z).2.1 rfl) ho I.free
  · obtain ⟨v, o, ho, hd⟩ := I.cell x c e
    exact free c o (fun z => (hch c z).2.2.1 x c e rfl) ho (I.freeC x c e)
  · obtain ⟨e, n, ne, nf, d⟩ := I.pin p hp
    have nch : p.1 ∉ ch := fun z => (hch p.1 z).2.2.2 p hp rfl
    exact ⟨keep p.1 p.2 ne nf nch e n, free p.1 p.2 nch e n, ne, nf, d⟩
theorem Inv.un {t' : Nat} (I : Inv X pins σ H s) (u : Un X.fs [] H H' s.heap h') (hok : HOk X.prog X.w H' h') : Inv X pins σ H' { s with heap := h', toks := t' } := by
  obtain ⟨m, ⟨o, es, ep, ho, r⟩, _⟩ := id I.loc
  obtain ⟨sl, hL⟩ := u.any ho I.free (by simp)
  exact I.step (g' := s.gens) (d' := s.drawn) (ch := []) (fun _ z => nomatch z) (fun b o _ hb _ e n => u.keep b o e n hb (by simp)) (fun b o _ hb _ e n => u.slot b o e n hb (by simp)) (fun b o _ e n => u.free b o e n (by simp)) (fun b o _ e => u.there b o e (by simp)) u.tups u.frzs u.tbls (fun m' hm => by
    obtain ⟨o', es', ep', ho', r'⟩ := hm
    rw [ho] at ho'; cases ho'
    exact ⟨_, es', ep', hL, r'⟩) hok I.bare
theorem Inv.call {g' : Array GenState} {t' : Nat} {d' : Drawn} {ch : List Addr} (I : Inv X pins σ H s) (u : Un (frs X.stack) ch H H' s.heap h') (hok : HOk X.prog X.w H' h') (hg : AllBare g')
    (hch : ∀ b ∈ ch, (b ∈ X.ex ∨ X.s₀.heap.objs.size ≤ b) ∧ b ≠ X.env.locals ∧ (∀ x c, X.env.cells.lookup x = some c → c ≠ b) ∧ ∀ p ∈ X.pn ++ pins, p.1 ≠ b) :
    Inv X pins σ H' { s with heap := h', gens := g', drawn := d', toks := t' } := by
  obtain ⟨m, ⟨o, es, ep, ho, r⟩, _⟩ := id I.loc
  obtain ⟨sl, hL⟩ := u.any ho I.free fun z => (hch _ z).2.1 rfl
  exact I.step (ch := ch) hch (fun b o hL hb hc e n => u.keep b o e n (fun z => (List.mem_cons.mp (I.stkSub b z)).elim hL hb) hc) (fun b o _ _ hc e n => u.any e n hc) (fun b o hc e n => u.free b o e n hc) (fun b o hc e => u.there b o e hc) u.tups u.frzs u.tbls (fun m' hm => by
    obtain ⟨o', es', ep', ho', r'⟩ := hm
    rw [ho] at ho'; cases ho'
    exact ⟨_, es', ep', hL, r'⟩) hok hg
theorem Inv.turned {t' : Nat} {it : Addr} (I : Inv X pins σ H s) (k : ∀ b o, b ≠ it → s.heap.get? b = some o → h'.get? b = some o) (hn : H it = none) (hL : it ≠ X.env.locals)
    (h1 : it ∈ X.ex ∨ X.s₀.heap.objs.size ≤ it) (h2 : ∀ x c, X.env.cells.lookup x = some c → c ≠ it) (h3 : ∀ p ∈ X.pn ++ pins, p.1 ≠ it) : Inv X pins σ H { s with heap := h', toks := t' } := by
  have nit : ∀ b u, H b = some u → b ≠ it := fun b u e z => by rw [z, hn] at e; cases e
  refine I.step (g' := s.gens) (d' := s.drawn) (ch := [it]) (fun b hb => ?_) (fun b o _ _ hc e _ => k b o (fun z => hc (by simp [z])) e) (fun b o _ _ hc e _ => ⟨o.slots, k b o (fun z => hc (by simp [z])) e⟩) (fun _ _ _ _ n => n)
    (fun b o hc e => ⟨o, k b o (fun z => hc (by simp [z])) e⟩) (fun _ _ e => e) (fun _ _ _ e => e) (fun b ps e => ⟨#[], by rw [e]; simp⟩) (fun m hm => ?_) (fun b u e => ?_) I.bare
  · have e : b = it := by simpa using hb
    subst e
    exact ⟨h1, hL, h2, h3⟩
  · obtain ⟨o, es, ep, ho, r⟩ := hm
    exact ⟨o, es, ep, k _ o (Ne.symm hL) ho, r⟩
  · refine (I.hok b u e).stay (fun c v hc q => k c v ?_ q) (fun _ q => q) fun _ _ q => q
    rcases hc with z | z
    · rw [z]; exact nit b u e
    · exact nit c _ z
theorem Inv.tok (I : Inv X pins σ H s) (t : Nat) : Inv X pins σ H { s with toks := t } := I.un (h' := s.heap) (t' := t) Un.refl I.hok
theorem Inv.kept {t' : Nat} (I : Inv X pins σ H s) (k : ∀ b u, s.heap.get? b = some u → h'.get? b = some u) : Inv X pins σ H { s with heap := h', toks := t' } := I.un (Un.kept k) (I.hok.kept k)
theorem Inv.laid {a : Addr} {o : HO} {t' : Nat} (I : Inv X pins σ H s) (k : ∀ b u, s.heap.get? b = some u → h'.get? b = some u) (hp : s.heap.objs.size ≤ a) (new : ObjOk X.prog X.w (upd H a o) h' a o) :
    Inv X pins σ (upd H a o) { s with heap := h', toks := t' } := I.un (Un.laid k hp (I.hok.fresh hp)) (I.hok.laid k hp new)
theorem Inv.write {x e : Addr} {o : HO} {t' : Nat} (I : Inv X pins σ H s) (mu : Mut (H x)) (he : e = x ∨ H e = some (.own x)) (k : ∀ b u, b ≠ e → s.heap.get? b = some u → h'.get? b = some u) (heo : ∃ u, h'.get? e = some u)
    (new : ObjOk X.prog X.w (upd H x o) h' x o) : Inv X pins σ (upd H x o) { s with heap := h', toks := t' } := I.un (Un.write mu he k heo) (I.hok.write mu he k heo new)
theorem Inv.pins_of {pins' : List (Addr × Obj)} (I : Inv X pins σ H s) (h : ∀ p ∈ pins', s.heap.get? p.1 = some p.2 ∧ H p.1 = none ∧ p.1 ≠ X.env.locals ∧ p.1 ∉ X.fs ∧ ∀ v, p.2.data ≠ .cell v) : Inv X pins' σ H s :=
  ⟨I.ok, I.os, I.bare, I.base, I.loc, I.cell, I.free, I.freeC, fun p hp => (List.mem_append.mp hp).elim (fun z => I.pin p (List.mem_append_left _ z)) (h p), I.hok, I.len⟩

theorem nodup_ix {N : List Str} (hN : N.Nodup) {i j : Nat} {x : Str} (a : N[i]? = some x) (b : N[j]? = some x) : i = j := by
  obtain ⟨h1, e1⟩ := List.getElem?_eq_some_iff.mp a
  obtain ⟨h2, e2⟩ := List.getElem?_eq_some_iff.mp b
  exact (List.getElem_inj hN).mp (e1.trans e2.symm)

theorem store_ok2 {M : Model} {A : Around} {E : Value → Shared → Prop} {i : Nat} {x : Str} {v : V} {u : Value} {Q : Unit → Shared → Prop} (I : Inv X pins σ H s) (hN : X.N.Nodup) (hi : X.N[i]? = some x) (hx : Loc X.env.scope x) (r : RelV v u)
    (h : ∀ s', Inv X pins (σ.set i (some v)) H s' → (∃ a, Heap.SameBut a s.heap s'.heap ∧ (a = X.env.locals ∨ X.env.cells.lookup x = some a)) → Q () s') (hf : X.fn x = true ∨ X.env.scope.names.lookup x = some .local := by first | exact .inl rfl | exact .inr rfl | assumption) : wpAny M A (storeName X.env x u) Q E s := by
  obtain ⟨m, hn, hl⟩ := id I.loc
  have hcls : (X.env.scope.kind == .class || (X.env.scope.kind == .module && X.env.locals != X.env.globals)) = false := by rw [I.ok.kind]; rfl
  have hiσ : i < σ.length := by rw [I.len]; exact (List.getElem?_eq_some_iff.mp hi).1
  have cne := I.cne
  have tracked : ∀ {a : Addr} {h' : Heap}, (∃ o, s.heap.get? a = some o ∧ H a = none) → Heap.SameBut a s.heap h' → HOk X.prog X.w H h' := fun {a h'} ha hs b ob e => by
    obtain ⟨_, _, hfree⟩ := ha
    refine (I.hok b ob e).stay (fun c w' hc q => (hs.2 c ?_).trans q) (fun _ q => q) fun _ _ q => q
    rintro rfl
    rcases hc with rfl | hc
    · rw [hfree] at e; cases e
    · rw [hfree] at hc; cases hc
  rcases hx with hk | hk
  · refine wpAny_storeName_local hk hn (fun h' hn' hs => ?_) hcls
    obtain ⟨oL, _, _, hoL, _⟩ := id hn
    refine h _ ⟨I.ok, I.os, I.bare, ⟨fun b o e n hb hx => ?_, fun b o e n hb hx => ?_, I.base.free, fun b o e hx => ?_, I.base.tups, I.base.frzs, I.base.tbls⟩, ⟨_, hn', fun j y v' e1 e2 e3 => ?_⟩, fun y c e => ?_, I.free, I.freeC, fun p hp => ?_, tracked ⟨oL, hoL, I.free⟩ hs, by simpa using I.len⟩ ⟨_, hs, .inl rfl⟩
    · exact (hs.2 b (Nat.ne_of_lt (Nat.lt_of_lt_of_le (Heap.lt_size e) I.ok.above))).trans (I.base.keep b o e n hb hx)
    · obtain ⟨sl, e1⟩ := I.base.slot b o e n hb hx
      exact ⟨sl, (hs.2 b (Nat.ne_of_lt (Nat.lt_of_lt_of_le (Heap.lt_size e) I.ok.above))).trans e1⟩
    · obtain ⟨o', e1⟩ := I.base.there b o e hx
      exact ⟨o', (hs.2 b (Nat.ne_of_lt (Nat.lt_of_lt_of_le (Heap.lt_size e) I.ok.above))).trans e1⟩
    · by_cases hj : j = i
      · subst hj
        rw [hi] at e1; cases e1
        rw [List.getElem?_set_self hiσ] at e2
        cases e2
        exact ⟨u, r, .inl ⟨hk, by simp⟩⟩
      · rw [List.getElem?_set_ne (Ne.symm hj)] at e2
        obtain ⟨u', r', q⟩ := hl j y v' e1 e2 e3
        refine ⟨u', r', ?_⟩
        rcases q with ⟨k, e⟩ | ⟨k, c, e, z⟩
        · refine .inl ⟨k, ?_⟩
          have : y ≠ x := fun e => hj (nodup_ix hN e1 (e ▸ hi))
          simp [this, e]
        · exact .inr ⟨k, c, e, z.sameBut hs (cne y c e)⟩
    · obtain ⟨w', z⟩ := I.cell y c e
      exact ⟨w', z.sameBut hs (cne y c e)⟩
    · obtain ⟨e, n, ne, nf, d⟩ := I.pin p hp
      exact ⟨(hs.2 p.1 ne).trans e, n, ne, nf, d⟩
  · have hfn : X.fn x = true := by
      rcases hf with z | z
      · exact z
      · rw [z] at hk; cases hk
    obtain ⟨c, hc⟩ := I.ok.has x (.inl hk)
    obtain ⟨w', z⟩ := I.cell x c hc
    refine wpAny_storeName_cell I.ok.kind hk hc z (fun h' hc' hs => ?_)
    obtain ⟨oc, hoc, hocd⟩ := id z
    refine h { s with heap := h' } ⟨I.ok, I.os, I.bare, ⟨fun b o e n hb hx => ?_, fun b o e n hb hx => ?_, I.base.free, fun b o e hx => ?_, I.base.tups, I.base.frzs, I.base.tbls⟩, ⟨m, hn.sameBut hs (Ne.symm (cne x c hc)), fun j y v' e1 e2 e3 => ?_⟩, fun y c' e => ?_, I.free, I.freeC, fun p hp => ?_, tracked ⟨oc, hoc, I.freeC x c hc⟩ hs, by simpa using I.len⟩ ⟨c, hs, .inr hc⟩
    · exact (hs.2 b (Nat.ne_of_lt (Nat.lt_of_lt_of_le (Heap.lt_size e) (I.ok.cab x c hfn hc)))).trans (I.base.keep b o e n hb hx)
    · obtain ⟨sl, e1⟩ := I.base.slot b o e n hb hx
      exact ⟨sl, (hs.2 b (Nat.ne_of_lt (Nat.lt_of_lt_of_le (Heap.lt_size e) (I.ok.cab x c hfn hc)))).trans e1⟩
    · obtain ⟨o', e1⟩ := I.base.there b o e hx
      exact ⟨o', (hs.2 b (Nat.ne_of_lt (Nat.lt_of_lt_of_le (Heap.lt_size e) (I.ok.cab x c hfn hc)))).trans e1⟩
    · by_cases hj : j = i
      · subst hj
        rw [hi] at e1; cases e1
        rw [List.getElem?_set_self hiσ] at e2
        cases e2
        exact ⟨u, r, .inr ⟨.inl hk, c, hc, hc'⟩⟩
      · rw [List.getElem?_set_ne (Ne.symm hj)] at e2
        obtain ⟨u', r', q⟩ := hl j y v' e1 e2 e3
        refine ⟨u', r', ?_⟩
        rcases q with q | ⟨k, c', e, z'⟩
        · exact .inl q
        · refine .inr ⟨k, c', e, z'.sameBut hs ?_⟩
          rintro rfl
          exact hj (nodup_ix hN e1 (I.ok.inj _ _ _ e hc ▸ hi))
    · by_cases hcc : c' = c
      · subst hcc; exact ⟨_, hc'⟩
      · obtain ⟨w2, z2⟩ := I.cell y c' e
        exact ⟨w2, z2.sameBut hs hcc⟩
    · obtain ⟨e, n, ne, nf, d⟩ := I.pin p hp
      refine ⟨(hs.2 p.1 ?_).trans e, n, ne, nf, d⟩
      intro q
      rw [q, hoc] at e
      have q' : oc = p.2 := Option.some.inj e
      exact d w' (by rw [← q']; exact hocd)
theorem store_ok {M : Model} {A : Around} {E : Value → Shared → Prop} {i : Nat} {x : Str} {v : V} {u : Value} {Q : Unit → Shared → Prop} (I : Inv X pins σ H s) (hN : X.N.Nodup) (hi : X.N[i]? = some x) (hx : Loc X.env.scope x) (r : RelV v u)
    (h : ∀ s', Inv X pins (σ.set i (some v)) H s' → Q () s') (hf : X.fn x = true ∨ X.env.scope.names.lookup x = some .local := by first | exact .inl rfl | exact .inr rfl | assumption) : wpAny M A (storeName X.env x u) Q E s :=
  store_ok2 I hN hi hx r (fun s' I' _ => h s' I') hf
theorem Inv.call' {s' : Shared} {ch : List Addr} (I : Inv X pins σ H s) (ho : s'.os = s.os) (u : Un (frs X.stack) ch H H' s.heap s'.heap) (hok : HOk X.prog X.w H' s'.heap) (hg : AllBare s'.gens)
    (hch : ∀ b ∈ ch, (b ∈ X.ex ∨ X.s₀.heap.objs.size ≤ b) ∧ b ≠ X.env.locals ∧ (∀ x c, X.env.cells.lookup x = some c → c ≠ b) ∧ ∀ p ∈ X.pn ++ pins, p.1 ≠ b) : Inv X pins σ H' s' := by
  obtain ⟨h', g', d', t', o'⟩ := s'
  have e : o' = s.os := ho
  subst e
  exact I.call (g' := g') (t' := t') (d' := d') u hok hg hch
end

noncomputable abbrev XK := Value → Option Addr → Hp → Prop
noncomputable abbrev St := List (Option V)
noncomputable abbrev VK := V → Hp → Prop
noncomputable abbrev TE := St → Hp → VK → Prop
noncomputable abbrev TT := St → Hp → (Bool → Hp → Prop) → Prop
noncomputable abbrev TA := St → Hp → (List V → Hp → Prop) → Prop
structure Ends where
  nx : St → Hp → Prop
  rt : VK
  bk : St → Hp → Prop := fun _ _ => False
  ct : St → Hp → Prop := fun _ _ => False
noncomputable abbrev TS := Ends → St → Hp → Prop

noncomputable def EP (X : Cx) (pins : List (Addr × Obj)) (σ : St) (Q : VK) (u : Value) (s' : Shared) : Prop := ∃ v H', Inv X pins σ H' s' ∧ RelV v u ∧ Q v H'
noncomputable def TP (X : Cx) (pins : List (Addr × Obj)) (σ : St) (Q : Bool → Hp → Prop) (b : Bool) (s' : Shared) : Prop := ∃ H', Inv X pins σ H' s' ∧ Q b H'
noncomputable def AP (X : Cx) (pins : List (Addr × Obj)) (σ : St) (Q : List V → Hp → Prop) (us : List Value) (s' : Shared) : Prop := ∃ vs H', Inv X pins σ H' s' ∧ Vals vs us ∧ Q vs H'
noncomputable def SP (X : Cx) (pins : List (Addr × Obj)) (D : Ends) (f : Flow) (s' : Shared) : Prop :=
  match f with
  | .next => ∃ σ' H', Inv X pins σ' H' s' ∧ D.nx σ' H'
  | .brk => ∃ σ' H', Inv X pins σ' H' s' ∧ D.bk σ' H'
  | .cont => ∃ σ' H', Inv X pins σ' H' s' ∧ D.ct σ' H'
  | .ret u => ∃ v σ' H', Inv X pins σ' H' s' ∧ RelV v u ∧ D.rt v H'

noncomputable def PE (X : Cx) (e : Expr) (t : TE) : Prop :=
  ∀ (pins : List (Addr × Obj)) (s : Shared) (σ : St) (H : Hp) (Q : VK), Inv X pins σ H s → t σ H Q → wpAny (model X.prog X.w) X.A (eval e X.env) (EP X pins σ Q) X.xe s
noncomputable def PT (X : Cx) (e : Expr) (t : TT) : Prop :=
  ∀ (pins : List (Addr × Obj)) (s : Shared) (σ : St) (H : Hp) (Q : Bool → Hp → Prop), Inv X pins σ H s → t σ H Q → wpAny (model X.prog X.w) X.A (isTrue e X.env (eval e X.env)) (TP X pins σ Q) X.xe s
noncomputable def PW (X : Cx) (e : Expr) (t : TT) : Prop :=
  ∀ (whole : Sem Value) (pins : List (Addr × Obj)) (s : Shared) (σ : St) (H : Hp) (Q : Bool → Hp → Prop), Inv X pins σ H s → t σ H Q → wpAny (model X.prog X.w) X.A (isTrue e X.env whole) (TP X pins σ Q) X.xe s
theorem PW.pt {X : Cx} {e : Expr} {t : TT} (h : PW X e t) : PT X e t := h _
noncomputable def PA (X : Cx) (es : List Expr) (t : TA) : Prop :=
  ∀ (pos : Pos) (pins : List (Addr × Obj)) (s : Shared) (σ : St) (H : Hp) (Q : List V → Hp → Prop), Inv X pins σ H s → t σ H Q → wpAny (model X.prog X.w) X.A (spliced (backTo pos (starEach es X.env))) (AP X pins σ Q) X.xe s
noncomputable def PS (X : Cx) (st : Stmt) (t : TS) : Prop :=
  ∀ (pins : List (Addr × Obj)) (s : Shared) (σ : St) (H : Hp) (D : Ends), Inv X pins σ H s → t D σ H → wpAny (model X.prog X.w) X.A (exec st X.env) (SP X pins D) X.xe s
noncomputable def PSs (X : Cx) (st : List Stmt) (t : TS) : Prop :=
  ∀ (pins : List (Addr × Obj)) (s : Shared) (σ : St) (H : Hp) (D : Ends), Inv X pins σ H s → t D σ H → wpAny (model X.prog X.w) X.A (execs st X.env) (SP X pins D) X.xe s
theorem thn {α : Type} {t : Sem α} {Q Q' : α → Shared → Prop} {M : Model} {A : Around} {E : Value → Shared → Prop} {s : Shared} (h : wpAny M A t Q E s) (hQ : ∀ a s, Q a s → Q' a s) : wpAny M A t Q' E s := wpAny_mono h hQ fun _ _ x => x
end L2

namespace L2
open PySem PySem.Spec PyProof.Rows
section
variable {X : Cx}

theorem bin {a b : Expr} {ta tb : TE} (ha : PE X a ta) (hb : PE X b tb) {pins : List (Addr × Obj)} {s : Shared} {σ : St} {H : Hp} {R : V → V → Hp → Prop} (I : Inv X pins σ H s) (h : ta σ H fun x H1 => tb σ H1 fun y H2 => R x y H2)
    {α : Type} {Q : α → Shared → Prop} {f : Value → Value → Sem α}
    (hf : ∀ v u s2 x y H2, Inv X pins σ H2 s2 → RelV x v → RelV y u → R x y H2 → wpAny (model X.prog X.w) X.A (f v u) Q X.xe s2) :
    wpAny (model X.prog X.w) X.A (eval a X.env) (fun v s₁ => wpAny (model X.prog X.w) X.A (eval b X.env) (fun u s₂ => wpAny (model X.prog X.w) X.A (f v u) Q X.xe s₂) X.xe s₁) X.xe s := by
  refine thn (ha pins s σ H _ I h) fun v s1 ⟨x, H1, I1, r1, q1⟩ => ?_
  refine thn (hb pins s1 σ H1 _ I1 q1) fun u s2 ⟨y, H2, I2, r2, q2⟩ => ?_
  exact hf v u s2 x y H2 I2 r1 r2 q2

noncomputable def tVar (i : Nat) : TE := fun σ H Q => ∃ v, σ[i]? = some (some v) ∧ Q v H
noncomputable def tC (v : V) : TE := fun _ H Q => Q v H
theorem pe_var {i : Nat} {x : Str} {pos : Pos} (hN : X.N[i]? = some x) (hv : Vis X.env.scope x) (hd : (x == ("__debug__" : Str)) = false := by decide) (hcd : (x == ("__classdict__" : Str)) = false := by decide) : PE X (.Name x pos) (tVar i) := by
  intro pins s σ H Q I h
  obtain ⟨v, e, h⟩ := h
  obtain ⟨m, hn, hl⟩ := I.loc
  obtain ⟨u, r, l⟩ := hl i x v hN e hv
  have fin : EP X pins σ Q u s := ⟨v, H, I, r, h⟩
  rcases l with ⟨hk, hm⟩ | ⟨hk, c, hc, hcell⟩
  · exact wpAny_Name (wpAny_loadName_local I.ok.kind hk hn hm fin) hd
  · rcases hk with hk | hk
    · exact wpAny_Name (wpAny_loadName_cell I.ok.kind hk hc hcell fin) hd
    · exact wpAny_Name (wpAny_loadName_free I.ok.kind hk hc hcell fin hcd) hd
theorem pe_int {i j pos} : PE X (.Constant (.int i) j pos) (tC (.int i)) := fun _ _ _ H _ I h => wpAny_Constant_int ⟨.int i, H, I.tok _, ⟨_, rfl⟩, h⟩
theorem pe_bl {b j pos} : PE X (.Constant (.bool b) j pos) (tC (.bl b)) := fun _ _ _ H _ I h => Constant_bool ⟨.bl b, H, I, rfl, h⟩
theorem pe_non {j pos} : PE X (.Constant .none j pos) (tC .non) := fun _ _ _ H _ I h => Constant_none ⟨.non, H, I, rfl, h⟩
theorem pe_str {x j pos} : PE X (.Constant (.str x) j pos) (tC (.str x)) := fun _ _ _ H _ I h => Calls.Constant_str ⟨.str x, H, I.tok _, ⟨_, rfl⟩, h⟩

noncomputable def Gl (X : Cx) (x : Str) : Prop := X.env.kindOf x = some .globalImplicit
theorem ld_glob {E : Value → Shared → Prop} {pins : List (Addr × Obj)} {s : Shared} {σ : St} {H : Hp} {x : Str} {u : Value} {pos : Pos} {Q : Value → Shared → Prop} (I : Inv X pins σ H s) (hg : Gl X x) (hm : X.mg x = some u) (h : Q u s)
    (hd : (x == ("__debug__" : Str)) = false := by decide) : wpAny (model X.prog X.w) X.A (eval (.Name x pos) X.env) Q E s :=
  Calls.Name_function_global I.ok.kind hg (Calls.loadGlobal_global (by rw [I.ok.glob]; exact I.mod.glob.keeps I.bk) hm h) hd
theorem ld_blt {E : Value → Shared → Prop} {pins : List (Addr × Obj)} {s : Shared} {σ : St} {H : Hp} {x : Str} {u : Value} {pos : Pos} {Q : Value → Shared → Prop} (I : Inv X pins σ H s) (hg : Gl X x) (hm : X.mg x = none) (hv : bootBuiltins x = some u) (h : Q u s)
    (hn : x ≠ "__name__" := by decide) (hd : (x == ("__debug__" : Str)) = false := by decide) : wpAny (model X.prog X.w) X.A (eval (.Name x pos) X.env) Q E s := by
  obtain ⟨mb, h1, h2⟩ := I.mod.blt
  exact Calls.Name_function_global I.ok.kind hg (Calls.loadGlobal_builtin (by rw [I.ok.glob]; exact I.mod.glob.keeps I.bk) hm (by rw [I.ok.blt]; exact h1.keeps I.bk) ((h2 x hn).trans hv) h) hd
theorem pe_glob {x : Str} {v : V} {u : Value} {pos : Pos} (hg : Gl X x) (hm : X.mg x = some u) (r : RelV v u) (hd : (x == ("__debug__" : Str)) = false := by decide) : PE X (.Name x pos) (tC v) :=
  fun _ _ _ H _ I h => ld_glob I hg hm ⟨v, H, I, r, h⟩ hd
noncomputable def t2I (ta tb : TE) (k : Int → Int → Hp → Prop) : St → Hp → Prop := fun σ H => ta σ H fun x H1 => tb σ H1 fun y H2 => ∃ i j, x = .int i ∧ y = .int j ∧ k i j H2
variable {a b : Expr} {ta tb : TE} {pos : Pos}
noncomputable def tCmp (p : Int → Int → Bool) (ta tb : TE) : TE := fun σ H Q => t2I ta tb (fun i j H2 => Q (.bl (p i j)) H2) σ H
noncomputable abbrev tLt : TE → TE → TE := tCmp fun i j => decide (i < j)
noncomputable abbrev tLe : TE → TE → TE := tCmp fun i j => decide (i ≤ j)
noncomputable abbrev tGt : TE → TE → TE := tCmp fun i j => decide (j < i)
noncomputable abbrev tGe : TE → TE → TE := tCmp fun i j => decide (j ≤ i)
noncomputable abbrev tEqI : TE → TE → TE := tCmp fun i j => decide (i = j)
noncomputable abbrev tNeI : TE → TE → TE := tCmp fun i j => !decide (i = j)
variable {tA tB' : TT} {rest : List Expr}
noncomputable def tAnd (t u : TT) : TT := fun σ H Q => t σ H fun c H1 => if c = true then u σ H1 Q else Q false H1
noncomputable def tOr (t u : TT) : TT := fun σ H Q => t σ H fun c H1 => if c = true then Q true H1 else u σ H1 Q
noncomputable def tNot (t : TT) : TT := fun σ H Q => t σ H fun c H1 => Q (!c) H1
theorem pw_and1 (ha : PT X a tA) : PW X (.BoolOp .And [a] pos) tA := by
  intro wh pins s σ H Q I h
  refine isTrue_and (thn (ha pins s σ H Q I h) fun c s1 e => ?_)
  cases c with
  | true => exact isTrue_and_nil e
  | false => exact e
theorem pw_or1 (ha : PT X a tA) : PW X (.BoolOp .Or [a] pos) tA := by
  intro wh pins s σ H Q I h
  refine isTrue_or (thn (ha pins s σ H Q I h) fun c s1 e => ?_)
  cases c with
  | false => exact isTrue_or_nil e
  | true => exact e
theorem pw_and (ha : PT X a tA) (hb : PW X (.BoolOp .And (b :: rest) pos) tB') : PW X (.BoolOp .And (a :: b :: rest) pos) (tAnd tA tB') := by
  intro wh pins s σ H Q I h
  refine isTrue_and (thn (ha pins s σ H _ I h) fun c s1 ⟨H1, I1, q1⟩ => ?_)
  cases c with
  | true => exact hb wh pins s1 σ H1 Q I1 q1
  | false => exact ⟨H1, I1, q1⟩
theorem pw_or (ha : PT X a tA) (hb : PW X (.BoolOp .Or (b :: rest) pos) tB') : PW X (.BoolOp .Or (a :: b :: rest) pos) (tOr tA tB') := by
  intro wh pins s σ H Q I h
  refine isTrue_or (thn (ha pins s σ H _ I h) fun c s1 ⟨H1, I1, q1⟩ => ?_)
  cases c with
  | true => exact ⟨H1, I1, q1⟩
  | false => exact hb wh pins s1 σ H1 Q I1 q1
theorem pt_not (ha : PT X a tA) : PT X (.UnaryOp .Not a pos) (tNot tA) := by
  intro pins s σ H Q I h
  exact isTrue_not (ha pins s σ H (fun c H1 => Q (!c) H1) I h)
noncomputable def tAndV (ta tb : TE) : TE := fun σ H Q => ta σ H fun x H1 => ∃ c, x = .bl c ∧ if c = true then tb σ H1 Q else Q (.bl false) H1
noncomputable def tOrV (ta tb : TE) : TE := fun σ H Q => ta σ H fun x H1 => ∃ c, x = .bl c ∧ if c = true then Q (.bl true) H1 else tb σ H1 Q
theorem pe_one {op} {t : TE} (h : PE X a t) : PE X (.BoolOp op [a] pos) t := fun pins s σ H Q I hw => BoolOp_one (h pins s σ H Q I hw)
theorem pe_and (ha : PE X a ta) (hb : PE X (.BoolOp .And (b :: rest) pos) tb) : PE X (.BoolOp .And (a :: b :: rest) pos) (tAndV ta tb) := by
  intro pins s σ H Q I h
  refine BoolOp_and (thn (ha pins s σ H _ I h) fun v s1 ⟨x, H1, I1, r1, q1⟩ => ?_)
  obtain ⟨c, rfl, q1⟩ := q1
  cases r1
  refine wpAny_truthy_bool ?_
  cases c with
  | true => exact hb pins s1 σ H1 Q I1 q1
  | false => exact ⟨.bl false, H1, I1, rfl, q1⟩
theorem pe_or (ha : PE X a ta) (hb : PE X (.BoolOp .Or (b :: rest) pos) tb) : PE X (.BoolOp .Or (a :: b :: rest) pos) (tOrV ta tb) := by
  intro pins s σ H Q I h
  refine BoolOp_or (thn (ha pins s σ H _ I h) fun v s1 ⟨x, H1, I1, r1, q1⟩ => ?_)
  obtain ⟨c, rfl, q1⟩ := q1
  cases r1
  refine wpAny_truthy_bool ?_
  cases c with
  | false => exact hb pins s1 σ H1 Q I1 q1
  | true => exact ⟨.bl true, H1, I1, rfl, q1⟩
noncomputable def tIf (t : TT) (ta tb : TE) : TE := fun σ H Q => t σ H fun c H1 => if c = true then ta σ H1 Q else tb σ H1 Q
theorem pe_ifExp {c : Expr} (hc : PT X c tA) (ha : PE X a ta) (hb : PE X b tb) : PE X (.IfExp c a b pos) (tIf tA ta tb) := by
  intro pins s σ H Q I h
  refine wpAny_IfExp (thn (hc pins s σ H _ I h) fun d s1 ⟨H1, I1, q1⟩ => ?_)
  cases d with
  | true => exact ha pins s1 σ H1 Q I1 q1
  | false => exact hb pins s1 σ H1 Q I1 q1
end
end L2

namespace L2
open PySem PySem.Spec PyProof.Rows

noncomputable def SqL (K : PySem.W.Frag) (H : Hp) (a : Addr) (xs : List V) : Prop :=
  Rd H a (.lst xs) ∨
    ∃ (o : Obj) (its : Array Value) (n : Nat), K.lookup a = some o ∧ o.cls = .type "list" ∧ o.dict = none ∧ o.data = .seq its n ∧ its.size ≤ sizeLine ∧ Vals xs its.toList
noncomputable def SqT (K : PySem.W.Frag) (H : Hp) (a : Addr) (xs : List V) : Prop :=
  Rd H a (.tup xs) ∨
    ∃ (o : Obj) (its : Array Value) (n : Nat), K.lookup a = some o ∧ o.cls = .type "tuple" ∧ o.data = .seq its n ∧ its.size ≤ sizeLine ∧ Vals xs its.toList
noncomputable def absV : Value → Option V
  | .none => some .non
  | .bool b => some (.bl b)
  | .int i _ => some (.int i)
  | .str x _ => some (.str x)
  | .bytes b _ => some (.byt b)
  | .float b _ => some (.flt b)
  | .ref a => some (.ref a)
  | .type n => some (.ty n)
  | _ => none
theorem RelV.abs {x : V} {u : Value} (r : RelV x u) : absV u = some x := by
  cases x with
  | non => cases r; rfl
  | bl _ => cases r; rfl
  | int _ => obtain ⟨t, rfl⟩ := r; rfl
  | str _ => obtain ⟨t, rfl⟩ := r; rfl
  | byt _ => obtain ⟨t, rfl⟩ := r; rfl
  | flt _ => obtain ⟨t, rfl⟩ := r; rfl
  | ref _ => cases r; rfl
  | ty _ => cases r; rfl
theorem RelV.inj {x y : V} {u : Value} (r : RelV x u) (q : RelV y u) : x = y := Option.some.inj (r.abs.symm.trans q.abs)
theorem Vals.inj : ∀ {xs ys : List V} {us : List Value}, Vals xs us → Vals ys us → xs = ys
  | _, _, _, .nil, .nil => rfl
  | _, _, _, .cons r t, .cons r' t' => by rw [r.inj r', Vals.inj t t']
section
variable {X : Cx} {pins : List (Addr × Obj)} {σ : St} {H : Hp} {s : Shared} {a : Addr} {xs ys : List V}
theorem SqL.of {K : PySem.W.Frag} (h : H a = some (.lst xs)) : SqL K H a xs := .inl (.inl h)
theorem SqT.of {K : PySem.W.Frag} (h : H a = some (.tup xs)) : SqT K H a xs := .inl (.inl h)
theorem Inv.list (I : Inv X pins σ H s) (h : SqL X.K H a xs) : ∃ its : List Value, Vals xs its ∧ PlainL s.heap a its.toArray ∧ xs.length ≤ sizeLine := by
  rcases h with h | ⟨o, its, n, hk, hc, hd, hs, hz, r⟩
  · obtain ⟨z, its, n, r, e⟩ := h.ok I.hok
    exact ⟨its, r, ⟨_, n, e, rfl, rfl, rfl⟩, z⟩
  · refine ⟨its.toList, r, ⟨o, n, I.kIn a o hk, hc, hd, by simpa using hs⟩, ?_⟩
    have e := r.length
    simp only [Array.length_toList] at e
    omega
theorem Inv.tuple (I : Inv X pins σ H s) (h : SqT X.K H a xs) : ∃ its : List Value, Vals xs its ∧ IsTup s.heap a its.toArray ∧ xs.length ≤ sizeLine := by
  rcases h with h | ⟨o, its, n, hk, hc, hs, hz, r⟩
  · obtain ⟨z, its, r, p⟩ := h.ok I.hok
    exact ⟨its, r, p, z⟩
  · refine ⟨its.toList, r, ⟨o, I.kIn a o hk, hc, n, by simpa using hs⟩, ?_⟩
    have e := r.length
    simp only [Array.length_toList] at e
    omega
theorem Inv.list_inj (I : Inv X pins σ H s) (h : SqL X.K H a xs) (h' : SqL X.K H a ys) : xs = ys := by
  obtain ⟨its, r, ⟨o, n, e, _, _, d⟩, _⟩ := I.list h
  obtain ⟨its', r', ⟨o', n', e', _, _, d'⟩, _⟩ := I.list h'
  rw [e] at e'; cases e'
  rw [d] at d'
  injection d' with d1 _
  have : its = its' := by simpa using congrArg Array.toList d1
  subst this
  exact r.inj r'
theorem Inv.tuple_inj (I : Inv X pins σ H s) (h : SqT X.K H a xs) (h' : SqT X.K H a ys) : xs = ys := by
  obtain ⟨its, r, ⟨o, e, _, n, d⟩, _⟩ := I.tuple h
  obtain ⟨its', r', ⟨o', e', _, n', d'⟩, _⟩ := I.tuple h'
  rw [e] at e'; cases e'
  rw [d] at d'
  injection d' with d1 _
  have : its = its' := by simpa using congrArg Array.toList d1
  subst this
  exact r.inj r'
end

noncomputable abbrev Cx.wish (X : Cx) (E : Value → Shared → Prop) : Cx := { X with xe := E }
noncomputable abbrev Cx.nox (X : Cx) : Cx := X.wish fun _ _ => False
theorem Cx.Ok.wish {X : Cx} (ok : X.Ok) (E : Value → Shared → Prop) : (X.wish E).Ok :=
  ⟨ok.mod, ok.kind, ok.glob, ok.blt, ok.above, ok.inj, ok.has, ok.cab, ok.hd, ok.frames, ok.stk, ok.exf, ok.bs, ok.bsz, ok.noex, ok.exfs, ok.funs, ok.frf⟩
theorem Cx.Ok.unwish {X : Cx} {E : Value → Shared → Prop} (ok : (X.wish E).Ok) : X.Ok :=
  ⟨ok.mod, ok.kind, ok.glob, ok.blt, ok.above, ok.inj, ok.has, ok.cab, ok.hd, ok.frames, ok.stk, ok.exf, ok.bs, ok.bsz, ok.noex, ok.exfs, ok.funs, ok.frf⟩
section
variable {X : Cx} {pins : List (Addr × Obj)} {σ : St} {H : Hp} {s : Shared} {E : Value → Shared → Prop}
theorem Inv.wish (I : Inv X pins σ H s) (E : Value → Shared → Prop) : Inv (X.wish E) pins σ H s := ⟨I.ok.wish E, I.os, I.bare, I.base, I.loc, I.cell, I.free, I.freeC, I.pin, I.hok, I.len⟩
theorem Inv.unwish (I : Inv (X.wish E) pins σ H s) : Inv X pins σ H s := ⟨I.ok.unwish, I.os, I.bare, I.base, I.loc, I.cell, I.free, I.freeC, I.pin, I.hok, I.len⟩
theorem SP.unwish {D : Ends} {f : Flow} {s' : Shared} (h : SP (X.wish E) pins D f s') : SP X pins D f s' := by
  cases f with
  | next => obtain ⟨σ', H', I, q⟩ := h; exact ⟨σ', H', I.unwish, q⟩
  | brk => obtain ⟨σ', H', I, q⟩ := h; exact ⟨σ', H', I.unwish, q⟩
  | cont => obtain ⟨σ', H', I, q⟩ := h; exact ⟨σ', H', I.unwish, q⟩
  | ret u => obtain ⟨v, σ', H', I, r, q⟩ := h; exact ⟨v, σ', H', I.unwish, r, q⟩
theorem PSs.nox {st : List Stmt} {t : TS} (h : PSs X.nox st t) : PSs X st t := fun pins s σ H D I hw =>
  wpAny_mono (h pins s σ H D (I.wish _) hw) (fun _ _ q => q.unwish) fun _ _ z => False.elim z
end

section
variable {X : Cx} {st : Stmt} {rest : List Stmt} {t u : TS} {e : Expr} {te : TE} {pos : Pos}
noncomputable def tNext : TS := fun D σ H => D.nx σ H
noncomputable def tSeq (t u : TS) : TS := fun D σ H => t { D with nx := u D } σ H
theorem pss_nil : PSs X [] tNext := fun _ _ σ H _ I h => wpAny_execs_nil ⟨σ, H, I, h⟩
theorem pss_cons (h1 : PS X st t) (h2 : PSs X rest u) : PSs X (st :: rest) (tSeq t u) := by
  intro pins s σ H D I h
  refine wpAny_execs_cons (thn (h1 pins s σ H { D with nx := u D } I h) fun f s1 q => ?_)
  cases f with
  | next =>
    obtain ⟨σ', H', I', q⟩ := q
    exact h2 pins s1 σ' H' D I' q
  | ret v => exact q
  | brk => exact q
  | cont => exact q
theorem pss_one (h1 : PS X st t) : PSs X [st] t := by
  intro pins s σ H D I h
  refine wpAny_execs_cons (thn (h1 pins s σ H D I h) fun f s1 q => ?_)
  cases f with
  | next => exact wpAny_execs_nil q
  | ret v => exact q
  | brk => exact q
  | cont => exact q
theorem Inv.quiet {pins : List (Addr × Obj)} {σ : St} {H : Hp} {s : Shared} (I : Inv X pins σ H s) : interactive X.env = false := by simp [interactive, I.ok.kind]
noncomputable def tDrop (te : TE) : TS := fun D σ H => te σ H fun _ H1 => D.nx σ H1
theorem ps_expr (he : PE X e te) (hs : swapsWith e none pos.line X.env = pure false := by rfl) : PS X (.Expr e pos) (tDrop te) := by
  intro pins s σ H D I h
  exact wpAny_Expr_any (thn (he pins s σ H _ I h) fun v s1 ⟨x, H1, I1, r1, q1⟩ => ⟨σ, H1, I1, q1⟩) I.quiet hs
noncomputable def tRet (te : TE) : TS := fun D σ H => te σ H D.rt
theorem ps_ret (he : PE X e te) : PS X (.Return (some e) pos) (tRet te) := by
  intro pins s σ H D I h
  exact wpAny_Return_some (thn (he pins s σ H _ I h) fun v s1 ⟨x, H1, I1, r1, q1⟩ => ⟨x, σ, H1, I1, r1, q1⟩)
noncomputable def tIfS (c : TT) (t u : TS) : TS := fun D σ H => c σ H fun b H1 => if b = true then t D σ H1 else u D σ H1
theorem ps_if {c : Expr} {a b : List Stmt} {tc : TT} (hc : PT X c tc) (ha : PSs X a t) (hb : PSs X b u) : PS X (.If c a b pos) (tIfS tc t u) := by
  intro pins s σ H D I h
  refine wpAny_If (thn (hc pins s σ H _ I h) fun d s1 ⟨H1, I1, q1⟩ => ?_)
  cases d with
  | true => exact ha pins s1 σ H1 D I1 q1
  | false => exact hb pins s1 σ H1 D I1 q1
end

noncomputable abbrev TG := V → St → Hp → (St → Hp → Prop) → Prop
noncomputable abbrev TGs := List V → St → Hp → (St → Hp → Prop) → Prop
noncomputable def PG (X : Cx) (target : Expr) (t : TG) : Prop :=
  ∀ (pins : List (Addr × Obj)) (s : Shared) (σ : St) (H : Hp) (v : V) (u : Value) (Q : St → Hp → Prop), Inv X pins σ H s → RelV v u → t v σ H Q →
    wpAny (model X.prog X.w) X.A (assign target X.env u) (fun _ s' => ∃ σ' H', Inv X pins σ' H' s' ∧ Q σ' H') X.xe s
noncomputable def PGs (X : Cx) (ts : List Expr) (t : TGs) : Prop :=
  ∀ (pins : List (Addr × Obj)) (s : Shared) (σ : St) (H : Hp) (vs : List V) (us : List Value) (Q : St → Hp → Prop), Inv X pins σ H s → Vals vs us → t vs σ H Q →
    wpAny (model X.prog X.w) X.A (assignInOrder ((assignEach ts X.env).map (·.2)) us) (fun _ s' => ∃ σ' H', Inv X pins σ' H' s' ∧ Q σ' H') X.xe s
noncomputable abbrev TSet := V → V → V → Hp → (Hp → Prop) → Prop
noncomputable abbrev TIp := V → V → Hp → VK → Prop
section
variable {X : Cx} {pos : Pos}
noncomputable def gName (i : Nat) : TG := fun v σ H Q => Q (σ.set i (some v)) H
theorem pg_name {i : Nat} {x : Str} (hN : X.N.Nodup) (hi : X.N[i]? = some x) (hx : Loc X.env.scope x) (hf : X.fn x = true ∨ X.env.scope.names.lookup x = some .local := by first | exact .inl rfl | exact .inr rfl | assumption) : PG X (.Name x pos) (gName i) := by
  intro pins s σ H v u Q I r h
  exact wpAny_assign_Name (store_ok I hN hi hx r (fun s' I' => ⟨_, H, I', h⟩) hf)
noncomputable def gNil : TGs := fun vs σ H Q => vs = [] ∧ Q σ H
noncomputable def gCons (t : TG) (u : TGs) : TGs := fun vs σ H Q => ∃ v r, vs = v :: r ∧ t v σ H fun σ' H' => u r σ' H' Q
theorem pgs_nil : PGs X [] gNil := by
  intro pins s σ H vs us Q I r h
  obtain ⟨e, h⟩ := h
  subst e
  cases r
  exact assignInOrder_nil ⟨σ, H, I, h⟩
theorem pgs_cons {e : Expr} {es : List Expr} {t : TG} {u : TGs} (h1 : PG X e t) (h2 : PGs X es u)
    (hs : (assignEach (e :: es) X.env).map (·.2) = assign e X.env :: (assignEach es X.env).map (·.2) := by rfl) : PGs X (e :: es) (gCons t u) := by
  intro pins s σ H vs us Q I r h
  obtain ⟨v, vr, e1, h⟩ := h
  subst e1
  cases r with
  | cons r rr =>
    rw [hs]
    refine assignInOrder_cons (thn (h1 pins s σ H _ _ _ I r h) fun _ s1 ⟨σ1, H1, I1, q1⟩ => ?_)
    exact h2 pins s1 σ1 H1 _ _ Q I1 rr q1
noncomputable def gTup (K : PySem.W.Frag) (n : Nat) (t : TGs) : TG := fun v σ H Q => ∃ a xs, v = .ref a ∧ SqT K H a xs ∧ xs.length = n ∧ t xs σ H Q
theorem pg_tup {es : List Expr} {k : Nat} {t : TGs} {n : Nat} (hc : X.calm = true) (h : PGs X es t)
    (hn : (assignEach es X.env).length = n := by rfl) (hst : (assignEach es X.env).findIdx? (·.1) = none := by rfl) : PG X (.Tuple es k pos) (gTup X.K n t) := by
  intro pins s σ H v u Q I r hw
  obtain ⟨a, xs, e1, hq, hl, hw⟩ := hw
  subst e1
  cases r
  obtain ⟨its, rv, ht, hz⟩ := I.tuple hq
  refine assign_Tuple_tuple (I.ok.hd hc) ht (by simp [hn, ← hl, rv.length]) hst fun h' hx => ?_
  have I1 : Inv X pins σ H { s with heap := h' } := I.kept (t' := s.toks) fun b o e => hx b o (Nat.ne_of_lt (Heap.lt_size e)) e
  exact h pins _ σ H xs _ Q I1 (by simpa using rv) hw
noncomputable def tAsg (te : TE) (g : TG) : TS := fun D σ H => te σ H fun x H1 => g x σ H1 D.nx
theorem ps_set {i : Nat} {x : Str} {e : Expr} {te : TE} {pos' : Pos} (hN : X.N.Nodup) (hi : X.N[i]? = some x) (hx : Loc X.env.scope x) (he : PE X e te) (hs : swapsWith e (some (.Name x pos')) pos.line X.env = pure false := by rfl) (hf : X.fn x = true ∨ X.env.scope.names.lookup x = some .local := by first | exact .inl rfl | exact .inr rfl | assumption) :
    PS X (.Assign [.Name x pos'] e pos) (tAsg te (gName i)) := by
  intro pins s σ H D I h
  refine wpAny_Assign_Name (thn (he pins s σ H _ I h) fun v s1 ⟨y, H1, I1, r1, q1⟩ => ?_) hs
  exact store_ok I1 hN hi hx r1 (fun s2 I2 => ⟨_, H1, I2, q1⟩) hf
end

section
variable {X : Cx} {pos : Pos}
end

structure It where
  go : Nat → Hp → Prop
  yld : Nat → Hp → V → Hp → Prop
  stop : Nat → Hp → Prop
noncomputable def FpOk (X : Cx) (pins : List (Addr × Obj)) (H : Hp) (b : Addr) : Prop :=
  H b = none ∧ b ≠ X.env.locals ∧ b ∉ X.fs ∧ (b ∈ X.ex ∨ X.s₀.heap.objs.size ≤ b) ∧ (∀ x c, X.env.cells.lookup x = some c → c ≠ b) ∧ ∀ p ∈ X.pn ++ pins, p.1 ≠ b
theorem Inv.fpOk {X : Cx} {pins : List (Addr × Obj)} {σ : St} {H H' : Hp} {s : Shared} {b : Addr} (I : Inv X pins σ H s) (hb : s.heap.objs.size ≤ b) (hn : H' b = none) : FpOk X pins H' b := by
  refine ⟨hn, Nat.ne_of_gt (Nat.lt_of_lt_of_le I.lt hb), I.nofs hb, .inr (Nat.le_trans I.sz hb), fun x c e z => ?_, fun p hp z => ?_⟩
  · obtain ⟨v, q⟩ := I.cell x c e
    exact absurd (Nat.lt_of_lt_of_le q.lt (by rw [z]; exact hb)) (Nat.lt_irrefl _)
  · exact absurd (Nat.lt_of_lt_of_le (Heap.lt_size (I.pin p hp).1) (by rw [z]; exact hb)) (Nat.lt_irrefl _)
structure Turn (P : Program) (w : World) (K : PySem.W.Frag) (tg : Expr) (J : It) (fp : List Addr) (it : Addr) (tn : Nat → Heap → Prop) : Prop where
  mem : it ∈ fp
  obj : ∀ i h, tn i h → ∀ b ∈ fp, ∃ o, h.get? b = some o ∧ ∀ v, o.data ≠ .cell v
  keep : ∀ i h h', tn i h → (∀ b ∈ fp, ∀ o, h.get? b = some o → h'.get? b = some o) → tn i h'
  item : ∀ (X : Cx), X.prog = P → X.w = w → X.K = K → X.calm = true → ∀ (i : Nat) (pins : List (Addr × Obj)) (s : Shared) (σ : St) (H : Hp) (E : Value → Shared → Prop), Inv X pins σ H s → (∀ b ∈ fp, FpOk X pins H b) → tn i s.heap → J.go i H →
    wpAny (model P w) X.A (pyNext (.ref it)) (fun r s1 => ∃ u, r = some u ∧
      wpAny (model P w) X.A (letOwnedTupleGo tg (.ref it) u) (fun _ s2 => ∃ x H', Inv X pins σ H' s2 ∧ RelV x u ∧ J.yld i H x H' ∧ tn (i + 1) s2.heap ∧ ∀ b ∈ fp, H' b = none) E s1) E s
  done : ∀ (X : Cx), X.prog = P → X.w = w → X.K = K → X.calm = true → ∀ (i : Nat) (pins : List (Addr × Obj)) (s : Shared) (σ : St) (H : Hp) (E : Value → Shared → Prop), Inv X pins σ H s → (∀ b ∈ fp, FpOk X pins H b) → tn i s.heap → J.stop i H →
    wpAny (model P w) X.A (pyNext (.ref it)) (fun r s1 => r = none ∧ Inv X pins σ H s1) E s
  self : ∀ (A : Around) (i : Nat) (s : Shared) (Q : Value → Shared → Prop) (E : Value → Shared → Prop), tn i s.heap → Q (.ref it) s → wpAny (model P w) A (pyIter (.ref it)) Q E s
noncomputable abbrev TI := St → Hp → (It → Hp → Prop) → Prop
noncomputable def PIE (X : Cx) (pins : List (Addr × Obj)) (σ : St) (tg : Expr) (R : It → Hp → Prop) (itv : Value) (s2 : Shared) : Prop :=
  ∃ (it : Addr) (fp : List Addr) (tn : Nat → Heap → Prop) (J : It) (H' : Hp), itv = .ref it ∧ Inv X pins σ H' s2 ∧ Turn X.prog X.w X.K tg J fp it tn ∧ tn 0 s2.heap ∧ (∀ b ∈ fp, FpOk X pins H' b) ∧ R J H'
noncomputable def PI (X : Cx) (tg iter : Expr) (wi : TI) : Prop :=
  ∀ (pins : List (Addr × Obj)) (s : Shared) (σ : St) (H : Hp) (R : It → Hp → Prop), Inv X pins σ H s → wi σ H R →
    wpAny (model X.prog X.w) X.A (eval iter X.env) (fun v s1 => wpAny (model X.prog X.w) X.A (pyIter v) (PIE X pins σ tg R) X.xe s1) X.xe s

theorem go_of {M : Model} {A : Around} {E : Value → Shared → Prop} {s : Shared} {tg : Expr} {it : Addr} {u : Value} {o : Obj} {n : String} {vs : Array Value} {Q : Unit → Shared → Prop} (ho : s.heap.get? it = some o) (hc : o.cls = .type n) (hd : o.data = .fields vs)
    (hn : ["enumerate", "zip", "dict_itemiterator", "dict_reverseitemiterator", "odict_iterator", "itertools.zip_longest", "itertools.pairwise"].contains n = false) (hQ : Q () s) : wpAny M A (letOwnedTupleGo tg (.ref it) u) Q E s := by
  unfold letOwnedTupleGo
  cases tg <;> first
    | exact wpAny_pure hQ
    | (cases u <;> first
        | exact wpAny_pure hQ
        | (refine wpAny_bind (wpAny_load ho ?_)
           rw [hc, hd]
           show wpAny M A (if (["enumerate", "zip", "dict_itemiterator", "dict_reverseitemiterator", "odict_iterator", "itertools.zip_longest", "itertools.pairwise"].contains n && vs[0]? == some (rawInt _)) = true then _ else _) Q E s
           rw [if_neg (by intro h; rw [hn, Bool.false_and] at h; cases h)]
           exact wpAny_pure hQ))

noncomputable def Itl (K : PySem.W.Frag) (a : Addr) : It :=
  ⟨fun i H => ∃ xs x, SqL K H a xs ∧ xs[i]? = some x, fun i H x H' => H' = H ∧ ∀ xs, SqL K H a xs → xs[i]? = some x, fun i H => ∃ xs, SqL K H a xs ∧ xs.length ≤ i⟩
noncomputable def Itt (K : PySem.W.Frag) (a : Addr) : It :=
  ⟨fun i H => ∃ xs x, SqT K H a xs ∧ xs[i]? = some x, fun i H x H' => H' = H ∧ ∀ xs, SqT K H a xs → xs[i]? = some x, fun i H => ∃ xs, SqT K H a xs ∧ xs.length ≤ i⟩
noncomputable def Itr (lo : Int) (n : Nat) : It := ⟨fun i _ => i < n, fun i H x H' => H' = H ∧ x = .int (lo + i), fun i _ => n ≤ i⟩
theorem turn_list {P : Program} {w : World} {K : PySem.W.Frag} {tg : Expr} (a it : Addr) : Turn P w K tg (Itl K a) [it] it (fun i h => h.IsListIter it a i) where
  mem := by simp
  obj := fun i h st b hb => by
    have e : b = it := by simpa using hb
    subst e
    obtain ⟨o, e, c, d⟩ := st
    exact ⟨o, e, fun v z => by rw [d] at z; cases z⟩
  keep := fun i h h' st k => st.at fun o e => k it (by simp) o e
  item := by
    intro X hP hw hK hc i pins s σ H E I hf st hg
    subst hP hw hK
    obtain ⟨xs, x, hq, hx⟩ := hg
    obtain ⟨its, rv, p, hz⟩ := I.list hq
    obtain ⟨u, hu, ru⟩ := rv.get hx
    obtain ⟨f0, f1, f2, f3, f4, f5⟩ := hf it (by simp)
    refine wpAny_pyNext_list_item st p.isList (x := u) (by simpa using hu) fun h' st' sb => ?_
    have I1 : Inv X pins σ H { s with heap := h' } := I.turned (t' := s.toks) (fun b o hb e => (sb.2 b hb).trans e) f0 f1 f3 f4 f5
    obtain ⟨o, e, c, d⟩ := id st'
    exact ⟨u, rfl, go_of (s := { s with heap := h' }) e c d (by decide) ⟨x, H, I1, ru, ⟨rfl, fun ys hy => by rw [I.list_inj hy hq]; exact hx⟩, st', fun b hb => (hf b hb).1⟩⟩
  done := by
    intro X hP hw hK hc i pins s σ H E I hf st hg
    subst hP hw hK
    obtain ⟨xs, hq, hx⟩ := hg
    obtain ⟨its, rv, p, hz⟩ := I.list hq
    obtain ⟨f0, f1, f2, f3, f4, f5⟩ := hf it (by simp)
    have hl := rv.length
    exact wpAny_pyNext_list_end (I.ok.hd hc) st p.isList (by simp; omega) fun h' eb => ⟨rfl, I.turned (t' := s.toks) (fun b o hb e => eb b o hb e) f0 f1 f3 f4 f5⟩
  self := fun _ _ _ _ _ st h => wpAny_pyIter_listiter st h
theorem turn_tuple {P : Program} {w : World} {K : PySem.W.Frag} {tg : Expr} (a it : Addr) : Turn P w K tg (Itt K a) [it] it (fun i h => h.IsTupleIter it a i) where
  mem := by simp
  obj := fun i h st b hb => by
    have e : b = it := by simpa using hb
    subst e
    obtain ⟨o, e, c, d⟩ := st
    exact ⟨o, e, fun v z => by rw [d] at z; cases z⟩
  keep := fun i h h' st k => st.at fun o e => k it (by simp) o e
  item := by
    intro X hP hw hK hc i pins s σ H E I hf st hg
    subst hP hw hK
    obtain ⟨xs, x, hq, hx⟩ := hg
    obtain ⟨its, rv, p, hz⟩ := I.tuple hq
    obtain ⟨u, hu, ru⟩ := rv.get hx
    obtain ⟨f0, f1, f2, f3, f4, f5⟩ := hf it (by simp)
    refine wpAny_pyNext_tuple_item st (show s.heap.IsTuple a its.toArray from p) (x := u) (by simpa using hu) fun h' st' sb => ?_
    have I1 : Inv X pins σ H { s with heap := h' } := I.turned (t' := s.toks) (fun b o hb e => (sb.2 b hb).trans e) f0 f1 f3 f4 f5
    obtain ⟨o, e, c, d⟩ := id st'
    exact ⟨u, rfl, go_of (s := { s with heap := h' }) e c d (by decide) ⟨x, H, I1, ru, ⟨rfl, fun ys hy => by rw [I.tuple_inj hy hq]; exact hx⟩, st', fun b hb => (hf b hb).1⟩⟩
  done := by
    intro X hP hw hK hc i pins s σ H E I hf st hg
    subst hP hw hK
    obtain ⟨xs, hq, hx⟩ := hg
    obtain ⟨its, rv, p, hz⟩ := I.tuple hq
    obtain ⟨f0, f1, f2, f3, f4, f5⟩ := hf it (by simp)
    have hl := rv.length
    exact wpAny_pyNext_tuple_end (I.ok.hd hc) st (show s.heap.IsTuple a its.toArray from p) (by simp; omega) fun h' eb => ⟨rfl, I.turned (t' := s.toks) (fun b o hb e => eb b o hb e) f0 f1 f3 f4 f5⟩
  self := fun _ _ _ _ _ st h => wpAny_pyIter_tupleiter st h
theorem turn_range {P : Program} {w : World} {K : PySem.W.Frag} {tg : Expr} (it : Addr) (lo : Int) (n : Nat) : Turn P w K tg (Itr lo n) [it] it (fun i h => IsRangeIter h it (lo + (i : Nat) * 1) ((n : Int) - (i : Nat)) 1) where
  mem := by simp
  obj := fun i h st b hb => by
    have e : b = it := by simpa using hb
    subst e
    exact ⟨_, st, fun v z => by
      have z' : Data.fields _ = Data.cell v := z
      cases z'⟩
  keep := fun i h h' st k => k it (by simp) _ st
  item := by
    intro X hP hw hK hc i pins s σ H E I hf st hg
    subst hP hw hK
    obtain ⟨f0, f1, f2, f3, f4, f5⟩ := hf it (by simp)
    have W := Walks.range (prog := X.prog) (w := X.w) (I.ok.hd hc) it lo 1 n
    refine W.item i s _ _ hg st fun v h' tk hv st' kk => ?_
    obtain ⟨t, rfl⟩ := hv
    have I1 : Inv X pins σ H { s with heap := h', toks := tk } := I.turned (fun b o hb e => kk b o (by simpa using hb) e) f0 f1 f3 f4 f5
    refine ⟨_, rfl, go_of (s := { s with heap := h', toks := tk }) (n := "range_iterator") st' rfl rfl (by decide) ⟨.int (lo + i), H, I1, ⟨t, ?_⟩, ⟨rfl, rfl⟩, st', fun b hb => (hf b hb).1⟩⟩
    rw [Int.mul_one]
  done := by
    intro X hP hw hK hc i pins s σ H E I hf st hg
    subst hP hw hK
    obtain ⟨f0, f1, f2, f3, f4, f5⟩ := hf it (by simp)
    exact wpAny_pyNext_range_end (I.ok.hd hc) st (by have : n ≤ i := hg; omega) fun h' eb => ⟨rfl, I.turned (t' := s.toks) (fun b o hb e => eb b o hb e) f0 f1 f3 f4 f5⟩
  self := fun _ _ _ _ _ st h => wpAny_pyIter_rangeiter st h
end L2

namespace L2
open PySem PySem.Spec PyProof.Rows
section
variable {X : Cx} {tg : Expr}
noncomputable def iList (K : PySem.W.Frag) (tl : TE) : TI := fun σ H R => tl σ H fun x H1 => ∃ a, x = .ref a ∧ (∃ xs, SqL K H1 a xs) ∧ R (Itl K a) H1
noncomputable def iTup (K : PySem.W.Frag) (tl : TE) : TI := fun σ H R => tl σ H fun x H1 => ∃ a, x = .ref a ∧ (∃ xs, SqT K H1 a xs) ∧ R (Itt K a) H1
theorem pi_list {l : Expr} {tl : TE} (hl : PE X l tl) : PI X tg l (iList X.K tl) := by
  intro pins s σ H R I h
  refine thn (hl pins s σ H _ I h) fun v s1 ⟨x, H1, I1, r1, q1⟩ => ?_
  obtain ⟨a, e, ⟨xs, hq⟩, q⟩ := q1
  subst e
  cases r1
  obtain ⟨its, rv, p, hz⟩ := I1.list hq
  refine wpAny_pyIter_list p.isList ?_
  refine ⟨s1.heap.objs.size, [s1.heap.objs.size], _, _, H1, rfl, I1.kept (t' := s1.toks) fun b o e => Heap.get?_push_of_some _ e, turn_list a _, ⟨_, Heap.get?_push_size _ rfl, rfl, rfl⟩, fun b hb => ?_, q⟩
  have e : b = s1.heap.objs.size := by simpa using hb
  subst e
  exact I1.fpOk (Nat.le_refl _) (I1.hok.fresh (Nat.le_refl _))
theorem pi_tup {l : Expr} {tl : TE} (hl : PE X l tl) : PI X tg l (iTup X.K tl) := by
  intro pins s σ H R I h
  refine thn (hl pins s σ H _ I h) fun v s1 ⟨x, H1, I1, r1, q1⟩ => ?_
  obtain ⟨a, e, ⟨xs, hq⟩, q⟩ := q1
  subst e
  cases r1
  obtain ⟨its, rv, p, hz⟩ := I1.tuple hq
  refine wpAny_pyIter_tuple (show s1.heap.IsTuple a its.toArray from p) ?_
  refine ⟨s1.heap.objs.size, [s1.heap.objs.size], _, _, H1, rfl, I1.kept (t' := s1.toks) fun b o e => Heap.get?_push_of_some _ e, turn_tuple a _, ⟨_, Heap.get?_push_size _ rfl, rfl, rfl⟩, fun b hb => ?_, q⟩
  have e : b = s1.heap.objs.size := by simpa using hb
  subst e
  exact I1.fpOk (Nat.le_refl _) (I1.hok.fresh (Nat.le_refl _))
theorem range_it {pins : List (Addr × Obj)} {σ : St} {H : Hp} {s : Shared} {R : It → Hp → Prop} {E : Value → Shared → Prop} {lo hi : Int} {t u v : Tok} {tk : Nat} (I : Inv X pins σ H s) (h1 : -(2 ^ 62) ≤ lo) (h2 : lo < 2 ^ 62) (h3 : -(2 ^ 62) ≤ hi) (h4 : hi < 2 ^ 62)
    (q : R (Itr lo (hi - lo).toNat) H) : wpAny (model X.prog X.w) X.A (pyIter (.ref s.heap.objs.size)) (PIE X pins σ tg R) E { s with heap := s.heap.push { cls := .type "range", data := .fields #[.int lo t, .int hi u, .int 1 v] }, toks := tk } := by
  refine wpAny_pyIter_range (IsRange.new ..) (small_one h1 h2 h3 h4) ?_
  have I1 : Inv X pins σ H { s with heap := s.heap.push { cls := .type "range", data := .fields #[.int lo t, .int hi u, .int 1 v] }, toks := tk } := I.kept fun b o e => Heap.get?_push_of_some _ e
  refine ⟨(s.heap.push { cls := .type "range", data := .fields #[.int lo t, .int hi u, .int 1 v] }).objs.size, [(s.heap.push { cls := .type "range", data := .fields #[.int lo t, .int hi u, .int 1 v] }).objs.size], _, _, H, rfl,
    I1.kept (t' := tk) fun b o e => Heap.get?_push_of_some _ e, turn_range _ lo (hi - lo).toNat, ?_, fun b hb => ?_, q⟩
  · have e1 : lo + ((0 : Nat) : Int) * 1 = lo := by simp
    have e2 : (((hi - lo).toNat : Nat) : Int) - ((0 : Nat) : Int) = Builtin.Range.rangeSize lo hi 1 := by rw [rangeSize_one]; split <;> omega
    show IsRangeIter _ _ (lo + ((0 : Nat) : Int) * 1) ((((hi - lo).toNat : Nat) : Int) - ((0 : Nat) : Int)) 1
    rw [e1, e2]
    exact Heap.get?_push_size _ rfl
  · have e : b = (s.heap.push { cls := .type "range", data := .fields #[.int lo t, .int hi u, .int 1 v] }).objs.size := by simpa using hb
    subst e
    exact I1.fpOk (Nat.le_refl _) (I1.hok.fresh (Nat.le_refl _))
noncomputable def iRng1 (ta : TA) : TI := fun σ H R => ta σ H fun vs H1 => ∃ j : Int, vs = [.int j] ∧ -(2 ^ 62) ≤ j ∧ j < 2 ^ 62 ∧ R (Itr 0 j.toNat) H1
theorem pi_range1 {a : Expr} {ta : TA} {p pos : Pos} (hg : Gl X "range") (hm : X.mg "range" = none) (ha : PA X [a] ta) (hs : starEach [a] X.env = [(false, eval a X.env)] := by rfl) : PI X tg (.Call (.Name "range" p) [a] [] pos) (iRng1 ta) := by
  intro pins s σ H R I h
  refine Call_ (ld_blt I hg hm boot_range (PyProof.Rows.callWith_type1 (thn (ha pos pins s σ H _ I h) fun us s1 ⟨vs, H1, I1, r1, q1⟩ => ?_) hs rfl))
  obtain ⟨j, e, q1, q2, q⟩ := q1
  subst e
  cases r1 with
  | cons r rr =>
    cases rr
    obtain ⟨t, rfl⟩ := r
    exact call_range_1 (range_it I1 (by omega) (by omega) q1 q2 (by simpa using q))
noncomputable def tFor (wi : TI) (g : TG) (tb : TS) : TS := fun D σ H => wi σ H fun J H1 => ∃ W : Nat → Nat → St → Hp → Prop, (∃ m, W 0 m σ H1) ∧ ∀ i m σ H, W i m σ H →
  (J.stop i H ∧ D.nx σ H) ∨ (J.go i H ∧ ∃ N : St → Hp → Prop, (∀ σ' H', N σ' H' → ∃ m', m' < m ∧ W (i + 1) m' σ' H') ∧ ∀ x H', J.yld i H x H' → g x σ H' fun σ2 H2 => tb { D with nx := N, ct := N, bk := D.nx } σ2 H2)
noncomputable def pinsAt (fp : List Addr) (h : Heap) : List (Addr × Obj) := fp.filterMap fun b => (h.get? b).map fun o => (b, o)
theorem mem_pinsAt {fp : List Addr} {h : Heap} {b : Addr} {o : Obj} (hb : b ∈ fp) (e : h.get? b = some o) : (b, o) ∈ pinsAt fp h := List.mem_filterMap.mpr ⟨b, hb, by rw [e]; rfl⟩
theorem of_pinsAt {fp : List Addr} {h : Heap} {p : Addr × Obj} (hp : p ∈ pinsAt fp h) : p.1 ∈ fp ∧ h.get? p.1 = some p.2 := by
  obtain ⟨b, hb, e⟩ := List.mem_filterMap.mp hp
  cases q : h.get? b with
  | none => rw [q] at e; cases e
  | some o =>
    rw [q] at e
    have e' : (b, o) = p := Option.some.inj e
    subst e'
    exact ⟨hb, q⟩
theorem Inv.pinned {pins : List (Addr × Obj)} {σ : St} {H : Hp} {s : Shared} {fp : List Addr} (I : Inv X pins σ H s) (hf : ∀ b ∈ fp, FpOk X pins H b) (ho : ∀ b ∈ fp, ∃ o, s.heap.get? b = some o ∧ ∀ v, o.data ≠ .cell v) : Inv X (pins ++ pinsAt fp s.heap) σ H s :=
  I.pins_of fun p hp => (List.mem_append.mp hp).elim (fun z => I.pin p (List.mem_append_right _ z)) fun z => by
    obtain ⟨hb, e⟩ := of_pinsAt z
    obtain ⟨f0, f1, f2, _⟩ := hf p.1 hb
    obtain ⟨o, e', d⟩ := ho p.1 hb
    rw [e] at e'; cases e'
    exact ⟨e, f0, f1, f2, d⟩
theorem Inv.unpinned {pins pl : List (Addr × Obj)} {σ : St} {H : Hp} {s : Shared} (I : Inv X (pins ++ pl) σ H s) : Inv X pins σ H s := I.pins_of fun p hp => I.pin p (List.mem_append_right _ (List.mem_append_left _ hp))
theorem ps_for {iter : Expr} {body : List Stmt} {wi : TI} {g : TG} {tb : TS} {pos : Pos} (hp : PassesOwn (model X.prog X.w) X.A X.env X.xe) (hc : X.calm = true) (hi : PI X tg iter wi) (hg : PG X tg g) (hb : PSs X body tb)
    (hs : ∀ x, foldedSetIterable iter X.env x = pure x := by intro _; rfl) : PS X (.For tg iter body [] pos) (tFor wi g tb) := by
  intro pins s σ H D I h
  refine wpAny_For (thn (hi pins s σ H _ I h) fun v s1 h1 => thn h1 fun itv s2 h2 => ?_) hs
  obtain ⟨it, fp, tn, J, H2, e, I2, T, st2, f2, W, ⟨m0, w0⟩, turn⟩ := h2
  subst e
  -- what stays true of the iterator's objects through the loop
  have stat : ∀ {H' : Hp}, (∀ b ∈ fp, H' b = none) → ∀ b ∈ fp, FpOk X pins H' b := fun hn b hb => ⟨hn b hb, (f2 b hb).2⟩
  refine codeAny_forLoop_any (fun n s' => ∃ i σ' H', Inv X pins σ' H' s' ∧ tn i s'.heap ∧ (∀ b ∈ fp, H' b = none) ∧ W i n σ' H') ?_ m0 ⟨0, σ, H2, I2, st2, fun b hb => (f2 b hb).1, w0⟩
  rintro n s3 ⟨i, σ3, H3, I3, st3, fr3, w3⟩
  rcases turn i n σ3 H3 w3 with ⟨stop, qn⟩ | ⟨go, N, hN, step⟩
  · refine wpAny_passesOwn hp (thn (T.done X rfl rfl rfl hc i pins s3 σ3 H3 X.xe I3 (stat fr3) st3 stop) fun r s4 ⟨hr, I4⟩ => ?_)
    subst hr
    exact wpAny_execs_nil ⟨σ3, H3, I4, qn⟩
  · refine wpAny_passesOwn hp (thn (T.item X rfl rfl rfl hc i pins s3 σ3 H3 X.xe I3 (stat fr3) st3 go) fun r s4 ⟨u, hr, h4⟩ => ?_)
    subst hr
    refine wpAny_passesOwn hp (thn h4 fun _ s5 ⟨x, H5, I5, r5, y5, st5, fr5⟩ => ?_)
    have I5' := I5.pinned (stat fr5) (T.obj _ _ st5)
    refine wpAny_passesOwn hp (thn (hg _ s5 σ3 H5 x u _ I5' r5 (step x H5 y5)) fun _ s6 ⟨σ6, H6, I6, q6⟩ => ?_)
    refine wpAny_passesOwn hp (thn (hb _ s6 σ6 H6 _ I6 q6) fun f s7 q7 => ?_)
    have again : ∀ {σ7 : St} {H7 : Hp}, Inv X (pins ++ pinsAt fp s5.heap) σ7 H7 s7 → N σ7 H7 → ∃ m, m < n ∧ ∃ i σ' H', Inv X pins σ' H' s7 ∧ tn i s7.heap ∧ (∀ b ∈ fp, H' b = none) ∧ W i m σ' H' := fun {σ7 H7} I7 n7 => by
      obtain ⟨m', hm, w7⟩ := hN σ7 H7 n7
      refine ⟨m', hm, i + 1, σ7, H7, I7.unpinned, T.keep _ _ _ st5 fun b hb o e => (I7.pin (b, o) (List.mem_append_right _ (List.mem_append_right _ (mem_pinsAt hb e)))).1, fun b hb => ?_, w7⟩
      obtain ⟨o, e, d⟩ := T.obj _ _ st5 b hb
      exact (I7.pin (b, o) (List.mem_append_right _ (List.mem_append_right _ (mem_pinsAt hb e)))).2.1
    cases f with
    | next => obtain ⟨σ7, H7, I7, n7⟩ := q7; exact again I7 n7
    | cont => obtain ⟨σ7, H7, I7, n7⟩ := q7; exact again I7 n7
    | brk => obtain ⟨σ7, H7, I7, q7⟩ := q7; exact ⟨σ7, H7, I7.unpinned, q7⟩
    | ret v => obtain ⟨x7, σ7, H7, I7, r7, q7⟩ := q7; exact ⟨x7, σ7, H7, I7.unpinned, r7, q7⟩
end

end L2

namespace L2
open PySem PySem.Spec PyProof.Rows

noncomputable abbrev R2 := V → V → Hp → VK → Prop
noncomputable def OpR (X : Cx) (f : Value → Value → Sem Value) (r : R2) : Prop :=
  ∀ (pins : List (Addr × Obj)) (s : Shared) (σ : St) (H : Hp) (x y : V) (v u : Value) (Q : VK), Inv X pins σ H s → RelV x v → RelV y u → r x y H Q →
    wpAny (model X.prog X.w) X.A (f v u) (EP X pins σ Q) X.xe s
noncomputable def UnR (X : Cx) (f : Value → Sem Value) (r : V → Hp → VK → Prop) : Prop :=
  ∀ (pins : List (Addr × Obj)) (s : Shared) (σ : St) (H : Hp) (x : V) (v : Value) (Q : VK), Inv X pins σ H s → RelV x v → r x H Q →
    wpAny (model X.prog X.w) X.A (f v) (EP X pins σ Q) X.xe s
noncomputable def CallR (X : Cx) (f : Value) (r : List V → Hp → VK → Prop) : Prop :=
  ∀ (pins : List (Addr × Obj)) (s : Shared) (σ : St) (H : Hp) (xs : List V) (us : List Value) (Q : VK), Inv X pins σ H s → Vals xs us → r xs H Q →
    wpAny (model X.prog X.w) X.A (call f us) (EP X pins σ Q) X.xe s
noncomputable def TruR (X : Cx) (r : V → Hp → (Bool → Hp → Prop) → Prop) : Prop :=
  ∀ (pins : List (Addr × Obj)) (s : Shared) (σ : St) (H : Hp) (x : V) (v : Value) (Q : Bool → Hp → Prop), Inv X pins σ H s → RelV x v → r x H Q →
    wpAny (model X.prog X.w) X.A (truthy v) (TP X pins σ Q) X.xe s

noncomputable def tOp (r : R2) (ta tb : TE) : TE := fun σ H Q => ta σ H fun x H1 => tb σ H1 fun y H2 => r x y H2 Q
noncomputable def tUn (r : V → Hp → VK → Prop) (ta : TE) : TE := fun σ H Q => ta σ H fun x H1 => r x H1 Q
noncomputable def rI (C : Int → Int → Prop) (g : Int → Int → V) : R2 := fun x y H Q => ∃ i j, x = .int i ∧ y = .int j ∧ C i j ∧ Q (g i j) H
noncomputable def rI0 (g : Int → Int → V) : R2 := fun x y H Q => ∃ i j, x = .int i ∧ y = .int j ∧ Q (g i j) H
noncomputable def rU (g : Int → V) : V → Hp → VK → Prop := fun x H Q => ∃ i, x = .int i ∧ Q (g i) H

section
variable {X : Cx} {a b c : Expr} {ta tb tc : TE} {pos : Pos}

theorem binT (ha : PE X a ta) (hb : PE X b tb) {pins : List (Addr × Obj)} {s : Shared} {σ : St} {H : Hp} {R : V → V → Hp → Prop} (I : Inv X pins σ H s)
    (h : ta σ H fun x H1 => tb σ H1 fun y H2 => R x y H2) {Q : Value → Shared → Prop} {f : Value → Value → Sem Value}
    (hf : ∀ v u s2 x y H2, Inv X pins σ H2 s2 → RelV x v → RelV y u → R x y H2 → wpAny (model X.prog X.w) X.A (f v u) Q X.xe s2) :
    wpAny (model X.prog X.w) X.A (eval a X.env) (fun v s₁ => wpAny (model X.prog X.w) X.A (eval b X.env) (fun u s₂ => wpAny (model X.prog X.w) X.A (f v u) Q X.xe s₂) X.xe s₁) X.xe s := by
  refine thn (ha pins s σ H _ I h) fun v s1 ⟨x, H1, I1, r1, q1⟩ => ?_
  refine thn (hb pins s1 σ H1 _ I1 q1) fun u s2 ⟨y, H2, I2, r2, q2⟩ => ?_
  exact hf v u s2 x y H2 I2 r1 r2 q2

theorem pe_op {op : Operator} {r : R2} (ho : OpR X (binaryOp op) r) (ha : PE X a ta) (hb : PE X b tb) : PE X (.BinOp a op b pos) (tOp r ta tb) := by
  intro pins s σ H Q I h
  exact wpAny_BinOp (binT ha hb I h fun v u s2 x y H2 I2 rx ry q => ho pins s2 σ H2 x y v u Q I2 rx ry q)
theorem pe_un {op : UnaryOp} {r : V → Hp → VK → Prop} (ho : UnR X (unaryOp op) r) (ha : PE X a ta) : PE X (.UnaryOp op a pos) (tUn r ta) := by
  intro pins s σ H Q I h
  exact UnaryOp_ (thn (ha pins s σ H _ I h) fun v s1 ⟨x, H1, I1, r1, q1⟩ => ho pins s1 σ H1 x v Q I1 r1 q1)
theorem opI {f : Value → Value → Sem Value} {C : Int → Int → Prop} {g : Int → Int → Int}
    (rule : ∀ (i j : Int) (t u : Tok) (s : Shared) (Q : Value → Shared → Prop) (E : Value → Shared → Prop), C i j → Q (.int (g i j) s.toks) { s with toks := s.toks + 1 } → wpAny (model X.prog X.w) X.A (f (.int i t) (.int j u)) Q E s) :
    OpR X f (rI C fun i j => .int (g i j)) := by
  intro pins s σ H x y v u Q I rx ry h
  obtain ⟨i, j, rfl, rfl, hc, q⟩ := h
  obtain ⟨t, rfl⟩ := rx
  obtain ⟨t', rfl⟩ := ry
  exact rule i j t t' s _ _ hc ⟨.int (g i j), H, I.tok _, ⟨_, rfl⟩, q⟩
theorem opI0 {f : Value → Value → Sem Value} {g : Int → Int → Int}
    (rule : ∀ (i j : Int) (t u : Tok) (s : Shared) (Q : Value → Shared → Prop) (E : Value → Shared → Prop), Q (.int (g i j) s.toks) { s with toks := s.toks + 1 } → wpAny (model X.prog X.w) X.A (f (.int i t) (.int j u)) Q E s) :
    OpR X f (rI0 fun i j => .int (g i j)) := by
  intro pins s σ H x y v u Q I rx ry h
  obtain ⟨i, j, rfl, rfl, q⟩ := h
  obtain ⟨t, rfl⟩ := rx
  obtain ⟨t', rfl⟩ := ry
  exact rule i j t t' s _ _ ⟨.int (g i j), H, I.tok _, ⟨_, rfl⟩, q⟩
theorem opB0 {f : Value → Value → Sem Value} {g : Int → Int → Bool}
    (rule : ∀ (i j : Int) (t u : Tok) (s : Shared) (Q : Value → Shared → Prop) (E : Value → Shared → Prop), Q (.bool (g i j)) s → wpAny (model X.prog X.w) X.A (f (.int i t) (.int j u)) Q E s) :
    OpR X f (rI0 fun i j => .bl (g i j)) := by
  intro pins s σ H x y v u Q I rx ry h
  obtain ⟨i, j, rfl, rfl, q⟩ := h
  obtain ⟨t, rfl⟩ := rx
  obtain ⟨t', rfl⟩ := ry
  exact rule i j t t' s _ _ ⟨.bl (g i j), H, I, rfl, q⟩

noncomputable def CDiv (i j : Int) : Prop := 0 < j ∧ j < 1073741824
noncomputable def CMul (i j : Int) : Prop := (-(2 ^ 64) < i ∧ i < 2 ^ 64) ∨ (-(2 ^ 64) < j ∧ j < 2 ^ 64)
theorem CMul.ok {i j : Int} (h : CMul i j) : IntMulOk i j := by
  rcases h with ⟨h1, h2⟩ | ⟨h1, h2⟩
  · exact .of_left (intBits_le_64 h1 h2)
  · exact .of_right (intBits_le_64 h1 h2)
theorem op_add : OpR X (binaryOp .Add) (rI0 fun i j => .int (i + j)) := opI0 fun _ _ _ _ _ _ _ q => add_int q
theorem op_sub : OpR X (binaryOp .Sub) (rI0 fun i j => .int (i - j)) := opI0 fun _ _ _ _ _ _ _ q => sub_int q
theorem op_mul : OpR X (binaryOp .Mult) (rI CMul fun i j => .int (i * j)) := opI fun _ _ _ _ _ _ _ hc q => mul_int q hc.ok
theorem op_fdiv : OpR X (binaryOp .FloorDiv) (rI CDiv fun i j => .int (i / j)) := opI fun i j _ _ _ _ _ hc q => by
  have h1 : (0 : Int) < j := hc.1
  have h2 : j < 1073741824 := hc.2
  exact floordiv_int (by omega) (by rw [Int.fdiv_eq_ediv_of_nonneg i (by omega)]; exact q) (.inl (PyProof.noPylong_small (by omega)))
theorem op_mod : OpR X (binaryOp .Mod) (rI (fun _ j => 0 < j) fun i j => .int (i % j)) := opI fun i j _ _ _ _ _ hc q => by
  have h1 : (0 : Int) < j := hc
  exact mod_int' (by omega) (by rw [Int.fmod_eq_emod_of_nonneg i (by omega)]; exact q)
theorem unI {f : Value → Sem Value} {g : Int → Int}
    (rule : ∀ (i : Int) (t : Tok) (s : Shared) (Q : Value → Shared → Prop) (E : Value → Shared → Prop), Q (.int (g i) s.toks) { s with toks := s.toks + 1 } → wpAny (model X.prog X.w) X.A (f (.int i t)) Q E s) :
    UnR X f (rU fun i => .int (g i)) := by
  intro pins s σ H x v Q I rx h
  obtain ⟨i, rfl, q⟩ := h
  obtain ⟨t, rfl⟩ := rx
  exact rule i t s _ _ ⟨.int (g i), H, I.tok _, ⟨_, rfl⟩, q⟩
theorem un_neg : UnR X (unaryOp .USub) (rU fun i => .int (-i)) := unI fun _ _ _ _ _ q => neg_int q
end

noncomputable def scal : V → V → Bool
  | .non, .non => true | .non, .int _ => true | .int _, .non => true | .non, .bl _ => true | .bl _, .non => true | .non, .str _ => true | .str _, .non => true
  | .int _, .int _ => true | .bl _, .bl _ => true | .str _, .str _ => true | .byt _, .byt _ => true
  | .int _, .str _ => true | .str _, .int _ => true | .bl _, .str _ => true | .str _, .bl _ => true
  | _, _ => false
noncomputable def rEq : R2 := fun x y H Q => scal x y = true ∧ Q (.bl (decide (x = y))) H
noncomputable def rNe : R2 := fun x y H Q => scal x y = true ∧ Q (.bl (!decide (x = y))) H

theorem dec_int {i j : Int} : decide (V.int i = V.int j) = (i == j) := by
  rw [Bool.eq_iff_iff]
  simp
theorem dec_bl {i j : Bool} : decide (V.bl i = V.bl j) = (i == j) := by
  rw [Bool.eq_iff_iff]
  simp
theorem dec_str {i j : Str} : decide (V.str i = V.str j) = (i == j) := by
  rw [Bool.eq_iff_iff]
  simp
theorem dec_byt {i j : Array UInt8} : decide (V.byt i = V.byt j) = (i.toList == j.toList) := by
  rw [Bool.eq_iff_iff]
  cases i
  cases j
  simp

section
variable {X : Cx} {a b c : Expr} {ta tb tc : TE} {pos : Pos}
theorem fin_bl {pins : List (Addr × Obj)} {σ : St} {H : Hp} {s : Shared} {Q : VK} {k k' : Bool} (I : Inv X pins σ H s) (q : Q (.bl k) H) (e : k = k') : EP X pins σ Q (.bool k') s := by
  subst e
  exact ⟨.bl k, H, I, rfl, q⟩
theorem op_eq : OpR X (compareOp .Eq) rEq := by
  intro pins s σ H x y v u Q I rx ry h
  obtain ⟨hs, q⟩ := h
  cases x with
  | non =>
    cases rx
    cases y with
    | non => cases ry; exact PySem.EqNone.eq_none_none (fin_bl I q (by simp))
    | bl j => cases ry; exact PySem.EqNone.eq_none_bool (fin_bl I q (by simp))
    | int j => obtain ⟨t', rfl⟩ := ry; exact PySem.EqNone.eq_none_int (fin_bl I q (by simp))
    | str j => obtain ⟨t', rfl⟩ := ry; exact PySem.EqNone.eq_none_str (fin_bl I q (by simp))
    | _ => exact absurd (show false = true from hs) Bool.false_ne_true
  | bl i =>
    cases rx
    cases y with
    | non => cases ry; exact PySem.EqNone.eq_bool_none (fin_bl I q (by simp))
    | bl j => cases ry; exact eq_bool (fin_bl I q dec_bl)
    | str j => obtain ⟨t', rfl⟩ := ry; exact PySem.EqMixed.eq_bool_str (fin_bl I q (by simp))
    | _ => exact absurd (show false = true from hs) Bool.false_ne_true
  | int i =>
    obtain ⟨t, rfl⟩ := rx
    cases y with
    | non => cases ry; exact PySem.EqNone.eq_int_none (fin_bl I q (by simp))
    | int j => obtain ⟨t', rfl⟩ := ry; exact eq_int (fin_bl I q dec_int)
    | str j => obtain ⟨t', rfl⟩ := ry; exact PySem.EqMixed.eq_int_str (fin_bl I q (by simp))
    | _ => exact absurd (show false = true from hs) Bool.false_ne_true
  | str i =>
    obtain ⟨t, rfl⟩ := rx
    cases y with
    | non => cases ry; exact PySem.EqNone.eq_str_none (fin_bl I q (by simp))
    | bl j => cases ry; exact PySem.EqMixed.eq_str_bool (fin_bl I q (by simp))
    | int j => obtain ⟨t', rfl⟩ := ry; exact PySem.EqMixed.eq_str_int (fin_bl I q (by simp))
    | str j => obtain ⟨t', rfl⟩ := ry; exact eq_str (fin_bl I q dec_str)
    | _ => exact absurd (show false = true from hs) Bool.false_ne_true
  | byt i =>
    obtain ⟨t, rfl⟩ := rx
    cases y with
    | byt j => obtain ⟨t', rfl⟩ := ry; exact PySem.W.eq_bytes (fin_bl I q dec_byt)
    | _ => exact absurd (show false = true from hs) Bool.false_ne_true
  | _ => cases y <;> exact absurd (show false = true from hs) Bool.false_ne_true
theorem op_ne : OpR X (compareOp .NotEq) rNe := by
  intro pins s σ H x y v u Q I rx ry h
  obtain ⟨hs, q⟩ := h
  cases x with
  | non =>
    cases rx
    cases y with
    | non => cases ry; exact PySem.EqNone.ne_none_none (fin_bl I q (by simp))
    | bl j => cases ry; exact PySem.EqNone.ne_none_bool (fin_bl I q (by simp))
    | int j => obtain ⟨t', rfl⟩ := ry; exact PySem.EqNone.ne_none_int (fin_bl I q (by simp))
    | str j => obtain ⟨t', rfl⟩ := ry; exact PySem.EqNone.ne_none_str (fin_bl I q (by simp))
    | _ => exact absurd (show false = true from hs) Bool.false_ne_true
  | bl i =>
    cases rx
    cases y with
    | non => cases ry; exact PySem.EqNone.ne_bool_none (fin_bl I q (by simp))
    | bl j => cases ry; exact ne_bool (fin_bl I q (congrArg not dec_bl))
    | str j => obtain ⟨t', rfl⟩ := ry; exact PySem.EqMixed.ne_bool_str (fin_bl I q (by simp))
    | _ => exact absurd (show false = true from hs) Bool.false_ne_true
  | int i =>
    obtain ⟨t, rfl⟩ := rx
    cases y with
    | non => cases ry; exact PySem.EqNone.ne_int_none (fin_bl I q (by simp))
    | int j => obtain ⟨t', rfl⟩ := ry; exact ne_int (fin_bl I q (congrArg not dec_int))
    | str j => obtain ⟨t', rfl⟩ := ry; exact PySem.EqMixed.ne_int_str (fin_bl I q (by simp))
    | _ => exact absurd (show false = true from hs) Bool.false_ne_true
  | str i =>
    obtain ⟨t, rfl⟩ := rx
    cases y with
    | non => cases ry; exact PySem.EqNone.ne_str_none (fin_bl I q (by simp))
    | bl j => cases ry; exact PySem.EqMixed.ne_str_bool (fin_bl I q (by simp))
    | int j => obtain ⟨t', rfl⟩ := ry; exact PySem.EqMixed.ne_str_int (fin_bl I q (by simp))
    | str j => obtain ⟨t', rfl⟩ := ry; exact ne_str (fin_bl I q (congrArg not dec_str))
    | _ => exact absurd (show false = true from hs) Bool.false_ne_true
  | byt i =>
    obtain ⟨t, rfl⟩ := rx
    cases y with
    | byt j => obtain ⟨t', rfl⟩ := ry; exact PySem.W.ne_bytes (fin_bl I q (congrArg not dec_byt))
    | _ => exact absurd (show false = true from hs) Bool.false_ne_true
  | _ => cases y <;> exact absurd (show false = true from hs) Bool.false_ne_true

theorem op_lt : OpR X (compareOp .Lt) (rI0 fun i j => .bl (decide (i < j))) := opB0 fun _ _ _ _ _ _ _ q => lt_int q
theorem op_le : OpR X (compareOp .LtE) (rI0 fun i j => .bl (decide (i ≤ j))) := opB0 fun _ _ _ _ _ _ _ q => le_int q
theorem op_gt : OpR X (compareOp .Gt) (rI0 fun i j => .bl (decide (j < i))) := opB0 fun _ _ _ _ _ _ _ q => gt_int q
theorem op_lt_str : OpR X (compareOp .Lt) (fun x y H Q => ∃ i j, x = .str i ∧ y = .str j ∧ Q (.bl (decide (i.cps.toList < j.cps.toList))) H) := by
  intro pins s σ H x y v u Q I rx ry h
  obtain ⟨i, j, rfl, rfl, q⟩ := h
  obtain ⟨t, rfl⟩ := rx
  obtain ⟨t', rfl⟩ := ry
  exact lt_str (fin_bl I q rfl)
theorem op_in_str : OpR X (compareOp .In) (fun x y H Q => ∃ i j, x = .str i ∧ y = .str j ∧ Q (.bl (!(Builtin.Str.occurrences j i 0 j.length 1).isEmpty)) H) := by
  intro pins s σ H x y v u Q I rx ry h
  obtain ⟨i, j, rfl, rfl, q⟩ := h
  obtain ⟨t, rfl⟩ := rx
  obtain ⟨t', rfl⟩ := ry
  exact in_str (fin_bl I q rfl)

theorem nomark (b : Expr) {op : CmpOp} (h : op ≠ .In := by decide) (h2 : op ≠ .NotIn := by decide) : behindInMarks op b = false := by
  have e1 : (op == CmpOp.In) = false := by cases op <;> first | rfl | exact absurd rfl h
  have e2 : (op == CmpOp.NotIn) = false := by cases op <;> first | rfl | exact absurd rfl h2
  cases b <;> simp [behindInMarks, e1, e2]
theorem pe_cmpR {op : CmpOp} {r : R2} (ho : OpR X (compareOp op) r) (ha : PE X a ta) (hb : PE X b tb) (hm : behindInMarks op b = false) : PE X (.Compare a [op] [b] pos) (tOp r ta tb) := by
  intro pins s σ H Q I h
  exact wpAny_Compare1 (binT ha hb I h fun v u s2 x y H2 I2 rx ry q => ho pins s2 σ H2 x y v u Q I2 rx ry q) hm
noncomputable def tTest (t : TE) : TT := fun σ H Q => t σ H fun x H' => ∃ k, x = .bl k ∧ Q k H'
theorem pt_cmpR {op : CmpOp} {r : R2} (ho : OpR X (compareOp op) r) (ha : PE X a ta) (hb : PE X b tb) (hm : behindInMarks op b = false) : PT X (.Compare a [op] [b] pos) (tTest (tOp r ta tb)) := by
  intro pins s σ H Q I h
  refine wpAny_isTrue_Compare1 (thn (ha pins s σ H _ I h) fun v s1 ⟨x, H1, I1, r1, q1⟩ => thn (hb pins s1 σ H1 _ I1 q1) fun u s2 ⟨y, H2, I2, r2, q2⟩ =>
    thn (ho pins s2 σ H2 x y v u _ I2 r1 r2 q2) fun c s3 ⟨z, H3, I3, r3, k, e, q3⟩ => ?_) hm
  subst e
  cases r3
  exact wpAny_truthy_bool ⟨H3, I3, q3⟩
noncomputable def tChain (r r' : R2) (ta tb tc : TE) : TE := fun σ H Q => ta σ H fun x H1 => tb σ H1 fun y H2 => r x y H2 fun z H3 => ∃ k, z = .bl k ∧
  (if k = true then tc σ H3 fun w' H4 => r' y w' H4 Q else Q (.bl false) H3)
theorem pe_chain {op op' : CmpOp} {r r' : R2} (ho : OpR X (compareOp op) r) (ho' : OpR X (compareOp op') r') (ha : PE X a ta) (hb : PE X b tb) (hc : PE X c tc)
    (hm : lastMarks [op, op'] [b, c] = false := by with_unfolding_all rfl) : PE X (.Compare a [op, op'] [b, c] pos) (tChain r r' ta tb tc) := by
  intro pins s σ H Q I h
  refine Compare_chain (thn (ha pins s σ H _ I h) fun v s1 ⟨x, H1, I1, r1, q1⟩ => chain_link (thn (hb pins s1 σ H1 _ I1 q1) fun u s2 ⟨y, H2, I2, r2, q2⟩ =>
    thn (ho pins s2 σ H2 x y v u _ I2 r1 r2 q2) fun d s3 ⟨z, H3, I3, r3, k, e, q3⟩ => ?_)) hm
  subst e
  cases r3
  refine wpAny_truthy_bool ?_
  cases k with
  | false => exact ite_ff ⟨.bl false, H3, I3, rfl, q3⟩
  | true => exact ite_tt (chain_last (thn (hc pins s3 σ H3 _ I3 q3) fun w' s4 ⟨z', H4, I4, r4, q4⟩ => ho' pins s4 σ H4 y z' u w' Q I4 r2 r4 q4))
noncomputable def TruV (K : PySem.W.Frag) (x : V) (H : Hp) (k : Bool) : Prop :=
  match x with
  | .non => k = false
  | .bl b => k = b
  | .int i => k = (i != 0)
  | .str y => y.length ≤ sizeLine ∧ k = ((y.length : Int) != 0)
  | .byt y => y.size ≤ sizeLine ∧ k = ((y.size : Int) != 0)
  | .ref p => (∃ xs, SqL K H p xs ∧ k = !xs.isEmpty) ∨ (∃ xs, SqT K H p xs ∧ k = !xs.isEmpty) ∨ ∃ kvs, H p = some (.dK kvs) ∧ k = !kvs.isEmpty
  | _ => False
theorem isEmpty_kv {κ : Type} {kvs : List (κ × V)} {vs : List (κ × Value)} (r : KV kvs vs) : (!vs.isEmpty) = !kvs.isEmpty := by
  cases r <;> rfl
theorem isEmpty_of {xs : List V} {its : List Value} (r : Vals xs its) : (!its.toArray.isEmpty) = !xs.isEmpty := by
  cases r <;> simp
theorem line63 : (sizeLine : Nat) < 2 ^ 63 := by rw [sizeLine_eq]; decide
theorem tru_ok : TruR X (fun x H Q => ∃ k, TruV X.K x H k ∧ Q k H) := by
  intro pins s σ H x v Q I rx h
  obtain ⟨k, e, q⟩ := h
  have hl := line63
  have hs : sizeLine = 16777216 := sizeLine_eq
  cases x with
  | non =>
    cases rx
    have e' : k = false := e
    subst e'
    exact truthy_none ⟨H, I, q⟩
  | bl b =>
    cases rx
    have e' : k = b := e
    subst e'
    exact wpAny_truthy_bool ⟨H, I, q⟩
  | int i =>
    obtain ⟨t, rfl⟩ := rx
    have e' : k = (i != 0) := e
    subst e'
    exact PySem.P.truthy_int ⟨H, I, q⟩
  | str y =>
    obtain ⟨t, rfl⟩ := rx
    obtain ⟨hy, e'⟩ : y.length ≤ sizeLine ∧ k = ((y.length : Int) != 0) := e
    subst e'
    exact PySem.P.truthy_str (by omega) ⟨H, I.tok _, q⟩
  | byt y =>
    obtain ⟨t, rfl⟩ := rx
    obtain ⟨hy, e'⟩ : y.size ≤ sizeLine ∧ k = ((y.size : Int) != 0) := e
    subst e'
    exact PySem.W.truthy_bytes (by omega) ⟨H, I.tok _, q⟩
  | ref p =>
    cases rx
    have e' : (∃ xs, SqL X.K H p xs ∧ k = !xs.isEmpty) ∨ (∃ xs, SqT X.K H p xs ∧ k = !xs.isEmpty) ∨ ∃ kvs, H p = some (.dK kvs) ∧ k = !kvs.isEmpty := e
    rcases e' with ⟨xs, hx, e'⟩ | ⟨xs, hx, e'⟩ | ⟨kvs, hx, e'⟩
    · subst e'
      obtain ⟨its, r, pl, hz⟩ := I.list hx
      have hlen := r.length
      exact wpAny_truthy_list pl.isList (by simp only [List.size_toArray]; omega) ⟨H, I.tok _, by rw [isEmpty_of r]; exact q⟩
    · subst e'
      obtain ⟨its, r, pl, hz⟩ := I.tuple hx
      have hlen := r.length
      exact truthy_tuple pl (by simp only [List.size_toArray]; omega) ⟨H, I.tok _, by rw [isEmpty_of r]; exact q⟩
    · subst e'
      obtain ⟨hz, hS, vs, r, m⟩ : kvs.length ≤ sizeLine ∧ (p == sysModules) = false ∧ ∃ vs, KV kvs vs ∧ s.heap.DictOf (mixKind X.prog X.w) p vs := I.hok p _ hx
      have hlen : kvs.length = vs.length := Paired.length r
      exact wpAny_truthy_dict hS m (by omega) ⟨H, I.tok _, by rw [isEmpty_kv r]; exact q⟩
  | _ => exact (show False from e).elim
theorem pt_truth (ha : PE X a ta) (he : ∀ whole, isTrue a X.env whole = (do let v ← whole; standAt a.pos; holding [v] (truthy v))) :
    PT X a (fun σ H Q => ta σ H fun x H' => ∃ k, TruV X.K x H' k ∧ Q k H') := by
  intro pins s σ H Q I h
  exact isTrue_plain (thn (ha pins s σ H _ I h) fun v s1 ⟨x, H1, I1, r1, q1⟩ => tru_ok pins s1 σ H1 x v Q I1 r1 q1) (he _)

theorem op_add_str : OpR X (binaryOp .Add) (fun x y H Q => ∃ i j, x = .str i ∧ y = .str j ∧ i.length + j.length ≤ sizeLine ∧ Q (.str (i ++ j)) H) := by
  intro pins s σ H x y v u Q I rx ry h
  obtain ⟨i, j, rfl, rfl, hz, q⟩ := h
  obtain ⟨t, rfl⟩ := rx
  obtain ⟨t', rfl⟩ := ry
  exact add_str (fun t' tk => ⟨.str (i ++ j), H, I.tok _, ⟨_, rfl⟩, q⟩) hz
theorem vals1 {x : V} {us : List Value} (r : Vals [x] us) : ∃ u, us = [u] ∧ RelV x u := by
  cases r with
  | cons r1 r2 => cases r2; exact ⟨_, rfl, r1⟩
theorem call_str_int : CallR X (.type "str") (fun xs H Q => ∃ i, xs = [.int i] ∧ i.natAbs.log2 < 1920 ∧ Q (.str (toString i)) H) := by
  intro pins s σ H xs us Q I r h
  obtain ⟨i, rfl, hz, q⟩ := h
  obtain ⟨u, rfl, t, rfl⟩ := vals1 r
  exact PySem.P.str_of_int hz ⟨.str _, H, I.tok _, ⟨_, rfl⟩, q⟩
noncomputable def LenV (K : PySem.W.Frag) (x : V) (H : Hp) (n : Nat) : Prop :=
  match x with
  | .str y => y.length ≤ sizeLine ∧ n = y.length
  | .byt y => y.size ≤ sizeLine ∧ n = y.size
  | .ref p => (∃ xs, SqL K H p xs ∧ n = xs.length) ∨ ∃ xs, SqT K H p xs ∧ n = xs.length
  | _ => False
theorem call_len : CallR X (.builtin "len") (fun xs H Q => ∃ x n, xs = [x] ∧ LenV X.K x H n ∧ Q (.int n) H) := by
  intro pins s σ H xs us Q I r h
  obtain ⟨x, n, rfl, e, q⟩ := h
  obtain ⟨u, rfl, rx⟩ := vals1 r
  have hl := line63
  have hs : sizeLine = 16777216 := sizeLine_eq
  cases x with
  | str y =>
    obtain ⟨t, rfl⟩ := rx
    obtain ⟨hy, e'⟩ : y.length ≤ sizeLine ∧ n = y.length := e
    subst e'
    exact len_str (by omega) ⟨.int _, H, I.tok _, ⟨_, rfl⟩, q⟩
  | byt y =>
    obtain ⟨t, rfl⟩ := rx
    obtain ⟨hy, e'⟩ : y.size ≤ sizeLine ∧ n = y.size := e
    subst e'
    exact PySem.W.len_bytes (by omega) ⟨.int _, H, I.tok _, ⟨_, rfl⟩, q⟩
  | ref p =>
    cases rx
    have e' : (∃ xs, SqL X.K H p xs ∧ n = xs.length) ∨ ∃ xs, SqT X.K H p xs ∧ n = xs.length := e
    rcases e' with ⟨xs, hx, e'⟩ | ⟨xs, hx, e'⟩
    · subst e'
      obtain ⟨its, r', pl, hz⟩ := I.list hx
      have hlen := r'.length
      exact Calls.call_len_list pl.isList (by simp only [List.size_toArray]; omega) ⟨.int xs.length, H, I.tok _, ⟨_, by simp only [List.size_toArray]; rw [hlen]⟩, q⟩
    · subst e'
      obtain ⟨its, r', pl, hz⟩ := I.tuple hx
      have hlen := r'.length
      exact len_tuple pl (by simp only [List.size_toArray]; omega) ⟨.int xs.length, H, I.tok _, ⟨_, by simp only [List.size_toArray]; rw [hlen]⟩, q⟩
  | _ => exact (show False from e).elim
end
end L2

namespace L2
open PySem PySem.Spec PyProof.Rows

structure ObjM (h : Heap) (x dx C : Addr) (mA : Str → Option Value) : Prop where
  obj : h.get? x = some (PySem.W.instObj C dx)
  ns : h.Ns1 dx mA
  ne : dx ≠ x

theorem lookIn_ns {h : Heap} {dx : Addr} {mA : Str → Option Value} (n : h.Ns1 dx mA) : ∃ od, h.get? dx = some od ∧ ∀ name, PySem.W.lookIn name od = some (mA name) := by
  obtain ⟨o, es, ep, ho, hd, hk, _, hm⟩ := n
  refine ⟨o, ho, fun name => ?_⟩
  have e := hm name
  unfold nsFind findBy at e
  rw [← Array.find?_toList] at e
  unfold PySem.W.lookIn
  rw [hd]
  dsimp only
  split
  · rename_i y q
    rw [q] at e
    exact congrArg some e
  · rename_i q
    rw [q] at e
    have a : es.toList.any (·.refKey) = false := by
      rw [List.any_eq_false]
      intro y hy
      obtain ⟨z, t, hkey⟩ := hk y (Array.mem_toList_iff.mp hy)
      simp [DictEntry.refKey, hkey]
    have a' : ¬ es.toList.any (·.refKey) = true := by rw [a]; exact Bool.false_ne_true
    rw [if_neg a']
    exact congrArg some e

theorem ObjM.look {h : Heap} {x dx C : Addr} {mA : Str → Option Value} (I : ObjM h x dx C mA) : ∃ od, PySem.W.InstAt h x (PySem.W.instObj C dx) C (some od) ∧ ∀ name, PySem.W.lookIn name od = some (mA name) :=
  let ⟨od, ho, hl⟩ := lookIn_ns I.ns
  ⟨od, ⟨I.obj, rfl, rfl, ho⟩, hl⟩

section
variable {prog : Program} {w : World} {A : Around} {E : Value → Shared → Prop} {s : Shared} {K : PySem.W.Frag} {x dx C f : Addr} {mA : Str → Option Value} {name : Str} {v : Value}

theorem get_map {expr : Bool} {Q : Value → Shared → Prop} (X : K.In s.heap) (I : ObjM s.heap x dx C mA) (hg : PySem.W.plainGet K C name = true) (hh : PySem.W.hasDictIn K C = true)
    (ha : PySem.W.findIn K (.ref C) name = some none) (hv : mA name = some v) (hv' : PySem.W.handedIn v = true) (h : Q v { s with toks := s.toks + 1 }) :
    wpAny (model prog w) A (getAttr (.ref x) name expr) Q E s := by
  obtain ⟨od, J, hl⟩ := I.look
  exact PySem.W.get_value X J (PySem.W.plainGet_of hg).1 (PySem.W.findObj_own hh ha rfl (by rw [hl, hv])) hv' h

theorem get_meth {pl : Sem Bool} {Q : Value × List Value → Shared → Prop} (X : K.In s.heap) (I : ObjM s.heap x dx C mA) (hg : PySem.W.plainGet K C name = true)
    (hf : PySem.W.findIn K (.ref C) name = some (some (.ref f))) (ht : PySem.W.isFn K (.ref f) = true) (hv : mA name = none) (h : Q (.ref f, [.ref x]) s) :
    wpAny (model prog w) A (getMethod (.ref x) name pl) Q E s := by
  obtain ⟨od, J, hl⟩ := I.look
  exact PySem.W.method_fn X J (PySem.W.plainGet_of hg).1 (PySem.W.plainGet_of hg).2 hf (beq_iff_eq.mp ht) (by show (PySem.W.lookIn name od).map (·.isSome) = some false; rw [hl, hv]; rfl) h

theorem set_map {ns : List Str} {Q : Unit → Shared → Prop} (X : K.In s.heap) (I : ObjM s.heap x dx C mA)
    (hs : PySem.W.findIn K (.ref C) "__setattr__" = some (some (.builtin "object.__setattr__"))) (hp : PySem.W.plainOver K C = true) (ht : PySem.W.takerIn K C name = some none) (hh : PySem.W.hasDictIn K C = true)
    (hw : PySem.Within mA ns) (hsz : ns.length ≤ sizeLine)
    (h : ∀ h', ObjM h' x dx C (fun y => if y = name then some v else mA y) → Heap.SameBut dx s.heap h' → Q () { s with heap := h', toks := s.toks + 2 }) :
    wpAny (model prog w) A (setAttr (.ref x) name v) Q E s := by
  obtain ⟨od, J, hl⟩ := I.look
  refine PySem.W.set_plain X J hs (PySem.W.osa_open (s := { s with toks := s.toks + 1 }) (r := none) X J hp ht fun b => ?_)
  obtain ⟨cd, hc, hd'⟩ := PySem.W.any_some hh
  have hx : s.heap.get? x = some ⟨.ref C, some dx, .plain, #[]⟩ := I.obj
  refine wpAny_bind (wpAny_pure (wpAny_bind (wpAny_bind (wpAny_loadPart hx (wpAny_bind (PySem.W.Looks.here (s := { s with toks := s.toks + 1 }) (PySem.W.looks_clsIn X hc) ?_))))))
  rw [hd']
  refine wpAny_pure (a := some dx) (wpAny_bind (wpAny_pure (wpAny_bind ?_)))
  refine wpAny_nsSet1 (s := { s with toks := s.toks + 1 }) I.ns fun h' hn2 hs2 => ?_
  obtain ⟨oD, esD, epD, hoD, hdD, hcD⟩ := hn2.count (PySem.Within.cons name v hw)
  refine wpAny_bind (wpAny_lookBehind hoD (by rw [hdD]; exact pastItsLine_dict (Nat.le_trans hcD (by rw [List.length_cons]; omega))) ?_)
  exact wpAny_pure (h _ ⟨(hs2.2 _ (Ne.symm I.ne)).trans I.obj, hn2, I.ne⟩ hs2)

theorem make_map {R : Result → Shared → Prop} {vs : List Value} {kw : List (Str × Value)} (X : K.In s.heap) (hm : PySem.W.makesIn K C = true)
    (hi : PySem.W.findIn K (.ref C) "__init__" = some (some (.ref f))) (hf : PySem.W.typeIn K (.ref f) = some (.type "function"))
    (h : codeAny (model prog w) (A.under (.builtin "type.__call__" ⟨.ref C :: vs, kw⟩)) (.call (.ref f) ⟨.ref (s.heap.objs.size + 1) :: vs, kw⟩) (PySem.W.InitBack (s.heap.objs.size + 1) R)
      { s with heap := (s.heap.push PySem.W.emptyDict).push (PySem.W.instObj C s.heap.objs.size) }) :
    codeAny (model prog w) A (.call (.ref C) ⟨vs, kw⟩) R s := by
  obtain ⟨hh, g, d, t, os⟩ := s
  exact PySem.W.make_core (PySem.W.makes_of X hm) (PySem.W.looks_findIn X hi) (fun self => PySem.W.bind_fn X self hf) (.inl rfl) h
end

noncomputable def putF (f : Str) (v : V) : List (Str × V) → List (Str × V)
  | [] => [(f, v)]
  | (g, x) :: r => if g = f then (g, v) :: r else (g, x) :: putF f v r
theorem lookup_putF (f g : Str) (v : V) : ∀ fs : List (Str × V), (putF f v fs).lookup g = if g = f then some v else fs.lookup g
  | [] => by
    show List.lookup g [(f, v)] = _
    by_cases h : g = f
    · have hb : (g == f) = true := beq_iff_eq.mpr h
      simp only [List.lookup, hb, if_pos h]
    · have hb : (g == f) = false := beq_eq_false_iff_ne.mpr h
      simp only [List.lookup, hb, if_neg h]
  | (k, x) :: r => by
    have ih := lookup_putF f g v r
    rw [show putF f v ((k, x) :: r) = (if k = f then (k, v) :: r else (k, x) :: putF f v r) from rfl]
    by_cases hk : k = f
    · rw [if_pos hk]
      by_cases h : g = k
      · have hb : (g == k) = true := beq_iff_eq.mpr h
        simp only [List.lookup, hb, if_pos (h.trans hk)]
      · have hb : (g == k) = false := beq_eq_false_iff_ne.mpr h
        simp only [List.lookup, hb, if_neg (fun e : g = f => h (e.trans hk.symm))]
    · rw [if_neg hk]
      by_cases h : g = k
      · have hb : (g == k) = true := beq_iff_eq.mpr h
        simp only [List.lookup, hb, if_neg (fun e : g = f => hk (h.symm.trans e))]
      · have hb : (g == k) = false := beq_eq_false_iff_ne.mpr h
        simp only [List.lookup, hb]
        exact ih
theorem keys_putF (f : Str) (v : V) : ∀ fs : List (Str × V), f ∈ (putF f v fs).map (·.1) ∧ ∀ g, g ∈ fs.map (·.1) → g ∈ (putF f v fs).map (·.1)
  | [] => ⟨by simp [putF], fun g h => by simp at h⟩
  | (k, x) :: r => by
    obtain ⟨i1, i2⟩ := keys_putF f v r
    rw [show putF f v ((k, x) :: r) = (if k = f then (k, v) :: r else (k, x) :: putF f v r) from rfl]
    by_cases hk : k = f
    · rw [if_pos hk]
      subst hk
      exact ⟨by simp, fun g h => by simpa using h⟩
    · rw [if_neg hk]
      refine ⟨?_, fun g h => ?_⟩
      · rw [List.map_cons]
        exact List.mem_cons_of_mem _ i1
      · rw [List.map_cons] at h ⊢
        rcases List.mem_cons.mp h with e | e
        · exact List.mem_cons.mpr (.inl e)
        · exact List.mem_cons_of_mem _ (i2 g e)
theorem length_putF (f : Str) (v : V) : ∀ fs : List (Str × V), (putF f v fs).length ≤ fs.length + 1
  | [] => by simp [putF]
  | (k, x) :: r => by
    have ih := length_putF f v r
    rw [show putF f v ((k, x) :: r) = (if k = f then (k, v) :: r else (k, x) :: putF f v r) from rfl]
    by_cases hk : k = f
    · rw [if_pos hk, List.length_cons, List.length_cons]; omega
    · rw [if_neg hk, List.length_cons, List.length_cons]; omega

theorem RelO.some_of {v : V} {o : Option Value} (r : RelO (some v) o) : ∃ u, o = some u ∧ RelV v u := by
  cases o with
  | none => exact (show False from r).elim
  | some u => exact ⟨u, rfl, r⟩
theorem RelO.none_of {o : Option Value} (r : RelO none o) : o = none := by
  cases o with
  | none => rfl
  | some u => exact (show False from r).elim
theorem handed_of {v : V} {u : Value} (r : RelV v u) : PySem.W.handedIn u = true := by
  cases v with
  | non => cases (show u = Value.none from r); rfl
  | bl b => cases (show u = Value.bool b from r); rfl
  | int i => obtain ⟨t, e⟩ := (show ∃ t, u = Value.int i t from r); cases e; rfl
  | str x => obtain ⟨t, e⟩ := (show ∃ t, u = Value.str x t from r); cases e; rfl
  | byt b => obtain ⟨t, e⟩ := (show ∃ t, u = Value.bytes b t from r); cases e; rfl
  | flt b => obtain ⟨t, e⟩ := (show ∃ t, u = Value.float b t from r); cases e; rfl
  | ref a => cases (show u = Value.ref a from r); rfl
  | ty n => cases (show u = Value.type n from r); rfl

section
variable {P : Program} {w : World} {H H' : Hp} {h h' : Heap} {a C dx : Addr} {fs fs' : List (Str × V)}
theorem ins_get (hok : HOk P w H h) (e : H a = some (.ins C dx fs)) : ∃ mA, ObjM h a dx C mA ∧ (∀ f, RelO (fs.lookup f) (mA f)) ∧ PySem.Within mA (fs.map (·.1)) ∧ fs.length ≤ 1000 ∧ H dx = some (.own a) := by
  obtain ⟨d, z, ne, ob, mA, n, r, q⟩ := (show ObjOk P w H h a (.ins C dx fs) from hok a _ e)
  exact ⟨mA, ⟨ob, n, ne⟩, r, q, z, d⟩
end

structure Cls (K : PySem.W.Frag) (C : Addr) : Prop where
  pg : PySem.W.plainGet K C Str.empty = true
  hd : PySem.W.hasDictIn K C = true
  po : PySem.W.plainOver K C = true
  sa : PySem.W.findIn K (.ref C) "__setattr__" = some (some (.builtin "object.__setattr__"))
theorem Cls.get {K : PySem.W.Frag} {C : Addr} (c : Cls K C) (f : Str) : PySem.W.plainGet K C f = true := c.pg
noncomputable def NoAttr (K : PySem.W.Frag) (C : Addr) (f : Str) : Prop := PySem.W.findIn K (.ref C) f = some none
theorem NoAttr.taker {K : PySem.W.Frag} {C : Addr} {f : Str} (n : NoAttr K C f) : PySem.W.takerIn K C f = some none := by
  unfold PySem.W.takerIn
  rw [show PySem.W.findIn K (.ref C) f = some none from n]
  rfl
structure Con (K : PySem.W.Frag) (C : Addr) (f : Str) (v : V) (u : Value) : Prop where
  at_ : PySem.W.findIn K (.ref C) f = some (some u)
  rel : RelV v u
  get : PySem.W.specialIn K u "__get__" = some none
  cp : PySem.W.copiedNames.contains f = false
structure Meth (K : PySem.W.Frag) (C : Addr) (m : Str) (f : Addr) : Prop where
  at_ : PySem.W.findIn K (.ref C) m = some (some (.ref f))
  fn : PySem.W.isFn K (.ref f) = true
  kp : PySem.W.keepIn K (.ref f) = true

section
variable {X : Cx} {pins : List (Addr × Obj)} {σ : St} {H : Hp} {s : Shared} {a C dx : Addr} {fs : List (Str × V)} {f : Str} {v : V} {A : Around} {E : Value → Shared → Prop}

theorem getattr_ok {b : Bool} {Q : Value → Shared → Prop} (I : Inv X pins σ H s) (e : H a = some (.ins C dx fs)) (c : Cls X.K C) (n : NoAttr X.K C f) (l : fs.lookup f = some v)
    (h : ∀ u s', Inv X pins σ H s' → RelV v u → Q u s') : wpAny (model X.prog X.w) A (getAttr (.ref a) f b) Q E s := by
  obtain ⟨mA, O, r, _, _, _⟩ := ins_get I.hok e
  obtain ⟨u, hu, ru⟩ := RelO.some_of (v := v) (o := mA f) (by rw [← l]; exact r f)
  exact get_map I.kIn O (c.get f) c.hd n hu (handed_of ru) (h u _ (I.tok _) ru)

theorem getmeth_ok {m : Str} {g : Addr} {pl : Sem Bool} {Q : Value × List Value → Shared → Prop} (I : Inv X pins σ H s) (e : H a = some (.ins C dx fs)) (c : Cls X.K C) (k : Meth X.K C m g) (l : fs.lookup m = none)
    (h : Q (.ref g, [.ref a]) s) : wpAny (model X.prog X.w) A (getMethod (.ref a) m pl) Q E s := by
  obtain ⟨mA, O, r, _, _, _⟩ := ins_get I.hok e
  have hn : mA m = none := RelO.none_of (by rw [← l]; exact r m)
  exact get_meth I.kIn O (c.get m) k.at_ k.fn hn h

theorem setattr_ok {y : V} {u : Value} {Q : Unit → Shared → Prop} (I : Inv X pins σ H s) (e : H a = some (.ins C dx fs)) (c : Cls X.K C) (n : NoAttr X.K C f) (hl : fs.length < 1000) (ry : RelV y u)
    (h : ∀ s', Inv X pins σ (upd H a (.ins C dx (putF f y fs))) s' → Q () s') : wpAny (model X.prog X.w) A (setAttr (.ref a) f u) Q E s := by
  obtain ⟨mA, O, r, wi, _, ho⟩ := ins_get I.hok e
  have hz : (fs.map (·.1)).length ≤ sizeLine := by rw [List.length_map, sizeLine_eq]; omega
  refine set_map I.kIn O c.sa c.po n.taker c.hd wi hz fun h' O' sb => h _ ?_
  have hd : ∃ o, h'.get? dx = some o := let ⟨o, _, _, e', _⟩ := O'.ns; ⟨o, e'⟩
  refine I.write (x := a) (e := dx) (by rw [e]; exact True.intro) (.inr ho) (fun b q hb z => (sb.2 b hb).trans z) hd ?_
  refine ⟨by rw [upd_ne O.ne]; exact ho, ?_, O.ne, O'.obj, _, O'.ns, fun g => ?_, fun g hg => ?_⟩
  · have := length_putF f y fs; omega
  · show RelO ((putF f y fs).lookup g) (if g = f then some u else mA g)
    rw [lookup_putF]
    by_cases q : g = f
    · rw [if_pos q, if_pos q]; exact ry
    · rw [if_neg q, if_neg q]; exact r g
  · by_cases q : g = f
    · rw [q]; exact (keys_putF f y fs).1
    · refine (keys_putF f y fs).2 g (wi g fun z => hg ?_)
      show (if g = f then some u else mA g) = none
      rw [if_neg q]; exact z

theorem Inv.made (I : Inv X pins σ H s) : Inv X pins σ (upd (upd H s.heap.objs.size (.own (s.heap.objs.size + 1))) (s.heap.objs.size + 1) (.ins C s.heap.objs.size []))
    { s with heap := (s.heap.push PySem.W.emptyDict).push (PySem.W.instObj C s.heap.objs.size) } := by
  have e1 : (s.heap.push PySem.W.emptyDict).get? s.heap.objs.size = some PySem.W.emptyDict := Heap.get?_push_size s.heap rfl
  have e2 : ((s.heap.push PySem.W.emptyDict).push (PySem.W.instObj C s.heap.objs.size)).get? (s.heap.objs.size + 1) = some (PySem.W.instObj C s.heap.objs.size) := by
    have := Heap.get?_push_size (s.heap.push PySem.W.emptyDict) (o := PySem.W.instObj C s.heap.objs.size) rfl
    rwa [Heap.size_push] at this
  have e3 : (s.heap.push PySem.W.emptyDict).Ns s.heap.objs.size (fun _ => none) := ⟨PySem.W.emptyDict, #[], _, e1, rfl, (fun e he => absurd he (by simp)), fun _ => rfl⟩
  have I1 := I.laid (a := s.heap.objs.size) (o := .own (s.heap.objs.size + 1)) (h' := s.heap.push PySem.W.emptyDict) (t' := s.toks) (fun b u q => Heap.get?_push_of_some _ q) (Nat.le_refl _) ⟨_, e1⟩
  refine I1.laid (a := s.heap.objs.size + 1) (o := .ins C s.heap.objs.size []) (t' := s.toks) (fun b u q => Heap.get?_push_of_some _ q) (Nat.le_of_eq (Heap.size_push _ _)) ?_
  have ne : s.heap.objs.size ≠ s.heap.objs.size + 1 := Nat.ne_of_lt (Nat.lt_succ_self _)
  refine ⟨by rw [upd_ne ne, upd_same], Nat.zero_le _, ne, e2, fun _ => none, (Heap.Ns1.of_empty e3).at fun o q => Heap.get?_push_of_some _ q, fun _ => True.intro, fun y hy => absurd rfl hy⟩

theorem attr_of {prog : Program} {w : World} {env : Env} {e : Expr} {f : Str} {pos : Pos} {s : Shared} {Q : Value → Shared → Prop} (hb : attributeBase e f env (eval e env) = eval e env)
    (h : wpAny (model prog w) A (eval e env) (fun o s₁ => wpAny (model prog w) A (getAttr o f true) Q E s₁) E s) : wpAny (model prog w) A (eval (.Attribute e f pos) env) Q E s :=
  Attribute_any_ h (by rw [arm_eval_Attribute, hb])
end

noncomputable def tFld (K : PySem.W.Frag) (ta : TE) (f : Str) : TE := fun σ H Q => ta σ H fun x H1 => ∃ a C dx fs v, x = .ref a ∧ H1 a = some (.ins C dx fs) ∧ Cls K C ∧ NoAttr K C f ∧ fs.lookup f = some v ∧ Q v H1
noncomputable def sFld (K : PySem.W.Frag) (ta tv : TE) (f : Str) : TS := fun D σ H => tv σ H fun y H1 => ta σ H1 fun x H2 => ∃ a C dx fs, x = .ref a ∧ H2 a = some (.ins C dx fs) ∧ Cls K C ∧ NoAttr K C f ∧ fs.length < 1000 ∧
  D.nx σ (upd H2 a (.ins C dx (putF f y fs)))
section
variable {X : Cx} {o e value : Expr} {f : Str} {pos pos' tpos : Pos} {ta tv : TE}
theorem pe_fld (he : PE X e ta) (hb : attributeBase e f X.env (eval e X.env) = eval e X.env) : PE X (.Attribute e f pos) (tFld X.K ta f) := by
  intro pins s σ H Q I h
  refine attr_of hb (thn (he pins s σ H _ I h) fun u s1 ⟨x, H1, I1, rx, a, C, dx, fs, v, ex, ea, c, n, l, q⟩ => ?_)
  subst ex
  obtain rfl : u = Value.ref a := rx
  exact getattr_ok I1 ea c n l fun u' s2 I2 ru => ⟨v, H1, I2, ru, q⟩
theorem ps_fld (ha : PE X o ta) (hv : PE X value tv) (hs : swapsWith value (some (.Attribute o f pos')) pos.line X.env = pure false) : PS X (.Assign [.Attribute o f pos'] value pos) (sFld X.K ta tv f) := by
  intro pins s σ H D I h
  refine plainObj_wpAny_Assign_Attribute (thn (hv pins s σ H _ I h) fun u s1 ⟨y, H1, I1, ry, q⟩ => thn (ha pins s1 σ H1 _ I1 q) fun ov s2 ⟨x, H2, I2, rx, a, C, dx, fs, ex, ea, c, n, l, q2⟩ => ?_) hs
  subst ex
  obtain rfl : ov = Value.ref a := rx
  exact setattr_ok I2 ea c n l ry fun s3 I3 => ⟨σ, _, I3, q2⟩
end

section
variable {X : Cx} {pins : List (Addr × Obj)} {σ : St} {H : Hp} {s : Shared} {A : Around} {E : Value → Shared → Prop} {Q : Value → Shared → Prop} {c : Value} {b : Bool}
inductive TyOf (K : PySem.W.Frag) (H : Hp) : V → Value → Prop where
  | non : TyOf K H .non (.type "NoneType")
  | bl (x : Bool) : TyOf K H (.bl x) (.type "bool")
  | int (i : Int) : TyOf K H (.int i) (.type "int")
  | str (x : Str) : TyOf K H (.str x) (.type "str")
  | flt (x : UInt64) : TyOf K H (.flt x) (.type "float")
  | lst {a : Addr} {xs : List V} (e : H a = some (.lst xs)) : TyOf K H (.ref a) (.type "list")
  | frz {a : Addr} {o : Obj} {xs : List V} (e : H a = some (.frz o (.lst xs))) : TyOf K H (.ref a) (.type "list")
  | tup {a : Addr} {xs : List V} (e : H a = some (.tup xs)) : TyOf K H (.ref a) (.type "tuple")
  | dK {a : Addr} {kvs : List (Key × V)} (e : H a = some (.dK kvs)) : TyOf K H (.ref a) (.type "dict")
  | dT {a : Addr} {kvs : List (List Key × V)} (e : H a = some (.dT kvs)) : TyOf K H (.ref a) (.type "dict")
  | ins {a C dx : Addr} {fs : List (Str × V)} (e : H a = some (.ins C dx fs)) (cl : Cls K C) (ha : PySem.W.findIn K (.ref C) "__class__" = some (some (.builtin "object.__class__")))
      (hn : PySem.W.specialIn K (.builtin "object.__class__") "__get__" = some (some (.builtin "getset_descriptor.__get__"))) (htk : PySem.W.takesIn K (.builtin "object.__class__") = some true)
      (hm : PySem.W.mroIn K C (.type "object") = some true) : TyOf K H (.ref a) (.ref C)
end
end L2

namespace L2
open PySem PySem.Spec PyProof.Rows

structure Room (k : Nat) (A : Around) : Prop where
  hd : A.handled = none
  dp : A.depth + 3 * k + 5 < recursionLimit
  un : A.units + 16 * k + 200 < cLine
theorem Room.mono {j k : Nat} {A : Around} (r : Room k A) (h : j ≤ k) : Room j A := ⟨r.hd, by have := r.dp; omega, by have := r.un; omega⟩
theorem Room.deeper {k : Nat} {A : Around} (r : Room (k + 1) A) (env : Env) : Room k (A.deeper env) :=
  ⟨r.hd, by have := r.dp; show A.depth + 1 + 3 * k + 5 < _; omega, by have := r.un; show A.units + 3 + 16 * k + 200 < _; omega⟩
theorem make_depth {A : Around} {C : Addr} {us : List Value} {kw : List (Str × Value)} : (A.under (.builtin "type.__call__" ⟨.ref C :: us, kw⟩)).depth = A.depth + 1 := by
  first | rfl | simp [Around.under, Code.weight, Code.isCreation, Code.isGuard, Code.isCaller, Code.frames, Code.isFrame, guardIds]
theorem make_units {A : Around} {C : Addr} {us : List Value} {kw : List (Str × Value)} : (A.under (.builtin "type.__call__" ⟨.ref C :: us, kw⟩)).units = A.units + 1 := by
  first | rfl | simp [Around.under, Code.cUnits, Code.frames, Code.isFrame]
theorem Room.make {k : Nat} {A : Around} (r : Room (k + 1) A) (C : Addr) (us : List Value) (kw : List (Str × Value)) : Room k (A.under (.builtin "type.__call__" ⟨.ref C :: us, kw⟩)) :=
  ⟨r.hd, by have := r.dp; rw [make_depth]; omega, by have := r.un; rw [make_units]; omega⟩
theorem Room.depth {k : Nat} {A : Around} (r : Room k A) : A.depth < recursionLimit := by have := r.dp; omega
theorem Room.units {k : Nat} {A : Around} (r : Room k A) : A.units + 64 < cLine := by have := r.un; omega
noncomputable def tNil : TA := fun _ H Q => Q [] H
noncomputable def tCons (ta : TE) (tr : TA) : TA := fun σ H Q => ta σ H fun x H1 => tr σ H1 fun xs H2 => Q (x :: xs) H2
section
variable {X : Cx} {e : Expr} {es : List Expr} {te : TE} {t : TA} {pos : Pos}
theorem pa_nil : PA X [] tNil := fun _ _ _ _ H Q I h => Calls.spliced_nil ⟨[], H, I, .nil, h⟩
theorem pa_cons (ha : PE X e te) (hr : PA X es t) (hs : starEach (e :: es) X.env = (false, eval e X.env) :: starEach es X.env := by rfl) : PA X (e :: es) (tCons te t) := by
  intro pos pins s σ H Q I h
  rw [hs]
  show wpAny _ _ (spliced ((false, eval e X.env) :: backTo pos (starEach es X.env))) _ _ s
  refine Calls.spliced_cons (thn (ha pins s σ H _ I h) fun u s1 ⟨x, H1, I1, r1, q1⟩ => ?_)
  exact thn (hr pos pins s1 σ H1 _ I1 q1) fun us s2 ⟨xs, H2, I2, r2, q2⟩ => ⟨x :: xs, H2, I2, .cons r1 r2, q2⟩

noncomputable def tTup (t : TA) : TE := fun σ H Q => t σ H fun xs H1 => xs.length ≤ sizeLine ∧ ∀ p, H1 p = none → Q (.ref p) (upd H1 p (.tup xs))
noncomputable def tLst (t : TA) : TE := fun σ H Q => t σ H fun xs H1 => xs.length ≤ sizeLine ∧ ∀ p, H1 p = none → Q (.ref p) (upd H1 p (.lst xs))
theorem pe_tup {x1} (h : PA X es t) : PE X (.Tuple es x1 pos) (tTup t) := by
  intro pins s σ H Q I hq
  refine wpAny_Tuple_spliced (thn (h pos pins s σ H _ I hq) fun us s1 ⟨xs, H1, I1, r, z, q⟩ => ⟨by rw [← r.length]; exact z, ?_⟩)
  have hf : H1 s1.heap.objs.size = none := I1.hok.fresh (Nat.le_refl _)
  refine ⟨.ref s1.heap.objs.size, upd H1 s1.heap.objs.size (.tup xs), I1.laid (t' := s1.toks) (fun b u e => Heap.get?_push_of_some _ e) (Nat.le_refl _) ?_, rfl, q _ hf⟩
  exact ⟨z, us, r, ⟨_, Heap.get?_push_size _ rfl, rfl, _, rfl⟩⟩
theorem pe_lst (h : PA X es t) : PE X (.List es pos) (tLst t) := by
  intro pins s σ H Q I hq
  refine wpAny_List_spliced (thn (h pos pins s σ H _ I hq) fun us s1 ⟨xs, H1, I1, r, z, q⟩ => ⟨by rw [← r.length]; exact z, ?_⟩)
  have hf : H1 s1.heap.objs.size = none := I1.hok.fresh (Nat.le_refl _)
  refine ⟨.ref s1.heap.objs.size, upd H1 s1.heap.objs.size (.lst xs), I1.laid (t' := s1.toks) (fun b u e => Heap.get?_push_of_some _ e) (Nat.le_refl _) ?_, rfl, q _ hf⟩
  exact ⟨z, us, 0, r, Heap.get?_push_size _ rfl⟩
end

noncomputable abbrev Sp := List V → Hp → VK → XK → Prop
noncomputable abbrev CXT := List Env → Hp → Shared → XK → Value → Shared → Prop

structure Env0 (P : Program) (w : World) (K : PySem.W.Frag) (mg : Str → Option Value) (base : Heap) (A : Around) (outer : List Env) (s : Shared) (H : Hp) : Prop where
  frames : A.frames = some outer
  mod : Mod K mg base
  bs : ∀ b o, base.get? b = some o → s.heap.get? b = some o ∧ H b = none
  bsz : base.objs.size ≤ s.heap.objs.size
  funs : s.heap.FunFrames base outer
  frf : ∀ b ∈ frs outer, H b = none
  hok : HOk P w H s.heap
  bare : AllBare s.gens
noncomputable def CE (outer : List Env) (P : Program) (w : World) (H : Hp) (s : Shared) (Q : VK) (u : Value) (s' : Shared) : Prop :=
  ∃ v H', s'.os = s.os ∧ AllBare s'.gens ∧ Un (frs outer) [] H H' s.heap s'.heap ∧ HOk P w H' s'.heap ∧ RelV v u ∧ Q v H'
noncomputable def CR (CX : CXT) (outer : List Env) (P : Program) (w : World) (H : Hp) (s : Shared) (Q : VK) (E : XK) (r : Result) (s' : Shared) : Prop :=
  match r with
  | .ok (.ret u) => CE outer P w H s Q u s'
  | .ok _ => False
  | .error e => CX outer H s E e s'
structure FnOk (P : Program) (w : World) (K : PySem.W.Frag) (mg : Str → Option Value) (base : Heap) (CX : CXT) (k : Nat) (f : Addr) (fd : FuncData) (ps : List Str) (sp : Sp) : Prop where
  len : ∀ vs H Q E, sp vs H Q E → vs.length = ps.length
  run : ∀ (A : Around) (outer : List Env) (s : Shared) (H : Hp) (args : Args) (us : List Value) (vs : List V) (Q : VK) (E : XK), Room k A → Env0 P w K mg base A outer s H → BindsTo s fd args (ps.zip us) → Vals vs us → sp vs H Q E →
    codeAny (model P w) A (.call (.ref f) args) (CR CX outer P w H s Q E) s
theorem FnOk.imp {P : Program} {w : World} {K : PySem.W.Frag} {mg : Str → Option Value} {base : Heap} {CX : CXT} {k : Nat} {f : Addr} {fd : FuncData} {ps : List Str} {sp sp' : Sp} (F : FnOk P w K mg base CX k f fd ps sp)
    (h : ∀ vs H Q E, sp' vs H Q E → sp vs H Q E) : FnOk P w K mg base CX k f fd ps sp' :=
  ⟨fun vs H Q E q => F.len vs H Q E (h _ _ _ _ q), fun A outer s H args us vs Q E hr he hb hv hs => F.run A outer s H args us vs Q E hr he hb hv (h _ _ _ _ hs)⟩

theorem Env0.make {P : Program} {w : World} {K : PySem.W.Frag} {mg : Str → Option Value} {base : Heap} {A : Around} {outer : List Env} {s : Shared} {H : Hp} (e : Env0 P w K mg base A outer s H) (C : Addr) (us : List Value) (kw : List (Str × Value)) :
    Env0 P w K mg base (A.under (.builtin "type.__call__" ⟨.ref C :: us, kw⟩)) outer s H := ⟨by first | exact e.frames | (simpa [Around.under, Code.envs, Code.isFrame, pushEnvs] using e.frames), e.mod, e.bs, e.bsz, e.funs, e.frf, e.hok, e.bare⟩
section
variable {X : Cx} {pins : List (Addr × Obj)} {σ : St} {H : Hp} {s s' : Shared}
theorem Inv.env0 (I : Inv X pins σ H s) : Env0 X.prog X.w X.K X.mg X.base X.A X.stack s H :=
  ⟨I.ok.frames, I.ok.mod, I.bs, Nat.le_trans I.ok.bsz I.sz, I.stack, I.stkFree, I.hok, I.bare⟩
theorem Inv.after {Q : VK} {u : Value} (I : Inv X pins σ H s) (h : CE X.stack X.prog X.w H s Q u s') : EP X pins σ Q u s' := by
  obtain ⟨v, H', os, bare, un, hok, r, q⟩ := h
  obtain ⟨hh, g, d, t, os'⟩ := s'
  obtain rfl : os' = s.os := os
  exact ⟨v, H', I.call (h' := hh) (g' := g) (d' := d) (t' := t) (ch := []) un hok bare (fun b z => absurd z (by simp)), r, q⟩
end

noncomputable def tCall (sp : Sp) (dvs : List V) (E : XK) (t : TA) : TE := fun σ H Q => t σ H fun vs H1 => sp (vs ++ dvs) H1 Q E
noncomputable def tMake (C : Addr) (sp : Sp) (dvs : List V) (E : XK) (t : TA) : TE := fun σ H Q => t σ H fun vs H1 => ∀ x dx, H1 x = none → H1 dx = none → dx ≠ x →
  sp (.ref x :: (vs ++ dvs)) (upd (upd H1 dx (.own x)) x (.ins C dx [])) (fun v H2 => v = .non ∧ Q (.ref x) H2) E

noncomputable def Binds (K : PySem.W.Frag) (fd : FuncData) (ps : List Str) (ds : List Value) : Prop :=
  ∀ (s : Shared) (us : List Value), K.In s.heap → (us ++ ds).length = ps.length → BindsTo s fd ⟨us, []⟩ (ps.zip (us ++ ds))
theorem Binds.all {K : PySem.W.Frag} {fd : FuncData} {ps : List Str} (h : ∀ us : List Value, us.length = ps.length → bindArgs fd ⟨us, []⟩ = pure (ps.zip us)) : Binds K fd ps [] := fun s us _ hl => by
  rw [List.append_nil] at hl ⊢
  exact .of_eq (h us hl)

noncomputable def Passes (CX : CXT) (X : Cx) (E : XK) : Prop := ∀ (pins : List (Addr × Obj)) (σ : St) (H : Hp) (s : Shared) (e : Value) (s' : Shared), Inv X pins σ H s → CX X.stack H s E e s' → X.xe e s'

section
variable {X : Cx} {CX : CXT} {k : Nat} {f C : Addr} {fd : FuncData} {ps : List Str} {sp : Sp} {dvs : List V} {ds : List Value} {E : XK} {x m : Str} {p pos apos : Pos} {e o : Expr} {es : List Expr} {ta : TE} {t : TA}

theorem run_fn {pins : List (Addr × Obj)} {σ : St} {H : Hp} {s : Shared} {Q : VK} {us : List Value} {vs : List V} (F : FnOk X.prog X.w X.K X.mg X.base CX k f fd ps sp) (hr : Room k X.A) (hb : Binds X.K fd ps ds) (hd : Vals dvs ds) (hx : Passes CX X E)
    (I : Inv X pins σ H s) (r : Vals vs us) (h : sp (vs ++ dvs) H Q E) : wpAny (model X.prog X.w) X.A (call (.ref f) us) (EP X pins σ Q) X.xe s := by
  have r2 : Vals (vs ++ dvs) (us ++ ds) := r.append hd
  have hl : (us ++ ds).length = ps.length := by rw [← r2.length]; exact F.len _ _ _ _ h
  refine wpAny_call (codeAny_mono (F.run X.A X.stack s H ⟨us, []⟩ (us ++ ds) (vs ++ dvs) Q E hr I.env0 (hb s us I.kIn hl) r2 h) fun r s' hq => ?_)
  cases r with
  | error e => exact hx pins σ H s e s' I hq
  | ok fl =>
    cases fl with
    | ret u => exact I.after hq
    | next => exact False.elim hq
    | brk => exact False.elim hq
    | cont => exact False.elim hq

theorem pe_call (F : FnOk X.prog X.w X.K X.mg X.base CX k f fd ps sp) (hr : Room k X.A) (hg : Gl X x) (hm : X.mg x = some (.ref f)) (hk : PySem.W.keepIn X.K (.ref f) = true) (hb : Binds X.K fd ps ds) (hd : Vals dvs ds) (hx : Passes CX X E)
    (ha : PA X (e :: es) t) (hdb : (x == ("__debug__" : Str)) = false := by decide) (he : starEach (e :: es) X.env = (false, eval e X.env) :: starEach es X.env := by rfl) (hpl : (backTo pos (starEach es X.env)).any (·.1) = false := by rfl) :
    PE X (.Call (.Name x p) (e :: es) [] pos) (tCall sp dvs E t) := by
  intro pins s σ H Q I h
  refine wpAny_Call_Name_kw (ld_glob I hg hm ?_ hdb)
  refine PySem.W.callWith_K (h₀ := X.base) I.ok.mod.kin hk (thn (ha pos pins s σ H _ I h) fun us s1 ⟨vs, H1, I1, r, q⟩ => ⟨I1.kIn, ?_⟩) he hpl
  exact run_fn F hr hb hd hx I1 r q
structure Mk (K : PySem.W.Frag) (C f : Addr) : Prop where
  makes : PySem.W.makesIn K C = true
  init : PySem.W.findIn K (.ref C) "__init__" = some (some (.ref f))
  fn : PySem.W.isFn K (.ref f) = true
  kp : PySem.W.keepIn K (.ref C) = true

theorem run_make {pins : List (Addr × Obj)} {σ : St} {H : Hp} {s : Shared} {Q : VK} {us : List Value} {vs : List V} (M : Mk X.K C f) (F : FnOk X.prog X.w X.K X.mg X.base CX k f fd ps sp) (hr : Room (k + 1) X.A) (hb : Binds X.K fd ps ds) (hd : Vals dvs ds)
    (hx : Passes CX X E) (I : Inv X pins σ H s) (r : Vals vs us)
    (h : ∀ x dx, H x = none → H dx = none → dx ≠ x → sp (.ref x :: (vs ++ dvs)) (upd (upd H dx (.own x)) x (.ins C dx [])) (fun v H2 => v = .non ∧ Q (.ref x) H2) E) :
    wpAny (model X.prog X.w) X.A (call (.ref C) us) (EP X pins σ Q) X.xe s := by
  have hq := h (s.heap.objs.size + 1) s.heap.objs.size (I.hok.fresh (Nat.le_succ _)) (I.hok.fresh (Nat.le_refl _)) (Nat.ne_of_lt (Nat.lt_succ_self _))
  have I2 := Inv.made (C := C) I
  have r2 : Vals (V.ref (s.heap.objs.size + 1) :: (vs ++ dvs)) (Value.ref (s.heap.objs.size + 1) :: (us ++ ds)) := .cons rfl (r.append hd)
  have hl : (Value.ref (s.heap.objs.size + 1) :: us ++ ds).length = ps.length := by
    have e := r2.length
    rw [F.len _ _ _ _ hq] at e
    exact e.symm
  refine wpAny_call (make_map (f := f) I.kIn M.makes M.init (beq_iff_eq.mp M.fn) (codeAny_mono (F.run _ X.stack _ _ ⟨Value.ref (s.heap.objs.size + 1) :: us, []⟩ (Value.ref (s.heap.objs.size + 1) :: (us ++ ds)) _ _ E (hr.make C us [])
    (I2.env0.make C us []) (hb _ (Value.ref (s.heap.objs.size + 1) :: us) I2.kIn hl) r2 hq) fun r s' hq' => ?_))
  cases r with
  | error e => exact hx pins σ _ _ e s' I2 hq'
  | ok fl =>
    cases fl with
    | ret u =>
      obtain ⟨v, H', I3, rv, ev, q3⟩ := I2.after hq'
      subst ev
      exact ⟨rv, ⟨V.ref (s.heap.objs.size + 1), H', I3, rfl, q3⟩⟩
    | next => exact False.elim hq'
    | brk => exact False.elim hq'
    | cont => exact False.elim hq'
theorem pe_make (M : Mk X.K C f) (F : FnOk X.prog X.w X.K X.mg X.base CX k f fd ps sp) (hr : Room (k + 1) X.A) (hg : Gl X x) (hm : X.mg x = some (.ref C)) (hb : Binds X.K fd ps ds) (hd : Vals dvs ds) (hx : Passes CX X E)
    (ha : PA X (e :: es) t) (hdb : (x == ("__debug__" : Str)) = false := by decide) (he : starEach (e :: es) X.env = (false, eval e X.env) :: starEach es X.env := by rfl) (hpl : (backTo pos (starEach es X.env)).any (·.1) = false := by rfl) :
    PE X (.Call (.Name x p) (e :: es) [] pos) (tMake C sp dvs E t) := by
  intro pins s σ H Q I h
  refine wpAny_Call_Name_kw (ld_glob I hg hm ?_ hdb)
  refine PySem.W.callWith_K (h₀ := X.base) I.ok.mod.kin M.kp (thn (ha pos pins s σ H _ I h) fun us s1 ⟨vs, H1, I1, r, q⟩ => ⟨I1.kIn, ?_⟩) he hpl
  exact run_make M F hr hb hd hx I1 r q
theorem pe_make0 (M : Mk X.K C f) (F : FnOk X.prog X.w X.K X.mg X.base CX k f fd ps sp) (hr : Room (k + 1) X.A) (hg : Gl X x) (hm : X.mg x = some (.ref C)) (hb : Binds X.K fd ps ds) (hd : Vals dvs ds) (hx : Passes CX X E)
    (hdb : (x == ("__debug__" : Str)) = false := by decide) : PE X (.Call (.Name x p) [] [] pos) (tMake C sp dvs E tNil) := by
  intro pins s σ H Q I h
  refine wpAny_Call_Name_kw (ld_glob I hg hm ?_ hdb)
  exact PySem.W.callWith_K0 I.kIn M.kp (run_make (us := []) M F hr hb hd hx I .nil h)
end

section
variable {X : Cx} {CX : CXT} {k : Nat} {f C : Addr} {fd : FuncData} {ps ks : List Str} {sp : Sp} {E : XK} {x m : Str} {p pos apos kpos : Pos} {e o : Expr} {es : List Expr} {kws : List Keyword} {te ta : TE} {t tk : TA} {nm : Option Str}
structure KBinds (K : PySem.W.Frag) (fd : FuncData) (ps ks : List Str) (g : List Value → List Value → List Value) (gV : List V → List V → List V) : Prop where
  to : ∀ (s : Shared) (us ws : List Value), K.In s.heap → (g us ws).length = ps.length → BindsTo s fd ⟨us, ks.zip ws⟩ (ps.zip (g us ws))
  rel : ∀ {vs : List V} {us : List Value} {zs : List V} {ws : List Value}, Vals vs us → Vals zs ws → Vals (gV vs zs) (g us ws)
variable {g : List Value → List Value → List Value} {gV : List V → List V → List V}
end

structure FnScope (N P : List Str) (sc : Scope) : Prop where
  kind : sc.kind = .function
  co : sc.isCoroutine = false
  gen : sc.isGenerator = false
  nd : N.Nodup
  pre : N.take P.length = P
  par : ∀ x ∈ P, sc.names.lookup x = some .local ∨ sc.names.lookup x = some .cell
  nofree : ∀ y ∈ sc.names, y.2 ≠ .free

theorem bindL_out {kindOf : Str → Option NameKind} {x : Str} : ∀ {binds : List (Str × Value)} {m : Str → Option Value}, (∀ v, (x, v) ∉ binds) → bindL kindOf binds m x = m x
  | [], _, _ => rfl
  | (n, v) :: r, m, h => by
    unfold bindL
    rw [bindL_out fun w hw => h w (List.mem_cons_of_mem _ hw)]
    split
    · have : x ≠ n := by rintro rfl; exact h v List.mem_cons_self
      simp [this]
    · rfl
theorem bindC_out {kindOf : Str → Option NameKind} {x : Str} : ∀ {binds : List (Str × Value)} {m : Str → Option Value}, (∀ v, (x, v) ∉ binds) → bindC kindOf binds m x = m x
  | [], _, _ => rfl
  | (n, v) :: r, m, h => by
    unfold bindC
    rw [bindC_out fun w hw => h w (List.mem_cons_of_mem _ hw)]
    split
    · rfl
    · have : x ≠ n := by rintro rfl; exact h v List.mem_cons_self
      simp [this]
theorem bindL_get {kindOf : Str → Option NameKind} {x : Str} {v : Value} : ∀ {P : List Str} {vs : List Value} {i : Nat} {m : Str → Option Value}, P.Nodup → P[i]? = some x → vs[i]? = some v → kindOf x = some .local →
    bindL kindOf (P.zip vs) m x = some v
  | [], _, _, _, _, h, _, _ => by simp at h
  | _ :: _, [], _, _, _, _, h, _ => by simp at h
  | p :: P, w :: vs, 0, m, nd, h1, h2, hk => by
    simp at h1 h2; subst h1; subst h2
    show bindL kindOf ((p, w) :: P.zip vs) m p = _
    unfold bindL
    rw [bindL_out fun v hv => (List.nodup_cons.mp nd).1 (List.of_mem_zip hv).1, if_pos hk]
    simp
  | p :: P, w :: vs, i + 1, m, nd, h1, h2, hk => by
    show bindL kindOf ((p, w) :: P.zip vs) m x = _
    unfold bindL
    exact bindL_get (i := i) (List.nodup_cons.mp nd).2 (by simpa using h1) (by simpa using h2) hk
theorem bindC_get {kindOf : Str → Option NameKind} {x : Str} {v : Value} : ∀ {P : List Str} {vs : List Value} {i : Nat} {m : Str → Option Value}, P.Nodup → P[i]? = some x → vs[i]? = some v → kindOf x ≠ some .local →
    bindC kindOf (P.zip vs) m x = some v
  | [], _, _, _, _, h, _, _ => by simp at h
  | _ :: _, [], _, _, _, _, h, _ => by simp at h
  | p :: P, w :: vs, 0, m, nd, h1, h2, hk => by
    simp at h1 h2; subst h1; subst h2
    show bindC kindOf ((p, w) :: P.zip vs) m p = _
    unfold bindC
    rw [bindC_out fun v hv => (List.nodup_cons.mp nd).1 (List.of_mem_zip hv).1, if_neg hk]
    simp
  | p :: P, w :: vs, i + 1, m, nd, h1, h2, hk => by
    show bindC kindOf ((p, w) :: P.zip vs) m x = _
    unfold bindC
    exact bindC_get (i := i) (List.nodup_cons.mp nd).2 (by simpa using h1) (by simpa using h2) hk

noncomputable def start (N : List Str) (vs : List V) : St := vs.map some ++ List.replicate (N.length - vs.length) none

noncomputable def cxOf (CX : CXT) (P : Program) (w : World) (K : PySem.W.Frag) (mg : Str → Option Value) (base : Heap) (N : List Str) (qual : Str) (scope : Scope) (f : Addr) (cd : Value) (A : Around) (outer : List Env) (s : Shared) (H : Hp) (E : XK) : Cx where
  prog := P
  w := w
  K := K
  mg := mg
  base := base
  A := A.deeper (envOfC qual scope s.heap.objs.size f cd)
  N := N
  s₀ := s
  H₀ := H
  env := envOfC qual scope s.heap.objs.size f cd
  outer := outer
  stack := envOfC qual scope s.heap.objs.size f cd :: outer
  ex := []
  calm := true
  fn := fun _ => true
  pn := []
  xe := fun e s' => wpAny (model P w) (A.deeper (envOfC qual scope s.heap.objs.size f cd)) (leaving (envOfC qual scope s.heap.objs.size f cd) e) (fun _ s'' => CX outer H s E e s'') (fun e' s'' => CX outer H s E e' s'') s'

theorem cell_has {sc : Scope} {n : Nat} {x : Str} (h : sc.names.lookup x = some .cell) : ∃ c, (cellsFrom n sc.names []).lookup x = some c := by
  have q := PySem.W.cellsFrom_some sc.names n [] (.inl h)
  exact Option.isSome_iff_exists.mp q

theorem inv_start {CX : CXT} {P : Program} {w : World} {K : PySem.W.Frag} {mg : Str → Option Value} {base : Heap} {N ps : List Str} {qual : Str} {scope : Scope} {f : Addr} {cd : Value} {A : Around} {outer : List Env} {s s1 : Shared} {H : Hp} {E : XK} {us : List Value} {vs : List V}
    (S : FnScope N ps scope) (hd : A.handled = none) (e0 : Env0 P w K mg base A outer s H) (hl : vs.length = ps.length) (r : Vals vs us)
    (x : InCallC s s.heap.objs.size (bindL (envOfC qual scope s.heap.objs.size f cd).kindOf (ps.zip us) fun _ => none) (cellsFrom (s.heap.objs.size + 1) scope.names []) (bindC (envOfC qual scope s.heap.objs.size f cd).kindOf (ps.zip us) fun _ => none) s1) :
    Inv (cxOf CX P w K mg base N qual scope f cd A outer s H E) [] (start N vs) H s1 := by
  have hpl : ps.length ≤ N.length := by have := congrArg List.length S.pre; rw [List.length_take] at this; omega
  obtain ⟨h1, tk, rfl, hk⟩ := x.done
  have noA : ∀ b : Addr, b ∉ (cxOf CX P w K mg base N qual scope f cd A outer s H E).ex := fun b z => absurd (show b ∈ ([] : List Addr) from z) (by simp)
  refine ⟨⟨e0.mod, S.kind, rfl, rfl, Nat.le_refl _, fun y z c h1 h2 => ?_, fun y hy => ?_, fun y c _ h => ?_, fun _ => hd, Around.frames_deeper e0.frames, .inr ⟨rfl, rfl⟩, fun b z => absurd z (noA b), e0.bs, e0.bsz, fun b _ _ => noA b, fun b z => absurd z (noA b), e0.funs, e0.frf⟩,
    rfl, e0.bare, Un.kept hk, ⟨_, x.toInCall.ns, fun i y v h1 h2 h3 => ?_⟩, fun y c h => ⟨_, x.cell y c h⟩, e0.hok.fresh (Nat.le_refl _), fun y c h => ?_, fun p hp => absurd (show p ∈ ([] : List (Addr × Obj)) from hp) (by simp), e0.hok.kept hk, ?_⟩
  · exact name_of_addr x.apart (PySem.mem_of_lookup h1) (PySem.mem_of_lookup h2)
  · have hy : scope.names.lookup y = some .cell ∨ scope.names.lookup y = some .free := hy
    rcases hy with hy | hy
    · exact cell_has hy
    · exact absurd rfl (S.nofree _ (PySem.mem_of_lookup hy))
  · exact Nat.le_of_lt (x.above y c (PySem.mem_of_lookup h))
  · have hi : i < vs.length := by
      unfold start at h2
      by_cases hi : i < vs.length
      · exact hi
      · rw [List.getElem?_append_right (by simpa using hi)] at h2
        rw [List.getElem?_replicate] at h2
        split at h2 <;> cases h2
    have ha : vs[i]? = some v := by
      unfold start at h2
      rw [List.getElem?_append_left (by simpa using hi), List.getElem?_map] at h2
      cases e : vs[i]? with
      | none => rw [e] at h2; cases h2
      | some a => rw [e] at h2; cases h2; rfl
    obtain ⟨u, hu, rv⟩ := r.get ha
    have hp : ps[i]? = some y := by
      rw [← S.pre, List.getElem?_take_of_lt (by omega)]; exact h1
    have ndP : ps.Nodup := by rw [← S.pre]; exact S.nd.sublist (List.take_sublist _ _)
    refine ⟨u, rv, ?_⟩
    rcases S.par y (List.mem_of_getElem? hp) with k | k
    · exact .inl ⟨k, bindL_get ndP hp hu k⟩
    · obtain ⟨c, e⟩ := cell_has (n := s.heap.objs.size + 1) k
      refine .inr ⟨.inl k, c, e, ?_⟩
      have q := x.cell y c e
      rw [bindC_get ndP hp hu (by show scope.names.lookup y ≠ _; rw [k]; decide)] at q
      exact q
  · exact e0.hok.fresh (Nat.le_of_lt (x.above y c (PySem.mem_of_lookup h)))
  · unfold start
    show _ = N.length
    rw [List.length_append, List.length_map, List.length_replicate]
    omega

theorem fn_of {CX : CXT} {P : Program} {w : World} {K : PySem.W.Frag} {mg : Str → Option Value} {base : Heap} {k : Nat} {f : Addr} {name qual : Str} {params : Arguments} {body : List Stmt} {scope : Scope} {dV kV doc pm cdv ct oc : Value} {an od : Option Addr}
    {osl : Array (Option Value)} {N ps : List Str} {sp : Sp} (lk : K.lookup f = some ⟨oc, od, .func (PySem.W.fnOf name qual params body scope dV kV doc pm an cdv ct), osl⟩) (hcd : PySem.W.codeIn K cdv qual = true) (S : FnScope N ps scope)
    (len : ∀ vs H Q E, sp vs H Q E → vs.length = ps.length)
    (hbody : ∀ (A : Around) (outer : List Env) (s : Shared) (H : Hp) (vs : List V) (Q : VK) (E : XK), Room k (A.deeper (envOfC qual scope s.heap.objs.size f cdv)) → sp vs H Q E →
      ∃ t, PSs (cxOf CX P w K mg base N qual scope f cdv A outer s H E) body t ∧ t { nx := fun _ H' => Q .non H', rt := Q } (start N vs) H) :
    FnOk P w K mg base CX (k + 1) f (PySem.W.fnOf name qual params body scope dV kV doc pm an cdv ct) ps sp := by
  refine ⟨len, fun A outer s H args us vs Q E hr e0 hb r hsp => ?_⟩
  have hl := len _ _ _ _ hsp
  have KX : K.In s.heap := e0.mod.kin.keeps fun b o e => (e0.bs b o e).1
  have lim : s.heap.NoLimit := e0.mod.nolimit.keeps fun b o e => (e0.bs b o e).1
  have hkind : ∀ y ∈ ps.zip us, scope.names.lookup y.1 = some .local ∨ (scope.names.lookup y.1 = some .cell ∧ ((cellsFrom (s.heap.objs.size + 1) scope.names []).lookup y.1).isSome = true) := fun ⟨n, v⟩ hy => by
    rcases S.par n (List.of_mem_zip hy).1 with q | q
    · exact .inl q
    · exact .inr ⟨q, PySem.W.cellsFrom_some _ _ _ (.inl q)⟩
  refine codeAny_call_function hr.depth (KX _ _ lk) rfl S.co S.gen rfl (PySem.W.codeRec_of KX hcd) (hb _ _ _ _ ?_)
  refine wpAny_newFunctionEnv_cells S.kind hkind fun env he s1 x => ?_
  subst he
  refine ⟨lim.keeps x.toInCall.keep, codeAny_func ?_⟩
  obtain ⟨t, ht, hq⟩ := hbody A outer s H vs Q E (hr.deeper _) hsp
  have I : Inv (cxOf CX P w K mg base N qual scope f cdv A outer s H E) [] (start N vs) H s1 := inv_start S hr.hd e0 hl r x
  refine wpAny_mono (ht [] s1 (start N vs) H _ I hq) (fun fl s' hs => ?_) fun e s' hs => hs
  have fin : ∀ {σ' : St} {H' : Hp} {v : V} {u : Value}, Inv (cxOf CX P w K mg base N qual scope f cdv A outer s H E) [] σ' H' s' → RelV v u → Q v H' → CE outer P w H s Q u s' :=
    fun {σ' H' v u} J rv q => ⟨v, H', J.os, J.bare, J.base, J.hok, rv, q⟩
  cases fl with
  | ret u =>
    obtain ⟨v, σ', H', J, rv, q⟩ := hs
    exact fin J rv q
  | next =>
    obtain ⟨σ', H', J, q⟩ := hs
    exact fin (v := V.non) (u := Value.none) J rfl q
  | brk =>
    obtain ⟨_, _, _, q⟩ := hs
    exact False.elim q
  | cont =>
    obtain ⟨_, _, _, q⟩ := hs
    exact False.elim q
end L2

namespace L2
open PySem PySem.Spec PyProof.Rows
section
variable {X : Cx} {x : Str} {p pos : Pos} {e : Expr} {es : List Expr} {t : TA} {id T : String} {r : List V → Hp → VK → Prop}

noncomputable def tCB (r : List V → Hp → VK → Prop) (t : TA) : TE := fun σ H Q => t σ H fun vs H1 => r vs H1 Q
theorem pe_callB (hc : CallR X (.builtin id) r) (hg : Gl X x) (hm : X.mg x = none) (hv : bootBuiltins x = some (.builtin id)) (ha : PA X (e :: es) t) (hn : x ≠ "__name__" := by decide) (hdb : (x == ("__debug__" : Str)) = false := by decide)
    (he : starEach (e :: es) X.env = (false, eval e X.env) :: starEach es X.env := by rfl) (hpl : (backTo pos (starEach es X.env)).any (·.1) = false := by rfl) : PE X (.Call (.Name x p) (e :: es) [] pos) (tCB r t) := by
  intro pins s σ H Q I h
  refine wpAny_Call_Name_kw (ld_blt I hg hm hv ?_ hn hdb)
  exact PyProof.Rows.callWith_builtin1 (thn (ha pos pins s σ H _ I h) fun us s1 ⟨vs, H1, I1, r1, q1⟩ => hc pins s1 σ H1 vs us Q I1 r1 q1) he hpl
theorem pe_callTy (hc : CallR X (.type T) r) (hg : Gl X x) (hm : X.mg x = none) (hv : bootBuiltins x = some (.type T)) (ha : PA X (e :: es) t) (hn : x ≠ "__name__" := by decide) (hdb : (x == ("__debug__" : Str)) = false := by decide)
    (he : starEach (e :: es) X.env = (false, eval e X.env) :: starEach es X.env := by rfl) (hpl : (backTo pos (starEach es X.env)).any (·.1) = false := by rfl) : PE X (.Call (.Name x p) (e :: es) [] pos) (tCB r t) := by
  intro pins s σ H Q I h
  refine wpAny_Call_Name_kw (ld_blt I hg hm hv ?_ hn hdb)
  exact PyProof.Rows.callWith_type1 (thn (ha pos pins s σ H _ I h) fun us s1 ⟨vs, H1, I1, r1, q1⟩ => hc pins s1 σ H1 vs us Q I1 r1 q1) he hpl
end
end L2

namespace HT
open PySem PyProof.Rows

section
open PySem.SeqAt
open PySem.AutoSeq1 (wpAny_loadPart')
open PySem.MeetsSeq PySem.MeetsSeq2 PySem.MeetsSeq3

end

section
variable {prog : Program} {w : World} {A : Around} {E : Value → Shared → Prop} {s : Shared}

theorem cat_tup {t b : Addr} {vs ws : List Value} {Q : Value → Shared → Prop} (ht : IsTup s.heap t vs.toArray) (hb : IsTup s.heap b ws.toArray) (hv : vs ≠ [])
    (h1 : ws = [] → Q (.ref t) s) (h2 : ws ≠ [] → Q (.ref s.heap.objs.size) { s with heap := s.heap.push { cls := .type "tuple", data := .seq (vs ++ ws).toArray } })
    (hsz : vs.length + ws.length ≤ sizeLine) : wpAny (model prog w) A (binaryOp .Add (.ref t) (.ref b)) Q E s := by
  obtain ⟨⟨cls, dd, data, sl⟩, ho, hc, n, hd⟩ := id ht
  obtain ⟨⟨cls2, dd2, data2, sl2⟩, ho2, hc2, n2, hd2⟩ := id hb
  simp only at hc hd hc2 hd2
  subst hc hd hc2 hd2
  have e : vs.toArray ++ ws.toArray = (vs ++ ws).toArray := by simp
  by_cases hw : ws = []
  · exact concat_meets ⟨_, ho, rfl⟩ ⟨_, ho2, rfl⟩ noFill_tuple_add seq_tuple_add PySem.F.slot_tuple_add PySem.F.entry_tuple_add (PySem.F.args_tuple_add_2 _ _)
      (tuple_addW1 t b vs.toArray ws.toArray n n2 dd dd2 sl sl2 (by simpa using hv) (by simp [hw])) ⟨ho, ho2, h1 hw⟩
  · refine concat_meets ⟨_, ho, rfl⟩ ⟨_, ho2, rfl⟩ noFill_tuple_add seq_tuple_add PySem.F.slot_tuple_add PySem.F.entry_tuple_add (PySem.F.args_tuple_add_2 _ _)
      (tuple_addW2 t b vs.toArray ws.toArray n n2 dd dd2 sl sl2 (by simpa using hv) (by simpa using hw) (by rw [List.size_toArray, List.size_toArray]; exact hsz)) ⟨ho, ho2, ?_⟩
    rw [e]
    exact h2 hw

noncomputable def sIx (n d : Nat) : Option Int → Nat
  | none => d
  | some v => if v < 0 then (v + (n : Int)).toNat else min v.toNat n
theorem sIx_le (n d : Nat) (hd : d ≤ n) (o : Option Int) : sIx n d o ≤ n := by
  cases o with
  | none => exact hd
  | some v =>
    show (if v < 0 then (v + (n : Int)).toNat else min v.toNat n) ≤ n
    by_cases hv : v < 0
    · rw [if_pos hv]; omega
    · rw [if_neg hv]; exact Nat.min_le_right _ _
theorem clip_eq (v : Int) (n d : Nat) : (if v < 0 then max (v + (n : Int)) 0 else min v (n : Int)) = ((sIx n d (some v) : Nat) : Int) := by
  show (if v < 0 then max (v + (n : Int)) 0 else min v (n : Int)) = (((if v < 0 then (v + (n : Int)).toNat else min v.toNat n) : Nat) : Int)
  by_cases hv : v < 0
  · simp only [if_pos hv]; omega
  · simp only [if_neg hv]; omega
theorem adjust_gen (lo hi : Option Int) (n : Nat) : Builtin.Slice.sliceAdjust lo hi 1 (n : Int) = (((sIx n 0 lo : Nat) : Int), ((sIx n n hi : Nat) : Int)) := by
  have h1 : ¬ ((1 : Int) < 0) := by omega
  unfold Builtin.Slice.sliceAdjust
  simp only [h1, if_false]
  refine Prod.ext ?_ ?_
  · cases lo with
    | none => rfl
    | some v => exact clip_eq v n 0
  · cases hi with
    | none => rfl
    | some v => exact clip_eq v n n
theorem places_gen (i j : Nat) : Builtin.Slice.slicePlaces (i : Int) (j : Int) 1 = j - i := by
  unfold Builtin.Slice.slicePlaces
  have h1 : (1 : Int) > 0 := by omega
  simp only [h1, if_true, Int.ediv_one]
  split <;> omega
theorem slicePart_ {v : Value} {o : Option Int} {Q : Option Int → Shared → Prop} (p : IsPart v o) (h : Q o s) : wpAny (model prog w) A (Builtin.Slice.slicePartIndex v) Q E s := by
  cases p with
  | none => exact slicePart_none h
  | int i t => exact slicePart_int h
theorem sliceApplied_gen {sl : Addr} {vl vu : Value} {lo hi : Option Int} {n : Nat} {Q : Int × Int × Nat → Shared → Prop} (hs : s.heap.IsSliceOf sl vl vu .none) (pl : IsPart vl lo) (pu : IsPart vu hi)
    (h : Q (((sIx n 0 lo : Nat) : Int), 1, sIx n n hi - sIx n 0 lo) s) : wpAny (model prog w) A (Builtin.Slice.sliceApplied (.ref sl) (pure (n : Int))) Q E s := by
  obtain ⟨os, hos, hcs, hds⟩ := id hs
  unfold Builtin.Slice.sliceApplied Builtin.Slice.sliceFields
  refine wpAny_bind (wpAny_bind (wpAny_field hos hds (x := vl) rfl (wpAny_bind (wpAny_field hos hds (x := vu) rfl (wpAny_bind (wpAny_field hos hds (x := .none) rfl (wpAny_pure ?_)))))))
  refine wpAny_bind (slicePart_none ?_)
  show wpAny _ _ (if ((1 : Int) == 0) = true then _ else _) _ _ s
  rw [if_neg (by decide)]
  refine wpAny_bind (slicePart_ pl (wpAny_bind (slicePart_ pu (wpAny_bind (wpAny_pure ?_)))))
  show wpAny _ _ (match Builtin.Slice.sliceAdjust lo hi 1 (n : Int) with | (lo, hi) => pure (lo, (1 : Int), Builtin.Slice.slicePlaces lo hi 1)) _ _ s
  rw [adjust_gen lo hi n]
  show wpAny _ _ (pure (((sIx n 0 lo : Nat) : Int), (1 : Int), Builtin.Slice.slicePlaces ((sIx n 0 lo : Nat) : Int) ((sIx n n hi : Nat) : Int) 1)) _ _ s
  rw [places_gen]
  exact wpAny_pure h
theorem pick_gen (xs : Array Value) (i k : Nat) : ((List.range k).filterMap fun (m : Nat) => xs[((i : Int) + (m : Int) * 1).toNat]?).toArray = ((xs.toList.drop i).take k).toArray := by
  have e : (fun (m : Nat) => xs[((i : Int) + (m : Int) * 1).toNat]?) = fun m => xs[i + m]? := by
    funext m
    have : ((i : Int) + (m : Int) * 1).toNat = i + m := by omega
    rw [this]
  rw [e]
  have := pick_run xs i k
  rw [List.filterMap_map] at this
  have e2 : ((fun x => xs[x]?) ∘ fun x => i + x) = fun m => xs[i + m]? := rfl
  rw [e2] at this
  rw [this]

theorem getItem_tuple_cut {t sl : Addr} {items : Array Value} {vl vu : Value} {lo hi : Option Int} {Q : Value → Shared → Prop} (ht : IsTup s.heap t items) (hs : s.heap.IsSliceOf sl vl vu .none) (pl : IsPart vl lo) (pu : IsPart vu hi)
    (hw : ¬ (sIx items.size 0 lo = 0 ∧ sIx items.size items.size hi = items.size))
    (h : Q (.ref s.heap.objs.size) { s with heap := s.heap.push { cls := .type "tuple", data := .seq ((items.toList.drop (sIx items.size 0 lo)).take (sIx items.size items.size hi - sIx items.size 0 lo)).toArray } })
    (hsz : items.size ≤ sizeLine) : wpAny (model prog w) A (getItem (.ref t) (.ref sl)) Q E s := by
  have htake : sizeOk (.seq ((items.toList.drop (sIx items.size 0 lo)).take (sIx items.size items.size hi - sIx items.size 0 lo)).toArray) := by
    show ((items.toList.drop (sIx items.size 0 lo)).take (sIx items.size items.size hi - sIx items.size 0 lo)).toArray.size ≤ sizeLine
    rw [List.size_toArray, List.length_take, List.length_drop, Array.length_toList]
    omega
  have hj : sIx items.size items.size hi ≤ items.size := sIx_le _ _ (Nat.le_refl _) hi
  obtain ⟨os, hos, hcs, hds⟩ := id hs
  have hTs : s.TypeIs (.ref sl) "slice" := ⟨os, hos, hcs⟩
  unfold getItem
  try with_reducible refine wpAny_holding ?_
  first | refine wpAny_bind (wpAny_pure ?_) | skip
  refine wpAny_bind (wpAny_sequenceKey ht.typeIs (by decide) ?_)
  refine wpAny_bind (wpAny_callSpecial?_slot (name := Str.ofString "__getitem__") ht.typeIs PyProof.Rows.slot_tuple_getitem
    (wpAny_call_entry PyProof.Rows.slot_tuple_getitem ht.typeIs entry_tuple_getitem ?_ (args_tuple_getitem _ _)))
  show wpAny _ _ (Builtin.Tuple.tupleItemsOf (.ref t) >>= _) _ _ s
  refine wpAny_bind (tupleItemsOf_ ht ?_)
  refine wpAny_bind (wpAny_typeOf hTs ?_)
  rw [if_pos (by decide)]
  refine wpAny_bind (sliceApplied_gen hs pl pu ?_)
  have hno : ¬ ((((sIx items.size 0 lo : Nat) : Int) == 0 && (1 : Int) == 1 && (sIx items.size items.size hi - sIx items.size 0 lo) == items.size) = true) := by
    intro q
    rw [Bool.and_eq_true, Bool.and_eq_true] at q
    have q1 : ((sIx items.size 0 lo : Nat) : Int) = 0 := eq_of_beq q.1.1
    have q2 : sIx items.size items.size hi - sIx items.size 0 lo = items.size := eq_of_beq q.2
    exact hw ⟨by omega, by omega⟩
  show wpAny _ _ (if (((sIx items.size 0 lo : Nat) : Int) == 0 && (1 : Int) == 1 && (sIx items.size items.size hi - sIx items.size 0 lo) == items.size) = true then _ else _) _ _ s
  rw [if_neg hno, pick_gen]
  first
    | exact wpAny_bind (m := Builtin.Tuple.tupleExact _) (wpAny_newObj_type (wpAny_pure ⟨_, rfl, wpAny_pure h⟩) htake)
    | exact wpAny_bind (m := Builtin.Tuple.tupleExact _) (wpAny_newObj_type (wpAny_bind (wpAny_pure (wpAny_pure ⟨_, rfl, wpAny_pure h⟩))) htake)
    | exact wpAny_bind (wpAny_bind (m := Builtin.Tuple.tupleExact _) (wpAny_newObj_type (wpAny_pure (wpAny_pure ⟨_, rfl, wpAny_pure h⟩)) htake))
    | exact wpAny_bind (wpAny_bind (m := Builtin.Tuple.tupleExact _) (wpAny_newObj_type (wpAny_pure ⟨_, rfl, wpAny_pure h⟩) htake))
end
end HT

namespace L2
open PySem PySem.Spec PyProof.Rows

noncomputable abbrev TO := St → Hp → (Option Int → Hp → Prop) → Prop
noncomputable def PO (X : Cx) (e : Option Expr) (t : TO) : Prop :=
  ∀ (pins : List (Addr × Obj)) (s : Shared) (σ : St) (H : Hp) (Q : Option Int → Hp → Prop), Inv X pins σ H s → t σ H Q →
    wpAny (model X.prog X.w) X.A (evalPart e X.env) (fun u s' => ∃ o H', Inv X pins σ H' s' ∧ IsPart u o ∧ Q o H') X.xe s
noncomputable def tNoPart : TO := fun _ H Q => Q none H
noncomputable def tPart (t : TE) : TO := fun σ H Q => t σ H fun x H1 => ∃ i, x = .int i ∧ Q (some i) H1

section
variable {X : Cx} {e : Expr} {te : TE} {lo hi : Option Expr} {tl th : TO} {pos p2 : Pos}

theorem po_none : PO X none tNoPart := by
  intro pins s σ H Q I h
  rw [evalPart_none]
  exact wpAny_pure ⟨none, H, I, .none, h⟩
theorem po_some (h : PE X e te) : PO X (some e) (tPart te) := by
  intro pins s σ H Q I hw
  rw [evalPart_some]
  refine thn (h pins s σ H _ I hw) fun u s1 ⟨x, H1, I1, r1, q1⟩ => ?_
  obtain ⟨i, rfl, q⟩ := q1
  obtain ⟨t, rfl⟩ := r1
  exact ⟨some i, H1, I1, .int i t, q⟩

noncomputable def SlR (X : Cx) (r : V → Option Int → Option Int → Hp → VK → Prop) : Prop :=
  ∀ (pins : List (Addr × Obj)) (s : Shared) (σ : St) (H : Hp) (x : V) (v vl vu : Value) (lo hi : Option Int) (sl : Addr) (Q : VK), Inv X pins σ H s → RelV x v → s.heap.IsSliceOf sl vl vu .none → IsPart vl lo → IsPart vu hi → r x lo hi H Q →
    ∃ T id, typeLookup (.type T) "__getitem__" = pure (some (.builtin id)) ∧ s.TypeIs v T ∧ wpAny (model X.prog X.w) X.A (getItem v (.ref sl)) (EP X pins σ Q) X.xe s
noncomputable def tSl (r : V → Option Int → Option Int → Hp → VK → Prop) (te : TE) (tl th : TO) : TE := fun σ H Q => te σ H fun x H1 => tl σ H1 fun l H2 => th σ H2 fun u H3 => r x l u H3 Q
theorem pe_slice {r : V → Option Int → Option Int → Hp → VK → Prop} (hr : SlR X r) (he : PE X e te) (hl : PO X lo tl) (hu : PO X hi th) : PE X (.Subscript e (.Slice lo hi none p2) pos) (tSl r te tl th) := by
  intro pins s σ H Q I h
  refine Subscript_ (thn (he pins s σ H _ I h) fun v s1 ⟨x, H1, I1, r1, q1⟩ => ?_)
  refine wpAny_Slice (thn (hl pins s1 σ H1 _ I1 q1) fun vl s2 ⟨l, H2, I2, pl, q2⟩ => thn (hu pins s2 σ H2 _ I2 q2) fun vu s3 ⟨u, H3, I3, pu, q3⟩ => ?_)
  rw [evalPart_none]
  refine wpAny_pure ?_
  have I4 : Inv X pins σ H3 { s3 with heap := s3.heap.push { cls := .type "slice", data := .fields #[vl, vu, .none] } } := I3.kept (t' := s3.toks) fun b ob q => Heap.get?_push_of_some _ q
  obtain ⟨T, id, hT, ht, hg⟩ := hr pins { s3 with heap := s3.heap.push { cls := .type "slice", data := .fields #[vl, vu, .none] } } σ H3 x v vl vu l u s3.heap.objs.size Q I4 r1 (Heap.IsSliceOf.new ..) pl pu q3
  show wpAny (model X.prog X.w) X.A (subscriptTail e (.Slice lo hi none p2) v (.ref s3.heap.objs.size)) (EP X pins σ Q) X.xe { s3 with heap := s3.heap.push { cls := .type "slice", data := .fields #[vl, vu, .none] } }
  exact tail_any (ops := [.ref s3.heap.objs.size, v]) ht hT hg (by with_unfolding_all rfl)

noncomputable def cutV (xs : List V) (lo hi : Option Int) : List V := (xs.drop (HT.sIx xs.length 0 lo)).take (HT.sIx xs.length xs.length hi - HT.sIx xs.length 0 lo)
theorem cutV_length (xs : List V) (lo hi : Option Int) : (cutV xs lo hi).length ≤ xs.length := by
  unfold cutV
  rw [List.length_take, List.length_drop]
  omega
noncomputable def rSlT (K : PySem.W.Frag) : V → Option Int → Option Int → Hp → VK → Prop := fun x lo hi H Q => ∃ a xs, x = .ref a ∧ SqT K H a xs ∧
  ¬ (HT.sIx xs.length 0 lo = 0 ∧ HT.sIx xs.length xs.length hi = xs.length) ∧ ∀ p, H p = none → Q (.ref p) (upd H p (.tup (cutV xs lo hi)))
theorem sl_tup : SlR X (rSlT X.K) := by
  intro pins s σ H x v vl vu lo hi sl Q I rx hs pl pu h
  obtain ⟨a, xs, rfl, hx, hw, q⟩ := h
  cases rx
  obtain ⟨its, r, ht, hz⟩ := I.tuple hx
  have hlen : its.toArray.size = xs.length := by rw [List.size_toArray]; exact r.length.symm
  refine ⟨"tuple", _, PyProof.Rows.slot_tuple_getitem.lookup, ht.typeIs, ?_⟩
  refine HT.getItem_tuple_cut ht hs pl pu (by rw [hlen]; exact hw) ?_ (by rw [hlen]; exact hz)
  rw [hlen]
  refine ⟨.ref s.heap.objs.size, _, I.laid (t' := s.toks) (o := .tup (cutV xs lo hi)) (fun b ob q => Heap.get?_push_of_some _ q) (Nat.le_refl _) ?_, rfl, q _ (I.hok.fresh (Nat.le_refl _))⟩
  exact ⟨Nat.le_trans (cutV_length xs lo hi) hz, _, (r.drop (HT.sIx xs.length 0 lo)).take (HT.sIx xs.length xs.length hi - HT.sIx xs.length 0 lo), IsTup.new _ _⟩

noncomputable def rCatT (K : PySem.W.Frag) : R2 := fun x y H Q => ∃ a b xs ys, x = .ref a ∧ y = .ref b ∧ SqT K H a xs ∧ SqT K H b ys ∧ xs ≠ [] ∧ xs.length + ys.length ≤ sizeLine ∧
  (ys = [] → Q (.ref a) H) ∧ (ys ≠ [] → ∀ p, H p = none → Q (.ref p) (upd H p (.tup (xs ++ ys))))
theorem Vals.nil_iff {xs : List V} {us : List Value} (r : Vals xs us) : us = [] ↔ xs = [] := by
  cases r with
  | nil => simp
  | cons _ _ => simp
theorem op_catT : OpR X (binaryOp .Add) (rCatT X.K) := by
  intro pins s σ H x y v u Q I rx ry h
  obtain ⟨a, b, xs, ys, rfl, rfl, ha, hb, hx, hz, q1, q2⟩ := h
  cases rx
  cases ry
  obtain ⟨its, r1, p1, _⟩ := I.tuple ha
  obtain ⟨its2, r2, p2, _⟩ := I.tuple hb
  refine HT.cat_tup p1 p2 (fun z => hx (r1.nil_iff.mp z)) (fun z => ⟨.ref a, H, I, rfl, q1 (r2.nil_iff.mp z)⟩) (fun z => ?_) (by rw [← r1.length, ← r2.length]; exact hz)
  refine ⟨.ref s.heap.objs.size, _, I.laid (t' := s.toks) (o := .tup (xs ++ ys)) (fun b ob q => Heap.get?_push_of_some _ q) (Nat.le_refl _) ?_, rfl, q2 (fun w => z (r2.nil_iff.mpr w)) _ (I.hok.fresh (Nat.le_refl _))⟩
  exact ⟨by rw [List.length_append]; exact hz, _, r1.append r2, IsTup.new _ _⟩
end
end L2

namespace L2
open PySem PySem.Spec PyProof.Rows

noncomputable def ixN (n : Nat) (i : Int) : Option Nat := if 0 ≤ i then (if i < n then some i.toNat else none) else if -(n : Int) ≤ i then some (i + n).toNat else none
noncomputable def atI {α : Type} (xs : List α) (i : Int) : Option α := (ixN xs.length i).bind fun j => xs[j]?
theorem ixN_seq {n : Nat} {i : Int} {j : Nat} (h : ixN n i = some j) : seqIndex? i n = some j ∧ j < n ∧ -(n : Int) ≤ i ∧ i < n := by
  unfold ixN at h
  by_cases h0 : 0 ≤ i
  · rw [if_pos h0] at h
    by_cases h1 : i < n
    · rw [if_pos h1] at h
      have e : i.toNat = j := Option.some.inj h
      exact ⟨by rw [seqIndex_of h0 h1, e], by omega, by omega, h1⟩
    · rw [if_neg h1] at h; cases h
  · rw [if_neg h0] at h
    by_cases h1 : -(n : Int) ≤ i
    · rw [if_pos h1] at h
      have e : (i + n).toNat = j := Option.some.inj h
      exact ⟨by rw [seqIndex_neg (by omega) h1, e], by omega, h1, by omega⟩
    · rw [if_neg h1] at h; cases h
theorem atI_get {α : Type} {xs : List α} {i : Int} {v : α} (h : atI xs i = some v) : ∃ j, seqIndex? i xs.length = some j ∧ xs[j]? = some v ∧ j < xs.length ∧ -(xs.length : Int) ≤ i ∧ i < xs.length := by
  unfold atI at h
  cases e : ixN xs.length i with
  | none => rw [e] at h; cases h
  | some j =>
    rw [e] at h
    obtain ⟨h1, h2, h3, h4⟩ := ixN_seq e
    exact ⟨j, h1, h, h2, h3, h4⟩
noncomputable def PlainIx (b : Expr) : Prop := ∀ o i, subscripted b false o i = operate [o, i] (getItem o i)
noncomputable def IxR (X : Cx) (r : R2) : Prop :=
  ∀ (value slice : Expr) (pins : List (Addr × Obj)) (s : Shared) (σ : St) (H : Hp) (x y : V) (v u : Value) (Q : VK), Inv X pins σ H s → RelV x v → RelV y u → r x y H Q →
    subscripted slice false v u = operate [v, u] (getItem v u) → wpAny (model X.prog X.w) X.A (subscriptTail value slice v u) (EP X pins σ Q) X.xe s
noncomputable def MtR (X : Cx) (id : String) (r : V → List V → Hp → VK → Prop) : Prop :=
  ∀ (pins : List (Addr × Obj)) (s : Shared) (σ : St) (H : Hp) (x : V) (xs : List V) (v : Value) (us : List Value) (Q : VK), Inv X pins σ H s → RelV x v → Vals xs us → r x xs H Q →
    wpAny (model X.prog X.w) X.A (call (.builtin id) (v :: us)) (EP X pins σ Q) X.xe s
section
variable {X : Cx} {a b : Expr} {ta tb : TE} {pos : Pos}
theorem pe_ix {r : R2} (hr : IxR X r) (ha : PE X a ta) (hb : PE X b tb) (hs : PlainIx b) : PE X (.Subscript a b pos) (tOp r ta tb) := by
  intro pins s σ H Q I h
  exact Subscript_ (binT ha hb I h fun v u s2 x y H2 I2 rx ry q => hr a b pins s2 σ H2 x y v u Q I2 rx ry q (hs _ _))

noncomputable def rIxL (K : PySem.W.Frag) : R2 := fun x y H Q => ∃ p xs i v, x = .ref p ∧ y = .int i ∧ SqL K H p xs ∧ atI xs i = some v ∧ Q v H
noncomputable def rIxT (K : PySem.W.Frag) : R2 := fun x y H Q => ∃ p xs i v, x = .ref p ∧ y = .int i ∧ SqT K H p xs ∧ atI xs i = some v ∧ Q v H
noncomputable def rIxS : R2 := fun x y H Q => ∃ z i c, x = .str z ∧ y = .int i ∧ z.length ≤ sizeLine ∧ atI z.cps.toList i = some c ∧ Q (.str ⟨#[c]⟩) H
theorem ix_list : IxR X (rIxL X.K) := by
  intro value slice pins s σ H x y v u Q I rx ry h hs
  obtain ⟨p, xs, i, z, rfl, rfl, hq, he, q⟩ := h
  cases rx
  obtain ⟨t, rfl⟩ := ry
  obtain ⟨its, r, pl, hz⟩ := I.list hq
  obtain ⟨j, h1, h2, h3, h4, h5⟩ := atI_get he
  obtain ⟨w, ew, rw'⟩ := r.get h2
  have hl := r.length
  have hn := line63
  have fin : EP X pins σ Q w s := ⟨z, H, I, rw', q⟩
  by_cases h0 : 0 ≤ i
  · have hj : i.toNat = j := by
      rw [seqIndex_of h0 h5] at h1
      exact Option.some.inj h1
    exact item_listR pl.isList h0 (by omega) (by rw [hj]; simpa using ew) fin hs
  · have hj : (i + (its.toArray.size : Int)).toNat = j := by
      rw [seqIndex_neg (by omega) h4] at h1
      rw [List.size_toArray, ← hl]
      exact Option.some.inj h1
    exact subscriptTail_builtinR (x := w) pl.isList.typeIs slot_list_getitem.lookup
      (wpAny_getItem_list_neg (Q := fun r s' => r = w ∧ EP X pins σ Q r s') pl.isList (by omega) (by rw [List.size_toArray] <;> omega) (by omega) (by rw [hj]; simpa using ew) ⟨rfl, fin⟩) hs
theorem ix_tup : IxR X (rIxT X.K) := by
  intro value slice pins s σ H x y v u Q I rx ry h hs
  obtain ⟨p, xs, i, z, rfl, rfl, hq, he, q⟩ := h
  cases rx
  obtain ⟨t, rfl⟩ := ry
  obtain ⟨its, r, pl, hz⟩ := I.tuple hq
  obtain ⟨j, h1, h2, h3, h4, h5⟩ := atI_get he
  obtain ⟨w, ew, rw'⟩ := r.get h2
  have hl := r.length
  have hn := line63
  have fin : EP X pins σ Q w s := ⟨z, H, I, rw', q⟩
  exact subscriptTail_builtinR (x := w) pl.typeIs slot_tuple_getitem.lookup
    (getItem_tuple (j := j) (Q := fun r s' => r = w ∧ EP X pins σ Q r s') pl (by omega) (by omega) (by rw [List.size_toArray, ← hl]; exact h1) (by simpa using ew) ⟨rfl, fin⟩) hs
theorem ix_str : IxR X rIxS := by
  intro value slice pins s σ H x y v u Q I rx ry h hs
  obtain ⟨z, i, c, rfl, rfl, hz, he, q⟩ := h
  obtain ⟨t, rfl⟩ := rx
  obtain ⟨t', rfl⟩ := ry
  obtain ⟨j, h1, h2, h3, h4, h5⟩ := atI_get he
  have hl : z.cps.toList.length = z.length := by simp [Str.length]
  rw [hl] at h1 h4 h5
  have hn := line63
  exact tail_any (typeIs_str s z t) slot_str_getitem.lookup (getItem_str (c := c) (by
    have e1 : decide (i < -(2 ^ 63 : Int)) = false := decide_eq_false (by omega)
    have e2 : decide (i ≥ 2 ^ 63) = false := decide_eq_false (by omega)
    rw [e1, e2, Bool.or_false]) (by rw [h1]; simpa using h2) ⟨.str ⟨#[c]⟩, H, I.tok _, ⟨_, rfl⟩, q⟩) hs
theorem slice_bounds (lo hi : Option Int) (n : Nat) : (sliceBounds lo hi none n).1 = ((HT.sIx n 0 lo : Nat) : Int) ∧ (sliceBounds lo hi none n).2.1 = ((HT.sIx n n hi : Nat) : Int) ∧ (sliceBounds lo hi none n).2.2 = 1 := by
  refine ⟨?_, ?_, rfl⟩
  · cases lo with
    | none => simp [sliceBounds, HT.sIx]
    | some i =>
      simp only [sliceBounds, HT.sIx, Option.getD_none, show (1 : Int) > 0 by decide, if_true]
      by_cases h : i < 0
      · simp only [h, if_true] <;> omega
      · simp only [h, if_false] <;> omega
  · cases hi with
    | none => simp [sliceBounds, HT.sIx]
    | some i =>
      simp only [sliceBounds, HT.sIx, Option.getD_none, show (1 : Int) > 0 by decide, if_true]
      by_cases h : i < 0
      · simp only [h, if_true] <;> omega
      · simp only [h, if_false] <;> omega
theorem slicePick_cut (its : List Value) (lo hi : Option Int) : slicePick its.toArray lo hi none = ((its.drop (HT.sIx its.length 0 lo)).take (HT.sIx its.length its.length hi - HT.sIx its.length 0 lo)).toArray := by
  obtain ⟨h1, h2, h3⟩ := slice_bounds lo hi its.toArray.size
  unfold slicePick
  rw [h1, h2, h3]
  simp only [sliceRange_one, pick_run, List.size_toArray] <;> rfl
noncomputable def rSlL (K : PySem.W.Frag) : V → Option Int → Option Int → Hp → VK → Prop := fun x lo hi H Q => ∃ a xs, x = .ref a ∧ SqL K H a xs ∧ ∀ p, H p = none → Q (.ref p) (upd H p (.lst (cutV xs lo hi)))
theorem sl_list : SlR X (rSlL X.K) := by
  intro pins s σ H x v vl vu lo hi sl Q I rx hs pl pu h
  obtain ⟨a, xs, rfl, hx, q⟩ := h
  cases rx
  obtain ⟨its, r, ht, hz⟩ := I.list hx
  have hlen := r.length
  refine ⟨"list", _, slot_list_getitem.lookup, ht.isList.typeIs, ?_⟩
  refine wpAny_getItem_list_slice ht.isList hs pl pu .none (by simp) ?_ (by rw [List.size_toArray] <;> omega)
  rw [slicePick_cut, ← hlen]
  refine ⟨.ref s.heap.objs.size, _, I.laid (t' := s.toks) (o := .lst (cutV xs lo hi)) (fun b ob q => Heap.get?_push_of_some _ q) (Nat.le_refl _) ?_, rfl, q _ (I.hok.fresh (Nat.le_refl _))⟩
  exact ⟨Nat.le_trans (cutV_length xs lo hi) hz, _, 0, (r.drop (HT.sIx xs.length 0 lo)).take (HT.sIx xs.length xs.length hi - HT.sIx xs.length 0 lo), Heap.get?_push_size _ rfl⟩

noncomputable def flatV : V → Bool
  | .non => true
  | .bl _ => true
  | .int _ => true
  | .str _ => true
  | _ => false
noncomputable def eqV : V → V → Bool
  | .non, .non => true
  | .bl a, .bl b => a == b
  | .bl a, .int b => (if a then 1 else 0) == b
  | .int a, .bl b => a == (if b then 1 else 0)
  | .int a, .int b => a == b
  | .str a, .str b => a == b
  | _, _ => false
theorem eqAt_V {A : Around} {s : Shared} {y x : V} {u v : Value} (ry : RelV y u) (rx : RelV x v) (fy : flatV y = true) (fx : flatV x = true) : SeqAt.EqAt A s u v (eqV y x) := by
  cases y with
  | non =>
    cases ry
    cases x with
    | non => cases rx; exact SeqAt.EqAt.same _
    | bl b => cases rx; exact SeqAt.EqAt.none_bool b
    | int b => obtain ⟨t, rfl⟩ := rx; exact SeqAt.EqAt.none_int b t
    | str b => obtain ⟨t, rfl⟩ := rx; exact SeqAt.EqAt.none_str b t
    | _ => exact absurd (show false = true from fx) Bool.false_ne_true
  | bl a =>
    cases ry
    cases x with
    | non => cases rx; exact SeqAt.EqAt.bool_none a
    | bl b => cases rx; exact SeqAt.EqAt.bool_bool a b
    | int b => obtain ⟨t, rfl⟩ := rx; exact SeqAt.EqAt.bool_int a b t
    | str b => obtain ⟨t, rfl⟩ := rx; exact SeqAt.EqAt.bool_str a b t
    | _ => exact absurd (show false = true from fx) Bool.false_ne_true
  | int a =>
    obtain ⟨t', rfl⟩ := ry
    cases x with
    | non => cases rx; exact SeqAt.EqAt.int_none a t'
    | bl b => cases rx; exact SeqAt.EqAt.int_bool a t' b
    | int b => obtain ⟨t, rfl⟩ := rx; exact SeqAt.EqAt.int_int a t' b t
    | str b => obtain ⟨t, rfl⟩ := rx; exact SeqAt.EqAt.int_str a t' b t
    | _ => exact absurd (show false = true from fx) Bool.false_ne_true
  | str a =>
    obtain ⟨t', rfl⟩ := ry
    cases x with
    | non => cases rx; exact SeqAt.EqAt.str_none a t'
    | bl b => cases rx; exact SeqAt.EqAt.str_bool a t' b
    | int b => obtain ⟨t, rfl⟩ := rx; exact SeqAt.EqAt.str_int a t' b t
    | str b => obtain ⟨t, rfl⟩ := rx; exact SeqAt.EqAt.str_str a t' b t
    | _ => exact absurd (show false = true from fx) Bool.false_ne_true
  | _ => exact absurd (show false = true from fy) Bool.false_ne_true
noncomputable def eqU (x : V) (u : Value) : Bool := match u with
  | .none => eqV .non x
  | .bool b => eqV (.bl b) x
  | .int i _ => eqV (.int i) x
  | .str z _ => eqV (.str z) x
  | _ => false
theorem eqU_of {x y : V} {u : Value} (r : RelV y u) (f : flatV y = true) : eqU x u = eqV y x := by
  cases y with
  | non => cases r; rfl
  | bl b => cases r; rfl
  | int i => obtain ⟨t, rfl⟩ := r; rfl
  | str z => obtain ⟨t, rfl⟩ := r; rfl
  | _ => exact absurd (show false = true from f) Bool.false_ne_true
theorem any_eqU {x : V} : ∀ {xs : List V} {us : List Value}, Vals xs us → xs.all flatV = true → us.any (eqU x) = xs.any fun y => eqV y x
  | _, _, .nil, _ => rfl
  | y :: xs, u :: us, .cons r t, f => by
    rw [List.all_cons, Bool.and_eq_true] at f
    rw [List.any_cons, List.any_cons, eqU_of r f.1, any_eqU t f.2]
theorem mem_eqAt {A : Around} {s : Shared} {x : V} {v : Value} (rx : RelV x v) (fx : flatV x = true) : ∀ {xs : List V} {us : List Value}, Vals xs us → xs.all flatV = true → ∀ u ∈ us, SeqAt.EqAt A s u v (eqU x u)
  | _, _, .nil, _ => fun u hu => by cases hu
  | y :: xs, u :: us, .cons r t, f => fun u' hu => by
    rw [List.all_cons, Bool.and_eq_true] at f
    rcases List.mem_cons.mp hu with rfl | hu
    · rw [eqU_of r f.1]; exact eqAt_V r rx f.1 fx
    · exact mem_eqAt rx fx t f.2 u' hu
noncomputable def inV (x : V) (xs : List V) : Bool := xs.any fun y => eqV y x
noncomputable def rIn (K : PySem.W.Frag) (neg : Bool) : R2 := fun x y H Q => ∃ p xs, y = .ref p ∧ (SqL K H p xs ∨ SqT K H p xs) ∧ flatV x = true ∧ xs.all flatV = true ∧ Q (.bl (if neg then !inV x xs else inV x xs)) H
theorem op_in_seq : OpR X (compareOp .In) (rIn X.K false) := by
  intro pins s σ H x y v u Q I rx ry h
  obtain ⟨p, xs, rfl, hq, fx, fs, q⟩ := h
  cases ry
  rcases hq with hq | hq
  · obtain ⟨its, r, pl, hz⟩ := I.list hq
    refine SeqAt.in_listAt (eqU x) pl.isList (fun w hw => mem_eqAt rx fx r fs w (by simpa using hw)) ⟨.bl _, H, I, rfl, ?_⟩
    rw [show its.toArray.any (eqU x) = its.any (eqU x) by simp, any_eqU r fs]
    exact q
  · obtain ⟨its, r, pl, hz⟩ := I.tuple hq
    refine SeqAt.in_tupleAt (eqU x) pl (fun w hw => mem_eqAt rx fx r fs w (by simpa using hw)) ⟨.bl _, H, I, rfl, ?_⟩
    rw [show its.toArray.any (eqU x) = its.any (eqU x) by simp, any_eqU r fs]
    exact q
theorem op_notIn_seq : OpR X (compareOp .NotIn) (rIn X.K true) := by
  intro pins s σ H x y v u Q I rx ry h
  obtain ⟨p, xs, rfl, hq, fx, fs, q⟩ := h
  cases ry
  rcases hq with hq | hq
  · obtain ⟨its, r, pl, hz⟩ := I.list hq
    refine SeqAt.notIn_listAt (eqU x) pl.isList (fun w hw => mem_eqAt rx fx r fs w (by simpa using hw)) ⟨.bl _, H, I, rfl, ?_⟩
    rw [show its.toArray.any (eqU x) = its.any (eqU x) by simp, any_eqU r fs]
    exact q
  · obtain ⟨its, r, pl, hz⟩ := I.tuple hq
    refine SeqAt.notIn_tupleAt (eqU x) pl (fun w hw => mem_eqAt rx fx r fs w (by simpa using hw)) ⟨.bl _, H, I, rfl, ?_⟩
    rw [show its.toArray.any (eqU x) = its.any (eqU x) by simp, any_eqU r fs]
    exact q
theorem op_notIn_str : OpR X (compareOp .NotIn) (fun x y H Q => ∃ i j, x = .str i ∧ y = .str j ∧ Q (.bl (!(!(Builtin.Str.occurrences j i 0 j.length 1).isEmpty))) H) := by
  intro pins s σ H x y v u Q I rx ry h
  obtain ⟨i, j, rfl, rfl, q⟩ := h
  obtain ⟨t, rfl⟩ := rx
  obtain ⟨t', rfl⟩ := ry
  exact notIn_str ⟨.bl _, H, I, rfl, q⟩

theorem call_tuple_of : CallR X (.type "tuple") (fun xs H Q => ∃ p ys, xs = [.ref p] ∧ ((SqL X.K H p ys ∧ ∀ l, H l = none → Q (.ref l) (upd H l (.tup ys))) ∨ (SqT X.K H p ys ∧ Q (.ref p) H))) := by
  intro pins s σ H xs us Q I r h
  obtain ⟨p, ys, rfl, h⟩ := h
  obtain ⟨u, rfl, rx⟩ := vals1 r
  cases rx
  rcases h with ⟨hq, q⟩ | ⟨hq, q⟩
  · obtain ⟨its, r', pl, hz⟩ := I.list hq
    have hlen := r'.length
    refine call_tuple_list pl.isList (fun h' kp => ?_) (by simp only [List.size_toArray] <;> omega)
    have I1 : Inv X pins σ H { s with heap := h' } := I.kept (t' := s.toks) kp
    have I2 : Inv X pins σ (upd H h'.objs.size (.tup ys)) { s with heap := h'.push { cls := .type "tuple", data := .seq its.toArray } } :=
      I1.laid (t' := s.toks) (fun b o e => Heap.get?_push_of_some _ e) (Nat.le_refl _) (show ObjOk X.prog X.w _ _ _ (.tup ys) from ⟨hz, its, r', IsTup.new _ _⟩)
    exact ⟨.ref h'.objs.size, _, I2, rfl, q _ (I1.hok.fresh (Nat.le_refl _))⟩
  · obtain ⟨its, r', pl, hz⟩ := I.tuple hq
    exact call_tuple_same pl ⟨.ref p, H, I, rfl, q⟩

noncomputable def tyV (K : PySem.W.Frag) (T : String) (x : V) (H : Hp) : Prop := match x with
  | .str _ => T = "str"
  | .int _ => T = "int"
  | .ref p => (T = "list" ∧ ∃ xs, SqL K H p xs) ∨ (T = "tuple" ∧ ∃ o, K.lookup p = some o ∧ o.cls = .type "tuple" ∧ o.dict = none) ∨
      (T = "dict" ∧ ((∃ kvs, H p = some (.dK kvs)) ∨ ∃ kvs, H p = some (.dT kvs))) ∨ (T = "set" ∧ ∃ S n, H p = some (.set S n))
  | _ => False
theorem tyV_is {pins : List (Addr × Obj)} {σ : St} {H : Hp} {s : Shared} {T : String} {x : V} {v : Value} (I : Inv X pins σ H s) (r : RelV x v) (ty : tyV X.K T x H) :
    s.TypeIs v T ∧ ∀ a, v = .ref a → ∃ ob, s.heap.get? a = some ob ∧ ob.dict = none := by
  cases x with
  | str z =>
    obtain ⟨t, rfl⟩ := r
    cases (show T = "str" from ty)
    exact ⟨typeIs_str s z t, fun _ e => nomatch e⟩
  | int i =>
    obtain ⟨t, rfl⟩ := r
    cases (show T = "int" from ty)
    exact ⟨typeIs_int s i t, fun _ e => nomatch e⟩
  | ref p =>
    cases r
    rcases ty with ⟨rfl, xs, hq⟩ | ⟨rfl, o, hk, hc, hd⟩ | ⟨rfl, hk⟩ | ⟨rfl, S, n, hk⟩
    · obtain ⟨its, _, pl, _⟩ := I.list hq
      refine ⟨pl.isList.typeIs, fun a e => ?_⟩
      cases e
      obtain ⟨o, n, e, c, hd, _⟩ := pl
      exact ⟨o, e, hd⟩
    · refine ⟨⟨o, I.kIn p o hk, hc⟩, fun a e => ?_⟩
      cases e
      exact ⟨o, I.kIn _ o hk, hd⟩
    · have z : ∃ o, s.heap.get? p = some o ∧ o.ExactDict := by
        rcases hk with ⟨kvs, hk⟩ | ⟨kvs, hk⟩
        · obtain ⟨_, _, _, _, o, _, _, e, ex, _⟩ := I.hok p _ hk
          exact ⟨o, e, ex⟩
        · obtain ⟨_, _, _, _, o, _, _, e, ex, _⟩ := I.hok p _ hk
          exact ⟨o, e, ex⟩
      obtain ⟨o, e, ex⟩ := z
      refine ⟨⟨o, e, ex.1⟩, fun a e2 => ?_⟩
      cases e2
      exact ⟨o, e, ex.2.1⟩
    · obtain ⟨o, _, _, _, e, ex, _⟩ := I.hok p _ hk
      refine ⟨⟨o, e, ex.1⟩, fun a e2 => ?_⟩
      cases e2
      exact ⟨o, e, ex.2.1⟩
  | _ => exact False.elim ty
noncomputable def tBM (K : PySem.W.Frag) (T : String) (r : V → List V → Hp → VK → Prop) (to : TE) (t : TA) : TE := fun σ H Q => to σ H fun x H1 => tyV K T x H1 ∧ t σ H1 fun xs H2 => r x xs H2 Q
variable {o e : Expr} {es : List Expr} {to : TE} {t : TA} {name : Str} {apos cpos : Pos} {T id : String} {r : V → List V → Hp → VK → Prop}
theorem pe_bm (pa : PlainAttrs T) (slot : Slot T name id) (hty : typeOf (.builtin id) = pure (.type "method_descriptor")) (hm : MtR X id r) (ho : PE X o to) (ha : PA X (e :: es) t)
    (hbase : attributeBase o name X.env (eval o X.env) = eval o X.env := by rfl)
    (hfew : ((backTo cpos (starEach (e :: es) X.env)).all (fun x => !x.1) && (backToKw cpos (keywordEach [] X.env)).all (fun x => x.1.isSome)
      && decide ((e :: es).length + ([] : List Keyword).length + (if ([] : List Keyword).isEmpty then 0 else 1) < 30)) = true := by rfl)
    (hline : (apos.endLine == cpos.line) = true := by rfl) (hs : starEach (e :: es) X.env = (false, eval e X.env) :: starEach es X.env := by rfl) (hplain : (backTo cpos (starEach es X.env)).any (·.1) = false := by rfl) :
    PE X (.Call (.Attribute o name apos) (e :: es) [] cpos) (tBM X.K T r to t) := by
  intro pins s σ H Q I h
  refine wpAny_Call_method_late hbase hfew hline rfl (thn (ho pins s σ H _ I h) fun v s1 ⟨x, H1, I1, r1, ty, q1⟩ => ?_)
  obtain ⟨h1, h2⟩ := tyV_is I1 r1 ty
  refine ⟨T, id, pa, slot, hty, h1, h2, ?_⟩
  have hA := ha cpos pins s1 σ H1 _ I1 q1
  rw [hs] at hA ⊢
  refine Calls.callWith_builtin (by show (false || (backTo cpos (starEach es X.env)).any (·.1)) = false; rw [hplain] <;> rfl) (Calls.evalArgs_plain ?_)
  exact thn hA fun us s2 ⟨vs, H2, I2, r2, q2⟩ => hm pins s2 σ H2 x vs v us Q I2 r1 r2 q2
end
end L2

namespace L2
open PySem PySem.Spec PyProof.Rows

noncomputable def MtM (X : Cx) (id : String) (r : V → List V → Hp → VK → Prop) : Prop :=
  ∀ (pins : List (Addr × Obj)) (s : Shared) (σ : St) (H : Hp) (x : V) (xs : List V) (v : Value) (us : List Value) (Q : VK), Inv X pins σ H s → RelV x v → Vals xs us → r x xs H Q →
    wpAny (model X.prog X.w) X.A (call (.builtin id) (v :: us)) (EP X pins σ Q) X.xe s

theorem Vals.one : ∀ {x : V} {us : List Value}, Vals [x] us → ∃ u, us = [u] ∧ RelV x u
  | _, _, .cons r .nil => ⟨_, rfl, r⟩
section
variable {X : Cx} {pins : List (Addr × Obj)} {σ : St} {H : Hp} {s : Shared} {l b : Addr} {xs ys zs : List V}

theorem Inv.lset {its its' : List Value} {n : Nat} {f : Array Value → Array Value} {t' : Nat} (I : Inv X pins σ H s) (hH : H l = some (.lst xs))
    (e : s.heap.get? l = some { cls := .type "list", data := .seq its.toArray n }) (hf : f its.toArray = its'.toArray) (hv : Vals ys its') (hz : ys.length ≤ sizeLine) :
    Inv X pins σ (upd H l (.lst ys)) { s with heap := s.heap.update l (Obj.mapSeq f), toks := t' } := by
  have q := PySem.IsL.update e f
  rw [hf] at q
  refine I.write (x := l) (e := l) (by rw [hH]; exact trivial) (.inl rfl) (fun b' u hb hu => (Heap.get?_update_other s.heap (Obj.mapSeq f) (Ne.symm hb)).trans hu) ⟨_, q⟩ ?_
  exact ⟨hz, its', _, hv, q⟩
theorem Inv.lnew {its : List Value} {t' : Nat} (I : Inv X pins σ H s) (hv : Vals ys its) (hz : ys.length ≤ sizeLine) :
    Inv X pins σ (upd H s.heap.objs.size (.lst ys)) { s with heap := s.heap.push { cls := .type "list", data := .seq its.toArray }, toks := t' } :=
  I.laid (fun _ _ q => Heap.get?_push_of_some _ q) (Nat.le_refl _) ⟨hz, its, 0, hv, Heap.get?_push_size _ rfl⟩
theorem Inv.fresh (I : Inv X pins σ H s) : H s.heap.objs.size = none := I.hok.fresh (Nat.le_refl _)
theorem Inv.lstM (I : Inv X pins σ H s) (hH : H l = some (.lst xs)) : xs.length ≤ sizeLine ∧ ∃ (its : List Value) (n : Nat), Vals xs its ∧ xs.length = its.length ∧ s.heap.get? l = some { cls := .type "list", data := .seq its.toArray n } := by
  obtain ⟨z, its, n, r, e⟩ := I.hok l _ hH
  exact ⟨z, its, n, r, r.length, e⟩

end

section
variable {X : Cx}

noncomputable def rAppend : V → List V → Hp → VK → Prop := fun x vs H Q => ∃ l xs y, x = .ref l ∧ vs = [y] ∧ H l = some (.lst xs) ∧ xs.length < sizeLine ∧ Q .non (upd H l (.lst (xs ++ [y])))
theorem mt_append : MtM X "list.append" rAppend := by
  intro pins s σ H x vs v us Q I rx rv h
  obtain ⟨l, xs, y, rfl, rfl, hH, hz, q⟩ := h
  cases rx
  obtain ⟨u, rfl, ru⟩ := rv.one
  obtain ⟨z, its, n, r, hl, e⟩ := I.lstM hH
  refine call_meets F.slot_list_append ⟨_, e, rfl⟩ F.entry_list_append (F.args_list_append_2 _ _) (PySem.list_append l its.toArray n u (by rw [List.size_toArray]; omega)) ⟨e, ?_⟩
  refine ⟨.non, _, I.lset (its' := its ++ [u]) hH e (by simp) (r.append (.cons ru .nil)) ?_, rfl, q⟩
  rw [List.length_append, List.length_singleton]
  omega

end

section
variable {prog : Program} {w : World} {A : Around} {E : Value → Shared → Prop} {s : Shared}
set_option maxRecDepth 100000 in
end

section
variable {X : Cx}
end
end L2

namespace Att
open PySem PySem.W PySem.Calls PyProof.Rows

theorem ints_of_wellAll {P : Params} {h : Heap} : ∀ (ns : List Int) (vs : List Value), WellAll P h vs (ns.map WData.int) → IntsAre vs ns := by
  intro ns
  induction ns with
  | nil =>
    intro vs w
    rw [List.map_nil] at w
    cases w
    exact .nil
  | cons n ns ih =>
    intro vs w
    rw [List.map_cons] at w
    cases w with
    | cons a b =>
      cases a
      exact .cons _ _ (ih _ b)

theorem script_of {l : OpenLaw} {n : Nat} (hn : l.most = some n) {P : Params} {h : Heap} {args : List WData} {vals : List Value}
    (hpre : l.row.toRowW.claim.pre args = true) (hwl : WellAll P h vals args) :
    ∃ a vs ns, vals = [Value.ref a] ∧ args = [WData.list (ns.map WData.int)] ∧ h.get? a = some { cls := .type "list", data := .seq vs.toArray } ∧ IntsAre vs ns ∧ ns.length ≤ n := by
  have hsh : WShape.hasAll [] args [.list .int] = true := (pre_splitW hpre).1
  have hc : l.pre.holds [] { args := args } = true := (pre_splitW hpre).2
  obtain ⟨d, r, rfl, h1, h2⟩ := hasAllW_cons hsh
  obtain rfl := hasAllW_nil h2
  obtain ⟨xs, rfl, h3⟩ := hasW_list h1
  obtain ⟨ns, rfl⟩ := items_int h3
  have hlen : ns.length ≤ n := by
    unfold OpenLaw.pre at hc
    have h4 : (WTm.not (.lt (.lit (.int (n : Int))) (.len (.arg 0)))).holds [] { args := [.list (ns.map .int)] } = true := by
      have h4 := (holds_andW hc).1
      rw [hn] at h4
      exact h4
    have h5 := condW_of h4 (w_not (w_lt w_lit (w_len_list (w_arg rfl))))
    rw [List.length_map] at h5
    refine Nat.le_of_not_lt fun q => ?_
    have q' : (n : Int) < ((ns.length : Nat) : Int) := by omega
    first
      | (rw [decide_eq_true q'] at h5; exact absurd h5 (by decide))
      | (simp at h5; omega)
  cases hwl with
  | cons w1 w2 =>
    cases w2
    cases w1 with
    | list ho hall => exact ⟨_, _, ns, rfl, rfl, ho, ints_of_wellAll ns _ hall, hlen⟩

theorem post_true (l : OpenLaw) (args : List WData) : l.row.toRowW.claim.post args (.bool true) args = true :=
  postW_of (r := l.row.toRowW) (X := (true == true))
    (show WShape.has [] (.bool true) .bool = true by first | rfl | decide | simp [WShape.has, WShape.arms, WShape.armsAll])
    (show (WTm.eq .res (.lit (.bool true))).value [] { args := args, res := some (.bool true), after := args } = some (.bool (true == true)) from w_eq_bool (w_res rfl) w_lit) rfl

theorem attach_call {l : OpenLaw} {n : Nat} {q : Program} {loose : List Str} {XP : (Str → Option Value) → Heap → Prop} {YP : World → Heap → Prop} {d : DefRec}
    (hn : l.most = some n) (hdf : d.params.defaults = [])
    (call : ∀ (w : World) (s₀ s₁ : Shared) (mg mb : Str → Option Value) (fa : Addr) (o : Obj) (pm cd doc : Value) (a : Addr) (vs : List Value) (ns : List Int),
      Ground q loose [] XP w s₀ mg mb s₁.heap → YP w s₁.heap →
      s₁.heap.get? fa = some o → o.data = .func (docDef d.name d.params d.body d.scope pm cd doc) → s₁.heap.CodeRec cd d.name → mg d.name = some (.ref fa) →
      s₁.heap.get? a = some { cls := .type "list", data := .seq vs.toArray } → IntsAre vs ns → ns.length ≤ n → s₁.gens = #[] →
      codeAny (model l.prog w) callerA (.call (.ref fa) ⟨[.ref a], []⟩) (fun r s' => r = .ok (.ret (.bool true)) ∧ OldK s₁.heap s'.heap ∧ s'.os = s₁.os ∧ AllBare s'.gens) s₁) :
    WalkO q loose XP YP l.row.toRowW d [] (fun f vs => PySem.call f vs) := by
  intro w s₀ s₁ mg mb G Y fa o pm cd doc dV kV ho hd hcd hD hmg hg args vals as hpre hlay hrd hwl hlo
  obtain rfl : dV = .none := Dflts.none hD hdf
  obtain rfl : kV = .none := Dflts.noKw hD
  obtain ⟨a, vs, ns, rfl, rfl, hobj, hints, hlen⟩ := script_of hn hpre hwl
  refine enter_call (codeAny_mono (call w s₀ s₁ mg mb fa o pm cd doc a vs ns G Y ho (fd_plain hd) hcd hmg hobj hints hlen hg) fun r s' hq => ?_)
  obtain ⟨rfl, h2, h3, h4⟩ := hq
  exact ⟨.inl ⟨.bool true, .bool true, [], rfl, fun _ => rfl, .bool true, post_true l _, fun _ => ⟨List.Pairwise.nil, fun _ hm => (nomatch hm)⟩⟩, h2, h3, h4⟩

section
variable {prog : Program} {w : World} {A : Around} {E : Value → Shared → Prop} {s : Shared} {K : Frag}

noncomputable def ledger (h : Heap) (L d : Addr) : List (Addr × Obj) := (List.range h.objs.size).filterMap fun a => if a = L ∨ a = d then none else (h.get? a).map fun o => (a, o)
end
end Att

namespace L2
open PySem PySem.Spec PyProof.Rows

theorem vals_ints : ∀ {vs : List Value} {ns : List Int}, IntsAre vs ns → Vals (ns.map V.int) vs
  | _, _, .nil => .nil
  | _, _, .cons n t h => .cons ⟨t, rfl⟩ (vals_ints h)

noncomputable def Only (H : Hp) : Prop := ∀ b, H b = none ∨ ∃ o xs, H b = some (.frz o (.lst xs))

theorem law_call {P : Program} {w : World} {K : PySem.W.Frag} {mg mb : Str → Option Value} {CX : CXT} {k : Nat} {fa a : Addr} {fd : FuncData} {x : Str} {sp : Sp} {s₁ : Shared} {vs : List Value} {ns : List Int}
    (KX : K.In s₁.heap) (hns : s₁.heap.Ns mainGlobals mg) (hb : s₁.heap.Ns builtinsNs mb) (hbb : ∀ x : Str, x ≠ "__name__" → mb x = bootBuiltins x) (hlim : s₁.heap.NoLimit) (hg : s₁.gens = #[])
    (ha : s₁.heap.get? a = some { cls := .type "list", data := .seq vs.toArray }) (hi : IntsAre vs ns) (hl : ns.length ≤ sizeLine) (hr : Room k callerA)
    (F : ∀ base : Heap, K.In base → base.Ns mainGlobals mg → FnOk P w K mg base CX k fa fd [x] sp) (hbind : ∀ (s : Shared) (u : Value), BindsTo s fd ⟨[u], []⟩ [(x, u)])
    (hsp : ∀ H : Hp, Only H → SqL K H a (ns.map V.int) → sp [.ref a] H (fun v _ => v = .bl true) fun _ _ _ => False)
    (hCX : ∀ H e s', CX [] H s₁ (fun _ _ _ => False) e s' → False) :
    codeAny (model P w) callerA (.call (.ref fa) ⟨[.ref a], []⟩) (fun r s' => r = .ok (.ret (.bool true)) ∧ OldK s₁.heap s'.heap ∧ s'.os = s₁.os ∧ AllBare s'.gens) s₁ := by
  have rv := vals_ints hi
  have lenV := hi.length
  -- from an abstract heap in which nothing but the script may be tracked
  have core : ∀ H : Hp, Only H → SqL K H a (ns.map V.int) → HOk P w H s₁.heap → (∀ b, H b ≠ none → b = a) → (H a ≠ none → K.lookup a = none) →
      codeAny (model P w) callerA (.call (.ref fa) ⟨[.ref a], []⟩) (fun r s' => r = .ok (.ret (.bool true)) ∧ OldK s₁.heap s'.heap ∧ s'.os = s₁.os ∧ AllBare s'.gens) s₁ := by
    intro H hO hS hok hA hK
    have base_of : ∀ {b : Addr} {o : Obj}, s₁.heap.get? b = some o → H b = none → (hidT s₁.heap H).get? b = some o := fun e n => hidT_get e n
    have noA : ∀ {b : Addr} {o : Obj} {es : Array DictEntry} {ep : Nat}, s₁.heap.get? b = some o → o.data = .dict es ep → H b = none := fun {b o es ep} e d => by
      cases q : H b with
      | none => rfl
      | some u =>
        have e' : b = a := hA b (by rw [q]; simp)
        subst e'
        rw [ha] at e; cases e
        have d' : Data.seq vs.toArray _ = Data.dict es ep := d
        cases d'
    have nsK : ∀ {b : Addr} {m : Str → Option Value}, s₁.heap.Ns b m → (hidT s₁.heap H).Ns b m := fun {b m} ⟨o, es, ep, e, d, r⟩ => ⟨o, es, ep, base_of e (noA e d), d, r⟩
    have hKb : K.In (hidT s₁.heap H) := fun b o e => base_of (KX b o e) (by
      cases q : H b with
      | none => rfl
      | some u =>
        have e' : b = a := hA b (by rw [q]; simp)
        subst e'
        rw [hK (by rw [q]; simp)] at e; cases e)
    have hM : Mod K mg (hidT s₁.heap H) := ⟨hKb, nsK hns, ⟨mb, nsK hb, hbb⟩, let ⟨mc, h1, h2⟩ := hlim; ⟨mc, nsK h1, h2⟩⟩
    have e0 : Env0 P w K mg (hidT s₁.heap H) callerA [] s₁ H := ⟨rfl, hM, fun b o e => of_hidT e, Nat.le_of_eq (hidT_size _ _), trivial, fun b hb => absurd (show b ∈ ([] : List Addr) from hb) (by simp), hok, .of_eq hg⟩
    refine codeAny_mono ((F _ hKb (nsK hns)).run callerA [] s₁ H ⟨[.ref a], []⟩ [.ref a] [.ref a] _ _ hr e0 (hbind s₁ (.ref a)) (.cons rfl .nil) (hsp H hO hS)) fun r s' h => ?_
    cases r with
    | error e => exact (hCX H e s' h).elim
    | ok fl =>
      cases fl with
      | next => exact False.elim h
      | brk => exact False.elim h
      | cont => exact False.elim h
      | ret u =>
        obtain ⟨v, H', os, bare, un, hok', r', q⟩ := h
        have q' : v = .bl true := q
        subst q'
        obtain rfl : u = Value.bool true := r'
        refine ⟨rfl, OldK.of_keep fun b o e => ?_, os, bare⟩
        cases q : H b with
        | none => exact un.keep b o e q (by intro z; exact absurd (show b ∈ ([] : List Addr) from z) (by simp)) (by simp)
        | some u =>
          rcases hO b with z | ⟨ob, xs, z⟩
          · rw [q] at z; cases z
          · have z2 := un.frzs b ob _ z
            obtain ⟨e1, _⟩ := hok b _ z
            obtain ⟨e2, _⟩ := hok' b _ z2
            rw [e] at e1; cases e1
            exact e2
  cases hk : K.lookup a with
  | some o =>
    -- the script is one of the module's own objects
    have e := KX a o hk
    rw [ha] at e
    cases e
    refine core (fun _ => none) (fun _ => .inl rfl) (.inr ⟨_, vs.toArray, _, hk, rfl, rfl, rfl, by rw [List.size_toArray, lenV]; exact hl, by simpa using rv⟩) (fun b u z => by have z' : (none : Option HO) = some u := z; cases z') (fun b z => absurd rfl z) fun z => absurd rfl z
  | none =>
    refine core (fun b => if b = a then some (.frz { cls := .type "list", data := .seq vs.toArray } (.lst (ns.map V.int))) else none) (fun b => ?_) (.inl (.inr ⟨{ cls := .type "list", data := .seq vs.toArray }, if_pos rfl⟩)) (fun b u z => ?_) (fun b z => ?_) fun _ => hk
    · by_cases hb : b = a
      · exact .inr ⟨_, _, if_pos hb⟩
      · exact .inl (if_neg hb)
    · by_cases hb : b = a
      · have z' := (if_pos hb).symm.trans z
        cases z'
        subst hb
        exact ⟨ha, by rw [List.length_map]; exact hl, vs, _, rv, ha⟩
      · have z' := (if_neg hb).symm.trans z
        cases z'
    · by_cases hb : b = a
      · exact hb
      · exact absurd (if_neg hb) z
end L2

namespace L2
open PySem PySem.Spec PyProof.Rows

noncomputable abbrev KOf {K : PySem.W.Frag} {h : Heap} (_ : K.In h) : PySem.W.Frag := K

theorem walk_of {l : PySem.W.OpenLaw} {n k : Nat} {q : Program} {loose : List Str} {XP : (Str → Option Value) → Heap → Prop} {YP : World → Heap → Prop} {d : DefRec} {K : Params → PySem.W.Frag} {CX : World → CXT} {sp : World → Sp} {x : Str}
    (hn : l.most = some n) (hn2 : n ≤ sizeLine) (hdf : d.params.defaults = []) (hr : Room k callerA)
    (hY : ∀ (w : World) (h : Heap), YP w h → (K w.params).In h)
    (F : ∀ (w : World) (mg : Str → Option Value) (fa : Addr) (h : Heap), (K w.params).In h → h.Ns mainGlobals mg → mg d.name = some (.ref fa) →
      ∃ fd : FuncData, (∀ (s : Shared) (u : Value), BindsTo s fd ⟨[u], []⟩ [(x, u)]) ∧
        ∀ base : Heap, (K w.params).In base → base.Ns mainGlobals mg → FnOk l.prog w (K w.params) mg base (CX w) k fa fd [x] (sp w))
    (hsp : ∀ (w : World) (H : Hp) (a : Addr) (ns : List Int), ns.length ≤ n → Only H → SqL (K w.params) H a (ns.map V.int) → sp w [.ref a] H (fun v _ => v = .bl true) fun _ _ _ => False)
    (hCX : ∀ (w : World) (H : Hp) (s : Shared) (e : Value) (s' : Shared), CX w [] H s (fun _ _ _ => False) e s' → False) :
    PySem.W.WalkO q loose XP YP l.row.toRowW d [] (fun f vs => PySem.call f vs) := by
  refine Att.attach_call hn hdf fun w s₀ s₁ mg mb fa o pm cd doc a vs ns G Y ho hd hcd hmg hobj hints hlen hg => ?_
  have KX := hY w _ Y
  obtain ⟨fd, hb, hF⟩ := F w mg fa _ KX G.T.g hmg
  exact law_call KX G.T.g G.T.b G.T.builtins G.T.nolimit hg hobj hints (Nat.le_trans hlen hn2) hr hF hb (fun H hO hS => hsp w H a ns hlen hO hS) fun H e s' => hCX w H s₁ e s'
theorem walk_ofK {l : PySem.W.OpenLaw} {n k : Nat} {q : Program} {loose : List Str} {XP : (Str → Option Value) → Heap → Prop} {YP : World → Heap → Prop} {d : DefRec} {K : Params → PySem.W.Frag} {CX : CXT} {sp : PySem.W.Frag → Sp} {x : Str}
    (hn : l.most = some n) (hn2 : n ≤ sizeLine) (hdf : d.params.defaults = []) (hr : Room k callerA)
    (hY : ∀ (w : World) (h : Heap), YP w h → (K w.params).In h)
    (F : ∀ (w : World) (mg : Str → Option Value) (fa : Addr) (h : Heap), (K w.params).In h → h.Ns mainGlobals mg → mg d.name = some (.ref fa) →
      ∃ fd : FuncData, (∀ (s : Shared) (u : Value), BindsTo s fd ⟨[u], []⟩ [(x, u)]) ∧
        ∀ base : Heap, (K w.params).In base → base.Ns mainGlobals mg → FnOk l.prog w (K w.params) mg base CX k fa fd [x] (sp (K w.params)))
    (hsp : ∀ (K : PySem.W.Frag) (H : Hp) (a : Addr) (ns : List Int), ns.length ≤ n → Only H → SqL K H a (ns.map V.int) → sp K [.ref a] H (fun v _ => v = .bl true) fun _ _ _ => False)
    (hCX : ∀ (H : Hp) (s : Shared) (e : Value) (s' : Shared), CX [] H s (fun _ _ _ => False) e s' → False) :
    PySem.W.WalkO q loose XP YP l.row.toRowW d [] (fun f vs => PySem.call f vs) :=
  walk_of (K := K) (CX := fun _ => CX) (sp := fun w => sp (K w.params)) hn hn2 hdf hr hY F (fun w H a ns h1 h2 h3 => hsp (K w.params) H a ns h1 h2 h3) fun _ H s e s' => hCX H s e s'
end L2


namespace L2
open PySem PySem.Spec PyProof.Rows

noncomputable def defArgs (s : Stmt) : Arguments := match s with
  | .FunctionDef _ a _ _ _ _ _ _ _ _ => a
  | _ => { posonlyargs := [], args := [], vararg := none, kwonlyargs := [], kw_defaults := [], kwarg := none, defaults := [] }
noncomputable def defBody (s : Stmt) : List Stmt := match s with
  | .FunctionDef _ _ b _ _ _ _ _ _ _ => b
  | _ => []
noncomputable def defScope (s : Stmt) : Scope := match s with
  | .FunctionDef _ _ _ _ _ _ sc _ _ _ => sc
  | _ => { kind := .function, names := [], isGenerator := false, isCoroutine := false }

noncomputable abbrev CX0 : CXT := fun _ _ _ _ _ _ => False
noncomputable abbrev E0 : XK := fun _ _ _ => False
theorem pass0 {X : Cx} : Passes CX0 X E0 := fun _ _ _ _ _ _ _ h => h.elim

structure Fun (K : PySem.W.Frag) (x qual : Str) (st : Stmt) (f : Addr) (fd : FuncData) : Prop where
  ex : ∃ (oc : Value) (od : Option Addr) (kV doc pm : Value) (an : Option Addr) (cdv ct : Value) (osl : Array (Option Value)),
    fd = PySem.W.fnOf x qual (defArgs st) (defBody st) (defScope st) .none kV doc pm an cdv ct ∧ K.lookup f = some ⟨oc, od, .func fd, osl⟩ ∧ PySem.W.codeIn K cdv qual = true
  kp : PySem.W.keepIn K (.ref f) = true
section
variable {P : Program} {w : World} {K : PySem.W.Frag} {mg : Str → Option Value} {base : Heap}
end
section
variable {X : Cx}
end

theorem iteF {A B : Prop} (h : B) : if false = true then A else B := by
  rw [if_neg Bool.false_ne_true]
  exact h
theorem iteT {A B : Prop} (h : A) : if true = true then A else B := by
  rw [if_pos rfl]
  exact h
end L2

set_option Elab.async false
set_option linter.all false
set_option maxRecDepth 100000
set_option maxHeartbeats 4000000
namespace L2
open PySem PySem.Spec PyProof.Rows
noncomputable def Its (x : Str) : It := ⟨fun i _ => i < x.cps.size, fun i H v H' => H' = H ∧ ∀ c, x.cps[i]? = some c → v = .str ⟨#[c]⟩, fun i _ => x.cps.size ≤ i⟩
theorem go_str {M : Model} {A : Around} {E : Value → Shared → Prop} {s : Shared} {tg : Expr} {it : Addr} {y : Str} {t : Tok} {Q : Unit → Shared → Prop} (hQ : Q () s) : wpAny M A (letOwnedTupleGo tg (.ref it) (.str y t)) Q E s := by
  unfold letOwnedTupleGo
  cases tg <;> exact wpAny_pure hQ
theorem turn_str {P : Program} {w : World} {K : PySem.W.Frag} {tg : Expr} (it : Addr) (x : Str) (t : Tok) :
    Turn P w K tg (Its x) [it] it (fun i h => h.IsStrIter it "str_ascii_iterator" x t i ∨ h.IsStrIter it "str_iterator" x t i) where
  mem := by simp
  obj := fun i h st b hb => by
    have e : b = it := by simpa using hb
    subst e
    rcases st with ⟨o, e, c, d⟩ | ⟨o, e, c, d⟩
    · exact ⟨o, e, fun v z => by rw [d] at z; cases z⟩
    · exact ⟨o, e, fun v z => by rw [d] at z; cases z⟩
  keep := fun i h h' st k => by
    rcases st with ⟨o, e, r⟩ | ⟨o, e, r⟩
    · exact .inl ⟨o, k it (by simp) o e, r⟩
    · exact .inr ⟨o, k it (by simp) o e, r⟩
  item := by
    intro X hP hw hK hc i pins s σ H E I hf st hg
    subst hP hw hK
    have hg' : i < x.cps.size := hg
    obtain ⟨f0, f1, f2, f3, f4, f5⟩ := hf it (by simp)
    have hx : x.cps[i]? = some x.cps[i] := by simp [hg']
    rcases st with st | st
    · refine wpAny_pyNext_ascii_item st hx fun h' st' sb => ?_
      have I1 : Inv X pins σ H { s with heap := h', toks := s.toks + 1 } := I.turned (fun b o hb e => (sb.2 b hb).trans e) f0 f1 f3 f4 f5
      exact ⟨_, rfl, go_str ⟨.str ⟨#[x.cps[i]]⟩, H, I1, ⟨_, rfl⟩, ⟨rfl, fun c hc => by rw [hx] at hc; cases hc; rfl⟩, .inl st', fun b hb => (hf b hb).1⟩⟩
    · refine wpAny_pyNext_wide_item st hx fun h' st' sb => ?_
      have I1 : Inv X pins σ H { s with heap := h', toks := s.toks + 1 } := I.turned (fun b o hb e => (sb.2 b hb).trans e) f0 f1 f3 f4 f5
      exact ⟨_, rfl, go_str ⟨.str ⟨#[x.cps[i]]⟩, H, I1, ⟨_, rfl⟩, ⟨rfl, fun c hc => by rw [hx] at hc; cases hc; rfl⟩, .inr st', fun b hb => (hf b hb).1⟩⟩
  done := by
    intro X hP hw hK hc i pins s σ H E I hf st hg
    subst hP hw hK
    have hg' : x.cps.size ≤ i := hg
    obtain ⟨f0, f1, f2, f3, f4, f5⟩ := hf it (by simp)
    rcases st with st | st
    · exact wpAny_pyNext_ascii_end (I.ok.hd hc) st (by simp [hg']) fun h' eb => ⟨rfl, I.turned (t' := s.toks) (fun b o hb e => eb b o hb e) f0 f1 f3 f4 f5⟩
    · exact wpAny_pyNext_wide_end (I.ok.hd hc) st (by simp [hg']) fun h' eb => ⟨rfl, I.turned (t' := s.toks) (fun b o hb e => eb b o hb e) f0 f1 f3 f4 f5⟩
  self := fun _ _ _ _ _ st h => by
    rcases st with st | st
    · exact wpAny_pyIter_striter_ascii st h
    · exact wpAny_pyIter_striter_wide st h
section
variable {X : Cx} {tg : Expr}
noncomputable def iStr (tl : TE) : TI := fun σ H R => tl σ H fun x H1 => ∃ y, x = .str y ∧ R (Its y) H1
theorem pi_str {l : Expr} {tl : TE} (hl : PE X l tl) : PI X tg l (iStr tl) := by
  intro pins s σ H R I h
  refine thn (hl pins s σ H _ I h) fun v s1 ⟨x, H1, I1, r1, q1⟩ => ?_
  obtain ⟨y, rfl, q⟩ := q1
  obtain ⟨t, rfl⟩ := r1
  have fp : ∀ b ∈ [s1.heap.objs.size], FpOk X pins H1 b := fun b hb => by
    have e : b = s1.heap.objs.size := by simpa using hb
    subst e
    exact I1.fpOk (Nat.le_refl _) (I1.hok.fresh (Nat.le_refl _))
  cases ha : y.cps.all (· < 128)
  · exact wpAny_pyIter_wide ha ⟨s1.heap.objs.size, [s1.heap.objs.size], _, _, H1, rfl, I1.kept (t' := s1.toks) fun b o e => Heap.get?_push_of_some _ e, turn_str _ y t, .inr ⟨_, Heap.get?_push_size _ rfl, rfl, rfl⟩, fp, q⟩
  · exact wpAny_pyIter_ascii ha ⟨s1.heap.objs.size, [s1.heap.objs.size], _, _, H1, rfl, I1.kept (t' := s1.toks) fun b o e => Heap.get?_push_of_some _ e, turn_str _ y t, .inl ⟨_, Heap.get?_push_size _ rfl, rfl, rfl⟩, fp, q⟩
end
end L2

set_option Elab.async false
set_option linter.all false
set_option maxRecDepth 100000
set_option maxHeartbeats 4000000
namespace AJ
open PySem PySem.Builtin PySem.Builtin.Str PyProof.Rows
section
variable {prog : Program} {w : World} {A : Around} {E : Value → Shared → Prop} {s : Shared} {I : Addr} {own tur : List Addr} {Gg : Array GenState → Array GenState → Prop} {m : Nat} {Pv : Nat → Value → Prop} {Rv : Nat → Shared → Prop}
noncomputable abbrev emptyL : Obj := { cls := .type "list", data := .seq ([] : List Value).toArray }
end
end AJ
namespace L2
open PySem PySem.Spec PyProof.Rows
section
variable {X : Cx}
end
end L2

set_option Elab.async false
set_option linter.all false
set_option maxRecDepth 100000
set_option maxHeartbeats 4000000
namespace L2
open PySem PySem.Spec PyProof.Rows

noncomputable def clG (cells : List (Str × Addr)) : List (Str × NameKind) → List (Str × Addr) → List (Str × Addr)
  | [], cs => cs
  | (n, k) :: r, cs => clG cells r (if k == .free then (n, (cells.lookup n).getD 0) :: cs else cs)
theorem clG_eq (env : Env) : ∀ (names : List (Str × NameKind)) (cs : List (Str × Addr)), (∀ y ∈ names, y.2 = .free → ∃ c, env.cells.lookup y.1 = some c) →
    (forIn names cs (fun (x : Str × NameKind) (c : List (Str × Addr)) => (do if x.2 == .free then let a ← cellOf env x.1; pure (ForInStep.yield ((x.1, a) :: c)) else pure (ForInStep.yield c) : Sem (ForInStep (List (Str × Addr))))) : Sem (List (Str × Addr))) = pure (clG env.cells names cs)
  | [], cs, _ => by rw [List.forIn_nil]; rfl
  | (n, k) :: r, cs, h => by
    rw [List.forIn_cons]
    by_cases hk : (k == NameKind.free) = true
    · obtain ⟨c, hc⟩ := h (n, k) List.mem_cons_self (beq_iff_eq.mp hk)
      have e : cellOf env n = pure c := by
        unfold cellOf
        have hc' : env.cells.lookup n = some c := hc
        rw [hc']
      simp only [hk, if_true, e, pure_bind]
      rw [clG_eq env r _ fun y hy => h y (List.mem_cons_of_mem _ hy)]
      show _ = pure (clG env.cells r (if (k == NameKind.free) = true then _ else cs))
      have hc' : env.cells.lookup n = some c := hc
      rw [if_pos hk, hc']
      rfl
    · have hk' : (k == NameKind.free) = false := by simpa using hk
      simp only [hk', Bool.false_eq_true, if_false, pure_bind]
      rw [clG_eq env r _ fun y hy => h y (List.mem_cons_of_mem _ hy)]
      show _ = pure (clG env.cells r (if (k == NameKind.free) = true then _ else cs))
      rw [if_neg hk]
theorem closure_eq {scope : Scope} {env : Env} (h : ∀ y ∈ scope.names, y.2 = .free → ∃ c, env.cells.lookup y.1 = some c) : closureFor scope env = pure (clG env.cells scope.names []) := by
  unfold closureFor
  have e := clG_eq env scope.names [] h
  simp only [bind_pure]
  exact e
theorem clG_sub (cells : List (Str × Addr)) : ∀ (names : List (Str × NameKind)) (cs : List (Str × Addr)) (x : Str) (c : Addr), (∀ y ∈ names, y.2 = .free → ∃ c, cells.lookup y.1 = some c) → (clG cells names cs).lookup x = some c → cs.lookup x = some c ∨ cells.lookup x = some c
  | [], cs, x, c, _, e => .inl e
  | (n, k) :: r, cs, x, c, h, e => by
    unfold clG at e
    rcases clG_sub cells r _ x c (fun y hy => h y (List.mem_cons_of_mem _ hy)) e with q | q
    · by_cases hk : (k == NameKind.free) = true
      · rw [if_pos hk] at q
        obtain ⟨c', hc⟩ := h (n, k) List.mem_cons_self (beq_iff_eq.mp hk)
        have hc' : cells.lookup n = some c' := hc
        rw [List.lookup_cons] at q
        cases hx : x == n with
        | true =>
          rw [hx] at q
          have hxn : x = n := beq_iff_eq.mp hx
          subst hxn
          rw [hc'] at q
          exact .inr (by rw [hc']; exact q)
        | false => rw [hx] at q; exact .inl q
      · rw [if_neg hk] at q; exact .inl q
    · exact .inr q
theorem clG_mono (cells : List (Str × Addr)) : ∀ (names : List (Str × NameKind)) (cs : List (Str × Addr)) (x : Str), (∃ c, cs.lookup x = some c) → ∃ c, (clG cells names cs).lookup x = some c
  | [], cs, x, h => h
  | (n, k) :: r, cs, x, ⟨c, h⟩ => by
    unfold clG
    refine clG_mono cells r _ x ?_
    by_cases hk : (k == NameKind.free) = true
    · rw [if_pos hk, List.lookup_cons]
      cases hx : x == n with
      | true => exact ⟨_, rfl⟩
      | false => exact ⟨c, h⟩
    · rw [if_neg hk]; exact ⟨c, h⟩
theorem clG_has (cells : List (Str × Addr)) : ∀ (names : List (Str × NameKind)) (cs : List (Str × Addr)) (x : Str), (x, NameKind.free) ∈ names → ∃ c, (clG cells names cs).lookup x = some c
  | [], cs, x, h => by cases h
  | (n, k) :: r, cs, x, h => by
    unfold clG
    rcases List.mem_cons.mp h with z | z
    · obtain ⟨rfl, rfl⟩ := Prod.mk.inj z
      refine clG_mono cells r _ _ ?_
      rw [if_pos (by rfl), List.lookup_cons]
      exact ⟨_, by simp; rfl⟩
    · exact clG_has cells r _ x z

noncomputable def cxComp (X : Cx) (N : List Str) (scope : Scope) (s : Shared) (H : Hp) (fp : List Addr) : Cx where
  prog := X.prog
  w := X.w
  K := X.K
  mg := X.mg
  base := X.base
  A := X.A
  N := N
  s₀ := s
  H₀ := H
  env := compEnvC scope (clG X.env.cells scope.names []) s.heap.objs.size X.env
  outer := X.stack
  stack := X.stack
  ex := fp
  calm := X.calm
  fn := fun _ => false
  pn := []
  xe := fun _ _ => False
noncomputable def capOk (N : List Str) (sc scope : Scope) : List Str → List (Option Nat) → Bool
  | [], [] => true
  | _ :: xs, none :: cs => capOk N sc scope xs cs
  | x :: xs, some i :: cs => (N[i]? == some x) && (scope.names.lookup x == some .free) && (sc.names.lookup x == some .cell) && capOk N sc scope xs cs
  | _, _ => false
noncomputable def capS (σ : St) (caps : List (Option Nat)) : St := caps.map fun o => match o with
  | some i => (σ[i]?).getD none
  | none => none
theorem capOk_at {N : List Str} {sc scope : Scope} : ∀ {xs : List Str} {cs : List (Option Nat)}, capOk N sc scope xs cs = true → xs.length = cs.length ∧ ∀ (j i : Nat) (x : Str), xs[j]? = some x → cs[j]? = some (some i) → N[i]? = some x ∧ scope.names.lookup x = some .free ∧ sc.names.lookup x = some .cell
  | [], [], _ => ⟨rfl, fun j i x e => by simp at e⟩
  | x :: xs, none :: cs, h => by
    obtain ⟨l, a⟩ := capOk_at (xs := xs) (cs := cs) h
    refine ⟨by simp [l], fun j i y e1 e2 => ?_⟩
    cases j with
    | zero => simp at e2
    | succ j => exact a j i y (by simpa using e1) (by simpa using e2)
  | x :: xs, some i0 :: cs, h => by
    unfold capOk at h
    simp only [Bool.and_eq_true, beq_iff_eq] at h
    obtain ⟨⟨⟨h1, h2⟩, h3⟩, h4⟩ := h
    obtain ⟨l, a⟩ := capOk_at (xs := xs) (cs := cs) h4
    refine ⟨by simp [l], fun j i y e1 e2 => ?_⟩
    cases j with
    | zero =>
      simp at e1 e2
      subst e1 e2
      exact ⟨h1, h2, h3⟩
    | succ j => exact a j i y (by simpa using e1) (by simpa using e2)
  | [], _ :: _, h => by cases h
  | _ :: _, [], h => by cases h
theorem lookup_mem {α β : Type} [BEq α] [LawfulBEq α] : ∀ {l : List (α × β)} {x : α} {y : β}, l.lookup x = some y → (x, y) ∈ l
  | [], _, _, h => by cases h
  | (a, b) :: r, x, y, h => by
    rw [List.lookup_cons] at h
    cases hx : x == a with
    | true =>
      rw [hx] at h
      cases h
      rw [beq_iff_eq.mp hx]
      exact List.mem_cons_self
    | false => rw [hx] at h; exact List.mem_cons_of_mem _ (lookup_mem h)
theorem relabel_kind (env : Env) : ∀ (names : List (Str × NameKind)) (x : Str),
    (names.map fun (n, k) => if (k == NameKind.free && env.scope.kind == .function && env.kindOf n == some .cell) then (n, NameKind.cell) else (n, k)).lookup x =
      (names.lookup x).map fun k => if (k == NameKind.free && env.scope.kind == .function && env.kindOf x == some .cell) then NameKind.cell else k
  | [], x => rfl
  | (n, k) :: r, x => by
    have ih := relabel_kind env r x
    rw [List.map_cons, List.lookup_cons (as := r)]
    show List.lookup x ((if (k == NameKind.free && env.scope.kind == .function && env.kindOf n == some .cell) = true then (n, NameKind.cell) else (n, k)) :: _) = _
    cases hx : x == n with
    | true =>
      have e := beq_iff_eq.mp hx
      subst e
      by_cases hc : (k == NameKind.free && env.scope.kind == .function && env.kindOf x == some .cell) = true
      · rw [if_pos hc]
        simp only [List.lookup_cons, beq_self_eq_true, Option.map_some]
        rw [if_pos hc]
      · rw [if_neg hc]
        simp only [List.lookup_cons, beq_self_eq_true, Option.map_some]
        rw [if_neg hc]
    | false =>
      by_cases hc : (k == NameKind.free && env.scope.kind == .function && env.kindOf n == some .cell) = true
      · rw [if_pos hc]
        simp only [List.lookup_cons, hx]
        exact ih
      · rw [if_neg hc]
        simp only [List.lookup_cons, hx]
        exact ih

theorem capS_get {σ : St} {caps : List (Option Nat)} {j : Nat} {v : V} (e : (capS σ caps)[j]? = some (some v)) : ∃ i, caps[j]? = some (some i) ∧ σ[i]? = some (some v) := by
  unfold capS at e
  rw [List.getElem?_map] at e
  cases h : caps[j]? with
  | none => rw [h] at e; cases e
  | some o =>
    rw [h] at e
    cases o with
    | none => cases e
    | some i =>
      have e' : (σ[i]?).getD none = some v := Option.some.inj e
      refine ⟨i, rfl, ?_⟩
      cases q : σ[i]? with
      | none => rw [q] at e'; cases e'
      | some w => rw [q] at e'; exact congrArg some e'

section
variable {X : Cx} {pins : List (Addr × Obj)} {σ : St} {H : Hp} {s : Shared}
theorem inv_comp {N : List Str} {scope : Scope} {caps : List (Option Nat)} {fp : List Addr} {h1 : Heap} {tk : Nat} (I : Inv X pins σ H s) (hk : scope.kind = .function) (hcell : ∀ y ∈ scope.names, y.2 ≠ .cell)
    (hfree : ∀ y ∈ scope.names, y.2 = .free → X.env.scope.names.lookup y.1 = some .cell ∨ X.env.scope.names.lookup y.1 = some .free) (hcap : capOk X.N X.env.scope scope N caps = true)
    (hf : ∀ b ∈ fp, FpOk X pins H b) (ho : ∀ b ∈ fp, ∃ o, s.heap.get? b = some o) (hn : h1.Ns s.heap.objs.size fun _ => none) (kp : ∀ b o, s.heap.get? b = some o → h1.get? b = some o) :
    Inv (cxComp X N scope s H fp) [] (capS σ caps) H { s with heap := h1, toks := tk } := by
  have hfc : ∀ y ∈ scope.names, y.2 = .free → ∃ c, X.env.cells.lookup y.1 = some c := fun y hy e => I.ok.has y.1 (hfree y hy e)
  have sub : ∀ x c, (clG X.env.cells scope.names []).lookup x = some c → X.env.cells.lookup x = some c := fun x c e => by
    rcases clG_sub X.env.cells scope.names [] x c hfc e with z | z
    · cases z
    · exact z
  have fresh : H s.heap.objs.size = none := I.hok.fresh (Nat.le_refl _)
  have kind : ∀ x, (cxComp X N scope s H fp).env.kindOf x = some .cell ∨ (cxComp X N scope s H fp).env.kindOf x = some .free → scope.names.lookup x = some .free := fun x h => by
    have e : (cxComp X N scope s H fp).env.kindOf x = _ := relabel_kind X.env scope.names x
    rw [e] at h
    cases q : scope.names.lookup x with
    | none => rw [q] at h; rcases h with h | h <;> cases h
    | some k =>
      rw [q, Option.map_some] at h
      by_cases hc : (k == NameKind.free && X.env.scope.kind == .function && X.env.kindOf x == some .cell) = true
      · have : (k == NameKind.free) = true := by
          rw [Bool.and_assoc, Bool.and_eq_true] at hc
          exact hc.1
        rw [beq_iff_eq.mp this]
      · rw [if_neg hc] at h
        rcases h with h | h
        · exact absurd (Option.some.inj h) (hcell _ (lookup_mem q))
        · exact h
  refine ⟨⟨I.ok.mod, hk, I.ok.glob, I.ok.blt, Nat.le_refl _, fun x y c e1 e2 => I.ok.inj x y c (sub x c e1) (sub y c e2), fun x h => clG_has X.env.cells scope.names [] x (lookup_mem (kind x h)), fun x c h => (Bool.false_ne_true h).elim, I.ok.hd, I.ok.frames, .inl rfl,
      fun b hb => ⟨fun z => ?_, fun x c e => (hf b hb).2.2.2.2.1 x c (sub x c e)⟩, fun b o e => I.bs b o e, Nat.le_trans I.ok.bsz I.sz, fun b o e hb => ?_, fun b hb z => ?_, I.stack, I.stkFree⟩,
    rfl, I.bare, Un.kept kp, ⟨_, hn, fun j x v e1 e2 e3 => ?_⟩, fun x c e => ?_, fresh, fun x c e => I.freeC x c (sub x c e), fun p hp => absurd (show p ∈ ([] : List (Addr × Obj)) from hp) (by simp), I.hok.kept kp, ?_⟩
  · obtain ⟨o, e⟩ := ho b hb
    have z' : b = s.heap.objs.size := z
    exact absurd (Heap.lt_size e) (by rw [z']; exact Nat.lt_irrefl _)
  · rcases (hf b hb).2.2.2.1 with z | z
    · exact I.ok.noex b o e z
    · exact absurd (Nat.lt_of_lt_of_le (Heap.lt_size e) (Nat.le_trans I.ok.bsz z)) (Nat.lt_irrefl _)
  · rcases List.mem_cons.mp (I.stkSub b z) with e | e
    · exact (hf b hb).2.1 e
    · exact (hf b hb).2.2.1 e
  · obtain ⟨i, e4, e5⟩ := capS_get e2
    obtain ⟨e6, e7, e8⟩ := (capOk_at hcap).2 j i x e1 e4
    obtain ⟨m, hm, hl⟩ := I.loc
    obtain ⟨u, r, l⟩ := hl i x v e6 e5 (.inr (.inl e8))
    obtain ⟨c', hc'⟩ := clG_has X.env.cells scope.names [] x (lookup_mem e7)
    have kx : X.env.kindOf x = some .cell := e8
    rcases l with ⟨k, _⟩ | ⟨k, c, e, z⟩
    · rw [kx] at k; cases k
    · refine ⟨u, r, .inr ⟨.inl ?_, c', hc', ?_⟩⟩
      · have q : (cxComp X N scope s H fp).env.kindOf x = _ := relabel_kind X.env scope.names x
        rw [q, e7, Option.map_some, if_pos]
        rw [kx, I.ok.kind]
        rfl
      · have q := sub x c' hc'
        rw [e] at q
        cases q
        obtain ⟨o, ho', hd⟩ := z
        exact ⟨o, kp _ o ho', hd⟩
  · obtain ⟨v, o, ho', hd⟩ := I.cell x c (sub x c e)
    exact ⟨v, o, kp _ o ho', hd⟩
  · show (capS σ caps).length = N.length
    unfold capS
    rw [List.length_map, (capOk_at hcap).1]

noncomputable def PIf (X : Cx) (ifs : List Expr) (tt : TT) : Prop := ∀ (pins : List (Addr × Obj)) (s : Shared) (σ : St) (H : Hp) (Q : Bool → Hp → Prop), Inv X pins σ H s → tt σ H Q →
  wpAny (model X.prog X.w) X.A (forIn ifs true fun c r => if r = true then do let ok ← isTrue c X.env (eval c X.env); pure (ForInStep.yield ok) else pure (ForInStep.yield r)) (TP X pins σ Q) X.xe s
theorem pif_nil : PIf X [] (fun _ H Q => Q true H) := fun pins s σ H Q I q => wpAny_tests_nil ⟨H, I, q⟩
noncomputable def tComp (caps : List (Option Nat)) (wi : TI) (g : TG) (tt : TT) (te : TE) : TE := fun σ H Q => wi σ H fun J H1 => ∀ D, H1 D = none → ∃ W : Nat → Nat → St → Hp → Prop, (∃ m, W 0 m (capS σ caps) (upd H1 D (.lst []))) ∧
  ∀ i m σ H, W i m σ H → (J.stop i H ∧ Q (.ref D) H) ∨ (J.go i H ∧ ∃ N : St → Hp → Prop, (∀ σ' H', N σ' H' → ∃ m', m' < m ∧ W (i + 1) m' σ' H') ∧
    ∀ x H', J.yld i H x H' → g x σ H' fun σ2 H2 => tt σ2 H2 fun b H3 => if b = true then te σ2 H3 fun v H4 => ∃ ys, H4 D = some (.lst ys) ∧ ys.length < sizeLine ∧ N σ2 (upd H4 D (.lst (ys ++ [v]))) else N σ2 H3)
theorem from_never {α : Type} {M : Model} {A : Around} {t : Sem α} {Q : α → Shared → Prop} {E : Value → Shared → Prop} {s : Shared} (h : wpAny M A t Q (fun _ _ => False) s) : wpAny M A t Q E s := wpAny_mono h (fun _ _ x => x) fun _ _ f => f.elim
theorem comp_loop {Y : Cx} {elt tg iter : Expr} {ifs : List Expr} {scope : Scope} {pos : Pos} {fp : List Addr} {it D : Addr} {tn : Nat → Heap → Prop} {J : It} {g : TG} {tt : TT} {te : TE} {R : Result → Shared → Prop} {Q : VK} (hx : Y.xe = fun _ _ => False) (hc : Y.calm = true)
    (T : Turn Y.prog Y.w Y.K tg J fp it tn) (hg : PG Y tg g) (ht : PIf Y ifs tt) (he : PE Y elt te) {W : Nat → Nat → St → Hp → Prop}
    (turn : ∀ i m σ H, W i m σ H → (J.stop i H ∧ Q (.ref D) H) ∨ (J.go i H ∧ ∃ N : St → Hp → Prop, (∀ σ' H', N σ' H' → ∃ m', m' < m ∧ W (i + 1) m' σ' H') ∧
      ∀ x H', J.yld i H x H' → g x σ H' fun σ2 H2 => tt σ2 H2 fun b H3 => if b = true then te σ2 H3 fun v H4 => ∃ ys, H4 D = some (.lst ys) ∧ ys.length < sizeLine ∧ N σ2 (upd H4 D (.lst (ys ++ [v]))) else N σ2 H3))
    (hR : ∀ σ' H' s', Inv Y [] σ' H' s' → Q (.ref D) H' → R (.ok .next) s') {m0 : Nat} {σ0 : St} {H0 : Hp} {s0 : Shared} (w0 : W 0 m0 σ0 H0) (I0 : Inv Y [] σ0 H0 s0) (st0 : tn 0 s0.heap) (f0 : ∀ b ∈ fp, FpOk Y [] H0 b) :
    codeAny (model Y.prog Y.w) Y.A (.compLoop (.ListComp elt [⟨tg, iter, ifs, 0⟩] scope pos) 0 (.ref it) (.ref D) Y.env) R s0 := by
  have stat : ∀ {H' : Hp}, (∀ b ∈ fp, H' b = none) → ∀ b ∈ fp, FpOk Y [] H' b := fun hn b hb => ⟨hn b hb, (f0 b hb).2⟩
  refine codeAny_loop rfl (fun n s' => ∃ i σ' H', Inv Y [] σ' H' s' ∧ tn i s'.heap ∧ (∀ b ∈ fp, H' b = none) ∧ W i n σ' H') (fun n s3 h3 => ?_) m0 ⟨0, σ0, H0, I0, st0, fun b hb => (f0 b hb).1, w0⟩
  obtain ⟨i, σ3, H3, I3, st3, fr3, w3⟩ := h3
  show wpAny _ Y.A ((compTurn (.ListComp elt [⟨tg, iter, ifs, 0⟩] scope pos) 0 (.ref it) (.ref D) Y.env).onRaise (fun x => do noteFrame x Y.env; theTreesLotGoes x)) _ _ s3
  refine wpAny_noted (from_never ?_)
  rw [compTurn_list]
  refine wpAny_bind (wpAny_standAt (wpAny_bind ?_))
  rcases turn i n σ3 H3 w3 with ⟨stop, qn⟩ | ⟨go, N, hN, step⟩
  · refine thn (T.done Y rfl rfl rfl hc i [] s3 σ3 H3 _ I3 (stat fr3) st3 stop) fun r s4 ⟨hr, I4⟩ => ?_
    subst hr
    exact wpAny_pure (hR σ3 H3 s4 I4 qn)
  · refine thn (T.item Y rfl rfl rfl hc i [] s3 σ3 H3 _ I3 (stat fr3) st3 go) fun r s4 ⟨u, hr, h4⟩ => ?_
    subst hr
    refine wpAny_bind (thn h4 fun _ s5 ⟨x, H5, I5, r5, y5, st5, fr5⟩ => ?_)
    have I5' := I5.pinned (stat fr5) (T.obj _ _ st5)
    have a1 := hg _ s5 σ3 H5 x u _ I5' r5 (step x H5 y5)
    rw [hx] at a1
    refine wpAny_bind (thn a1 fun _ s6 ⟨σ6, H6, I6, q6⟩ => ?_)
    have a2 := ht _ s6 σ6 H6 _ I6 q6
    rw [hx] at a2
    refine wpAny_bind (thn a2 fun ok s7 ⟨H7, I7, q7⟩ => ?_)
    have again : ∀ {H8 : Hp} {s8 : Shared}, Inv Y ([] ++ pinsAt fp s5.heap) σ6 H8 s8 → N σ6 H8 → ∃ m, m < n ∧ ∃ i σ' H', Inv Y [] σ' H' s8 ∧ tn i s8.heap ∧ (∀ b ∈ fp, H' b = none) ∧ W i m σ' H' := fun {H8 s8} I8 n8 => by
      obtain ⟨m', hm, w8⟩ := hN σ6 H8 n8
      refine ⟨m', hm, i + 1, σ6, H8, I8.unpinned, T.keep _ _ _ st5 fun b hb o e => (I8.pin (b, o) (List.mem_append_right _ (List.mem_append_right _ (mem_pinsAt hb e)))).1, fun b hb => ?_, w8⟩
      obtain ⟨o, e, d⟩ := T.obj _ _ st5 b hb
      exact (I8.pin (b, o) (List.mem_append_right _ (List.mem_append_right _ (mem_pinsAt hb e)))).2.1
    cases ok with
    | false => exact wpAny_pure ⟨rfl, again I7 q7⟩
    | true =>
      have a3 := he _ s7 σ6 H7 _ I7 q7
      rw [hx] at a3
      refine wpAny_bind (wpAny_bind (thn a3 fun v s8 ⟨z, H8, I8, r8, ys, e8, l8, n8⟩ => ?_))
      have a4 := mt_append _ s8 σ6 H8 (.ref D) [z] (.ref D) [v] (fun _ H9 => N σ6 H9) I8 rfl (.cons r8 .nil) ⟨D, ys, z, rfl, rfl, e8, l8, n8⟩
      rw [hx] at a4
      exact wpAny_bind (thn a4 fun _ s9 ⟨_, H9, I9, _, n9⟩ => wpAny_pure (wpAny_pure ⟨rfl, again I9 n9⟩))
theorem comp_back {N : List Str} {scope : Scope} {fp : List Addr} {σ' : St} {H' : Hp} {s' : Shared} {h' : Heap} (I : Inv X pins σ H s) (hf : ∀ b ∈ fp, FpOk X pins H b) (J : Inv (cxComp X N scope s H fp) [] σ' H' s') (sb : Heap.SameBut s.heap.objs.size s'.heap h') : Inv X pins σ H' { s' with heap := h' } := by
  have F : FpOk X pins H' s.heap.objs.size := I.fpOk (Nat.le_refl _) J.free
  have I1 : Inv X pins σ H' s' := I.call' J.os J.base J.hok J.bare fun b hb => ⟨(hf b hb).2.2.2.1, (hf b hb).2.1, (hf b hb).2.2.2.2.1, (hf b hb).2.2.2.2.2⟩
  exact I1.turned (t' := s'.toks) (fun b o hb e => (sb.2 b hb).trans e) F.1 F.2.1 F.2.2.2.1 F.2.2.2.2.1 F.2.2.2.2.2
theorem pe_comp {elt tg iter : Expr} {ifs : List Expr} {scope : Scope} {pos : Pos} {wi : TI} {g : TG} {tt : TT} {te : TE} (N : List Str) (caps : List (Option Nat)) (hc : X.calm = true) (hi : PI X tg iter wi) (hg : ∀ s H fp, PG (cxComp X N scope s H fp) tg g)
    (ht : ∀ s H fp, PIf (cxComp X N scope s H fp) ifs tt) (he : ∀ s H fp, PE (cxComp X N scope s H fp) elt te) (hk : scope.kind = .function) (hcell : ∀ y ∈ scope.names, y.2 ≠ .cell) (hnames : ∀ y ∈ scope.names, y.2 = .local → scope.names.lookup y.1 = some .local)
    (hfree : ∀ y ∈ scope.names, y.2 = .free → X.env.scope.names.lookup y.1 = some .cell ∨ X.env.scope.names.lookup y.1 = some .free) (hcap : capOk X.N X.env.scope scope N caps = true)
    (hs : ∀ x, foldedSetIterable iter X.env x = pure x) : PE X (.ListComp elt [⟨tg, iter, ifs, 0⟩] scope pos) (tComp caps wi g tt te) := by
  intro pins s σ H Q I h
  rw [eval_ListComp]
  refine wpAny_comprehension_free (use := none) rfl hs (closure_eq fun y hy e => I.ok.has y.1 (hfree y hy e)) hk hnames ?_
  refine thn (hi pins s σ H _ I h) fun v s1 h1 => thn h1 fun itv s2 h2 => ?_
  obtain ⟨it, fp, tn, J, H2, rfl, I2, T, st2, f2, q⟩ := h2
  have hD : H2 s2.heap.objs.size = none := I2.hok.fresh (Nat.le_refl _)
  refine wpAny_newObj_type (wpAny_newFunctionEnv hcell (by intro y hy; simp at hy) (fun h1 hns hsb => ?_) hk)
  obtain ⟨W, ⟨m0, w0⟩, turn⟩ := q s2.heap.objs.size hD
  have I3 : Inv X pins σ (upd H2 s2.heap.objs.size (.lst [])) { s2 with heap := s2.heap.push { cls := .type "list", dict := none, data := .seq ([] : List Value).toArray } } :=
    I2.laid (t' := s2.toks) (fun b u e => Heap.get?_push_of_some _ e) (Nat.le_refl _) ⟨Nat.zero_le _, [], 0, .nil, Heap.get?_push_size _ rfl⟩
  have lt : ∀ b ∈ fp, ∃ o, s2.heap.get? b = some o := fun b hb => let ⟨o, e, _⟩ := T.obj _ _ st2 b hb; ⟨o, e⟩
  have f3 : ∀ b ∈ fp, FpOk X pins (upd H2 s2.heap.objs.size (.lst [])) b := fun b hb => by
    obtain ⟨o, e⟩ := lt b hb
    exact ⟨by rw [upd_ne (Nat.ne_of_lt (Heap.lt_size e))]; exact (f2 b hb).1, (f2 b hb).2⟩
  have kp : ∀ b o, (s2.heap.push { cls := .type "list", dict := none, data := .seq ([] : List Value).toArray }).get? b = some o → h1.get? b = some o := fun b o e =>
    (hsb.2 b (Nat.ne_of_lt (Heap.lt_size e))).trans (Heap.get?_push_of_some _ e)
  have I4 := inv_comp (N := N) (h1 := h1) (tk := s2.toks + ([] : List (Str × Value)).length) I3 hk hcell hfree hcap f3 (fun b hb => let ⟨o, e⟩ := lt b hb; ⟨o, Heap.get?_push_of_some _ e⟩) hns kp
  have st4 : tn 0 h1 := T.keep 0 _ _ st2 fun b hb o e => kp b o (Heap.get?_push_of_some _ e)
  have f4 : ∀ b ∈ fp, FpOk (cxComp X N scope { s2 with heap := s2.heap.push { cls := .type "list", dict := none, data := .seq ([] : List Value).toArray } } (upd H2 s2.heap.objs.size (.lst [])) fp) [] (upd H2 s2.heap.objs.size (.lst [])) b := fun b hb =>
    ⟨(f3 b hb).1, (I4.ok.exf b hb).1, I4.ok.exfs b hb, .inl hb, (I4.ok.exf b hb).2, fun p hp => absurd (show p ∈ ([] : List (Addr × Obj)) from hp) (by simp)⟩
  have loop := comp_loop (elt := elt) (iter := iter) (ifs := ifs) (scope := scope) (pos := pos) (R := compPost (model X.prog X.w) X.A X.xe none (EP X pins σ Q) (.ref s2.heap.objs.size) (s2.heap.push { cls := .type "list", dict := none, data := .seq ([] : List Value).toArray }).objs.size)
    (Y := cxComp X N scope { s2 with heap := s2.heap.push { cls := .type "list", dict := none, data := .seq ([] : List Value).toArray } } (upd H2 s2.heap.objs.size (.lst [])) fp) rfl hc T (hg _ _ _) (ht _ _ _) (he _ _ _) turn (fun σ' H' s' I5 q5 => ?_) w0 I4 st4 f4
  · exact codeAny_compStart_list loop (T.self _ 0 _ _ _ st4 loop)
  · obtain ⟨m, hm, _⟩ := id I5.loc
    exact ⟨m, hm, fun h' hs' => ⟨.ref s2.heap.objs.size, H', comp_back I3 f3 I5 hs', rfl, q5⟩⟩
end
end L2

set_option Elab.async false
set_option linter.all false
set_option maxRecDepth 100000
set_option maxHeartbeats 4000000
namespace L2
open PySem PySem.Spec PyProof.Rows
section
variable {X : Cx} {pins : List (Addr × Obj)} {σ : St} {H : Hp} {s : Shared}
end
end L2

set_option Elab.async false
set_option linter.all false
set_option maxRecDepth 100000
set_option maxHeartbeats 4000000
namespace AL
open PySem PySem.Spec PyProof.Rows L2

noncomputable abbrev St := L2.St
inductive AV where
  | non
  | bl (b : Bool)
  | int (i : Int)
  | str (x : List Nat)
  | tup (xs : List AV)
  | loc (i : Nat)
noncomputable def nmTab : List Str := (["Mark", "Exact", "RowEnd", "Number", "Word", "Value", "Name", "Signs", "Closed", "FieldRow", "Fields", "Tally", "Body", "LengthBody", "RestBody", "PiecesBody", "PartsBody", "Frame", "LetterInHand", "Reader", "text", "goal", "base", "most", "room", "ends", "number", "mark", "closing", "is_closing", "book", "name", "head", "value", "pairs", "end", "row", "empty_row", "left", "signs", "texts", "size", "piece", "trail", "deep", "tally", "parts", "part", "fields", "body", "word", "frame", "kept", "letter", "taken", "taken_in_hand", "refused_at", "is_finished", "Post", "Desk", "at"] : List String).map Str.ofString
noncomputable def nmN : Nat := 61
noncomputable def strOf (n : Nat) : Str := nmTab.getD n Str.empty
inductive AO where
  | lst (xs : List AV)
  | fz (xs : List AV)
  | ins (C : Nat) (fs : List (Nat × AV))
noncomputable abbrev Mu := List AO
noncomputable abbrev Em := List Addr
noncomputable abbrev Ev := List (Option AV)
inductive Rs (α : Type) where
  | ok (a : α) (μ : Mu)
  | exc (C : Addr) (fs : List (Str × AV)) (μ : Mu)
  | no
noncomputable def Rs.bd {α β : Type} : Rs α → (α → Mu → Rs β) → Rs β
  | .ok a μ, k => k a μ
  | .exc C fs μ, _ => .exc C fs μ
  | .no, _ => .no
@[simp] theorem Rs.bd_ok {α β : Type} (a : α) (μ : Mu) (k : α → Mu → Rs β) : (Rs.ok a μ).bd k = k a μ := (rfl)
@[simp] theorem Rs.bd_no {α β : Type} (k : α → Mu → Rs β) : (Rs.no : Rs α).bd k = .no := (rfl)
@[simp] theorem Rs.bd_exc {α β : Type} (C : Addr) (fs) (μ : Mu) (k : α → Mu → Rs β) : (Rs.exc C fs μ : Rs α).bd k = .exc C fs μ := (rfl)

noncomputable def LIM : Nat := 16777216
theorem LIM_eq : LIM = sizeLine := sizeLine_eq.symm

mutual
noncomputable def Rp (K : PySem.W.Frag) (em : Em) (H : Hp) : AV → V → Prop
  | .non, v => v = .non
  | .bl b, v => v = .bl b
  | .int i, v => v = .int i
  | .str x, v => v = .str ⟨x.toArray⟩
  | .loc i, v => ∃ a, em[i]? = some a ∧ v = .ref a
  | .tup ds, v => ∃ a xs, v = .ref a ∧ SqT K H a xs ∧ RpL K em H ds xs
noncomputable def RpL (K : PySem.W.Frag) (em : Em) (H : Hp) : List AV → List V → Prop
  | [], xs => xs = []
  | d :: ds, xs => ∃ x r, xs = x :: r ∧ Rp K em H d x ∧ RpL K em H ds r
end

theorem pre_get {α : Type} {l l' : List α} (p : l <+: l') {i : Nat} {a : α} (e : l[i]? = some a) : l'[i]? = some a := by
  obtain ⟨t, rfl⟩ := p
  have h : i < l.length := (List.getElem?_eq_some_iff.mp e).1
  rw [List.getElem?_append_left h]
  exact e

noncomputable def Ext (K : PySem.W.Frag) (H H' : Hp) : Prop := ∀ a xs, SqT K H a xs → SqT K H' a xs
theorem Ext.refl {K : PySem.W.Frag} {H : Hp} : Ext K H H := fun _ _ h => h
theorem Ext.trans {K : PySem.W.Frag} {H H1 H2 : Hp} (a : Ext K H H1) (b : Ext K H1 H2) : Ext K H H2 := fun c xs h => b c xs (a c xs h)

section
variable {K : PySem.W.Frag} {em em' : Em} {H H' : Hp}
mutual
theorem Rp.mono' (p : em <+: em') (x : Ext K H H') : ∀ (d : AV) {v : V}, Rp K em H d v → Rp K em' H' d v
  | .non, _, h => by simp only [Rp] at h ⊢; exact h
  | .bl _, _, h => by simp only [Rp] at h ⊢; exact h
  | .int _, _, h => by simp only [Rp] at h ⊢; exact h
  | .str _, _, h => by simp only [Rp] at h ⊢; exact h
  | .loc i, _, h => by
    simp only [Rp] at h ⊢
    obtain ⟨a, e, q⟩ := h
    exact ⟨a, pre_get p e, q⟩
  | .tup ds, _, h => by
    simp only [Rp] at h ⊢
    obtain ⟨a, xs, q, hq, r⟩ := h
    exact ⟨a, xs, q, x _ _ hq, RpL.mono' p x ds r⟩
theorem RpL.mono' (p : em <+: em') (x : Ext K H H') : ∀ (ds : List AV) {xs : List V}, RpL K em H ds xs → RpL K em' H' ds xs
  | [], _, h => by simp only [RpL] at h ⊢; exact h
  | d :: ds, _, h => by
    simp only [RpL] at h ⊢
    obtain ⟨y, r, q, h1, h2⟩ := h
    exact ⟨y, r, q, Rp.mono' p x d h1, RpL.mono' p x ds h2⟩
end
theorem Rp.mono {d : AV} {v : V} (h : Rp K em H d v) (p : em <+: em') (x : Ext K H H') : Rp K em' H' d v := Rp.mono' p x d h
theorem RpL.mono {ds : List AV} {xs : List V} (h : RpL K em H ds xs) (p : em <+: em') (x : Ext K H H') : RpL K em' H' ds xs := RpL.mono' p x ds h

theorem RpL.nil : RpL K em H [] [] := by simp only [RpL]
theorem RpL.cons {d : AV} {ds : List AV} {x : V} {xs : List V} (h : Rp K em H d x) (t : RpL K em H ds xs) : RpL K em H (d :: ds) (x :: xs) := by
  simp only [RpL]
  exact ⟨x, xs, rfl, h, t⟩
theorem RpL.uncons {d : AV} {ds : List AV} {xs : List V} (h : RpL K em H (d :: ds) xs) : ∃ x r, xs = x :: r ∧ Rp K em H d x ∧ RpL K em H ds r := by
  simp only [RpL] at h
  exact h
theorem RpL.unnil {xs : List V} (h : RpL K em H [] xs) : xs = [] := by
  simp only [RpL] at h
  exact h
theorem RpL.length : ∀ {ds : List AV} {xs : List V}, RpL K em H ds xs → xs.length = ds.length
  | [], _, h => by rw [h.unnil]; rfl
  | d :: ds, _, h => by
    obtain ⟨x, r, rfl, _, t⟩ := h.uncons
    simp [t.length]
theorem RpL.get : ∀ {ds : List AV} {xs : List V} {i : Nat} {d : AV}, RpL K em H ds xs → ds[i]? = some d → ∃ x, xs[i]? = some x ∧ Rp K em H d x
  | [], _, _, _, _, e => by simp at e
  | d :: ds, _, 0, _, h, e => by
    obtain ⟨x, r, rfl, h1, t⟩ := h.uncons
    simp at e
    subst e
    exact ⟨x, rfl, h1⟩
  | d :: ds, _, i + 1, _, h, e => by
    obtain ⟨x, r, rfl, h1, t⟩ := h.uncons
    exact RpL.get (i := i) t (by simpa using e)
theorem RpL.append : ∀ {ds es : List AV} {xs ys : List V}, RpL K em H ds xs → RpL K em H es ys → RpL K em H (ds ++ es) (xs ++ ys)
  | [], _, _, _, h, g => by
    rw [h.unnil]
    exact g
  | d :: ds, _, _, _, h, g => by
    obtain ⟨x, r, rfl, h1, t⟩ := h.uncons
    exact RpL.cons h1 (RpL.append t g)
theorem RpL.take : ∀ {ds : List AV} {xs : List V} (n : Nat), RpL K em H ds xs → RpL K em H (ds.take n) (xs.take n)
  | _, _, 0, _ => by simpa using RpL.nil
  | [], _, n + 1, h => by
    rw [h.unnil]
    simpa using RpL.nil
  | d :: ds, _, n + 1, h => by
    obtain ⟨x, r, rfl, h1, t⟩ := h.uncons
    simpa using RpL.cons h1 (RpL.take n t)
theorem RpL.drop : ∀ {ds : List AV} {xs : List V} (n : Nat), RpL K em H ds xs → RpL K em H (ds.drop n) (xs.drop n)
  | _, _, 0, h => by simpa using h
  | [], _, n + 1, h => by
    rw [h.unnil]
    simpa using RpL.nil
  | d :: ds, _, n + 1, h => by
    obtain ⟨x, r, rfl, h1, t⟩ := h.uncons
    simpa using RpL.drop n t
end

noncomputable def Frz (K : PySem.W.Frag) (H : Hp) (a : Addr) (xs : List V) : Prop :=
  (∃ o, H a = some (.frz o (.lst xs))) ∨
    ∃ (o : Obj) (its : Array Value) (n : Nat), K.lookup a = some o ∧ o.cls = .type "list" ∧ o.dict = none ∧ o.data = .seq its n ∧ its.size ≤ sizeLine ∧ Vals xs its.toList
theorem Frz.sq {K : PySem.W.Frag} {H : Hp} {a : Addr} {xs : List V} (h : Frz K H a xs) : SqL K H a xs := by
  rcases h with ⟨o, h⟩ | h
  · exact .inl (.inr ⟨o, h⟩)
  · exact .inr h
noncomputable def AO.mut : AO → Bool
  | .lst _ => true
  | .fz _ => false
  | .ins _ _ => true
structure InsOk (K : PySem.W.Frag) (C : Nat) (A : Addr) (fs : List (Nat × AV)) : Prop where
  ns : PySem.W.nsIn K mainGlobals (strOf C) = some (some (.ref A))
  cls : Cls K A
  at_ : ∀ p ∈ fs, p.1 < nmN ∧ NoAttr K A (strOf p.1)
noncomputable def OpRp (K : PySem.W.Frag) (em : Em) (H : Hp) (a : Addr) : AO → Prop
  | .lst ds => ∃ xs, H a = some (.lst xs) ∧ RpL K em H ds xs
  | .fz ds => ∃ xs, Frz K H a xs ∧ RpL K em H ds xs
  | .ins C fs => ∃ A dx xs, H a = some (.ins A dx xs) ∧ InsOk K C A fs ∧ xs.map (·.1) = fs.map (fun p => strOf p.1) ∧ RpL K em H (fs.map (·.2)) (xs.map (·.2))
structure RpSt (K : PySem.W.Frag) (em : Em) (μ : Mu) (H : Hp) : Prop where
  len : em.length = μ.length
  inj : ∀ (i j : Nat) (a : Addr) (oi oj : AO), em[i]? = some a → em[j]? = some a → μ[i]? = some oi → μ[j]? = some oj → oi.mut = true → oj.mut = true → i = j
  obj : ∀ (i : Nat) (a : Addr) (o : AO), em[i]? = some a → μ[i]? = some o → OpRp K em H a o
noncomputable def RpEnv (K : PySem.W.Frag) (em : Em) (H : Hp) (ρ : Ev) (σ : St) : Prop :=
  ρ.length = σ.length ∧ ∀ (i : Nat) (d : AV), ρ[i]? = some (some d) → ∃ v, σ[i]? = some (some v) ∧ Rp K em H d v

section
variable {K : PySem.W.Frag} {em em' : Em} {H H' : Hp} {μ : Mu} {ρ : Ev} {σ : St}
theorem RpEnv.mono (h : RpEnv K em H ρ σ) (p : em <+: em') (x : Ext K H H') : RpEnv K em' H' ρ σ :=
  ⟨h.1, fun i d e => let ⟨v, e', r⟩ := h.2 i d e; ⟨v, e', r.mono p x⟩⟩
theorem RpEnv.set (h : RpEnv K em H ρ σ) {d : AV} {v : V} (r : Rp K em H d v) (i : Nat) : RpEnv K em H (ρ.set i (some d)) (σ.set i (some v)) := by
  refine ⟨by simp [h.1], fun j e hj => ?_⟩
  by_cases hij : i = j
  · subst hij
    rw [List.getElem?_set_self'] at hj
    cases hr : ρ[i]? with
    | none => rw [hr] at hj; simp at hj
    | some o =>
      rw [hr] at hj
      simp at hj
      subst hj
      have hl : i < ρ.length := (List.getElem?_eq_some_iff.mp hr).1
      exact ⟨v, by rw [List.getElem?_set_self (by rw [← h.1]; exact hl)], r⟩
  · rw [List.getElem?_set_ne hij] at hj
    obtain ⟨w, e', r'⟩ := h.2 j e hj
    exact ⟨w, by rw [List.getElem?_set_ne hij]; exact e', r'⟩
theorem Ext.fresh {p : Addr} {o : HO} (h : H p = none) : Ext K H (upd H p o) := fun a xs q => by
  rcases q with q | q
  · have hne : a ≠ p := by
      rintro rfl
      rcases q with q | ⟨ob, q⟩ <;> rw [h] at q <;> cases q
    refine .inl ?_
    rcases q with q | ⟨ob, q⟩
    · exact .inl (by rw [upd_ne hne]; exact q)
    · exact .inr ⟨ob, by rw [upd_ne hne]; exact q⟩
  · exact .inr q
theorem Ext.write {p : Addr} {o : HO} (m : Mut (H p)) : Ext K H (upd H p o) := fun a xs q => by
  rcases q with q | q
  · have hne : a ≠ p := by
      rintro rfl
      rcases q with q | ⟨ob, q⟩ <;> rw [q] at m <;> exact m
    refine .inl ?_
    rcases q with q | ⟨ob, q⟩
    · exact .inl (by rw [upd_ne hne]; exact q)
    · exact .inr ⟨ob, by rw [upd_ne hne]; exact q⟩
  · exact .inr q
theorem OpRp.other {a p : Addr} {o : AO} {u : HO} (h : OpRp K em H a o) (pe : em <+: em') (x : Ext K H (upd H p u)) (hne : o.mut = true → a ≠ p) (hf : H p = none ∨ Mut (H p)) : OpRp K em' (upd H p u) a o := by
  cases o with
  | lst ds =>
    obtain ⟨xs, e, r⟩ := h
    exact ⟨xs, by rw [upd_ne (hne rfl)]; exact e, r.mono pe x⟩
  | fz ds =>
    obtain ⟨xs, e, r⟩ := h
    refine ⟨xs, ?_, r.mono pe x⟩
    rcases e with ⟨ob, e⟩ | e
    · have : a ≠ p := by
        rintro rfl
        rcases hf with hf | hf
        · rw [e] at hf; cases hf
        · rw [e] at hf; exact hf
      exact .inl ⟨ob, by rw [upd_ne this]; exact e⟩
    · exact .inr e
  | ins C fs =>
    obtain ⟨A, dx, xs, e, q, k, r⟩ := h
    exact ⟨A, dx, xs, by rw [upd_ne (hne rfl)]; exact e, q, k, r.mono pe x⟩
theorem OpRp.live {a : Addr} {o : AO} (h : OpRp K em H a o) (m : o.mut = true) : H a ≠ none ∧ Mut (H a) := by
  cases o with
  | lst ds => obtain ⟨xs, e, _⟩ := h; rw [e]; exact ⟨by simp, trivial⟩
  | fz ds => exact absurd (show false = true from m) Bool.false_ne_true
  | ins C fs => obtain ⟨A, dx, xs, e, _⟩ := h; rw [e]; exact ⟨by simp, trivial⟩
theorem RpSt.newL {p : Addr} {ds : List AV} {xs : List V} (S : RpSt K em μ H) (h : H p = none) (r : RpL K em H ds xs) :
    RpSt K (em ++ [p]) (μ ++ [.lst ds]) (upd H p (.lst xs)) ∧ Rp K (em ++ [p]) (upd H p (.lst xs)) (.loc μ.length) (.ref p) := by
  have pe : em <+: em ++ [p] := List.prefix_append _ _
  have x : Ext K H (upd H p (.lst xs)) := Ext.fresh h
  have old : ∀ (i : Nat) (a : Addr) (o : AO), i < em.length → (em ++ [p])[i]? = some a → (μ ++ [AO.lst ds])[i]? = some o → em[i]? = some a ∧ μ[i]? = some o := fun i a o hi h1 h2 => by
    rw [List.getElem?_append_left hi] at h1
    rw [List.getElem?_append_left (by rw [← S.len]; exact hi)] at h2
    exact ⟨h1, h2⟩
  have new : ∀ (i : Nat) (a : Addr), ¬ i < em.length → (em ++ [p])[i]? = some a → i = em.length ∧ a = p := fun i a hi h1 => by
    rw [List.getElem?_append_right (by omega)] at h1
    have h2 : i - em.length = 0 := by
      rcases Nat.eq_zero_or_pos (i - em.length) with z | z
      · exact z
      · rw [List.getElem?_eq_none (show [p].length ≤ i - em.length from z)] at h1; cases h1
    rw [h2] at h1
    simp at h1
    exact ⟨by omega, h1.symm⟩
  refine ⟨⟨by simp [S.len], fun i j a oi oj h1 h2 h3 h4 m1 m2 => ?_, fun i a o h1 h2 => ?_⟩, ?_⟩
  · by_cases hi : i < em.length
    · obtain ⟨e1, e3⟩ := old i a oi hi h1 h3
      by_cases hj : j < em.length
      · obtain ⟨e2, e4⟩ := old j a oj hj h2 h4
        exact S.inj i j a oi oj e1 e2 e3 e4 m1 m2
      · obtain ⟨_, rfl⟩ := new j a hj h2
        exact absurd h ((S.obj i _ oi e1 e3).live m1).1
    · obtain ⟨hi', rfl⟩ := new i a hi h1
      by_cases hj : j < em.length
      · obtain ⟨e2, e4⟩ := old j _ oj hj h2 h4
        exact absurd h ((S.obj j _ oj e2 e4).live m2).1
      · obtain ⟨hj', _⟩ := new j _ hj h2
        omega
  · by_cases hi : i < em.length
    · obtain ⟨e1, e2⟩ := old i a o hi h1 h2
      have q := S.obj i a o e1 e2
      exact q.other pe x (fun m => by rintro rfl; exact (q.live m).1 h) (.inl h)
    · obtain ⟨hi', rfl⟩ := new i a hi h1
      rw [hi', S.len, List.getElem?_append_right (Nat.le_refl _)] at h2
      simp at h2
      subst h2
      exact ⟨xs, upd_same, r.mono pe x⟩
  · simp only [Rp]
    exact ⟨p, by rw [← S.len]; simp, rfl⟩
theorem RpSt.newT {p : Addr} {ds : List AV} {xs : List V} (S : RpSt K em μ H) (h : H p = none) (r : RpL K em H ds xs) :
    RpSt K em μ (upd H p (.tup xs)) ∧ Rp K em (upd H p (.tup xs)) (.tup ds) (.ref p) := by
  have x : Ext K H (upd H p (.tup xs)) := Ext.fresh h
  refine ⟨⟨S.len, S.inj, fun i a o h1 h2 => ?_⟩, ?_⟩
  · have q := S.obj i a o h1 h2
    exact q.other (List.prefix_refl _) x (fun m => by rintro rfl; exact (q.live m).1 h) (.inl h)
  · simp only [Rp]
    exact ⟨p, xs, rfl, SqT.of upd_same, r.mono (List.prefix_refl _) x⟩
theorem RpSt.setL {i : Nat} {a : Addr} {ds ds' : List AV} {xs' : List V} (S : RpSt K em μ H) (ea : em[i]? = some a) (eo : μ[i]? = some (.lst ds)) (r : RpL K em H ds' xs') :
    RpSt K em (μ.set i (.lst ds')) (upd H a (.lst xs')) ∧ Ext K H (upd H a (.lst xs')) := by
  obtain ⟨xs, hx, _⟩ := S.obj i a _ ea eo
  have m : Mut (H a) := by rw [hx]; trivial
  have x : Ext K H (upd H a (.lst xs')) := Ext.write m
  have key : ∀ (j : Nat) (o : AO), (μ.set i (.lst ds'))[j]? = some o → (j = i ∧ o = .lst ds') ∨ (j ≠ i ∧ μ[j]? = some o) := fun j o h => by
    by_cases hj : i = j
    · subst hj
      rw [List.getElem?_set_self (List.getElem?_eq_some_iff.mp eo).1] at h
      exact .inl ⟨rfl, (Option.some.inj h).symm⟩
    · rw [List.getElem?_set_ne hj] at h
      exact .inr ⟨fun z => hj z.symm, h⟩
  refine ⟨⟨by simp [S.len], fun j k b oj ok h1 h2 h3 h4 m1 m2 => ?_, fun j b o h1 h2 => ?_⟩, x⟩
  · have old : ∀ (j : Nat) (o : AO), (μ.set i (.lst ds'))[j]? = some o → o.mut = true → ∃ o', μ[j]? = some o' ∧ o'.mut = true := fun j o h mm => by
      rcases key j o h with ⟨rfl, _⟩ | ⟨_, h⟩
      · exact ⟨_, eo, rfl⟩
      · exact ⟨o, h, mm⟩
    obtain ⟨o1, e1, q1⟩ := old j oj h3 m1
    obtain ⟨o2, e2, q2⟩ := old k ok h4 m2
    exact S.inj j k b o1 o2 h1 h2 e1 e2 q1 q2
  · rcases key j o h2 with ⟨rfl, rfl⟩ | ⟨hj, h2⟩
    · rw [ea] at h1
      cases h1
      exact ⟨xs', upd_same, r.mono (List.prefix_refl _) x⟩
    · have q := S.obj j b o h1 h2
      exact q.other (List.prefix_refl _) x (fun mm => by
        rintro rfl
        exact hj (S.inj j i _ o _ h1 ea h2 eo mm rfl)) (.inr m)
theorem RpSt.newO {p : Addr} {o : AO} {u : HO} (S : RpSt K em μ H) (h : H p = none) (new : OpRp K (em ++ [p]) (upd H p u) p o) :
    RpSt K (em ++ [p]) (μ ++ [o]) (upd H p u) ∧ Rp K (em ++ [p]) (upd H p u) (.loc μ.length) (.ref p) := by
  have pe : em <+: em ++ [p] := List.prefix_append _ _
  have x : Ext K H (upd H p u) := Ext.fresh h
  have old : ∀ (i : Nat) (a : Addr) (o' : AO), i < em.length → (em ++ [p])[i]? = some a → (μ ++ [o])[i]? = some o' → em[i]? = some a ∧ μ[i]? = some o' := fun i a o' hi h1 h2 => by
    rw [List.getElem?_append_left hi] at h1
    rw [List.getElem?_append_left (by rw [← S.len]; exact hi)] at h2
    exact ⟨h1, h2⟩
  have nw : ∀ (i : Nat) (a : Addr), ¬ i < em.length → (em ++ [p])[i]? = some a → i = em.length ∧ a = p := fun i a hi h1 => by
    rw [List.getElem?_append_right (by omega)] at h1
    have h2 : i - em.length = 0 := by
      rcases Nat.eq_zero_or_pos (i - em.length) with z | z
      · exact z
      · rw [List.getElem?_eq_none (show [p].length ≤ i - em.length from z)] at h1; cases h1
    rw [h2] at h1
    simp at h1
    exact ⟨by omega, h1.symm⟩
  refine ⟨⟨by simp [S.len], fun i j a oi oj h1 h2 h3 h4 m1 m2 => ?_, fun i a o' h1 h2 => ?_⟩, ?_⟩
  · by_cases hi : i < em.length
    · obtain ⟨e1, e3⟩ := old i a oi hi h1 h3
      by_cases hj : j < em.length
      · obtain ⟨e2, e4⟩ := old j a oj hj h2 h4
        exact S.inj i j a oi oj e1 e2 e3 e4 m1 m2
      · obtain ⟨_, rfl⟩ := nw j a hj h2
        exact absurd h ((S.obj i _ oi e1 e3).live m1).1
    · obtain ⟨hi', rfl⟩ := nw i a hi h1
      by_cases hj : j < em.length
      · obtain ⟨e2, e4⟩ := old j _ oj hj h2 h4
        exact absurd h ((S.obj j _ oj e2 e4).live m2).1
      · obtain ⟨hj', _⟩ := nw j _ hj h2
        omega
  · by_cases hi : i < em.length
    · obtain ⟨e1, e2⟩ := old i a o' hi h1 h2
      have q := S.obj i a o' e1 e2
      exact q.other pe x (fun m => by rintro rfl; exact (q.live m).1 h) (.inl h)
    · obtain ⟨hi', rfl⟩ := nw i a hi h1
      rw [hi', S.len, List.getElem?_append_right (Nat.le_refl _)] at h2
      simp at h2
      subst h2
      exact new
  · simp only [Rp]
    exact ⟨p, by rw [← S.len]; simp, rfl⟩
theorem RpSt.lay {p : Addr} {u : HO} (S : RpSt K em μ H) (h : H p = none) : RpSt K em μ (upd H p u) := by
  have x : Ext K H (upd H p u) := Ext.fresh h
  refine ⟨S.len, S.inj, fun i a o h1 h2 => ?_⟩
  have q := S.obj i a o h1 h2
  exact q.other (List.prefix_refl _) x (fun m => by rintro rfl; exact (q.live m).1 h) (.inl h)
theorem RpSt.setO {i : Nat} {a : Addr} {o o' : AO} {u : HO} (S : RpSt K em μ H) (ea : em[i]? = some a) (eo : μ[i]? = some o) (mo : o.mut = true) (new : Ext K H (upd H a u) → OpRp K em (upd H a u) a o') :
    RpSt K em (μ.set i o') (upd H a u) ∧ Ext K H (upd H a u) := by
  have m : Mut (H a) := ((S.obj i a _ ea eo).live mo).2
  have x : Ext K H (upd H a u) := Ext.write m
  have key : ∀ (j : Nat) (oj : AO), (μ.set i o')[j]? = some oj → (j = i ∧ oj = o') ∨ (j ≠ i ∧ μ[j]? = some oj) := fun j oj h => by
    by_cases hj : i = j
    · subst hj
      rw [List.getElem?_set_self (List.getElem?_eq_some_iff.mp eo).1] at h
      exact .inl ⟨rfl, (Option.some.inj h).symm⟩
    · rw [List.getElem?_set_ne hj] at h
      exact .inr ⟨fun z => hj z.symm, h⟩
  refine ⟨⟨by simp [S.len], fun j k b oj ok h1 h2 h3 h4 m1 m2 => ?_, fun j b oj h1 h2 => ?_⟩, x⟩
  · have old : ∀ (j : Nat) (oj : AO), (μ.set i o')[j]? = some oj → oj.mut = true → ∃ ob, μ[j]? = some ob ∧ ob.mut = true := fun j oj h mm => by
      rcases key j oj h with ⟨rfl, _⟩ | ⟨_, h⟩
      · exact ⟨_, eo, mo⟩
      · exact ⟨oj, h, mm⟩
    obtain ⟨o1, e1, q1⟩ := old j oj h3 m1
    obtain ⟨o2, e2, q2⟩ := old k ok h4 m2
    exact S.inj j k b o1 o2 h1 h2 e1 e2 q1 q2
  · rcases key j oj h2 with ⟨rfl, rfl⟩ | ⟨hj, h2⟩
    · rw [ea] at h1
      cases h1
      exact new x
    · have q := S.obj j b oj h1 h2
      exact q.other (List.prefix_refl _) x (fun mm => by
        rintro rfl
        exact hj (S.inj j i _ oj _ h1 ea h2 eo mm mo)) (.inr m)
end

noncomputable def Aft (K : PySem.W.Frag) (em : Em) (H : Hp) (r : Rs AV) (Q : VK) : Prop :=
  match r with
  | .ok d μ' => ∀ (em' : Em) (H' : Hp) (v : V), em <+: em' → Ext K H H' → RpSt K em' μ' H' → Rp K em' H' d v → Q v H'
  | _ => False
noncomputable abbrev FE := Ev → Mu → Rs AV
noncomputable def tA (X : Cx) (f : FE) : TE := fun σ H Q => ∃ ρ μ em, RpEnv X.K em H ρ σ ∧ RpSt X.K em μ H ∧ Aft X.K em H (f ρ μ) Q
noncomputable def AE (X : Cx) (e : Expr) (f : FE) : Prop := PE X e (tA X f)
noncomputable def AftL (K : PySem.W.Frag) (em : Em) (H : Hp) (r : Rs (List AV)) (Q : List V → Hp → Prop) : Prop :=
  match r with
  | .ok ds μ' => ∀ (em' : Em) (H' : Hp) (vs : List V), em <+: em' → Ext K H H' → RpSt K em' μ' H' → RpL K em' H' ds vs → Q vs H'
  | _ => False
noncomputable abbrev FL := Ev → Mu → Rs (List AV)
noncomputable def tAL (X : Cx) (f : FL) : TA := fun σ H Q => ∃ ρ μ em, RpEnv X.K em H ρ σ ∧ RpSt X.K em μ H ∧ AftL X.K em H (f ρ μ) Q
noncomputable def AA (X : Cx) (es : List Expr) (f : FL) : Prop := PA X es (tAL X f)
noncomputable def AftB (K : PySem.W.Frag) (em : Em) (H : Hp) (r : Rs Bool) (Q : Bool → Hp → Prop) : Prop :=
  match r with
  | .ok b μ' => ∀ (em' : Em) (H' : Hp), em <+: em' → Ext K H H' → RpSt K em' μ' H' → Q b H'
  | _ => False
noncomputable abbrev FB := Ev → Mu → Rs Bool
noncomputable def tAB (X : Cx) (f : FB) : TT := fun σ H Q => ∃ ρ μ em, RpEnv X.K em H ρ σ ∧ RpSt X.K em μ H ∧ AftB X.K em H (f ρ μ) Q
noncomputable def AT (X : Cx) (e : Expr) (f : FB) : Prop := PT X e (tAB X f)
noncomputable def AW (X : Cx) (e : Expr) (f : FB) : Prop := PW X e (tAB X f)

section
variable {K : PySem.W.Frag} {em em1 : Em} {H H1 : Hp} {μ : Mu} {ρ : Ev} {σ : St} {X : Cx}
theorem Aft.mono {r : Rs AV} {Q : VK} (h : Aft K em H r Q) (p : em <+: em1) (x : Ext K H H1) : Aft K em1 H1 r Q := by
  cases r with
  | ok d μ' => exact fun em' H' v p' x' => h em' H' v (p.trans p') (x.trans x')
  | exc C fs μ' => exact h
  | no => exact h
theorem AftL.mono {r : Rs (List AV)} {Q : List V → Hp → Prop} (h : AftL K em H r Q) (p : em <+: em1) (x : Ext K H H1) : AftL K em1 H1 r Q := by
  cases r with
  | ok d μ' => exact fun em' H' v p' x' => h em' H' v (p.trans p') (x.trans x')
  | exc C fs μ' => exact h
  | no => exact h
theorem AftB.mono {r : Rs Bool} {Q : Bool → Hp → Prop} (h : AftB K em H r Q) (p : em <+: em1) (x : Ext K H H1) : AftB K em1 H1 r Q := by
  cases r with
  | ok d μ' => exact fun em' H' p' x' => h em' H' (p.trans p') (x.trans x')
  | exc C fs μ' => exact h
  | no => exact h
structure Mid (K : PySem.W.Frag) (em : Em) (H : Hp) (ρ : Ev) (σ : St) (em1 : Em) (μ1 : Mu) (H1 : Hp) : Prop where
  p : em <+: em1
  x : Ext K H H1
  E : RpEnv K em1 H1 ρ σ
  S : RpSt K em1 μ1 H1
theorem step {f : FE} {α : Type} {k : AV → Mu → Rs α} {P : Em → Hp → Rs α → Prop} (hP : ∀ {em H em1 H1 r}, P em H r → em <+: em1 → Ext X.K H H1 → P em1 H1 r)
    (hno : ∀ {em H}, ¬ P em H .no) (hex : ∀ {em H C fs μ}, ¬ P em H (.exc C fs μ))
    (E : RpEnv X.K em H ρ σ) (S : RpSt X.K em μ H) (h : P em H ((f ρ μ).bd k)) :
    tA X f σ H fun v H1 => ∃ em1 d μ1, Mid X.K em H ρ σ em1 μ1 H1 ∧ Rp X.K em1 H1 d v ∧ P em1 H1 (k d μ1) := by
  refine ⟨ρ, μ, em, E, S, ?_⟩
  cases e : f ρ μ with
  | ok d μ1 =>
    rw [e] at h
    exact fun em1 H1 v p x S1 r => ⟨em1, d, μ1, ⟨p, x, E.mono p x, S1⟩, r, hP h p x⟩
  | exc C fs μ1 => rw [e] at h; exact (hex h).elim
  | no => rw [e] at h; exact (hno h).elim
theorem step_e {f : FE} {k : AV → Mu → Rs AV} {Q : VK} (E : RpEnv X.K em H ρ σ) (S : RpSt X.K em μ H) (h : Aft X.K em H ((f ρ μ).bd k) Q) :
    tA X f σ H fun v H1 => ∃ em1 d μ1, Mid X.K em H ρ σ em1 μ1 H1 ∧ Rp X.K em1 H1 d v ∧ Aft X.K em1 H1 (k d μ1) Q :=
  step (P := fun em H r => Aft X.K em H r Q) (fun h p x => h.mono p x) (fun h => h) (fun h => h) E S h
theorem step_l {f : FE} {k : AV → Mu → Rs (List AV)} {Q : List V → Hp → Prop} (E : RpEnv X.K em H ρ σ) (S : RpSt X.K em μ H) (h : AftL X.K em H ((f ρ μ).bd k) Q) :
    tA X f σ H fun v H1 => ∃ em1 d μ1, Mid X.K em H ρ σ em1 μ1 H1 ∧ Rp X.K em1 H1 d v ∧ AftL X.K em1 H1 (k d μ1) Q :=
  step (P := fun em H r => AftL X.K em H r Q) (fun h p x => h.mono p x) (fun h => h) (fun h => h) E S h
theorem step_b {f : FE} {k : AV → Mu → Rs Bool} {Q : Bool → Hp → Prop} (E : RpEnv X.K em H ρ σ) (S : RpSt X.K em μ H) (h : AftB X.K em H ((f ρ μ).bd k) Q) :
    tA X f σ H fun v H1 => ∃ em1 d μ1, Mid X.K em H ρ σ em1 μ1 H1 ∧ Rp X.K em1 H1 d v ∧ AftB X.K em1 H1 (k d μ1) Q :=
  step (P := fun em H r => AftB X.K em H r Q) (fun h p x => h.mono p x) (fun h => h) (fun h => h) E S h
theorem steps {f : FL} {k : List AV → Mu → Rs AV} {Q : VK} (E : RpEnv X.K em H ρ σ) (S : RpSt X.K em μ H) (h : Aft X.K em H ((f ρ μ).bd k) Q) :
    tAL X f σ H fun vs H1 => ∃ em1 ds μ1, Mid X.K em H ρ σ em1 μ1 H1 ∧ RpL X.K em1 H1 ds vs ∧ Aft X.K em1 H1 (k ds μ1) Q := by
  refine ⟨ρ, μ, em, E, S, ?_⟩
  cases e : f ρ μ with
  | ok d μ1 =>
    rw [e] at h
    exact fun em1 H1 v p x S1 r => ⟨em1, d, μ1, ⟨p, x, E.mono p x, S1⟩, r, h.mono p x⟩
  | exc C fs μ1 => rw [e] at h; exact h.elim
  | no => rw [e] at h; exact h.elim
theorem stepB {α : Type} {f : FB} {k : Bool → Mu → Rs α} {P : Em → Hp → Rs α → Prop} (hP : ∀ {em H em1 H1 r}, P em H r → em <+: em1 → Ext X.K H H1 → P em1 H1 r)
    (hno : ∀ {em H}, ¬ P em H .no) (hex : ∀ {em H C fs μ}, ¬ P em H (.exc C fs μ))
    (E : RpEnv X.K em H ρ σ) (S : RpSt X.K em μ H) (h : P em H ((f ρ μ).bd k)) :
    tAB X f σ H fun b H1 => ∃ em1 μ1, Mid X.K em H ρ σ em1 μ1 H1 ∧ P em1 H1 (k b μ1) := by
  refine ⟨ρ, μ, em, E, S, ?_⟩
  cases e : f ρ μ with
  | ok d μ1 =>
    rw [e] at h
    exact fun em1 H1 p x S1 => ⟨em1, μ1, ⟨p, x, E.mono p x, S1⟩, hP h p x⟩
  | exc C fs μ1 => rw [e] at h; exact (hex h).elim
  | no => rw [e] at h; exact (hno h).elim
end

theorem PE.imp {X : Cx} {e : Expr} {t t' : TE} (h : PE X e t) (i : ∀ σ H Q, t' σ H Q → t σ H Q) : PE X e t' := fun pins s σ H Q I q => h pins s σ H Q I (i σ H Q q)
theorem PA.imp {X : Cx} {es : List Expr} {t t' : TA} (h : PA X es t) (i : ∀ σ H Q, t' σ H Q → t σ H Q) : PA X es t' := fun pos pins s σ H Q I q => h pos pins s σ H Q I (i σ H Q q)
theorem PT.imp {X : Cx} {e : Expr} {t t' : TT} (h : PT X e t) (i : ∀ σ H Q, t' σ H Q → t σ H Q) : PT X e t' := fun pins s σ H Q I q => h pins s σ H Q I (i σ H Q q)
theorem PW.imp {X : Cx} {e : Expr} {t t' : TT} (h : PW X e t) (i : ∀ σ H Q, t' σ H Q → t σ H Q) : PW X e t' := fun whole pins s σ H Q I q => h whole pins s σ H Q I (i σ H Q q)
theorem PS.imp {X : Cx} {e : Stmt} {t t' : TS} (h : PS X e t) (i : ∀ D σ H, t' D σ H → t D σ H) : PS X e t' := fun pins s σ H D I q => h pins s σ H D I (i D σ H q)
theorem PSs.imp {X : Cx} {e : List Stmt} {t t' : TS} (h : PSs X e t) (i : ∀ D σ H, t' D σ H → t D σ H) : PSs X e t' := fun pins s σ H D I q => h pins s σ H D I (i D σ H q)
end AL

set_option Elab.async false
set_option linter.all false
set_option maxRecDepth 100000
set_option maxHeartbeats 4000000
namespace AL
open PySem PySem.Spec PyProof.Rows L2

section
variable {X : Cx} {pos : Pos} {σ : St} {H : Hp}
theorem Aft.imp {K : PySem.W.Frag} {em : Em} {r : Rs AV} {Q Q' : VK} (h : Aft K em H r Q) (i : ∀ v H, Q v H → Q' v H) : Aft K em H r Q' := by
  cases r with
  | ok d μ => exact fun em' H' v p x S r => i _ _ (h em' H' v p x S r)
  | exc C fs μ => exact h
  | no => exact h
theorem tA_mono {f : FE} {Q Q' : VK} (h : tA X f σ H Q) (i : ∀ v H, Q v H → Q' v H) : tA X f σ H Q' := by
  obtain ⟨ρ, μ, em, E, S, h⟩ := h
  exact ⟨ρ, μ, em, E, S, h.imp i⟩
theorem tAL_mono {f : FL} {Q Q' : List V → Hp → Prop} (h : tAL X f σ H Q) (i : ∀ v H, Q v H → Q' v H) : tAL X f σ H Q' := by
  obtain ⟨ρ, μ, em, E, S, h⟩ := h
  refine ⟨ρ, μ, em, E, S, ?_⟩
  cases e : f ρ μ with
  | ok d μ' => rw [e] at h; exact fun em' H' v p x S r => i _ _ (h em' H' v p x S r)
  | exc C fs μ' => rw [e] at h; exact h
  | no => rw [e] at h; exact h
theorem tAB_mono {f : FB} {Q Q' : Bool → Hp → Prop} (h : tAB X f σ H Q) (i : ∀ v H, Q v H → Q' v H) : tAB X f σ H Q' := by
  obtain ⟨ρ, μ, em, E, S, h⟩ := h
  refine ⟨ρ, μ, em, E, S, ?_⟩
  cases e : f ρ μ with
  | ok d μ' => rw [e] at h; exact fun em' H' p x S => i _ _ (h em' H' p x S)
  | exc C fs μ' => rw [e] at h; exact h
  | no => rw [e] at h; exact h
theorem Aft.here {K : PySem.W.Frag} {em : Em} {μ : Mu} {d : AV} {v : V} {Q : VK} (h : Aft K em H (.ok d μ) Q) (S : RpSt K em μ H) (r : Rp K em H d v) : Q v H :=
  h em H v (List.prefix_refl _) Ext.refl S r

noncomputable def fVar (i : Nat) : FE := fun ρ μ => match ρ[i]? with
  | some (some d) => .ok d μ
  | _ => .no
theorem ae_var (i : Nat) {x : Str} {pos : Pos} (hN : X.N[i]? = some x := by rfl) (hv : Vis X.env.scope x := by first | exact Or.inl rfl | exact Or.inr (Or.inl rfl) | exact Or.inr (Or.inr rfl))
    (hd : (x == ("__debug__" : Str)) = false := by decide +kernel) (hcd : (x == ("__classdict__" : Str)) = false := by decide +kernel) : AE X (.Name x pos) (fVar i) :=
  PE.imp (pe_var hN hv hd hcd) fun σ H Q h => by
    obtain ⟨ρ, μ, em, E, S, h⟩ := h
    unfold fVar at h
    cases e : ρ[i]? with
    | none => rw [e] at h; exact h.elim
    | some o =>
      cases o with
      | none => rw [e] at h; exact h.elim
      | some d =>
        rw [e] at h
        obtain ⟨v, e', r⟩ := E.2 i d e
        exact ⟨v, e', h.here S r⟩
noncomputable def fC (d : AV) : FE := fun _ μ => .ok d μ
theorem ae_c {e : Expr} {v : V} {d : AV} (h : PE X e (tC v)) (r : ∀ em H, Rp X.K em H d v) : AE X e (fC d) := PE.imp h fun σ H Q ⟨ρ, μ, em, E, S, q⟩ => Aft.here q S (r em H)
theorem ae_int {i j pos} : AE X (.Constant (.int i) j pos) (fC (.int i)) := ae_c pe_int fun _ _ => by simp only [Rp]
theorem ae_bl {b j pos} : AE X (.Constant (.bool b) j pos) (fC (.bl b)) := ae_c pe_bl fun _ _ => by simp only [Rp]
theorem ae_non {j pos} : AE X (.Constant .none j pos) (fC .non) := ae_c pe_non fun _ _ => by simp only [Rp]
theorem ae_str (l : List Nat) {x : Str} {j pos} (h : x = ⟨l.toArray⟩ := by decide +kernel) : AE X (.Constant (.str x) j pos) (fC (.str l)) := ae_c pe_str fun _ _ => by simp only [Rp]; rw [h]
theorem ae_glob (d : AV) {x : Str} {v : V} {u : Value} {pos : Pos} (hm : X.mg x = some u) (rp : ∀ em H, Rp X.K em H d v) (r : RelV v u) (hg : Gl X x := by rfl) (hd : (x == ("__debug__" : Str)) = false := by decide +kernel) : AE X (.Name x pos) (fC d) :=
  ae_c (pe_glob hg hm r hd) rp

noncomputable def fOp (g : AV → AV → Mu → Rs AV) (fa fb : FE) : FE := fun ρ μ => (fa ρ μ).bd fun x μ1 => (fb ρ μ1).bd fun y μ2 => g x y μ2
noncomputable def rA (K : PySem.W.Frag) (g : AV → AV → Mu → Rs AV) : R2 := fun x y H Q => ∃ a b μ em, Rp K em H a x ∧ Rp K em H b y ∧ RpSt K em μ H ∧ Aft K em H (g a b μ) Q
theorem rA_of {fa fb : FE} {g : AV → AV → Mu → Rs AV} {Q : VK} (h : tA X (fOp g fa fb) σ H Q) : tOp (rA X.K g) (tA X fa) (tA X fb) σ H Q := by
  obtain ⟨ρ, μ, em, E, S, h⟩ := h
  refine tA_mono (step_e (f := fa) E S h) fun x H1 ⟨em1, d, μ1, M, r, h1⟩ => ?_
  refine tA_mono (step_e (f := fb) M.E M.S h1) fun y H2 ⟨em2, d2, μ2, M2, r2, h2⟩ => ?_
  exact ⟨d, d2, μ2, em2, r.mono M2.p M2.x, r2, M2.S, h2⟩
variable {a b c : Expr} {fa fb fc : FE} {g g' : AV → AV → Mu → Rs AV}
theorem ae_op {op : Operator} (ho : OpR X (binaryOp op) (rA X.K g)) (ha : AE X a fa) (hb : AE X b fb) : AE X (.BinOp a op b pos) (fOp g fa fb) := PE.imp (pe_op ho ha hb) fun _ _ _ h => rA_of h
theorem ae_cmp {op : CmpOp} (ho : OpR X (compareOp op) (rA X.K g)) (ha : AE X a fa) (hb : AE X b fb) (hm : behindInMarks op b = false) : AE X (.Compare a [op] [b] pos) (fOp g fa fb) := PE.imp (pe_cmpR ho ha hb hm) fun _ _ _ h => rA_of h
noncomputable def toB (d : AV) (μ : Mu) : Rs Bool := match d with
  | .bl b => .ok b μ
  | _ => .no
noncomputable def fT (f : FE) : FB := fun ρ μ => (f ρ μ).bd toB
theorem toB_aft {K : PySem.W.Frag} {em : Em} {r : Rs AV} {Q : Bool → Hp → Prop} (h : AftB K em H (r.bd toB) Q) : Aft K em H r fun v H1 => ∃ k, v = .bl k ∧ Q k H1 := by
  cases r with
  | ok d μ =>
    cases d with
    | bl k =>
      intro em' H' v p x S r
      simp only [Rp] at r
      exact ⟨k, r, h em' H' p x S⟩
    | _ => exact h.elim
  | exc C fs μ => exact h
  | no => exact h
theorem toB_tA {f : FE} {Q : Bool → Hp → Prop} (h : tAB X (fT f) σ H Q) : tA X f σ H fun v H1 => ∃ k, v = .bl k ∧ Q k H1 := by
  obtain ⟨ρ, μ, em, E, S, h⟩ := h
  exact ⟨ρ, μ, em, E, S, toB_aft h⟩
theorem at_cmp {op : CmpOp} (ho : OpR X (compareOp op) (rA X.K g)) (ha : AE X a fa) (hb : AE X b fb) (hm : behindInMarks op b = false) : AT X (.Compare a [op] [b] pos) (fT (fOp g fa fb)) :=
  PT.imp (pt_cmpR ho ha hb hm) fun _ _ _ h => rA_of (toB_tA h)
noncomputable def fChain (g g' : AV → AV → Mu → Rs AV) (fa fb fc : FE) : FE := fun ρ μ => (fa ρ μ).bd fun x μ1 => (fb ρ μ1).bd fun y μ2 => (g x y μ2).bd fun z μ3 => match z with
  | .bl k => if k then (fc ρ μ3).bd fun w μ4 => g' y w μ4 else .ok (.bl false) μ3
  | _ => .no
theorem chain_of {Q : VK} (h : tA X (fChain g g' fa fb fc) σ H Q) : tChain (rA X.K g) (rA X.K g') (tA X fa) (tA X fb) (tA X fc) σ H Q := by
  obtain ⟨ρ, μ, em, E, S, h⟩ := h
  refine tA_mono (step_e (f := fa) E S h) fun x H1 ⟨em1, d, μ1, M, r, h1⟩ => ?_
  refine tA_mono (step_e (f := fb) M.E M.S h1) fun y H2 ⟨em2, d2, μ2, M2, r2, h2⟩ => ?_
  refine ⟨d, d2, μ2, em2, r.mono M2.p M2.x, r2, M2.S, ?_⟩
  cases e : g d d2 μ2 with
  | ok z μ3 =>
    rw [e] at h2
    intro em3 H3 v p3 x3 S3 r3
    cases z with
    | bl k =>
      simp only [Rp] at r3
      refine ⟨k, r3, ?_⟩
      cases k with
      | false => exact iteF (h2 em3 H3 _ p3 x3 S3 (by simp only [Rp]))
      | true =>
        refine iteT ?_
        refine tA_mono (step_e (f := fc) (M2.E.mono p3 x3) S3 (Aft.mono h2 p3 x3)) fun w' H4 ⟨em4, d4, μ4, M4, r4, h4⟩ => ?_
        exact ⟨d2, d4, μ4, em4, (r2.mono p3 x3).mono M4.p M4.x, r4, M4.S, h4⟩
    | _ => exact h2.elim
  | exc C fs μ3 => rw [e] at h2; exact h2.elim
  | no => rw [e] at h2; exact h2.elim
theorem ae_chain {op op' : CmpOp} (ho : OpR X (compareOp op) (rA X.K g)) (ho' : OpR X (compareOp op') (rA X.K g')) (ha : AE X a fa) (hb : AE X b fb) (hc : AE X c fc)
    (hm : lastMarks [op, op'] [b, c] = false := by with_unfolding_all rfl) : AE X (.Compare a [op, op'] [b, c] pos) (fChain g g' fa fb fc) := PE.imp (pe_chain ho ho' ha hb hc hm) fun _ _ _ h => chain_of h
noncomputable def fAnd (fa fb : FE) : FE := fun ρ μ => (fa ρ μ).bd fun x μ1 => match x with
  | .bl k => if k then fb ρ μ1 else .ok (.bl false) μ1
  | _ => .no
noncomputable def fOr (fa fb : FE) : FE := fun ρ μ => (fa ρ μ).bd fun x μ1 => match x with
  | .bl k => if k then .ok (.bl true) μ1 else fb ρ μ1
  | _ => .no
noncomputable def fNotV (fa : FE) : FE := fun ρ μ => (fa ρ μ).bd fun x μ1 => match x with
  | .bl k => .ok (.bl (!k)) μ1
  | _ => .no
theorem ae_one {op} {t : FE} (h : AE X a t) : AE X (.BoolOp op [a] pos) t := pe_one h
theorem ae_and {rest : List Expr} (ha : AE X a fa) (hb : AE X (.BoolOp .And (b :: rest) pos) fb) : AE X (.BoolOp .And (a :: b :: rest) pos) (fAnd fa fb) :=
  PE.imp (pe_and ha hb) fun σ H Q ⟨ρ, μ, em, E, S, h⟩ => tA_mono (step_e (f := fa) E S h) fun x H1 ⟨em1, d, μ1, M, r, h1⟩ => by
    cases d with
    | bl k =>
      simp only [Rp] at r
      refine ⟨k, r, ?_⟩
      cases k with
      | true => exact iteT ⟨ρ, μ1, em1, M.E, M.S, h1⟩
      | false => exact iteF (Aft.here h1 M.S (by simp only [Rp]))
    | _ => exact h1.elim
theorem ae_or {rest : List Expr} (ha : AE X a fa) (hb : AE X (.BoolOp .Or (b :: rest) pos) fb) : AE X (.BoolOp .Or (a :: b :: rest) pos) (fOr fa fb) :=
  PE.imp (pe_or ha hb) fun σ H Q ⟨ρ, μ, em, E, S, h⟩ => tA_mono (step_e (f := fa) E S h) fun x H1 ⟨em1, d, μ1, M, r, h1⟩ => by
    cases d with
    | bl k =>
      simp only [Rp] at r
      refine ⟨k, r, ?_⟩
      cases k with
      | true => exact iteT (Aft.here h1 M.S (by simp only [Rp]))
      | false => exact iteF ⟨ρ, μ1, em1, M.E, M.S, h1⟩
    | _ => exact h1.elim
noncomputable def fAndB (fa fb : FB) : FB := fun ρ μ => (fa ρ μ).bd fun k μ1 => if k then fb ρ μ1 else .ok false μ1
noncomputable def fOrB (fa fb : FB) : FB := fun ρ μ => (fa ρ μ).bd fun k μ1 => if k then .ok true μ1 else fb ρ μ1
noncomputable def fNotB (fa : FB) : FB := fun ρ μ => (fa ρ μ).bd fun k μ1 => .ok (!k) μ1
theorem stepB_b {f : FB} {k : Bool → Mu → Rs Bool} {em : Em} {μ : Mu} {ρ : Ev} {Q : Bool → Hp → Prop} (E : RpEnv X.K em H ρ σ) (S : RpSt X.K em μ H) (h : AftB X.K em H ((f ρ μ).bd k) Q) :
    tAB X f σ H fun b H1 => ∃ em1 μ1, Mid X.K em H ρ σ em1 μ1 H1 ∧ AftB X.K em1 H1 (k b μ1) Q :=
  stepB (P := fun em H r => AftB X.K em H r Q) (fun h p x => h.mono p x) (fun h => h) (fun h => h) E S h
theorem stepB_e {f : FB} {k : Bool → Mu → Rs AV} {em : Em} {μ : Mu} {ρ : Ev} {Q : VK} (E : RpEnv X.K em H ρ σ) (S : RpSt X.K em μ H) (h : Aft X.K em H ((f ρ μ).bd k) Q) :
    tAB X f σ H fun b H1 => ∃ em1 μ1, Mid X.K em H ρ σ em1 μ1 H1 ∧ Aft X.K em1 H1 (k b μ1) Q :=
  stepB (P := fun em H r => Aft X.K em H r Q) (fun h p x => h.mono p x) (fun h => h) (fun h => h) E S h
theorem AftB.here {K : PySem.W.Frag} {em : Em} {μ : Mu} {k : Bool} {Q : Bool → Hp → Prop} (h : AftB K em H (.ok k μ) Q) (S : RpSt K em μ H) : Q k H := h em H (List.prefix_refl _) Ext.refl S
variable {ta tb : FB} {rest : List Expr}
theorem aw_and1 (ha : AT X a ta) : AW X (.BoolOp .And [a] pos) ta := pw_and1 ha
theorem aw_or1 (ha : AT X a ta) : AW X (.BoolOp .Or [a] pos) ta := pw_or1 ha
theorem aw_and (ha : AT X a ta) (hb : AW X (.BoolOp .And (b :: rest) pos) tb) : AW X (.BoolOp .And (a :: b :: rest) pos) (fAndB ta tb) :=
  PW.imp (pw_and ha hb) fun σ H Q ⟨ρ, μ, em, E, S, h⟩ => tAB_mono (stepB_b (f := ta) E S h) fun k H1 ⟨em1, μ1, M, h1⟩ => by
    cases k with
    | true => exact iteT ⟨ρ, μ1, em1, M.E, M.S, h1⟩
    | false => exact iteF (AftB.here h1 M.S)
theorem aw_or (ha : AT X a ta) (hb : AW X (.BoolOp .Or (b :: rest) pos) tb) : AW X (.BoolOp .Or (a :: b :: rest) pos) (fOrB ta tb) :=
  PW.imp (pw_or ha hb) fun σ H Q ⟨ρ, μ, em, E, S, h⟩ => tAB_mono (stepB_b (f := ta) E S h) fun k H1 ⟨em1, μ1, M, h1⟩ => by
    cases k with
    | true => exact iteT (AftB.here h1 M.S)
    | false => exact iteF ⟨ρ, μ1, em1, M.E, M.S, h1⟩
theorem AW.at {e : Expr} {f : FB} (h : AW X e f) : AT X e f := PW.pt h
theorem at_not (ha : AT X a ta) : AT X (.UnaryOp .Not a pos) (fNotB ta) :=
  PT.imp (pt_not ha) fun σ H Q ⟨ρ, μ, em, E, S, h⟩ => tAB_mono (stepB_b (f := ta) E S h) fun k H1 ⟨em1, μ1, M, h1⟩ => AftB.here h1 M.S
noncomputable def fIfE (ft : FB) (fa fb : FE) : FE := fun ρ μ => (ft ρ μ).bd fun k μ1 => if k then fa ρ μ1 else fb ρ μ1
theorem ae_ifE (hc : AT X c ta) (ha : AE X a fa) (hb : AE X b fb) : AE X (.IfExp c a b pos) (fIfE ta fa fb) :=
  PE.imp (pe_ifExp hc ha hb) fun σ H Q ⟨ρ, μ, em, E, S, h⟩ => tAB_mono (stepB_e (f := ta) E S h) fun k H1 ⟨em1, μ1, M, h1⟩ => by
    cases k with
    | true => exact iteT ⟨ρ, μ1, em1, M.E, M.S, h1⟩
    | false => exact iteF ⟨ρ, μ1, em1, M.E, M.S, h1⟩

noncomputable def lstAt (μ : Mu) (i : Nat) : Option (List AV) := match μ[i]? with
  | some (.lst ds) => some ds
  | some (.fz ds) => some ds
  | _ => none
theorem RpSt.sq {K : PySem.W.Frag} {em : Em} {μ : Mu} {i : Nat} {ds : List AV} {a : Addr} (S : RpSt K em μ H) (h : lstAt μ i = some ds) (ea : em[i]? = some a) : ∃ xs, SqL K H a xs ∧ RpL K em H ds xs := by
  unfold lstAt at h
  cases e : μ[i]? with
  | none => rw [e] at h; cases h
  | some o =>
    rw [e] at h
    have q := S.obj i a o ea e
    cases o with
    | lst es => cases h; obtain ⟨xs, e1, r⟩ := q; exact ⟨xs, SqL.of e1, r⟩
    | fz es => cases h; obtain ⟨xs, e1, r⟩ := q; exact ⟨xs, e1.sq, r⟩
    | ins C fs => cases h
noncomputable def truA (d : AV) (μ : Mu) : Rs Bool := match d with
  | .non => .ok false μ
  | .bl b => .ok b μ
  | .int i => .ok (i != 0) μ
  | .str x => if x.length ≤ LIM then .ok (!x.isEmpty) μ else .no
  | .tup ds => .ok (!ds.isEmpty) μ
  | .loc i => match lstAt μ i with
    | some ds => .ok (!ds.isEmpty) μ
    | none => .no
noncomputable def fTru (f : FE) : FB := fun ρ μ => (f ρ μ).bd truA
theorem RpL.isEmpty {K : PySem.W.Frag} {em : Em} {ds : List AV} {xs : List V} (r : RpL K em H ds xs) : xs.isEmpty = ds.isEmpty := by
  have := r.length
  cases xs <;> cases ds <;> simp at this ⊢
theorem str_len (x : List Nat) : (⟨x.toArray⟩ : Str).length = x.length := by simp [Str.length]
theorem at_tru (ha : AE X a fa) (he : ∀ whole, isTrue a X.env whole = (do let v ← whole; standAt a.pos; holding [v] (truthy v)) := by intro _; rfl) : AT X a (fTru fa) :=
  PT.imp (pt_truth ha he) fun σ H Q ⟨ρ, μ, em, E, S, h⟩ => tA_mono (step_b (f := fa) E S h) fun x H1 ⟨em1, d, μ1, M, r, h1⟩ => by
    cases d with
    | non => simp only [Rp] at r; subst r; exact ⟨false, rfl, AftB.here h1 M.S⟩
    | bl b => simp only [Rp] at r; subst r; exact ⟨b, rfl, AftB.here h1 M.S⟩
    | int i => simp only [Rp] at r; subst r; exact ⟨_, rfl, AftB.here h1 M.S⟩
    | str x =>
      simp only [Rp] at r
      subst r
      unfold truA at h1
      by_cases hx : x.length ≤ LIM
      · simp only [hx, if_true] at h1
        refine ⟨!x.isEmpty, ⟨by rw [str_len, ← LIM_eq]; exact hx, ?_⟩, AftB.here h1 M.S⟩
        rw [str_len]
        cases x <;> simp <;> omega
      · simp only [hx, if_false] at h1
        exact h1.elim
    | tup ds =>
      simp only [Rp] at r
      obtain ⟨p, xs, rfl, hq, rl⟩ := r
      exact ⟨!ds.isEmpty, .inr (.inl ⟨xs, hq, by rw [rl.isEmpty]⟩), AftB.here h1 M.S⟩
    | loc i =>
      simp only [Rp] at r
      obtain ⟨p, ep, rfl⟩ := r
      unfold truA at h1
      cases e : lstAt μ1 i with
      | none => simp only [e] at h1; exact h1.elim
      | some ds =>
        simp only [e] at h1
        obtain ⟨xs, hq, rl⟩ := M.S.sq e ep
        exact ⟨!ds.isEmpty, .inl ⟨xs, hq, by rw [rl.isEmpty]⟩, AftB.here h1 M.S⟩

noncomputable def fNilL : FL := fun _ μ => .ok [] μ
noncomputable def fConsL (f : FE) (fl : FL) : FL := fun ρ μ => (f ρ μ).bd fun d μ1 => (fl ρ μ1).bd fun ds μ2 => .ok (d :: ds) μ2
theorem stepsL {f : FL} {k : List AV → Mu → Rs (List AV)} {em : Em} {μ : Mu} {ρ : Ev} {Q : List V → Hp → Prop} (E : RpEnv X.K em H ρ σ) (S : RpSt X.K em μ H) (h : AftL X.K em H ((f ρ μ).bd k) Q) :
    tAL X f σ H fun vs H1 => ∃ em1 ds μ1, Mid X.K em H ρ σ em1 μ1 H1 ∧ RpL X.K em1 H1 ds vs ∧ AftL X.K em1 H1 (k ds μ1) Q := by
  refine ⟨ρ, μ, em, E, S, ?_⟩
  cases e : f ρ μ with
  | ok d μ1 =>
    rw [e] at h
    exact fun em1 H1 v p x S1 r => ⟨em1, d, μ1, ⟨p, x, E.mono p x, S1⟩, r, AftL.mono h p x⟩
  | exc C fs μ1 => rw [e] at h; exact h.elim
  | no => rw [e] at h; exact h.elim
theorem aa_nil : AA X [] fNilL := PA.imp pa_nil fun σ H Q ⟨ρ, μ, em, E, S, h⟩ => h em H [] (List.prefix_refl _) Ext.refl S RpL.nil
theorem aa_cons {e : Expr} {es : List Expr} {f : FE} {fl : FL} (ha : AE X e f) (hr : AA X es fl) (hs : starEach (e :: es) X.env = (false, eval e X.env) :: starEach es X.env := by rfl) : AA X (e :: es) (fConsL f fl) :=
  PA.imp (pa_cons ha hr hs) fun σ H Q ⟨ρ, μ, em, E, S, h⟩ => tA_mono (step_l (f := f) E S h) fun x H1 ⟨em1, d, μ1, M, r, h1⟩ =>
    tAL_mono (stepsL (f := fl) M.E M.S h1) fun xs H2 ⟨em2, ds, μ2, M2, rl, h2⟩ => h2 em2 H2 _ (List.prefix_refl _) Ext.refl M2.S (RpL.cons (r.mono M2.p M2.x) rl)
noncomputable def fTup (fl : FL) : FE := fun ρ μ => (fl ρ μ).bd fun ds μ1 => if ds.length ≤ LIM then .ok (.tup ds) μ1 else .no
noncomputable def fLst (fl : FL) : FE := fun ρ μ => (fl ρ μ).bd fun ds μ1 => if ds.length ≤ LIM then .ok (.loc μ1.length) (μ1 ++ [.lst ds]) else .no
theorem Aft.ite {K : PySem.W.Frag} {em : Em} {c : Prop} [Decidable c] {r : Rs AV} {Q : VK} (h : Aft K em H (if c then r else .no) Q) : c ∧ Aft K em H r Q := by
  by_cases hc : c
  · rw [if_pos hc] at h; exact ⟨hc, h⟩
  · rw [if_neg hc] at h; exact h.elim
theorem ae_tup {es : List Expr} {fl : FL} {x1} (h : AA X es fl) : AE X (.Tuple es x1 pos) (fTup fl) :=
  PE.imp (pe_tup h) fun σ H Q ⟨ρ, μ, em, E, S, h⟩ => tAL_mono (steps (f := fl) E S h) fun xs H1 ⟨em1, ds, μ1, M, rl, h1⟩ => by
    obtain ⟨hz, h1⟩ := h1.ite
    refine ⟨by rw [rl.length, ← LIM_eq]; exact hz, fun p hp => ?_⟩
    obtain ⟨S2, r2⟩ := M.S.newT hp rl
    exact h1 em1 _ _ (List.prefix_refl _) (Ext.fresh hp) S2 r2
theorem ae_lst {es : List Expr} {fl : FL} (h : AA X es fl) : AE X (.List es pos) (fLst fl) :=
  PE.imp (pe_lst h) fun σ H Q ⟨ρ, μ, em, E, S, h⟩ => tAL_mono (steps (f := fl) E S h) fun xs H1 ⟨em1, ds, μ1, M, rl, h1⟩ => by
    obtain ⟨hz, h1⟩ := h1.ite
    refine ⟨by rw [rl.length, ← LIM_eq]; exact hz, fun p hp => ?_⟩
    obtain ⟨S2, r2⟩ := M.S.newL hp rl
    exact h1 _ _ _ (List.prefix_append _ _) (Ext.fresh hp) S2 r2
end
end AL

set_option Elab.async false
set_option linter.all false
set_option maxRecDepth 100000
set_option maxHeartbeats 4000000
namespace AL
open PySem PySem.Spec PyProof.Rows L2

section
variable {X : Cx} {pos : Pos} {σ : St} {H : Hp}
noncomputable def iA (C : Int → Int → Bool) (h : Int → Int → Int) (a b : AV) (μ : Mu) : Rs AV := match a, b with
  | .int i, .int j => if C i j = true then .ok (.int (h i j)) μ else .no
  | _, _ => .no
theorem op_iA {f : Value → Value → Sem Value} {C : Int → Int → Bool} {C' : Int → Int → Prop} {h : Int → Int → Int} (hC : ∀ i j, C i j = true → C' i j) (ho : OpR X f (rI C' fun i j => .int (h i j))) : OpR X f (rA X.K (iA C h)) := by
  intro pins s σ H x y v u Q I rx ry ⟨a, b, μ, em, ra, rb, S, q⟩
  cases a with
  | int i =>
    cases b with
    | int j =>
      simp only [Rp] at ra rb
      subst ra rb
      obtain ⟨hc, q⟩ := Aft.ite q
      exact ho pins s σ H _ _ v u Q I rx ry ⟨i, j, rfl, rfl, hC _ _ hc, q.here S (by simp only [Rp])⟩
    | _ => exact q.elim
  | _ => cases b <;> exact q.elim
noncomputable def sm (k : Nat) (i : Int) : Bool := Nat.blt i.natAbs.log2 k
theorem sm_lt {k : Nat} {i : Int} (h : sm k i = true) : i.natAbs < 2 ^ k := by
  have h : i.natAbs.log2 < k := Nat.le_of_ble_eq_true h
  by_cases z : i.natAbs = 0
  · rw [z]; exact Nat.two_pow_pos k
  · exact (Nat.log2_lt z).mp h
theorem sm_of {k : Nat} {i : Int} (h : i.natAbs < 2 ^ k) (hk : 0 < k) : sm k i = true := by
  show Nat.ble _ _ = true
  refine Nat.ble_eq_true_of_le (show i.natAbs.log2 < k from ?_)
  by_cases z : i.natAbs = 0
  · rw [z]; exact hk
  · exact (Nat.log2_lt z).mpr h
noncomputable def mulOk (i j : Int) : Bool := sm 64 i || sm 64 j
noncomputable def divOk (_ j : Int) : Bool := decide (0 < j) && sm 30 j
noncomputable def modOk (_ j : Int) : Bool := decide (0 < j)
noncomputable def powOk (i j : Int) : Bool := decide (0 ≤ j) && sm 19 j && sm 64 i
theorem rI_of {f : Value → Value → Sem Value} {g : Int → Int → V} (h : OpR X f (rI0 g)) : OpR X f (rI (fun _ _ => True) g) := fun pins s σ H x y v u Q I rx ry ⟨i, j, e1, e2, _, q⟩ => h pins s σ H x y v u Q I rx ry ⟨i, j, e1, e2, q⟩
noncomputable abbrev subA := iA (fun _ _ => true) fun i j => i - j
noncomputable abbrev mulA := iA mulOk fun i j => i * j
noncomputable abbrev fdivA := iA divOk fun i j => i / j
noncomputable abbrev modA := iA modOk fun i j => i % j
noncomputable abbrev powA := iA powOk fun i j => i ^ j.toNat
theorem oa_sub : OpR X (binaryOp .Sub) (rA X.K subA) := op_iA (fun _ _ _ => trivial) (rI_of op_sub)
theorem oa_mul : OpR X (binaryOp .Mult) (rA X.K mulA) := op_iA (fun i j h => by
  simp only [mulOk, Bool.or_eq_true] at h
  have e : (2 : Nat) ^ 64 = 18446744073709551616 := by decide
  have e2 : (2 : Int) ^ 64 = 18446744073709551616 := by decide
  unfold CMul
  rw [e2]
  rcases h with h | h
  · have := sm_lt h
    rw [e] at this
    exact .inl ⟨by omega, by omega⟩
  · have := sm_lt h
    rw [e] at this
    exact .inr ⟨by omega, by omega⟩) op_mul
theorem oa_fdiv : OpR X (binaryOp .FloorDiv) (rA X.K fdivA) := op_iA (fun i j h => by
  simp only [divOk, Bool.and_eq_true, decide_eq_true_eq] at h
  have := sm_lt h.2
  have e : (2 : Nat) ^ 30 = 1073741824 := by decide
  rw [e] at this
  exact ⟨h.1, by omega⟩) op_fdiv
theorem oa_mod : OpR X (binaryOp .Mod) (rA X.K modA) := op_iA (fun i j h => by
  simp only [modOk, decide_eq_true_eq] at h
  exact h) op_mod
noncomputable def addA (a b : AV) (μ : Mu) : Rs AV := match a, b with
  | .int i, .int j => .ok (.int (i + j)) μ
  | .str x, .str y => if x.length + y.length ≤ LIM then .ok (.str (x ++ y)) μ else .no
  | .loc i, .loc j => match lstAt μ i, lstAt μ j with
    | some x, some y => if x.length + y.length ≤ LIM then .ok (.loc μ.length) (μ ++ [.lst (x ++ y)]) else .no
    | _, _ => .no
  | _, _ => .no
theorem add_lists_any {pins : List (Addr × Obj)} {s : Shared} {a b : Addr} {xs ys : List V} {Q : VK} (I : Inv X pins σ H s) (ha : SqL X.K H a xs) (hb : SqL X.K H b ys) (hz : xs.length + ys.length ≤ sizeLine)
    (q : ∀ p, H p = none → Q (.ref p) (upd H p (.lst (xs ++ ys)))) : wpAny (model X.prog X.w) X.A (binaryOp .Add (.ref a) (.ref b)) (EP X pins σ Q) X.xe s := by
  obtain ⟨its, r, pl, _⟩ := I.list ha
  obtain ⟨its2, r2, pl2, _⟩ := I.list hb
  obtain ⟨⟨cls, dd, data, sl⟩, ho, hc, n, hd⟩ := pl.isList
  obtain ⟨⟨cls2, dd2, data2, sl2⟩, ho2, hc2, n2, hd2⟩ := pl2.isList
  simp only at hc hd hc2 hd2
  subst hc hd hc2 hd2
  have e : its.toArray ++ its2.toArray = (its ++ its2).toArray := by simp
  have l1 := r.length
  have l2 := r2.length
  refine concat_meets ⟨_, ho, rfl⟩ ⟨_, ho2, rfl⟩ noFill_list_add seq_list_add PySem.F.slot_list_add PySem.F.entry_list_add (PySem.F.args_list_add_2 _ _) (list_addW a b its.toArray its2.toArray n n2 dd dd2 sl sl2 (by simp; omega)) ⟨ho, ho2, ?_⟩
  rw [e]
  exact ⟨.ref _, _, I.lnew (t' := s.toks) (r.append r2) (by rw [List.length_append]; exact hz), rfl, q _ I.fresh⟩
theorem str_app (x y : List Nat) : (⟨x.toArray⟩ : Str) ++ (⟨y.toArray⟩ : Str) = ⟨(x ++ y).toArray⟩ := by
  show Str.append _ _ = _
  simp [Str.append]
theorem oa_add : OpR X (binaryOp .Add) (rA X.K addA) := by
  intro pins s σ H x y v u Q I rx ry ⟨a, b, μ, em, ra, rb, S, q⟩
  cases a with
  | int i =>
    cases b with
    | int j =>
      simp only [Rp] at ra rb
      subst ra rb
      exact op_add pins s σ H _ _ v u Q I rx ry ⟨i, j, rfl, rfl, q.here S (by simp only [Rp])⟩
    | _ => exact q.elim
  | str z =>
    cases b with
    | str w =>
      simp only [Rp] at ra rb
      subst ra rb
      obtain ⟨hc, q⟩ := Aft.ite q
      exact op_add_str pins s σ H _ _ v u Q I rx ry ⟨_, _, rfl, rfl, by rw [str_len, str_len, ← LIM_eq]; exact hc, by rw [str_app]; exact q.here S (by simp only [Rp])⟩
    | _ => exact q.elim
  | loc i =>
    cases b with
    | loc j =>
      simp only [Rp] at ra rb
      obtain ⟨p1, e1, rfl⟩ := ra
      obtain ⟨p2, e2, rfl⟩ := rb
      cases rx
      cases ry
      unfold addA at q
      cases h1 : lstAt μ i with
      | none => simp only [h1] at q; exact q.elim
      | some ds =>
        cases h2 : lstAt μ j with
        | none => simp only [h1, h2] at q; exact q.elim
        | some es =>
          simp only [h1, h2] at q
          obtain ⟨hc, q⟩ := Aft.ite q
          obtain ⟨xs, k1, r1⟩ := S.sq h1 e1
          obtain ⟨ys, k2, r2⟩ := S.sq h2 e2
          refine add_lists_any I k1 k2 (by rw [r1.length, r2.length, ← LIM_eq]; exact hc) fun p hp => ?_
          obtain ⟨S2, r3⟩ := S.newL hp (r1.append r2)
          exact q _ _ _ (List.prefix_append _ _) (Ext.fresh hp) S2 r3
    | _ => exact q.elim
  | _ => cases b <;> exact q.elim

noncomputable def cA (hi : Int → Int → Bool) (hs : List Nat → List Nat → Bool) (a b : AV) (μ : Mu) : Rs AV := match a, b with
  | .int i, .int j => .ok (.bl (hi i j)) μ
  | .str x, .str y => .ok (.bl (hs x y)) μ
  | _, _ => .no
theorem op_cA {f : Value → Value → Sem Value} {hi : Int → Int → Bool} {hs : List Nat → List Nat → Bool} (h1 : OpR X f (rI0 fun i j => .bl (hi i j)))
    (h2 : OpR X f (fun x y H Q => ∃ i j : Str, x = .str i ∧ y = .str j ∧ Q (.bl (hs i.cps.toList j.cps.toList)) H)) : OpR X f (rA X.K (cA hi hs)) := by
  intro pins s σ H x y v u Q I rx ry ⟨a, b, μ, em, ra, rb, S, q⟩
  cases a with
  | int i =>
    cases b with
    | int j =>
      simp only [Rp] at ra rb
      subst ra rb
      exact h1 pins s σ H _ _ v u Q I rx ry ⟨i, j, rfl, rfl, q.here S (by simp only [Rp])⟩
    | _ => exact q.elim
  | str z =>
    cases b with
    | str w =>
      simp only [Rp] at ra rb
      subst ra rb
      refine h2 pins s σ H _ _ v u Q I rx ry ⟨_, _, rfl, rfl, ?_⟩
      exact q.here S (by simp only [Rp])
    | _ => exact q.elim
  | _ => cases b <;> exact q.elim
theorem op_le_str : OpR X (compareOp .LtE) (fun x y H Q => ∃ i j : Str, x = .str i ∧ y = .str j ∧ Q (.bl (!decide (j.cps.toList < i.cps.toList))) H) := by
  intro pins s σ H x y v u Q I rx ry h
  obtain ⟨i, j, rfl, rfl, q⟩ := h
  obtain ⟨t, rfl⟩ := rx
  obtain ⟨t', rfl⟩ := ry
  exact PySem.P.le_str (fin_bl I q rfl)
theorem op_gt_str : OpR X (compareOp .Gt) (fun x y H Q => ∃ i j : Str, x = .str i ∧ y = .str j ∧ Q (.bl (decide (j.cps.toList < i.cps.toList))) H) := by
  intro pins s σ H x y v u Q I rx ry h
  obtain ⟨i, j, rfl, rfl, q⟩ := h
  obtain ⟨t, rfl⟩ := rx
  obtain ⟨t', rfl⟩ := ry
  exact PySem.P.gt_str (fin_bl I q rfl)
noncomputable abbrev ltA := cA (fun i j => decide (i < j)) fun x y => decide (x < y)
noncomputable abbrev leA := cA (fun i j => decide (i ≤ j)) fun x y => !decide (y < x)
noncomputable abbrev gtA := cA (fun i j => decide (j < i)) fun x y => decide (y < x)
noncomputable abbrev geA := cA (fun i j => decide (j ≤ i)) fun x y => !decide (x < y)
theorem oa_lt : OpR X (compareOp .Lt) (rA X.K ltA) := op_cA op_lt op_lt_str
theorem oa_le : OpR X (compareOp .LtE) (rA X.K leA) := op_cA op_le op_le_str
theorem oa_gt : OpR X (compareOp .Gt) (rA X.K gtA) := op_cA op_gt op_gt_str
mutual
noncomputable def pyD : AV → Option PyData
  | .non => some .none
  | .bl b => some (.bool b)
  | .int i => some (.int i)
  | .str x => some (.str ⟨x.toArray⟩)
  | .tup ds => (pyDs ds).map .tuple
  | .loc _ => none
noncomputable def pyDs : List AV → Option (List PyData)
  | [] => some []
  | d :: ds => match pyD d, pyDs ds with
    | some a, some b => some (a :: b)
    | _, _ => none
end
noncomputable def pyT (μ : Mu) (d : AV) : Option PyData := match d with
  | .loc i => ((lstAt μ i).bind pyDs).map .list
  | d => pyD d
noncomputable def eqG (neg : Bool) (a b : AV) (μ : Mu) : Rs AV := match pyT μ a, pyT μ b with
  | some x, some y => if SeqAt.shaped x = true ∧ SeqAt.shaped y = true then .ok (.bl (if neg then !PyData.eqv x y else PyData.eqv x y)) μ else .no
  | _, _ => .no
noncomputable def eqA (neg : Bool) (a b : AV) (μ : Mu) : Rs AV := match a, b with
  | .int i, .int j => .ok (.bl (if neg then !(i == j) else i == j)) μ
  | .str x, .str y => .ok (.bl (if neg then !(x == y) else x == y)) μ
  | .bl x, .bl y => .ok (.bl (if neg then !(x == y) else x == y)) μ
  | .non, .non => .ok (.bl (!neg)) μ
  | .str _, .non => .ok (.bl neg) μ
  | .non, .str _ => .ok (.bl neg) μ
  | a, b => eqG neg a b μ
section
variable {K : PySem.W.Frag} {em : Em} {s : Shared} {pins : List (Addr × Obj)}
mutual
theorem pyD_reads (I : Inv X pins σ H s) : ∀ (d : AV) {x : V} {v : Value} {p : PyData}, Rp X.K em H d x → RelV x v → pyD d = some p → ∃ as, Reads s.heap v p as
  | .non, _, _, _, r, rv, e => by simp only [Rp] at r; subst r; simp only [pyD] at e; cases e; cases rv; exact ⟨_, .none⟩
  | .bl b, _, _, _, r, rv, e => by simp only [Rp] at r; subst r; simp only [pyD] at e; cases e; cases rv; exact ⟨_, .bool b⟩
  | .int i, _, _, _, r, rv, e => by simp only [Rp] at r; subst r; simp only [pyD] at e; cases e; obtain ⟨t, rfl⟩ := rv; exact ⟨_, .int i t⟩
  | .str z, _, _, _, r, rv, e => by simp only [Rp] at r; subst r; simp only [pyD] at e; cases e; obtain ⟨t, rfl⟩ := rv; exact ⟨_, .str _ t⟩
  | .loc i, _, _, _, r, rv, e => by simp only [pyD] at e; cases e
  | .tup ds, _, _, _, r, rv, e => by
    simp only [Rp] at r
    obtain ⟨a, xs, rfl, hq, rl⟩ := r
    cases rv
    simp only [pyD] at e
    cases h : pyDs ds with
    | none => rw [h] at e; cases e
    | some ps =>
      rw [h] at e
      cases e
      obtain ⟨its, rv, ⟨o, ho, hc, n, hd⟩, _⟩ := I.tuple hq
      obtain ⟨as, q⟩ := pyDs_reads I ds rl rv h
      exact ⟨as, reads_tuple_at ho hc hd (by simpa using q)⟩
theorem pyDs_reads (I : Inv X pins σ H s) : ∀ (ds : List AV) {xs : List V} {vs : List Value} {ps : List PyData}, RpL X.K em H ds xs → Vals xs vs → pyDs ds = some ps → ∃ as, ReadsAll s.heap vs ps as
  | [], _, _, _, r, rv, e => by
    have := r.unnil
    subst this
    simp only [pyDs] at e
    cases e
    cases rv
    exact ⟨_, .nil⟩
  | d :: ds, _, _, _, r, rv, e => by
    obtain ⟨x, t, rfl, r1, r2⟩ := r.uncons
    cases rv with
    | cons rv1 rv2 =>
      simp only [pyDs] at e
      cases h1 : pyD d with
      | none => simp only [h1] at e; cases e
      | some a =>
        cases h2 : pyDs ds with
        | none => simp only [h1, h2] at e; cases e
        | some b =>
          simp only [h1, h2] at e
          cases e
          obtain ⟨as, q1⟩ := pyD_reads I d r1 rv1 h1
          obtain ⟨bs, q2⟩ := pyDs_reads I ds r2 rv2 h2
          exact ⟨_, .cons q1 q2⟩
end
theorem pyT_reads {μ : Mu} (I : Inv X pins σ H s) (S : RpSt X.K em μ H) (d : AV) {x : V} {v : Value} {p : PyData} (r : Rp X.K em H d x) (rv : RelV x v) (e : pyT μ d = some p) : ∃ as, Reads s.heap v p as := by
  cases d with
  | loc i =>
    simp only [Rp] at r
    obtain ⟨a, ea, rfl⟩ := r
    cases rv
    unfold pyT at e
    cases h : lstAt μ i with
    | none => simp only [h] at e; cases e
    | some ds =>
      simp only [h, Option.bind_some] at e
      cases h2 : pyDs ds with
      | none => rw [h2] at e; cases e
      | some ps =>
        rw [h2] at e
        cases e
        obtain ⟨xs, hq, rl⟩ := S.sq h ea
        obtain ⟨its, rv, pl, _⟩ := I.list hq
        obtain ⟨o, ho, hc, n, hd⟩ := pl.isList
        obtain ⟨as, q⟩ := pyDs_reads I ds rl rv h2
        exact ⟨_, reads_list_at ho hc hd (by simpa using q)⟩
  | _ => exact pyD_reads I _ r rv e
end
theorem op_eqG {f : Value → Value → Sem Value} {neg : Bool}
    (h : ∀ (pins : List (Addr × Obj)) (s : Shared) (v u : Value) (x y : PyData) (as bs : List Addr) (Q : Value → Shared → Prop), Reads s.heap v x as → Reads s.heap u y bs → SeqAt.shaped x = true → SeqAt.shaped y = true → Q (.bool (if neg then !PyData.eqv x y else PyData.eqv x y)) s → wpAny (model X.prog X.w) X.A (f v u) Q X.xe s) :
    OpR X f (rA X.K (eqG neg)) := by
  intro pins s σ H x y v u Q I rx ry ⟨a, b, μ, em, ra, rb, S, q⟩
  unfold eqG at q
  cases h1 : pyT μ a with
  | none => simp only [h1] at q; exact q.elim
  | some p =>
    cases h2 : pyT μ b with
    | none => simp only [h1, h2] at q; exact q.elim
    | some p2 =>
      simp only [h1, h2] at q
      obtain ⟨⟨s1, s2⟩, q⟩ := Aft.ite q
      obtain ⟨as, R1⟩ := pyT_reads I S a ra rx h1
      obtain ⟨bs, R2⟩ := pyT_reads I S b rb ry h2
      exact h pins s v u p p2 as bs _ R1 R2 s1 s2 ⟨.bl _, H, I, rfl, q.here S (by simp only [Rp])⟩
theorem toArr_inj {x y : List Nat} : ((⟨x.toArray⟩ : Str) = ⟨y.toArray⟩) ↔ x = y := by
  constructor
  · intro h
    injection h with h
    simpa using congrArg Array.toList h
  · rintro rfl; rfl
theorem dec_strL {x y : List Nat} : decide (V.str ⟨x.toArray⟩ = V.str ⟨y.toArray⟩) = (x == y) := by
  rw [Bool.eq_iff_iff]
  simp [toArr_inj]
theorem oa_eqG (hu : X.A.units + 64 < cLine) : OpR X (compareOp .Eq) (rA X.K (eqG false)) := op_eqG fun pins s v u x y as bs Q r1 r2 s1 s2 q => eq_dataH r1 r2 s1 s2 hu q
theorem oa_neG (hu : X.A.units + 64 < cLine) : OpR X (compareOp .NotEq) (rA X.K (eqG true)) := op_eqG fun pins s v u x y as bs Q r1 r2 s1 s2 q => ne_dataH r1 r2 s1 s2 hu q
theorem oa_eq (hu : X.A.units + 64 < cLine) : OpR X (compareOp .Eq) (rA X.K (eqA false)) := by
  intro pins s σ H x y v u Q I rx ry ⟨a, b, μ, em, ra, rb, S, q⟩
  have gen : ∀ q' : Aft X.K em H (eqG false a b μ) Q, wpAny (model X.prog X.w) X.A (compareOp .Eq v u) (EP X pins σ Q) X.xe s := fun q' => oa_eqG hu pins s σ H x y v u Q I rx ry ⟨a, b, μ, em, ra, rb, S, q'⟩
  have sc : ∀ k : Bool, scal x y = true → decide (x = y) = k → Aft X.K em H (.ok (.bl k) μ) Q → wpAny (model X.prog X.w) X.A (compareOp .Eq v u) (EP X pins σ Q) X.xe s := fun k h1 h2 q' =>
    op_eq pins s σ H x y v u Q I rx ry ⟨h1, by rw [h2]; exact q'.here S (by simp only [Rp])⟩
  cases a <;> cases b <;> first
    | exact gen q
    | (simp only [Rp] at ra rb; subst ra rb; exact sc _ rfl (by first | exact dec_int | exact dec_strL | exact dec_bl | rfl | simp) q)
theorem oa_ne (hu : X.A.units + 64 < cLine) : OpR X (compareOp .NotEq) (rA X.K (eqA true)) := by
  intro pins s σ H x y v u Q I rx ry ⟨a, b, μ, em, ra, rb, S, q⟩
  have gen : ∀ q' : Aft X.K em H (eqG true a b μ) Q, wpAny (model X.prog X.w) X.A (compareOp .NotEq v u) (EP X pins σ Q) X.xe s := fun q' => oa_neG hu pins s σ H x y v u Q I rx ry ⟨a, b, μ, em, ra, rb, S, q'⟩
  have sc : ∀ k : Bool, scal x y = true → (!decide (x = y)) = k → Aft X.K em H (.ok (.bl k) μ) Q → wpAny (model X.prog X.w) X.A (compareOp .NotEq v u) (EP X pins σ Q) X.xe s := fun k h1 h2 q' =>
    op_ne pins s σ H x y v u Q I rx ry ⟨h1, by rw [h2]; exact q'.here S (by simp only [Rp])⟩
  cases a <;> cases b <;> first
    | exact gen q
    | (simp only [Rp] at ra rb; subst ra rb; exact sc _ rfl (by first | (rw [dec_int]; rfl) | (rw [dec_strL]; rfl) | (rw [dec_bl]; rfl) | rfl | simp) q)

noncomputable def inA (neg : Bool) (a b : AV) (μ : Mu) : Rs AV := match a, b with
  | .str y, .str x => .ok (.bl (if neg then !(!(Builtin.Str.occurrences ⟨x.toArray⟩ ⟨y.toArray⟩ 0 x.length 1).isEmpty) else !(Builtin.Str.occurrences ⟨x.toArray⟩ ⟨y.toArray⟩ 0 x.length 1).isEmpty)) μ
  | _, _ => .no
theorem oa_in : OpR X (compareOp .In) (rA X.K (inA false)) := by
  intro pins s σ H x y v u Q I rx ry ⟨a, b, μ, em, ra, rb, S, q⟩
  cases a with
  | str z =>
    cases b with
    | str w =>
      simp only [Rp] at ra rb
      subst ra rb
      refine op_in_str pins s σ H _ _ v u Q I rx ry ⟨_, _, rfl, rfl, ?_⟩
      rw [str_len]
      exact q.here S (by simp only [Rp] <;> rfl)
    | _ => exact q.elim
  | _ => cases b <;> exact q.elim

noncomputable def ixA (a b : AV) (μ : Mu) : Rs AV := match a, b with
  | .loc i, .int k => match lstAt μ i with
    | some ds => match atI ds k with
      | some d => .ok d μ
      | none => .no
    | none => .no
  | .tup ds, .int k => match atI ds k with
    | some d => .ok d μ
    | none => .no
  | .str x, .int k => if x.length ≤ LIM then match atI x k with
      | some c => .ok (.str [c]) μ
      | none => .no
    else .no
  | _, _ => .no
theorem RpL.atI {K : PySem.W.Frag} {em : Em} {ds : List AV} {xs : List V} {k : Int} {d : AV} (r : RpL K em H ds xs) (e : atI ds k = some d) : ∃ v, L2.atI xs k = some v ∧ Rp K em H d v := by
  unfold L2.atI at e ⊢
  rw [r.length]
  cases h : ixN ds.length k with
  | none => rw [h] at e; cases e
  | some j =>
    rw [h] at e
    exact r.get (i := j) e
theorem ia_ix : IxR X (rA X.K ixA) := by
  intro value slice pins s σ H x y v u Q I rx ry ⟨a, b, μ, em, ra, rb, S, q⟩ hs
  cases a with
  | loc i =>
    cases b with
    | int k =>
      simp only [Rp] at ra rb
      obtain ⟨p, ep, rfl⟩ := ra
      subst rb
      unfold ixA at q
      cases h : lstAt μ i with
      | none => simp only [h] at q; exact q.elim
      | some ds =>
        simp only [h] at q
        cases h2 : L2.atI ds k with
        | none => simp only [h2] at q; exact q.elim
        | some d =>
          simp only [h2] at q
          obtain ⟨xs, hq, rl⟩ := S.sq h ep
          obtain ⟨w, ew, rw'⟩ := rl.atI h2
          exact ix_list value slice pins s σ H _ _ v u Q I rx ry ⟨p, xs, k, w, rfl, rfl, hq, ew, q.here S rw'⟩ hs
    | _ => exact q.elim
  | tup ds =>
    cases b with
    | int k =>
      simp only [Rp] at ra rb
      obtain ⟨p, xs, rfl, hq, rl⟩ := ra
      subst rb
      unfold ixA at q
      cases h2 : L2.atI ds k with
      | none => simp only [h2] at q; exact q.elim
      | some d =>
        simp only [h2] at q
        obtain ⟨w, ew, rw'⟩ := rl.atI h2
        exact ix_tup value slice pins s σ H _ _ v u Q I rx ry ⟨p, xs, k, w, rfl, rfl, hq, ew, q.here S rw'⟩ hs
    | _ => exact q.elim
  | str z =>
    cases b with
    | int k =>
      simp only [Rp] at ra rb
      subst ra rb
      obtain ⟨hz, q⟩ := Aft.ite q
      cases h2 : L2.atI z k with
      | none => simp only [h2] at q; exact q.elim
      | some c =>
        simp only [h2] at q
        exact ix_str value slice pins s σ H _ _ v u Q I rx ry ⟨_, k, c, rfl, rfl, by rw [str_len, ← LIM_eq]; exact hz, by simpa using h2, q.here S (by simp only [Rp])⟩ hs
    | _ => exact q.elim
  | _ => cases b <;> exact q.elim
theorem ae_ix {a b : Expr} {fa fb : FE} (ha : AE X a fa) (hb : AE X b fb) (hs : PlainIx b := by exact fun _ _ => rfl) : AE X (.Subscript a b pos) (fOp ixA fa fb) := PE.imp (pe_ix ia_ix ha hb hs) fun _ _ _ h => rA_of h
end
end AL

set_option Elab.async false
set_option linter.all false
set_option maxRecDepth 100000
set_option maxHeartbeats 4000000
namespace AL
open PySem PySem.Spec PyProof.Rows L2

noncomputable def cutL {α : Type} (xs : List α) (lo hi : Option Int) : List α := (xs.drop (HT.sIx xs.length 0 lo)).take (HT.sIx xs.length xs.length hi - HT.sIx xs.length 0 lo)
section
variable {X : Cx} {pos p2 : Pos} {σ : St} {H : Hp}
noncomputable abbrev FO := Ev → Mu → Rs (Option Int)
noncomputable def AftO (K : PySem.W.Frag) (em : Em) (H : Hp) (r : Rs (Option Int)) (Q : Option Int → Hp → Prop) : Prop :=
  match r with
  | .ok o μ' => ∀ (em' : Em) (H' : Hp), em <+: em' → Ext K H H' → RpSt K em' μ' H' → Q o H'
  | _ => False
noncomputable def tAO (X : Cx) (f : FO) : TO := fun σ H Q => ∃ ρ μ em, RpEnv X.K em H ρ σ ∧ RpSt X.K em μ H ∧ AftO X.K em H (f ρ μ) Q
noncomputable def APt (X : Cx) (e : Option Expr) (f : FO) : Prop := PO X e (tAO X f)
noncomputable def fNoPart : FO := fun _ μ => .ok none μ
noncomputable def fPart (f : FE) : FO := fun ρ μ => (f ρ μ).bd fun d μ1 => match d with
  | .int i => .ok (some i) μ1
  | _ => .no
theorem PO.imp {e : Option Expr} {t t' : TO} (h : PO X e t) (i : ∀ σ H Q, t' σ H Q → t σ H Q) : PO X e t' := fun pins s σ H Q I q => h pins s σ H Q I (i σ H Q q)
theorem ap_none : APt X none fNoPart := PO.imp po_none fun σ H Q ⟨ρ, μ, em, E, S, h⟩ => h em H (List.prefix_refl _) Ext.refl S
theorem AftO.mono {K : PySem.W.Frag} {em em1 : Em} {H1 : Hp} {r : Rs (Option Int)} {Q : Option Int → Hp → Prop} (h : AftO K em H r Q) (p : em <+: em1) (x : Ext K H H1) : AftO K em1 H1 r Q := by
  cases r with
  | ok d μ' => exact fun em' H' p' x' => h em' H' (p.trans p') (x.trans x')
  | exc C fs μ' => exact h
  | no => exact h
theorem ap_some {e : Expr} {f : FE} (h : AE X e f) : APt X (some e) (fPart f) := PO.imp (po_some h) fun σ H Q ⟨ρ, μ, em, E, S, h⟩ =>
  tA_mono (step (P := fun em H r => AftO X.K em H r Q) (fun h p x => h.mono p x) (fun h => h) (fun h => h) E S h) fun v H1 ⟨em1, d, μ1, M, r, h1⟩ => by
    cases d with
    | int i => simp only [Rp] at r; exact ⟨i, r, h1 em1 H1 (List.prefix_refl _) Ext.refl M.S⟩
    | _ => exact h1.elim
noncomputable def fSl (g : AV → Option Int → Option Int → Mu → Rs AV) (fe : FE) (fl fu : FO) : FE := fun ρ μ => (fe ρ μ).bd fun d μ1 => (fl ρ μ1).bd fun lo μ2 => (fu ρ μ2).bd fun hi μ3 => g d lo hi μ3
noncomputable def rSlA (K : PySem.W.Frag) (g : AV → Option Int → Option Int → Mu → Rs AV) : V → Option Int → Option Int → Hp → VK → Prop := fun x lo hi H Q => ∃ a μ em, Rp K em H a x ∧ RpSt K em μ H ∧ Aft K em H (g a lo hi μ) Q
theorem stepO {f : FO} {k : Option Int → Mu → Rs AV} {em : Em} {μ : Mu} {ρ : Ev} {Q : VK} (E : RpEnv X.K em H ρ σ) (S : RpSt X.K em μ H) (h : Aft X.K em H ((f ρ μ).bd k) Q) :
    tAO X f σ H fun o H1 => ∃ em1 μ1, Mid X.K em H ρ σ em1 μ1 H1 ∧ Aft X.K em1 H1 (k o μ1) Q := by
  refine ⟨ρ, μ, em, E, S, ?_⟩
  cases e : f ρ μ with
  | ok d μ1 =>
    rw [e] at h
    exact fun em1 H1 p x S1 => ⟨em1, μ1, ⟨p, x, E.mono p x, S1⟩, Aft.mono h p x⟩
  | exc C fs μ1 => rw [e] at h; exact h.elim
  | no => rw [e] at h; exact h.elim
theorem tAO_mono {f : FO} {Q Q' : Option Int → Hp → Prop} (h : tAO X f σ H Q) (i : ∀ v H, Q v H → Q' v H) : tAO X f σ H Q' := by
  obtain ⟨ρ, μ, em, E, S, h⟩ := h
  refine ⟨ρ, μ, em, E, S, ?_⟩
  cases e : f ρ μ with
  | ok d μ' => rw [e] at h; exact fun em' H' p x S => i _ _ (h em' H' p x S)
  | exc C fs μ' => rw [e] at h; exact h
  | no => rw [e] at h; exact h
theorem ae_sl {g : AV → Option Int → Option Int → Mu → Rs AV} {e : Expr} {lo hi : Option Expr} {fe : FE} {fl fu : FO} (hr : SlR X (rSlA X.K g)) (he : AE X e fe) (hl : APt X lo fl) (hu : APt X hi fu) : AE X (.Subscript e (.Slice lo hi none p2) pos) (fSl g fe fl fu) :=
  PE.imp (pe_slice hr he hl hu) fun σ H Q ⟨ρ, μ, em, E, S, h⟩ => tA_mono (step_e (f := fe) E S h) fun x H1 ⟨em1, d, μ1, M, r, h1⟩ =>
    tAO_mono (stepO (f := fl) M.E M.S h1) fun o H2 ⟨em2, μ2, M2, h2⟩ => tAO_mono (stepO (f := fu) M2.E M2.S h2) fun o2 H3 ⟨em3, μ3, M3, h3⟩ =>
      ⟨d, μ3, em3, (r.mono M2.p M2.x).mono M3.p M3.x, M3.S, h3⟩
noncomputable def slA (a : AV) (lo hi : Option Int) (μ : Mu) : Rs AV := match a with
  | .loc i => match lstAt μ i with
    | some ds => .ok (.loc μ.length) (μ ++ [.lst (cutL ds lo hi)])
    | none => .no
  | _ => .no
theorem RpL.cut {K : PySem.W.Frag} {em : Em} {ds : List AV} {xs : List V} (r : RpL K em H ds xs) (lo hi : Option Int) : RpL K em H (cutL ds lo hi) (cutV xs lo hi) := by
  unfold cutL cutV
  rw [r.length]
  exact (r.drop _).take _
theorem sa_sl : SlR X (rSlA X.K slA) := by
  intro pins s σ H x v vl vu lo hi sl Q I rx hs pl pu ⟨a, μ, em, ra, S, q⟩
  cases a with
  | loc i =>
    simp only [Rp] at ra
    obtain ⟨p, ep, rfl⟩ := ra
    unfold slA at q
    cases h : lstAt μ i with
    | none => simp only [h] at q; exact q.elim
    | some ds =>
      simp only [h] at q
      obtain ⟨xs, hq, rl⟩ := S.sq h ep
      refine sl_list pins s σ H _ v vl vu lo hi sl Q I rx hs pl pu ⟨p, xs, rfl, hq, fun p' hp => ?_⟩
      obtain ⟨S2, r2⟩ := S.newL hp (rl.cut lo hi)
      exact q _ _ _ (List.prefix_append _ _) (Ext.fresh hp) S2 r2
  | _ => exact q.elim

variable {x : Str} {p : Pos} {e : Expr} {es : List Expr} {fl : FL} {id T : String}
noncomputable def fCB (g : List AV → Mu → Rs AV) (fl : FL) : FE := fun ρ μ => (fl ρ μ).bd g
noncomputable def rCA (K : PySem.W.Frag) (g : List AV → Mu → Rs AV) : List V → Hp → VK → Prop := fun xs H Q => ∃ ds μ em, RpL K em H ds xs ∧ RpSt K em μ H ∧ Aft K em H (g ds μ) Q
theorem ae_callB {g : List AV → Mu → Rs AV} (hc : CallR X (.builtin id) (rCA X.K g)) (hv : bootBuiltins x = some (.builtin id)) (ha : AA X (e :: es) fl) (hm : X.mg x = none) (hg : Gl X x := by rfl) (hn : x ≠ "__name__" := by decide +kernel) (hdb : (x == ("__debug__" : Str)) = false := by decide +kernel)
    (he : starEach (e :: es) X.env = (false, eval e X.env) :: starEach es X.env := by rfl) (hpl : (backTo pos (starEach es X.env)).any (·.1) = false := by rfl) : AE X (.Call (.Name x p) (e :: es) [] pos) (fCB g fl) :=
  PE.imp (pe_callB hc hg hm hv ha hn hdb he hpl) fun σ H Q ⟨ρ, μ, em, E, S, h⟩ => tAL_mono (steps (f := fl) E S h) fun vs H1 ⟨em1, ds, μ1, M, r, h1⟩ => ⟨ds, μ1, em1, r, M.S, h1⟩
noncomputable def lenA (ds : List AV) (μ : Mu) : Rs AV := match ds with
  | [.str x] => if x.length ≤ LIM then .ok (.int x.length) μ else .no
  | [.tup ds] => .ok (.int ds.length) μ
  | [.loc i] => match lstAt μ i with
    | some ds => .ok (.int ds.length) μ
    | none => .no
  | _ => .no
theorem ca_len : CallR X (.builtin "len") (rCA X.K lenA) := by
  intro pins s σ H xs us Q I rs ⟨ds, μ, em, rl, S, q⟩
  match ds, rl, q with
  | [], _, q => exact q.elim
  | a :: b :: t, _, q => cases a <;> exact q.elim
  | [a], rl, q =>
    obtain ⟨x, r, rfl, ra, rt⟩ := rl.uncons
    have := rt.unnil
    subst this
    cases a with
    | str z =>
      simp only [Rp] at ra
      subst ra
      obtain ⟨hz, q⟩ := Aft.ite q
      exact call_len pins s σ H _ us Q I rs ⟨_, z.length, rfl, ⟨by rw [str_len, ← LIM_eq]; exact hz, (str_len z).symm⟩, q.here S (by simp only [Rp])⟩
    | tup ds =>
      simp only [Rp] at ra
      obtain ⟨p, xs, rfl, hq, rl⟩ := ra
      exact call_len pins s σ H _ us Q I rs ⟨_, ds.length, rfl, .inr ⟨xs, hq, rl.length.symm⟩, q.here S (by simp only [Rp])⟩
    | loc i =>
      simp only [Rp] at ra
      obtain ⟨p, ep, rfl⟩ := ra
      unfold lenA at q
      cases h : lstAt μ i with
      | none => simp only [h] at q; exact q.elim
      | some ds =>
        simp only [h] at q
        obtain ⟨xs, hq, rl⟩ := S.sq h ep
        exact call_len pins s σ H _ us Q I rs ⟨_, ds.length, rfl, .inl ⟨xs, hq, rl.length.symm⟩, q.here S (by simp only [Rp])⟩
    | _ => exact q.elim
noncomputable def tyOf : AV → Option String
  | .bl _ => some "bool"
  | .int _ => some "int"
  | .str _ => some "str"
  | .non => some "NoneType"
  | _ => none
theorem bt_str : bootBuiltins "str" = some (.type "str") := by decide +kernel
noncomputable def rMA (K : PySem.W.Frag) (g : AV → List AV → Mu → Rs AV) : V → List V → Hp → VK → Prop := fun x xs H Q => ∃ d ds μ em, Rp K em H d x ∧ RpL K em H ds xs ∧ RpSt K em μ H ∧ Aft K em H (g d ds μ) Q
noncomputable def isT (T : String) (d : AV) (μ : Mu) : Bool := match d with
  | .str _ => T == "str"
  | .loc i => T == "list" && (lstAt μ i).isSome
  | _ => false
noncomputable def fBM (T : String) (g : AV → List AV → Mu → Rs AV) (fo : FE) (fl : FL) : FE := fun ρ μ => (fo ρ μ).bd fun d μ1 => if isT T d μ1 = true then (fl ρ μ1).bd fun ds μ2 => g d ds μ2 else .no
theorem isT_ty {d : AV} {μ : Mu} {em : Em} {v : V} (h : isT T d μ = true) (r : Rp X.K em H d v) (S : RpSt X.K em μ H) : tyV X.K T v H := by
  cases d with
  | str z => simp only [Rp] at r; subst r; exact beq_iff_eq.mp h
  | loc i =>
    simp only [Rp] at r
    obtain ⟨p, ep, rfl⟩ := r
    have h' : (T == "list" && (lstAt μ i).isSome) = true := h
    rw [Bool.and_eq_true] at h'
    cases e : lstAt μ i with
    | none => rw [e] at h'; cases h'.2
    | some ds =>
      obtain ⟨xs, hq, _⟩ := S.sq e ep
      exact .inl ⟨beq_iff_eq.mp h'.1, xs, hq⟩
  | _ => cases h
theorem ae_bm {g : AV → List AV → Mu → Rs AV} {o : Expr} {fo : FE} {name : Str} {apos cpos : Pos} (T : String) (pa : PlainAttrs T) (slot : Slot T name id) (hty : typeOf (.builtin id) = pure (.type "method_descriptor")) (hm : MtR X id (rMA X.K g)) (ho : AE X o fo) (ha : AA X (e :: es) fl)
    (hbase : attributeBase o name X.env (eval o X.env) = eval o X.env := by rfl)
    (hfew : ((backTo cpos (starEach (e :: es) X.env)).all (fun x => !x.1) && (backToKw cpos (keywordEach [] X.env)).all (fun x => x.1.isSome)
      && decide ((e :: es).length + ([] : List Keyword).length + (if ([] : List Keyword).isEmpty then 0 else 1) < 30)) = true := by rfl)
    (hline : (apos.endLine == cpos.line) = true := by rfl) (hs : starEach (e :: es) X.env = (false, eval e X.env) :: starEach es X.env := by rfl) (hplain : (backTo cpos (starEach es X.env)).any (·.1) = false := by rfl) :
    AE X (.Call (.Attribute o name apos) (e :: es) [] cpos) (fBM T g fo fl) :=
  PE.imp (pe_bm pa slot hty hm ho ha hbase hfew hline hs hplain) fun σ H Q ⟨ρ, μ, em, E, S, h⟩ => tA_mono (step_e (f := fo) E S h) fun v H1 ⟨em1, d, μ1, M, r, h1⟩ => by
    obtain ⟨ht, h1⟩ := Aft.ite h1
    refine ⟨isT_ty ht r M.S, ?_⟩
    exact tAL_mono (steps (f := fl) M.E M.S h1) fun vs H2 ⟨em2, ds, μ2, M2, rl, h2⟩ => ⟨d, ds, μ2, em2, r.mono M2.p M2.x, rl, M2.S, h2⟩
noncomputable def appendA (d : AV) (ds : List AV) (μ : Mu) : Rs AV := match d, ds with
  | .loc i, [y] => match μ[i]? with
    | some (.lst xs) => if xs.length < LIM then .ok .non (μ.set i (.lst (xs ++ [y]))) else .no
    | _ => .no
  | _, _ => .no
theorem ma_append : MtR X "list.append" (rMA X.K appendA) := by
  intro pins s σ H x xs v us Q I rx rs ⟨d, ds, μ, em, r, rl, S, q⟩
  cases d with
  | loc i =>
    match ds, rl, q with
    | [], _, q => exact q.elim
    | _ :: _ :: _, _, q => exact q.elim
    | [y], rl, q =>
      obtain ⟨w, t, rfl, rw', rt⟩ := rl.uncons
      have := rt.unnil
      subst this
      simp only [Rp] at r
      obtain ⟨a, ea, rfl⟩ := r
      unfold appendA at q
      cases h : μ[i]? with
      | none => simp only [h] at q; exact q.elim
      | some o =>
        cases o with
        | lst es =>
          simp only [h] at q
          obtain ⟨hz, q⟩ := Aft.ite q
          obtain ⟨zs, hz', rz⟩ := S.obj i a _ ea h
          refine mt_append pins s σ H _ _ v us Q I rx rs ⟨a, zs, w, rfl, rfl, hz', by rw [rz.length, ← LIM_eq]; exact hz, ?_⟩
          obtain ⟨S2, x2⟩ := S.setL ea h (rz.append (RpL.cons rw' RpL.nil))
          exact q em _ _ (List.prefix_refl _) x2 S2 (by simp only [Rp])
        | _ => simp only [h] at q; exact q.elim
  | _ => exact q.elim
noncomputable def findA (d : AV) (ds : List AV) (μ : Mu) : Rs AV := match d, ds with
  | .str x, [.str y] => .ok (.int (Txt.find ⟨x.toArray⟩ ⟨y.toArray⟩)) μ
  | _, _ => .no
theorem ma_find : MtR X "str.find" (rMA X.K findA) := by
  intro pins s σ H x xs v us Q I rx rs ⟨d, ds, μ, em, r, rl, S, q⟩
  cases d with
  | str z =>
    match ds, rl, q with
    | [], _, q => exact q.elim
    | a :: _ :: _, _, q => cases a <;> exact q.elim
    | [y], rl, q =>
      obtain ⟨w, t, rfl, rw', rt⟩ := rl.uncons
      have := rt.unnil
      subst this
      cases y with
      | str y =>
        simp only [Rp] at r rw'
        subst r rw'
        obtain ⟨t1, rfl⟩ := rx
        obtain ⟨u, rfl, t2, rfl⟩ := vals1 rs
        exact SC.find ⟨.int _, H, I.tok _, ⟨_, rfl⟩, q.here S (by simp only [Rp])⟩
      | _ => exact q.elim
  | _ => exact q.elim
noncomputable def spA (K : PySem.W.Frag) (n : Nat) (F : List AV → Mu → Rs AV) : Sp := fun vs H Q _ => vs.length = n ∧ ∃ ds μ em, RpL K em H ds vs ∧ RpSt K em μ H ∧ Aft K em H (F ds μ) Q
noncomputable def DefA (P : Program) (w : World) (K : PySem.W.Frag) (mg : Str → Option Value) (base : Heap) (k : Nat) (f : Addr) (fd : FuncData) (ps : List Str) (F : List AV → Mu → Rs AV) : Prop := FnOk P w K mg base CX0 k f fd ps (spA K ps.length F)
noncomputable def fCall (n : Nat) (F : List AV → Mu → Rs AV) (dfl : List AV) (fl : FL) : FE := fun ρ μ => (fl ρ μ).bd fun ds μ1 => if ds.length + dfl.length = n then F (ds ++ dfl) μ1 else .no
theorem ae_call {k : Nat} {f : Addr} {fd : FuncData} {ps : List Str} {F : List AV → Mu → Rs AV} (D : DefA X.prog X.w X.K X.mg X.base k f fd ps F) (hr : Room k X.A) (hm : X.mg x = some (.ref f)) (hk : PySem.W.keepIn X.K (.ref f) = true) (hb : Binds X.K fd ps [])
    (ha : AA X (e :: es) fl) {n : Nat} (hn : ps.length = n := by rfl) (hg : Gl X x := by rfl) (hdb : (x == ("__debug__" : Str)) = false := by decide +kernel) (he : starEach (e :: es) X.env = (false, eval e X.env) :: starEach es X.env := by rfl) (hpl : (backTo pos (starEach es X.env)).any (·.1) = false := by rfl) :
    AE X (.Call (.Name x p) (e :: es) [] pos) (fCall n F [] fl) :=
  PE.imp (pe_call D hr hg hm hk hb .nil pass0 ha hdb he hpl) fun σ H Q ⟨ρ, μ, em, E, S, h⟩ => tAL_mono (steps (f := fl) E S h) fun vs H1 ⟨em1, ds, μ1, M, r, h1⟩ => by
    obtain ⟨hl, h1⟩ := Aft.ite h1
    refine ⟨?_, ds, μ1, em1, by rw [List.append_nil]; exact r, M.S, by rw [List.append_nil] at h1; exact h1⟩
    rw [List.append_nil, r.length, hn]
    simpa using hl
end
end AL

set_option Elab.async false
set_option linter.all false
set_option maxRecDepth 100000
set_option maxHeartbeats 4000000
namespace AL
open PySem PySem.Spec PyProof.Rows L2

inductive Fl where
  | nx (ρ : Ev)
  | rt (d : AV)
  | bk (ρ : Ev)
  | ct (ρ : Ev)
noncomputable abbrev FS := Ev → Mu → Rs Fl
noncomputable def AftS (K : PySem.W.Frag) (em : Em) (H : Hp) (r : Rs Fl) (D : Ends) : Prop :=
  match r with
  | .ok (.nx ρ') μ' => ∀ (em' : Em) (H' : Hp) (σ' : St), em <+: em' → Ext K H H' → RpSt K em' μ' H' → RpEnv K em' H' ρ' σ' → D.nx σ' H'
  | .ok (.rt d) μ' => ∀ (em' : Em) (H' : Hp) (v : V), em <+: em' → Ext K H H' → RpSt K em' μ' H' → Rp K em' H' d v → D.rt v H'
  | .ok (.bk ρ') μ' => ∀ (em' : Em) (H' : Hp) (σ' : St), em <+: em' → Ext K H H' → RpSt K em' μ' H' → RpEnv K em' H' ρ' σ' → D.bk σ' H'
  | .ok (.ct ρ') μ' => ∀ (em' : Em) (H' : Hp) (σ' : St), em <+: em' → Ext K H H' → RpSt K em' μ' H' → RpEnv K em' H' ρ' σ' → D.ct σ' H'
  | _ => False
noncomputable def tAS (X : Cx) (f : FS) : TS := fun D σ H => ∃ ρ μ em, RpEnv X.K em H ρ σ ∧ RpSt X.K em μ H ∧ AftS X.K em H (f ρ μ) D
noncomputable def AS (X : Cx) (st : Stmt) (f : FS) : Prop := PS X st (tAS X f)
noncomputable def ASs (X : Cx) (st : List Stmt) (f : FS) : Prop := PSs X st (tAS X f)
section
variable {K : PySem.W.Frag} {em em1 : Em} {H H1 : Hp} {X : Cx} {pos : Pos} {σ : St} {μ : Mu} {ρ : Ev}
theorem AftS.mono {r : Rs Fl} {D : Ends} (h : AftS K em H r D) (p : em <+: em1) (x : Ext K H H1) : AftS K em1 H1 r D := by
  cases r with
  | ok fl μ' => cases fl <;> exact fun em' H' v p' x' => h em' H' v (p.trans p') (x.trans x')
  | exc C fs μ' => exact h
  | no => exact h
theorem step_s {f : FE} {k : AV → Mu → Rs Fl} {D : Ends} (E : RpEnv X.K em H ρ σ) (S : RpSt X.K em μ H) (h : AftS X.K em H ((f ρ μ).bd k) D) :
    tA X f σ H fun v H1 => ∃ em1 d μ1, Mid X.K em H ρ σ em1 μ1 H1 ∧ Rp X.K em1 H1 d v ∧ AftS X.K em1 H1 (k d μ1) D :=
  step (P := fun em H r => AftS X.K em H r D) (fun h p x => h.mono p x) (fun h => h) (fun h => h) E S h
theorem stepB_s {f : FB} {k : Bool → Mu → Rs Fl} {D : Ends} (E : RpEnv X.K em H ρ σ) (S : RpSt X.K em μ H) (h : AftS X.K em H ((f ρ μ).bd k) D) :
    tAB X f σ H fun b H1 => ∃ em1 μ1, Mid X.K em H ρ σ em1 μ1 H1 ∧ AftS X.K em1 H1 (k b μ1) D :=
  stepB (P := fun em H r => AftS X.K em H r D) (fun h p x => h.mono p x) (fun h => h) (fun h => h) E S h
noncomputable def fNx : FS := fun ρ μ => .ok (.nx ρ) μ
noncomputable def fSeq (f g : FS) : FS := fun ρ μ => match f ρ μ with
  | .ok (.nx ρ1) μ1 => g ρ1 μ1
  | r => r
theorem ass_nil : ASs X [] fNx := PSs.imp pss_nil fun D σ H ⟨ρ, μ, em, E, S, h⟩ => h em H σ (List.prefix_refl _) Ext.refl S E
theorem ass_one {st : Stmt} {f : FS} (h : AS X st f) : ASs X [st] f := pss_one h
theorem ass_cons {st : Stmt} {rest : List Stmt} {f g : FS} (h1 : AS X st f) (h2 : ASs X rest g) : ASs X (st :: rest) (fSeq f g) :=
  PSs.imp (pss_cons h1 h2) fun D σ H ⟨ρ, μ, em, E, S, h⟩ => by
    refine ⟨ρ, μ, em, E, S, ?_⟩
    unfold fSeq at h
    cases e : f ρ μ with
    | ok fl μ1 =>
      cases fl with
      | nx ρ1 =>
        simp only [e] at h
        exact fun em' H' σ' p x S' E' => ⟨ρ1, μ1, em', E', S', h.mono p x⟩
      | rt d => simp only [e] at h; exact h
      | bk ρ1 => simp only [e] at h; exact h
      | ct ρ1 => simp only [e] at h; exact h
    | exc C fs μ1 => simp only [e] at h; exact h
    | no => simp only [e] at h; exact h
variable {e c : Expr} {fe : FE} {fc : FB} {a b : List Stmt} {fa fb : FS}
noncomputable def fRet (f : FE) : FS := fun ρ μ => (f ρ μ).bd fun d μ1 => .ok (.rt d) μ1
theorem as_ret (h : AE X e fe) : AS X (.Return (some e) pos) (fRet fe) :=
  PS.imp (ps_ret h) fun D σ H ⟨ρ, μ, em, E, S, h⟩ => tA_mono (step_s (f := fe) E S h) fun v H1 ⟨em1, d, μ1, M, r, h1⟩ => h1 em1 H1 v (List.prefix_refl _) Ext.refl M.S r
noncomputable def fDrop (f : FE) : FS := fun ρ μ => (f ρ μ).bd fun _ μ1 => .ok (.nx ρ) μ1
theorem as_expr (h : AE X e fe) (hs : swapsWith e none pos.line X.env = pure false := by rfl) : AS X (.Expr e pos) (fDrop fe) :=
  PS.imp (ps_expr h hs) fun D σ H ⟨ρ, μ, em, E, S, h⟩ => tA_mono (step_s (f := fe) E S h) fun v H1 ⟨em1, d, μ1, M, r, h1⟩ => h1 em1 H1 σ (List.prefix_refl _) Ext.refl M.S M.E
noncomputable def fIf (fc : FB) (fa fb : FS) : FS := fun ρ μ => (fc ρ μ).bd fun k μ1 => if k then fa ρ μ1 else fb ρ μ1
theorem as_if (hc : AT X c fc) (ha : ASs X a fa) (hb : ASs X b fb) : AS X (.If c a b pos) (fIf fc fa fb) :=
  PS.imp (ps_if hc ha hb) fun D σ H ⟨ρ, μ, em, E, S, h⟩ => tAB_mono (stepB_s (f := fc) E S h) fun k H1 ⟨em1, μ1, M, h1⟩ => by
    cases k with
    | true => exact iteT ⟨ρ, μ1, em1, M.E, M.S, h1⟩
    | false => exact iteF ⟨ρ, μ1, em1, M.E, M.S, h1⟩

noncomputable abbrev FG := AV → Ev → Mu → Rs Ev
noncomputable def AftG (K : PySem.W.Frag) (em : Em) (H : Hp) (r : Rs Ev) (Q : St → Hp → Prop) : Prop :=
  match r with
  | .ok ρ' μ' => ∀ (em' : Em) (H' : Hp) (σ' : St), em <+: em' → Ext K H H' → RpSt K em' μ' H' → RpEnv K em' H' ρ' σ' → Q σ' H'
  | _ => False
noncomputable def tAG (X : Cx) (g : FG) : TG := fun v σ H Q => ∃ d ρ μ em, Rp X.K em H d v ∧ RpEnv X.K em H ρ σ ∧ RpSt X.K em μ H ∧ AftG X.K em H (g d ρ μ) Q
noncomputable def AG (X : Cx) (tg : Expr) (g : FG) : Prop := PG X tg (tAG X g)
noncomputable def tAGs (X : Cx) (g : List AV → Ev → Mu → Rs Ev) : TGs := fun vs σ H Q => ∃ ds ρ μ em, RpL X.K em H ds vs ∧ RpEnv X.K em H ρ σ ∧ RpSt X.K em μ H ∧ AftG X.K em H (g ds ρ μ) Q
noncomputable def AGs (X : Cx) (ts : List Expr) (g : List AV → Ev → Mu → Rs Ev) : Prop := PGs X ts (tAGs X g)
theorem PG.imp {tg : Expr} {t t' : TG} (h : PG X tg t) (i : ∀ v σ H Q, t' v σ H Q → t v σ H Q) : PG X tg t' := fun pins s σ H v u Q I r q => h pins s σ H v u Q I r (i v σ H Q q)
theorem PGs.imp {ts : List Expr} {t t' : TGs} (h : PGs X ts t) (i : ∀ v σ H Q, t' v σ H Q → t v σ H Q) : PGs X ts t' := fun pins s σ H v u Q I r q => h pins s σ H v u Q I r (i v σ H Q q)
theorem AftG.mono {r : Rs Ev} {Q : St → Hp → Prop} (h : AftG K em H r Q) (p : em <+: em1) (x : Ext K H H1) : AftG K em1 H1 r Q := by
  cases r with
  | ok d μ' => exact fun em' H' v p' x' => h em' H' v (p.trans p') (x.trans x')
  | exc C fs μ' => exact h
  | no => exact h
noncomputable def gNm (i : Nat) : FG := fun d ρ μ => .ok (ρ.set i (some d)) μ
theorem ag_name (i : Nat) {x : Str} (hN : X.N.Nodup) (hi : X.N[i]? = some x := by rfl) (hx : Loc X.env.scope x := by first | exact Or.inl rfl | exact Or.inr rfl) (hf : X.fn x = true ∨ X.env.scope.names.lookup x = some .local := by first | exact .inl rfl | exact .inr rfl) : AG X (.Name x pos) (gNm i) :=
  PG.imp (pg_name hN hi hx hf) fun v σ H Q ⟨d, ρ, μ, em, r, E, S, h⟩ => h em H _ (List.prefix_refl _) Ext.refl S (E.set r i)
noncomputable def gsNil : List AV → Ev → Mu → Rs Ev := fun ds ρ μ => match ds with
  | [] => .ok ρ μ
  | _ => .no
noncomputable def gsCons (g : FG) (gs : List AV → Ev → Mu → Rs Ev) : List AV → Ev → Mu → Rs Ev := fun ds ρ μ => match ds with
  | d :: r => (g d ρ μ).bd fun ρ1 μ1 => gs r ρ1 μ1
  | [] => .no
theorem ags_nil : AGs X [] gsNil := PGs.imp pgs_nil fun vs σ H Q ⟨ds, ρ, μ, em, r, E, S, h⟩ => by
  cases ds with
  | nil => exact ⟨r.unnil, h em H σ (List.prefix_refl _) Ext.refl S E⟩
  | cons d r => exact h.elim
theorem ags_cons {t : Expr} {ts : List Expr} {g : FG} {gs : List AV → Ev → Mu → Rs Ev} (h1 : AG X t g) (h2 : AGs X ts gs) (hs : (assignEach (t :: ts) X.env).map (·.2) = assign t X.env :: (assignEach ts X.env).map (·.2) := by rfl) : AGs X (t :: ts) (gsCons g gs) :=
  PGs.imp (pgs_cons h1 h2 hs) fun vs σ H Q ⟨ds, ρ, μ, em, r, E, S, h⟩ => by
    cases ds with
    | nil => exact h.elim
    | cons d ds =>
      obtain ⟨v, vr, rfl, r1, r2⟩ := r.uncons
      refine ⟨v, vr, rfl, d, ρ, μ, em, r1, E, S, ?_⟩
      have h : AftG X.K em H ((g d ρ μ).bd fun ρ1 μ1 => gs ds ρ1 μ1) Q := h
      cases e : g d ρ μ with
      | ok ρ1 μ1 =>
        rw [e] at h
        exact fun em' H' σ' p x S' E' => ⟨ds, ρ1, μ1, em', r2.mono p x, E', S', AftG.mono h p x⟩
      | exc C fs μ1 => rw [e] at h; exact h
      | no => rw [e] at h; exact h
noncomputable def gTp (n : Nat) (gs : List AV → Ev → Mu → Rs Ev) : FG := fun d ρ μ => match d with
  | .tup ds => if ds.length = n then gs ds ρ μ else .no
  | _ => .no
theorem ag_tup {ts : List Expr} {k n : Nat} {gs : List AV → Ev → Mu → Rs Ev} (hc : X.calm = true) (h : AGs X ts gs) (hn : (assignEach ts X.env).length = n := by rfl) (hst : (assignEach ts X.env).findIdx? (·.1) = none := by rfl) : AG X (.Tuple ts k pos) (gTp n gs) :=
  PG.imp (pg_tup hc h hn hst) fun v σ H Q ⟨d, ρ, μ, em, r, E, S, h⟩ => by
    cases d with
    | tup ds =>
      simp only [Rp] at r
      obtain ⟨a, xs, rfl, hq, rl⟩ := r
      have h : AftG X.K em H (if ds.length = n then gs ds ρ μ else .no) Q := h
      by_cases hl : ds.length = n
      · rw [if_pos hl] at h
        exact ⟨a, xs, rfl, hq, by rw [rl.length]; exact hl, ds, ρ, μ, em, rl, E, S, h⟩
      · rw [if_neg hl] at h
        exact h.elim
    | _ => exact h.elim
noncomputable def fAsg (f : FE) (g : FG) : FS := fun ρ μ => (f ρ μ).bd fun d μ1 => (g d ρ μ1).bd fun ρ1 μ2 => .ok (.nx ρ1) μ2
theorem asg_of {f : FE} {g : FG} {D : Ends} (h : tAS X (fAsg f g) D σ H) : tAsg (tA X f) (tAG X g) D σ H := by
  obtain ⟨ρ, μ, em, E, S, h⟩ := h
  refine tA_mono (step_s (f := f) E S h) fun v H1 ⟨em1, d, μ1, M, r, h1⟩ => ⟨d, ρ, μ1, em1, r, M.E, M.S, ?_⟩
  cases e : g d ρ μ1 with
  | ok ρ1 μ2 => simp only [e, Rs.bd_ok] at h1; exact h1
  | exc C fs μ2 => simp only [e, Rs.bd_exc] at h1; exact h1
  | no => simp only [e, Rs.bd_no] at h1; exact h1
theorem as_set (i : Nat) {x : Str} {pos' : Pos} (hN : X.N.Nodup) (he : AE X e fe) (hi : X.N[i]? = some x := by rfl) (hx : Loc X.env.scope x := by first | exact Or.inl rfl | exact Or.inr rfl) (hs : swapsWith e (some (.Name x pos')) pos.line X.env = pure false := by rfl)
    (hf : X.fn x = true ∨ X.env.scope.names.lookup x = some .local := by first | exact .inl rfl | exact .inr rfl) : AS X (.Assign [.Name x pos'] e pos) (fAsg fe (gNm i)) :=
  PS.imp (ps_set hN hi hx he hs hf) fun D σ H h => by
    have h := asg_of h
    refine tA_mono h fun v H1 ⟨d, ρ, μ, em, r, E, S, q⟩ => ?_
    exact q em H1 _ (List.prefix_refl _) Ext.refl S (E.set r i)
noncomputable def fWhile : Nat → FB → FS → FS
  | 0, _, _ => fun _ _ => .no
  | n + 1, fc, fb => fun ρ μ => (fc ρ μ).bd fun k μ1 => if k then (match fb ρ μ1 with
      | .ok (.nx ρ2) μ2 => fWhile n fc fb ρ2 μ2
      | .ok (.ct ρ2) μ2 => fWhile n fc fb ρ2 μ2
      | .ok (.bk ρ2) μ2 => .ok (.nx ρ2) μ2
      | r => r) else .ok (.nx ρ) μ1
inductive AIt where
  | l (i : Nat)
  | s (ds : List AV)
noncomputable def AIt.get (it : AIt) (μ : Mu) (k : Nat) : Option (Option AV) := match it with
  | .l i => (lstAt μ i).map fun ds => ds[k]?
  | .s ds => some ds[k]?
noncomputable def forN : Nat → AIt → Nat → FG → FS → FS
  | 0, _, _, _, _ => fun _ _ => .no
  | n + 1, it, k, g, fb => fun ρ μ => match it.get μ k with
    | none => .no
    | some none => .ok (.nx ρ) μ
    | some (some d) => (g d ρ μ).bd fun ρ1 μ1 => match fb ρ1 μ1 with
      | .ok (.nx ρ2) μ2 => forN n it (k + 1) g fb ρ2 μ2
      | .ok (.ct ρ2) μ2 => forN n it (k + 1) g fb ρ2 μ2
      | .ok (.bk ρ2) μ2 => .ok (.nx ρ2) μ2
      | r => r
noncomputable def ItRp (K : PySem.W.Frag) (em : Em) (H : Hp) (it : AIt) (J : It) : Prop :=
  ∀ (em2 : Em) (H2 : Hp) (μ2 : Mu) (k : Nat), em <+: em2 → Ext K H H2 → RpSt K em2 μ2 H2 →
    (it.get μ2 k = some none → J.stop k H2) ∧ ∀ d, it.get μ2 k = some (some d) → J.go k H2 ∧ ∀ x H3, J.yld k H2 x H3 → H3 = H2 ∧ Rp K em2 H2 d x
noncomputable abbrev FI := Ev → Mu → Rs AIt
noncomputable def AftI (K : PySem.W.Frag) (em : Em) (H : Hp) (r : Rs AIt) (R : It → Hp → Prop) : Prop :=
  match r with
  | .ok it μ' => ∀ (em' : Em) (H' : Hp) (J : It), em <+: em' → Ext K H H' → RpSt K em' μ' H' → ItRp K em' H' it J → R J H'
  | _ => False
noncomputable def tAI (X : Cx) (f : FI) : TI := fun σ H R => ∃ ρ μ em, RpEnv X.K em H ρ σ ∧ RpSt X.K em μ H ∧ AftI X.K em H (f ρ μ) R
noncomputable def AI (X : Cx) (tg e : Expr) (f : FI) : Prop := PI X tg e (tAI X f)
theorem PI.imp {tg e : Expr} {t t' : TI} (h : PI X tg e t) (i : ∀ σ H R, t' σ H R → t σ H R) : PI X tg e t' := fun pins s σ H R I q => h pins s σ H R I (i σ H R q)
theorem AftI.mono {r : Rs AIt} {R : It → Hp → Prop} (h : AftI K em H r R) (p : em <+: em1) (x : Ext K H H1) : AftI K em1 H1 r R := by
  cases r with
  | ok d μ' => exact fun em' H' J p' x' => h em' H' J (p.trans p') (x.trans x')
  | exc C fs μ' => exact h
  | no => exact h
noncomputable def fFor (n : Nat) (fi : FI) (g : FG) (fb : FS) : FS := fun ρ μ => (fi ρ μ).bd fun it μ1 => forN n it 0 g fb ρ μ1
theorem as_for (n : Nat) {tg iter : Expr} {fi : FI} {g : FG} (hp : PassesOwn (model X.prog X.w) X.A X.env X.xe) (hc : X.calm = true) (hi : AI X tg iter fi) (hg : AG X tg g) (hb : ASs X b fb)
    (hs : ∀ x, foldedSetIterable iter X.env x = pure x := by intro _; rfl) : AS X (.For tg iter b [] pos) (fFor n fi g fb) :=
  PS.imp (ps_for hp hc hi hg hb hs) fun D σ H ⟨ρ, μ, em, E, S, h⟩ => by
    refine ⟨ρ, μ, em, E, S, ?_⟩
    have h : AftS X.K em H ((fi ρ μ).bd fun it μ1 => forN n it 0 g fb ρ μ1) D := h
    cases e : fi ρ μ with
    | ok it μ1 =>
      rw [e] at h
      intro em1 H1 J p1 x1 S1 IR
      refine ⟨fun i m σ H => ∃ ρ μ em2, em1 <+: em2 ∧ Ext X.K H1 H ∧ RpEnv X.K em2 H ρ σ ∧ RpSt X.K em2 μ H ∧ AftS X.K em2 H (forN m it i g fb ρ μ) D, ⟨n, ρ, μ1, em1, List.prefix_refl _, Ext.refl, E.mono p1 x1, S1, AftS.mono h p1 x1⟩, ?_⟩
      rintro i m σ2 H2 ⟨ρ2, μ2, em2, p2, x2, E2, S2, h2⟩
      obtain ⟨stop, go⟩ := IR em2 H2 μ2 i p2 x2 S2
      cases m with
      | zero => exact h2.elim
      | succ m =>
        unfold forN at h2
        cases eg : it.get μ2 i with
        | none => simp only [eg] at h2; exact h2.elim
        | some o =>
          cases o with
          | none =>
            simp only [eg] at h2
            exact .inl ⟨stop eg, h2 em2 H2 σ2 (List.prefix_refl _) Ext.refl S2 E2⟩
          | some d =>
            simp only [eg] at h2
            obtain ⟨g1, g2⟩ := go d eg
            refine .inr ⟨g1, fun σ' H' => ∃ ρ μ em3, em1 <+: em3 ∧ Ext X.K H1 H' ∧ RpEnv X.K em3 H' ρ σ' ∧ RpSt X.K em3 μ H' ∧ AftS X.K em3 H' (forN m it (i + 1) g fb ρ μ) D, fun σ' H' q => ⟨m, Nat.lt_succ_self m, q⟩, fun x H3 y => ?_⟩
            obtain ⟨rfl, rx⟩ := g2 x H3 y
            refine ⟨d, ρ2, μ2, em2, rx, E2, S2, ?_⟩
            cases e3 : g d ρ2 μ2 with
            | ok ρ3 μ3 =>
              simp only [e3, Rs.bd_ok] at h2
              intro em4 H4 σ4 p4 x4 S4 E4
              refine ⟨ρ3, μ3, em4, E4, S4, ?_⟩
              cases e5 : fb ρ3 μ3 with
              | ok fl μ5 =>
                simp only [e5] at h2
                cases fl with
                | nx ρ5 => exact fun em' H' σ' p x S' E' => ⟨ρ5, μ5, em', p2.trans (p4.trans p), x2.trans (x4.trans x), E', S', AftS.mono h2 (p4.trans p) (x4.trans x)⟩
                | ct ρ5 => exact fun em' H' σ' p x S' E' => ⟨ρ5, μ5, em', p2.trans (p4.trans p), x2.trans (x4.trans x), E', S', AftS.mono h2 (p4.trans p) (x4.trans x)⟩
                | bk ρ5 => exact AftS.mono (r := .ok (.nx ρ5) μ5) h2 p4 x4
                | rt d5 => exact AftS.mono (r := .ok (.rt d5) μ5) h2 p4 x4
              | exc C fs μ5 => simp only [e5] at h2; exact h2
              | no => simp only [e5] at h2; exact h2
            | exc C fs μ3 => simp only [e3, Rs.bd_exc] at h2; exact h2
            | no => simp only [e3, Rs.bd_no] at h2; exact h2
    | exc C fs μ1 => rw [e] at h; exact h
    | no => rw [e] at h; exact h
noncomputable def fiL (f : FE) : FI := fun ρ μ => (f ρ μ).bd fun d μ1 => match d with
  | .loc i => if (lstAt μ1 i).isSome = true then .ok (.l i) μ1 else .no
  | _ => .no
theorem ai_list {tg l : Expr} {f : FE} (h : AE X l f) : AI X tg l (fiL f) :=
  PI.imp (pi_list h) fun σ H R ⟨ρ, μ, em, E, S, h⟩ => tA_mono (step (P := fun em H r => AftI X.K em H r R) (fun h p x => h.mono p x) (fun h => h) (fun h => h) E S h) fun v H1 ⟨em1, d, μ1, M, r, h1⟩ => by
    cases d with
    | loc i =>
      simp only [Rp] at r
      obtain ⟨a, ea, rfl⟩ := r
      have h1 : AftI X.K em1 H1 (if (lstAt μ1 i).isSome = true then .ok (.l i) μ1 else .no) R := h1
      by_cases hs : (lstAt μ1 i).isSome = true
      · rw [if_pos hs] at h1
        obtain ⟨ds, hd⟩ := Option.isSome_iff_exists.mp hs
        obtain ⟨xs, hq, rl⟩ := M.S.sq hd ea
        refine ⟨a, rfl, ⟨xs, hq⟩, h1 em1 H1 _ (List.prefix_refl _) Ext.refl M.S fun em2 H2 μ2 k p x S2 => ⟨fun hg => ?_, fun d' hg => ?_⟩⟩
        · unfold AIt.get at hg
          cases e : lstAt μ2 i with
          | none => simp only [e, Option.map_none] at hg; cases hg
          | some es =>
            simp only [e, Option.map_some] at hg
            obtain ⟨ys, hy, ry⟩ := S2.sq e (pre_get p ea)
            exact ⟨ys, hy, by rw [ry.length]; exact List.getElem?_eq_none_iff.mp (Option.some.inj hg)⟩
        · unfold AIt.get at hg
          cases e : lstAt μ2 i with
          | none => simp only [e, Option.map_none] at hg; cases hg
          | some es =>
            simp only [e, Option.map_some] at hg
            obtain ⟨ys, hy, ry⟩ := S2.sq e (pre_get p ea)
            obtain ⟨y, ey, rr⟩ := ry.get (Option.some.inj hg)
            refine ⟨⟨ys, y, hy, ey⟩, fun x H3 yl => ⟨yl.1, ?_⟩⟩
            have := yl.2 ys hy
            rw [ey] at this
            cases this
            exact rr
      · rw [if_neg hs] at h1
        exact h1.elim
    | _ => exact h1.elim
noncomputable def fiT (f : FE) : FI := fun ρ μ => (f ρ μ).bd fun d μ1 => match d with
  | .tup ds => .ok (.s ds) μ1
  | _ => .no
theorem ai_tup {tg l : Expr} {f : FE} (h : AE X l f) : AI X tg l (fiT f) :=
  PI.imp (pi_tup h) fun σ H R ⟨ρ, μ, em, E, S, h⟩ => tA_mono (step (P := fun em H r => AftI X.K em H r R) (fun h p x => h.mono p x) (fun h => h) (fun h => h) E S h) fun v H1 ⟨em1, d, μ1, M, r, h1⟩ => by
    cases d with
    | tup ds =>
      simp only [Rp] at r
      obtain ⟨a, xs, rfl, hq, rl⟩ := r
      refine ⟨a, rfl, ⟨xs, hq⟩, h1 em1 H1 _ (List.prefix_refl _) Ext.refl M.S fun em2 H2 μ2 k p x S2 => ⟨fun hg => ?_, fun d' hg => ?_⟩⟩
      · exact ⟨xs, x _ _ hq, by rw [rl.length]; exact List.getElem?_eq_none_iff.mp (Option.some.inj hg)⟩
      · obtain ⟨y, ey, rr⟩ := rl.get (Option.some.inj hg)
        refine ⟨⟨xs, y, x _ _ hq, ey⟩, fun z H3 yl => ⟨yl.1, ?_⟩⟩
        have := yl.2 xs (x _ _ hq)
        rw [ey] at this
        cases this
        exact rr.mono p x
    | _ => exact h1.elim
noncomputable def rngL (lo : Int) (n : Nat) : List AV := (List.range n).map fun (i : Nat) => AV.int (lo + (i : Int))
theorem rngL_get (lo : Int) (n k : Nat) : (rngL lo n)[k]? = if k < n then some (AV.int (lo + (k : Int))) else none := by
  unfold rngL
  rw [List.getElem?_map]
  by_cases h : k < n
  · rw [List.getElem?_range h, if_pos h]; rfl
  · rw [List.getElem?_eq_none (by simpa using h), if_neg h]; rfl
noncomputable def fiR1 (fl : FL) : FI := fun ρ μ => (fl ρ μ).bd fun ds μ1 => match ds with
  | [.int j] => if sm 62 j = true then .ok (.s (rngL 0 j.toNat)) μ1 else .no
  | _ => .no
theorem ItRp.rng {lo : Int} {n : Nat} : ItRp K em H (.s (rngL lo n)) (Itr lo n) := fun em2 H2 μ2 k p x S2 => by
  have eg : (AIt.s (rngL lo n)).get μ2 k = some (rngL lo n)[k]? := rfl
  rw [eg, rngL_get]
  refine ⟨fun hg => ?_, fun d hg => ?_⟩
  · by_cases h : k < n
    · rw [if_pos h] at hg; cases hg
    · exact Nat.le_of_not_lt h
  · by_cases h : k < n
    · rw [if_pos h] at hg
      cases hg
      exact ⟨h, fun y H3 yl => ⟨yl.1, by simp only [Rp]; exact yl.2⟩⟩
    · rw [if_neg h] at hg; cases hg
theorem stepsI {f : FL} {k : List AV → Mu → Rs AIt} {R : It → Hp → Prop} (E : RpEnv X.K em H ρ σ) (S : RpSt X.K em μ H) (h : AftI X.K em H ((f ρ μ).bd k) R) :
    tAL X f σ H fun vs H1 => ∃ em1 ds μ1, Mid X.K em H ρ σ em1 μ1 H1 ∧ RpL X.K em1 H1 ds vs ∧ AftI X.K em1 H1 (k ds μ1) R := by
  refine ⟨ρ, μ, em, E, S, ?_⟩
  cases e : f ρ μ with
  | ok d μ1 =>
    rw [e] at h
    exact fun em1 H1 v p x S1 r => ⟨em1, d, μ1, ⟨p, x, E.mono p x, S1⟩, r, AftI.mono h p x⟩
  | exc C fs μ1 => rw [e] at h; exact h.elim
  | no => rw [e] at h; exact h.elim
theorem ai_range1 {tg a : Expr} {fl : FL} {p : Pos} (ha : AA X [a] fl) (hm : X.mg "range" = none) (hg : Gl X "range" := by rfl) (hs : starEach [a] X.env = [(false, eval a X.env)] := by rfl) : AI X tg (.Call (.Name "range" p) [a] [] pos) (fiR1 fl) :=
  PI.imp (pi_range1 hg hm ha hs) fun σ H R ⟨ρ, μ, em, E, S, h⟩ => tAL_mono (stepsI (f := fl) E S h) fun vs H1 ⟨em1, ds, μ1, M, r, h1⟩ => by
    match ds, r, h1 with
    | [], _, h1 => exact h1.elim
    | a :: b :: t, _, h1 => cases a <;> exact h1.elim
    | [d], r, h1 =>
      obtain ⟨v, t, rfl, rd, rt⟩ := r.uncons
      have := rt.unnil
      subst this
      cases d with
      | int j =>
        simp only [Rp] at rd
        subst rd
        have h1 : AftI X.K em1 H1 (if sm 62 j = true then .ok (.s (rngL 0 j.toNat)) μ1 else .no) R := h1
        by_cases hj : sm 62 j = true
        · rw [if_pos hj] at h1
          have hj' := sm_lt hj
          have e1 : (2 : Nat) ^ 62 = 4611686018427387904 := by decide
          have e2 : (2 : Int) ^ 62 = 4611686018427387904 := by decide
          rw [e1] at hj'
          exact ⟨j, rfl, by rw [e2]; omega, by rw [e2]; omega, h1 em1 H1 _ (List.prefix_refl _) Ext.refl M.S ItRp.rng⟩
        · rw [if_neg hj] at h1
          exact h1.elim
      | _ => exact h1.elim

noncomputable def startE (N : List Str) (ds : List AV) : Ev := ds.map some ++ List.replicate (N.length - ds.length) none
noncomputable def fBody (n : Nat) (N : List Str) (f : FS) : List AV → Mu → Rs AV := fun ds μ => match f (startE N ds) μ with
  | .ok (.rt d) μ' => .ok d μ'
  | .ok (.nx _) μ' => .ok .non μ'
  | .exc C fs μ' => .exc C fs μ'
  | _ => .no
theorem RpL.start {N : List Str} {ds : List AV} {vs : List V} (r : RpL K em H ds vs) : RpEnv K em H (startE N ds) (start N vs) := by
  unfold startE L2.start
  have hl := r.length
  refine ⟨by simp [hl], fun i d e => ?_⟩
  by_cases hi : i < ds.length
  · rw [List.getElem?_append_left (by simpa using hi), List.getElem?_map] at e
    cases e2 : ds[i]? with
    | none => rw [e2] at e; cases e
    | some d' =>
      rw [e2] at e
      cases e
      obtain ⟨v, ev, rv⟩ := r.get e2
      exact ⟨v, by rw [List.getElem?_append_left (by rw [List.length_map, hl]; exact hi), List.getElem?_map, ev]; rfl, rv⟩
  · rw [List.getElem?_append_right (by simpa using hi), List.getElem?_replicate] at e
    split at e <;> cases e
end
end AL

set_option Elab.async false
set_option linter.all false
set_option maxRecDepth 100000
set_option maxHeartbeats 4000000
namespace AL
open PySem PySem.Spec PyProof.Rows L2
section
variable {K : PySem.W.Frag} {em : Em} {H : Hp} {X : Cx} {pos : Pos} {σ : St} {μ : Mu} {ρ : Ev}
noncomputable def fiS (f : FE) : FI := fun ρ μ => (f ρ μ).bd fun d μ1 => match d with
  | .str x => .ok (.s (x.map fun c => .str [c])) μ1
  | _ => .no
theorem ai_str {tg l : Expr} {f : FE} (h : AE X l f) : AI X tg l (fiS f) :=
  PI.imp (pi_str h) fun σ H R ⟨ρ, μ, em, E, S, h⟩ => tA_mono (step (P := fun em H r => AftI X.K em H r R) (fun h p x => h.mono p x) (fun h => h) (fun h => h) E S h) fun v H1 ⟨em1, d, μ1, M, r, h1⟩ => by
    cases d with
    | str x =>
      simp only [Rp] at r
      refine ⟨_, r, h1 em1 H1 _ (List.prefix_refl _) Ext.refl M.S fun em2 H2 μ2 k p xx S2 => ?_⟩
      have eg : (AIt.s (x.map fun c => AV.str [c])).get μ2 k = some (x.map fun c => AV.str [c])[k]? := rfl
      rw [eg, List.getElem?_map]
      refine ⟨fun hg => ?_, fun d' hg => ?_⟩
      · cases e : x[k]? with
        | none =>
          show (⟨x.toArray⟩ : Str).cps.size ≤ k
          simpa using List.getElem?_eq_none_iff.mp e
        | some c => rw [e] at hg; cases hg
      · cases e : x[k]? with
        | none => rw [e] at hg; cases hg
        | some c =>
          rw [e] at hg
          cases hg
          refine ⟨by show k < (⟨x.toArray⟩ : Str).cps.size; simpa using (List.getElem?_eq_some_iff.mp e).1, fun y H3 yl => ⟨yl.1, ?_⟩⟩
          simp only [Rp]
          exact yl.2 c (by simpa using e)
    | _ => exact h1.elim
noncomputable def strsOf : List AV → Option (List (List Nat))
  | [] => some []
  | .str x :: r => (strsOf r).map (x :: ·)
  | _ :: _ => none
noncomputable def joinL (sep : List Nat) : List (List Nat) → List Nat
  | [] => []
  | [x] => x
  | x :: y :: r => x ++ sep ++ joinL sep (y :: r)
noncomputable def mkS (x : List Nat) : Str := ⟨x.toArray⟩
theorem strsOf_rp : ∀ {ds : List AV} {xs : List V} {ys : List (List Nat)}, RpL K em H ds xs → strsOf ds = some ys → xs = (ys.map mkS).map V.str
  | [], _, _, r, e => by
    rw [r.unnil]
    cases e
    rfl
  | d :: ds, _, _, r, e => by
    obtain ⟨x, t, rfl, r1, r2⟩ := r.uncons
    cases d with
    | str z =>
      simp only [strsOf] at e
      cases h : strsOf ds with
      | none => rw [h] at e; cases e
      | some zs =>
        rw [h] at e
        cases e
        simp only [Rp] at r1
        rw [r1, strsOf_rp r2 h]
        rfl
    | _ => cases e
theorem join_mk (sep : List Nat) : ∀ ys : List (List Nat), Str.join (mkS sep) (ys.map mkS) = mkS (joinL sep ys)
  | [] => rfl
  | [x] => rfl
  | x :: y :: r => by
    show mkS x ++ mkS sep ++ Str.join (mkS sep) ((y :: r).map mkS) = _
    rw [join_mk sep (y :: r)]
    exact (congrArg (· ++ mkS (joinL sep (y :: r))) (str_app x sep)).trans (str_app (x ++ sep) (joinL sep (y :: r)))
theorem sum_mk (ys : List (List Nat)) : ((ys.map mkS).map (·.length)).sum = (ys.map (·.length)).sum := by
  induction ys with
  | nil => rfl
  | cons y r ih =>
    simp only [List.map_cons, List.sum_cons, ih]
    rw [show (mkS y).length = y.length from str_len y]
end
end AL

set_option Elab.async false
set_option linter.all false
set_option maxRecDepth 100000
set_option maxHeartbeats 4000000
namespace AL
open PySem PySem.Spec PyProof.Rows L2
section
variable {X : Cx} {pos : Pos} {σ : St} {H : Hp}

noncomputable def sameA (a b : AV) : Option Bool := match b with
  | .non => some (match a with | .non => true | _ => false)
  | .bl y => some (match a with | .bl x => x == y | _ => false)
  | _ => none
noncomputable def isA (neg : Bool) (a b : AV) (μ : Mu) : Rs AV := match sameA a b with
  | some k => .ok (.bl (if neg then !k else k)) μ
  | none => .no
theorem same_rel {em : Em} {a b : AV} {x y : V} {v u : Value} {k : Bool} (ra : Rp X.K em H a x) (rb : Rp X.K em H b y) (rx : RelV x v) (ry : RelV y u) (h : sameA a b = some k) : plainIs v u = true ∧ (v == u) = k := by
  cases b with
  | non =>
    simp only [Rp] at rb
    subst rb
    cases ry
    simp only [sameA, Option.some.injEq] at h
    subst h
    cases a with
    | non => simp only [Rp] at ra; subst ra; cases rx; exact ⟨rfl, rfl⟩
    | bl b => simp only [Rp] at ra; subst ra; cases rx; exact ⟨rfl, rfl⟩
    | int i => simp only [Rp] at ra; subst ra; obtain ⟨t, rfl⟩ := rx; exact ⟨rfl, rfl⟩
    | str z => simp only [Rp] at ra; subst ra; obtain ⟨t, rfl⟩ := rx; exact ⟨rfl, rfl⟩
    | tup ds => simp only [Rp] at ra; obtain ⟨p, xs, rfl, _⟩ := ra; cases rx; exact ⟨rfl, rfl⟩
    | loc i => simp only [Rp] at ra; obtain ⟨p, _, rfl⟩ := ra; cases rx; exact ⟨rfl, rfl⟩
  | bl y =>
    simp only [Rp] at rb
    subst rb
    cases ry
    simp only [sameA, Option.some.injEq] at h
    subst h
    cases a with
    | non => simp only [Rp] at ra; subst ra; cases rx; exact ⟨rfl, rfl⟩
    | bl b => simp only [Rp] at ra; subst ra; cases rx; cases b <;> cases y <;> exact ⟨rfl, rfl⟩
    | int i => simp only [Rp] at ra; subst ra; obtain ⟨t, rfl⟩ := rx; exact ⟨rfl, rfl⟩
    | str z => simp only [Rp] at ra; subst ra; obtain ⟨t, rfl⟩ := rx; exact ⟨rfl, rfl⟩
    | tup ds => simp only [Rp] at ra; obtain ⟨p, xs, rfl, _⟩ := ra; cases rx; exact ⟨rfl, rfl⟩
    | loc i => simp only [Rp] at ra; obtain ⟨p, _, rfl⟩ := ra; cases rx; exact ⟨rfl, rfl⟩
  | _ => cases h
theorem oa_is : OpR X (compareOp .Is) (rA X.K (isA false)) := by
  intro pins s σ H x y v u Q I rx ry ⟨a, b, μ, em, ra, rb, S, q⟩
  unfold isA at q
  cases h : sameA a b with
  | none => simp only [h] at q; exact q.elim
  | some k =>
    simp only [h] at q
    obtain ⟨p1, p2⟩ := same_rel ra rb rx ry h
    exact wpAny_is_plain p1 ⟨.bl k, H, I, by rw [p2]; rfl, q.here S (by simp only [Rp]; rfl)⟩
theorem oa_isnot : OpR X (compareOp .IsNot) (rA X.K (isA true)) := by
  intro pins s σ H x y v u Q I rx ry ⟨a, b, μ, em, ra, rb, S, q⟩
  unfold isA at q
  cases h : sameA a b with
  | none => simp only [h] at q; exact q.elim
  | some k =>
    simp only [h] at q
    obtain ⟨p1, p2⟩ := same_rel ra rb rx ry h
    exact wpAny_isNot_plain p1 ⟨.bl (!k), H, I, by rw [p2]; rfl, q.here S (by simp only [Rp]; rfl)⟩

noncomputable def flatA : AV → Bool
  | .non => true
  | .int _ => true
  | .str _ => true
  | _ => false
noncomputable def eqF : AV → AV → Bool
  | .non, .non => true
  | .int a, .int b => a == b
  | .str a, .str b => a == b
  | _, _ => false
noncomputable def seqOf (μ : Mu) (d : AV) : Option (List AV) := match d with
  | .tup ds => some ds
  | .loc i => lstAt μ i
  | _ => none
noncomputable def inG (neg : Bool) (a b : AV) (μ : Mu) : Rs AV := match seqOf μ b with
  | some ds => if (flatA a && ds.all flatA) = true then .ok (.bl (if neg then !(ds.any fun y => eqF y a) else ds.any fun y => eqF y a)) μ else .no
  | none => inA neg a b μ
theorem RpSt.seq {em : Em} {μ : Mu} {d : AV} {ds : List AV} {x : V} (S : RpSt X.K em μ H) (h : seqOf μ d = some ds) (r : Rp X.K em H d x) : ∃ p xs, x = .ref p ∧ (SqL X.K H p xs ∨ SqT X.K H p xs) ∧ RpL X.K em H ds xs := by
  cases d with
  | tup es =>
    cases h
    simp only [Rp] at r
    obtain ⟨p, xs, rfl, hq, rl⟩ := r
    exact ⟨p, xs, rfl, .inr hq, rl⟩
  | loc i =>
    simp only [Rp] at r
    obtain ⟨p, ep, rfl⟩ := r
    obtain ⟨xs, hq, rl⟩ := S.sq h ep
    exact ⟨p, xs, rfl, .inl hq, rl⟩
  | _ => cases h
theorem flat_rel {em : Em} {a : AV} {x : V} (r : Rp X.K em H a x) (f : flatA a = true) : flatV x = true := by
  cases a with
  | non => simp only [Rp] at r; subst r; rfl
  | int i => simp only [Rp] at r; subst r; rfl
  | str z => simp only [Rp] at r; subst r; rfl
  | _ => cases f
theorem eqF_rel {em : Em} {a b : AV} {x y : V} (ra : Rp X.K em H a x) (rb : Rp X.K em H b y) (fa : flatA a = true) (fb : flatA b = true) : eqV x y = eqF a b := by
  cases a with
  | non =>
    cases b with
    | non => simp only [Rp] at ra rb; subst ra rb; rfl
    | int j => simp only [Rp] at ra rb; subst ra rb; rfl
    | str w => simp only [Rp] at ra rb; subst ra rb; rfl
    | _ => cases fb
  | int i =>
    cases b with
    | non => simp only [Rp] at ra rb; subst ra rb; rfl
    | int j => simp only [Rp] at ra rb; subst ra rb; rfl
    | str w => simp only [Rp] at ra rb; subst ra rb; rfl
    | _ => cases fb
  | str z =>
    cases b with
    | non => simp only [Rp] at ra rb; subst ra rb; rfl
    | int j => simp only [Rp] at ra rb; subst ra rb; rfl
    | str w =>
      simp only [Rp] at ra rb
      subst ra rb
      show ((⟨z.toArray⟩ : Str) == ⟨w.toArray⟩) = (z == w)
      rw [Bool.eq_iff_iff, beq_iff_eq, beq_iff_eq, toArr_inj]
    | _ => cases fb
  | _ => cases fa
theorem any_rel {em : Em} {a : AV} {x : V} (ra : Rp X.K em H a x) (fa : flatA a = true) : ∀ {ds : List AV} {xs : List V}, RpL X.K em H ds xs → ds.all flatA = true → xs.all flatV = true ∧ inV x xs = ds.any fun y => eqF y a
  | [], _, r, _ => by rw [r.unnil]; exact ⟨rfl, rfl⟩
  | d :: ds, _, r, f => by
    obtain ⟨y, t, rfl, r1, r2⟩ := r.uncons
    rw [List.all_cons, Bool.and_eq_true] at f
    obtain ⟨h1, h2⟩ := any_rel ra fa r2 f.2
    refine ⟨by rw [List.all_cons, flat_rel r1 f.1, h1]; rfl, ?_⟩
    show (eqV y x || inV x t) = _
    rw [h2, List.any_cons, eqF_rel r1 ra f.1 fa]
theorem oa_inG : OpR X (compareOp .In) (rA X.K (inG false)) := by
  intro pins s σ H x y v u Q I rx ry ⟨a, b, μ, em, ra, rb, S, q⟩
  unfold inG at q
  cases h : seqOf μ b with
  | none => simp only [h] at q; exact oa_in pins s σ H x y v u Q I rx ry ⟨a, b, μ, em, ra, rb, S, q⟩
  | some ds =>
    simp only [h] at q
    obtain ⟨hc, q⟩ := Aft.ite q
    rw [Bool.and_eq_true] at hc
    obtain ⟨p, xs, rfl, hq, rl⟩ := S.seq h rb
    obtain ⟨f1, f2⟩ := any_rel ra hc.1 rl hc.2
    refine op_in_seq pins s σ H _ _ v u Q I rx ry ⟨p, xs, rfl, hq, flat_rel ra hc.1, f1, ?_⟩
    rw [f2]
    exact q.here S (by simp only [Rp] <;> rfl)
theorem oa_notin : OpR X (compareOp .NotIn) (rA X.K (inG true)) := by
  intro pins s σ H x y v u Q I rx ry ⟨a, b, μ, em, ra, rb, S, q⟩
  unfold inG at q
  cases h : seqOf μ b with
  | none =>
    simp only [h] at q
    cases a with
    | str z =>
      cases b with
      | str w =>
        simp only [Rp] at ra rb
        subst ra rb
        refine op_notIn_str pins s σ H _ _ v u Q I rx ry ⟨_, _, rfl, rfl, ?_⟩
        rw [str_len]
        exact q.here S (by simp only [Rp] <;> rfl)
      | _ => exact q.elim
    | _ => cases b <;> exact q.elim
  | some ds =>
    simp only [h] at q
    obtain ⟨hc, q⟩ := Aft.ite q
    rw [Bool.and_eq_true] at hc
    obtain ⟨p, xs, rfl, hq, rl⟩ := S.seq h rb
    obtain ⟨f1, f2⟩ := any_rel ra hc.1 rl hc.2
    refine op_notIn_seq pins s σ H _ _ v u Q I rx ry ⟨p, xs, rfl, hq, flat_rel ra hc.1, f1, ?_⟩
    rw [f2]
    exact q.here S (by simp only [Rp] <;> rfl)

noncomputable def addG (a b : AV) (μ : Mu) : Rs AV := match a, b with
  | .tup xs, .tup ys => if xs.length + ys.length ≤ LIM then .ok (.tup (xs ++ ys)) μ else .no
  | a, b => addA a b μ
theorem add_tups {pins : List (Addr × Obj)} {s : Shared} {a b : Addr} {xs ys : List V} {Q : VK} (I : Inv X pins σ H s) (ha : SqT X.K H a xs) (hb : SqT X.K H b ys) (hx : xs = []) (q : Q (.ref b) H) :
    wpAny (model X.prog X.w) X.A (binaryOp .Add (.ref a) (.ref b)) (EP X pins σ Q) X.xe s := by
  obtain ⟨its, r1, p1, _⟩ := I.tuple ha
  obtain ⟨its2, r2, p2, _⟩ := I.tuple hb
  obtain ⟨⟨cls, dd, data, sl⟩, ho, hc, n, hd⟩ := id p1
  obtain ⟨⟨cls2, dd2, data2, sl2⟩, ho2, hc2, n2, hd2⟩ := id p2
  simp only at hc hd hc2 hd2
  subst hc hd hc2 hd2 hx
  cases r1
  exact concat_meets ⟨_, ho, rfl⟩ ⟨_, ho2, rfl⟩ noFill_tuple_add seq_tuple_add PySem.F.slot_tuple_add PySem.F.entry_tuple_add (PySem.F.args_tuple_add_2 _ _)
    (tuple_addW0 a b _ its2.toArray n n2 dd dd2 sl sl2 rfl) ⟨ho, ho2, .ref b, H, I, rfl, q⟩
theorem oa_addG : OpR X (binaryOp .Add) (rA X.K addG) := by
  intro pins s σ H x y v u Q I rx ry ⟨a, b, μ, em, ra, rb, S, q⟩
  have gen : ∀ q' : Aft X.K em H (addA a b μ) Q, wpAny (model X.prog X.w) X.A (binaryOp .Add v u) (EP X pins σ Q) X.xe s := fun q' => oa_add pins s σ H x y v u Q I rx ry ⟨a, b, μ, em, ra, rb, S, q'⟩
  cases a with
  | tup ds =>
    cases b with
    | tup es =>
      obtain ⟨hc, q⟩ := Aft.ite q
      simp only [Rp] at ra rb
      obtain ⟨p1, xs, rfl, h1, r1⟩ := ra
      obtain ⟨p2, ys, rfl, h2, r2⟩ := rb
      cases rx
      cases ry
      by_cases hx : xs = []
      · refine add_tups I h1 h2 hx (q em H _ (List.prefix_refl _) Ext.refl S ?_)
        subst hx
        have hd : ds = [] := by cases ds with
          | nil => rfl
          | cons d r => have := r1.length; simp at this
        subst hd
        simp only [Rp]
        exact ⟨p2, ys, rfl, h2, r2⟩
      · refine op_catT pins s σ H (.ref p1) (.ref p2) _ _ Q I rfl rfl ⟨p1, p2, xs, ys, rfl, rfl, h1, h2, hx, by rw [r1.length, r2.length, ← LIM_eq]; exact hc, fun hy => ?_, fun hy p hp => ?_⟩
        · refine q em H _ (List.prefix_refl _) Ext.refl S ?_
          subst hy
          have he : es = [] := by cases es with
            | nil => rfl
            | cons d r => have := r2.length; simp at this
          subst he
          simp only [Rp, List.append_nil]
          exact ⟨p1, xs, rfl, h1, r1⟩
        · obtain ⟨S2, r3⟩ := S.newT hp (r1.append r2)
          exact q em _ _ (List.prefix_refl _) (Ext.fresh hp) S2 r3
    | _ => exact gen q
  | _ => cases b <;> exact gen q
end
end AL

set_option Elab.async false
set_option linter.all false
set_option maxRecDepth 100000
set_option maxHeartbeats 4000000
namespace AL
open PySem PySem.Spec PyProof.Rows L2
section
variable {X : Cx} {pos : Pos} {σ : St} {H : Hp}

theorem cutL_all {α : Type} {xs : List α} {lo hi : Option Int} (h : HT.sIx xs.length 0 lo = 0 ∧ HT.sIx xs.length xs.length hi = xs.length) : cutL xs lo hi = xs := by
  unfold cutL
  rw [h.1, h.2]
  simp
theorem strIx (lo hi : Option Int) (n : Nat) : Builtin.Str.strSliceIndices lo hi 1 n = (List.range (HT.sIx n n hi - HT.sIx n 0 lo)).map (HT.sIx n 0 lo + ·) := by
  obtain ⟨h1, h2, h3⟩ := slice_bounds lo hi n
  show sliceRange (sliceBounds lo hi none n).1 (sliceBounds lo hi none n).2.1 1 = _
  rw [h1, h2, sliceRange_one]
theorem slice_txt (x : List Nat) (lo hi : Option Int) : Txt.slice ⟨x.toArray⟩ lo hi = ⟨(cutL x lo hi).toArray⟩ := by
  unfold Txt.slice
  rw [str_len, strIx]
  have hb : HT.sIx x.length x.length hi ≤ x.length := HT.sIx_le _ _ (Nat.le_refl _) hi
  split
  · rename_i h
    simp only [List.length_map, List.length_range, Bool.and_eq_true, beq_iff_eq] at h
    have ha := HT.sIx_le x.length 0 (Nat.zero_le _) lo
    rw [cutL_all]
    omega
  · show (⟨_⟩ : Str) = _
    rw [pick_run]
    rfl
theorem sl_str_any {pins : List (Addr × Obj)} {s : Shared} {x : List Nat} {t : Tok} {vl vu : Value} {lo hi : Option Int} {sl : Addr} {Q : VK} (I : Inv X pins σ H s) (hs : s.heap.IsSliceOf sl vl vu .none) (pl : IsPart vl lo) (pu : IsPart vu hi) (hx : x.length ≤ sizeLine)
    (q : Q (.str ⟨(cutL x lo hi).toArray⟩) H) : wpAny (model X.prog X.w) X.A (getItem (.str ⟨x.toArray⟩ t) (.ref sl)) (EP X pins σ Q) X.xe s := by
  have fin : ∀ t' k, EP X pins σ Q (.str (Txt.slice ⟨x.toArray⟩ lo hi) t') { s with toks := k } := fun t' k => ⟨.str _, H, I.tok _, ⟨t', rfl⟩, by rw [slice_txt]; exact q⟩
  have hl : (Txt.slice ⟨x.toArray⟩ lo hi).length ≤ sizeLine := Nat.le_trans (Txt.slice_le _ _ _) (by rw [str_len]; exact hx)
  obtain ⟨o, ho, hc, hd⟩ := hs
  cases pl with
  | none =>
    cases pu with
    | none => exact wpAny_getItem_str_slice (l := none) (u := none) (st := none) ⟨o, ho, hc, hd⟩ rfl (post_val_or_str ⟨hl, fin⟩)
    | int j u => exact wpAny_getItem_str_slice (l := none) (u := some (j, u)) (st := none) ⟨o, ho, hc, hd⟩ rfl (post_val_or_str ⟨hl, fin⟩)
  | int i t' =>
    cases pu with
    | none => exact wpAny_getItem_str_slice (l := some (i, t')) (u := none) (st := none) ⟨o, ho, hc, hd⟩ rfl (post_val_or_str ⟨hl, fin⟩)
    | int j u => exact wpAny_getItem_str_slice (l := some (i, t')) (u := some (j, u)) (st := none) ⟨o, ho, hc, hd⟩ rfl (post_val_or_str ⟨hl, fin⟩)
theorem tup_whole {prog : Program} {w : World} {A : Around} {E : Value → Shared → Prop} {s : Shared} {t sl : Addr} {items : Array Value} {vl vu : Value} {lo hi : Option Int} {Q : Value → Shared → Prop} (ht : IsTup s.heap t items) (hs : s.heap.IsSliceOf sl vl vu .none) (pl : IsPart vl lo) (pu : IsPart vu hi)
    (hw : HT.sIx items.size 0 lo = 0 ∧ HT.sIx items.size items.size hi = items.size) (h : Q (.ref t) s) : wpAny (model prog w) A (getItem (.ref t) (.ref sl)) Q E s := by
  obtain ⟨os, hos, hcs, hds⟩ := id hs
  have hTs : s.TypeIs (.ref sl) "slice" := ⟨os, hos, hcs⟩
  unfold getItem
  try with_reducible refine wpAny_holding ?_
  first | refine wpAny_bind (wpAny_pure ?_) | skip
  refine wpAny_bind (wpAny_sequenceKey ht.typeIs (by decide) ?_)
  refine wpAny_bind (wpAny_callSpecial?_slot (name := Str.ofString "__getitem__") ht.typeIs PyProof.Rows.slot_tuple_getitem (wpAny_call_entry PyProof.Rows.slot_tuple_getitem ht.typeIs PyProof.Rows.entry_tuple_getitem ?_ (PyProof.Rows.args_tuple_getitem _ _)))
  show wpAny _ _ (Builtin.Tuple.tupleItemsOf (.ref t) >>= _) _ _ s
  refine wpAny_bind (tupleItemsOf_ ht ?_)
  refine wpAny_bind (wpAny_typeOf hTs ?_)
  rw [if_pos (by decide)]
  refine wpAny_bind (HT.sliceApplied_gen hs pl pu ?_)
  rw [hw.1, hw.2]
  have hyes : ((((0 : Nat) : Int) == 0 && (1 : Int) == 1 && (items.size - 0) == items.size) = true) := by simp
  show wpAny _ _ (if (((0 : Nat) : Int) == 0 && (1 : Int) == 1 && (items.size - 0) == items.size) = true then _ else _) _ _ s
  rw [if_pos hyes]
  refine wpAny_bind (wpAny_bind (wpAny_typeOf ht.typeIs (wpAny_pure ?_)))
  rw [if_pos (by decide)]
  exact wpAny_bind (wpAny_rule (wpAny_pure ⟨_, rfl, wpAny_pure h⟩))
noncomputable def slG (a : AV) (lo hi : Option Int) (μ : Mu) : Rs AV := match a with
  | .str x => if x.length ≤ LIM then .ok (.str (cutL x lo hi)) μ else .no
  | .tup ds => .ok (.tup (cutL ds lo hi)) μ
  | a => slA a lo hi μ
theorem RpL.cutW {em : Em} {ds : List AV} {xs : List V} (r : RpL X.K em H ds xs) (lo hi : Option Int) (h : HT.sIx xs.length 0 lo = 0 ∧ HT.sIx xs.length xs.length hi = xs.length) : cutL ds lo hi = ds := cutL_all (by rw [r.length] at h; exact h)
theorem sa_slG : SlR X (rSlA X.K slG) := by
  intro pins s σ H x v vl vu lo hi sl Q I rx hs pl pu ⟨a, μ, em, ra, S, q⟩
  cases a with
  | str z =>
    obtain ⟨hz, q⟩ := Aft.ite q
    simp only [Rp] at ra
    subst ra
    obtain ⟨t, rfl⟩ := rx
    exact ⟨"str", _, PySem.F.slot_str_getitem.lookup, typeIs_str _ _ _, sl_str_any I hs pl pu (by rw [← LIM_eq]; exact hz) (q.here S (by simp only [Rp]))⟩
  | tup ds =>
    simp only [Rp] at ra
    obtain ⟨p, xs, rfl, hq, rl⟩ := ra
    by_cases hw : HT.sIx xs.length 0 lo = 0 ∧ HT.sIx xs.length xs.length hi = xs.length
    · cases rx
      obtain ⟨its, r, ht, hz⟩ := I.tuple hq
      refine ⟨"tuple", _, PyProof.Rows.slot_tuple_getitem.lookup, ht.typeIs, tup_whole ht hs pl pu ?_ ⟨.ref p, H, I, rfl, q.here S ?_⟩⟩
      · rw [List.size_toArray, ← r.length]; exact hw
      · simp only [Rp]
        rw [rl.cutW lo hi hw]
        exact ⟨p, xs, rfl, hq, rl⟩
    · refine sl_tup pins s σ H _ v vl vu lo hi sl Q I rx hs pl pu ⟨p, xs, rfl, hq, hw, fun p' hp => ?_⟩
      obtain ⟨S2, r2⟩ := S.newT hp (rl.cut lo hi)
      exact q em _ _ (List.prefix_refl _) (Ext.fresh hp) S2 r2
  | _ => exact sa_sl pins s σ H x v vl vu lo hi sl Q I rx hs pl pu ⟨_, μ, em, ra, S, q⟩

variable {x : Str} {p : Pos} {e : Expr} {es : List Expr} {fl : FL} {id T : String}
theorem ae_callT {g : List AV → Mu → Rs AV} (hc : CallR X (.type T) (rCA X.K g)) (hv : bootBuiltins x = some (.type T)) (ha : AA X (e :: es) fl) (hm : X.mg x = none) (hg : Gl X x := by rfl) (hn : x ≠ "__name__" := by decide +kernel) (hdb : (x == ("__debug__" : Str)) = false := by decide +kernel)
    (he : starEach (e :: es) X.env = (false, eval e X.env) :: starEach es X.env := by rfl) (hpl : (backTo pos (starEach es X.env)).any (·.1) = false := by rfl) : AE X (.Call (.Name x p) (e :: es) [] pos) (fCB g fl) :=
  PE.imp (pe_callTy hc hg hm hv ha hn hdb he hpl) fun σ H Q ⟨ρ, μ, em, E, S, h⟩ => tAL_mono (steps (f := fl) E S h) fun vs H1 ⟨em1, ds, μ1, M, r, h1⟩ => ⟨ds, μ1, em1, r, M.S, h1⟩
theorem bt_tuple : bootBuiltins "tuple" = some (.type "tuple") := by decide +kernel
theorem bt_any : bootBuiltins "any" = some (.builtin "any") := by decide +kernel
theorem RpL.one {K : PySem.W.Frag} {em : Em} {d : AV} {xs : List V} (r : RpL K em H [d] xs) : ∃ x, xs = [x] ∧ Rp K em H d x := by
  obtain ⟨x, t, rfl, h, rt⟩ := r.uncons
  exact ⟨x, by rw [rt.unnil], h⟩
noncomputable def listA (ds : List AV) (μ : Mu) : Rs AV := match ds with
  | [d] => match seqOf μ d with
    | some xs => .ok (.loc μ.length) (μ ++ [.lst xs])
    | none => .no
  | _ => .no
noncomputable def tupA (ds : List AV) (μ : Mu) : Rs AV := match ds with
  | [d] => match seqOf μ d with
    | some xs => .ok (.tup xs) μ
    | none => .no
  | _ => .no
theorem ca_tup : CallR X (.type "tuple") (rCA X.K tupA) := by
  intro pins s σ H xs us Q I rs ⟨ds, μ, em, rl, S, q⟩
  match ds, rl, q with
  | [], _, q => exact q.elim
  | _ :: _ :: _, _, q => exact q.elim
  | [d], rl, q =>
    obtain ⟨x, rfl, r⟩ := rl.one
    unfold tupA at q
    cases h : seqOf μ d with
    | none => simp only [h] at q; exact q.elim
    | some ys =>
      simp only [h] at q
      obtain ⟨p, zs, rfl, hq, rz⟩ := S.seq h r
      refine call_tuple_of pins s σ H _ us Q I rs ⟨p, zs, rfl, ?_⟩
      rcases hq with hq | hq
      · refine .inl ⟨hq, fun l hl => ?_⟩
        obtain ⟨S2, r2⟩ := S.newT hl rz
        exact q em _ _ (List.prefix_refl _) (Ext.fresh hl) S2 r2
      · exact .inr ⟨hq, q.here S (by simp only [Rp]; exact ⟨p, zs, rfl, hq, rz⟩)⟩
noncomputable def minA (ds : List AV) (μ : Mu) : Rs AV := match ds with
  | [.int i, .int j] => .ok (.int (if j < i then j else i)) μ
  | _ => .no
noncomputable def maxA (ds : List AV) (μ : Mu) : Rs AV := match ds with
  | [.int i, .int j] => .ok (.int (if j > i then j else i)) μ
  | _ => .no
noncomputable def intA (ds : List AV) (μ : Mu) : Rs AV := match ds with
  | [.int i] => .ok (.int i) μ
  | [.bl k] => .ok (.int (if k then 1 else 0)) μ
  | _ => .no
end
end AL

set_option Elab.async false
set_option linter.all false
set_option maxRecDepth 100000
set_option maxHeartbeats 4000000
namespace AL
open PySem PySem.Spec PyProof.Rows L2
section
variable {X : Cx} {pos : Pos} {σ : St} {H : Hp}
noncomputable def boolsOf : List AV → Option (List Bool)
  | [] => some []
  | .bl b :: r => (boolsOf r).map (b :: ·)
  | _ :: _ => none
noncomputable def intsOf : List AV → Option (List Int)
  | [] => some []
  | .int i :: r => (intsOf r).map (i :: ·)
  | _ :: _ => none
theorem boolsOf_vals {K : PySem.W.Frag} {em : Em} : ∀ {ds : List AV} {xs : List V} {us : List Value} {bs : List Bool}, RpL K em H ds xs → Vals xs us → boolsOf ds = some bs → us = bs.map Value.bool
  | [], _, _, _, r, rv, e => by
    have := r.unnil
    subst this
    cases rv
    cases e
    rfl
  | d :: ds, _, _, _, r, rv, e => by
    obtain ⟨x, t, rfl, r1, r2⟩ := r.uncons
    cases rv with
    | cons v1 v2 =>
      cases d with
      | bl b =>
        simp only [boolsOf] at e
        cases h : boolsOf ds with
        | none => rw [h] at e; cases e
        | some cs =>
          rw [h] at e
          cases e
          simp only [Rp] at r1
          subst r1
          cases v1
          rw [boolsOf_vals r2 v2 h]
          rfl
      | _ => cases e
theorem Inv.walked {pins : List (Addr × Obj)} {s : Shared} {o : Obj} {h' : Heap} {tk : Nat} (I : Inv X pins σ H s) (k : ∀ b u, b ∉ [s.heap.objs.size] → (s.heap.push o).get? b = some u → h'.get? b = some u) : Inv X pins σ H { s with heap := h', toks := tk } := by
  obtain ⟨f0, f1, f2, f3, f4, f5⟩ := I.fpOk (H' := H) (Nat.le_refl _) (I.hok.fresh (Nat.le_refl _))
  have I3 : Inv X pins σ H { s with heap := s.heap.push o } := I.kept (t' := s.toks) fun b o e => Heap.get?_push_of_some _ e
  exact I3.turned (t' := tk) (fun b u hb e => k b u (by simpa using hb) e) f0 f1 f3 f4 f5
theorem seq_walk {pins : List (Addr × Obj)} {s : Shared} {p : Addr} {xs : List V} {E : Value → Shared → Prop} {Q : Value → Shared → Prop} (hc : X.calm = true) (I : Inv X pins σ H s) (hq : SqL X.K H p xs ∨ SqT X.K H p xs)
    (h : ∀ (its : List Value) (o : Obj) (fp : List Addr) (St : Nat → Heap → Prop), Vals xs its → Walks X.prog X.w X.A.in1 s.heap.objs.size fp [s.heap.objs.size] its.length (fun i v => its[i]? = some v) St → St 0 (s.heap.push o) → (∀ b ∈ fp, b < (s.heap.push o).objs.size) → Q (.ref s.heap.objs.size) { s with heap := s.heap.push o }) :
    wpAny (model X.prog X.w) X.A.in1 (pyIter (.ref p)) Q E s := by
  have hh : X.A.in1.handled = none := I.ok.hd hc
  rcases hq with hq | hq
  · obtain ⟨its, rv, pl, hz⟩ := I.list hq
    have hlt : p < s.heap.objs.size := pl.lt
    have W := Walks.list (prog := X.prog) (w := X.w) hh s.heap.objs.size p (Nat.ne_of_lt hlt) its.toArray
    simp only [List.size_toArray, List.getElem?_toArray] at W
    refine wpAny_pyIter_list pl.isList (h its _ _ _ rv W ⟨⟨_, Heap.get?_push_size _ rfl, rfl, rfl⟩, pl.isList.push _⟩ fun b hb => ?_)
    rw [Heap.size_push]
    rcases List.mem_cons.mp hb with rfl | hb
    · exact Nat.lt_succ_self _
    · rw [List.mem_singleton.mp hb]; exact Nat.lt_succ_of_lt hlt
  · obtain ⟨its, rv, pl, hz⟩ := I.tuple hq
    have hlt : p < s.heap.objs.size := by obtain ⟨o, e, _⟩ := pl; exact Heap.lt_size e
    have W := Walks.tuple (prog := X.prog) (w := X.w) hh s.heap.objs.size p (Nat.ne_of_lt hlt) its.toArray
    simp only [List.size_toArray, List.getElem?_toArray] at W
    refine wpAny_pyIter_tuple (show s.heap.IsTuple p its.toArray from pl) (h its _ _ _ rv W ⟨⟨_, Heap.get?_push_size _ rfl, rfl, rfl⟩, ?_⟩ fun b hb => ?_)
    · obtain ⟨o, e, r⟩ := pl
      exact ⟨o, Heap.get?_push_of_some _ e, r⟩
    · rw [Heap.size_push]
      rcases List.mem_cons.mp hb with rfl | hb
      · exact Nat.lt_succ_self _
      · rw [List.mem_singleton.mp hb]; exact Nat.lt_succ_of_lt hlt
theorem range_all (bs : List Bool) : ((List.range bs.length).all fun i => bs.getD i false) = bs.all fun b => b := by
  rw [Bool.eq_iff_iff]
  simp only [List.all_eq_true, List.mem_range]
  constructor
  · intro h b hb
    obtain ⟨i, hi, rfl⟩ := List.mem_iff_getElem.mp hb
    have := h i hi
    simpa [hi] using this
  · intro h i hi
    have := h bs[i] (List.getElem_mem hi)
    simpa [hi] using this
theorem range_any (bs : List Bool) : ((List.range bs.length).any fun i => bs.getD i false) = bs.any fun b => b := by
  rw [Bool.eq_iff_iff]
  simp only [List.any_eq_true, List.mem_range]
  constructor
  · rintro ⟨i, hi, h⟩
    exact ⟨bs[i], List.getElem_mem hi, by simpa [hi] using h⟩
  · rintro ⟨b, hb, h⟩
    obtain ⟨i, hi, rfl⟩ := List.mem_iff_getElem.mp hb
    exact ⟨i, hi, by simpa [hi] using h⟩
noncomputable def allA (ds : List AV) (μ : Mu) : Rs AV := match ds with
  | [d] => match (seqOf μ d).bind boolsOf with
    | some bs => .ok (.bl (bs.all fun b => b)) μ
    | none => .no
  | _ => .no
noncomputable def anyA (ds : List AV) (μ : Mu) : Rs AV := match ds with
  | [d] => match (seqOf μ d).bind boolsOf with
    | some bs => .ok (.bl (bs.any fun b => b)) μ
    | none => .no
  | _ => .no
noncomputable def sumA (ds : List AV) (μ : Mu) : Rs AV := match ds with
  | [d] => match (seqOf μ d).bind intsOf with
    | some ns => .ok (.int ns.sum) μ
    | none => .no
  | _ => .no
theorem truth_bools {A : Around} {its : List Value} {bs : List Bool} (e : its = bs.map Value.bool) : TruthOf X.prog X.w A (fun i v => its[i]? = some v) (fun i => bs.getD i false) := fun i v s Q E hP hQ => by
  subst e
  rw [List.getElem?_map] at hP
  cases hb : bs[i]? with
  | none => rw [hb] at hP; cases hP
  | some b =>
    rw [hb] at hP
    cases hP
    refine wpAny_truthy_bool ?_
    have : bs.getD i false = b := by rw [List.getD_eq_getElem?_getD, hb]; rfl
    have hQ : Q (bs.getD i false) s := hQ
    rw [this] at hQ
    exact hQ
theorem ca_any (hc : X.calm = true) : CallR X (.builtin "any") (rCA X.K anyA) := by
  intro pins s σ H xs us Q I rs ⟨ds, μ, em, rl, S, q⟩
  match ds, rl, q with
  | [], _, q => exact q.elim
  | _ :: _ :: _, _, q => exact q.elim
  | [d], rl, q =>
    obtain ⟨x, rfl, r⟩ := rl.one
    unfold anyA at q
    cases h : seqOf μ d with
    | none => simp only [h, Option.bind_none] at q; exact q.elim
    | some ys =>
      simp only [h, Option.bind_some] at q
      cases h2 : boolsOf ys with
      | none => simp only [h2] at q; exact q.elim
      | some bs =>
        simp only [h2] at q
        obtain ⟨p, zs, rfl, hq, rz⟩ := S.seq h r
        obtain ⟨u, rfl, ru⟩ := vals1 rs
        cases ru
        refine call_any_walk (seq_walk hc I hq fun its o fp St rv W st hfp => ?_)
        have eb := boolsOf_vals rz rv h2
        refine ⟨_, fp, _, its.length, _, St, _, rfl, W, st, truth_bools eb, fun h' tk k => ⟨.bl (bs.any fun b => b), H, Inv.walked (s := s) (o := o) I k, ?_, q.here S (by simp only [Rp])⟩⟩
        have hl : its.length = bs.length := by rw [eb, List.length_map]
        rw [hl, range_any]
        rfl
noncomputable def decL (i : Int) : List Nat := (Str.ofString (toString i)).cps.toList
noncomputable def strA (ds : List AV) (μ : Mu) : Rs AV := match ds with
  | [.int i] => if sm 1900 i = true then .ok (.str (decL i)) μ else .no
  | _ => .no
end
end AL

set_option Elab.async false
set_option linter.all false
set_option maxRecDepth 100000
set_option maxHeartbeats 4000000
namespace AL
open PySem PySem.Spec PyProof.Rows L2
section
variable {X : Cx} {pos : Pos} {σ : St} {H : Hp}
theorem decL_str (i : Int) : (⟨(decL i).toArray⟩ : Str) = Str.ofString (toString i) := by simp [decL]
theorem ca_str : CallR X (.type "str") (rCA X.K strA) := by
  intro pins s σ H xs us Q I rs ⟨ds, μ, em, rl, S, q⟩
  match ds, rl, q with
  | [], _, q => exact q.elim
  | a :: _ :: _, _, q => cases a <;> exact q.elim
  | [d], rl, q =>
    obtain ⟨x, rfl, r⟩ := rl.one
    cases d with
    | int i =>
      simp only [Rp] at r
      subst r
      obtain ⟨hz, q⟩ := Aft.ite q
      have h1 : i.natAbs.log2 < 1900 := Nat.le_of_ble_eq_true hz
      exact call_str_int pins s σ H _ us Q I rs ⟨i, rfl, by omega, q.here S (by simp only [Rp]; rw [decL_str])⟩
    | _ => exact q.elim
noncomputable def joinA (d : AV) (ds : List AV) (μ : Mu) : Rs AV := match d, ds with
  | .str sep, [l] => match (seqOf μ l).bind strsOf with
    | some ys => if (ys.map (·.length)).sum + ys.length * sep.length ≤ LIM then .ok (.str (joinL sep ys)) μ else .no
    | none => .no
  | _, _ => .no
theorem strs_vals : ∀ {ys : List Str} {us : List Value}, Vals (ys.map V.str) us → ∃ l : List (Str × Tok), strValues l = us ∧ l.map (·.1) = ys
  | [], _, r => by cases r; exact ⟨[], rfl, rfl⟩
  | y :: ys, _, r => by
    cases r with
    | cons r1 r2 =>
      obtain ⟨t, rfl⟩ := r1
      obtain ⟨l, rfl, rfl⟩ := strs_vals r2
      exact ⟨(y, t) :: l, rfl, rfl⟩
theorem ma_join : MtR X "str.join" (rMA X.K joinA) := by
  intro pins s σ H x xs v us Q I rx rs ⟨d, ds, μ, em, r, rl, S, q⟩
  cases d with
  | str sep =>
    match ds, rl, q with
    | [], _, q => exact q.elim
    | _ :: _ :: _, _, q => exact q.elim
    | [y], rl, q =>
      obtain ⟨w', rfl, rw'⟩ := rl.one
      simp only [Rp] at r
      subst r
      obtain ⟨t, rfl⟩ := rx
      unfold joinA at q
      cases h : seqOf μ y with
      | none => simp only [h, Option.bind_none] at q; exact q.elim
      | some es =>
        simp only [h, Option.bind_some] at q
        cases h2 : strsOf es with
        | none => simp only [h2] at q; exact q.elim
        | some ys =>
          simp only [h2] at q
          obtain ⟨hz, q⟩ := Aft.ite q
          obtain ⟨p, zs, rfl, hq, rz⟩ := S.seq h rw'
          obtain ⟨u, rfl, ru⟩ := vals1 rs
          cases ru
          have e1 := strsOf_rp rz h2
          subst e1
          have hok : JoinOk ⟨sep.toArray⟩ (ys.map mkS) = true := joinOk_of (by rw [sum_mk, List.length_map, str_len]; exact hz)
          have e3 : Txt.join ⟨sep.toArray⟩ (ys.map mkS) = mkS (joinL sep ys) := by
            show PySem.Builtin.Str.glued _ _ = _
            rw [PySem.StrLaws.glued_eq_join]
            exact join_mk sep ys
          have fin : ∀ t' k, EP X pins σ Q (.str (Txt.join ⟨sep.toArray⟩ (ys.map mkS)) t') { s with toks := k } := fun t' k => ⟨.str _, H, I.tok _, ⟨t', rfl⟩, by rw [e3]; exact q.here S (by simp only [Rp]; rfl)⟩
          rcases hq with hq | hq
          · obtain ⟨its, rv, pl, hlz⟩ := I.list hq
            obtain ⟨l, el, et⟩ := strs_vals rv
            have hl : s.heap.IsList p (strValues l).toArray := by rw [el]; exact pl.isList
            exact SC.join hl et hok fin
          · obtain ⟨its, rv, pl, hlz⟩ := I.tuple hq
            obtain ⟨l, el, et⟩ := strs_vals rv
            have hok' := hok
            rw [← et] at hok' fin
            unfold JoinOk at hok'
            rw [Bool.not_eq_true'] at hok'
            obtain ⟨o, ho, hc, n, hd⟩ := pl
            rw [← el] at hd
            exact call_meets PySem.F.slot_str_join (typeIs_str _ _ _) PySem.F.entry_str_join (PySem.F.args_str_join_2 _ _) (meets_str_join_tuple _ t p l hok') ⟨⟨o, n, ho, hc, hd⟩, post_join l ⟨joinFit_length hok', fin⟩⟩
  | _ => exact q.elim
end
end AL

set_option Elab.async false
set_option linter.all false
set_option maxRecDepth 100000
set_option maxHeartbeats 4000000
namespace AL
open PySem PySem.Spec PyProof.Rows L2
section
variable {X : Cx} {pos : Pos} {σ : St} {H : Hp}
noncomputable def stripA (d : AV) (ds : List AV) (μ : Mu) : Rs AV := match d, ds with
  | .str x, [.str y] => if x.length ≤ LIM then .ok (.str (Txt.stripChars ⟨x.toArray⟩ ⟨y.toArray⟩).cps.toList) μ else .no
  | _, _ => .no
noncomputable def startA (d : AV) (ds : List AV) (μ : Mu) : Rs AV := match d, ds with
  | .str x, [.str y] => .ok (.bl (Txt.startswith ⟨x.toArray⟩ ⟨y.toArray⟩)) μ
  | _, _ => .no
theorem ma_strip : MtR X "str.strip" (rMA X.K stripA) := by
  intro pins s σ H x xs v us Q I rx rs ⟨d, ds, μ, em, r, rl, S, q⟩
  cases d with
  | str z =>
    match ds, rl, q with
    | [], _, q => exact q.elim
    | a :: _ :: _, _, q => cases a <;> exact q.elim
    | [y], rl, q =>
      obtain ⟨w, rfl, rw'⟩ := rl.one
      cases y with
      | str y =>
        obtain ⟨hz, q⟩ := Aft.ite q
        simp only [Rp] at r rw'
        subst r rw'
        obtain ⟨t1, rfl⟩ := rx
        obtain ⟨u, rfl, t2, rfl⟩ := vals1 rs
        exact SC.stripChars (fun t' k => ⟨.str _, H, I.tok _, ⟨t', rfl⟩, q.here S (by simp only [Rp])⟩) (by rw [str_len, ← LIM_eq]; exact hz)
      | _ => exact q.elim
  | _ => exact q.elim
theorem ma_start : MtR X "str.startswith" (rMA X.K startA) := by
  intro pins s σ H x xs v us Q I rx rs ⟨d, ds, μ, em, r, rl, S, q⟩
  cases d with
  | str z =>
    match ds, rl, q with
    | [], _, q => exact q.elim
    | a :: _ :: _, _, q => cases a <;> exact q.elim
    | [y], rl, q =>
      obtain ⟨w, rfl, rw'⟩ := rl.one
      cases y with
      | str y =>
        simp only [Rp] at r rw'
        subst r rw'
        obtain ⟨t1, rfl⟩ := rx
        obtain ⟨u, rfl, t2, rfl⟩ := vals1 rs
        exact SC.startswith ⟨.bl _, H, I, rfl, q.here S (by simp only [Rp])⟩
      | _ => exact q.elim
  | _ => exact q.elim

noncomputable def extendA (d : AV) (ds : List AV) (μ : Mu) : Rs AV := match d, ds with
  | .loc i, [y] => match μ[i]?, seqOf μ y with
    | some (.lst xs), some ys => if xs.length + ys.length ≤ LIM then .ok .non (μ.set i (.lst (xs ++ ys))) else .no
    | _, _ => .no
  | _, _ => .no
noncomputable def setA (o i v : AV) (μ : Mu) : Rs Unit := match o, i with
  | .loc j, .int k => match μ[j]? with
    | some (.lst xs) => match ixN xs.length k with
      | some m => .ok () (μ.set j (.lst (xs.set m v)))
      | none => .no
    | _ => .no
  | _, _ => .no
noncomputable def gSubA (fo fi : FE) : FG := fun d ρ μ => (fo ρ μ).bd fun o μ1 => (fi ρ μ1).bd fun i μ2 => (setA o i d μ2).bd fun _ μ3 => .ok ρ μ3
variable {x : Str} {p : Pos} {e : Expr} {es : List Expr} {fl : FL}
noncomputable def fNo : FS := fun _ _ => .no
end
end AL

set_option Elab.async false
set_option linter.all false
set_option maxRecDepth 100000
set_option maxHeartbeats 4000000
namespace L2
open PySem PySem.Spec PyProof.Rows
section
variable {X : Cx} {tg : Expr}
end
end L2
namespace AL
open PySem PySem.Spec PyProof.Rows L2
section
variable {X : Cx} {pos : Pos} {σ : St} {H : Hp} {K : PySem.W.Frag} {em : Em} {μ : Mu} {ρ : Ev}
noncomputable def r2A (ds : List AV) (μ1 : Mu) : Rs AIt := match ds with
  | [.int i, .int j] => if (sm 62 i && sm 62 j) = true then .ok (.s (rngL i (j - i).toNat)) μ1 else .no
  | _ => .no
noncomputable def fiR2 (fl : FL) : FI := fun ρ μ => (fl ρ μ).bd r2A
noncomputable def rngC (lo c : Int) (n : Nat) : List AV := (List.range n).map fun (i : Nat) => AV.int (lo + (i : Int) * c)
noncomputable def rngM (lo hi c : Int) : Nat := if lo < hi then ((hi - lo - 1) / c + 1).toNat else 0
noncomputable def r3A (ds : List AV) (μ1 : Mu) : Rs AIt := match ds with
  | [.int i, .int j, .int c] => if (sm 60 i && sm 60 j && sm 30 c && decide (0 < c)) = true then .ok (.s (rngC i c (rngM i j c))) μ1 else .no
  | _ => .no
noncomputable def fiR3 (fl : FL) : FI := fun ρ μ => (fl ρ μ).bd r3A
noncomputable def pushA (j : Nat) (v : AV) (μ : Mu) : Rs Unit := match μ[j]? with
  | some (.lst xs) => if xs.length < LIM then .ok () (μ.set j (.lst (xs ++ [v]))) else .no
  | _ => .no
noncomputable def compN : Nat → AIt → Nat → Nat → FG → FB → FE → Ev → Mu → Rs AV
  | 0, _, _, _, _, _, _ => fun _ _ => .no
  | n + 1, it, k, j, g, ft, fe => fun ρ μ => match it.get μ k with
    | none => .no
    | some none => .ok (.loc j) μ
    | some (some d) => (g d ρ μ).bd fun ρ1 μ1 => (ft ρ1 μ1).bd fun b μ2 => if b then (fe ρ1 μ2).bd fun v μ3 => (pushA j v μ3).bd fun _ μ4 => compN n it (k + 1) j g ft fe ρ1 μ4
      else compN n it (k + 1) j g ft fe ρ1 μ2
noncomputable def capE (ρ : Ev) (caps : List (Option Nat)) : Ev := caps.map fun o => match o with
  | some i => (ρ[i]?).getD none
  | none => none
noncomputable def fComp (n : Nat) (caps : List (Option Nat)) (fi : FI) (g : FG) (ft : FB) (fe : FE) : FE := fun ρ μ => (fi ρ μ).bd fun it μ1 => compN n it 0 μ1.length g ft fe (capE ρ caps) (μ1 ++ [.lst []])
noncomputable def fYes : FB := fun _ μ => .ok true μ
theorem RpEnv.cap {caps : List (Option Nat)} (h : RpEnv K em H ρ σ) : RpEnv K em H (capE ρ caps) (capS σ caps) := by
  refine ⟨by simp [capE, capS], fun j d e => ?_⟩
  unfold capE at e
  unfold capS
  rw [List.getElem?_map] at e ⊢
  cases hc : caps[j]? with
  | none => rw [hc] at e; cases e
  | some o =>
    rw [hc] at e
    cases o with
    | none => cases e
    | some i =>
      have e' : (ρ[i]?).getD none = some d := Option.some.inj e
      cases hr : ρ[i]? with
      | none => rw [hr] at e'; cases e'
      | some q =>
        rw [hr] at e'
        have e2 : q = some d := e'
        subst e2
        obtain ⟨v, ev, rv⟩ := h.2 i d hr
        refine ⟨v, ?_, rv⟩
        show some ((σ[i]?).getD none) = some (some v)
        rw [ev]
        rfl
noncomputable def AIf (X : Cx) (ifs : List Expr) (f : FB) : Prop := PIf X ifs (tAB X f)
theorem aif_nil : AIf X [] fYes := fun pins s σ H Q I ⟨ρ, μ, em, E, S, h⟩ => pif_nil pins s σ H Q I (h em H (List.prefix_refl _) Ext.refl S)
theorem push_at {j : Nat} {v : AV} {μ3 : Mu} {r : Rs AV} {em3 : Em} {H3 : Hp} {D : Addr} {w : V} {Q : VK} {k : Unit → Mu → Rs AV} (S : RpSt K em3 μ3 H3) (ej : em3[j]? = some D) (rv : Rp K em3 H3 v w) (h : Aft K em3 H3 ((pushA j v μ3).bd k) Q) :
    ∃ ys μ4, H3 D = some (.lst ys) ∧ ys.length < sizeLine ∧ RpSt K em3 μ4 (upd H3 D (.lst (ys ++ [w]))) ∧ Ext K H3 (upd H3 D (.lst (ys ++ [w]))) ∧ Aft K em3 H3 (k () μ4) Q := by
  unfold pushA at h
  cases e : μ3[j]? with
  | none => simp only [e] at h; exact h.elim
  | some o =>
    cases o with
    | lst xs =>
      simp only [e] at h
      by_cases hl : xs.length < LIM
      · simp only [if_pos hl, Rs.bd_ok] at h
        obtain ⟨ys, hy, ry⟩ := S.obj j D _ ej e
        obtain ⟨S4, x4⟩ := S.setL ej e (ry.append (RpL.cons rv RpL.nil))
        exact ⟨ys, _, hy, by rw [ry.length, ← LIM_eq]; exact hl, S4, x4, h⟩
      · simp only [if_neg hl] at h; exact h.elim
    | _ => simp only [e] at h; exact h.elim
theorem comp_imp (n : Nat) {fi : FI} {g : FG} {ft : FB} {fe : FE} {caps : List (Option Nat)} {Q : VK} (hh : tA X (fComp n caps fi g ft fe) σ H Q) : tComp caps (tAI X fi) (tAG X g) (tAB X ft) (tA X fe) σ H Q := by
    obtain ⟨ρ, μ, em, E, S, h⟩ := hh
    have h : Aft X.K em H ((fi ρ μ).bd fun it μ1 => compN n it 0 μ1.length g ft fe (capE ρ caps) (μ1 ++ [.lst []])) Q := h
    refine ⟨ρ, μ, em, E, S, ?_⟩
    cases e : fi ρ μ with
    | ok it μ1 =>
      rw [e] at h
      intro em1 H1 J p1 x1 S1 IR D hD
      obtain ⟨S2, r2⟩ := S1.newL hD (RpL.nil (K := X.K) (em := em1) (H := H1))
      have xD : Ext X.K H1 (upd H1 D (.lst [])) := Ext.fresh hD
      have pD : em1 <+: em1 ++ [D] := List.prefix_append _ _
      have ejD : (em1 ++ [D])[μ1.length]? = some D := by rw [← S1.len]; simp
      refine ⟨fun i m σ H => ∃ ρ μ em2, em1 ++ [D] <+: em2 ∧ Ext X.K (upd H1 D (.lst [])) H ∧ RpEnv X.K em2 H ρ σ ∧ RpSt X.K em2 μ H ∧ Aft X.K em2 H (compN m it i μ1.length g ft fe ρ μ) Q,
        ⟨n, capE ρ caps, _, em1 ++ [D], List.prefix_refl _, Ext.refl, (E.mono (p1.trans pD) (x1.trans xD)).cap, S2, Aft.mono h (p1.trans pD) (x1.trans xD)⟩, ?_⟩
      rintro i m σ2 H2 ⟨ρ2, μ2, em2, p2, x2, E2, S2, h2⟩
      obtain ⟨stop, go⟩ := IR em2 H2 μ2 i (pD.trans p2) (xD.trans x2) S2
      cases m with
      | zero => exact h2.elim
      | succ m =>
        unfold compN at h2
        cases eg : it.get μ2 i with
        | none => simp only [eg] at h2; exact h2.elim
        | some o =>
          cases o with
          | none =>
            simp only [eg] at h2
            exact .inl ⟨stop eg, h2.here S2 (by simp only [Rp]; exact ⟨D, pre_get p2 ejD, rfl⟩)⟩
          | some d =>
            simp only [eg] at h2
            obtain ⟨g1, g2⟩ := go d eg
            refine .inr ⟨g1, fun σ' H' => ∃ ρ μ em3, em1 ++ [D] <+: em3 ∧ Ext X.K (upd H1 D (.lst [])) H' ∧ RpEnv X.K em3 H' ρ σ' ∧ RpSt X.K em3 μ H' ∧ Aft X.K em3 H' (compN m it (i + 1) μ1.length g ft fe ρ μ) Q, fun σ' H' q => ⟨m, Nat.lt_succ_self m, q⟩, fun x H3 y => ?_⟩
            obtain ⟨rfl, rx⟩ := g2 x H3 y
            refine ⟨d, ρ2, μ2, em2, rx, E2, S2, ?_⟩
            cases e3 : g d ρ2 μ2 with
            | ok ρ3 μ3 =>
              simp only [e3, Rs.bd_ok] at h2
              intro em4 H4 σ4 p4 x4 S4 E4
              refine ⟨ρ3, μ3, em4, E4, S4, ?_⟩
              cases e5 : ft ρ3 μ3 with
              | ok b μ5 =>
                simp only [e5, Rs.bd_ok] at h2
                intro em6 H6 p6 x6 S6
                have E6 := E4.mono p6 x6
                cases b with
                | false =>
                  simp only [Bool.false_eq_true, if_false] at h2
                  exact iteF ⟨ρ3, μ5, em6, p2.trans (p4.trans p6), x2.trans (x4.trans x6), E6, S6, Aft.mono h2 (p4.trans p6) (x4.trans x6)⟩
                | true =>
                  simp only [if_true] at h2
                  refine iteT ⟨ρ3, μ5, em6, E6, S6, ?_⟩
                  cases e7 : fe ρ3 μ5 with
                  | ok v μ7 =>
                    simp only [e7, Rs.bd_ok] at h2
                    intro em8 H8 w p8 x8 S8 r8
                    have P8 := p4.trans (p6.trans p8)
                    have X8 := x4.trans (x6.trans x8)
                    obtain ⟨ys, μ9, hy, hyl, S9, x9, h9⟩ := push_at (r := .no) S8 (pre_get (p2.trans P8) ejD) r8 (Aft.mono h2 P8 X8)
                    exact ⟨ys, hy, hyl, ρ3, μ9, em8, p2.trans P8, (x2.trans X8).trans x9, (E6.mono p8 x8).mono (List.prefix_refl _) x9, S9, h9.mono (List.prefix_refl _) x9⟩
                  | exc C fs μ7 => simp only [e7, Rs.bd_exc] at h2; exact h2
                  | no => simp only [e7, Rs.bd_no] at h2; exact h2
              | exc C fs μ5 => simp only [e5, Rs.bd_exc] at h2; exact h2
              | no => simp only [e5, Rs.bd_no] at h2; exact h2
            | exc C fs μ3 => simp only [e3, Rs.bd_exc] at h2; exact h2
            | no => simp only [e3, Rs.bd_no] at h2; exact h2
    | exc C fs μ1 => rw [e] at h; exact h
    | no => rw [e] at h; exact h
theorem ae_comp (n : Nat) {elt tg iter : Expr} {ifs : List Expr} {scope : Scope} {fi : FI} {g : FG} {ft : FB} {fe : FE} (N : List Str) (caps : List (Option Nat)) (hc : X.calm = true) (hi : AI X tg iter fi) (hg : ∀ s H fp, AG (cxComp X N scope s H fp) tg g)
    (ht : ∀ s H fp, AIf (cxComp X N scope s H fp) ifs ft) (he : ∀ s H fp, AE (cxComp X N scope s H fp) elt fe) (hk : scope.kind = .function) (hcell : ∀ y ∈ scope.names, y.2 ≠ .cell) (hnames : ∀ y ∈ scope.names, y.2 = .local → scope.names.lookup y.1 = some .local)
    (hfree : ∀ y ∈ scope.names, y.2 = .free → X.env.scope.names.lookup y.1 = some .cell ∨ X.env.scope.names.lookup y.1 = some .free) (hcap : capOk X.N X.env.scope scope N caps = true)
    (hs : ∀ x, foldedSetIterable iter X.env x = pure x) : AE X (.ListComp elt [⟨tg, iter, ifs, 0⟩] scope pos) (fComp n caps fi g ft fe) :=
  PE.imp (pe_comp (g := tAG X g) (tt := tAB X ft) (te := tA X fe) N caps hc hi hg ht he hk hcell hnames hfree hcap hs) fun σ H Q hh => comp_imp n hh
end
end AL

set_option Elab.async false
set_option linter.all false
set_option maxRecDepth 100000
set_option maxHeartbeats 4000000
namespace AL
open PySem PySem.Spec PyProof.Rows L2
section
variable {X : Cx} {pos : Pos} {σ : St} {H : Hp} {K : PySem.W.Frag} {em : Em} {μ : Mu} {ρ : Ev}
noncomputable def itA (d : AV) (μ1 : Mu) : Rs AIt := match d with
  | .loc i => if (lstAt μ1 i).isSome = true then .ok (.l i) μ1 else .no
  | .tup ds => .ok (.s ds) μ1
  | .str x => .ok (.s (x.map fun c => .str [c])) μ1
  | _ => .no
noncomputable def fiA (f : FE) : FI := fun ρ μ => (f ρ μ).bd itA
theorem ai_any {tg l : Expr} {f : FE} (h : AE X l f) : AI X tg l (fiA f) := fun pins s σ H R I ⟨ρ, μ, em, E, S, q⟩ => by
  have q : AftI X.K em H ((f ρ μ).bd itA) R := q
  cases e : f ρ μ with
  | ok d μ1 =>
    rw [e] at q
    cases d with
    | loc i => exact ai_list h pins s σ H R I ⟨ρ, μ, em, E, S, by unfold fiL; rw [e]; exact q⟩
    | tup ds => exact ai_tup h pins s σ H R I ⟨ρ, μ, em, E, S, by unfold fiT; rw [e]; exact q⟩
    | str x => exact ai_str h pins s σ H R I ⟨ρ, μ, em, E, S, by unfold fiS; rw [e]; exact q⟩
    | _ => exact q.elim
  | exc C fs μ1 => rw [e] at q; exact q.elim
  | no => rw [e] at q; exact q.elim

noncomputable def scOk (sc scope : Scope) : Bool := scope.names.all fun y => match y.2 with
  | .cell => false
  | .local => scope.names.lookup y.1 == some .local
  | .free => sc.names.lookup y.1 == some .cell || sc.names.lookup y.1 == some .free
  | _ => true
theorem ae_cmp1 (n : Nat) {elt tg iter : Expr} {ifs : List Expr} {scope : Scope} {fi : FI} {g : FG} {ft : FB} {fe : FE} (N : List Str) (caps : List (Option Nat)) (hc : X.calm = true) (hi : AI X tg iter fi) (hg : ∀ s H fp, AG (cxComp X N scope s H fp) tg g)
    (ht : ∀ s H fp, AIf (cxComp X N scope s H fp) ifs ft) (he : ∀ s H fp, AE (cxComp X N scope s H fp) elt fe) (hk : scope.kind = .function := by rfl) (hok : scOk X.env.scope scope = true := by kernel_rfl) (hcap : capOk X.N X.env.scope scope N caps = true := by kernel_rfl)
    (hs : ∀ x, foldedSetIterable iter X.env x = pure x := by intro _; rfl) : AE X (.ListComp elt [⟨tg, iter, ifs, 0⟩] scope pos) (fComp n caps fi g ft fe) := by
  have key : ∀ y ∈ scope.names, (match y.2 with
      | .cell => false
      | .local => scope.names.lookup y.1 == some .local
      | .free => X.env.scope.names.lookup y.1 == some .cell || X.env.scope.names.lookup y.1 == some .free
      | _ => true) = true := List.all_eq_true.mp hok
  refine ae_comp n N caps hc hi hg ht he hk (fun y hy e => ?_) (fun y hy e => ?_) (fun y hy e => ?_) hcap hs
  · have := key y hy
    rw [e] at this
    cases this
  · have := key y hy
    rw [e] at this
    exact beq_iff_eq.mp this
  · have := key y hy
    rw [e] at this
    rcases Bool.or_eq_true_iff.mp this with z | z
    · exact .inl (beq_iff_eq.mp z)
    · exact .inr (beq_iff_eq.mp z)

structure Fn (K : PySem.W.Frag) (x qual : Str) (st : Stmt) (f : Addr) (fd : FuncData) (dV : Value) : Prop where
  ex : ∃ (oc : Value) (od : Option Addr) (kV doc pm : Value) (an : Option Addr) (cdv ct : Value) (osl : Array (Option Value)),
    fd = PySem.W.fnOf x qual (defArgs st) (defBody st) (defScope st) dV kV doc pm an cdv ct ∧ K.lookup f = some ⟨oc, od, .func fd, osl⟩ ∧ PySem.W.codeIn K cdv qual = true
  kp : PySem.W.keepIn K (.ref f) = true
theorem fn_mk {x qual : Str} {st : Stmt} {f : Addr} {oc dV : Value} {od an : Option Addr} {osl : Array (Option Value)} {kV doc pm cdv ct : Value} (l : K.lookup f = some ⟨oc, od, .func (PySem.W.fnOf x qual (defArgs st) (defBody st) (defScope st) dV kV doc pm an cdv ct), osl⟩)
    (c : PySem.W.codeIn K cdv qual = true) (k : PySem.W.keepIn K (.ref f) = true) : Fn K x qual st f (PySem.W.fnOf x qual (defArgs st) (defBody st) (defScope st) dV kV doc pm an cdv ct) dV := ⟨⟨oc, od, kV, doc, pm, an, cdv, ct, osl, rfl, l, c⟩, k⟩
mutual
noncomputable def bdd (n : Nat) : AV → Bool
  | .loc i => decide (i < n)
  | .tup ds => bddL n ds
  | _ => true
noncomputable def bddL (n : Nat) : List AV → Bool
  | [] => true
  | d :: ds => bdd n d && bddL n ds
end
noncomputable def bddO (n : Nat) : AO → Bool
  | .lst ds => bddL n ds
  | .fz ds => bddL n ds
  | .ins _ fs => bddL n (fs.map (·.2))
noncomputable def gcC (μ : Mu) (d : AV) (μ' : Mu) : Prop := bdd μ.length d = true ∧ μ.length ≤ μ'.length ∧ ∀ i, i < μ.length → μ'[i]? = μ[i]? ∨ ∃ o, μ'[i]? = some o ∧ bddO μ.length o = true
open Classical in
noncomputable def gcR (μ : Mu) (r : Rs AV) : Rs AV := match r with
  | .ok d μ' => if gcC μ d μ' then .ok d (μ'.take μ.length) else .ok d μ'
  | r => r
theorem gcR_eq {μ : Mu} {d : AV} : gcR μ (.ok d μ) = .ok d μ := by
  simp only [gcR]
  split <;> simp
theorem gcR_app {μ t : Mu} {d : AV} (h : bdd μ.length d = true) : gcR μ (.ok d (μ ++ t)) = .ok d μ := by
  have hc : gcC μ d (μ ++ t) := ⟨h, by simp, fun i hi => .inl (List.getElem?_append_left hi)⟩
  unfold gcR
  simp [hc]
section
variable {em em' : Em} {H H' : Hp}
mutual
theorem Rp.cut_back (p : em <+: em') : ∀ (d : AV) {v : V}, bdd em.length d = true → Rp K em' H d v → Rp K em H d v
  | .non, _, _, h => by simp only [Rp] at h ⊢; exact h
  | .bl _, _, _, h => by simp only [Rp] at h ⊢; exact h
  | .int _, _, _, h => by simp only [Rp] at h ⊢; exact h
  | .str _, _, _, h => by simp only [Rp] at h ⊢; exact h
  | .loc i, _, b, h => by
    simp only [bdd, decide_eq_true_eq] at b
    simp only [Rp] at h ⊢
    obtain ⟨a, e, q⟩ := h
    obtain ⟨t, rfl⟩ := p
    rw [List.getElem?_append_left b] at e
    exact ⟨a, e, q⟩
  | .tup ds, _, b, h => by
    simp only [bdd] at b
    simp only [Rp] at h ⊢
    obtain ⟨a, xs, q, hq, r⟩ := h
    exact ⟨a, xs, q, hq, RpL.cut_back p ds b r⟩
theorem RpL.cut_back (p : em <+: em') : ∀ (ds : List AV) {xs : List V}, bddL em.length ds = true → RpL K em' H ds xs → RpL K em H ds xs
  | [], _, _, h => by simp only [RpL] at h ⊢; exact h
  | d :: ds, _, b, h => by
    simp only [bddL, Bool.and_eq_true] at b
    simp only [RpL] at h ⊢
    obtain ⟨y, r, q, h1, h2⟩ := h
    exact ⟨y, r, q, Rp.cut_back p d b.1 h1, RpL.cut_back p ds b.2 h2⟩
end
mutual
theorem Rp.bdd_of : ∀ (d : AV) {v : V}, Rp K em H d v → bdd em.length d = true
  | .non, _, _ => rfl
  | .bl _, _, _ => rfl
  | .int _, _, _ => rfl
  | .str _, _, _ => rfl
  | .loc i, _, h => by
    simp only [Rp] at h
    obtain ⟨a, e, _⟩ := h
    simp only [bdd, decide_eq_true_eq]
    exact (List.getElem?_eq_some_iff.mp e).1
  | .tup ds, _, h => by
    simp only [Rp] at h
    obtain ⟨a, xs, _, _, r⟩ := h
    simp only [bdd]
    exact RpL.bdd_of ds r
theorem RpL.bdd_of : ∀ (ds : List AV) {xs : List V}, RpL K em H ds xs → bddL em.length ds = true
  | [], _, _ => rfl
  | d :: ds, _, h => by
    simp only [RpL] at h
    obtain ⟨y, r, _, h1, h2⟩ := h
    simp only [bddL, Bool.and_eq_true]
    exact ⟨Rp.bdd_of d h1, RpL.bdd_of ds h2⟩
end
theorem OpRp.bdd_of {a : Addr} {o : AO} (h : OpRp K em H a o) : bddO em.length o = true := by
  cases o with
  | lst ds => obtain ⟨xs, _, r⟩ := h; exact RpL.bdd_of ds r
  | fz ds => obtain ⟨xs, _, r⟩ := h; exact RpL.bdd_of ds r
  | ins C fs => obtain ⟨A, dx, xs, _, _, _, r⟩ := h; exact RpL.bdd_of _ r
theorem OpRp.cut_back {a : Addr} {o : AO} (p : em <+: em') (b : bddO em.length o = true) (h : OpRp K em' H a o) : OpRp K em H a o := by
  cases o with
  | lst ds => obtain ⟨xs, e, r⟩ := h; exact ⟨xs, e, RpL.cut_back p ds b r⟩
  | fz ds => obtain ⟨xs, e, r⟩ := h; exact ⟨xs, e, RpL.cut_back p ds b r⟩
  | ins C fs => obtain ⟨A, dx, xs, e, q, k, r⟩ := h; exact ⟨A, dx, xs, e, q, k, RpL.cut_back p _ b r⟩
theorem RpSt.cut_back {μ μ' : Mu} {d : AV} (S : RpSt K em μ H) (p : em <+: em') (S' : RpSt K em' μ' H') (g : gcC μ d μ') : RpSt K em (μ'.take μ.length) H' := by
  obtain ⟨gb, gl, go⟩ := g
  have hl := S.len
  have at' : ∀ (i : Nat) (o : AO), (μ'.take μ.length)[i]? = some o → i < μ.length ∧ μ'[i]? = some o := fun i o e => by
    by_cases hi : i < μ.length
    · rw [List.getElem?_take_of_lt hi] at e; exact ⟨hi, e⟩
    · rw [List.getElem?_eq_none (by rw [List.length_take]; omega)] at e; cases e
  refine ⟨by rw [List.length_take]; omega, fun i j a oi oj h1 h2 h3 h4 m1 m2 => ?_, fun i a o h1 h2 => ?_⟩
  · exact S'.inj i j a oi oj (pre_get p h1) (pre_get p h2) (at' i oi h3).2 (at' j oj h4).2 m1 m2
  · obtain ⟨hi, e⟩ := at' i o h2
    refine (S'.obj i a o (pre_get p h1) e).cut_back p ?_
    rcases go i hi with q | ⟨o', q, b⟩
    · rw [e] at q
      rw [hl]
      have := (S.obj i a o h1 q.symm).bdd_of
      rw [hl] at this
      exact this
    · rw [e] at q
      cases q
      rw [hl]
      exact b
theorem gc_aft {μ : Mu} {r : Rs AV} {Q : VK} (S : RpSt K em μ H) (h : Aft K em H (gcR μ r) Q) : Aft K em H r Q := by
  cases r with
  | ok d μ' =>
    unfold gcR at h
    by_cases hc : gcC μ d μ'
    · simp only [hc, if_true] at h
      intro em' H' v p x S' r'
      exact h em H' v (List.prefix_refl _) x (S.cut_back p S' hc) (Rp.cut_back p d (by rw [S.len]; exact hc.1) r')
    · simp only [hc, if_false] at h
      exact h
  | exc C fs μ' => exact h
  | no => exact h
end
noncomputable def fBG (n : Nat) (N : List Str) (f : FS) : List AV → Mu → Rs AV := fun ds μ => gcR μ (fBody n N f ds μ)
theorem fn_ok {P : Program} {w : World} {mg : Str → Option Value} {base : Heap} {x qual : Str} {st : Stmt} {f : Addr} {fd : FuncData} {dV : Value} {N ps : List Str} {k : Nat} {fs : FS} (F : Fn K x qual st f fd dV) (S : FnScope N ps (defScope st))
    (body : ∀ (cdv : Value) (A : Around) (outer : List Env) (s : Shared) (H : Hp) (E : XK), Room k (A.deeper (envOfC qual (defScope st) s.heap.objs.size f cdv)) → ASs (cxOf CX0 P w K mg base N qual (defScope st) f cdv A outer s H E).nox (defBody st) fs) :
    DefA P w K mg base (k + 1) f fd ps (fBG ps.length N fs) := by
  obtain ⟨oc, od, kV, doc, pm, an, cdv, ct, osl, rfl, lk, hcd⟩ := F.ex
  refine fn_of lk hcd S (fun vs H Q E h => h.1) fun A outer s H vs Q E hr hsp => ?_
  obtain ⟨hl, ds, μ, em, r, S0, q⟩ := hsp
  refine ⟨_, (body cdv A outer s H E hr).nox, startE N ds, μ, em, r.start, S0, ?_⟩
  have q : Aft K em H (fBody ps.length N fs ds μ) Q := gc_aft S0 q
  unfold fBody at q
  cases e : fs (startE N ds) μ with
  | ok fl μ' =>
    rw [e] at q
    cases fl with
    | nx ρ' => exact fun em' H' σ' p x S' E' => q em' H' .non p x S' (by simp only [Rp])
    | rt d => exact q
    | bk ρ' => exact q.elim
    | ct ρ' => exact q.elim
  | exc C fs' μ' => rw [e] at q; exact q.elim
  | no => rw [e] at q; exact q.elim
theorem Fn.binds {x qual : Str} {st : Stmt} {f : Addr} {fd : FuncData} {ps : List Str} (F : Fn K x qual st f fd .none)
    (h : ∀ (kV doc pm : Value) (an : Option Addr) (cdv ct : Value) (us : List Value), us.length = ps.length → bindArgs (PySem.W.fnOf x qual (defArgs st) (defBody st) (defScope st) .none kV doc pm an cdv ct) ⟨us, []⟩ = pure (ps.zip us)) : Binds K fd ps [] := by
  obtain ⟨oc, od, kV, doc, pm, an, cdv, ct, osl, rfl, lk, hcd⟩ := F.ex
  exact .all (h kV doc pm an cdv ct)
structure FX (K : PySem.W.Frag) (mg : Str → Option Value) (x : Str) (st : Stmt) (ps : List Str) (nd : Nat) : Type where
  f : Addr
  fd : FuncData
  dV : Value
  F : Fn K x x st f fd dV
  hd : nd = 0 → dV = .none
  m : mg x = some (.ref f)
  b : ∀ k, k ≤ nd → Binds K fd ps (List.replicate k .none)
theorem FX.b0 {mg : Str → Option Value} {x : Str} {st : Stmt} {ps : List Str} {nd : Nat} (T : FX K mg x st ps nd) : Binds K T.fd ps [] := T.b 0 (Nat.zero_le _)
noncomputable def negA (d : AV) (μ : Mu) : Rs AV := match d with
  | .int i => .ok (.int (-i)) μ
  | _ => .no
noncomputable def fNeg (f : FE) : FE := fun ρ μ => (f ρ μ).bd negA
theorem ae_neg {a : Expr} {fa : FE} (ha : AE X a fa) : AE X (.UnaryOp .USub a pos) (fNeg fa) :=
  PE.imp (pe_un un_neg ha) fun σ H Q ⟨ρ, μ, em, E, S, h⟩ => tA_mono (step_e (f := fa) E S h) fun v H1 ⟨em1, d, μ1, M, r, h1⟩ => by
    cases d with
    | int i => simp only [Rp] at r; exact ⟨i, r, h1.here M.S (by simp only [Rp])⟩
    | _ => exact h1.elim
end
end AL

set_option Elab.async false
set_option linter.all false
set_option maxRecDepth 100000
set_option maxHeartbeats 4000000
namespace AL
open PySem PySem.Spec PyProof.Rows L2
section
variable {X : Cx} {pos p2 : Pos} {σ : St} {H : Hp}
end
end AL

set_option Elab.async false
set_option linter.all false
set_option maxRecDepth 100000
set_option maxHeartbeats 4000000
namespace AL
open PySem PySem.Spec PyProof.Rows L2
section
variable {env : Env} {pos cpos : Pos} {e o a : Expr} {es : List Expr}
noncomputable def pE : Expr → Bool
  | .Starred .. => false
  | _ => true
theorem yStar (h : pE e = true) : starEach (e :: es) env = (false, eval e env) :: starEach es env := by
  cases e <;> first | rfl | cases h
theorem yAny (h : es.all pE = true) : (backTo pos (starEach es env)).any (·.1) = false := by
  induction es with
  | nil => rfl
  | cons e es ih =>
    rw [List.all_cons, Bool.and_eq_true] at h
    rw [yStar h.1]
    show (false || (backTo pos (starEach es env)).any (·.1)) = false
    rw [ih h.2]
    rfl
theorem yAll (h : es.all pE = true) : (backTo pos (starEach es env)).all (fun x => !x.1) = true := by
  induction es with
  | nil => rfl
  | cons e es ih =>
    rw [List.all_cons, Bool.and_eq_true] at h
    rw [yStar h.1]
    show (true && (backTo pos (starEach es env)).all (fun x => !x.1)) = true
    rw [ih h.2]
    rfl
theorem yFew (h : (es.all pE && decide (es.length < 30)) = true) : ((backTo cpos (starEach es env)).all (fun x => !x.1) && (backToKw cpos (keywordEach [] env)).all (fun x => x.1.isSome)
      && decide (es.length + ([] : List Keyword).length + (if ([] : List Keyword).isEmpty then 0 else 1) < 30)) = true := by
  rw [Bool.and_eq_true] at h
  rw [yAll h.1]
  exact h.2
noncomputable def pO : Expr → Bool
  | .Call .. => false
  | _ => true
theorem yBase {name : Str} (h : pO o = true) : attributeBase o name env (eval o env) = eval o env := by
  cases o <;> first | rfl | cases h
noncomputable def pT : Expr → Bool
  | .UnaryOp .Not _ _ => false
  | .BoolOp .. => false
  | .IfExp .. => false
  | .Compare .. => false
  | _ => true
theorem yTru (h : pT a = true) : ∀ whole, isTrue a env whole = (do let v ← whole; standAt a.pos; holding [v] (truthy v)) := by
  intro whole
  cases a with
  | UnaryOp op x p => cases op <;> first | rfl | cases h
  | _ => first | rfl | cases h
noncomputable def pW : Expr → Bool
  | .ListComp .. => false
  | .SetComp .. => false
  | .DictComp .. => false
  | _ => true
theorem ySwap {t : Option Expr} {n : Nat} (h : pW e = true) : swapsWith e t n env = pure false := by
  cases e <;> first | rfl | cases h
noncomputable def pS : Expr → Bool
  | .Set .. => false
  | _ => true
theorem yFold (h : pS e = true) : ∀ x, foldedSetIterable e env x = pure x := by
  intro x
  cases e <;> first | rfl | cases h
noncomputable def pSl : Expr → Bool
  | .Slice .. => false
  | _ => true
theorem yIx (h : pSl e = true) : PlainIx e := by
  intro u v
  cases e <;> first | rfl | cases h
theorem yMark {op : CmpOp} (h : pS e = true) : behindInMarks op e = false := by
  cases e <;> first | rfl | cases h
theorem yLast {op op' : CmpOp} {b c : Expr} (h : pS c = true) : lastMarks [op, op'] [b, c] = false := yMark h
theorem yAsg {t : Expr} {ts : List Expr} (h : pE t = true) : (assignEach (t :: ts) env).map (·.2) = assign t env :: (assignEach ts env).map (·.2) := by
  cases t <;> first | rfl | cases h
theorem yLen {ts : List Expr} : (assignEach ts env).length = ts.length := by
  induction ts with
  | nil => rfl
  | cons t ts ih => cases t <;> exact congrArg (· + 1) ih
theorem yNoStar {ts : List Expr} (h : ts.all pE = true) : (assignEach ts env).findIdx? (·.1) = none := by
  induction ts with
  | nil => rfl
  | cons t ts ih =>
    rw [List.all_cons, Bool.and_eq_true] at h
    have := ih h.2
    cases t <;> first | (show List.findIdx? _ ((false, _) :: assignEach ts env) = none; rw [List.findIdx?_cons, this]; rfl) | cases h.1
theorem yStar1 {a : Expr} (h : pE a = true) : starEach [a] env = [(false, eval a env)] := yStar h
end
section
variable {X : Cx} {pos p p2 : Pos} {a b c e o : Expr} {es rest : List Expr} {fa fb fc fe fo f : FE} {fl : FL} {x : Str} {g g' : AV → AV → Mu → Rs AV} {id T : String}
theorem ya_cons (ha : AE X e f) (hr : AA X es fl) (h : pE e = true := by rfl) : AA X (e :: es) (fConsL f fl) := aa_cons ha hr (yStar h)
theorem y_cmp {op : CmpOp} (ho : OpR X (compareOp op) (rA X.K g)) (ha : AE X a fa) (hb : AE X b fb) (h : pS b = true := by rfl) : AE X (.Compare a [op] [b] pos) (fOp g fa fb) := ae_cmp ho ha hb (yMark h)
theorem yt_cmp {op : CmpOp} (ho : OpR X (compareOp op) (rA X.K g)) (ha : AE X a fa) (hb : AE X b fb) (h : pS b = true := by rfl) : AT X (.Compare a [op] [b] pos) (fT (fOp g fa fb)) := at_cmp ho ha hb (yMark h)
theorem y_chain {op op' : CmpOp} (ho : OpR X (compareOp op) (rA X.K g)) (ho' : OpR X (compareOp op') (rA X.K g')) (ha : AE X a fa) (hb : AE X b fb) (hc : AE X c fc) (h : pS c = true := by rfl) : AE X (.Compare a [op, op'] [b, c] pos) (fChain g g' fa fb fc) := ae_chain ho ho' ha hb hc (yLast h)
theorem yt_tru (ha : AE X a fa) (h : pT a = true := by rfl) : AT X a (fTru fa) := at_tru ha (yTru h)
theorem y_ix (ha : AE X a fa) (hb : AE X b fb) (h : pSl b = true := by rfl) : AE X (.Subscript a b pos) (fOp ixA fa fb) := ae_ix ha hb (yIx h)
theorem y_callB {g : List AV → Mu → Rs AV} (hc : CallR X (.builtin id) (rCA X.K g)) (hv : bootBuiltins x = some (.builtin id)) (ha : AA X (e :: es) fl) (hm : X.mg x = none) (h : (e :: es).all pE = true := by rfl) (hg : Gl X x := by rfl) (hn : x ≠ "__name__" := by decide +kernel) (hdb : (x == ("__debug__" : Str)) = false := by decide +kernel) :
    AE X (.Call (.Name x p) (e :: es) [] pos) (fCB g fl) := by
  rw [List.all_cons, Bool.and_eq_true] at h
  exact ae_callB hc hv ha hm hg hn hdb (yStar h.1) (yAny h.2)
theorem y_callT {g : List AV → Mu → Rs AV} (hc : CallR X (.type T) (rCA X.K g)) (hv : bootBuiltins x = some (.type T)) (ha : AA X (e :: es) fl) (hm : X.mg x = none) (h : (e :: es).all pE = true := by rfl) (hg : Gl X x := by rfl) (hn : x ≠ "__name__" := by decide +kernel) (hdb : (x == ("__debug__" : Str)) = false := by decide +kernel) :
    AE X (.Call (.Name x p) (e :: es) [] pos) (fCB g fl) := by
  rw [List.all_cons, Bool.and_eq_true] at h
  exact ae_callT hc hv ha hm hg hn hdb (yStar h.1) (yAny h.2)
theorem y_bm {g : AV → List AV → Mu → Rs AV} {name : Str} {apos cpos : Pos} (T : String) (pa : PlainAttrs T) (slot : Slot T name id) (hty : typeOf (.builtin id) = pure (.type "method_descriptor")) (hm : MtR X id (rMA X.K g)) (ho : AE X o fo) (ha : AA X (e :: es) fl)
    (hb : attributeBase o name X.env (eval o X.env) = eval o X.env) (h : (((e :: es).all pE && decide ((e :: es).length < 30)) && (apos.endLine == cpos.line)) = true := by rfl) : AE X (.Call (.Attribute o name apos) (e :: es) [] cpos) (fBM T g fo fl) := by
  rw [Bool.and_eq_true] at h
  have h1 := h.1
  rw [Bool.and_eq_true, List.all_cons, Bool.and_eq_true] at h1
  exact ae_bm T pa slot hty hm ho ha hb (yFew h.1) h.2 (yStar h1.1.1) (yAny h1.1.2)
theorem y_call {k : Nat} {f : Addr} {fd : FuncData} {ps : List Str} {F : List AV → Mu → Rs AV} (D : DefA X.prog X.w X.K X.mg X.base k f fd ps F) (hr : Room k X.A) (hm : X.mg x = some (.ref f)) (hk : PySem.W.keepIn X.K (.ref f) = true) (hb : Binds X.K fd ps [])
    (ha : AA X (e :: es) fl) {n : Nat} (hn : ps.length = n := by rfl) (h : (e :: es).all pE = true := by rfl) (hg : Gl X x := by rfl) (hdb : (x == ("__debug__" : Str)) = false := by decide +kernel) : AE X (.Call (.Name x p) (e :: es) [] pos) (fCall n F [] fl) := by
  rw [List.all_cons, Bool.and_eq_true] at h
  exact ae_call D hr hm hk hb ha hn hg hdb (yStar h.1) (yAny h.2)
theorem y_expr (he : AE X e fe) (h : pW e = true := by rfl) : AS X (.Expr e pos) (fDrop fe) := as_expr he (ySwap h)
theorem y_set (i : Nat) {pos' : Pos} (hN : X.N.Nodup) (he : AE X e fe) (h : pW e = true := by rfl) (hi : X.N[i]? = some x := by rfl) (hx : Loc X.env.scope x := by first | exact Or.inl rfl | exact Or.inr rfl)
    (hf : X.fn x = true ∨ X.env.scope.names.lookup x = some .local := by first | exact .inl rfl | exact .inr rfl) : AS X (.Assign [.Name x pos'] e pos) (fAsg fe (gNm i)) := as_set i hN he hi hx (ySwap h) hf
theorem ys_cons {t : Expr} {ts : List Expr} {g : FG} {gs : List AV → Ev → Mu → Rs Ev} (h1 : AG X t g) (h2 : AGs X ts gs) (h : pE t = true := by rfl) : AGs X (t :: ts) (gsCons g gs) := ags_cons h1 h2 (yAsg h)
theorem yg_tup {ts : List Expr} {k n : Nat} {gs : List AV → Ev → Mu → Rs Ev} (hc : X.calm = true) (h : AGs X ts gs) (hn : ts.length = n := by rfl) (hst : ts.all pE = true := by rfl) : AG X (.Tuple ts k pos) (gTp n gs) := ag_tup hc h (yLen.trans hn) (yNoStar hst)
theorem y_for (n : Nat) {tg iter : Expr} {fi : FI} {g : FG} {b : List Stmt} {fb : FS} (hp : PassesOwn (model X.prog X.w) X.A X.env X.xe) (hc : X.calm = true) (hi : AI X tg iter fi) (hg : AG X tg g) (hb : ASs X b fb) (h : pS iter = true := by rfl) : AS X (.For tg iter b [] pos) (fFor n fi g fb) := as_for n hp hc hi hg hb (yFold h)
theorem yi_range1 {tg : Expr} (ha : AA X [a] fl) (hm : X.mg "range" = none) (h : pE a = true := by rfl) (hg : Gl X "range" := by rfl) : AI X tg (.Call (.Name "range" p) [a] [] pos) (fiR1 fl) := ai_range1 ha hm hg (yStar1 h)
theorem y_comp (n : Nat) {elt tg iter : Expr} {ifs : List Expr} {scope : Scope} {fi : FI} {g : FG} {ft : FB} {fe : FE} (N : List Str) (caps : List (Option Nat)) (hc : X.calm = true) (hi : AI X tg iter fi) (hg : ∀ s H fp, AG (cxComp X N scope s H fp) tg g)
    (ht : ∀ s H fp, AIf (cxComp X N scope s H fp) ifs ft) (he : ∀ s H fp, AE (cxComp X N scope s H fp) elt fe) (h : pS iter = true := by rfl) (hk : scope.kind = .function := by rfl) (hok : scOk X.env.scope scope = true := by kernel_rfl) (hcap : capOk X.N X.env.scope scope N caps = true := by kernel_rfl) :
    AE X (.ListComp elt [⟨tg, iter, ifs, 0⟩] scope pos) (fComp n caps fi g ft fe) := ae_cmp1 n N caps hc hi hg ht he hk hok hcap (yFold h)
end
theorem kAt0 {P : Nat → Prop} (h : P 0) : ∀ k, k ≤ 0 → P k := fun k hk => by cases Nat.le_zero.mp hk; exact h
theorem kAt1 {P : Nat → Prop} (h : P 0) (h1 : P 1) : ∀ k, k ≤ 1 → P k := fun k hk => by
  cases k with
  | zero => exact h
  | succ k => cases Nat.le_zero.mp (Nat.le_of_succ_le_succ hk); exact h1
theorem nAt0 {α : Type} {P : List α → Prop} (h : P []) : ∀ us : List α, us.length = 0 → P us
  | [], _ => h
theorem nAt1 {α : Type} {P : List α → Prop} (h : ∀ a, P [a]) : ∀ us : List α, us.length = 1 → P us
  | [a], _ => h a
theorem nAt2 {α : Type} {P : List α → Prop} (h : ∀ a b, P [a, b]) : ∀ us : List α, us.length = 2 → P us
  | [a, b], _ => h a b
theorem nAt3 {α : Type} {P : List α → Prop} (h : ∀ a b c, P [a, b, c]) : ∀ us : List α, us.length = 3 → P us
  | [a, b, c], _ => h a b c
theorem nAt4 {α : Type} {P : List α → Prop} (h : ∀ a b c d, P [a, b, c, d]) : ∀ us : List α, us.length = 4 → P us
  | [a, b, c, d], _ => h a b c d
end AL

set_option Elab.async false
set_option linter.all false
set_option maxRecDepth 100000
set_option maxHeartbeats 4000000
namespace AL
open PySem PySem.Spec PyProof.Rows L2
noncomputable def objAt (μ : Mu) (d : AV) : Option (Nat × List (Nat × AV)) := match d with
  | .loc i => match μ[i]? with
    | some (.ins C fs) => some (C, fs)
    | _ => none
  | _ => none
noncomputable def putA (f : Nat) (v : AV) : List (Nat × AV) → List (Nat × AV)
  | [] => [(f, v)]
  | (g, x) :: r => if g = f then (g, v) :: r else (g, x) :: putA f v r
noncomputable def hasT : List Nat → Nat → Bool
  | [], _ => false
  | a :: r, C => a == C || hasT r C
theorem nm_inj : ∀ a, a < nmN → ∀ b, b < nmN → strOf a = strOf b → a = b := by decide +kernel
section
variable {K : PySem.W.Frag} {em : Em} {H : Hp} {μ : Mu}
theorem objAt_rel {d : AV} {v : V} {C : Nat} {fs : List (Nat × AV)} (S : RpSt K em μ H) (r : Rp K em H d v) (e : objAt μ d = some (C, fs)) :
    ∃ i a A dx xs, d = .loc i ∧ em[i]? = some a ∧ v = .ref a ∧ μ[i]? = some (.ins C fs) ∧ H a = some (.ins A dx xs) ∧ InsOk K C A fs ∧ xs.map (·.1) = fs.map (fun p => strOf p.1) ∧ RpL K em H (fs.map (·.2)) (xs.map (·.2)) := by
  cases d with
  | loc i =>
    unfold objAt at e
    cases h : μ[i]? with
    | none => simp only [h] at e; cases e
    | some o =>
      cases o with
      | ins C' fs' =>
        simp only [h] at e
        cases e
        simp only [Rp] at r
        obtain ⟨a, ea, rfl⟩ := r
        obtain ⟨A, dx, xs, q⟩ := S.obj i a _ ea h
        exact ⟨i, a, A, dx, xs, rfl, ea, rfl, h, q⟩
      | _ => simp only [h] at e; cases e
  | _ => cases e
theorem look_rel : ∀ {fs : List (Nat × AV)} {xs : List (Str × V)} {f : Nat} {d : AV}, xs.map (·.1) = fs.map (fun p => strOf p.1) → RpL K em H (fs.map (·.2)) (xs.map (·.2)) → (∀ p ∈ fs, p.1 < nmN) → f < nmN → fs.lookup f = some d →
    ∃ v, xs.lookup (strOf f) = some v ∧ Rp K em H d v
  | [], _, _, _, _, _, _, _, e => by simp at e
  | (g, y) :: fs, [], _, _, k, _, _, _, _ => by simp at k
  | (g, y) :: fs, (s, x) :: xs, f, d, k, r, b, hf, e => by
    rw [List.map_cons, List.map_cons] at k r
    injection k with k1 k2
    obtain ⟨x', r', ex, r1, r2⟩ := r.uncons
    injection ex with ex1 ex2
    subst ex1 ex2
    have k1 : s = strOf g := k1
    by_cases h : f = g
    · subst h
      rw [List.lookup_cons, beq_self_eq_true] at e
      cases e
      exact ⟨x, by rw [List.lookup_cons, k1, beq_self_eq_true], r1⟩
    · have h1 : (f == g) = false := beq_eq_false_iff_ne.mpr h
      rw [List.lookup_cons, h1] at e
      have h2 : (strOf f == s) = false := beq_eq_false_iff_ne.mpr fun z => h (nm_inj f hf g (b (g, y) List.mem_cons_self) (z.trans k1))
      rw [List.lookup_cons, h2]
      exact look_rel k2 r2 (fun p hp => b p (List.mem_cons_of_mem _ hp)) hf e
theorem mem_lookup {α β : Type} [BEq α] [LawfulBEq α] : ∀ {xs : List (α × β)} {m : α} {v : β}, xs.lookup m = some v → m ∈ xs.map (·.1)
  | [], _, _, h => by simp at h
  | (k, x) :: xs, m, v, h => by
    rw [List.map_cons]
    by_cases e : m = k
    · exact List.mem_cons.mpr (.inl e)
    · rw [List.lookup_cons, beq_eq_false_iff_ne.mpr e] at h
      exact List.mem_cons_of_mem _ (mem_lookup h)
theorem put_rel {f : Nat} {d : AV} {v : V} (hd : Rp K em H d v) (hf : f < nmN) : ∀ {fs : List (Nat × AV)} {xs : List (Str × V)}, xs.map (·.1) = fs.map (fun p => strOf p.1) → RpL K em H (fs.map (·.2)) (xs.map (·.2)) → (∀ p ∈ fs, p.1 < nmN) →
    (putF (strOf f) v xs).map (·.1) = (putA f d fs).map (fun p => strOf p.1) ∧ RpL K em H ((putA f d fs).map (·.2)) ((putF (strOf f) v xs).map (·.2))
  | [], [], _, _, _ => ⟨rfl, RpL.cons hd RpL.nil⟩
  | [], _ :: _, k, _, _ => by simp at k
  | (g, y) :: fs, [], k, _, _ => by simp at k
  | (g, y) :: fs, (s, x) :: xs, k, r, b => by
    rw [List.map_cons, List.map_cons] at k r
    injection k with k1 k2
    obtain ⟨x', r', ex, r1, r2⟩ := r.uncons
    injection ex with ex1 ex2
    subst ex1 ex2
    have k1 : s = strOf g := k1
    by_cases h : g = f
    · have h' : s = strOf f := by rw [k1, h]
      rw [show putF (strOf f) v ((s, x) :: xs) = (s, v) :: xs from if_pos h', show putA f d ((g, y) :: fs) = (g, d) :: fs from if_pos h]
      exact ⟨by rw [List.map_cons, List.map_cons, k2, k1], RpL.cons hd r2⟩
    · have h' : ¬ s = strOf f := fun z => h (nm_inj g (b (g, y) List.mem_cons_self) f hf (k1.symm.trans z))
      rw [show putF (strOf f) v ((s, x) :: xs) = (s, x) :: putF (strOf f) v xs from if_neg h', show putA f d ((g, y) :: fs) = (g, y) :: putA f d fs from if_neg h]
      obtain ⟨i1, i2⟩ := put_rel hd hf k2 r2 (fun p hp => b p (List.mem_cons_of_mem _ hp))
      exact ⟨by rw [List.map_cons, List.map_cons, i1, k1], RpL.cons r1 i2⟩
theorem mem_putA {f : Nat} {d : AV} : ∀ {fs : List (Nat × AV)} {p : Nat × AV}, p ∈ putA f d fs → p.1 = f ∨ ∃ q ∈ fs, q.1 = p.1
  | [], p, h => by
    rw [show putA f d [] = [(f, d)] from rfl] at h
    simp at h
    exact .inl (by rw [h])
  | (g, y) :: fs, p, h => by
    by_cases hg : g = f
    · rw [show putA f d ((g, y) :: fs) = (g, d) :: fs from if_pos hg] at h
      rcases List.mem_cons.mp h with h | h
      · exact .inl (by rw [h]; exact hg)
      · exact .inr ⟨p, List.mem_cons_of_mem _ h, rfl⟩
    · rw [show putA f d ((g, y) :: fs) = (g, y) :: putA f d fs from if_neg hg] at h
      rcases List.mem_cons.mp h with h | h
      · exact .inr ⟨(g, y), List.mem_cons_self, by rw [h]⟩
      · rcases mem_putA h with z | ⟨q, hq, e⟩
        · exact .inl z
        · exact .inr ⟨q, List.mem_cons_of_mem _ hq, e⟩
end
section
variable {X : Cx} {e o value : Expr} {es : List Expr} {x m : Str} {pos pos' p apos : Pos} {fe fo fv : FE} {fl : FL} {σ : St} {H : Hp}
noncomputable def fldA (f : Nat) (d : AV) (μ : Mu) : Rs AV := match objAt μ d with
  | some (_, fs) => match fs.lookup f with
    | some v => .ok v μ
    | none => .no
  | none => .no
noncomputable def fFld (f : Nat) (fe : FE) : FE := fun ρ μ => (fe ρ μ).bd fun d μ1 => fldA f d μ1
theorem ae_fld (f : Nat) (he : AE X e fe) (hb : attributeBase e x X.env (eval e X.env) = eval e X.env) (hx : strOf f = x := by decide +kernel) : AE X (.Attribute e x pos) (fFld f fe) := by
  subst hx
  refine PE.imp (pe_fld he hb) fun σ H Q ⟨ρ, μ, em, E, S, h⟩ => tA_mono (step_e (f := fe) E S h) fun v H1 ⟨em1, d, μ1, M, r, h1⟩ => ?_
  unfold fldA at h1
  cases eo : objAt μ1 d with
  | none => simp only [eo] at h1; exact h1.elim
  | some q =>
    obtain ⟨C, fs⟩ := q
    simp only [eo] at h1
    cases el : fs.lookup f with
    | none => simp only [el] at h1; exact h1.elim
    | some w =>
      simp only [el] at h1
      obtain ⟨i, a, A, dx, xs, rfl, ei, rfl, _, ha, ok, k, rl⟩ := objAt_rel M.S r eo
      have hm : f ∈ fs.map (·.1) := mem_lookup el
      obtain ⟨q, hq, rfl⟩ := List.mem_map.mp hm
      obtain ⟨v, lv, rv⟩ := look_rel k rl (fun p hp => (ok.at_ p hp).1) (ok.at_ q hq).1 el
      exact ⟨a, A, dx, xs, v, rfl, ha, ok.cls, (ok.at_ q hq).2, lv, h1.here M.S rv⟩
theorem y_fld (f : Nat) (he : AE X e fe) (h : pO e = true := by rfl) (hx : strOf f = x := by decide +kernel) : AE X (.Attribute e x pos) (fFld f fe) := ae_fld f he (yBase h) hx
noncomputable def NA (K : PySem.W.Frag) (cl : List Nat) (f : Nat) : Prop := ∀ C A, hasT cl C = true → PySem.W.nsIn K mainGlobals (strOf C) = some (some (.ref A)) → NoAttr K A (strOf f)
theorem na_nil {K : PySem.W.Frag} {f : Nat} : NA K [] f := fun _ _ h => by cases h
theorem na_cons {K : PySem.W.Frag} {cl : List Nat} {f C : Nat} {A : Addr} {cn fx : Str} (n : PySem.W.nsIn K mainGlobals cn = some (some (.ref A))) (a : NoAttr K A fx) (h : NA K cl f) (hc : strOf C = cn := by decide +kernel) (hx : strOf f = fx := by decide +kernel) : NA K (C :: cl) f := by
  subst hc hx
  intro D B hD hB
  rcases Bool.or_eq_true_iff.mp hD with z | z
  · have z : C = D := beq_iff_eq.mp z
    subst z
    rw [n] at hB
    injection hB with hB
    injection hB with hB
    injection hB with hB
    subst hB
    exact a
  · exact h D B z hB
noncomputable def setFA (cl : List Nat) (f : Nat) (d y : AV) (μ : Mu) : Rs AV := match d with
  | .loc i => match μ[i]? with
    | some (.ins C fs) => if (hasT cl C && decide (fs.length < 1000)) = true then .ok .non (μ.set i (.ins C (putA f y fs))) else .no
    | _ => .no
  | _ => .no
noncomputable def fSetF (cl : List Nat) (f : Nat) (fo fv : FE) : FS := fun ρ μ => (fv ρ μ).bd fun y μ1 => (fo ρ μ1).bd fun d μ2 => (setFA cl f d y μ2).bd fun _ μ3 => .ok (.nx ρ) μ3
theorem as_fld (cl : List Nat) (f : Nat) (hN : NA X.K cl f) (ho : AE X o fo) (hv : AE X value fv) (hs : swapsWith value (some (.Attribute o x pos')) pos.line X.env = pure false) (hf : f < nmN := by decide) (hx : strOf f = x := by decide +kernel) :
    AS X (.Assign [.Attribute o x pos'] value pos) (fSetF cl f fo fv) := by
  subst hx
  refine PS.imp (ps_fld ho hv hs) fun D σ H ⟨ρ, μ, em, E, S, h⟩ => tA_mono (step_s (f := fv) E S h) fun y H1 ⟨em1, dy, μ1, M, ry, h1⟩ => tA_mono (step_s (f := fo) M.E M.S h1) fun v H2 ⟨em2, d, μ2, M2, r, h2⟩ => ?_
  cases d with
  | loc i =>
    unfold setFA at h2
    cases eo : μ2[i]? with
    | none => simp only [eo] at h2; exact h2.elim
    | some ob =>
      cases ob with
      | ins C fs =>
        simp only [eo] at h2
        by_cases hc : (hasT cl C && decide (fs.length < 1000)) = true
        · rw [if_pos hc] at h2
          rw [Bool.and_eq_true] at hc
          obtain ⟨hc, hl⟩ := hc
          have hl : fs.length < 1000 := of_decide_eq_true hl
          obtain ⟨i', a, A, dx, xs, e1, ei, rfl, eo', ha, ok, k, rl⟩ := objAt_rel (C := C) (fs := fs) M2.S r (by unfold objAt; simp only [eo])
          injection e1 with e1
          subst e1
          have na := hN C A hc ok.ns
          have ry2 := ry.mono M2.p M2.x
          have hb : ∀ p ∈ fs, p.1 < nmN := fun p hp => (ok.at_ p hp).1
          refine ⟨a, A, dx, xs, rfl, ha, ok.cls, na, ?_, ?_⟩
          · have := congrArg List.length k
            rw [List.length_map, List.length_map] at this
            omega
          · obtain ⟨S3, x3⟩ := M2.S.setO (o' := .ins C (putA f dy fs)) (u := .ins A dx (putF (strOf f) y xs)) ei eo' rfl fun x3 => by
              obtain ⟨k2, r2⟩ := put_rel (ry2.mono (List.prefix_refl _) x3) hf k (rl.mono (List.prefix_refl _) x3) hb
              refine ⟨A, dx, _, upd_same, ⟨ok.ns, ok.cls, fun p hp => ?_⟩, k2, r2⟩
              rcases mem_putA hp with z | ⟨q, hq, z⟩
              · rw [z]; exact ⟨hf, na⟩
              · rw [← z]; exact ok.at_ q hq
            exact h2 em2 _ σ (List.prefix_refl _) x3 S3 (M2.E.mono (List.prefix_refl _) x3)
        · rw [if_neg hc] at h2; exact h2.elim
      | _ => simp only [eo] at h2; exact h2.elim
  | _ => exact h2.elim
theorem y_setF (cl : List Nat) (f : Nat) (hN : NA X.K cl f) (ho : AE X o fo) (hv : AE X value fv) (h : pW value = true := by rfl) (hf : f < nmN := by decide) (hx : strOf f = x := by decide +kernel) : AS X (.Assign [.Attribute o x pos'] value pos) (fSetF cl f fo fv) := as_fld cl f hN ho hv (ySwap h) hf hx

structure MD (P : Program) (w : World) (K : PySem.W.Frag) (mg : Str → Option Value) (base : Heap) (k : Nat) (m : Str) (n : Nat) (C : Nat) (F : List AV → Mu → Rs AV) : Prop where
  ex : ∃ (A f : Addr) (fd : FuncData) (ps : List Str) (k' : Nat), PySem.W.nsIn K mainGlobals (strOf C) = some (some (.ref A)) ∧ Cls K A ∧ Meth K A m f ∧ k' ≤ k ∧ ps.length = n ∧ DefA P w K mg base k' f fd ps F ∧ Binds K fd ps []
noncomputable def MDs (P : Program) (w : World) (K : PySem.W.Frag) (mg : Str → Option Value) (base : Heap) (k : Nat) (m : Str) (n : Nat) (D : List (Nat × (List AV → Mu → Rs AV))) : Prop := ∀ C F, D.lookup C = some F → MD P w K mg base k m n C F
theorem mds_nil {P : Program} {w : World} {K : PySem.W.Frag} {mg : Str → Option Value} {base : Heap} {k : Nat} {m : Str} {n : Nat} : MDs P w K mg base k m n [] := fun _ _ h => by cases h
theorem mds_cons {P : Program} {w : World} {K : PySem.W.Frag} {mg : Str → Option Value} {base : Heap} {k : Nat} {m : Str} {n : Nat} {C k' : Nat} {cn : Str} {A f : Addr} {fd : FuncData} {ps : List Str} {F : List AV → Mu → Rs AV} {D : List (Nat × (List AV → Mu → Rs AV))}
    (hn : PySem.W.nsIn K mainGlobals cn = some (some (.ref A))) (hc : Cls K A) (hm : Meth K A m f) (d : DefA P w K mg base k' f fd ps F) (b : Binds K fd ps []) (h : MDs P w K mg base k m n D) (hk : k' ≤ k := by omega) (hl : ps.length = n := by rfl) (hcn : strOf C = cn := by decide +kernel) : MDs P w K mg base k m n ((C, F) :: D) := by
  subst hcn
  intro C' F' e
  rw [List.lookup_cons] at e
  cases z : C' == C with
  | true =>
    rw [z] at e
    cases e
    have z : C' = C := beq_iff_eq.mp z
    subst z
    exact ⟨A, f, fd, ps, k', hn, hc, hm, hk, hl, d, b⟩
  | false =>
    rw [z] at e
    exact h C' F' e
noncomputable def tMD (X : Cx) (k : Nat) (m : Str) (ta : TE) (t : TA) : TE := fun σ H Q => ta σ H fun x H1 => ∃ a C dx fs f fd ps sp k', x = .ref a ∧ H1 a = some (.ins C dx fs) ∧ fs.lookup m = none ∧ Cls X.K C ∧ Meth X.K C m f ∧ k' ≤ k ∧
  FnOk X.prog X.w X.K X.mg X.base CX0 k' f fd ps sp ∧ Binds X.K fd ps [] ∧ t σ H1 fun vs H2 => sp (x :: (vs ++ [])) H2 Q E0
theorem pe_md {k : Nat} {ta : TE} {t : TA} {pl : Sem Bool} (he : PE X o ta) (hr : Room k X.A) (ha : PA X (e :: es) t) (hst : starEach (e :: es) X.env = (false, eval e X.env) :: starEach es X.env) (hpl : (backTo pos (starEach es X.env)).any (·.1) = false)
    (ht : eval (.Call (.Attribute o m apos) (e :: es) [] pos) X.env = (do
      let ov ← eval o X.env
      standAt apos.atName
      let (f, first) ← holding [ov] (getMethod ov m pl)
      callWith pos f first (backTo pos (starEach (e :: es) X.env)) (backToKw pos (keywordEach [] X.env)))) : PE X (.Call (.Attribute o m apos) (e :: es) [] pos) (tMD X k m ta t) := by
  intro pins s σ H Q I h
  refine PySem.W.methodCall_KW (pl := pl) (thn (he pins s σ H _ I h) fun u s1 ⟨x, H1, I1, rx, a, C, dx, fs, f, fd, ps, sp, k', ex, ea, l, c, hm, hk, F, hb, q⟩ => ?_) ht
  subst ex
  obtain rfl : u = Value.ref a := rx
  refine getmeth_ok I1 ea c hm l ?_
  refine PySem.W.callWith_K (first := [.ref a]) (h₀ := X.base) I.ok.mod.kin hm.kp (thn (ha pos pins s1 σ H1 _ I1 q) fun us s2 ⟨vs, H2, I2, r, q2⟩ => ⟨I2.kIn, ?_⟩) hst hpl
  exact run_fn (us := .ref a :: us) (vs := .ref a :: vs) F (hr.mono hk) hb .nil pass0 I2 (.cons rfl r) q2
theorem pe_md0 {k : Nat} {ta : TE} {pl : Sem Bool} (he : PE X o ta) (hr : Room k X.A)
    (ht : eval (.Call (.Attribute o m apos) [] [] pos) X.env = (do
      let ov ← eval o X.env
      standAt apos.atName
      let (f, first) ← holding [ov] (getMethod ov m pl)
      callWith pos f first (backTo pos (starEach [] X.env)) (backToKw pos (keywordEach [] X.env)))) : PE X (.Call (.Attribute o m apos) [] [] pos) (tMD X k m ta tNil) := by
  intro pins s σ H Q I h
  refine PySem.W.methodCall_KW (pl := pl) (thn (he pins s σ H _ I h) fun u s1 ⟨x, H1, I1, rx, a, C, dx, fs, f, fd, ps, sp, k', ex, ea, l, c, hm, hk, F, hb, q⟩ => ?_) ht
  subst ex
  obtain rfl : u = Value.ref a := rx
  refine getmeth_ok I1 ea c hm l ?_
  exact PySem.W.callWith_K0 (first := [.ref a]) I1.kIn hm.kp (run_fn (us := [.ref a]) (vs := [.ref a]) F (hr.mono hk) hb .nil pass0 I1 (.cons rfl .nil) q)
noncomputable def dispA (D : List (Nat × (List AV → Mu → Rs AV))) (μ : Mu) (d : AV) : Option (List AV → Mu → Rs AV) := match objAt μ d with
  | some (C, _) => D.lookup C
  | none => none
noncomputable def fMeth (n : Nat) (D : List (Nat × (List AV → Mu → Rs AV))) (fo : FE) (fl : FL) : FE := fun ρ μ => (fo ρ μ).bd fun d μ1 => match dispA D μ1 d with
  | some F => (fl ρ μ1).bd fun ds μ2 => if ds.length + 1 = n then F (d :: ds) μ2 else .no
  | none => .no
theorem md_step {k n : Nat} {D : List (Nat × (List AV → Mu → Rs AV))} {t : TA} (hD : MDs X.prog X.w X.K X.mg X.base k m n D)
    (hfl : ∀ {em : Em} {H : Hp} {ρ : Ev} {σ : St} {μ : Mu} {k : List AV → Mu → Rs AV} {Q : VK}, RpEnv X.K em H ρ σ → RpSt X.K em μ H → Aft X.K em H ((fl ρ μ).bd k) Q → t σ H fun vs H1 => ∃ em1 ds μ1, Mid X.K em H ρ σ em1 μ1 H1 ∧ RpL X.K em1 H1 ds vs ∧ Aft X.K em1 H1 (k ds μ1) Q)
    (ht : ∀ {σ : St} {H : Hp} {Q Q' : List V → Hp → Prop}, t σ H Q → (∀ v H, Q v H → Q' v H) → t σ H Q') {σ : St} {H : Hp} {Q : VK} (h : tA X (fMeth n D fo fl) σ H Q) : tMD X k m (tA X fo) t σ H Q := by
  obtain ⟨ρ, μ, em, E, S, h⟩ := h
  refine tA_mono (step_e (f := fo) E S h) fun v H1 ⟨em1, d, μ1, M, r, h1⟩ => ?_
  unfold dispA at h1
  cases eo : objAt μ1 d with
  | none => simp only [eo] at h1; exact h1.elim
  | some q =>
    obtain ⟨C, fs⟩ := q
    simp only [eo] at h1
    cases el : D.lookup C with
    | none => simp only [el] at h1; exact h1.elim
    | some F =>
      simp only [el] at h1
      obtain ⟨i, a, A, dx, xs, rfl, ei, rfl, _, ha, ok, k1, rl⟩ := objAt_rel M.S r eo
      obtain ⟨A', f, fd, ps, k', ns, cl, me, hk, hl, d, b⟩ := (hD C F el).ex
      rw [ok.ns] at ns
      injection ns with ns
      injection ns with ns
      injection ns with ns
      subst ns
      have ln : xs.lookup m = none := by
        cases z : xs.lookup m with
        | none => rfl
        | some w =>
          have hm := mem_lookup z
          rw [k1] at hm
          obtain ⟨p, hp, e⟩ := List.mem_map.mp hm
          have := (ok.at_ p hp).2
          rw [show strOf p.1 = m from e] at this
          have z := me.at_
          rw [show PySem.W.findIn X.K (.ref A) m = some none from this] at z
          injection z with z
          cases z
      refine ⟨a, A, dx, xs, f, fd, ps, _, k', rfl, ha, ln, cl, me, hk, d, b, ?_⟩
      refine ht (hfl M.E M.S h1) fun vs H2 ⟨em2, ds, μ2, M2, r2, h2⟩ => ?_
      obtain ⟨hl2, h2⟩ := Aft.ite h2
      refine ⟨?_, .loc i :: ds, μ2, em2, RpL.cons (r.mono M2.p M2.x) (by rw [List.append_nil]; exact r2), M2.S, h2⟩
      rw [List.append_nil, List.length_cons, r2.length, hl, hl2]
theorem ae_meth {k n : Nat} {D : List (Nat × (List AV → Mu → Rs AV))} {pl : Sem Bool} (hD : MDs X.prog X.w X.K X.mg X.base k m n D) (hr : Room k X.A) (ho : AE X o fo) (ha : AA X (e :: es) fl) (h : (e :: es).all pE = true := by rfl)
    (ht : eval (.Call (.Attribute o m apos) (e :: es) [] pos) X.env = (do
      let ov ← eval o X.env
      standAt apos.atName
      let (f, first) ← holding [ov] (getMethod ov m pl)
      callWith pos f first (backTo pos (starEach (e :: es) X.env)) (backToKw pos (keywordEach [] X.env))) := by rfl) : AE X (.Call (.Attribute o m apos) (e :: es) [] pos) (fMeth n D fo fl) := by
  rw [List.all_cons, Bool.and_eq_true] at h
  exact PE.imp (pe_md (t := tAL X fl) ho hr ha (yStar h.1) (yAny h.2) ht) fun σ H Q h => md_step hD (fun E S h => steps E S h) (fun h i => tAL_mono h i) h
theorem ae_meth0 {k n : Nat} {D : List (Nat × (List AV → Mu → Rs AV))} {pl : Sem Bool} (hD : MDs X.prog X.w X.K X.mg X.base k m n D) (hr : Room k X.A) (ho : AE X o fo)
    (ht : eval (.Call (.Attribute o m apos) [] [] pos) X.env = (do
      let ov ← eval o X.env
      standAt apos.atName
      let (f, first) ← holding [ov] (getMethod ov m pl)
      callWith pos f first (backTo pos (starEach [] X.env)) (backToKw pos (keywordEach [] X.env))) := by rfl) : AE X (.Call (.Attribute o m apos) [] [] pos) (fMeth n D fo fNilL) :=
  PE.imp (pe_md0 ho hr ht) fun σ H Q h => md_step (fl := fNilL) (t := tNil) hD (fun E S h => ⟨_, [], _, ⟨List.prefix_refl _, Ext.refl, E, S⟩, RpL.nil, h⟩) (fun h i => i _ _ h) h

noncomputable def mkA (C : Nat) (F : List AV → Mu → Rs AV) (ds : List AV) (μ : Mu) : Rs AV := (F (.loc μ.length :: ds) (μ ++ [.ins C []])).bd fun v μ2 => match v with
  | .non => .ok (.loc μ.length) μ2
  | _ => .no
noncomputable def fMake (C n : Nat) (F : List AV → Mu → Rs AV) (fl : FL) : FE := fun ρ μ => (fl ρ μ).bd fun ds μ1 => if ds.length + 1 = n then mkA C F ds μ1 else .no
theorem mk_step {n C : Nat} {A : Addr} {ps : List Str} {F : List AV → Mu → Rs AV} {em : Em} {H : Hp} {μ : Mu} {vs : List V} {ds : List AV} {Q : VK} (hns : PySem.W.nsIn X.K mainGlobals (strOf C) = some (some (.ref A))) (hC : Cls X.K A) (hn : ps.length = n) (S : RpSt X.K em μ H) (r : RpL X.K em H ds vs)
    (h : Aft X.K em H (if ds.length + 1 = n then mkA C F ds μ else .no) Q) (x dx : Addr) (nx : H x = none) (ndx : H dx = none) (ne : dx ≠ x) : spA X.K ps.length F (.ref x :: (vs ++ [])) (upd (upd H dx (.own x)) x (.ins A dx [])) (fun v H2 => v = .non ∧ Q (.ref x) H2) E0 := by
  obtain ⟨hl, h⟩ := Aft.ite h
  have x1 : Ext X.K H (upd H dx (.own x)) := Ext.fresh ndx
  have S1 : RpSt X.K em μ (upd H dx (.own x)) := S.lay ndx
  have nx' : (upd H dx (.own x)) x = none := by rw [upd_ne (Ne.symm ne)]; exact nx
  have x2 : Ext X.K (upd H dx (.own x)) (upd (upd H dx (.own x)) x (.ins A dx [])) := Ext.fresh nx'
  have pe : em <+: em ++ [x] := List.prefix_append _ _
  obtain ⟨S2, r2⟩ := S1.newO (o := .ins C []) (u := .ins A dx []) nx' ⟨A, dx, [], upd_same, ⟨hns, hC, fun p hp => by cases hp⟩, rfl, RpL.nil⟩
  refine ⟨by rw [List.append_nil, List.length_cons, r.length, hn, hl], .loc μ.length :: ds, μ ++ [.ins C []], em ++ [x], RpL.cons r2 (by rw [List.append_nil]; exact r.mono pe (x1.trans x2)), S2, ?_⟩
  unfold mkA at h
  cases e : F (.loc μ.length :: ds) (μ ++ [.ins C []]) with
  | ok v μ2 =>
    rw [e] at h
    cases v with
    | non =>
      intro em' H' v p' x' S' r'
      simp only [Rp] at r'
      refine ⟨r', h em' H' (.ref x) (pe.trans p') ((x1.trans x2).trans x') S' ?_⟩
      simp only [Rp] at r2 ⊢
      obtain ⟨a, ea, e2⟩ := r2
      exact ⟨a, pre_get p' ea, e2⟩
    | _ => exact h.elim
  | exc C fs μ2 => rw [e] at h; exact h.elim
  | no => rw [e] at h; exact h.elim
theorem ae_make {k n C : Nat} {A f : Addr} {fd : FuncData} {ps : List Str} {F : List AV → Mu → Rs AV} {cn : Str} (hns : PySem.W.nsIn X.K mainGlobals cn = some (some (.ref A))) (hC : Cls X.K A) (hM : Mk X.K A f) (D : DefA X.prog X.w X.K X.mg X.base k f fd ps F) (hr : Room (k + 1) X.A) (hm : X.mg x = some (.ref A)) (hb : Binds X.K fd ps [])
    (ha : AA X (e :: es) fl) (hcn : strOf C = cn := by decide +kernel) (hn : ps.length = n := by rfl) (h : (e :: es).all pE = true := by rfl) (hg : Gl X x := by rfl) (hdb : (x == ("__debug__" : Str)) = false := by decide +kernel) : AE X (.Call (.Name x p) (e :: es) [] pos) (fMake C n F fl) := by
  subst hcn
  rw [List.all_cons, Bool.and_eq_true] at h
  exact PE.imp (pe_make hM D hr hg hm hb .nil pass0 ha hdb (yStar h.1) (yAny h.2)) fun σ H Q ⟨ρ, μ, em, E, S, h⟩ => tAL_mono (steps (f := fl) E S h) fun vs H1 ⟨em1, ds, μ1, M1, r, h1⟩ x dx nx ndx ne => mk_step hns hC hn M1.S r h1 x dx nx ndx ne
theorem ae_make0 {k n C : Nat} {A f : Addr} {fd : FuncData} {ps : List Str} {F : List AV → Mu → Rs AV} {cn : Str} (hns : PySem.W.nsIn X.K mainGlobals cn = some (some (.ref A))) (hC : Cls X.K A) (hM : Mk X.K A f) (D : DefA X.prog X.w X.K X.mg X.base k f fd ps F) (hr : Room (k + 1) X.A) (hm : X.mg x = some (.ref A)) (hb : Binds X.K fd ps [])
    (hcn : strOf C = cn := by decide +kernel) (hn : ps.length = n := by rfl) (hg : Gl X x := by rfl) (hdb : (x == ("__debug__" : Str)) = false := by decide +kernel) : AE X (.Call (.Name x p) [] [] pos) (fMake C n F fNilL) := by
  subst hcn
  exact PE.imp (pe_make0 hM D hr hg hm hb .nil pass0 hdb) fun σ H Q ⟨ρ, μ, em, E, S, h⟩ => fun x dx nx ndx ne => mk_step hns hC hn S RpL.nil h x dx nx ndx ne

structure BC (K : PySem.W.Frag) (A : Addr) (m : Str) (f : Addr) : Prop where
  ga : PySem.W.specialIn K (.ref A) "__getattribute__" = some (some (.builtin "type.__getattribute__"))
  rd : PySem.W.readsIn K A (.type "type") = true
  fc : PySem.W.findCls K (.ref A) (.type "type") m = some (.val (.ref f))
  kp : PySem.W.keepIn K (.ref f) = true
theorem ae_base {k n : Nat} {A f : Addr} {fd : FuncData} {ps : List Str} {F : List AV → Mu → Rs AV} {pl : Sem Bool} (B : BC X.K A m f) (D : DefA X.prog X.w X.K X.mg X.base k f fd ps F) (hr : Room k X.A) (hmg : X.mg x = some (.ref A)) (hb : Binds X.K fd ps [])
    (ha : AA X (e :: es) fl) (hn : ps.length = n := by rfl) (h : (e :: es).all pE = true := by rfl) (hg : Gl X x := by rfl) (hdb : (x == ("__debug__" : Str)) = false := by decide +kernel)
    (ht : eval (.Call (.Attribute (.Name x p) m apos) (e :: es) [] pos) X.env = (do
      let ov ← eval (.Name x p) X.env
      standAt apos.atName
      let (f, first) ← holding [ov] (getMethod ov m pl)
      callWith pos f first (backTo pos (starEach (e :: es) X.env)) (backToKw pos (keywordEach [] X.env))) := by rfl) : AE X (.Call (.Attribute (.Name x p) m apos) (e :: es) [] pos) (fCall n F [] fl) := by
  rw [List.all_cons, Bool.and_eq_true] at h
  intro pins s σ H Q I hq
  refine PySem.W.methodCall_KW (pl := pl) (ld_glob I hg hmg ?_ hdb) ht
  refine PySem.W.method_cls I.kIn B.ga (PySem.W.cls_value I.kIn B.rd B.fc rfl ?_)
  have I' := I.tok (s.toks + 1)
  have hp : tAL X fl σ H fun vs H1 => spA X.K ps.length F (vs ++ []) H1 Q E0 := by
    obtain ⟨ρ, μ, em, E, S, hq⟩ := hq
    refine tAL_mono (steps (f := fl) E S hq) fun vs H1 ⟨em1, ds, μ1, M, r, h1⟩ => ?_
    obtain ⟨hl, h1⟩ := Aft.ite h1
    refine ⟨?_, ds, μ1, em1, by rw [List.append_nil]; exact r, M.S, by rw [List.append_nil] at h1; exact h1⟩
    rw [List.append_nil, r.length, hn]
    simpa using hl
  refine PySem.W.callWith_K (first := []) (h₀ := X.base) I.ok.mod.kin B.kp (thn (ha pos pins _ σ H _ I' hp) fun us s2 ⟨vs, H2, I2, r, q2⟩ => ⟨I2.kIn, ?_⟩) (yStar h.1) (yAny h.2)
  exact run_fn (us := us) (vs := vs) D hr hb .nil pass0 I2 r q2

noncomputable def indexA (d : AV) (ds : List AV) (μ : Mu) : Rs AV := match d, ds with
  | .str x, [.str y] => if 0 ≤ Txt.find ⟨x.toArray⟩ ⟨y.toArray⟩ then .ok (.int (Txt.find ⟨x.toArray⟩ ⟨y.toArray⟩)) μ else .no
  | _, _ => .no
noncomputable def isTy2 (T : String) (d : AV) : Option Bool := if tyOf d = some T then some true else match d with
  | .int _ => if T = "bool" then some false else none
  | _ => none
noncomputable def fIs2 (T : String) (f : FE) : FE := fun ρ μ => (f ρ μ).bd fun d μ1 => match isTy2 T d with
  | some b => .ok (.bl b) μ1
  | none => .no
end
structure MX (K : PySem.W.Frag) (x qual : Str) (st : Stmt) (ps : List Str) : Type where
  f : Addr
  fd : FuncData
  F : Fn K x qual st f fd .none
  b : Binds K fd ps []
structure CXX (K : PySem.W.Frag) (mg : Str → Option Value) (x : Str) : Type where
  a : Addr
  n : PySem.W.nsIn K mainGlobals x = some (some (.ref a))
  m : mg x = some (.ref a)
  c : Cls K a
end AL

set_option Elab.async false
set_option linter.all false
set_option maxRecDepth 100000
set_option maxHeartbeats 4000000
namespace AL
open PySem PySem.Spec PyProof.Rows L2
section
variable {X : Cx} {e o : Expr} {es : List Expr} {x : Str} {pos p p' : Pos} {f : FE} {fl : FL}
noncomputable def fNoE : FE := fun _ _ => .no
noncomputable def fMakeO (C : Nat) : FE := fun _ μ => .ok (.loc μ.length) (μ ++ [.ins C []])
structure IsX (K : PySem.W.Frag) (A D : Addr) (b : Bool) : Prop where
  ha : PySem.W.findIn K (.ref A) "__class__" = some (some (.builtin "object.__class__"))
  hn : PySem.W.specialIn K (.builtin "object.__class__") "__get__" = some (some (.builtin "getset_descriptor.__get__"))
  ht : PySem.W.takesIn K (.builtin "object.__class__") = some true
  hm : PySem.W.mroIn K A (.type "object") = some true
  k : PySem.W.kitOne K (.ref A) (.ref D) = some b
noncomputable def isOA (cs : List (Nat × Bool)) (d : AV) (μ : Mu) : Rs AV := match objAt μ d with
  | some (C, _) => match cs.lookup C with
    | some b => .ok (.bl b) μ
    | none => .no
  | none => .no
noncomputable def fIsO (cs : List (Nat × Bool)) (f : FE) : FE := fun ρ μ => (f ρ μ).bd fun d μ1 => isOA cs d μ1
noncomputable def mulT (x : List Nat) (n : Int) : List Nat := (List.replicate n.toNat x).flatten
noncomputable def mulG (a b : AV) (μ : Mu) : Rs AV := match a, b with
  | .str x, .int n => if (sm 30 n && decide (x.length * n.toNat ≤ LIM)) = true then .ok (.str (mulT x n)) μ else .no
  | .int i, .int j => mulA (.int i) (.int j) μ
  | _, _ => .no
theorem foldA (y : Array Nat) : ∀ (n : Nat) (a : Array Nat), (List.replicate n y).foldl (· ++ ·) a = a ++ ((List.replicate n y.toList).flatten).toArray
  | 0, a => by simp
  | n + 1, a => by
    rw [List.replicate_succ, List.foldl_cons, foldA y n (a ++ y), List.replicate_succ, List.flatten_cons, Array.append_assoc]
    congr 1
    apply Array.toList_inj.mp
    simp
theorem mul_txt (x : List Nat) (n : Int) : Txt.mul ⟨x.toArray⟩ n = ⟨(mulT x n).toArray⟩ := by
  unfold Txt.mul mulT
  by_cases h1 : n < 1
  · rw [if_pos h1]
    have : n.toNat = 0 := by omega
    rw [this]
    rfl
  · rw [if_neg h1]
    by_cases h2 : (n == 1 || Str.length ⟨x.toArray⟩ == 0) = true
    · rw [if_pos h2]
      rw [Bool.or_eq_true, beq_iff_eq, beq_iff_eq] at h2
      rcases h2 with h2 | h2
      · subst h2
        simp
      · have : x = [] := by
          rw [str_len] at h2
          exact List.length_eq_zero_iff.mp h2
        subst this
        have : (List.replicate n.toNat ([] : List Nat)).flatten = [] := by simp
        rw [this]
    · rw [if_neg h2, foldA]
      simp
theorem oa_mulG : OpR X (binaryOp .Mult) (rA X.K mulG) := by
  intro pins s σ H x y v u Q I rx ry ⟨a, b, μ, em, ra, rb, S, q⟩
  cases a with
  | int i =>
    cases b with
    | int j => exact oa_mul pins s σ H x y v u Q I rx ry ⟨.int i, .int j, μ, em, ra, rb, S, q⟩
    | _ => exact q.elim
  | str z =>
    cases b with
    | int n =>
      obtain ⟨hc, q⟩ := Aft.ite q
      rw [Bool.and_eq_true] at hc
      have hs := sm_lt hc.1
      have hl : z.length * n.toNat ≤ LIM := of_decide_eq_true hc.2
      simp only [Rp] at ra rb
      subst ra rb
      obtain ⟨t1, rfl⟩ := rx
      obtain ⟨t2, rfl⟩ := ry
      have e30 : (2 : Nat) ^ 30 = 1073741824 := by decide
      rw [e30] at hs
      have e63 : (2 : Int) ^ 63 = 9223372036854775808 := by decide
      refine PySem.SB.mul ⟨?_, fun h1 h2 => ?_, fun h1 h2 => ?_⟩ fun t' k => ?_
      · rw [e63, decide_eq_false (by omega), decide_eq_false (by omega)]
        rfl
      · rw [str_len, e63]
        have h3 : (z.length : Int) * n ≤ 16777216 := by
          have h4 : ((z.length * n.toNat : Nat) : Int) ≤ 16777216 := by
            have : z.length * n.toNat ≤ 16777216 := hl
            omega
          have h5 : ((z.length * n.toNat : Nat) : Int) = (z.length : Int) * n := by
            rw [Int.natCast_mul, Int.toNat_of_nonneg (by omega)]
          omega
        intro h6
        have h7 : (9223372036854775808 - 1 : Int) / n < z.length := h6
        have h8 := (Int.ediv_lt_iff_lt_mul (show 0 < n by omega)).mp h7
        omega
      · rw [str_len]
        unfold Builtin.Str.tooLong
        rw [← LIM_eq]
        exact decide_eq_false (by omega)
      · rw [mul_txt]
        exact ⟨.str _, H, I.tok _, ⟨t', rfl⟩, q.here S (by simp only [Rp])⟩
    | _ => exact q.elim
  | _ => exact q.elim
end
theorem nAt5 {α : Type} {P : List α → Prop} (h : ∀ a b c d e, P [a, b, c, d, e]) : ∀ us : List α, us.length = 5 → P us
  | [a, b, c, d, e], _ => h a b c d e
end AL

set_option Elab.async false
set_option linter.all false
set_option maxRecDepth 100000
set_option maxHeartbeats 4000000
namespace My
open PySem PySem.Spec PyProof.Rows L2 AL
noncomputable def top (i : Nat) : Stmt := PySem.Challenge.pw_framepost_k31_rows_of_fields_read.main.body.getD i (.Pass ⟨0, 0, 0, 0⟩)
noncomputable def mth (i j : Nat) : Stmt := match top i with
  | .ClassDef _ _ _ b _ _ _ _ _ _ _ => b.getD j (.Pass ⟨0, 0, 0, 0⟩)
  | s => s
noncomputable def c_END_NAMES : AV := .tup [(.str [108, 101, 110, 103, 116, 104]), (.str [112, 105, 101, 99, 101, 115]), (.str [112, 97, 114, 116, 115]), (.str [114, 101, 115, 116])]
noncomputable def c_FIGURES : AV := .str [48, 49, 50, 51, 52, 53, 54, 55, 56, 57, 97, 98, 99, 100, 101, 102]
noncomputable def c_FILLER : AV := .str [97]
noncomputable def c_MOST_BODY : AV := .int 4
noncomputable def c_MOST_NAME : AV := .int 1
noncomputable def c_MOST_VALUE : AV := .int 2
noncomputable def c_ROW_END : AV := .str [59, 10]
set_option genInjectivity false in
set_option genSizeOf false in
set_option genSizeOfSpec false in
structure TX (K : PySem.W.Frag) (mg : Str → Option Value) : Type where
  k_Mark : CXX K mg "Mark"
  k_Exact : CXX K mg "Exact"
  k_RowEnd : CXX K mg "RowEnd"
  k_Number : CXX K mg "Number"
  k_Value : CXX K mg "Value"
  k_Name : CXX K mg "Name"
  k_Closed : CXX K mg "Closed"
  k_FieldRow : CXX K mg "FieldRow"
  k_Fields : CXX K mg "Fields"
  x_is_small : FX K mg "is_small" (top 7) ["sign"] 0
  x_is_plain : FX K mg "is_plain" (top 8) ["sign"] 0
  x_Mark_init : MX K "__init__" "Mark.__init__" (mth 11 0) ["self"]
  x_Mark_fed : MX K "fed" "Mark.fed" (mth 11 1) ["self", "sign"]
  x_Mark_told : MX K "told" "Mark.told" (mth 11 3) ["self"]
  x_Exact_init : MX K "__init__" "Exact.__init__" (mth 12 0) ["self", "text"]
  x_Exact_takes : MX K "takes" "Exact.takes" (mth 12 1) ["self", "sign"]
  x_Exact_good : MX K "good" "Exact.good" (mth 12 2) ["self"]
  x_Exact_awaited : MX K "awaited" "Exact.awaited" (mth 12 3) ["self"]
  x_RowEnd_init : MX K "__init__" "RowEnd.__init__" (mth 13 0) ["self"]
  x_Number_init : MX K "__init__" "Number.__init__" (mth 14 0) ["self", "base", "most"]
  x_Number_takes : MX K "takes" "Number.takes" (mth 14 1) ["self", "sign"]
  x_Number_good : MX K "good" "Number.good" (mth 14 2) ["self"]
  x_Number_awaited : MX K "awaited" "Number.awaited" (mth 14 3) ["self"]
  x_Number_told : MX K "told" "Number.told" (mth 14 4) ["self"]
  x_Value_init : MX K "__init__" "Value.__init__" (mth 15 0) ["self", "most"]
  x_Value_takes : MX K "takes" "Value.takes" (mth 15 1) ["self", "sign"]
  x_Value_good : MX K "good" "Value.good" (mth 15 2) ["self"]
  x_Value_awaited : MX K "awaited" "Value.awaited" (mth 15 3) ["self"]
  x_Name_init : MX K "__init__" "Name.__init__" (mth 16 0) ["self", "most", "room", "ends"]
  x_Name_takes : MX K "takes" "Name.takes" (mth 16 1) ["self", "sign"]
  x_Name_can_grow_ordinary : MX K "can_grow_ordinary" "Name.can_grow_ordinary" (mth 16 2) ["self", "text"]
  x_Name_good : MX K "good" "Name.good" (mth 16 3) ["self"]
  x_Name_awaited : MX K "awaited" "Name.awaited" (mth 16 4) ["self"]
  x_Closed_init : MX K "__init__" "Closed.__init__" (mth 17 0) ["self", "mark", "text"]
  x_Closed_fed : MX K "fed" "Closed.fed" (mth 17 1) ["self", "sign"]
  x_Closed_good : MX K "good" "Closed.good" (mth 17 2) ["self"]
  x_Closed_awaited : MX K "awaited" "Closed.awaited" (mth 17 3) ["self"]
  x_Closed_told : MX K "told" "Closed.told" (mth 17 4) ["self"]
  x_FieldRow_init : MX K "__init__" "FieldRow.__init__" (mth 19 0) ["self", "book", "room", "ends"]
  x_FieldRow_fed : MX K "fed" "FieldRow.fed" (mth 19 1) ["self", "sign"]
  x_FieldRow_name_to_come : MX K "name_to_come" "FieldRow.name_to_come" (mth 19 2) ["self"]
  x_FieldRow_value_to_come : MX K "value_to_come" "FieldRow.value_to_come" (mth 19 3) ["self"]
  x_FieldRow_end_to_come : MX K "end_to_come" "FieldRow.end_to_come" (mth 19 4) ["self"]
  x_FieldRow_good : MX K "good" "FieldRow.good" (mth 19 5) ["self"]
  x_FieldRow_awaited : MX K "awaited" "FieldRow.awaited" (mth 19 6) ["self"]
  x_FieldRow_told : MX K "told" "FieldRow.told" (mth 19 7) ["self"]
  x_Fields_init : MX K "__init__" "Fields.__init__" (mth 20 0) ["self", "book", "room", "ends"]
  x_Fields_fed : MX K "fed" "Fields.fed" (mth 20 1) ["self", "sign"]
  x_Fields_fed_row : MX K "fed_row" "Fields.fed_row" (mth 20 2) ["self", "sign"]
  x_Fields_keep_row : MX K "keep_row" "Fields.keep_row" (mth 20 3) ["self"]
  x_Fields_whole : MX K "whole" "Fields.whole" (mth 20 4) ["self"]
  x_Fields_awaited : MX K "awaited" "Fields.awaited" (mth 20 5) ["self"]
  x_Fields_told : MX K "told" "Fields.told" (mth 20 6) ["self"]
  x_Fields_told_end : MX K "told_end" "Fields.told_end" (mth 20 7) ["self"]
  x_Fields_room_left : MX K "room_left" "Fields.room_left" (mth 20 9) ["self"]
  x__law_cell_at : FX K mg "_law_cell_at" (top 22) ["_law_script", "_law_k"] 0
  x__law_stream : FX K mg "_law_stream" (top 23) ["_law_cell", "_law_many"] 0
  x__law_sign : FX K mg "_law_sign" (top 24) ["_law_x"] 0
  x__law_value : FX K mg "_law_value" (top 25) ["_law_cell", "_law_most"] 0
  x__law_name : FX K mg "_law_name" (top 26) ["_law_cell", "_law_most"] 0
  x__law_rows : FX K mg "_law_rows" (top 27) ["_law_fields_here"] 0
  x__law_fields : FX K mg "_law_fields" (top 28) ["_law_cells", "_law_book"] 0
  x_law : FX K mg "law" (top 29) ["_law_script"] 0
  h_Closed_awaited : Meth K k_Closed.a "awaited" x_Closed_awaited.f
  h_Closed_fed : Meth K k_Closed.a "fed" x_Closed_fed.f
  h_Closed_good : Meth K k_Closed.a "good" x_Closed_good.f
  h_Closed_told : Meth K k_Closed.a "told" x_Closed_told.f
  h_Exact_awaited : Meth K k_Exact.a "awaited" x_Exact_awaited.f
  h_Exact_fed : Meth K k_Exact.a "fed" x_Mark_fed.f
  h_Exact_good : Meth K k_Exact.a "good" x_Exact_good.f
  h_Exact_takes : Meth K k_Exact.a "takes" x_Exact_takes.f
  h_Exact_told : Meth K k_Exact.a "told" x_Mark_told.f
  h_FieldRow_awaited : Meth K k_FieldRow.a "awaited" x_FieldRow_awaited.f
  h_FieldRow_end_to_come : Meth K k_FieldRow.a "end_to_come" x_FieldRow_end_to_come.f
  h_FieldRow_fed : Meth K k_FieldRow.a "fed" x_FieldRow_fed.f
  h_FieldRow_good : Meth K k_FieldRow.a "good" x_FieldRow_good.f
  h_FieldRow_name_to_come : Meth K k_FieldRow.a "name_to_come" x_FieldRow_name_to_come.f
  h_FieldRow_told : Meth K k_FieldRow.a "told" x_FieldRow_told.f
  h_FieldRow_value_to_come : Meth K k_FieldRow.a "value_to_come" x_FieldRow_value_to_come.f
  h_Fields_awaited : Meth K k_Fields.a "awaited" x_Fields_awaited.f
  h_Fields_fed : Meth K k_Fields.a "fed" x_Fields_fed.f
  h_Fields_fed_row : Meth K k_Fields.a "fed_row" x_Fields_fed_row.f
  h_Fields_keep_row : Meth K k_Fields.a "keep_row" x_Fields_keep_row.f
  h_Fields_room_left : Meth K k_Fields.a "room_left" x_Fields_room_left.f
  h_Fields_told : Meth K k_Fields.a "told" x_Fields_told.f
  h_Fields_told_end : Meth K k_Fields.a "told_end" x_Fields_told_end.f
  h_Fields_whole : Meth K k_Fields.a "whole" x_Fields_whole.f
  h_Name_awaited : Meth K k_Name.a "awaited" x_Name_awaited.f
  h_Name_can_grow_ordinary : Meth K k_Name.a "can_grow_ordinary" x_Name_can_grow_ordinary.f
  h_Name_fed : Meth K k_Name.a "fed" x_Mark_fed.f
  h_Name_good : Meth K k_Name.a "good" x_Name_good.f
  h_Name_takes : Meth K k_Name.a "takes" x_Name_takes.f
  h_Name_told : Meth K k_Name.a "told" x_Mark_told.f
  h_Number_awaited : Meth K k_Number.a "awaited" x_Number_awaited.f
  h_Number_fed : Meth K k_Number.a "fed" x_Mark_fed.f
  h_Number_good : Meth K k_Number.a "good" x_Number_good.f
  h_Number_takes : Meth K k_Number.a "takes" x_Number_takes.f
  h_Number_told : Meth K k_Number.a "told" x_Number_told.f
  h_RowEnd_awaited : Meth K k_RowEnd.a "awaited" x_Exact_awaited.f
  h_RowEnd_fed : Meth K k_RowEnd.a "fed" x_Mark_fed.f
  h_RowEnd_good : Meth K k_RowEnd.a "good" x_Exact_good.f
  h_RowEnd_takes : Meth K k_RowEnd.a "takes" x_Exact_takes.f
  h_Value_awaited : Meth K k_Value.a "awaited" x_Value_awaited.f
  h_Value_fed : Meth K k_Value.a "fed" x_Mark_fed.f
  h_Value_good : Meth K k_Value.a "good" x_Value_good.f
  h_Value_takes : Meth K k_Value.a "takes" x_Value_takes.f
  h_Value_told : Meth K k_Value.a "told" x_Mark_told.f
  b_Exact_init : BC K k_Exact.a "__init__" x_Exact_init.f
  b_Mark_init : BC K k_Mark.a "__init__" x_Mark_init.f
  mk_Closed : Mk K k_Closed.a x_Closed_init.f
  mk_Exact : Mk K k_Exact.a x_Exact_init.f
  mk_FieldRow : Mk K k_FieldRow.a x_FieldRow_init.f
  mk_Fields : Mk K k_Fields.a x_Fields_init.f
  mk_Name : Mk K k_Name.a x_Name_init.f
  mk_Number : Mk K k_Number.a x_Number_init.f
  mk_RowEnd : Mk K k_RowEnd.a x_RowEnd_init.f
  mk_Value : Mk K k_Value.a x_Value_init.f
  w_base_Number : NA K [3] 22
  w_book_FieldRow : NA K [9] 30
  w_book_Fields : NA K [10] 30
  w_closing_Closed : NA K [8] 28
  w_empty_row_Fields : NA K [10] 37
  w_end_Fields : NA K [10] 35
  w_ends_FieldRow : NA K [9] 25
  w_ends_Fields : NA K [10] 25
  w_ends_Name : NA K [6] 25
  w_goal_Exact_RowEnd : NA K [1, 2] 21
  w_head_FieldRow : NA K [9] 32
  w_is_closing_Closed : NA K [8] 29
  w_mark_Closed : NA K [8] 27
  w_most_Name : NA K [6] 23
  w_most_Number : NA K [3] 23
  w_most_Value : NA K [5] 23
  w_name_FieldRow : NA K [9] 31
  w_pairs_Fields : NA K [10] 34
  w_room_Fields : NA K [10] 24
  w_room_Name : NA K [6] 24
  w_row_Fields : NA K [10] 36
  w_text_Exact_RowEnd_Number_Value_Name : NA K [1, 2, 3, 5, 6] 20
  w_value_FieldRow : NA K [9] 33
  a_END_NAMES : Addr
  m_END_NAMES : mg "END_NAMES" = some (.ref a_END_NAMES)
  r_END_NAMES : ∀ em H, Rp K em H c_END_NAMES (.ref a_END_NAMES)
  s_FIGURES : Str
  t_FIGURES : Tok
  m_FIGURES : mg "FIGURES" = some (.str s_FIGURES t_FIGURES)
  r_FIGURES : ∀ em H, Rp K em H c_FIGURES (.str s_FIGURES)
  s_FILLER : Str
  t_FILLER : Tok
  m_FILLER : mg "FILLER" = some (.str s_FILLER t_FILLER)
  r_FILLER : ∀ em H, Rp K em H c_FILLER (.str s_FILLER)
  t_MOST_BODY : Tok
  m_MOST_BODY : mg "MOST_BODY" = some (.int 4 t_MOST_BODY)
  r_MOST_BODY : ∀ em H, Rp K em H c_MOST_BODY (.int 4)
  t_MOST_NAME : Tok
  m_MOST_NAME : mg "MOST_NAME" = some (.int 1 t_MOST_NAME)
  r_MOST_NAME : ∀ em H, Rp K em H c_MOST_NAME (.int 1)
  t_MOST_VALUE : Tok
  m_MOST_VALUE : mg "MOST_VALUE" = some (.int 2 t_MOST_VALUE)
  r_MOST_VALUE : ∀ em H, Rp K em H c_MOST_VALUE (.int 2)
  s_ROW_END : Str
  t_ROW_END : Tok
  m_ROW_END : mg "ROW_END" = some (.str s_ROW_END t_ROW_END)
  r_ROW_END : ∀ em H, Rp K em H c_ROW_END (.str s_ROW_END)
  z_any : mg "any" = none
  z_len : mg "len" = none
  z_range : mg "range" = none
  z_str : mg "str" = none
  z_tuple : mg "tuple" = none
noncomputable def F_is_small : List AV → Mu → Rs AV := fBG 1 ["sign"] (fRet (fAnd (fOp (eqA false) (fCB lenA (fConsL (fVar 0) fNilL)) (fC (.int 1))) (fChain leA leA (fC (.str [97])) (fVar 0) (fC (.str [122])))))
noncomputable def F_is_plain : List AV → Mu → Rs AV := fBG 1 ["sign"] (fRet (fAnd (fOp (eqA false) (fCB lenA (fConsL (fVar 0) fNilL)) (fC (.int 1))) (fOr (fOp (eqA false) (fVar 0) (fC (.str [10]))) (fChain leA leA (fC (.str [32])) (fVar 0) (fC (.str [126]))))))
noncomputable def F_Mark_init : List AV → Mu → Rs AV := fBG 1 ["self"] (fSetF [1, 2, 3, 5, 6] 20 (fVar 0) (fC (.str [])))
noncomputable def F_Exact_takes : List AV → Mu → Rs AV := fBG 2 ["self", "sign"] (fRet (fBM "str" startA (fFld 21 (fVar 0)) (fConsL (fOp addG (fFld 20 (fVar 0)) (fVar 1)) fNilL)))
noncomputable def F_Name_can_grow_ordinary : List AV → Mu → Rs AV := fBG 2 ["self", "text"] (fSeq (fIf (fOrB (fT (fOp ltA (fFld 24 (fVar 0)) (fC (.int 1)))) (fT (fOp gtA (fCB lenA (fConsL (fVar 1) fNilL)) (fFld 23 (fVar 0))))) (fRet (fC (.bl false))) fNx) (fRet (fOr (fOp ltA (fCB lenA (fConsL (fVar 1) fNilL)) (fFld 23 (fVar 0))) (fOp (inG true) (fVar 1) (fC c_END_NAMES)))))
noncomputable def F_Name_takes : List AV → Mu → Rs AV := fBG 2 ["self", "sign", "text"] (fSeq (fAsg (fOp addG (fFld 20 (fVar 0)) (fVar 1)) (gNm 2)) (fSeq (fIf (fTru (fCB anyA (fConsL (fComp 1000000 [none, some 2] (fiA (fFld 25 (fVar 0))) (gNm 0) fYes (fBM "str" startA (fVar 0) (fConsL (fVar 1) fNilL))) fNilL))) (fRet (fC (.bl true))) fNx) (fRet (fAnd (fCall 1 F_is_small [] (fConsL (fVar 1) fNilL)) (fMeth 2 [(6, F_Name_can_grow_ordinary)] (fVar 0) (fConsL (fVar 2) fNilL))))))
noncomputable def F_Number_told : List AV → Mu → Rs AV := fBG 1 ["self", "number", "figure"] (fSeq (fAsg (fC (.int 0)) (gNm 1)) (fSeq (fFor 1000000 (fiA (fFld 20 (fVar 0))) (gNm 2) (fAsg (fOp addG (fOp mulG (fVar 1) (fFld 22 (fVar 0))) (fBM "str" findA (fC c_FIGURES) (fConsL (fVar 2) fNilL))) (gNm 1))) (fRet (fVar 1))))
noncomputable def F_Number_takes : List AV → Mu → Rs AV := fBG 2 ["self", "sign", "figure"] (fSeq (fAsg (fBM "str" findA (fSl slG (fC c_FIGURES) fNoPart (fPart (fFld 22 (fVar 0)))) (fConsL (fVar 1) fNilL)) (gNm 2)) (fSeq (fIf (fOrB (fT (fOp ltA (fVar 2) (fC (.int 0)))) (fT (fOp (eqA false) (fFld 20 (fVar 0)) (fC (.str [48]))))) (fRet (fC (.bl false))) fNx) (fRet (fOp leA (fOp addG (fOp mulG (fMeth 1 [(3, F_Number_told)] (fVar 0) fNilL) (fFld 22 (fVar 0))) (fVar 2)) (fFld 23 (fVar 0))))))
noncomputable def F_Value_takes : List AV → Mu → Rs AV := fBG 2 ["self", "sign"] (fSeq (fIf (fOrB (fNotB (fTru (fCall 1 F_is_plain [] (fConsL (fVar 1) fNilL)))) (fT (fOp (inG false) (fVar 1) (fTup (fConsL (fC (.str [59])) (fConsL (fC (.str [10])) fNilL)))))) (fRet (fC (.bl false))) fNx) (fSeq (fIf (fT (fOp (eqA false) (fVar 1) (fC (.str [32])))) (fRet (fChain ltA ltA (fC (.int 0)) (fCB lenA (fConsL (fFld 20 (fVar 0)) fNilL)) (fOp subA (fFld 23 (fVar 0)) (fC (.int 1))))) fNx) (fRet (fOp ltA (fCB lenA (fConsL (fFld 20 (fVar 0)) fNilL)) (fFld 23 (fVar 0))))))
noncomputable def F_Mark_fed : List AV → Mu → Rs AV := fBG 2 ["self", "sign"] (fSeq (fIf (fNotB (fTru (fMeth 2 [(1, F_Exact_takes), (2, F_Exact_takes), (3, F_Number_takes), (5, F_Value_takes), (6, F_Name_takes)] (fVar 0) (fConsL (fVar 1) fNilL)))) (fRet (fC (.bl false))) fNx) (fSeq (fSetF [1, 2, 3, 5, 6] 20 (fVar 0) (fOp addG (fFld 20 (fVar 0)) (fVar 1))) (fRet (fC (.bl true)))))
noncomputable def F_Mark_told : List AV → Mu → Rs AV := fBG 1 ["self"] (fRet (fFld 20 (fVar 0)))
noncomputable def F_Exact_init : List AV → Mu → Rs AV := fBG 2 ["self", "text"] (fSeq (fDrop (fCall 1 F_Mark_init [] (fConsL (fVar 0) fNilL))) (fSetF [1, 2] 21 (fVar 0) (fVar 1)))
noncomputable def F_Exact_good : List AV → Mu → Rs AV := fBG 1 ["self"] (fRet (fOp (eqA false) (fFld 20 (fVar 0)) (fFld 21 (fVar 0))))
noncomputable def F_Exact_awaited : List AV → Mu → Rs AV := fBG 1 ["self"] (fRet (fSl slG (fFld 21 (fVar 0)) (fPart (fCB lenA (fConsL (fFld 20 (fVar 0)) fNilL))) fNoPart))
noncomputable def F_RowEnd_init : List AV → Mu → Rs AV := fBG 1 ["self"] (fDrop (fCall 2 F_Exact_init [] (fConsL (fVar 0) (fConsL (fC c_ROW_END) fNilL))))
noncomputable def F_Number_init : List AV → Mu → Rs AV := fBG 3 ["self", "base", "most"] (fSeq (fDrop (fCall 1 F_Mark_init [] (fConsL (fVar 0) fNilL))) (fSeq (fSetF [3] 22 (fVar 0) (fVar 1)) (fSetF [3] 23 (fVar 0) (fVar 2))))
noncomputable def F_Number_good : List AV → Mu → Rs AV := fBG 1 ["self"] (fRet (fOp (eqA true) (fFld 20 (fVar 0)) (fC (.str []))))
noncomputable def F_Number_awaited : List AV → Mu → Rs AV := fBG 1 ["self"] (fRet (fIfE (fTru (fMeth 1 [(3, F_Number_good)] (fVar 0) fNilL)) (fC (.str [])) (fC (.str [48]))))
noncomputable def F_Value_init : List AV → Mu → Rs AV := fBG 2 ["self", "most"] (fSeq (fDrop (fCall 1 F_Mark_init [] (fConsL (fVar 0) fNilL))) (fSetF [5] 23 (fVar 0) (fVar 1)))
noncomputable def F_Value_good : List AV → Mu → Rs AV := fBG 1 ["self"] (fRet (fAnd (fOp (eqA true) (fFld 20 (fVar 0)) (fC (.str []))) (fOp (eqA true) (fOp ixA (fFld 20 (fVar 0)) (fNeg (fC (.int 1)))) (fC (.str [32])))))
noncomputable def F_Value_awaited : List AV → Mu → Rs AV := fBG 1 ["self"] (fRet (fIfE (fTru (fMeth 1 [(5, F_Value_good)] (fVar 0) fNilL)) (fC (.str [])) (fC c_FILLER)))
noncomputable def F_Name_init : List AV → Mu → Rs AV := fBG 4 ["self", "most", "room", "ends"] (fSeq (fDrop (fCall 1 F_Mark_init [] (fConsL (fVar 0) fNilL))) (fSeq (fSetF [6] 23 (fVar 0) (fVar 1)) (fSeq (fSetF [6] 24 (fVar 0) (fVar 2)) (fSetF [6] 25 (fVar 0) (fVar 3)))))
noncomputable def F_Name_good : List AV → Mu → Rs AV := fBG 1 ["self"] (fSeq (fIf (fT (fOp (inG false) (fFld 20 (fVar 0)) (fFld 25 (fVar 0)))) (fRet (fC (.bl true))) fNx) (fRet (fAnd (fOp (eqA true) (fFld 20 (fVar 0)) (fC (.str []))) (fAnd (fOp (inG true) (fFld 20 (fVar 0)) (fC c_END_NAMES)) (fMeth 2 [(6, F_Name_can_grow_ordinary)] (fVar 0) (fConsL (fFld 20 (fVar 0)) fNilL))))))
noncomputable def F_Name_awaited : List AV → Mu → Rs AV := fBG 1 ["self", "end"] (fSeq (fIf (fTru (fMeth 1 [(6, F_Name_good)] (fVar 0) fNilL)) (fRet (fC (.str []))) fNx) (fSeq (fIf (fTru (fMeth 2 [(6, F_Name_can_grow_ordinary)] (fVar 0) (fConsL (fOp addG (fFld 20 (fVar 0)) (fC c_FILLER)) fNilL))) (fRet (fC c_FILLER)) fNx) (fSeq (fFor 1000000 (fiA (fFld 25 (fVar 0))) (gNm 1) (fIf (fTru (fBM "str" startA (fVar 1) (fConsL (fFld 20 (fVar 0)) fNilL))) (fRet (fSl slG (fVar 1) (fPart (fCB lenA (fConsL (fFld 20 (fVar 0)) fNilL))) fNoPart)) fNx)) (fRet (fC (.str []))))))
noncomputable def F_Closed_init : List AV → Mu → Rs AV := fBG 3 ["self", "mark", "text"] (fSeq (fSetF [8] 27 (fVar 0) (fVar 1)) (fSeq (fSetF [8] 28 (fVar 0) (fMake 1 2 F_Exact_init (fConsL (fVar 2) fNilL))) (fSetF [8] 29 (fVar 0) (fC (.bl false)))))
noncomputable def F_Closed_fed : List AV → Mu → Rs AV := fBG 2 ["self", "sign"] (fSeq (fIf (fAndB (fNotB (fTru (fFld 29 (fVar 0)))) (fTru (fMeth 2 [(6, F_Mark_fed), (5, F_Mark_fed), (3, F_Mark_fed), (1, F_Mark_fed)] (fFld 27 (fVar 0)) (fConsL (fVar 1) fNilL)))) (fRet (fC (.bl true))) fNx) (fSeq (fIf (fOrB (fNotB (fTru (fMeth 1 [(6, F_Name_good), (5, F_Value_good), (3, F_Number_good), (1, F_Exact_good)] (fFld 27 (fVar 0)) fNilL))) (fNotB (fTru (fMeth 2 [(1, F_Mark_fed)] (fFld 28 (fVar 0)) (fConsL (fVar 1) fNilL))))) (fRet (fC (.bl false))) fNx) (fSeq (fSetF [8] 29 (fVar 0) (fC (.bl true))) (fRet (fC (.bl true))))))
noncomputable def F_Closed_good : List AV → Mu → Rs AV := fBG 1 ["self"] (fRet (fMeth 1 [(1, F_Exact_good)] (fFld 28 (fVar 0)) fNilL))
noncomputable def F_Closed_awaited : List AV → Mu → Rs AV := fBG 1 ["self"] (fRet (fOp addG (fMeth 1 [(6, F_Name_awaited), (5, F_Value_awaited), (3, F_Number_awaited), (1, F_Exact_awaited)] (fFld 27 (fVar 0)) fNilL) (fMeth 1 [(1, F_Exact_awaited)] (fFld 28 (fVar 0)) fNilL)))
noncomputable def F_Closed_told : List AV → Mu → Rs AV := fBG 1 ["self"] (fRet (fMeth 1 [(6, F_Mark_told), (5, F_Mark_told), (3, F_Number_told), (1, F_Mark_told)] (fFld 27 (fVar 0)) fNilL))
noncomputable def F_FieldRow_init : List AV → Mu → Rs AV := fBG 4 ["self", "book", "room", "ends"] (fSeq (fSetF [9] 30 (fVar 0) (fVar 1)) (fSeq (fSetF [9] 25 (fVar 0) (fVar 3)) (fSeq (fSetF [9] 31 (fVar 0) (fMake 6 4 F_Name_init (fConsL (fOp ixA (fVar 1) (fC c_MOST_NAME)) (fConsL (fIfE (fT (fOp gtA (fOp ixA (fVar 1) (fC c_MOST_VALUE)) (fC (.int 0)))) (fVar 2) (fC (.int 0))) (fConsL (fVar 3) fNilL))))) (fSeq (fSetF [9] 32 (fVar 0) (fMake 8 3 F_Closed_init (fConsL (fFld 31 (fVar 0)) (fConsL (fC (.str [58, 32])) fNilL)))) (fSetF [9] 33 (fVar 0) (fC .non))))))
noncomputable def F_FieldRow_name_to_come : List AV → Mu → Rs AV := fBG 1 ["self"] (fRet (fOp addG (fMeth 1 [(6, F_Mark_told)] (fFld 31 (fVar 0)) fNilL) (fMeth 1 [(6, F_Name_awaited)] (fFld 31 (fVar 0)) fNilL)))
noncomputable def F_FieldRow_value_to_come : List AV → Mu → Rs AV := fBG 1 ["self", "name"] (fSeq (fAsg (fMeth 1 [(9, F_FieldRow_name_to_come)] (fVar 0) fNilL) (gNm 1)) (fSeq (fIf (fT (fOp (inG true) (fVar 1) (fFld 25 (fVar 0)))) (fRet (fMake 8 3 F_Closed_init (fConsL (fMake 5 2 F_Value_init (fConsL (fOp ixA (fFld 30 (fVar 0)) (fC c_MOST_VALUE)) fNilL)) (fConsL (fC c_ROW_END) fNilL)))) fNx) (fSeq (fIf (fT (fOp (eqA false) (fVar 1) (fC (.str [108, 101, 110, 103, 116, 104])))) (fRet (fMake 8 3 F_Closed_init (fConsL (fMake 3 3 F_Number_init (fConsL (fC (.int 10)) (fConsL (fOp ixA (fFld 30 (fVar 0)) (fC c_MOST_BODY)) fNilL))) (fConsL (fC c_ROW_END) fNilL)))) fNx) (fRet (fMake 8 3 F_Closed_init (fConsL (fMake 1 2 F_Exact_init (fConsL (fC (.str [121, 101, 115])) fNilL)) (fConsL (fC c_ROW_END) fNilL)))))))
noncomputable def F_FieldRow_fed : List AV → Mu → Rs AV := fBG 2 ["self", "sign"] (fSeq (fIf (fT (fOp (isA true) (fFld 33 (fVar 0)) (fC .non))) (fRet (fMeth 2 [(8, F_Closed_fed)] (fFld 33 (fVar 0)) (fConsL (fVar 1) fNilL))) fNx) (fSeq (fIf (fNotB (fTru (fMeth 2 [(8, F_Closed_fed)] (fFld 32 (fVar 0)) (fConsL (fVar 1) fNilL)))) (fRet (fC (.bl false))) fNx) (fSeq (fIf (fTru (fMeth 1 [(8, F_Closed_good)] (fFld 32 (fVar 0)) fNilL)) (fSetF [9] 33 (fVar 0) (fMeth 1 [(9, F_FieldRow_value_to_come)] (fVar 0) fNilL)) fNx) (fRet (fC (.bl true))))))
noncomputable def F_FieldRow_end_to_come : List AV → Mu → Rs AV := fBG 1 ["self", "name"] (fSeq (fAsg (fMeth 1 [(9, F_FieldRow_name_to_come)] (fVar 0) fNilL) (gNm 1)) (fSeq (fIf (fT (fOp (inG true) (fVar 1) (fFld 25 (fVar 0)))) (fRet (fC .non)) fNx) (fSeq (fIf (fOrB (fT (fOp (eqA true) (fVar 1) (fC (.str [108, 101, 110, 103, 116, 104])))) (fT (fOp (isA false) (fFld 33 (fVar 0)) (fC .non)))) (fRet (fTup (fConsL (fVar 1) (fConsL (fC (.int 0)) fNilL)))) fNx) (fRet (fTup (fConsL (fVar 1) (fConsL (fMeth 1 [(8, F_Closed_told)] (fFld 33 (fVar 0)) fNilL) fNilL)))))))
noncomputable def F_FieldRow_good : List AV → Mu → Rs AV := fBG 1 ["self"] (fRet (fAnd (fOp (isA true) (fFld 33 (fVar 0)) (fC .non)) (fMeth 1 [(8, F_Closed_good)] (fFld 33 (fVar 0)) fNilL)))
noncomputable def F_FieldRow_awaited : List AV → Mu → Rs AV := fBG 1 ["self"] (fSeq (fIf (fT (fOp (isA true) (fFld 33 (fVar 0)) (fC .non))) (fRet (fMeth 1 [(8, F_Closed_awaited)] (fFld 33 (fVar 0)) fNilL)) fNx) (fRet (fOp addG (fMeth 1 [(8, F_Closed_awaited)] (fFld 32 (fVar 0)) fNilL) (fMeth 1 [(8, F_Closed_awaited)] (fMeth 1 [(9, F_FieldRow_value_to_come)] (fVar 0) fNilL) fNilL))))
noncomputable def F_FieldRow_told : List AV → Mu → Rs AV := fBG 1 ["self"] (fRet (fTup (fConsL (fMeth 1 [(6, F_Mark_told)] (fFld 31 (fVar 0)) fNilL) (fConsL (fMeth 1 [(8, F_Closed_told)] (fFld 33 (fVar 0)) fNilL) fNilL))))
noncomputable def F_Fields_init : List AV → Mu → Rs AV := fBG 4 ["self", "book", "room", "ends"] (fSeq (fSetF [10] 30 (fVar 0) (fVar 1)) (fSeq (fSetF [10] 24 (fVar 0) (fVar 2)) (fSeq (fSetF [10] 25 (fVar 0) (fVar 3)) (fSeq (fSetF [10] 34 (fVar 0) (fLst fNilL)) (fSeq (fSetF [10] 35 (fVar 0) (fC .non)) (fSeq (fSetF [10] 36 (fVar 0) (fC .non)) (fSetF [10] 37 (fVar 0) (fC .non))))))))
noncomputable def F_Fields_keep_row : List AV → Mu → Rs AV := fBG 1 ["self"] (fSeq (fSetF [10] 35 (fVar 0) (fMeth 1 [(9, F_FieldRow_end_to_come)] (fFld 36 (fVar 0)) fNilL)) (fSeq (fIf (fT (fOp (isA false) (fFld 35 (fVar 0)) (fC .non))) (fDrop (fBM "list" appendA (fFld 34 (fVar 0)) (fConsL (fMeth 1 [(9, F_FieldRow_told)] (fFld 36 (fVar 0)) fNilL) fNilL))) fNx) (fSetF [10] 36 (fVar 0) (fC .non))))
noncomputable def F_Fields_room_left : List AV → Mu → Rs AV := fBG 1 ["self"] (fRet (fOp subA (fFld 24 (fVar 0)) (fCB lenA (fConsL (fFld 34 (fVar 0)) fNilL))))
noncomputable def F_Fields_fed_row : List AV → Mu → Rs AV := fBG 2 ["self", "sign", "row"] (fSeq (fIf (fT (fOp (isA true) (fFld 35 (fVar 0)) (fC .non))) (fRet (fC (.bl false))) fNx) (fSeq (fAsg (fFld 36 (fVar 0)) (gNm 2)) (fSeq (fIf (fT (fOp (isA false) (fVar 2) (fC .non))) (fAsg (fMake 9 4 F_FieldRow_init (fConsL (fFld 30 (fVar 0)) (fConsL (fMeth 1 [(10, F_Fields_room_left)] (fVar 0) fNilL) (fConsL (fFld 25 (fVar 0)) fNilL)))) (gNm 2)) fNx) (fSeq (fIf (fNotB (fTru (fMeth 2 [(9, F_FieldRow_fed)] (fVar 2) (fConsL (fVar 1) fNilL)))) (fRet (fC (.bl false))) fNx) (fSeq (fSetF [10] 36 (fVar 0) (fVar 2)) (fSeq (fIf (fTru (fMeth 1 [(9, F_FieldRow_good)] (fVar 2) fNilL)) (fDrop (fMeth 1 [(10, F_Fields_keep_row)] (fVar 0) fNilL)) fNx) (fRet (fC (.bl true)))))))))
noncomputable def F_Fields_fed : List AV → Mu → Rs AV := fBG 2 ["self", "sign"] (fSeq (fIf (fT (fOp (isA true) (fFld 37 (fVar 0)) (fC .non))) (fRet (fMeth 2 [(2, F_Mark_fed)] (fFld 37 (fVar 0)) (fConsL (fVar 1) fNilL))) fNx) (fSeq (fIf (fAndB (fT (fOp (isA false) (fFld 36 (fVar 0)) (fC .non))) (fT (fOp (eqA false) (fVar 1) (fOp ixA (fC c_ROW_END) (fC (.int 0)))))) (fSeq (fSetF [10] 37 (fVar 0) (fMake 2 1 F_RowEnd_init fNilL)) (fRet (fMeth 2 [(2, F_Mark_fed)] (fFld 37 (fVar 0)) (fConsL (fVar 1) fNilL)))) fNx) (fRet (fMeth 2 [(10, F_Fields_fed_row)] (fVar 0) (fConsL (fVar 1) fNilL)))))
noncomputable def F_Fields_whole : List AV → Mu → Rs AV := fBG 1 ["self"] (fRet (fAnd (fOp (isA true) (fFld 37 (fVar 0)) (fC .non)) (fMeth 1 [(2, F_Exact_good)] (fFld 37 (fVar 0)) fNilL)))
noncomputable def F_Fields_awaited : List AV → Mu → Rs AV := fBG 1 ["self"] (fSeq (fIf (fT (fOp (isA true) (fFld 37 (fVar 0)) (fC .non))) (fRet (fMeth 1 [(2, F_Exact_awaited)] (fFld 37 (fVar 0)) fNilL)) fNx) (fSeq (fIf (fT (fOp (isA true) (fFld 36 (fVar 0)) (fC .non))) (fRet (fOp addG (fMeth 1 [(9, F_FieldRow_awaited)] (fFld 36 (fVar 0)) fNilL) (fC c_ROW_END))) fNx) (fRet (fC c_ROW_END))))
noncomputable def F_Fields_told : List AV → Mu → Rs AV := fBG 1 ["self"] (fRet (fCB tupA (fConsL (fFld 34 (fVar 0)) fNilL)))
noncomputable def F_Fields_told_end : List AV → Mu → Rs AV := fBG 1 ["self"] (fRet (fFld 35 (fVar 0)))
noncomputable def F__law_cell_at : List AV → Mu → Rs AV := fBG 2 ["_law_script", "_law_k"] (fSeq (fIf (fT (fOp ltA (fVar 1) (fCB lenA (fConsL (fVar 0) fNilL)))) (fRet (fOp ixA (fVar 0) (fVar 1))) fNx) (fRet (fC (.int 0))))
noncomputable def F__law_stream : List AV → Mu → Rs AV := fBG 2 ["_law_cell", "_law_many", "_law_found", "_law_number", "_law_k"] (fSeq (fAsg (fLst fNilL) (gNm 2)) (fSeq (fAsg (fOp modA (fOp mulG (fOp addG (fVar 0) (fC (.int 1))) (fC (.int 48271))) (fC (.int 2147483647))) (gNm 3)) (fSeq (fFor 1000000 (fiR1 (fConsL (fVar 1) fNilL)) (gNm 4) (fSeq (fAsg (fOp modA (fOp mulG (fOp addG (fOp addG (fVar 3) (fOp mulG (fC (.int 7919)) (fVar 4))) (fC (.int 1))) (fOp addG (fOp fdivA (fVar 3) (fC (.int 1009))) (fC (.int 69621)))) (fC (.int 2147483647))) (gNm 3)) (fDrop (fBM "list" appendA (fVar 2) (fConsL (fVar 3) fNilL))))) (fRet (fVar 2)))))
noncomputable def F__law_sign : List AV → Mu → Rs AV := fBG 1 ["_law_x", "_law_some"] (fSeq (fAsg (fC (.str [97, 98, 32, 33, 34, 35, 36, 38, 39, 40, 41, 42, 43, 44, 45, 46, 47, 48, 49, 50, 51, 52, 53, 54, 55, 56, 57, 58, 60, 61, 62, 63, 64, 65, 66, 67, 68, 69, 70, 71, 72, 73, 74, 75, 76, 77, 78, 79, 80, 81, 82, 83, 84, 85, 86, 87, 88, 89, 90, 91, 92, 93, 94, 95, 96])) (gNm 1)) (fSeq (fAsg (fOp addG (fVar 1) (fC (.str [99, 100, 101, 102, 103, 104, 105, 106, 107, 108, 109, 110, 111, 112, 113, 114, 115, 116, 117, 118, 119, 120, 121, 122, 123, 124, 125, 126]))) (gNm 1)) (fRet (fOp ixA (fVar 1) (fOp modA (fVar 0) (fC (.int 93)))))))
noncomputable def F__law_value : List AV → Mu → Rs AV := fBG 2 ["_law_cell", "_law_most", "_law_xs", "_law_text"] (fSeq (fAsg (fCall 2 F__law_stream [] (fConsL (fVar 0) (fConsL (fOp addG (fVar 1) (fC (.int 1))) fNilL))) (gNm 2)) (fSeq (fAsg (fBM "str" joinA (fC (.str [])) (fConsL (fComp 1000000 [none] (fiA (fSl slG (fVar 2) fNoPart (fPart (fOp addG (fC (.int 1)) (fOp modA (fOp ixA (fVar 2) (fVar 1)) (fVar 1)))))) (gNm 0) fYes (fCall 1 F__law_sign [] (fConsL (fVar 0) fNilL))) fNilL)) (gNm 3)) (fSeq (fAsg (fBM "str" stripA (fVar 3) (fConsL (fC (.str [32])) fNilL)) (gNm 3)) (fSeq (fIf (fT (fOp (eqA false) (fVar 3) (fC (.str [])))) (fRet (fC (.str [126]))) fNx) (fRet (fVar 3))))))
noncomputable def F__law_name : List AV → Mu → Rs AV := fBG 2 ["_law_cell", "_law_most", "_law_xs", "_law_text"] (fSeq (fAsg (fCall 2 F__law_stream [] (fConsL (fVar 0) (fConsL (fOp addG (fVar 1) (fC (.int 2))) fNilL))) (gNm 2)) (fSeq (fAsg (fBM "str" joinA (fC (.str [])) (fConsL (fComp 1000000 [none] (fiA (fSl slG (fVar 2) fNoPart (fPart (fOp addG (fC (.int 1)) (fOp modA (fOp ixA (fVar 2) (fVar 1)) (fVar 1)))))) (gNm 0) fYes (fOp ixA (fC (.str [97, 98, 99, 100, 101, 102, 103, 104, 105, 106, 107, 108, 109, 110, 111, 112, 113, 114, 115, 116, 117, 118, 119, 120, 121, 122])) (fOp modA (fVar 0) (fC (.int 26))))) fNilL)) (gNm 3)) (fSeq (fIf (fT (fOp (eqA false) (fOp modA (fOp ixA (fVar 2) (fOp addG (fVar 1) (fC (.int 1)))) (fC (.int 3))) (fC (.int 0)))) (fAsg (fSl slG (fOp ixA (fLst (fConsL (fC (.str [108, 101, 110, 103, 116, 104, 121])) (fConsL (fC (.str [112, 105, 101, 99])) (fConsL (fC (.str [112, 97, 114, 116, 115, 97])) (fConsL (fC (.str [114, 101, 115])) (fConsL (fC (.str [108, 101, 110, 103, 116, 104])) (fConsL (fC (.str [114, 101, 115, 116])) fNilL))))))) (fOp modA (fOp fdivA (fOp ixA (fVar 2) (fOp addG (fVar 1) (fC (.int 1)))) (fC (.int 3))) (fC (.int 6)))) fNoPart (fPart (fVar 1))) (gNm 3)) fNx) (fSeq (fIf (fT (fOp (inG false) (fVar 3) (fLst (fConsL (fC (.str [108, 101, 110, 103, 116, 104])) (fConsL (fC (.str [112, 105, 101, 99, 101, 115])) (fConsL (fC (.str [112, 97, 114, 116, 115])) (fConsL (fC (.str [114, 101, 115, 116])) fNilL))))))) (fRet (fSl slG (fVar 3) (fPart (fC (.int 1))) fNoPart)) fNx) (fRet (fVar 3))))))
noncomputable def F__law_rows : List AV → Mu → Rs AV := fBG 1 ["_law_fields_here"] (fRet (fBM "str" joinA (fC (.str [])) (fConsL (fComp 1000000 [none, none] (fiA (fVar 0)) (gTp 2 (gsCons (gNm 0) (gsCons (gNm 1) gsNil))) fYes (fOp addG (fOp addG (fOp addG (fVar 0) (fC (.str [58, 32]))) (fVar 1)) (fC (.str [59, 10])))) fNilL)))
noncomputable def F__law_fields : List AV → Mu → Rs AV := fBG 2 ["_law_cells", "_law_book", "_law_fields_here", "_law_cell", "_law_name_here"] (fSeq (fAsg (fLst fNilL) (gNm 2)) (fSeq (fFor 1000000 (fiA (fVar 0)) (gNm 3) (fSeq (fAsg (fCall 2 F__law_name [] (fConsL (fOp fdivA (fVar 3) (fC (.int 3))) (fConsL (fOp ixA (fVar 1) (fC (.int 1))) fNilL))) (gNm 4)) (fSeq (fIf (fAndB (fT (fOp (eqA false) (fOp modA (fVar 3) (fC (.int 5))) (fC (.int 0)))) (fT (fOp (eqA true) (fVar 2) (fLst fNilL)))) (fAsg (fOp ixA (fOp ixA (fVar 2) (fNeg (fC (.int 1)))) (fC (.int 0))) (gNm 4)) fNx) (fDrop (fBM "list" appendA (fVar 2) (fConsL (fTup (fConsL (fVar 4) (fConsL (fCall 2 F__law_value [] (fConsL (fVar 3) (fConsL (fOp ixA (fVar 1) (fC (.int 2))) fNilL))) fNilL))) fNilL)))))) (fRet (fVar 2))))
noncomputable def F_law : List AV → Mu → Rs AV := fBG 1 ["_law_script", "_law_first", "_law_most", "_law_book", "_law_room", "_law_fields_here", "_law_ends", "_law_name_here", "_law_number", "_law_text", "_law_due", "_law_rows_here", "_law_k", "_law_sign_here"] (fSeq (fAsg (fCall 2 F__law_cell_at [] (fConsL (fVar 0) (fConsL (fC (.int 0)) fNilL))) (gNm 1)) (fSeq (fAsg (fOp ixA (fLst (fConsL (fC (.int 0)) (fConsL (fC (.int 9)) (fConsL (fC (.int 400)) (fConsL (fC (.int 1000)) fNilL))))) (fOp modA (fOp fdivA (fVar 1) (fC (.int 7))) (fC (.int 4)))) (gNm 2)) (fSeq (fAsg (fTup (fConsL (fC (.int 8)) (fConsL (fOp addG (fC (.int 1)) (fOp modA (fCall 2 F__law_cell_at [] (fConsL (fVar 0) (fConsL (fC (.int 1)) fNilL))) (fC (.int 12)))) (fConsL (fOp addG (fC (.int 1)) (fOp modA (fCall 2 F__law_cell_at [] (fConsL (fVar 0) (fConsL (fC (.int 2)) fNilL))) (fC (.int 12)))) (fConsL (fC (.int 6)) (fConsL (fVar 2) (fConsL (fC (.int 2)) (fConsL (fC (.int 2)) fNilL)))))))) (gNm 3)) (fSeq (fAsg (fOp modA (fVar 1) (fC (.int 7))) (gNm 4)) (fSeq (fAsg (fCall 2 F__law_fields [] (fConsL (fSl slG (fVar 0) (fPart (fC (.int 4))) (fPart (fOp addG (fC (.int 4)) (fVar 4)))) (fConsL (fVar 3) fNilL))) (gNm 5)) (fSeq (fAsg (fOp ixA (fLst (fConsL (fTup (fConsL (fC (.str [108, 101, 110, 103, 116, 104])) (fConsL (fC (.str [112, 105, 101, 99, 101, 115])) (fConsL (fC (.str [112, 97, 114, 116, 115])) (fConsL (fC (.str [114, 101, 115, 116])) fNilL))))) (fConsL (fTup (fConsL (fC (.str [108, 101, 110, 103, 116, 104])) (fConsL (fC (.str [112, 105, 101, 99, 101, 115])) (fConsL (fC (.str [112, 97, 114, 116, 115])) fNilL)))) fNilL))) (fOp modA (fOp fdivA (fVar 1) (fC (.int 28))) (fC (.int 2)))) (gNm 6)) (fSeq (fAsg (fOp ixA (fOp addG (fVar 6) (fTup (fConsL (fC (.str [110, 111, 110, 101])) fNilL))) (fOp modA (fOp fdivA (fVar 1) (fC (.int 56))) (fOp addG (fCB lenA (fConsL (fVar 6) fNilL)) (fC (.int 1))))) (gNm 7)) (fSeq (fAsg (fOp modA (fCall 2 F__law_cell_at [] (fConsL (fVar 0) (fConsL (fC (.int 3)) fNilL))) (fOp addG (fVar 2) (fC (.int 1)))) (gNm 8)) (fSeq (fAsg (fCall 1 F__law_rows [] (fConsL (fVar 5) fNilL)) (gNm 9)) (fSeq (fAsg (fTup (fConsL (fVar 7) (fConsL (fC (.int 0)) fNilL))) (gNm 10)) (fSeq (fIf (fT (fOp (eqA false) (fVar 7) (fC (.str [108, 101, 110, 103, 116, 104])))) (fSeq (fAsg (fTup (fConsL (fVar 7) (fConsL (fVar 8) fNilL))) (gNm 10)) (fAsg (fOp addG (fOp addG (fOp addG (fVar 9) (fC (.str [108, 101, 110, 103, 116, 104, 58, 32]))) (fCB strA (fConsL (fVar 8) fNilL))) (fC (.str [59, 10]))) (gNm 9))) (fIf (fT (fOp (eqA false) (fVar 7) (fC (.str [110, 111, 110, 101])))) (fAsg (fC .non) (gNm 10)) (fAsg (fOp addG (fOp addG (fVar 9) (fVar 7)) (fC (.str [58, 32, 121, 101, 115, 59, 10]))) (gNm 9)))) (fSeq (fAsg (fOp addG (fVar 9) (fC (.str [59, 10]))) (gNm 9)) (fSeq (fAsg (fMake 10 4 F_Fields_init (fConsL (fVar 3) (fConsL (fVar 4) (fConsL (fVar 6) fNilL)))) (gNm 11)) (fSeq (fFor 1000000 (fiR1 (fConsL (fCB lenA (fConsL (fVar 9) fNilL)) fNilL)) (gNm 12) (fIf (fOrB (fTru (fMeth 1 [(10, F_Fields_whole)] (fVar 11) fNilL)) (fT (fOp (isA true) (fMeth 2 [(10, F_Fields_fed)] (fVar 11) (fConsL (fOp ixA (fVar 9) (fVar 12)) fNilL)) (fC (.bl true))))) (fRet (fC (.bl false))) fNx)) (fSeq (fIf (fOrB (fT (fOp (isA true) (fMeth 1 [(10, F_Fields_whole)] (fVar 11) fNilL) (fC (.bl true)))) (fOrB (fT (fOp (eqA true) (fMeth 1 [(10, F_Fields_told)] (fVar 11) fNilL) (fCB tupA (fConsL (fVar 5) fNilL)))) (fT (fOp (eqA true) (fMeth 1 [(10, F_Fields_told_end)] (fVar 11) fNilL) (fVar 10))))) (fRet (fC (.bl false))) fNx) (fSeq (fFor 1000000 (fiA (fLst (fConsL (fC (.str [97])) (fConsL (fC (.str [59])) (fConsL (fC (.str [10])) (fConsL (fC (.str [108])) (fConsL (fC (.str [32])) fNilL))))))) (gNm 13) (fIf (fT (fOp (isA true) (fMeth 2 [(10, F_Fields_fed)] (fVar 11) (fConsL (fVar 13) fNilL)) (fC (.bl false)))) (fRet (fC (.bl false))) fNx)) (fRet (fAnd (fOp (eqA false) (fMeth 1 [(10, F_Fields_room_left)] (fVar 11) fNilL) (fOp subA (fVar 4) (fCB lenA (fConsL (fVar 5) fNilL)))) (fAnd (fOp (eqA false) (fMeth 1 [(10, F_Fields_awaited)] (fVar 11) fNilL) (fC (.str []))) (fOp (eqA false) (fMeth 1 [(10, F_Fields_told)] (fVar 11) fNilL) (fCB tupA (fConsL (fVar 5) fNilL))))))))))))))))))))))
section
seal AE AA AT AW AS ASs AI AG AGs AIf APt DefA
variable {P : Program} {w : World} {K : PySem.W.Frag} {mg : Str → Option Value} {base : Heap}
theorem sc_is_small : FnScope ["sign"] ["sign"] (defScope (top 7)) := ⟨rfl, rfl, rfl, by decide +kernel, rfl, by decide +kernel, by decide +kernel⟩
theorem sc_is_plain : FnScope ["sign"] ["sign"] (defScope (top 8)) := ⟨rfl, rfl, rfl, by decide +kernel, rfl, by decide +kernel, by decide +kernel⟩
theorem sc_Mark_init : FnScope ["self"] ["self"] (defScope (mth 11 0)) := ⟨rfl, rfl, rfl, by decide +kernel, rfl, by decide +kernel, by decide +kernel⟩
theorem sc_Mark_fed : FnScope ["self", "sign"] ["self", "sign"] (defScope (mth 11 1)) := ⟨rfl, rfl, rfl, by decide +kernel, rfl, by decide +kernel, by decide +kernel⟩
theorem sc_Mark_told : FnScope ["self"] ["self"] (defScope (mth 11 3)) := ⟨rfl, rfl, rfl, by decide +kernel, rfl, by decide +kernel, by decide +kernel⟩
theorem sc_Exact_init : FnScope ["self", "text"] ["self", "text"] (defScope (mth 12 0)) := ⟨rfl, rfl, rfl, by decide +kernel, rfl, by decide +kernel, by decide +kernel⟩
theorem sc_Exact_takes : FnScope ["self", "sign"] ["self", "sign"] (defScope (mth 12 1)) := ⟨rfl, rfl, rfl, by decide +kernel, rfl, by decide +kernel, by decide +kernel⟩
theorem sc_Exact_good : FnScope ["self"] ["self"] (defScope (mth 12 2)) := ⟨rfl, rfl, rfl, by decide +kernel, rfl, by decide +kernel, by decide +kernel⟩
theorem sc_Exact_awaited : FnScope ["self"] ["self"] (defScope (mth 12 3)) := ⟨rfl, rfl, rfl, by decide +kernel, rfl, by decide +kernel, by decide +kernel⟩
theorem sc_RowEnd_init : FnScope ["self"] ["self"] (defScope (mth 13 0)) := ⟨rfl, rfl, rfl, by decide +kernel, rfl, by decide +kernel, by decide +kernel⟩
theorem sc_Number_init : FnScope ["self", "base", "most"] ["self", "base", "most"] (defScope (mth 14 0)) := ⟨rfl, rfl, rfl, by decide +kernel, rfl, by decide +kernel, by decide +kernel⟩
theorem sc_Number_takes : FnScope ["self", "sign", "figure"] ["self", "sign"] (defScope (mth 14 1)) := ⟨rfl, rfl, rfl, by decide +kernel, rfl, by decide +kernel, by decide +kernel⟩
theorem sc_Number_good : FnScope ["self"] ["self"] (defScope (mth 14 2)) := ⟨rfl, rfl, rfl, by decide +kernel, rfl, by decide +kernel, by decide +kernel⟩
theorem sc_Number_awaited : FnScope ["self"] ["self"] (defScope (mth 14 3)) := ⟨rfl, rfl, rfl, by decide +kernel, rfl, by decide +kernel, by decide +kernel⟩
theorem sc_Number_told : FnScope ["self", "number", "figure"] ["self"] (defScope (mth 14 4)) := ⟨rfl, rfl, rfl, by decide +kernel, rfl, by decide +kernel, by decide +kernel⟩
theorem sc_Value_init : FnScope ["self", "most"] ["self", "most"] (defScope (mth 15 0)) := ⟨rfl, rfl, rfl, by decide +kernel, rfl, by decide +kernel, by decide +kernel⟩
theorem sc_Value_takes : FnScope ["self", "sign"] ["self", "sign"] (defScope (mth 15 1)) := ⟨rfl, rfl, rfl, by decide +kernel, rfl, by decide +kernel, by decide +kernel⟩
theorem sc_Value_good : FnScope ["self"] ["self"] (defScope (mth 15 2)) := ⟨rfl, rfl, rfl, by decide +kernel, rfl, by decide +kernel, by decide +kernel⟩
theorem sc_Value_awaited : FnScope ["self"] ["self"] (defScope (mth 15 3)) := ⟨rfl, rfl, rfl, by decide +kernel, rfl, by decide +kernel, by decide +kernel⟩
theorem sc_Name_init : FnScope ["self", "most", "room", "ends"] ["self", "most", "room", "ends"] (defScope (mth 16 0)) := ⟨rfl, rfl, rfl, by decide +kernel, rfl, by decide +kernel, by decide +kernel⟩
theorem sc_Name_takes : FnScope ["self", "sign", "text"] ["self", "sign"] (defScope (mth 16 1)) := ⟨rfl, rfl, rfl, by decide +kernel, rfl, by decide +kernel, by decide +kernel⟩
theorem sc_Name_can_grow_ordinary : FnScope ["self", "text"] ["self", "text"] (defScope (mth 16 2)) := ⟨rfl, rfl, rfl, by decide +kernel, rfl, by decide +kernel, by decide +kernel⟩
theorem sc_Name_good : FnScope ["self"] ["self"] (defScope (mth 16 3)) := ⟨rfl, rfl, rfl, by decide +kernel, rfl, by decide +kernel, by decide +kernel⟩
theorem sc_Name_awaited : FnScope ["self", "end"] ["self"] (defScope (mth 16 4)) := ⟨rfl, rfl, rfl, by decide +kernel, rfl, by decide +kernel, by decide +kernel⟩
theorem sc_Closed_init : FnScope ["self", "mark", "text"] ["self", "mark", "text"] (defScope (mth 17 0)) := ⟨rfl, rfl, rfl, by decide +kernel, rfl, by decide +kernel, by decide +kernel⟩
theorem sc_Closed_fed : FnScope ["self", "sign"] ["self", "sign"] (defScope (mth 17 1)) := ⟨rfl, rfl, rfl, by decide +kernel, rfl, by decide +kernel, by decide +kernel⟩
theorem sc_Closed_good : FnScope ["self"] ["self"] (defScope (mth 17 2)) := ⟨rfl, rfl, rfl, by decide +kernel, rfl, by decide +kernel, by decide +kernel⟩
theorem sc_Closed_awaited : FnScope ["self"] ["self"] (defScope (mth 17 3)) := ⟨rfl, rfl, rfl, by decide +kernel, rfl, by decide +kernel, by decide +kernel⟩
theorem sc_Closed_told : FnScope ["self"] ["self"] (defScope (mth 17 4)) := ⟨rfl, rfl, rfl, by decide +kernel, rfl, by decide +kernel, by decide +kernel⟩
theorem sc_FieldRow_init : FnScope ["self", "book", "room", "ends"] ["self", "book", "room", "ends"] (defScope (mth 19 0)) := ⟨rfl, rfl, rfl, by decide +kernel, rfl, by decide +kernel, by decide +kernel⟩
theorem sc_FieldRow_fed : FnScope ["self", "sign"] ["self", "sign"] (defScope (mth 19 1)) := ⟨rfl, rfl, rfl, by decide +kernel, rfl, by decide +kernel, by decide +kernel⟩
theorem sc_FieldRow_name_to_come : FnScope ["self"] ["self"] (defScope (mth 19 2)) := ⟨rfl, rfl, rfl, by decide +kernel, rfl, by decide +kernel, by decide +kernel⟩
theorem sc_FieldRow_value_to_come : FnScope ["self", "name"] ["self"] (defScope (mth 19 3)) := ⟨rfl, rfl, rfl, by decide +kernel, rfl, by decide +kernel, by decide +kernel⟩
theorem sc_FieldRow_end_to_come : FnScope ["self", "name"] ["self"] (defScope (mth 19 4)) := ⟨rfl, rfl, rfl, by decide +kernel, rfl, by decide +kernel, by decide +kernel⟩
theorem sc_FieldRow_good : FnScope ["self"] ["self"] (defScope (mth 19 5)) := ⟨rfl, rfl, rfl, by decide +kernel, rfl, by decide +kernel, by decide +kernel⟩
theorem sc_FieldRow_awaited : FnScope ["self"] ["self"] (defScope (mth 19 6)) := ⟨rfl, rfl, rfl, by decide +kernel, rfl, by decide +kernel, by decide +kernel⟩
theorem sc_FieldRow_told : FnScope ["self"] ["self"] (defScope (mth 19 7)) := ⟨rfl, rfl, rfl, by decide +kernel, rfl, by decide +kernel, by decide +kernel⟩
theorem sc_Fields_init : FnScope ["self", "book", "room", "ends"] ["self", "book", "room", "ends"] (defScope (mth 20 0)) := ⟨rfl, rfl, rfl, by decide +kernel, rfl, by decide +kernel, by decide +kernel⟩
theorem sc_Fields_fed : FnScope ["self", "sign"] ["self", "sign"] (defScope (mth 20 1)) := ⟨rfl, rfl, rfl, by decide +kernel, rfl, by decide +kernel, by decide +kernel⟩
theorem sc_Fields_fed_row : FnScope ["self", "sign", "row"] ["self", "sign"] (defScope (mth 20 2)) := ⟨rfl, rfl, rfl, by decide +kernel, rfl, by decide +kernel, by decide +kernel⟩
theorem sc_Fields_keep_row : FnScope ["self"] ["self"] (defScope (mth 20 3)) := ⟨rfl, rfl, rfl, by decide +kernel, rfl, by decide +kernel, by decide +kernel⟩
theorem sc_Fields_whole : FnScope ["self"] ["self"] (defScope (mth 20 4)) := ⟨rfl, rfl, rfl, by decide +kernel, rfl, by decide +kernel, by decide +kernel⟩
theorem sc_Fields_awaited : FnScope ["self"] ["self"] (defScope (mth 20 5)) := ⟨rfl, rfl, rfl, by decide +kernel, rfl, by decide +kernel, by decide +kernel⟩
theorem sc_Fields_told : FnScope ["self"] ["self"] (defScope (mth 20 6)) := ⟨rfl, rfl, rfl, by decide +kernel, rfl, by decide +kernel, by decide +kernel⟩
theorem sc_Fields_told_end : FnScope ["self"] ["self"] (defScope (mth 20 7)) := ⟨rfl, rfl, rfl, by decide +kernel, rfl, by decide +kernel, by decide +kernel⟩
theorem sc_Fields_room_left : FnScope ["self"] ["self"] (defScope (mth 20 9)) := ⟨rfl, rfl, rfl, by decide +kernel, rfl, by decide +kernel, by decide +kernel⟩
theorem sc__law_cell_at : FnScope ["_law_script", "_law_k"] ["_law_script", "_law_k"] (defScope (top 22)) := ⟨rfl, rfl, rfl, by decide +kernel, rfl, by decide +kernel, by decide +kernel⟩
theorem sc__law_stream : FnScope ["_law_cell", "_law_many", "_law_found", "_law_number", "_law_k"] ["_law_cell", "_law_many"] (defScope (top 23)) := ⟨rfl, rfl, rfl, by decide +kernel, rfl, by decide +kernel, by decide +kernel⟩
theorem sc__law_sign : FnScope ["_law_x", "_law_some"] ["_law_x"] (defScope (top 24)) := ⟨rfl, rfl, rfl, by decide +kernel, rfl, by decide +kernel, by decide +kernel⟩
theorem sc__law_value : FnScope ["_law_cell", "_law_most", "_law_xs", "_law_text"] ["_law_cell", "_law_most"] (defScope (top 25)) := ⟨rfl, rfl, rfl, by decide +kernel, rfl, by decide +kernel, by decide +kernel⟩
theorem sc__law_name : FnScope ["_law_cell", "_law_most", "_law_xs", "_law_text"] ["_law_cell", "_law_most"] (defScope (top 26)) := ⟨rfl, rfl, rfl, by decide +kernel, rfl, by decide +kernel, by decide +kernel⟩
theorem sc__law_rows : FnScope ["_law_fields_here"] ["_law_fields_here"] (defScope (top 27)) := ⟨rfl, rfl, rfl, by decide +kernel, rfl, by decide +kernel, by decide +kernel⟩
theorem sc__law_fields : FnScope ["_law_cells", "_law_book", "_law_fields_here", "_law_cell", "_law_name_here"] ["_law_cells", "_law_book"] (defScope (top 28)) := ⟨rfl, rfl, rfl, by decide +kernel, rfl, by decide +kernel, by decide +kernel⟩
theorem sc_law : FnScope ["_law_script", "_law_first", "_law_most", "_law_book", "_law_room", "_law_fields_here", "_law_ends", "_law_name_here", "_law_number", "_law_text", "_law_due", "_law_rows_here", "_law_k", "_law_sign_here"] ["_law_script"] (defScope (top 29)) := ⟨rfl, rfl, rfl, by decide +kernel, rfl, by decide +kernel, by decide +kernel⟩
theorem d_is_small (T : TX K mg) : DefA P w K mg base 1 T.x_is_small.f T.x_is_small.fd ["sign"] F_is_small := fn_ok T.x_is_small.F sc_is_small fun cdv A outer s H E hr => by
  have nd := (sc_is_small).nd
  have hu := hr.units
  exact (ass_one (as_ret (ae_and (y_cmp (oa_eq hu) (y_callB ca_len PySem.boot_len (ya_cons (ae_var 0) aa_nil) T.z_len) ae_int) (ae_one (y_chain oa_le oa_le (ae_str [97]) (ae_var 0) (ae_str [122]))))))
theorem d_is_plain (T : TX K mg) : DefA P w K mg base 1 T.x_is_plain.f T.x_is_plain.fd ["sign"] F_is_plain := fn_ok T.x_is_plain.F sc_is_plain fun cdv A outer s H E hr => by
  have nd := (sc_is_plain).nd
  have hu := hr.units
  exact (ass_one (as_ret (ae_and (y_cmp (oa_eq hu) (y_callB ca_len PySem.boot_len (ya_cons (ae_var 0) aa_nil) T.z_len) ae_int) (ae_one (ae_or (y_cmp (oa_eq hu) (ae_var 0) (ae_str [10])) (ae_one (y_chain oa_le oa_le (ae_str [32]) (ae_var 0) (ae_str [126]))))))))
theorem d_Mark_init (T : TX K mg) : DefA P w K mg base 1 T.x_Mark_init.f T.x_Mark_init.fd ["self"] F_Mark_init := fn_ok T.x_Mark_init.F sc_Mark_init fun cdv A outer s H E hr => by
  have nd := (sc_Mark_init).nd
  have hu := hr.units
  exact (ass_one (y_setF [1, 2, 3, 5, 6] 20 T.w_text_Exact_RowEnd_Number_Value_Name (ae_var 0) (ae_str [])))
theorem d_Exact_takes (T : TX K mg) : DefA P w K mg base 1 T.x_Exact_takes.f T.x_Exact_takes.fd ["self", "sign"] F_Exact_takes := fn_ok T.x_Exact_takes.F sc_Exact_takes fun cdv A outer s H E hr => by
  have nd := (sc_Exact_takes).nd
  have hu := hr.units
  exact (ass_one (as_ret (y_bm "str" PySem.F.plainAttrs_str PySem.F.slot_str_startswith PySem.F.type_str_startswith ma_start (y_fld 21 (ae_var 0)) (ya_cons (ae_op oa_addG (y_fld 20 (ae_var 0)) (ae_var 1)) aa_nil) (yBase rfl))))
theorem d_Name_can_grow_ordinary (T : TX K mg) : DefA P w K mg base 1 T.x_Name_can_grow_ordinary.f T.x_Name_can_grow_ordinary.fd ["self", "text"] F_Name_can_grow_ordinary := fn_ok T.x_Name_can_grow_ordinary.F sc_Name_can_grow_ordinary fun cdv A outer s H E hr => by
  have nd := (sc_Name_can_grow_ordinary).nd
  have hu := hr.units
  exact (ass_cons (as_if (AW.at (aw_or (yt_cmp oa_lt (y_fld 24 (ae_var 0)) ae_int) (aw_or1 (yt_cmp oa_gt (y_callB ca_len PySem.boot_len (ya_cons (ae_var 1) aa_nil) T.z_len) (y_fld 23 (ae_var 0)))))) (ass_one (as_ret ae_bl)) ass_nil) (ass_one (as_ret (ae_or (y_cmp oa_lt (y_callB ca_len PySem.boot_len (ya_cons (ae_var 1) aa_nil) T.z_len) (y_fld 23 (ae_var 0))) (ae_one (y_cmp oa_notin (ae_var 1) (ae_glob c_END_NAMES T.m_END_NAMES T.r_END_NAMES rfl)))))))
theorem d_Name_takes (T : TX K mg) : DefA P w K mg base 2 T.x_Name_takes.f T.x_Name_takes.fd ["self", "sign"] F_Name_takes := fn_ok T.x_Name_takes.F sc_Name_takes fun cdv A outer s H E hr => by
  have nd := (sc_Name_takes).nd
  have hu := hr.units
  exact (ass_cons (y_set 2 nd (ae_op oa_addG (y_fld 20 (ae_var 0)) (ae_var 1))) (ass_cons (as_if (yt_tru (y_callB (ca_any rfl) bt_any (ya_cons (y_comp 1000000 ["end", "text"] [none, some 2] rfl (ai_any (y_fld 25 (ae_var 0))) (fun _ _ _ => (ag_name 0 (by show (["end", "text"] : List Str).Nodup; decide +kernel))) (fun _ _ _ => aif_nil) (fun _ _ _ => (y_bm "str" PySem.F.plainAttrs_str PySem.F.slot_str_startswith PySem.F.type_str_startswith ma_start (ae_var 0) (ya_cons (ae_var 1) aa_nil) (yBase rfl)))) aa_nil) T.z_any)) (ass_one (as_ret ae_bl)) ass_nil) (ass_one (as_ret (ae_and (y_call (d_is_small T) (hr.mono (by omega)) T.x_is_small.m T.x_is_small.F.kp T.x_is_small.b0 (ya_cons (ae_var 1) aa_nil)) (ae_one (ae_meth (k := 1) (n := 2) (D := [(6, F_Name_can_grow_ordinary)]) (mds_cons T.k_Name.n T.k_Name.c T.h_Name_can_grow_ordinary (d_Name_can_grow_ordinary T) T.x_Name_can_grow_ordinary.b mds_nil) (hr.mono (by omega)) (ae_var 0) (ya_cons (ae_var 2) aa_nil))))))))
theorem d_Number_told (T : TX K mg) : DefA P w K mg base 1 T.x_Number_told.f T.x_Number_told.fd ["self"] F_Number_told := fn_ok T.x_Number_told.F sc_Number_told fun cdv A outer s H E hr => by
  have nd := (sc_Number_told).nd
  have hu := hr.units
  exact (ass_cons (y_set 1 nd ae_int) (ass_cons (y_for 1000000 PassesOwn.never rfl (ai_any (y_fld 20 (ae_var 0))) (ag_name 2 nd) (ass_one (y_set 1 nd (ae_op oa_addG (ae_op oa_mulG (ae_var 1) (y_fld 22 (ae_var 0))) (y_bm "str" PySem.F.plainAttrs_str PySem.F.slot_str_find PySem.F.type_str_find ma_find (ae_glob c_FIGURES T.m_FIGURES T.r_FIGURES ⟨_, rfl⟩) (ya_cons (ae_var 2) aa_nil) (yBase rfl)))))) (ass_one (as_ret (ae_var 1)))))
theorem d_Number_takes (T : TX K mg) : DefA P w K mg base 2 T.x_Number_takes.f T.x_Number_takes.fd ["self", "sign"] F_Number_takes := fn_ok T.x_Number_takes.F sc_Number_takes fun cdv A outer s H E hr => by
  have nd := (sc_Number_takes).nd
  have hu := hr.units
  exact (ass_cons (y_set 2 nd (y_bm "str" PySem.F.plainAttrs_str PySem.F.slot_str_find PySem.F.type_str_find ma_find (ae_sl sa_slG (ae_glob c_FIGURES T.m_FIGURES T.r_FIGURES ⟨_, rfl⟩) ap_none (ap_some (y_fld 22 (ae_var 0)))) (ya_cons (ae_var 1) aa_nil) (yBase rfl))) (ass_cons (as_if (AW.at (aw_or (yt_cmp oa_lt (ae_var 2) ae_int) (aw_or1 (yt_cmp (oa_eq hu) (y_fld 20 (ae_var 0)) (ae_str [48]))))) (ass_one (as_ret ae_bl)) ass_nil) (ass_one (as_ret (y_cmp oa_le (ae_op oa_addG (ae_op oa_mulG (ae_meth0 (k := 1) (n := 1) (D := [(3, F_Number_told)]) (mds_cons T.k_Number.n T.k_Number.c T.h_Number_told (d_Number_told T) T.x_Number_told.b mds_nil) (hr.mono (by omega)) (ae_var 0)) (y_fld 22 (ae_var 0))) (ae_var 2)) (y_fld 23 (ae_var 0)))))))
theorem d_Value_takes (T : TX K mg) : DefA P w K mg base 2 T.x_Value_takes.f T.x_Value_takes.fd ["self", "sign"] F_Value_takes := fn_ok T.x_Value_takes.F sc_Value_takes fun cdv A outer s H E hr => by
  have nd := (sc_Value_takes).nd
  have hu := hr.units
  exact (ass_cons (as_if (AW.at (aw_or (at_not (yt_tru (y_call (d_is_plain T) (hr.mono (by omega)) T.x_is_plain.m T.x_is_plain.F.kp T.x_is_plain.b0 (ya_cons (ae_var 1) aa_nil)))) (aw_or1 (yt_cmp oa_inG (ae_var 1) (ae_tup (ya_cons (ae_str [59]) (ya_cons (ae_str [10]) aa_nil))))))) (ass_one (as_ret ae_bl)) ass_nil) (ass_cons (as_if (yt_cmp (oa_eq hu) (ae_var 1) (ae_str [32])) (ass_one (as_ret (y_chain oa_lt oa_lt ae_int (y_callB ca_len PySem.boot_len (ya_cons (y_fld 20 (ae_var 0)) aa_nil) T.z_len) (ae_op oa_sub (y_fld 23 (ae_var 0)) ae_int)))) ass_nil) (ass_one (as_ret (y_cmp oa_lt (y_callB ca_len PySem.boot_len (ya_cons (y_fld 20 (ae_var 0)) aa_nil) T.z_len) (y_fld 23 (ae_var 0)))))))
theorem d_Mark_fed (T : TX K mg) : DefA P w K mg base 3 T.x_Mark_fed.f T.x_Mark_fed.fd ["self", "sign"] F_Mark_fed := fn_ok T.x_Mark_fed.F sc_Mark_fed fun cdv A outer s H E hr => by
  have nd := (sc_Mark_fed).nd
  have hu := hr.units
  exact (ass_cons (as_if (at_not (yt_tru (ae_meth (k := 2) (n := 2) (D := [(1, F_Exact_takes), (2, F_Exact_takes), (3, F_Number_takes), (5, F_Value_takes), (6, F_Name_takes)]) (mds_cons T.k_Exact.n T.k_Exact.c T.h_Exact_takes (d_Exact_takes T) T.x_Exact_takes.b (mds_cons T.k_RowEnd.n T.k_RowEnd.c T.h_RowEnd_takes (d_Exact_takes T) T.x_Exact_takes.b (mds_cons T.k_Number.n T.k_Number.c T.h_Number_takes (d_Number_takes T) T.x_Number_takes.b (mds_cons T.k_Value.n T.k_Value.c T.h_Value_takes (d_Value_takes T) T.x_Value_takes.b (mds_cons T.k_Name.n T.k_Name.c T.h_Name_takes (d_Name_takes T) T.x_Name_takes.b mds_nil))))) (hr.mono (by omega)) (ae_var 0) (ya_cons (ae_var 1) aa_nil)))) (ass_one (as_ret ae_bl)) ass_nil) (ass_cons (y_setF [1, 2, 3, 5, 6] 20 T.w_text_Exact_RowEnd_Number_Value_Name (ae_var 0) (ae_op oa_addG (y_fld 20 (ae_var 0)) (ae_var 1))) (ass_one (as_ret ae_bl))))
theorem d_Mark_told (T : TX K mg) : DefA P w K mg base 1 T.x_Mark_told.f T.x_Mark_told.fd ["self"] F_Mark_told := fn_ok T.x_Mark_told.F sc_Mark_told fun cdv A outer s H E hr => by
  have nd := (sc_Mark_told).nd
  have hu := hr.units
  exact (ass_one (as_ret (y_fld 20 (ae_var 0))))
theorem d_Exact_init (T : TX K mg) : DefA P w K mg base 2 T.x_Exact_init.f T.x_Exact_init.fd ["self", "text"] F_Exact_init := fn_ok T.x_Exact_init.F sc_Exact_init fun cdv A outer s H E hr => by
  have nd := (sc_Exact_init).nd
  have hu := hr.units
  exact (ass_cons (y_expr (ae_base T.b_Mark_init (d_Mark_init T) (hr.mono (by omega)) T.k_Mark.m T.x_Mark_init.b (ya_cons (ae_var 0) aa_nil))) (ass_one (y_setF [1, 2] 21 T.w_goal_Exact_RowEnd (ae_var 0) (ae_var 1))))
theorem d_Exact_good (T : TX K mg) : DefA P w K mg base 1 T.x_Exact_good.f T.x_Exact_good.fd ["self"] F_Exact_good := fn_ok T.x_Exact_good.F sc_Exact_good fun cdv A outer s H E hr => by
  have nd := (sc_Exact_good).nd
  have hu := hr.units
  exact (ass_one (as_ret (y_cmp (oa_eq hu) (y_fld 20 (ae_var 0)) (y_fld 21 (ae_var 0)))))
theorem d_Exact_awaited (T : TX K mg) : DefA P w K mg base 1 T.x_Exact_awaited.f T.x_Exact_awaited.fd ["self"] F_Exact_awaited := fn_ok T.x_Exact_awaited.F sc_Exact_awaited fun cdv A outer s H E hr => by
  have nd := (sc_Exact_awaited).nd
  have hu := hr.units
  exact (ass_one (as_ret (ae_sl sa_slG (y_fld 21 (ae_var 0)) (ap_some (y_callB ca_len PySem.boot_len (ya_cons (y_fld 20 (ae_var 0)) aa_nil) T.z_len)) ap_none)))
theorem d_RowEnd_init (T : TX K mg) : DefA P w K mg base 3 T.x_RowEnd_init.f T.x_RowEnd_init.fd ["self"] F_RowEnd_init := fn_ok T.x_RowEnd_init.F sc_RowEnd_init fun cdv A outer s H E hr => by
  have nd := (sc_RowEnd_init).nd
  have hu := hr.units
  exact (ass_one (y_expr (ae_base T.b_Exact_init (d_Exact_init T) (hr.mono (by omega)) T.k_Exact.m T.x_Exact_init.b (ya_cons (ae_var 0) (ya_cons (ae_glob c_ROW_END T.m_ROW_END T.r_ROW_END ⟨_, rfl⟩) aa_nil)))))
theorem d_Number_init (T : TX K mg) : DefA P w K mg base 2 T.x_Number_init.f T.x_Number_init.fd ["self", "base", "most"] F_Number_init := fn_ok T.x_Number_init.F sc_Number_init fun cdv A outer s H E hr => by
  have nd := (sc_Number_init).nd
  have hu := hr.units
  exact (ass_cons (y_expr (ae_base T.b_Mark_init (d_Mark_init T) (hr.mono (by omega)) T.k_Mark.m T.x_Mark_init.b (ya_cons (ae_var 0) aa_nil))) (ass_cons (y_setF [3] 22 T.w_base_Number (ae_var 0) (ae_var 1)) (ass_one (y_setF [3] 23 T.w_most_Number (ae_var 0) (ae_var 2)))))
theorem d_Number_good (T : TX K mg) : DefA P w K mg base 1 T.x_Number_good.f T.x_Number_good.fd ["self"] F_Number_good := fn_ok T.x_Number_good.F sc_Number_good fun cdv A outer s H E hr => by
  have nd := (sc_Number_good).nd
  have hu := hr.units
  exact (ass_one (as_ret (y_cmp (oa_ne hu) (y_fld 20 (ae_var 0)) (ae_str []))))
theorem d_Number_awaited (T : TX K mg) : DefA P w K mg base 2 T.x_Number_awaited.f T.x_Number_awaited.fd ["self"] F_Number_awaited := fn_ok T.x_Number_awaited.F sc_Number_awaited fun cdv A outer s H E hr => by
  have nd := (sc_Number_awaited).nd
  have hu := hr.units
  exact (ass_one (as_ret (ae_ifE (yt_tru (ae_meth0 (k := 1) (n := 1) (D := [(3, F_Number_good)]) (mds_cons T.k_Number.n T.k_Number.c T.h_Number_good (d_Number_good T) T.x_Number_good.b mds_nil) (hr.mono (by omega)) (ae_var 0))) (ae_str []) (ae_str [48]))))
theorem d_Value_init (T : TX K mg) : DefA P w K mg base 2 T.x_Value_init.f T.x_Value_init.fd ["self", "most"] F_Value_init := fn_ok T.x_Value_init.F sc_Value_init fun cdv A outer s H E hr => by
  have nd := (sc_Value_init).nd
  have hu := hr.units
  exact (ass_cons (y_expr (ae_base T.b_Mark_init (d_Mark_init T) (hr.mono (by omega)) T.k_Mark.m T.x_Mark_init.b (ya_cons (ae_var 0) aa_nil))) (ass_one (y_setF [5] 23 T.w_most_Value (ae_var 0) (ae_var 1))))
theorem d_Value_good (T : TX K mg) : DefA P w K mg base 1 T.x_Value_good.f T.x_Value_good.fd ["self"] F_Value_good := fn_ok T.x_Value_good.F sc_Value_good fun cdv A outer s H E hr => by
  have nd := (sc_Value_good).nd
  have hu := hr.units
  exact (ass_one (as_ret (ae_and (y_cmp (oa_ne hu) (y_fld 20 (ae_var 0)) (ae_str [])) (ae_one (y_cmp (oa_ne hu) (y_ix (y_fld 20 (ae_var 0)) (ae_neg ae_int)) (ae_str [32]))))))
theorem d_Value_awaited (T : TX K mg) : DefA P w K mg base 2 T.x_Value_awaited.f T.x_Value_awaited.fd ["self"] F_Value_awaited := fn_ok T.x_Value_awaited.F sc_Value_awaited fun cdv A outer s H E hr => by
  have nd := (sc_Value_awaited).nd
  have hu := hr.units
  exact (ass_one (as_ret (ae_ifE (yt_tru (ae_meth0 (k := 1) (n := 1) (D := [(5, F_Value_good)]) (mds_cons T.k_Value.n T.k_Value.c T.h_Value_good (d_Value_good T) T.x_Value_good.b mds_nil) (hr.mono (by omega)) (ae_var 0))) (ae_str []) (ae_glob c_FILLER T.m_FILLER T.r_FILLER ⟨_, rfl⟩))))
theorem d_Name_init (T : TX K mg) : DefA P w K mg base 2 T.x_Name_init.f T.x_Name_init.fd ["self", "most", "room", "ends"] F_Name_init := fn_ok T.x_Name_init.F sc_Name_init fun cdv A outer s H E hr => by
  have nd := (sc_Name_init).nd
  have hu := hr.units
  exact (ass_cons (y_expr (ae_base T.b_Mark_init (d_Mark_init T) (hr.mono (by omega)) T.k_Mark.m T.x_Mark_init.b (ya_cons (ae_var 0) aa_nil))) (ass_cons (y_setF [6] 23 T.w_most_Name (ae_var 0) (ae_var 1)) (ass_cons (y_setF [6] 24 T.w_room_Name (ae_var 0) (ae_var 2)) (ass_one (y_setF [6] 25 T.w_ends_Name (ae_var 0) (ae_var 3))))))
theorem d_Name_good (T : TX K mg) : DefA P w K mg base 2 T.x_Name_good.f T.x_Name_good.fd ["self"] F_Name_good := fn_ok T.x_Name_good.F sc_Name_good fun cdv A outer s H E hr => by
  have nd := (sc_Name_good).nd
  have hu := hr.units
  exact (ass_cons (as_if (yt_cmp oa_inG (y_fld 20 (ae_var 0)) (y_fld 25 (ae_var 0))) (ass_one (as_ret ae_bl)) ass_nil) (ass_one (as_ret (ae_and (y_cmp (oa_ne hu) (y_fld 20 (ae_var 0)) (ae_str [])) (ae_and (y_cmp oa_notin (y_fld 20 (ae_var 0)) (ae_glob c_END_NAMES T.m_END_NAMES T.r_END_NAMES rfl)) (ae_one (ae_meth (k := 1) (n := 2) (D := [(6, F_Name_can_grow_ordinary)]) (mds_cons T.k_Name.n T.k_Name.c T.h_Name_can_grow_ordinary (d_Name_can_grow_ordinary T) T.x_Name_can_grow_ordinary.b mds_nil) (hr.mono (by omega)) (ae_var 0) (ya_cons (y_fld 20 (ae_var 0)) aa_nil))))))))
theorem d_Name_awaited (T : TX K mg) : DefA P w K mg base 3 T.x_Name_awaited.f T.x_Name_awaited.fd ["self"] F_Name_awaited := fn_ok T.x_Name_awaited.F sc_Name_awaited fun cdv A outer s H E hr => by
  have nd := (sc_Name_awaited).nd
  have hu := hr.units
  exact (ass_cons (as_if (yt_tru (ae_meth0 (k := 2) (n := 1) (D := [(6, F_Name_good)]) (mds_cons T.k_Name.n T.k_Name.c T.h_Name_good (d_Name_good T) T.x_Name_good.b mds_nil) (hr.mono (by omega)) (ae_var 0))) (ass_one (as_ret (ae_str []))) ass_nil) (ass_cons (as_if (yt_tru (ae_meth (k := 1) (n := 2) (D := [(6, F_Name_can_grow_ordinary)]) (mds_cons T.k_Name.n T.k_Name.c T.h_Name_can_grow_ordinary (d_Name_can_grow_ordinary T) T.x_Name_can_grow_ordinary.b mds_nil) (hr.mono (by omega)) (ae_var 0) (ya_cons (ae_op oa_addG (y_fld 20 (ae_var 0)) (ae_glob c_FILLER T.m_FILLER T.r_FILLER ⟨_, rfl⟩)) aa_nil))) (ass_one (as_ret (ae_glob c_FILLER T.m_FILLER T.r_FILLER ⟨_, rfl⟩))) ass_nil) (ass_cons (y_for 1000000 PassesOwn.never rfl (ai_any (y_fld 25 (ae_var 0))) (ag_name 1 nd) (ass_one (as_if (yt_tru (y_bm "str" PySem.F.plainAttrs_str PySem.F.slot_str_startswith PySem.F.type_str_startswith ma_start (ae_var 1) (ya_cons (y_fld 20 (ae_var 0)) aa_nil) (yBase rfl))) (ass_one (as_ret (ae_sl sa_slG (ae_var 1) (ap_some (y_callB ca_len PySem.boot_len (ya_cons (y_fld 20 (ae_var 0)) aa_nil) T.z_len)) ap_none))) ass_nil))) (ass_one (as_ret (ae_str []))))))
theorem d_Closed_init (T : TX K mg) : DefA P w K mg base 4 T.x_Closed_init.f T.x_Closed_init.fd ["self", "mark", "text"] F_Closed_init := fn_ok T.x_Closed_init.F sc_Closed_init fun cdv A outer s H E hr => by
  have nd := (sc_Closed_init).nd
  have hu := hr.units
  exact (ass_cons (y_setF [8] 27 T.w_mark_Closed (ae_var 0) (ae_var 1)) (ass_cons (y_setF [8] 28 T.w_closing_Closed (ae_var 0) (ae_make (C := 1) (n := 2) T.k_Exact.n T.k_Exact.c T.mk_Exact (d_Exact_init T) (hr.mono (by omega)) T.k_Exact.m T.x_Exact_init.b (ya_cons (ae_var 2) aa_nil))) (ass_one (y_setF [8] 29 T.w_is_closing_Closed (ae_var 0) ae_bl))))
theorem d_Closed_fed (T : TX K mg) : DefA P w K mg base 4 T.x_Closed_fed.f T.x_Closed_fed.fd ["self", "sign"] F_Closed_fed := fn_ok T.x_Closed_fed.F sc_Closed_fed fun cdv A outer s H E hr => by
  have nd := (sc_Closed_fed).nd
  have hu := hr.units
  exact (ass_cons (as_if (AW.at (aw_and (at_not (yt_tru (y_fld 29 (ae_var 0)))) (aw_and1 (yt_tru (ae_meth (k := 3) (n := 2) (D := [(6, F_Mark_fed), (5, F_Mark_fed), (3, F_Mark_fed), (1, F_Mark_fed)]) (mds_cons T.k_Name.n T.k_Name.c T.h_Name_fed (d_Mark_fed T) T.x_Mark_fed.b (mds_cons T.k_Value.n T.k_Value.c T.h_Value_fed (d_Mark_fed T) T.x_Mark_fed.b (mds_cons T.k_Number.n T.k_Number.c T.h_Number_fed (d_Mark_fed T) T.x_Mark_fed.b (mds_cons T.k_Exact.n T.k_Exact.c T.h_Exact_fed (d_Mark_fed T) T.x_Mark_fed.b mds_nil)))) (hr.mono (by omega)) (y_fld 27 (ae_var 0)) (ya_cons (ae_var 1) aa_nil)))))) (ass_one (as_ret ae_bl)) ass_nil) (ass_cons (as_if (AW.at (aw_or (at_not (yt_tru (ae_meth0 (k := 2) (n := 1) (D := [(6, F_Name_good), (5, F_Value_good), (3, F_Number_good), (1, F_Exact_good)]) (mds_cons T.k_Name.n T.k_Name.c T.h_Name_good (d_Name_good T) T.x_Name_good.b (mds_cons T.k_Value.n T.k_Value.c T.h_Value_good (d_Value_good T) T.x_Value_good.b (mds_cons T.k_Number.n T.k_Number.c T.h_Number_good (d_Number_good T) T.x_Number_good.b (mds_cons T.k_Exact.n T.k_Exact.c T.h_Exact_good (d_Exact_good T) T.x_Exact_good.b mds_nil)))) (hr.mono (by omega)) (y_fld 27 (ae_var 0))))) (aw_or1 (at_not (yt_tru (ae_meth (k := 3) (n := 2) (D := [(1, F_Mark_fed)]) (mds_cons T.k_Exact.n T.k_Exact.c T.h_Exact_fed (d_Mark_fed T) T.x_Mark_fed.b mds_nil) (hr.mono (by omega)) (y_fld 28 (ae_var 0)) (ya_cons (ae_var 1) aa_nil))))))) (ass_one (as_ret ae_bl)) ass_nil) (ass_cons (y_setF [8] 29 T.w_is_closing_Closed (ae_var 0) ae_bl) (ass_one (as_ret ae_bl)))))
theorem d_Closed_good (T : TX K mg) : DefA P w K mg base 2 T.x_Closed_good.f T.x_Closed_good.fd ["self"] F_Closed_good := fn_ok T.x_Closed_good.F sc_Closed_good fun cdv A outer s H E hr => by
  have nd := (sc_Closed_good).nd
  have hu := hr.units
  exact (ass_one (as_ret (ae_meth0 (k := 1) (n := 1) (D := [(1, F_Exact_good)]) (mds_cons T.k_Exact.n T.k_Exact.c T.h_Exact_good (d_Exact_good T) T.x_Exact_good.b mds_nil) (hr.mono (by omega)) (y_fld 28 (ae_var 0)))))
theorem d_Closed_awaited (T : TX K mg) : DefA P w K mg base 4 T.x_Closed_awaited.f T.x_Closed_awaited.fd ["self"] F_Closed_awaited := fn_ok T.x_Closed_awaited.F sc_Closed_awaited fun cdv A outer s H E hr => by
  have nd := (sc_Closed_awaited).nd
  have hu := hr.units
  exact (ass_one (as_ret (ae_op oa_addG (ae_meth0 (k := 3) (n := 1) (D := [(6, F_Name_awaited), (5, F_Value_awaited), (3, F_Number_awaited), (1, F_Exact_awaited)]) (mds_cons T.k_Name.n T.k_Name.c T.h_Name_awaited (d_Name_awaited T) T.x_Name_awaited.b (mds_cons T.k_Value.n T.k_Value.c T.h_Value_awaited (d_Value_awaited T) T.x_Value_awaited.b (mds_cons T.k_Number.n T.k_Number.c T.h_Number_awaited (d_Number_awaited T) T.x_Number_awaited.b (mds_cons T.k_Exact.n T.k_Exact.c T.h_Exact_awaited (d_Exact_awaited T) T.x_Exact_awaited.b mds_nil)))) (hr.mono (by omega)) (y_fld 27 (ae_var 0))) (ae_meth0 (k := 1) (n := 1) (D := [(1, F_Exact_awaited)]) (mds_cons T.k_Exact.n T.k_Exact.c T.h_Exact_awaited (d_Exact_awaited T) T.x_Exact_awaited.b mds_nil) (hr.mono (by omega)) (y_fld 28 (ae_var 0))))))
theorem d_Closed_told (T : TX K mg) : DefA P w K mg base 2 T.x_Closed_told.f T.x_Closed_told.fd ["self"] F_Closed_told := fn_ok T.x_Closed_told.F sc_Closed_told fun cdv A outer s H E hr => by
  have nd := (sc_Closed_told).nd
  have hu := hr.units
  exact (ass_one (as_ret (ae_meth0 (k := 1) (n := 1) (D := [(6, F_Mark_told), (5, F_Mark_told), (3, F_Number_told), (1, F_Mark_told)]) (mds_cons T.k_Name.n T.k_Name.c T.h_Name_told (d_Mark_told T) T.x_Mark_told.b (mds_cons T.k_Value.n T.k_Value.c T.h_Value_told (d_Mark_told T) T.x_Mark_told.b (mds_cons T.k_Number.n T.k_Number.c T.h_Number_told (d_Number_told T) T.x_Number_told.b (mds_cons T.k_Exact.n T.k_Exact.c T.h_Exact_told (d_Mark_told T) T.x_Mark_told.b mds_nil)))) (hr.mono (by omega)) (y_fld 27 (ae_var 0)))))
theorem d_FieldRow_init (T : TX K mg) : DefA P w K mg base 6 T.x_FieldRow_init.f T.x_FieldRow_init.fd ["self", "book", "room", "ends"] F_FieldRow_init := fn_ok T.x_FieldRow_init.F sc_FieldRow_init fun cdv A outer s H E hr => by
  have nd := (sc_FieldRow_init).nd
  have hu := hr.units
  exact (ass_cons (y_setF [9] 30 T.w_book_FieldRow (ae_var 0) (ae_var 1)) (ass_cons (y_setF [9] 25 T.w_ends_FieldRow (ae_var 0) (ae_var 3)) (ass_cons (y_setF [9] 31 T.w_name_FieldRow (ae_var 0) (ae_make (C := 6) (n := 4) T.k_Name.n T.k_Name.c T.mk_Name (d_Name_init T) (hr.mono (by omega)) T.k_Name.m T.x_Name_init.b (ya_cons (y_ix (ae_var 1) (ae_glob c_MOST_NAME T.m_MOST_NAME T.r_MOST_NAME ⟨_, rfl⟩)) (ya_cons (ae_ifE (yt_cmp oa_gt (y_ix (ae_var 1) (ae_glob c_MOST_VALUE T.m_MOST_VALUE T.r_MOST_VALUE ⟨_, rfl⟩)) ae_int) (ae_var 2) ae_int) (ya_cons (ae_var 3) aa_nil))))) (ass_cons (y_setF [9] 32 T.w_head_FieldRow (ae_var 0) (ae_make (C := 8) (n := 3) T.k_Closed.n T.k_Closed.c T.mk_Closed (d_Closed_init T) (hr.mono (by omega)) T.k_Closed.m T.x_Closed_init.b (ya_cons (y_fld 31 (ae_var 0)) (ya_cons (ae_str [58, 32]) aa_nil)))) (ass_one (y_setF [9] 33 T.w_value_FieldRow (ae_var 0) ae_non))))))
theorem d_FieldRow_name_to_come (T : TX K mg) : DefA P w K mg base 4 T.x_FieldRow_name_to_come.f T.x_FieldRow_name_to_come.fd ["self"] F_FieldRow_name_to_come := fn_ok T.x_FieldRow_name_to_come.F sc_FieldRow_name_to_come fun cdv A outer s H E hr => by
  have nd := (sc_FieldRow_name_to_come).nd
  have hu := hr.units
  exact (ass_one (as_ret (ae_op oa_addG (ae_meth0 (k := 1) (n := 1) (D := [(6, F_Mark_told)]) (mds_cons T.k_Name.n T.k_Name.c T.h_Name_told (d_Mark_told T) T.x_Mark_told.b mds_nil) (hr.mono (by omega)) (y_fld 31 (ae_var 0))) (ae_meth0 (k := 3) (n := 1) (D := [(6, F_Name_awaited)]) (mds_cons T.k_Name.n T.k_Name.c T.h_Name_awaited (d_Name_awaited T) T.x_Name_awaited.b mds_nil) (hr.mono (by omega)) (y_fld 31 (ae_var 0))))))
theorem d_FieldRow_value_to_come (T : TX K mg) : DefA P w K mg base 6 T.x_FieldRow_value_to_come.f T.x_FieldRow_value_to_come.fd ["self"] F_FieldRow_value_to_come := fn_ok T.x_FieldRow_value_to_come.F sc_FieldRow_value_to_come fun cdv A outer s H E hr => by
  have nd := (sc_FieldRow_value_to_come).nd
  have hu := hr.units
  exact (ass_cons (y_set 1 nd (ae_meth0 (k := 4) (n := 1) (D := [(9, F_FieldRow_name_to_come)]) (mds_cons T.k_FieldRow.n T.k_FieldRow.c T.h_FieldRow_name_to_come (d_FieldRow_name_to_come T) T.x_FieldRow_name_to_come.b mds_nil) (hr.mono (by omega)) (ae_var 0))) (ass_cons (as_if (yt_cmp oa_notin (ae_var 1) (y_fld 25 (ae_var 0))) (ass_one (as_ret (ae_make (C := 8) (n := 3) T.k_Closed.n T.k_Closed.c T.mk_Closed (d_Closed_init T) (hr.mono (by omega)) T.k_Closed.m T.x_Closed_init.b (ya_cons (ae_make (C := 5) (n := 2) T.k_Value.n T.k_Value.c T.mk_Value (d_Value_init T) (hr.mono (by omega)) T.k_Value.m T.x_Value_init.b (ya_cons (y_ix (y_fld 30 (ae_var 0)) (ae_glob c_MOST_VALUE T.m_MOST_VALUE T.r_MOST_VALUE ⟨_, rfl⟩)) aa_nil)) (ya_cons (ae_glob c_ROW_END T.m_ROW_END T.r_ROW_END ⟨_, rfl⟩) aa_nil))))) ass_nil) (ass_cons (as_if (yt_cmp (oa_eq hu) (ae_var 1) (ae_str [108, 101, 110, 103, 116, 104])) (ass_one (as_ret (ae_make (C := 8) (n := 3) T.k_Closed.n T.k_Closed.c T.mk_Closed (d_Closed_init T) (hr.mono (by omega)) T.k_Closed.m T.x_Closed_init.b (ya_cons (ae_make (C := 3) (n := 3) T.k_Number.n T.k_Number.c T.mk_Number (d_Number_init T) (hr.mono (by omega)) T.k_Number.m T.x_Number_init.b (ya_cons ae_int (ya_cons (y_ix (y_fld 30 (ae_var 0)) (ae_glob c_MOST_BODY T.m_MOST_BODY T.r_MOST_BODY ⟨_, rfl⟩)) aa_nil))) (ya_cons (ae_glob c_ROW_END T.m_ROW_END T.r_ROW_END ⟨_, rfl⟩) aa_nil))))) ass_nil) (ass_one (as_ret (ae_make (C := 8) (n := 3) T.k_Closed.n T.k_Closed.c T.mk_Closed (d_Closed_init T) (hr.mono (by omega)) T.k_Closed.m T.x_Closed_init.b (ya_cons (ae_make (C := 1) (n := 2) T.k_Exact.n T.k_Exact.c T.mk_Exact (d_Exact_init T) (hr.mono (by omega)) T.k_Exact.m T.x_Exact_init.b (ya_cons (ae_str [121, 101, 115]) aa_nil)) (ya_cons (ae_glob c_ROW_END T.m_ROW_END T.r_ROW_END ⟨_, rfl⟩) aa_nil))))))))
theorem d_FieldRow_fed (T : TX K mg) : DefA P w K mg base 7 T.x_FieldRow_fed.f T.x_FieldRow_fed.fd ["self", "sign"] F_FieldRow_fed := fn_ok T.x_FieldRow_fed.F sc_FieldRow_fed fun cdv A outer s H E hr => by
  have nd := (sc_FieldRow_fed).nd
  have hu := hr.units
  exact (ass_cons (as_if (yt_cmp oa_isnot (y_fld 33 (ae_var 0)) ae_non) (ass_one (as_ret (ae_meth (k := 4) (n := 2) (D := [(8, F_Closed_fed)]) (mds_cons T.k_Closed.n T.k_Closed.c T.h_Closed_fed (d_Closed_fed T) T.x_Closed_fed.b mds_nil) (hr.mono (by omega)) (y_fld 33 (ae_var 0)) (ya_cons (ae_var 1) aa_nil)))) ass_nil) (ass_cons (as_if (at_not (yt_tru (ae_meth (k := 4) (n := 2) (D := [(8, F_Closed_fed)]) (mds_cons T.k_Closed.n T.k_Closed.c T.h_Closed_fed (d_Closed_fed T) T.x_Closed_fed.b mds_nil) (hr.mono (by omega)) (y_fld 32 (ae_var 0)) (ya_cons (ae_var 1) aa_nil)))) (ass_one (as_ret ae_bl)) ass_nil) (ass_cons (as_if (yt_tru (ae_meth0 (k := 2) (n := 1) (D := [(8, F_Closed_good)]) (mds_cons T.k_Closed.n T.k_Closed.c T.h_Closed_good (d_Closed_good T) T.x_Closed_good.b mds_nil) (hr.mono (by omega)) (y_fld 32 (ae_var 0)))) (ass_one (y_setF [9] 33 T.w_value_FieldRow (ae_var 0) (ae_meth0 (k := 6) (n := 1) (D := [(9, F_FieldRow_value_to_come)]) (mds_cons T.k_FieldRow.n T.k_FieldRow.c T.h_FieldRow_value_to_come (d_FieldRow_value_to_come T) T.x_FieldRow_value_to_come.b mds_nil) (hr.mono (by omega)) (ae_var 0)))) ass_nil) (ass_one (as_ret ae_bl)))))
theorem d_FieldRow_end_to_come (T : TX K mg) : DefA P w K mg base 5 T.x_FieldRow_end_to_come.f T.x_FieldRow_end_to_come.fd ["self"] F_FieldRow_end_to_come := fn_ok T.x_FieldRow_end_to_come.F sc_FieldRow_end_to_come fun cdv A outer s H E hr => by
  have nd := (sc_FieldRow_end_to_come).nd
  have hu := hr.units
  exact (ass_cons (y_set 1 nd (ae_meth0 (k := 4) (n := 1) (D := [(9, F_FieldRow_name_to_come)]) (mds_cons T.k_FieldRow.n T.k_FieldRow.c T.h_FieldRow_name_to_come (d_FieldRow_name_to_come T) T.x_FieldRow_name_to_come.b mds_nil) (hr.mono (by omega)) (ae_var 0))) (ass_cons (as_if (yt_cmp oa_notin (ae_var 1) (y_fld 25 (ae_var 0))) (ass_one (as_ret ae_non)) ass_nil) (ass_cons (as_if (AW.at (aw_or (yt_cmp (oa_ne hu) (ae_var 1) (ae_str [108, 101, 110, 103, 116, 104])) (aw_or1 (yt_cmp oa_is (y_fld 33 (ae_var 0)) ae_non)))) (ass_one (as_ret (ae_tup (ya_cons (ae_var 1) (ya_cons ae_int aa_nil))))) ass_nil) (ass_one (as_ret (ae_tup (ya_cons (ae_var 1) (ya_cons (ae_meth0 (k := 2) (n := 1) (D := [(8, F_Closed_told)]) (mds_cons T.k_Closed.n T.k_Closed.c T.h_Closed_told (d_Closed_told T) T.x_Closed_told.b mds_nil) (hr.mono (by omega)) (y_fld 33 (ae_var 0))) aa_nil))))))))
theorem d_FieldRow_good (T : TX K mg) : DefA P w K mg base 3 T.x_FieldRow_good.f T.x_FieldRow_good.fd ["self"] F_FieldRow_good := fn_ok T.x_FieldRow_good.F sc_FieldRow_good fun cdv A outer s H E hr => by
  have nd := (sc_FieldRow_good).nd
  have hu := hr.units
  exact (ass_one (as_ret (ae_and (y_cmp oa_isnot (y_fld 33 (ae_var 0)) ae_non) (ae_one (ae_meth0 (k := 2) (n := 1) (D := [(8, F_Closed_good)]) (mds_cons T.k_Closed.n T.k_Closed.c T.h_Closed_good (d_Closed_good T) T.x_Closed_good.b mds_nil) (hr.mono (by omega)) (y_fld 33 (ae_var 0)))))))
theorem d_FieldRow_awaited (T : TX K mg) : DefA P w K mg base 7 T.x_FieldRow_awaited.f T.x_FieldRow_awaited.fd ["self"] F_FieldRow_awaited := fn_ok T.x_FieldRow_awaited.F sc_FieldRow_awaited fun cdv A outer s H E hr => by
  have nd := (sc_FieldRow_awaited).nd
  have hu := hr.units
  exact (ass_cons (as_if (yt_cmp oa_isnot (y_fld 33 (ae_var 0)) ae_non) (ass_one (as_ret (ae_meth0 (k := 4) (n := 1) (D := [(8, F_Closed_awaited)]) (mds_cons T.k_Closed.n T.k_Closed.c T.h_Closed_awaited (d_Closed_awaited T) T.x_Closed_awaited.b mds_nil) (hr.mono (by omega)) (y_fld 33 (ae_var 0))))) ass_nil) (ass_one (as_ret (ae_op oa_addG (ae_meth0 (k := 4) (n := 1) (D := [(8, F_Closed_awaited)]) (mds_cons T.k_Closed.n T.k_Closed.c T.h_Closed_awaited (d_Closed_awaited T) T.x_Closed_awaited.b mds_nil) (hr.mono (by omega)) (y_fld 32 (ae_var 0))) (ae_meth0 (k := 4) (n := 1) (D := [(8, F_Closed_awaited)]) (mds_cons T.k_Closed.n T.k_Closed.c T.h_Closed_awaited (d_Closed_awaited T) T.x_Closed_awaited.b mds_nil) (hr.mono (by omega)) (ae_meth0 (k := 6) (n := 1) (D := [(9, F_FieldRow_value_to_come)]) (mds_cons T.k_FieldRow.n T.k_FieldRow.c T.h_FieldRow_value_to_come (d_FieldRow_value_to_come T) T.x_FieldRow_value_to_come.b mds_nil) (hr.mono (by omega)) (ae_var 0)))))))
theorem d_FieldRow_told (T : TX K mg) : DefA P w K mg base 3 T.x_FieldRow_told.f T.x_FieldRow_told.fd ["self"] F_FieldRow_told := fn_ok T.x_FieldRow_told.F sc_FieldRow_told fun cdv A outer s H E hr => by
  have nd := (sc_FieldRow_told).nd
  have hu := hr.units
  exact (ass_one (as_ret (ae_tup (ya_cons (ae_meth0 (k := 1) (n := 1) (D := [(6, F_Mark_told)]) (mds_cons T.k_Name.n T.k_Name.c T.h_Name_told (d_Mark_told T) T.x_Mark_told.b mds_nil) (hr.mono (by omega)) (y_fld 31 (ae_var 0))) (ya_cons (ae_meth0 (k := 2) (n := 1) (D := [(8, F_Closed_told)]) (mds_cons T.k_Closed.n T.k_Closed.c T.h_Closed_told (d_Closed_told T) T.x_Closed_told.b mds_nil) (hr.mono (by omega)) (y_fld 33 (ae_var 0))) aa_nil)))))
theorem d_Fields_init (T : TX K mg) : DefA P w K mg base 1 T.x_Fields_init.f T.x_Fields_init.fd ["self", "book", "room", "ends"] F_Fields_init := fn_ok T.x_Fields_init.F sc_Fields_init fun cdv A outer s H E hr => by
  have nd := (sc_Fields_init).nd
  have hu := hr.units
  exact (ass_cons (y_setF [10] 30 T.w_book_Fields (ae_var 0) (ae_var 1)) (ass_cons (y_setF [10] 24 T.w_room_Fields (ae_var 0) (ae_var 2)) (ass_cons (y_setF [10] 25 T.w_ends_Fields (ae_var 0) (ae_var 3)) (ass_cons (y_setF [10] 34 T.w_pairs_Fields (ae_var 0) (ae_lst aa_nil)) (ass_cons (y_setF [10] 35 T.w_end_Fields (ae_var 0) ae_non) (ass_cons (y_setF [10] 36 T.w_row_Fields (ae_var 0) ae_non) (ass_one (y_setF [10] 37 T.w_empty_row_Fields (ae_var 0) ae_non))))))))
theorem d_Fields_keep_row (T : TX K mg) : DefA P w K mg base 6 T.x_Fields_keep_row.f T.x_Fields_keep_row.fd ["self"] F_Fields_keep_row := fn_ok T.x_Fields_keep_row.F sc_Fields_keep_row fun cdv A outer s H E hr => by
  have nd := (sc_Fields_keep_row).nd
  have hu := hr.units
  exact (ass_cons (y_setF [10] 35 T.w_end_Fields (ae_var 0) (ae_meth0 (k := 5) (n := 1) (D := [(9, F_FieldRow_end_to_come)]) (mds_cons T.k_FieldRow.n T.k_FieldRow.c T.h_FieldRow_end_to_come (d_FieldRow_end_to_come T) T.x_FieldRow_end_to_come.b mds_nil) (hr.mono (by omega)) (y_fld 36 (ae_var 0)))) (ass_cons (as_if (yt_cmp oa_is (y_fld 35 (ae_var 0)) ae_non) (ass_one (y_expr (y_bm "list" PySem.F.plainAttrs_list PySem.F.slot_list_append PySem.F.type_list_append ma_append (y_fld 34 (ae_var 0)) (ya_cons (ae_meth0 (k := 3) (n := 1) (D := [(9, F_FieldRow_told)]) (mds_cons T.k_FieldRow.n T.k_FieldRow.c T.h_FieldRow_told (d_FieldRow_told T) T.x_FieldRow_told.b mds_nil) (hr.mono (by omega)) (y_fld 36 (ae_var 0))) aa_nil) (yBase rfl)))) ass_nil) (ass_one (y_setF [10] 36 T.w_row_Fields (ae_var 0) ae_non))))
theorem d_Fields_room_left (T : TX K mg) : DefA P w K mg base 1 T.x_Fields_room_left.f T.x_Fields_room_left.fd ["self"] F_Fields_room_left := fn_ok T.x_Fields_room_left.F sc_Fields_room_left fun cdv A outer s H E hr => by
  have nd := (sc_Fields_room_left).nd
  have hu := hr.units
  exact (ass_one (as_ret (ae_op oa_sub (y_fld 24 (ae_var 0)) (y_callB ca_len PySem.boot_len (ya_cons (y_fld 34 (ae_var 0)) aa_nil) T.z_len))))
theorem d_Fields_fed_row (T : TX K mg) : DefA P w K mg base 8 T.x_Fields_fed_row.f T.x_Fields_fed_row.fd ["self", "sign"] F_Fields_fed_row := fn_ok T.x_Fields_fed_row.F sc_Fields_fed_row fun cdv A outer s H E hr => by
  have nd := (sc_Fields_fed_row).nd
  have hu := hr.units
  exact (ass_cons (as_if (yt_cmp oa_isnot (y_fld 35 (ae_var 0)) ae_non) (ass_one (as_ret ae_bl)) ass_nil) (ass_cons (y_set 2 nd (y_fld 36 (ae_var 0))) (ass_cons (as_if (yt_cmp oa_is (ae_var 2) ae_non) (ass_one (y_set 2 nd (ae_make (C := 9) (n := 4) T.k_FieldRow.n T.k_FieldRow.c T.mk_FieldRow (d_FieldRow_init T) (hr.mono (by omega)) T.k_FieldRow.m T.x_FieldRow_init.b (ya_cons (y_fld 30 (ae_var 0)) (ya_cons (ae_meth0 (k := 1) (n := 1) (D := [(10, F_Fields_room_left)]) (mds_cons T.k_Fields.n T.k_Fields.c T.h_Fields_room_left (d_Fields_room_left T) T.x_Fields_room_left.b mds_nil) (hr.mono (by omega)) (ae_var 0)) (ya_cons (y_fld 25 (ae_var 0)) aa_nil)))))) ass_nil) (ass_cons (as_if (at_not (yt_tru (ae_meth (k := 7) (n := 2) (D := [(9, F_FieldRow_fed)]) (mds_cons T.k_FieldRow.n T.k_FieldRow.c T.h_FieldRow_fed (d_FieldRow_fed T) T.x_FieldRow_fed.b mds_nil) (hr.mono (by omega)) (ae_var 2) (ya_cons (ae_var 1) aa_nil)))) (ass_one (as_ret ae_bl)) ass_nil) (ass_cons (y_setF [10] 36 T.w_row_Fields (ae_var 0) (ae_var 2)) (ass_cons (as_if (yt_tru (ae_meth0 (k := 3) (n := 1) (D := [(9, F_FieldRow_good)]) (mds_cons T.k_FieldRow.n T.k_FieldRow.c T.h_FieldRow_good (d_FieldRow_good T) T.x_FieldRow_good.b mds_nil) (hr.mono (by omega)) (ae_var 2))) (ass_one (y_expr (ae_meth0 (k := 6) (n := 1) (D := [(10, F_Fields_keep_row)]) (mds_cons T.k_Fields.n T.k_Fields.c T.h_Fields_keep_row (d_Fields_keep_row T) T.x_Fields_keep_row.b mds_nil) (hr.mono (by omega)) (ae_var 0)))) ass_nil) (ass_one (as_ret ae_bl))))))))
theorem d_Fields_fed (T : TX K mg) : DefA P w K mg base 9 T.x_Fields_fed.f T.x_Fields_fed.fd ["self", "sign"] F_Fields_fed := fn_ok T.x_Fields_fed.F sc_Fields_fed fun cdv A outer s H E hr => by
  have nd := (sc_Fields_fed).nd
  have hu := hr.units
  exact (ass_cons (as_if (yt_cmp oa_isnot (y_fld 37 (ae_var 0)) ae_non) (ass_one (as_ret (ae_meth (k := 3) (n := 2) (D := [(2, F_Mark_fed)]) (mds_cons T.k_RowEnd.n T.k_RowEnd.c T.h_RowEnd_fed (d_Mark_fed T) T.x_Mark_fed.b mds_nil) (hr.mono (by omega)) (y_fld 37 (ae_var 0)) (ya_cons (ae_var 1) aa_nil)))) ass_nil) (ass_cons (as_if (AW.at (aw_and (yt_cmp oa_is (y_fld 36 (ae_var 0)) ae_non) (aw_and1 (yt_cmp (oa_eq hu) (ae_var 1) (y_ix (ae_glob c_ROW_END T.m_ROW_END T.r_ROW_END ⟨_, rfl⟩) ae_int))))) (ass_cons (y_setF [10] 37 T.w_empty_row_Fields (ae_var 0) (ae_make0 (C := 2) (n := 1) T.k_RowEnd.n T.k_RowEnd.c T.mk_RowEnd (d_RowEnd_init T) (hr.mono (by omega)) T.k_RowEnd.m T.x_RowEnd_init.b)) (ass_one (as_ret (ae_meth (k := 3) (n := 2) (D := [(2, F_Mark_fed)]) (mds_cons T.k_RowEnd.n T.k_RowEnd.c T.h_RowEnd_fed (d_Mark_fed T) T.x_Mark_fed.b mds_nil) (hr.mono (by omega)) (y_fld 37 (ae_var 0)) (ya_cons (ae_var 1) aa_nil))))) ass_nil) (ass_one (as_ret (ae_meth (k := 8) (n := 2) (D := [(10, F_Fields_fed_row)]) (mds_cons T.k_Fields.n T.k_Fields.c T.h_Fields_fed_row (d_Fields_fed_row T) T.x_Fields_fed_row.b mds_nil) (hr.mono (by omega)) (ae_var 0) (ya_cons (ae_var 1) aa_nil))))))
theorem d_Fields_whole (T : TX K mg) : DefA P w K mg base 2 T.x_Fields_whole.f T.x_Fields_whole.fd ["self"] F_Fields_whole := fn_ok T.x_Fields_whole.F sc_Fields_whole fun cdv A outer s H E hr => by
  have nd := (sc_Fields_whole).nd
  have hu := hr.units
  exact (ass_one (as_ret (ae_and (y_cmp oa_isnot (y_fld 37 (ae_var 0)) ae_non) (ae_one (ae_meth0 (k := 1) (n := 1) (D := [(2, F_Exact_good)]) (mds_cons T.k_RowEnd.n T.k_RowEnd.c T.h_RowEnd_good (d_Exact_good T) T.x_Exact_good.b mds_nil) (hr.mono (by omega)) (y_fld 37 (ae_var 0)))))))
theorem d_Fields_awaited (T : TX K mg) : DefA P w K mg base 8 T.x_Fields_awaited.f T.x_Fields_awaited.fd ["self"] F_Fields_awaited := fn_ok T.x_Fields_awaited.F sc_Fields_awaited fun cdv A outer s H E hr => by
  have nd := (sc_Fields_awaited).nd
  have hu := hr.units
  exact (ass_cons (as_if (yt_cmp oa_isnot (y_fld 37 (ae_var 0)) ae_non) (ass_one (as_ret (ae_meth0 (k := 1) (n := 1) (D := [(2, F_Exact_awaited)]) (mds_cons T.k_RowEnd.n T.k_RowEnd.c T.h_RowEnd_awaited (d_Exact_awaited T) T.x_Exact_awaited.b mds_nil) (hr.mono (by omega)) (y_fld 37 (ae_var 0))))) ass_nil) (ass_cons (as_if (yt_cmp oa_isnot (y_fld 36 (ae_var 0)) ae_non) (ass_one (as_ret (ae_op oa_addG (ae_meth0 (k := 7) (n := 1) (D := [(9, F_FieldRow_awaited)]) (mds_cons T.k_FieldRow.n T.k_FieldRow.c T.h_FieldRow_awaited (d_FieldRow_awaited T) T.x_FieldRow_awaited.b mds_nil) (hr.mono (by omega)) (y_fld 36 (ae_var 0))) (ae_glob c_ROW_END T.m_ROW_END T.r_ROW_END ⟨_, rfl⟩)))) ass_nil) (ass_one (as_ret (ae_glob c_ROW_END T.m_ROW_END T.r_ROW_END ⟨_, rfl⟩)))))
theorem d_Fields_told (T : TX K mg) : DefA P w K mg base 1 T.x_Fields_told.f T.x_Fields_told.fd ["self"] F_Fields_told := fn_ok T.x_Fields_told.F sc_Fields_told fun cdv A outer s H E hr => by
  have nd := (sc_Fields_told).nd
  have hu := hr.units
  exact (ass_one (as_ret (y_callT ca_tup bt_tuple (ya_cons (y_fld 34 (ae_var 0)) aa_nil) T.z_tuple)))
theorem d_Fields_told_end (T : TX K mg) : DefA P w K mg base 1 T.x_Fields_told_end.f T.x_Fields_told_end.fd ["self"] F_Fields_told_end := fn_ok T.x_Fields_told_end.F sc_Fields_told_end fun cdv A outer s H E hr => by
  have nd := (sc_Fields_told_end).nd
  have hu := hr.units
  exact (ass_one (as_ret (y_fld 35 (ae_var 0))))
theorem d__law_cell_at (T : TX K mg) : DefA P w K mg base 1 T.x__law_cell_at.f T.x__law_cell_at.fd ["_law_script", "_law_k"] F__law_cell_at := fn_ok T.x__law_cell_at.F sc__law_cell_at fun cdv A outer s H E hr => by
  have nd := (sc__law_cell_at).nd
  have hu := hr.units
  exact (ass_cons (as_if (yt_cmp oa_lt (ae_var 1) (y_callB ca_len PySem.boot_len (ya_cons (ae_var 0) aa_nil) T.z_len)) (ass_one (as_ret (y_ix (ae_var 0) (ae_var 1)))) ass_nil) (ass_one (as_ret ae_int)))
theorem d__law_stream (T : TX K mg) : DefA P w K mg base 1 T.x__law_stream.f T.x__law_stream.fd ["_law_cell", "_law_many"] F__law_stream := fn_ok T.x__law_stream.F sc__law_stream fun cdv A outer s H E hr => by
  have nd := (sc__law_stream).nd
  have hu := hr.units
  exact (ass_cons (y_set 2 nd (ae_lst aa_nil)) (ass_cons (y_set 3 nd (ae_op oa_mod (ae_op oa_mulG (ae_op oa_addG (ae_var 0) ae_int) ae_int) ae_int)) (ass_cons (y_for 1000000 PassesOwn.never rfl (yi_range1 (ya_cons (ae_var 1) aa_nil) T.z_range) (ag_name 4 nd) (ass_cons (y_set 3 nd (ae_op oa_mod (ae_op oa_mulG (ae_op oa_addG (ae_op oa_addG (ae_var 3) (ae_op oa_mulG ae_int (ae_var 4))) ae_int) (ae_op oa_addG (ae_op oa_fdiv (ae_var 3) ae_int) ae_int)) ae_int)) (ass_one (y_expr (y_bm "list" PySem.F.plainAttrs_list PySem.F.slot_list_append PySem.F.type_list_append ma_append (ae_var 2) (ya_cons (ae_var 3) aa_nil) (yBase rfl)))))) (ass_one (as_ret (ae_var 2))))))
theorem d__law_sign (T : TX K mg) : DefA P w K mg base 1 T.x__law_sign.f T.x__law_sign.fd ["_law_x"] F__law_sign := fn_ok T.x__law_sign.F sc__law_sign fun cdv A outer s H E hr => by
  have nd := (sc__law_sign).nd
  have hu := hr.units
  exact (ass_cons (y_set 1 nd (ae_str [97, 98, 32, 33, 34, 35, 36, 38, 39, 40, 41, 42, 43, 44, 45, 46, 47, 48, 49, 50, 51, 52, 53, 54, 55, 56, 57, 58, 60, 61, 62, 63, 64, 65, 66, 67, 68, 69, 70, 71, 72, 73, 74, 75, 76, 77, 78, 79, 80, 81, 82, 83, 84, 85, 86, 87, 88, 89, 90, 91, 92, 93, 94, 95, 96])) (ass_cons (y_set 1 nd (ae_op oa_addG (ae_var 1) (ae_str [99, 100, 101, 102, 103, 104, 105, 106, 107, 108, 109, 110, 111, 112, 113, 114, 115, 116, 117, 118, 119, 120, 121, 122, 123, 124, 125, 126]))) (ass_one (as_ret (y_ix (ae_var 1) (ae_op oa_mod (ae_var 0) ae_int))))))
theorem d__law_value (T : TX K mg) : DefA P w K mg base 2 T.x__law_value.f T.x__law_value.fd ["_law_cell", "_law_most"] F__law_value := fn_ok T.x__law_value.F sc__law_value fun cdv A outer s H E hr => by
  have nd := (sc__law_value).nd
  have hu := hr.units
  exact (ass_cons (y_set 2 nd (y_call (d__law_stream T) (hr.mono (by omega)) T.x__law_stream.m T.x__law_stream.F.kp T.x__law_stream.b0 (ya_cons (ae_var 0) (ya_cons (ae_op oa_addG (ae_var 1) ae_int) aa_nil)))) (ass_cons (y_set 3 nd (y_bm "str" PySem.F.plainAttrs_str PySem.F.slot_str_join PySem.F.type_str_join ma_join (ae_str []) (ya_cons (y_comp 1000000 ["_law_x"] [none] rfl (ai_any (ae_sl sa_slG (ae_var 2) ap_none (ap_some (ae_op oa_addG ae_int (ae_op oa_mod (y_ix (ae_var 2) (ae_var 1)) (ae_var 1)))))) (fun _ _ _ => (ag_name 0 (by show (["_law_x"] : List Str).Nodup; decide +kernel))) (fun _ _ _ => aif_nil) (fun _ _ _ => (y_call (d__law_sign T) (hr.mono (by omega)) T.x__law_sign.m T.x__law_sign.F.kp T.x__law_sign.b0 (ya_cons (ae_var 0) aa_nil)))) aa_nil) (yBase rfl))) (ass_cons (y_set 3 nd (y_bm "str" PySem.F.plainAttrs_str PySem.F.slot_str_strip PySem.F.type_str_strip ma_strip (ae_var 3) (ya_cons (ae_str [32]) aa_nil) (yBase rfl))) (ass_cons (as_if (yt_cmp (oa_eq hu) (ae_var 3) (ae_str [])) (ass_one (as_ret (ae_str [126]))) ass_nil) (ass_one (as_ret (ae_var 3)))))))
theorem d__law_name (T : TX K mg) : DefA P w K mg base 2 T.x__law_name.f T.x__law_name.fd ["_law_cell", "_law_most"] F__law_name := fn_ok T.x__law_name.F sc__law_name fun cdv A outer s H E hr => by
  have nd := (sc__law_name).nd
  have hu := hr.units
  exact (ass_cons (y_set 2 nd (y_call (d__law_stream T) (hr.mono (by omega)) T.x__law_stream.m T.x__law_stream.F.kp T.x__law_stream.b0 (ya_cons (ae_var 0) (ya_cons (ae_op oa_addG (ae_var 1) ae_int) aa_nil)))) (ass_cons (y_set 3 nd (y_bm "str" PySem.F.plainAttrs_str PySem.F.slot_str_join PySem.F.type_str_join ma_join (ae_str []) (ya_cons (y_comp 1000000 ["_law_x"] [none] rfl (ai_any (ae_sl sa_slG (ae_var 2) ap_none (ap_some (ae_op oa_addG ae_int (ae_op oa_mod (y_ix (ae_var 2) (ae_var 1)) (ae_var 1)))))) (fun _ _ _ => (ag_name 0 (by show (["_law_x"] : List Str).Nodup; decide +kernel))) (fun _ _ _ => aif_nil) (fun _ _ _ => (y_ix (ae_str [97, 98, 99, 100, 101, 102, 103, 104, 105, 106, 107, 108, 109, 110, 111, 112, 113, 114, 115, 116, 117, 118, 119, 120, 121, 122]) (ae_op oa_mod (ae_var 0) ae_int)))) aa_nil) (yBase rfl))) (ass_cons (as_if (yt_cmp (oa_eq hu) (ae_op oa_mod (y_ix (ae_var 2) (ae_op oa_addG (ae_var 1) ae_int)) ae_int) ae_int) (ass_one (y_set 3 nd (ae_sl sa_slG (y_ix (ae_lst (ya_cons (ae_str [108, 101, 110, 103, 116, 104, 121]) (ya_cons (ae_str [112, 105, 101, 99]) (ya_cons (ae_str [112, 97, 114, 116, 115, 97]) (ya_cons (ae_str [114, 101, 115]) (ya_cons (ae_str [108, 101, 110, 103, 116, 104]) (ya_cons (ae_str [114, 101, 115, 116]) aa_nil))))))) (ae_op oa_mod (ae_op oa_fdiv (y_ix (ae_var 2) (ae_op oa_addG (ae_var 1) ae_int)) ae_int) ae_int)) ap_none (ap_some (ae_var 1))))) ass_nil) (ass_cons (as_if (yt_cmp oa_inG (ae_var 3) (ae_lst (ya_cons (ae_str [108, 101, 110, 103, 116, 104]) (ya_cons (ae_str [112, 105, 101, 99, 101, 115]) (ya_cons (ae_str [112, 97, 114, 116, 115]) (ya_cons (ae_str [114, 101, 115, 116]) aa_nil)))))) (ass_one (as_ret (ae_sl sa_slG (ae_var 3) (ap_some ae_int) ap_none))) ass_nil) (ass_one (as_ret (ae_var 3)))))))
theorem d__law_rows (T : TX K mg) : DefA P w K mg base 1 T.x__law_rows.f T.x__law_rows.fd ["_law_fields_here"] F__law_rows := fn_ok T.x__law_rows.F sc__law_rows fun cdv A outer s H E hr => by
  have nd := (sc__law_rows).nd
  have hu := hr.units
  exact (ass_one (as_ret (y_bm "str" PySem.F.plainAttrs_str PySem.F.slot_str_join PySem.F.type_str_join ma_join (ae_str []) (ya_cons (y_comp 1000000 ["_law_name_here", "_law_value_here"] [none, none] rfl (ai_any (ae_var 0)) (fun _ _ _ => (yg_tup rfl (ys_cons (ag_name 0 (by show (["_law_name_here", "_law_value_here"] : List Str).Nodup; decide +kernel)) (ys_cons (ag_name 1 (by show (["_law_name_here", "_law_value_here"] : List Str).Nodup; decide +kernel)) ags_nil)))) (fun _ _ _ => aif_nil) (fun _ _ _ => (ae_op oa_addG (ae_op oa_addG (ae_op oa_addG (ae_var 0) (ae_str [58, 32])) (ae_var 1)) (ae_str [59, 10])))) aa_nil) (yBase rfl))))
theorem d__law_fields (T : TX K mg) : DefA P w K mg base 3 T.x__law_fields.f T.x__law_fields.fd ["_law_cells", "_law_book"] F__law_fields := fn_ok T.x__law_fields.F sc__law_fields fun cdv A outer s H E hr => by
  have nd := (sc__law_fields).nd
  have hu := hr.units
  exact (ass_cons (y_set 2 nd (ae_lst aa_nil)) (ass_cons (y_for 1000000 PassesOwn.never rfl (ai_any (ae_var 0)) (ag_name 3 nd) (ass_cons (y_set 4 nd (y_call (d__law_name T) (hr.mono (by omega)) T.x__law_name.m T.x__law_name.F.kp T.x__law_name.b0 (ya_cons (ae_op oa_fdiv (ae_var 3) ae_int) (ya_cons (y_ix (ae_var 1) ae_int) aa_nil)))) (ass_cons (as_if (AW.at (aw_and (yt_cmp (oa_eq hu) (ae_op oa_mod (ae_var 3) ae_int) ae_int) (aw_and1 (yt_cmp (oa_ne hu) (ae_var 2) (ae_lst aa_nil))))) (ass_one (y_set 4 nd (y_ix (y_ix (ae_var 2) (ae_neg ae_int)) ae_int))) ass_nil) (ass_one (y_expr (y_bm "list" PySem.F.plainAttrs_list PySem.F.slot_list_append PySem.F.type_list_append ma_append (ae_var 2) (ya_cons (ae_tup (ya_cons (ae_var 4) (ya_cons (y_call (d__law_value T) (hr.mono (by omega)) T.x__law_value.m T.x__law_value.F.kp T.x__law_value.b0 (ya_cons (ae_var 3) (ya_cons (y_ix (ae_var 1) ae_int) aa_nil))) aa_nil))) aa_nil) (yBase rfl))))))) (ass_one (as_ret (ae_var 2)))))
theorem d_law (T : TX K mg) : DefA P w K mg base 10 T.x_law.f T.x_law.fd ["_law_script"] F_law := fn_ok T.x_law.F sc_law fun cdv A outer s H E hr => by
  have nd := (sc_law).nd
  have hu := hr.units
  exact (ass_cons (y_set 1 nd (y_call (d__law_cell_at T) (hr.mono (by omega)) T.x__law_cell_at.m T.x__law_cell_at.F.kp T.x__law_cell_at.b0 (ya_cons (ae_var 0) (ya_cons ae_int aa_nil)))) (ass_cons (y_set 2 nd (y_ix (ae_lst (ya_cons ae_int (ya_cons ae_int (ya_cons ae_int (ya_cons ae_int aa_nil))))) (ae_op oa_mod (ae_op oa_fdiv (ae_var 1) ae_int) ae_int))) (ass_cons (y_set 3 nd (ae_tup (ya_cons ae_int (ya_cons (ae_op oa_addG ae_int (ae_op oa_mod (y_call (d__law_cell_at T) (hr.mono (by omega)) T.x__law_cell_at.m T.x__law_cell_at.F.kp T.x__law_cell_at.b0 (ya_cons (ae_var 0) (ya_cons ae_int aa_nil))) ae_int)) (ya_cons (ae_op oa_addG ae_int (ae_op oa_mod (y_call (d__law_cell_at T) (hr.mono (by omega)) T.x__law_cell_at.m T.x__law_cell_at.F.kp T.x__law_cell_at.b0 (ya_cons (ae_var 0) (ya_cons ae_int aa_nil))) ae_int)) (ya_cons ae_int (ya_cons (ae_var 2) (ya_cons ae_int (ya_cons ae_int aa_nil))))))))) (ass_cons (y_set 4 nd (ae_op oa_mod (ae_var 1) ae_int)) (ass_cons (y_set 5 nd (y_call (d__law_fields T) (hr.mono (by omega)) T.x__law_fields.m T.x__law_fields.F.kp T.x__law_fields.b0 (ya_cons (ae_sl sa_slG (ae_var 0) (ap_some ae_int) (ap_some (ae_op oa_addG ae_int (ae_var 4)))) (ya_cons (ae_var 3) aa_nil)))) (ass_cons (y_set 6 nd (y_ix (ae_lst (ya_cons (ae_tup (ya_cons (ae_str [108, 101, 110, 103, 116, 104]) (ya_cons (ae_str [112, 105, 101, 99, 101, 115]) (ya_cons (ae_str [112, 97, 114, 116, 115]) (ya_cons (ae_str [114, 101, 115, 116]) aa_nil))))) (ya_cons (ae_tup (ya_cons (ae_str [108, 101, 110, 103, 116, 104]) (ya_cons (ae_str [112, 105, 101, 99, 101, 115]) (ya_cons (ae_str [112, 97, 114, 116, 115]) aa_nil)))) aa_nil))) (ae_op oa_mod (ae_op oa_fdiv (ae_var 1) ae_int) ae_int))) (ass_cons (y_set 7 nd (y_ix (ae_op oa_addG (ae_var 6) (ae_tup (ya_cons (ae_str [110, 111, 110, 101]) aa_nil))) (ae_op oa_mod (ae_op oa_fdiv (ae_var 1) ae_int) (ae_op oa_addG (y_callB ca_len PySem.boot_len (ya_cons (ae_var 6) aa_nil) T.z_len) ae_int)))) (ass_cons (y_set 8 nd (ae_op oa_mod (y_call (d__law_cell_at T) (hr.mono (by omega)) T.x__law_cell_at.m T.x__law_cell_at.F.kp T.x__law_cell_at.b0 (ya_cons (ae_var 0) (ya_cons ae_int aa_nil))) (ae_op oa_addG (ae_var 2) ae_int))) (ass_cons (y_set 9 nd (y_call (d__law_rows T) (hr.mono (by omega)) T.x__law_rows.m T.x__law_rows.F.kp T.x__law_rows.b0 (ya_cons (ae_var 5) aa_nil))) (ass_cons (y_set 10 nd (ae_tup (ya_cons (ae_var 7) (ya_cons ae_int aa_nil)))) (ass_cons (as_if (yt_cmp (oa_eq hu) (ae_var 7) (ae_str [108, 101, 110, 103, 116, 104])) (ass_cons (y_set 10 nd (ae_tup (ya_cons (ae_var 7) (ya_cons (ae_var 8) aa_nil)))) (ass_one (y_set 9 nd (ae_op oa_addG (ae_op oa_addG (ae_op oa_addG (ae_var 9) (ae_str [108, 101, 110, 103, 116, 104, 58, 32])) (y_callT ca_str bt_str (ya_cons (ae_var 8) aa_nil) T.z_str)) (ae_str [59, 10]))))) (ass_one (as_if (yt_cmp (oa_eq hu) (ae_var 7) (ae_str [110, 111, 110, 101])) (ass_one (y_set 10 nd ae_non)) (ass_one (y_set 9 nd (ae_op oa_addG (ae_op oa_addG (ae_var 9) (ae_var 7)) (ae_str [58, 32, 121, 101, 115, 59, 10]))))))) (ass_cons (y_set 9 nd (ae_op oa_addG (ae_var 9) (ae_str [59, 10]))) (ass_cons (y_set 11 nd (ae_make (C := 10) (n := 4) T.k_Fields.n T.k_Fields.c T.mk_Fields (d_Fields_init T) (hr.mono (by omega)) T.k_Fields.m T.x_Fields_init.b (ya_cons (ae_var 3) (ya_cons (ae_var 4) (ya_cons (ae_var 6) aa_nil))))) (ass_cons (y_for 1000000 PassesOwn.never rfl (yi_range1 (ya_cons (y_callB ca_len PySem.boot_len (ya_cons (ae_var 9) aa_nil) T.z_len) aa_nil) T.z_range) (ag_name 12 nd) (ass_one (as_if (AW.at (aw_or (yt_tru (ae_meth0 (k := 2) (n := 1) (D := [(10, F_Fields_whole)]) (mds_cons T.k_Fields.n T.k_Fields.c T.h_Fields_whole (d_Fields_whole T) T.x_Fields_whole.b mds_nil) (hr.mono (by omega)) (ae_var 11))) (aw_or1 (yt_cmp oa_isnot (ae_meth (k := 9) (n := 2) (D := [(10, F_Fields_fed)]) (mds_cons T.k_Fields.n T.k_Fields.c T.h_Fields_fed (d_Fields_fed T) T.x_Fields_fed.b mds_nil) (hr.mono (by omega)) (ae_var 11) (ya_cons (y_ix (ae_var 9) (ae_var 12)) aa_nil)) ae_bl)))) (ass_one (as_ret ae_bl)) ass_nil))) (ass_cons (as_if (AW.at (aw_or (yt_cmp oa_isnot (ae_meth0 (k := 2) (n := 1) (D := [(10, F_Fields_whole)]) (mds_cons T.k_Fields.n T.k_Fields.c T.h_Fields_whole (d_Fields_whole T) T.x_Fields_whole.b mds_nil) (hr.mono (by omega)) (ae_var 11)) ae_bl) (aw_or (yt_cmp (oa_ne hu) (ae_meth0 (k := 1) (n := 1) (D := [(10, F_Fields_told)]) (mds_cons T.k_Fields.n T.k_Fields.c T.h_Fields_told (d_Fields_told T) T.x_Fields_told.b mds_nil) (hr.mono (by omega)) (ae_var 11)) (y_callT ca_tup bt_tuple (ya_cons (ae_var 5) aa_nil) T.z_tuple)) (aw_or1 (yt_cmp (oa_ne hu) (ae_meth0 (k := 1) (n := 1) (D := [(10, F_Fields_told_end)]) (mds_cons T.k_Fields.n T.k_Fields.c T.h_Fields_told_end (d_Fields_told_end T) T.x_Fields_told_end.b mds_nil) (hr.mono (by omega)) (ae_var 11)) (ae_var 10)))))) (ass_one (as_ret ae_bl)) ass_nil) (ass_cons (y_for 1000000 PassesOwn.never rfl (ai_any (ae_lst (ya_cons (ae_str [97]) (ya_cons (ae_str [59]) (ya_cons (ae_str [10]) (ya_cons (ae_str [108]) (ya_cons (ae_str [32]) aa_nil))))))) (ag_name 13 nd) (ass_one (as_if (yt_cmp oa_isnot (ae_meth (k := 9) (n := 2) (D := [(10, F_Fields_fed)]) (mds_cons T.k_Fields.n T.k_Fields.c T.h_Fields_fed (d_Fields_fed T) T.x_Fields_fed.b mds_nil) (hr.mono (by omega)) (ae_var 11) (ya_cons (ae_var 13) aa_nil)) ae_bl) (ass_one (as_ret ae_bl)) ass_nil))) (ass_one (as_ret (ae_and (y_cmp (oa_eq hu) (ae_meth0 (k := 1) (n := 1) (D := [(10, F_Fields_room_left)]) (mds_cons T.k_Fields.n T.k_Fields.c T.h_Fields_room_left (d_Fields_room_left T) T.x_Fields_room_left.b mds_nil) (hr.mono (by omega)) (ae_var 11)) (ae_op oa_sub (ae_var 4) (y_callB ca_len PySem.boot_len (ya_cons (ae_var 5) aa_nil) T.z_len))) (ae_and (y_cmp (oa_eq hu) (ae_meth0 (k := 8) (n := 1) (D := [(10, F_Fields_awaited)]) (mds_cons T.k_Fields.n T.k_Fields.c T.h_Fields_awaited (d_Fields_awaited T) T.x_Fields_awaited.b mds_nil) (hr.mono (by omega)) (ae_var 11)) (ae_str [])) (ae_one (y_cmp (oa_eq hu) (ae_meth0 (k := 1) (n := 1) (D := [(10, F_Fields_told)]) (mds_cons T.k_Fields.n T.k_Fields.c T.h_Fields_told (d_Fields_told T) T.x_Fields_told.b mds_nil) (hr.mono (by omega)) (ae_var 11)) (y_callT ca_tup bt_tuple (ya_cons (ae_var 5) aa_nil) T.z_tuple)))))))))))))))))))))))
end
theorem tx_mk {K : PySem.W.Frag} {h : Heap} {mg : Str → Option Value} {f1 f2 f3 f4 f5 f6 f7 f8 f9 f10 f11 f12 f13 f14 f15 f16 f17 f18 f19 f20 f21 f22 f23 f24 f25 f26 f27 f28 f29 f30 f31 f32 f33 f34 f35 f36 f37 f38 f39 f40 f41 f42 f43 f44 f45 f46 f47 f48 f49 f50 f51 f52 f53 f54 CMark CExact CRowEnd CNumber CValue CName CClosed CFieldRow CFields AEND_NAMES : Addr} (X : K.In h) (G : h.Ns mainGlobals mg)
    {od1 an1 od2 an2 od3 an3 od4 an4 od5 an5 od6 an6 od7 an7 od8 an8 od9 an9 od10 an10 od11 an11 od12 an12 od13 an13 od14 an14 od15 an15 od16 an16 od17 an17 od18 an18 od19 an19 od20 an20 od21 an21 od22 an22 od23 an23 od24 an24 od25 an25 od26 an26 od27 an27 od28 an28 od29 an29 od30 an30 od31 an31 od32 an32 od33 an33 od34 an34 od35 an35 od36 an36 od37 an37 od38 an38 od39 an39 od40 an40 od41 an41 od42 an42 od43 an43 od44 an44 od45 an45 od46 an46 od47 an47 od48 an48 od49 an49 od50 an50 od51 an51 od52 an52 od53 an53 od54 an54 OEND_NAMES : Option Addr} {sl1 sl2 sl3 sl4 sl5 sl6 sl7 sl8 sl9 sl10 sl11 sl12 sl13 sl14 sl15 sl16 sl17 sl18 sl19 sl20 sl21 sl22 sl23 sl24 sl25 sl26 sl27 sl28 sl29 sl30 sl31 sl32 sl33 sl34 sl35 sl36 sl37 sl38 sl39 sl40 sl41 sl42 sl43 sl44 sl45 sl46 sl47 sl48 sl49 sl50 sl51 sl52 sl53 sl54 SEND_NAMES : Array (Option Value)} {oc1 kV1 dc1 pm1 cd1 ct1 oc2 kV2 dc2 pm2 cd2 ct2 oc3 kV3 dc3 pm3 cd3 ct3 oc4 kV4 dc4 pm4 cd4 ct4 oc5 kV5 dc5 pm5 cd5 ct5 oc6 kV6 dc6 pm6 cd6 ct6 oc7 kV7 dc7 pm7 cd7 ct7 oc8 kV8 dc8 pm8 cd8 ct8 oc9 kV9 dc9 pm9 cd9 ct9 oc10 kV10 dc10 pm10 cd10 ct10 oc11 kV11 dc11 pm11 cd11 ct11 oc12 kV12 dc12 pm12 cd12 ct12 oc13 kV13 dc13 pm13 cd13 ct13 oc14 kV14 dc14 pm14 cd14 ct14 oc15 kV15 dc15 pm15 cd15 ct15 oc16 kV16 dc16 pm16 cd16 ct16 oc17 kV17 dc17 pm17 cd17 ct17 oc18 kV18 dc18 pm18 cd18 ct18 oc19 kV19 dc19 pm19 cd19 ct19 oc20 kV20 dc20 pm20 cd20 ct20 oc21 kV21 dc21 pm21 cd21 ct21 oc22 kV22 dc22 pm22 cd22 ct22 oc23 kV23 dc23 pm23 cd23 ct23 oc24 kV24 dc24 pm24 cd24 ct24 oc25 kV25 dc25 pm25 cd25 ct25 oc26 kV26 dc26 pm26 cd26 ct26 oc27 kV27 dc27 pm27 cd27 ct27 oc28 kV28 dc28 pm28 cd28 ct28 oc29 kV29 dc29 pm29 cd29 ct29 oc30 kV30 dc30 pm30 cd30 ct30 oc31 kV31 dc31 pm31 cd31 ct31 oc32 kV32 dc32 pm32 cd32 ct32 oc33 kV33 dc33 pm33 cd33 ct33 oc34 kV34 dc34 pm34 cd34 ct34 oc35 kV35 dc35 pm35 cd35 ct35 oc36 kV36 dc36 pm36 cd36 ct36 oc37 kV37 dc37 pm37 cd37 ct37 oc38 kV38 dc38 pm38 cd38 ct38 oc39 kV39 dc39 pm39 cd39 ct39 oc40 kV40 dc40 pm40 cd40 ct40 oc41 kV41 dc41 pm41 cd41 ct41 oc42 kV42 dc42 pm42 cd42 ct42 oc43 kV43 dc43 pm43 cd43 ct43 oc44 kV44 dc44 pm44 cd44 ct44 oc45 kV45 dc45 pm45 cd45 ct45 oc46 kV46 dc46 pm46 cd46 ct46 oc47 kV47 dc47 pm47 cd47 ct47 oc48 kV48 dc48 pm48 cd48 ct48 oc49 kV49 dc49 pm49 cd49 ct49 oc50 kV50 dc50 pm50 cd50 ct50 oc51 kV51 dc51 pm51 cd51 ct51 oc52 kV52 dc52 pm52 cd52 ct52 oc53 kV53 dc53 pm53 cd53 ct53 oc54 kV54 dc54 pm54 cd54 ct54 : Value}
    {uEND_NAMES0 uEND_NAMES1 uEND_NAMES2 uEND_NAMES3 uFIGURES uFILLER uMOST_BODY uMOST_NAME uMOST_VALUE uROW_END : Tok}
    {NEND_NAMES : Nat}
    (aCMark : PySem.W.nsIn K mainGlobals "Mark" = some (some (.ref CMark)))
    (pgMark : PySem.W.plainGet K CMark Str.empty = true) (hdMark : PySem.W.hasDictIn K CMark = true) (poMark : PySem.W.plainOver K CMark = true) (saMark : PySem.W.findIn K (.ref CMark) "__setattr__" = some (some (.builtin "object.__setattr__")))
    (aCExact : PySem.W.nsIn K mainGlobals "Exact" = some (some (.ref CExact)))
    (pgExact : PySem.W.plainGet K CExact Str.empty = true) (hdExact : PySem.W.hasDictIn K CExact = true) (poExact : PySem.W.plainOver K CExact = true) (saExact : PySem.W.findIn K (.ref CExact) "__setattr__" = some (some (.builtin "object.__setattr__")))
    (aCRowEnd : PySem.W.nsIn K mainGlobals "RowEnd" = some (some (.ref CRowEnd)))
    (pgRowEnd : PySem.W.plainGet K CRowEnd Str.empty = true) (hdRowEnd : PySem.W.hasDictIn K CRowEnd = true) (poRowEnd : PySem.W.plainOver K CRowEnd = true) (saRowEnd : PySem.W.findIn K (.ref CRowEnd) "__setattr__" = some (some (.builtin "object.__setattr__")))
    (aCNumber : PySem.W.nsIn K mainGlobals "Number" = some (some (.ref CNumber)))
    (pgNumber : PySem.W.plainGet K CNumber Str.empty = true) (hdNumber : PySem.W.hasDictIn K CNumber = true) (poNumber : PySem.W.plainOver K CNumber = true) (saNumber : PySem.W.findIn K (.ref CNumber) "__setattr__" = some (some (.builtin "object.__setattr__")))
    (aCValue : PySem.W.nsIn K mainGlobals "Value" = some (some (.ref CValue)))
    (pgValue : PySem.W.plainGet K CValue Str.empty = true) (hdValue : PySem.W.hasDictIn K CValue = true) (poValue : PySem.W.plainOver K CValue = true) (saValue : PySem.W.findIn K (.ref CValue) "__setattr__" = some (some (.builtin "object.__setattr__")))
    (aCName : PySem.W.nsIn K mainGlobals "Name" = some (some (.ref CName)))
    (pgName : PySem.W.plainGet K CName Str.empty = true) (hdName : PySem.W.hasDictIn K CName = true) (poName : PySem.W.plainOver K CName = true) (saName : PySem.W.findIn K (.ref CName) "__setattr__" = some (some (.builtin "object.__setattr__")))
    (aCClosed : PySem.W.nsIn K mainGlobals "Closed" = some (some (.ref CClosed)))
    (pgClosed : PySem.W.plainGet K CClosed Str.empty = true) (hdClosed : PySem.W.hasDictIn K CClosed = true) (poClosed : PySem.W.plainOver K CClosed = true) (saClosed : PySem.W.findIn K (.ref CClosed) "__setattr__" = some (some (.builtin "object.__setattr__")))
    (aCFieldRow : PySem.W.nsIn K mainGlobals "FieldRow" = some (some (.ref CFieldRow)))
    (pgFieldRow : PySem.W.plainGet K CFieldRow Str.empty = true) (hdFieldRow : PySem.W.hasDictIn K CFieldRow = true) (poFieldRow : PySem.W.plainOver K CFieldRow = true) (saFieldRow : PySem.W.findIn K (.ref CFieldRow) "__setattr__" = some (some (.builtin "object.__setattr__")))
    (aCFields : PySem.W.nsIn K mainGlobals "Fields" = some (some (.ref CFields)))
    (pgFields : PySem.W.plainGet K CFields Str.empty = true) (hdFields : PySem.W.hasDictIn K CFields = true) (poFields : PySem.W.plainOver K CFields = true) (saFields : PySem.W.findIn K (.ref CFields) "__setattr__" = some (some (.builtin "object.__setattr__")))
    (a1 : PySem.W.nsIn K mainGlobals "is_small" = some (some (.ref f1)))
    (l1 : K.lookup f1 = some ⟨oc1, od1, .func (PySem.W.fnOf "is_small" "is_small" (defArgs (top 7)) (defBody (top 7)) (defScope (top 7)) .none kV1 dc1 pm1 an1 cd1 ct1), sl1⟩) (c1 : PySem.W.codeIn K cd1 "is_small" = true) (k1 : PySem.W.keepIn K (.ref f1) = true)
    (a2 : PySem.W.nsIn K mainGlobals "is_plain" = some (some (.ref f2)))
    (l2 : K.lookup f2 = some ⟨oc2, od2, .func (PySem.W.fnOf "is_plain" "is_plain" (defArgs (top 8)) (defBody (top 8)) (defScope (top 8)) .none kV2 dc2 pm2 an2 cd2 ct2), sl2⟩) (c2 : PySem.W.codeIn K cd2 "is_plain" = true) (k2 : PySem.W.keepIn K (.ref f2) = true)
    (a3 : PySem.W.findIn K (.ref CMark) "__init__" = some (some (.ref f3)))
    (i3 : PySem.W.isFn K (.ref f3) = true)
    (l3 : K.lookup f3 = some ⟨oc3, od3, .func (PySem.W.fnOf "__init__" "Mark.__init__" (defArgs (mth 11 0)) (defBody (mth 11 0)) (defScope (mth 11 0)) .none kV3 dc3 pm3 an3 cd3 ct3), sl3⟩) (c3 : PySem.W.codeIn K cd3 "Mark.__init__" = true) (k3 : PySem.W.keepIn K (.ref f3) = true)
    (a4 : PySem.W.findIn K (.ref CMark) "fed" = some (some (.ref f4)))
    (i4 : PySem.W.isFn K (.ref f4) = true)
    (l4 : K.lookup f4 = some ⟨oc4, od4, .func (PySem.W.fnOf "fed" "Mark.fed" (defArgs (mth 11 1)) (defBody (mth 11 1)) (defScope (mth 11 1)) .none kV4 dc4 pm4 an4 cd4 ct4), sl4⟩) (c4 : PySem.W.codeIn K cd4 "Mark.fed" = true) (k4 : PySem.W.keepIn K (.ref f4) = true)
    (a5 : PySem.W.findIn K (.ref CMark) "told" = some (some (.ref f5)))
    (i5 : PySem.W.isFn K (.ref f5) = true)
    (l5 : K.lookup f5 = some ⟨oc5, od5, .func (PySem.W.fnOf "told" "Mark.told" (defArgs (mth 11 3)) (defBody (mth 11 3)) (defScope (mth 11 3)) .none kV5 dc5 pm5 an5 cd5 ct5), sl5⟩) (c5 : PySem.W.codeIn K cd5 "Mark.told" = true) (k5 : PySem.W.keepIn K (.ref f5) = true)
    (a6 : PySem.W.findIn K (.ref CExact) "__init__" = some (some (.ref f6)))
    (i6 : PySem.W.isFn K (.ref f6) = true)
    (l6 : K.lookup f6 = some ⟨oc6, od6, .func (PySem.W.fnOf "__init__" "Exact.__init__" (defArgs (mth 12 0)) (defBody (mth 12 0)) (defScope (mth 12 0)) .none kV6 dc6 pm6 an6 cd6 ct6), sl6⟩) (c6 : PySem.W.codeIn K cd6 "Exact.__init__" = true) (k6 : PySem.W.keepIn K (.ref f6) = true)
    (a7 : PySem.W.findIn K (.ref CExact) "takes" = some (some (.ref f7)))
    (i7 : PySem.W.isFn K (.ref f7) = true)
    (l7 : K.lookup f7 = some ⟨oc7, od7, .func (PySem.W.fnOf "takes" "Exact.takes" (defArgs (mth 12 1)) (defBody (mth 12 1)) (defScope (mth 12 1)) .none kV7 dc7 pm7 an7 cd7 ct7), sl7⟩) (c7 : PySem.W.codeIn K cd7 "Exact.takes" = true) (k7 : PySem.W.keepIn K (.ref f7) = true)
    (a8 : PySem.W.findIn K (.ref CExact) "good" = some (some (.ref f8)))
    (i8 : PySem.W.isFn K (.ref f8) = true)
    (l8 : K.lookup f8 = some ⟨oc8, od8, .func (PySem.W.fnOf "good" "Exact.good" (defArgs (mth 12 2)) (defBody (mth 12 2)) (defScope (mth 12 2)) .none kV8 dc8 pm8 an8 cd8 ct8), sl8⟩) (c8 : PySem.W.codeIn K cd8 "Exact.good" = true) (k8 : PySem.W.keepIn K (.ref f8) = true)
    (a9 : PySem.W.findIn K (.ref CExact) "awaited" = some (some (.ref f9)))
    (i9 : PySem.W.isFn K (.ref f9) = true)
    (l9 : K.lookup f9 = some ⟨oc9, od9, .func (PySem.W.fnOf "awaited" "Exact.awaited" (defArgs (mth 12 3)) (defBody (mth 12 3)) (defScope (mth 12 3)) .none kV9 dc9 pm9 an9 cd9 ct9), sl9⟩) (c9 : PySem.W.codeIn K cd9 "Exact.awaited" = true) (k9 : PySem.W.keepIn K (.ref f9) = true)
    (a10 : PySem.W.findIn K (.ref CRowEnd) "__init__" = some (some (.ref f10)))
    (i10 : PySem.W.isFn K (.ref f10) = true)
    (l10 : K.lookup f10 = some ⟨oc10, od10, .func (PySem.W.fnOf "__init__" "RowEnd.__init__" (defArgs (mth 13 0)) (defBody (mth 13 0)) (defScope (mth 13 0)) .none kV10 dc10 pm10 an10 cd10 ct10), sl10⟩) (c10 : PySem.W.codeIn K cd10 "RowEnd.__init__" = true) (k10 : PySem.W.keepIn K (.ref f10) = true)
    (a11 : PySem.W.findIn K (.ref CNumber) "__init__" = some (some (.ref f11)))
    (i11 : PySem.W.isFn K (.ref f11) = true)
    (l11 : K.lookup f11 = some ⟨oc11, od11, .func (PySem.W.fnOf "__init__" "Number.__init__" (defArgs (mth 14 0)) (defBody (mth 14 0)) (defScope (mth 14 0)) .none kV11 dc11 pm11 an11 cd11 ct11), sl11⟩) (c11 : PySem.W.codeIn K cd11 "Number.__init__" = true) (k11 : PySem.W.keepIn K (.ref f11) = true)
    (a12 : PySem.W.findIn K (.ref CNumber) "takes" = some (some (.ref f12)))
    (i12 : PySem.W.isFn K (.ref f12) = true)
    (l12 : K.lookup f12 = some ⟨oc12, od12, .func (PySem.W.fnOf "takes" "Number.takes" (defArgs (mth 14 1)) (defBody (mth 14 1)) (defScope (mth 14 1)) .none kV12 dc12 pm12 an12 cd12 ct12), sl12⟩) (c12 : PySem.W.codeIn K cd12 "Number.takes" = true) (k12 : PySem.W.keepIn K (.ref f12) = true)
    (a13 : PySem.W.findIn K (.ref CNumber) "good" = some (some (.ref f13)))
    (i13 : PySem.W.isFn K (.ref f13) = true)
    (l13 : K.lookup f13 = some ⟨oc13, od13, .func (PySem.W.fnOf "good" "Number.good" (defArgs (mth 14 2)) (defBody (mth 14 2)) (defScope (mth 14 2)) .none kV13 dc13 pm13 an13 cd13 ct13), sl13⟩) (c13 : PySem.W.codeIn K cd13 "Number.good" = true) (k13 : PySem.W.keepIn K (.ref f13) = true)
    (a14 : PySem.W.findIn K (.ref CNumber) "awaited" = some (some (.ref f14)))
    (i14 : PySem.W.isFn K (.ref f14) = true)
    (l14 : K.lookup f14 = some ⟨oc14, od14, .func (PySem.W.fnOf "awaited" "Number.awaited" (defArgs (mth 14 3)) (defBody (mth 14 3)) (defScope (mth 14 3)) .none kV14 dc14 pm14 an14 cd14 ct14), sl14⟩) (c14 : PySem.W.codeIn K cd14 "Number.awaited" = true) (k14 : PySem.W.keepIn K (.ref f14) = true)
    (a15 : PySem.W.findIn K (.ref CNumber) "told" = some (some (.ref f15)))
    (i15 : PySem.W.isFn K (.ref f15) = true)
    (l15 : K.lookup f15 = some ⟨oc15, od15, .func (PySem.W.fnOf "told" "Number.told" (defArgs (mth 14 4)) (defBody (mth 14 4)) (defScope (mth 14 4)) .none kV15 dc15 pm15 an15 cd15 ct15), sl15⟩) (c15 : PySem.W.codeIn K cd15 "Number.told" = true) (k15 : PySem.W.keepIn K (.ref f15) = true)
    (a16 : PySem.W.findIn K (.ref CValue) "__init__" = some (some (.ref f16)))
    (i16 : PySem.W.isFn K (.ref f16) = true)
    (l16 : K.lookup f16 = some ⟨oc16, od16, .func (PySem.W.fnOf "__init__" "Value.__init__" (defArgs (mth 15 0)) (defBody (mth 15 0)) (defScope (mth 15 0)) .none kV16 dc16 pm16 an16 cd16 ct16), sl16⟩) (c16 : PySem.W.codeIn K cd16 "Value.__init__" = true) (k16 : PySem.W.keepIn K (.ref f16) = true)
    (a17 : PySem.W.findIn K (.ref CValue) "takes" = some (some (.ref f17)))
    (i17 : PySem.W.isFn K (.ref f17) = true)
    (l17 : K.lookup f17 = some ⟨oc17, od17, .func (PySem.W.fnOf "takes" "Value.takes" (defArgs (mth 15 1)) (defBody (mth 15 1)) (defScope (mth 15 1)) .none kV17 dc17 pm17 an17 cd17 ct17), sl17⟩) (c17 : PySem.W.codeIn K cd17 "Value.takes" = true) (k17 : PySem.W.keepIn K (.ref f17) = true)
    (a18 : PySem.W.findIn K (.ref CValue) "good" = some (some (.ref f18)))
    (i18 : PySem.W.isFn K (.ref f18) = true)
    (l18 : K.lookup f18 = some ⟨oc18, od18, .func (PySem.W.fnOf "good" "Value.good" (defArgs (mth 15 2)) (defBody (mth 15 2)) (defScope (mth 15 2)) .none kV18 dc18 pm18 an18 cd18 ct18), sl18⟩) (c18 : PySem.W.codeIn K cd18 "Value.good" = true) (k18 : PySem.W.keepIn K (.ref f18) = true)
    (a19 : PySem.W.findIn K (.ref CValue) "awaited" = some (some (.ref f19)))
    (i19 : PySem.W.isFn K (.ref f19) = true)
    (l19 : K.lookup f19 = some ⟨oc19, od19, .func (PySem.W.fnOf "awaited" "Value.awaited" (defArgs (mth 15 3)) (defBody (mth 15 3)) (defScope (mth 15 3)) .none kV19 dc19 pm19 an19 cd19 ct19), sl19⟩) (c19 : PySem.W.codeIn K cd19 "Value.awaited" = true) (k19 : PySem.W.keepIn K (.ref f19) = true)
    (a20 : PySem.W.findIn K (.ref CName) "__init__" = some (some (.ref f20)))
    (i20 : PySem.W.isFn K (.ref f20) = true)
    (l20 : K.lookup f20 = some ⟨oc20, od20, .func (PySem.W.fnOf "__init__" "Name.__init__" (defArgs (mth 16 0)) (defBody (mth 16 0)) (defScope (mth 16 0)) .none kV20 dc20 pm20 an20 cd20 ct20), sl20⟩) (c20 : PySem.W.codeIn K cd20 "Name.__init__" = true) (k20 : PySem.W.keepIn K (.ref f20) = true)
    (a21 : PySem.W.findIn K (.ref CName) "takes" = some (some (.ref f21)))
    (i21 : PySem.W.isFn K (.ref f21) = true)
    (l21 : K.lookup f21 = some ⟨oc21, od21, .func (PySem.W.fnOf "takes" "Name.takes" (defArgs (mth 16 1)) (defBody (mth 16 1)) (defScope (mth 16 1)) .none kV21 dc21 pm21 an21 cd21 ct21), sl21⟩) (c21 : PySem.W.codeIn K cd21 "Name.takes" = true) (k21 : PySem.W.keepIn K (.ref f21) = true)
    (a22 : PySem.W.findIn K (.ref CName) "can_grow_ordinary" = some (some (.ref f22)))
    (i22 : PySem.W.isFn K (.ref f22) = true)
    (l22 : K.lookup f22 = some ⟨oc22, od22, .func (PySem.W.fnOf "can_grow_ordinary" "Name.can_grow_ordinary" (defArgs (mth 16 2)) (defBody (mth 16 2)) (defScope (mth 16 2)) .none kV22 dc22 pm22 an22 cd22 ct22), sl22⟩) (c22 : PySem.W.codeIn K cd22 "Name.can_grow_ordinary" = true) (k22 : PySem.W.keepIn K (.ref f22) = true)
    (a23 : PySem.W.findIn K (.ref CName) "good" = some (some (.ref f23)))
    (i23 : PySem.W.isFn K (.ref f23) = true)
    (l23 : K.lookup f23 = some ⟨oc23, od23, .func (PySem.W.fnOf "good" "Name.good" (defArgs (mth 16 3)) (defBody (mth 16 3)) (defScope (mth 16 3)) .none kV23 dc23 pm23 an23 cd23 ct23), sl23⟩) (c23 : PySem.W.codeIn K cd23 "Name.good" = true) (k23 : PySem.W.keepIn K (.ref f23) = true)
    (a24 : PySem.W.findIn K (.ref CName) "awaited" = some (some (.ref f24)))
    (i24 : PySem.W.isFn K (.ref f24) = true)
    (l24 : K.lookup f24 = some ⟨oc24, od24, .func (PySem.W.fnOf "awaited" "Name.awaited" (defArgs (mth 16 4)) (defBody (mth 16 4)) (defScope (mth 16 4)) .none kV24 dc24 pm24 an24 cd24 ct24), sl24⟩) (c24 : PySem.W.codeIn K cd24 "Name.awaited" = true) (k24 : PySem.W.keepIn K (.ref f24) = true)
    (a25 : PySem.W.findIn K (.ref CClosed) "__init__" = some (some (.ref f25)))
    (i25 : PySem.W.isFn K (.ref f25) = true)
    (l25 : K.lookup f25 = some ⟨oc25, od25, .func (PySem.W.fnOf "__init__" "Closed.__init__" (defArgs (mth 17 0)) (defBody (mth 17 0)) (defScope (mth 17 0)) .none kV25 dc25 pm25 an25 cd25 ct25), sl25⟩) (c25 : PySem.W.codeIn K cd25 "Closed.__init__" = true) (k25 : PySem.W.keepIn K (.ref f25) = true)
    (a26 : PySem.W.findIn K (.ref CClosed) "fed" = some (some (.ref f26)))
    (i26 : PySem.W.isFn K (.ref f26) = true)
    (l26 : K.lookup f26 = some ⟨oc26, od26, .func (PySem.W.fnOf "fed" "Closed.fed" (defArgs (mth 17 1)) (defBody (mth 17 1)) (defScope (mth 17 1)) .none kV26 dc26 pm26 an26 cd26 ct26), sl26⟩) (c26 : PySem.W.codeIn K cd26 "Closed.fed" = true) (k26 : PySem.W.keepIn K (.ref f26) = true)
    (a27 : PySem.W.findIn K (.ref CClosed) "good" = some (some (.ref f27)))
    (i27 : PySem.W.isFn K (.ref f27) = true)
    (l27 : K.lookup f27 = some ⟨oc27, od27, .func (PySem.W.fnOf "good" "Closed.good" (defArgs (mth 17 2)) (defBody (mth 17 2)) (defScope (mth 17 2)) .none kV27 dc27 pm27 an27 cd27 ct27), sl27⟩) (c27 : PySem.W.codeIn K cd27 "Closed.good" = true) (k27 : PySem.W.keepIn K (.ref f27) = true)
    (a28 : PySem.W.findIn K (.ref CClosed) "awaited" = some (some (.ref f28)))
    (i28 : PySem.W.isFn K (.ref f28) = true)
    (l28 : K.lookup f28 = some ⟨oc28, od28, .func (PySem.W.fnOf "awaited" "Closed.awaited" (defArgs (mth 17 3)) (defBody (mth 17 3)) (defScope (mth 17 3)) .none kV28 dc28 pm28 an28 cd28 ct28), sl28⟩) (c28 : PySem.W.codeIn K cd28 "Closed.awaited" = true) (k28 : PySem.W.keepIn K (.ref f28) = true)
    (a29 : PySem.W.findIn K (.ref CClosed) "told" = some (some (.ref f29)))
    (i29 : PySem.W.isFn K (.ref f29) = true)
    (l29 : K.lookup f29 = some ⟨oc29, od29, .func (PySem.W.fnOf "told" "Closed.told" (defArgs (mth 17 4)) (defBody (mth 17 4)) (defScope (mth 17 4)) .none kV29 dc29 pm29 an29 cd29 ct29), sl29⟩) (c29 : PySem.W.codeIn K cd29 "Closed.told" = true) (k29 : PySem.W.keepIn K (.ref f29) = true)
    (a30 : PySem.W.findIn K (.ref CFieldRow) "__init__" = some (some (.ref f30)))
    (i30 : PySem.W.isFn K (.ref f30) = true)
    (l30 : K.lookup f30 = some ⟨oc30, od30, .func (PySem.W.fnOf "__init__" "FieldRow.__init__" (defArgs (mth 19 0)) (defBody (mth 19 0)) (defScope (mth 19 0)) .none kV30 dc30 pm30 an30 cd30 ct30), sl30⟩) (c30 : PySem.W.codeIn K cd30 "FieldRow.__init__" = true) (k30 : PySem.W.keepIn K (.ref f30) = true)
    (a31 : PySem.W.findIn K (.ref CFieldRow) "fed" = some (some (.ref f31)))
    (i31 : PySem.W.isFn K (.ref f31) = true)
    (l31 : K.lookup f31 = some ⟨oc31, od31, .func (PySem.W.fnOf "fed" "FieldRow.fed" (defArgs (mth 19 1)) (defBody (mth 19 1)) (defScope (mth 19 1)) .none kV31 dc31 pm31 an31 cd31 ct31), sl31⟩) (c31 : PySem.W.codeIn K cd31 "FieldRow.fed" = true) (k31 : PySem.W.keepIn K (.ref f31) = true)
    (a32 : PySem.W.findIn K (.ref CFieldRow) "name_to_come" = some (some (.ref f32)))
    (i32 : PySem.W.isFn K (.ref f32) = true)
    (l32 : K.lookup f32 = some ⟨oc32, od32, .func (PySem.W.fnOf "name_to_come" "FieldRow.name_to_come" (defArgs (mth 19 2)) (defBody (mth 19 2)) (defScope (mth 19 2)) .none kV32 dc32 pm32 an32 cd32 ct32), sl32⟩) (c32 : PySem.W.codeIn K cd32 "FieldRow.name_to_come" = true) (k32 : PySem.W.keepIn K (.ref f32) = true)
    (a33 : PySem.W.findIn K (.ref CFieldRow) "value_to_come" = some (some (.ref f33)))
    (i33 : PySem.W.isFn K (.ref f33) = true)
    (l33 : K.lookup f33 = some ⟨oc33, od33, .func (PySem.W.fnOf "value_to_come" "FieldRow.value_to_come" (defArgs (mth 19 3)) (defBody (mth 19 3)) (defScope (mth 19 3)) .none kV33 dc33 pm33 an33 cd33 ct33), sl33⟩) (c33 : PySem.W.codeIn K cd33 "FieldRow.value_to_come" = true) (k33 : PySem.W.keepIn K (.ref f33) = true)
    (a34 : PySem.W.findIn K (.ref CFieldRow) "end_to_come" = some (some (.ref f34)))
    (i34 : PySem.W.isFn K (.ref f34) = true)
    (l34 : K.lookup f34 = some ⟨oc34, od34, .func (PySem.W.fnOf "end_to_come" "FieldRow.end_to_come" (defArgs (mth 19 4)) (defBody (mth 19 4)) (defScope (mth 19 4)) .none kV34 dc34 pm34 an34 cd34 ct34), sl34⟩) (c34 : PySem.W.codeIn K cd34 "FieldRow.end_to_come" = true) (k34 : PySem.W.keepIn K (.ref f34) = true)
    (a35 : PySem.W.findIn K (.ref CFieldRow) "good" = some (some (.ref f35)))
    (i35 : PySem.W.isFn K (.ref f35) = true)
    (l35 : K.lookup f35 = some ⟨oc35, od35, .func (PySem.W.fnOf "good" "FieldRow.good" (defArgs (mth 19 5)) (defBody (mth 19 5)) (defScope (mth 19 5)) .none kV35 dc35 pm35 an35 cd35 ct35), sl35⟩) (c35 : PySem.W.codeIn K cd35 "FieldRow.good" = true) (k35 : PySem.W.keepIn K (.ref f35) = true)
    (a36 : PySem.W.findIn K (.ref CFieldRow) "awaited" = some (some (.ref f36)))
    (i36 : PySem.W.isFn K (.ref f36) = true)
    (l36 : K.lookup f36 = some ⟨oc36, od36, .func (PySem.W.fnOf "awaited" "FieldRow.awaited" (defArgs (mth 19 6)) (defBody (mth 19 6)) (defScope (mth 19 6)) .none kV36 dc36 pm36 an36 cd36 ct36), sl36⟩) (c36 : PySem.W.codeIn K cd36 "FieldRow.awaited" = true) (k36 : PySem.W.keepIn K (.ref f36) = true)
    (a37 : PySem.W.findIn K (.ref CFieldRow) "told" = some (some (.ref f37)))
    (i37 : PySem.W.isFn K (.ref f37) = true)
    (l37 : K.lookup f37 = some ⟨oc37, od37, .func (PySem.W.fnOf "told" "FieldRow.told" (defArgs (mth 19 7)) (defBody (mth 19 7)) (defScope (mth 19 7)) .none kV37 dc37 pm37 an37 cd37 ct37), sl37⟩) (c37 : PySem.W.codeIn K cd37 "FieldRow.told" = true) (k37 : PySem.W.keepIn K (.ref f37) = true)
    (a38 : PySem.W.findIn K (.ref CFields) "__init__" = some (some (.ref f38)))
    (i38 : PySem.W.isFn K (.ref f38) = true)
    (l38 : K.lookup f38 = some ⟨oc38, od38, .func (PySem.W.fnOf "__init__" "Fields.__init__" (defArgs (mth 20 0)) (defBody (mth 20 0)) (defScope (mth 20 0)) .none kV38 dc38 pm38 an38 cd38 ct38), sl38⟩) (c38 : PySem.W.codeIn K cd38 "Fields.__init__" = true) (k38 : PySem.W.keepIn K (.ref f38) = true)
    (a39 : PySem.W.findIn K (.ref CFields) "fed" = some (some (.ref f39)))
    (i39 : PySem.W.isFn K (.ref f39) = true)
    (l39 : K.lookup f39 = some ⟨oc39, od39, .func (PySem.W.fnOf "fed" "Fields.fed" (defArgs (mth 20 1)) (defBody (mth 20 1)) (defScope (mth 20 1)) .none kV39 dc39 pm39 an39 cd39 ct39), sl39⟩) (c39 : PySem.W.codeIn K cd39 "Fields.fed" = true) (k39 : PySem.W.keepIn K (.ref f39) = true)
    (a40 : PySem.W.findIn K (.ref CFields) "fed_row" = some (some (.ref f40)))
    (i40 : PySem.W.isFn K (.ref f40) = true)
    (l40 : K.lookup f40 = some ⟨oc40, od40, .func (PySem.W.fnOf "fed_row" "Fields.fed_row" (defArgs (mth 20 2)) (defBody (mth 20 2)) (defScope (mth 20 2)) .none kV40 dc40 pm40 an40 cd40 ct40), sl40⟩) (c40 : PySem.W.codeIn K cd40 "Fields.fed_row" = true) (k40 : PySem.W.keepIn K (.ref f40) = true)
    (a41 : PySem.W.findIn K (.ref CFields) "keep_row" = some (some (.ref f41)))
    (i41 : PySem.W.isFn K (.ref f41) = true)
    (l41 : K.lookup f41 = some ⟨oc41, od41, .func (PySem.W.fnOf "keep_row" "Fields.keep_row" (defArgs (mth 20 3)) (defBody (mth 20 3)) (defScope (mth 20 3)) .none kV41 dc41 pm41 an41 cd41 ct41), sl41⟩) (c41 : PySem.W.codeIn K cd41 "Fields.keep_row" = true) (k41 : PySem.W.keepIn K (.ref f41) = true)
    (a42 : PySem.W.findIn K (.ref CFields) "whole" = some (some (.ref f42)))
    (i42 : PySem.W.isFn K (.ref f42) = true)
    (l42 : K.lookup f42 = some ⟨oc42, od42, .func (PySem.W.fnOf "whole" "Fields.whole" (defArgs (mth 20 4)) (defBody (mth 20 4)) (defScope (mth 20 4)) .none kV42 dc42 pm42 an42 cd42 ct42), sl42⟩) (c42 : PySem.W.codeIn K cd42 "Fields.whole" = true) (k42 : PySem.W.keepIn K (.ref f42) = true)
    (a43 : PySem.W.findIn K (.ref CFields) "awaited" = some (some (.ref f43)))
    (i43 : PySem.W.isFn K (.ref f43) = true)
    (l43 : K.lookup f43 = some ⟨oc43, od43, .func (PySem.W.fnOf "awaited" "Fields.awaited" (defArgs (mth 20 5)) (defBody (mth 20 5)) (defScope (mth 20 5)) .none kV43 dc43 pm43 an43 cd43 ct43), sl43⟩) (c43 : PySem.W.codeIn K cd43 "Fields.awaited" = true) (k43 : PySem.W.keepIn K (.ref f43) = true)
    (a44 : PySem.W.findIn K (.ref CFields) "told" = some (some (.ref f44)))
    (i44 : PySem.W.isFn K (.ref f44) = true)
    (l44 : K.lookup f44 = some ⟨oc44, od44, .func (PySem.W.fnOf "told" "Fields.told" (defArgs (mth 20 6)) (defBody (mth 20 6)) (defScope (mth 20 6)) .none kV44 dc44 pm44 an44 cd44 ct44), sl44⟩) (c44 : PySem.W.codeIn K cd44 "Fields.told" = true) (k44 : PySem.W.keepIn K (.ref f44) = true)
    (a45 : PySem.W.findIn K (.ref CFields) "told_end" = some (some (.ref f45)))
    (i45 : PySem.W.isFn K (.ref f45) = true)
    (l45 : K.lookup f45 = some ⟨oc45, od45, .func (PySem.W.fnOf "told_end" "Fields.told_end" (defArgs (mth 20 7)) (defBody (mth 20 7)) (defScope (mth 20 7)) .none kV45 dc45 pm45 an45 cd45 ct45), sl45⟩) (c45 : PySem.W.codeIn K cd45 "Fields.told_end" = true) (k45 : PySem.W.keepIn K (.ref f45) = true)
    (a46 : PySem.W.findIn K (.ref CFields) "room_left" = some (some (.ref f46)))
    (i46 : PySem.W.isFn K (.ref f46) = true)
    (l46 : K.lookup f46 = some ⟨oc46, od46, .func (PySem.W.fnOf "room_left" "Fields.room_left" (defArgs (mth 20 9)) (defBody (mth 20 9)) (defScope (mth 20 9)) .none kV46 dc46 pm46 an46 cd46 ct46), sl46⟩) (c46 : PySem.W.codeIn K cd46 "Fields.room_left" = true) (k46 : PySem.W.keepIn K (.ref f46) = true)
    (a47 : PySem.W.nsIn K mainGlobals "_law_cell_at" = some (some (.ref f47)))
    (l47 : K.lookup f47 = some ⟨oc47, od47, .func (PySem.W.fnOf "_law_cell_at" "_law_cell_at" (defArgs (top 22)) (defBody (top 22)) (defScope (top 22)) .none kV47 dc47 pm47 an47 cd47 ct47), sl47⟩) (c47 : PySem.W.codeIn K cd47 "_law_cell_at" = true) (k47 : PySem.W.keepIn K (.ref f47) = true)
    (a48 : PySem.W.nsIn K mainGlobals "_law_stream" = some (some (.ref f48)))
    (l48 : K.lookup f48 = some ⟨oc48, od48, .func (PySem.W.fnOf "_law_stream" "_law_stream" (defArgs (top 23)) (defBody (top 23)) (defScope (top 23)) .none kV48 dc48 pm48 an48 cd48 ct48), sl48⟩) (c48 : PySem.W.codeIn K cd48 "_law_stream" = true) (k48 : PySem.W.keepIn K (.ref f48) = true)
    (a49 : PySem.W.nsIn K mainGlobals "_law_sign" = some (some (.ref f49)))
    (l49 : K.lookup f49 = some ⟨oc49, od49, .func (PySem.W.fnOf "_law_sign" "_law_sign" (defArgs (top 24)) (defBody (top 24)) (defScope (top 24)) .none kV49 dc49 pm49 an49 cd49 ct49), sl49⟩) (c49 : PySem.W.codeIn K cd49 "_law_sign" = true) (k49 : PySem.W.keepIn K (.ref f49) = true)
    (a50 : PySem.W.nsIn K mainGlobals "_law_value" = some (some (.ref f50)))
    (l50 : K.lookup f50 = some ⟨oc50, od50, .func (PySem.W.fnOf "_law_value" "_law_value" (defArgs (top 25)) (defBody (top 25)) (defScope (top 25)) .none kV50 dc50 pm50 an50 cd50 ct50), sl50⟩) (c50 : PySem.W.codeIn K cd50 "_law_value" = true) (k50 : PySem.W.keepIn K (.ref f50) = true)
    (a51 : PySem.W.nsIn K mainGlobals "_law_name" = some (some (.ref f51)))
    (l51 : K.lookup f51 = some ⟨oc51, od51, .func (PySem.W.fnOf "_law_name" "_law_name" (defArgs (top 26)) (defBody (top 26)) (defScope (top 26)) .none kV51 dc51 pm51 an51 cd51 ct51), sl51⟩) (c51 : PySem.W.codeIn K cd51 "_law_name" = true) (k51 : PySem.W.keepIn K (.ref f51) = true)
    (a52 : PySem.W.nsIn K mainGlobals "_law_rows" = some (some (.ref f52)))
    (l52 : K.lookup f52 = some ⟨oc52, od52, .func (PySem.W.fnOf "_law_rows" "_law_rows" (defArgs (top 27)) (defBody (top 27)) (defScope (top 27)) .none kV52 dc52 pm52 an52 cd52 ct52), sl52⟩) (c52 : PySem.W.codeIn K cd52 "_law_rows" = true) (k52 : PySem.W.keepIn K (.ref f52) = true)
    (a53 : PySem.W.nsIn K mainGlobals "_law_fields" = some (some (.ref f53)))
    (l53 : K.lookup f53 = some ⟨oc53, od53, .func (PySem.W.fnOf "_law_fields" "_law_fields" (defArgs (top 28)) (defBody (top 28)) (defScope (top 28)) .none kV53 dc53 pm53 an53 cd53 ct53), sl53⟩) (c53 : PySem.W.codeIn K cd53 "_law_fields" = true) (k53 : PySem.W.keepIn K (.ref f53) = true)
    (a54 : PySem.W.nsIn K mainGlobals "law" = some (some (.ref f54)))
    (l54 : K.lookup f54 = some ⟨oc54, od54, .func (PySem.W.fnOf "law" "law" (defArgs (top 29)) (defBody (top 29)) (defScope (top 29)) .none kV54 dc54 pm54 an54 cd54 ct54), sl54⟩) (c54 : PySem.W.codeIn K cd54 "law" = true) (k54 : PySem.W.keepIn K (.ref f54) = true)
    (eExact_fed : PySem.W.findIn K (.ref CExact) "fed" = some (some (.ref f4)))
    (eExact_told : PySem.W.findIn K (.ref CExact) "told" = some (some (.ref f5)))
    (eName_fed : PySem.W.findIn K (.ref CName) "fed" = some (some (.ref f4)))
    (eName_told : PySem.W.findIn K (.ref CName) "told" = some (some (.ref f5)))
    (eNumber_fed : PySem.W.findIn K (.ref CNumber) "fed" = some (some (.ref f4)))
    (eRowEnd_awaited : PySem.W.findIn K (.ref CRowEnd) "awaited" = some (some (.ref f9)))
    (eRowEnd_fed : PySem.W.findIn K (.ref CRowEnd) "fed" = some (some (.ref f4)))
    (eRowEnd_good : PySem.W.findIn K (.ref CRowEnd) "good" = some (some (.ref f8)))
    (eRowEnd_takes : PySem.W.findIn K (.ref CRowEnd) "takes" = some (some (.ref f7)))
    (eValue_fed : PySem.W.findIn K (.ref CValue) "fed" = some (some (.ref f4)))
    (eValue_told : PySem.W.findIn K (.ref CValue) "told" = some (some (.ref f5)))
    (bgExact_init : PySem.W.specialIn K (.ref CExact) "__getattribute__" = some (some (.builtin "type.__getattribute__"))) (brExact_init : PySem.W.readsIn K CExact (.type "type") = true) (bfExact_init : PySem.W.findCls K (.ref CExact) (.type "type") "__init__" = some (.val (.ref f6)))
    (bgMark_init : PySem.W.specialIn K (.ref CMark) "__getattribute__" = some (some (.builtin "type.__getattribute__"))) (brMark_init : PySem.W.readsIn K CMark (.type "type") = true) (bfMark_init : PySem.W.findCls K (.ref CMark) (.type "type") "__init__" = some (.val (.ref f3)))
    (mmClosed : PySem.W.makesIn K CClosed = true) (kcClosed : PySem.W.keepIn K (.ref CClosed) = true)
    (mmExact : PySem.W.makesIn K CExact = true) (kcExact : PySem.W.keepIn K (.ref CExact) = true)
    (mmFieldRow : PySem.W.makesIn K CFieldRow = true) (kcFieldRow : PySem.W.keepIn K (.ref CFieldRow) = true)
    (mmFields : PySem.W.makesIn K CFields = true) (kcFields : PySem.W.keepIn K (.ref CFields) = true)
    (mmName : PySem.W.makesIn K CName = true) (kcName : PySem.W.keepIn K (.ref CName) = true)
    (mmNumber : PySem.W.makesIn K CNumber = true) (kcNumber : PySem.W.keepIn K (.ref CNumber) = true)
    (mmRowEnd : PySem.W.makesIn K CRowEnd = true) (kcRowEnd : PySem.W.keepIn K (.ref CRowEnd) = true)
    (mmValue : PySem.W.makesIn K CValue = true) (kcValue : PySem.W.keepIn K (.ref CValue) = true)
    (nNumber_base : PySem.W.findIn K (.ref CNumber) "base" = some none)
    (nFieldRow_book : PySem.W.findIn K (.ref CFieldRow) "book" = some none)
    (nFields_book : PySem.W.findIn K (.ref CFields) "book" = some none)
    (nClosed_closing : PySem.W.findIn K (.ref CClosed) "closing" = some none)
    (nFields_empty_row : PySem.W.findIn K (.ref CFields) "empty_row" = some none)
    (nFields_end : PySem.W.findIn K (.ref CFields) "end" = some none)
    (nFieldRow_ends : PySem.W.findIn K (.ref CFieldRow) "ends" = some none)
    (nFields_ends : PySem.W.findIn K (.ref CFields) "ends" = some none)
    (nName_ends : PySem.W.findIn K (.ref CName) "ends" = some none)
    (nRowEnd_goal : PySem.W.findIn K (.ref CRowEnd) "goal" = some none)
    (nExact_goal : PySem.W.findIn K (.ref CExact) "goal" = some none)
    (nFieldRow_head : PySem.W.findIn K (.ref CFieldRow) "head" = some none)
    (nClosed_is_closing : PySem.W.findIn K (.ref CClosed) "is_closing" = some none)
    (nClosed_mark : PySem.W.findIn K (.ref CClosed) "mark" = some none)
    (nName_most : PySem.W.findIn K (.ref CName) "most" = some none)
    (nNumber_most : PySem.W.findIn K (.ref CNumber) "most" = some none)
    (nValue_most : PySem.W.findIn K (.ref CValue) "most" = some none)
    (nFieldRow_name : PySem.W.findIn K (.ref CFieldRow) "name" = some none)
    (nFields_pairs : PySem.W.findIn K (.ref CFields) "pairs" = some none)
    (nFields_room : PySem.W.findIn K (.ref CFields) "room" = some none)
    (nName_room : PySem.W.findIn K (.ref CName) "room" = some none)
    (nFields_row : PySem.W.findIn K (.ref CFields) "row" = some none)
    (nName_text : PySem.W.findIn K (.ref CName) "text" = some none)
    (nValue_text : PySem.W.findIn K (.ref CValue) "text" = some none)
    (nNumber_text : PySem.W.findIn K (.ref CNumber) "text" = some none)
    (nRowEnd_text : PySem.W.findIn K (.ref CRowEnd) "text" = some none)
    (nExact_text : PySem.W.findIn K (.ref CExact) "text" = some none)
    (nFieldRow_value : PySem.W.findIn K (.ref CFieldRow) "value" = some none)
    (gEND_NAMES : PySem.W.nsIn K mainGlobals "END_NAMES" = some (some (.ref AEND_NAMES))) (hEND_NAMES : K.lookup AEND_NAMES = some ⟨.type "tuple", OEND_NAMES, .seq #[.str "length" uEND_NAMES0, .str "pieces" uEND_NAMES1, .str "parts" uEND_NAMES2, .str "rest" uEND_NAMES3] NEND_NAMES, SEND_NAMES⟩)
    (gFIGURES : PySem.W.nsIn K mainGlobals "FIGURES" = some (some (.str "0123456789abcdef" uFIGURES)))
    (gFILLER : PySem.W.nsIn K mainGlobals "FILLER" = some (some (.str "a" uFILLER)))
    (gMOST_BODY : PySem.W.nsIn K mainGlobals "MOST_BODY" = some (some (.int 4 uMOST_BODY)))
    (gMOST_NAME : PySem.W.nsIn K mainGlobals "MOST_NAME" = some (some (.int 1 uMOST_NAME)))
    (gMOST_VALUE : PySem.W.nsIn K mainGlobals "MOST_VALUE" = some (some (.int 2 uMOST_VALUE)))
    (gROW_END : PySem.W.nsIn K mainGlobals "ROW_END" = some (some (.str ";\n" uROW_END)))
    (zany : PySem.W.nsIn K mainGlobals "any" = some none)
    (zlen : PySem.W.nsIn K mainGlobals "len" = some none)
    (zrange : PySem.W.nsIn K mainGlobals "range" = some none)
    (zstr : PySem.W.nsIn K mainGlobals "str" = some none)
    (ztuple : PySem.W.nsIn K mainGlobals "tuple" = some none) : Nonempty (TX K mg) := ⟨{
  k_Mark := ⟨CMark, aCMark, PySem.W.mg_of X G aCMark, ⟨pgMark, hdMark, poMark, saMark⟩⟩
  k_Exact := ⟨CExact, aCExact, PySem.W.mg_of X G aCExact, ⟨pgExact, hdExact, poExact, saExact⟩⟩
  k_RowEnd := ⟨CRowEnd, aCRowEnd, PySem.W.mg_of X G aCRowEnd, ⟨pgRowEnd, hdRowEnd, poRowEnd, saRowEnd⟩⟩
  k_Number := ⟨CNumber, aCNumber, PySem.W.mg_of X G aCNumber, ⟨pgNumber, hdNumber, poNumber, saNumber⟩⟩
  k_Value := ⟨CValue, aCValue, PySem.W.mg_of X G aCValue, ⟨pgValue, hdValue, poValue, saValue⟩⟩
  k_Name := ⟨CName, aCName, PySem.W.mg_of X G aCName, ⟨pgName, hdName, poName, saName⟩⟩
  k_Closed := ⟨CClosed, aCClosed, PySem.W.mg_of X G aCClosed, ⟨pgClosed, hdClosed, poClosed, saClosed⟩⟩
  k_FieldRow := ⟨CFieldRow, aCFieldRow, PySem.W.mg_of X G aCFieldRow, ⟨pgFieldRow, hdFieldRow, poFieldRow, saFieldRow⟩⟩
  k_Fields := ⟨CFields, aCFields, PySem.W.mg_of X G aCFields, ⟨pgFields, hdFields, poFields, saFields⟩⟩
  x_is_small := ⟨f1, _, _, fn_mk l1 c1 k1, fun _ => rfl, PySem.W.mg_of X G a1, kAt0 ((fn_mk (st := (top 7)) l1 c1 k1).binds (ps := ["sign"]) fun _ _ _ _ _ _ => nAt1 fun _ => rfl)⟩
  x_is_plain := ⟨f2, _, _, fn_mk l2 c2 k2, fun _ => rfl, PySem.W.mg_of X G a2, kAt0 ((fn_mk (st := (top 8)) l2 c2 k2).binds (ps := ["sign"]) fun _ _ _ _ _ _ => nAt1 fun _ => rfl)⟩
  x_Mark_init := ⟨f3, _, fn_mk l3 c3 k3, (fn_mk (st := (mth 11 0)) l3 c3 k3).binds (ps := ["self"]) fun _ _ _ _ _ _ => nAt1 fun _ => rfl⟩
  x_Mark_fed := ⟨f4, _, fn_mk l4 c4 k4, (fn_mk (st := (mth 11 1)) l4 c4 k4).binds (ps := ["self", "sign"]) fun _ _ _ _ _ _ => nAt2 fun _ _ => rfl⟩
  x_Mark_told := ⟨f5, _, fn_mk l5 c5 k5, (fn_mk (st := (mth 11 3)) l5 c5 k5).binds (ps := ["self"]) fun _ _ _ _ _ _ => nAt1 fun _ => rfl⟩
  x_Exact_init := ⟨f6, _, fn_mk l6 c6 k6, (fn_mk (st := (mth 12 0)) l6 c6 k6).binds (ps := ["self", "text"]) fun _ _ _ _ _ _ => nAt2 fun _ _ => rfl⟩
  x_Exact_takes := ⟨f7, _, fn_mk l7 c7 k7, (fn_mk (st := (mth 12 1)) l7 c7 k7).binds (ps := ["self", "sign"]) fun _ _ _ _ _ _ => nAt2 fun _ _ => rfl⟩
  x_Exact_good := ⟨f8, _, fn_mk l8 c8 k8, (fn_mk (st := (mth 12 2)) l8 c8 k8).binds (ps := ["self"]) fun _ _ _ _ _ _ => nAt1 fun _ => rfl⟩
  x_Exact_awaited := ⟨f9, _, fn_mk l9 c9 k9, (fn_mk (st := (mth 12 3)) l9 c9 k9).binds (ps := ["self"]) fun _ _ _ _ _ _ => nAt1 fun _ => rfl⟩
  x_RowEnd_init := ⟨f10, _, fn_mk l10 c10 k10, (fn_mk (st := (mth 13 0)) l10 c10 k10).binds (ps := ["self"]) fun _ _ _ _ _ _ => nAt1 fun _ => rfl⟩
  x_Number_init := ⟨f11, _, fn_mk l11 c11 k11, (fn_mk (st := (mth 14 0)) l11 c11 k11).binds (ps := ["self", "base", "most"]) fun _ _ _ _ _ _ => nAt3 fun _ _ _ => rfl⟩
  x_Number_takes := ⟨f12, _, fn_mk l12 c12 k12, (fn_mk (st := (mth 14 1)) l12 c12 k12).binds (ps := ["self", "sign"]) fun _ _ _ _ _ _ => nAt2 fun _ _ => rfl⟩
  x_Number_good := ⟨f13, _, fn_mk l13 c13 k13, (fn_mk (st := (mth 14 2)) l13 c13 k13).binds (ps := ["self"]) fun _ _ _ _ _ _ => nAt1 fun _ => rfl⟩
  x_Number_awaited := ⟨f14, _, fn_mk l14 c14 k14, (fn_mk (st := (mth 14 3)) l14 c14 k14).binds (ps := ["self"]) fun _ _ _ _ _ _ => nAt1 fun _ => rfl⟩
  x_Number_told := ⟨f15, _, fn_mk l15 c15 k15, (fn_mk (st := (mth 14 4)) l15 c15 k15).binds (ps := ["self"]) fun _ _ _ _ _ _ => nAt1 fun _ => rfl⟩
  x_Value_init := ⟨f16, _, fn_mk l16 c16 k16, (fn_mk (st := (mth 15 0)) l16 c16 k16).binds (ps := ["self", "most"]) fun _ _ _ _ _ _ => nAt2 fun _ _ => rfl⟩
  x_Value_takes := ⟨f17, _, fn_mk l17 c17 k17, (fn_mk (st := (mth 15 1)) l17 c17 k17).binds (ps := ["self", "sign"]) fun _ _ _ _ _ _ => nAt2 fun _ _ => rfl⟩
  x_Value_good := ⟨f18, _, fn_mk l18 c18 k18, (fn_mk (st := (mth 15 2)) l18 c18 k18).binds (ps := ["self"]) fun _ _ _ _ _ _ => nAt1 fun _ => rfl⟩
  x_Value_awaited := ⟨f19, _, fn_mk l19 c19 k19, (fn_mk (st := (mth 15 3)) l19 c19 k19).binds (ps := ["self"]) fun _ _ _ _ _ _ => nAt1 fun _ => rfl⟩
  x_Name_init := ⟨f20, _, fn_mk l20 c20 k20, (fn_mk (st := (mth 16 0)) l20 c20 k20).binds (ps := ["self", "most", "room", "ends"]) fun _ _ _ _ _ _ => nAt4 fun _ _ _ _ => rfl⟩
  x_Name_takes := ⟨f21, _, fn_mk l21 c21 k21, (fn_mk (st := (mth 16 1)) l21 c21 k21).binds (ps := ["self", "sign"]) fun _ _ _ _ _ _ => nAt2 fun _ _ => rfl⟩
  x_Name_can_grow_ordinary := ⟨f22, _, fn_mk l22 c22 k22, (fn_mk (st := (mth 16 2)) l22 c22 k22).binds (ps := ["self", "text"]) fun _ _ _ _ _ _ => nAt2 fun _ _ => rfl⟩
  x_Name_good := ⟨f23, _, fn_mk l23 c23 k23, (fn_mk (st := (mth 16 3)) l23 c23 k23).binds (ps := ["self"]) fun _ _ _ _ _ _ => nAt1 fun _ => rfl⟩
  x_Name_awaited := ⟨f24, _, fn_mk l24 c24 k24, (fn_mk (st := (mth 16 4)) l24 c24 k24).binds (ps := ["self"]) fun _ _ _ _ _ _ => nAt1 fun _ => rfl⟩
  x_Closed_init := ⟨f25, _, fn_mk l25 c25 k25, (fn_mk (st := (mth 17 0)) l25 c25 k25).binds (ps := ["self", "mark", "text"]) fun _ _ _ _ _ _ => nAt3 fun _ _ _ => rfl⟩
  x_Closed_fed := ⟨f26, _, fn_mk l26 c26 k26, (fn_mk (st := (mth 17 1)) l26 c26 k26).binds (ps := ["self", "sign"]) fun _ _ _ _ _ _ => nAt2 fun _ _ => rfl⟩
  x_Closed_good := ⟨f27, _, fn_mk l27 c27 k27, (fn_mk (st := (mth 17 2)) l27 c27 k27).binds (ps := ["self"]) fun _ _ _ _ _ _ => nAt1 fun _ => rfl⟩
  x_Closed_awaited := ⟨f28, _, fn_mk l28 c28 k28, (fn_mk (st := (mth 17 3)) l28 c28 k28).binds (ps := ["self"]) fun _ _ _ _ _ _ => nAt1 fun _ => rfl⟩
  x_Closed_told := ⟨f29, _, fn_mk l29 c29 k29, (fn_mk (st := (mth 17 4)) l29 c29 k29).binds (ps := ["self"]) fun _ _ _ _ _ _ => nAt1 fun _ => rfl⟩
  x_FieldRow_init := ⟨f30, _, fn_mk l30 c30 k30, (fn_mk (st := (mth 19 0)) l30 c30 k30).binds (ps := ["self", "book", "room", "ends"]) fun _ _ _ _ _ _ => nAt4 fun _ _ _ _ => rfl⟩
  x_FieldRow_fed := ⟨f31, _, fn_mk l31 c31 k31, (fn_mk (st := (mth 19 1)) l31 c31 k31).binds (ps := ["self", "sign"]) fun _ _ _ _ _ _ => nAt2 fun _ _ => rfl⟩
  x_FieldRow_name_to_come := ⟨f32, _, fn_mk l32 c32 k32, (fn_mk (st := (mth 19 2)) l32 c32 k32).binds (ps := ["self"]) fun _ _ _ _ _ _ => nAt1 fun _ => rfl⟩
  x_FieldRow_value_to_come := ⟨f33, _, fn_mk l33 c33 k33, (fn_mk (st := (mth 19 3)) l33 c33 k33).binds (ps := ["self"]) fun _ _ _ _ _ _ => nAt1 fun _ => rfl⟩
  x_FieldRow_end_to_come := ⟨f34, _, fn_mk l34 c34 k34, (fn_mk (st := (mth 19 4)) l34 c34 k34).binds (ps := ["self"]) fun _ _ _ _ _ _ => nAt1 fun _ => rfl⟩
  x_FieldRow_good := ⟨f35, _, fn_mk l35 c35 k35, (fn_mk (st := (mth 19 5)) l35 c35 k35).binds (ps := ["self"]) fun _ _ _ _ _ _ => nAt1 fun _ => rfl⟩
  x_FieldRow_awaited := ⟨f36, _, fn_mk l36 c36 k36, (fn_mk (st := (mth 19 6)) l36 c36 k36).binds (ps := ["self"]) fun _ _ _ _ _ _ => nAt1 fun _ => rfl⟩
  x_FieldRow_told := ⟨f37, _, fn_mk l37 c37 k37, (fn_mk (st := (mth 19 7)) l37 c37 k37).binds (ps := ["self"]) fun _ _ _ _ _ _ => nAt1 fun _ => rfl⟩
  x_Fields_init := ⟨f38, _, fn_mk l38 c38 k38, (fn_mk (st := (mth 20 0)) l38 c38 k38).binds (ps := ["self", "book", "room", "ends"]) fun _ _ _ _ _ _ => nAt4 fun _ _ _ _ => rfl⟩
  x_Fields_fed := ⟨f39, _, fn_mk l39 c39 k39, (fn_mk (st := (mth 20 1)) l39 c39 k39).binds (ps := ["self", "sign"]) fun _ _ _ _ _ _ => nAt2 fun _ _ => rfl⟩
  x_Fields_fed_row := ⟨f40, _, fn_mk l40 c40 k40, (fn_mk (st := (mth 20 2)) l40 c40 k40).binds (ps := ["self", "sign"]) fun _ _ _ _ _ _ => nAt2 fun _ _ => rfl⟩
  x_Fields_keep_row := ⟨f41, _, fn_mk l41 c41 k41, (fn_mk (st := (mth 20 3)) l41 c41 k41).binds (ps := ["self"]) fun _ _ _ _ _ _ => nAt1 fun _ => rfl⟩
  x_Fields_whole := ⟨f42, _, fn_mk l42 c42 k42, (fn_mk (st := (mth 20 4)) l42 c42 k42).binds (ps := ["self"]) fun _ _ _ _ _ _ => nAt1 fun _ => rfl⟩
  x_Fields_awaited := ⟨f43, _, fn_mk l43 c43 k43, (fn_mk (st := (mth 20 5)) l43 c43 k43).binds (ps := ["self"]) fun _ _ _ _ _ _ => nAt1 fun _ => rfl⟩
  x_Fields_told := ⟨f44, _, fn_mk l44 c44 k44, (fn_mk (st := (mth 20 6)) l44 c44 k44).binds (ps := ["self"]) fun _ _ _ _ _ _ => nAt1 fun _ => rfl⟩
  x_Fields_told_end := ⟨f45, _, fn_mk l45 c45 k45, (fn_mk (st := (mth 20 7)) l45 c45 k45).binds (ps := ["self"]) fun _ _ _ _ _ _ => nAt1 fun _ => rfl⟩
  x_Fields_room_left := ⟨f46, _, fn_mk l46 c46 k46, (fn_mk (st := (mth 20 9)) l46 c46 k46).binds (ps := ["self"]) fun _ _ _ _ _ _ => nAt1 fun _ => rfl⟩
  x__law_cell_at := ⟨f47, _, _, fn_mk l47 c47 k47, fun _ => rfl, PySem.W.mg_of X G a47, kAt0 ((fn_mk (st := (top 22)) l47 c47 k47).binds (ps := ["_law_script", "_law_k"]) fun _ _ _ _ _ _ => nAt2 fun _ _ => rfl)⟩
  x__law_stream := ⟨f48, _, _, fn_mk l48 c48 k48, fun _ => rfl, PySem.W.mg_of X G a48, kAt0 ((fn_mk (st := (top 23)) l48 c48 k48).binds (ps := ["_law_cell", "_law_many"]) fun _ _ _ _ _ _ => nAt2 fun _ _ => rfl)⟩
  x__law_sign := ⟨f49, _, _, fn_mk l49 c49 k49, fun _ => rfl, PySem.W.mg_of X G a49, kAt0 ((fn_mk (st := (top 24)) l49 c49 k49).binds (ps := ["_law_x"]) fun _ _ _ _ _ _ => nAt1 fun _ => rfl)⟩
  x__law_value := ⟨f50, _, _, fn_mk l50 c50 k50, fun _ => rfl, PySem.W.mg_of X G a50, kAt0 ((fn_mk (st := (top 25)) l50 c50 k50).binds (ps := ["_law_cell", "_law_most"]) fun _ _ _ _ _ _ => nAt2 fun _ _ => rfl)⟩
  x__law_name := ⟨f51, _, _, fn_mk l51 c51 k51, fun _ => rfl, PySem.W.mg_of X G a51, kAt0 ((fn_mk (st := (top 26)) l51 c51 k51).binds (ps := ["_law_cell", "_law_most"]) fun _ _ _ _ _ _ => nAt2 fun _ _ => rfl)⟩
  x__law_rows := ⟨f52, _, _, fn_mk l52 c52 k52, fun _ => rfl, PySem.W.mg_of X G a52, kAt0 ((fn_mk (st := (top 27)) l52 c52 k52).binds (ps := ["_law_fields_here"]) fun _ _ _ _ _ _ => nAt1 fun _ => rfl)⟩
  x__law_fields := ⟨f53, _, _, fn_mk l53 c53 k53, fun _ => rfl, PySem.W.mg_of X G a53, kAt0 ((fn_mk (st := (top 28)) l53 c53 k53).binds (ps := ["_law_cells", "_law_book"]) fun _ _ _ _ _ _ => nAt2 fun _ _ => rfl)⟩
  x_law := ⟨f54, _, _, fn_mk l54 c54 k54, fun _ => rfl, PySem.W.mg_of X G a54, kAt0 ((fn_mk (st := (top 29)) l54 c54 k54).binds (ps := ["_law_script"]) fun _ _ _ _ _ _ => nAt1 fun _ => rfl)⟩
  h_Closed_awaited := ⟨a28, i28, k28⟩
  h_Closed_fed := ⟨a26, i26, k26⟩
  h_Closed_good := ⟨a27, i27, k27⟩
  h_Closed_told := ⟨a29, i29, k29⟩
  h_Exact_awaited := ⟨a9, i9, k9⟩
  h_Exact_fed := ⟨eExact_fed, i4, k4⟩
  h_Exact_good := ⟨a8, i8, k8⟩
  h_Exact_takes := ⟨a7, i7, k7⟩
  h_Exact_told := ⟨eExact_told, i5, k5⟩
  h_FieldRow_awaited := ⟨a36, i36, k36⟩
  h_FieldRow_end_to_come := ⟨a34, i34, k34⟩
  h_FieldRow_fed := ⟨a31, i31, k31⟩
  h_FieldRow_good := ⟨a35, i35, k35⟩
  h_FieldRow_name_to_come := ⟨a32, i32, k32⟩
  h_FieldRow_told := ⟨a37, i37, k37⟩
  h_FieldRow_value_to_come := ⟨a33, i33, k33⟩
  h_Fields_awaited := ⟨a43, i43, k43⟩
  h_Fields_fed := ⟨a39, i39, k39⟩
  h_Fields_fed_row := ⟨a40, i40, k40⟩
  h_Fields_keep_row := ⟨a41, i41, k41⟩
  h_Fields_room_left := ⟨a46, i46, k46⟩
  h_Fields_told := ⟨a44, i44, k44⟩
  h_Fields_told_end := ⟨a45, i45, k45⟩
  h_Fields_whole := ⟨a42, i42, k42⟩
  h_Name_awaited := ⟨a24, i24, k24⟩
  h_Name_can_grow_ordinary := ⟨a22, i22, k22⟩
  h_Name_fed := ⟨eName_fed, i4, k4⟩
  h_Name_good := ⟨a23, i23, k23⟩
  h_Name_takes := ⟨a21, i21, k21⟩
  h_Name_told := ⟨eName_told, i5, k5⟩
  h_Number_awaited := ⟨a14, i14, k14⟩
  h_Number_fed := ⟨eNumber_fed, i4, k4⟩
  h_Number_good := ⟨a13, i13, k13⟩
  h_Number_takes := ⟨a12, i12, k12⟩
  h_Number_told := ⟨a15, i15, k15⟩
  h_RowEnd_awaited := ⟨eRowEnd_awaited, i9, k9⟩
  h_RowEnd_fed := ⟨eRowEnd_fed, i4, k4⟩
  h_RowEnd_good := ⟨eRowEnd_good, i8, k8⟩
  h_RowEnd_takes := ⟨eRowEnd_takes, i7, k7⟩
  h_Value_awaited := ⟨a19, i19, k19⟩
  h_Value_fed := ⟨eValue_fed, i4, k4⟩
  h_Value_good := ⟨a18, i18, k18⟩
  h_Value_takes := ⟨a17, i17, k17⟩
  h_Value_told := ⟨eValue_told, i5, k5⟩
  b_Exact_init := ⟨bgExact_init, brExact_init, bfExact_init, k6⟩
  b_Mark_init := ⟨bgMark_init, brMark_init, bfMark_init, k3⟩
  mk_Closed := ⟨mmClosed, a25, i25, kcClosed⟩
  mk_Exact := ⟨mmExact, a6, i6, kcExact⟩
  mk_FieldRow := ⟨mmFieldRow, a30, i30, kcFieldRow⟩
  mk_Fields := ⟨mmFields, a38, i38, kcFields⟩
  mk_Name := ⟨mmName, a20, i20, kcName⟩
  mk_Number := ⟨mmNumber, a11, i11, kcNumber⟩
  mk_RowEnd := ⟨mmRowEnd, a10, i10, kcRowEnd⟩
  mk_Value := ⟨mmValue, a16, i16, kcValue⟩
  w_base_Number := (na_cons aCNumber nNumber_base na_nil)
  w_book_FieldRow := (na_cons aCFieldRow nFieldRow_book na_nil)
  w_book_Fields := (na_cons aCFields nFields_book na_nil)
  w_closing_Closed := (na_cons aCClosed nClosed_closing na_nil)
  w_empty_row_Fields := (na_cons aCFields nFields_empty_row na_nil)
  w_end_Fields := (na_cons aCFields nFields_end na_nil)
  w_ends_FieldRow := (na_cons aCFieldRow nFieldRow_ends na_nil)
  w_ends_Fields := (na_cons aCFields nFields_ends na_nil)
  w_ends_Name := (na_cons aCName nName_ends na_nil)
  w_goal_Exact_RowEnd := (na_cons aCExact nExact_goal (na_cons aCRowEnd nRowEnd_goal na_nil))
  w_head_FieldRow := (na_cons aCFieldRow nFieldRow_head na_nil)
  w_is_closing_Closed := (na_cons aCClosed nClosed_is_closing na_nil)
  w_mark_Closed := (na_cons aCClosed nClosed_mark na_nil)
  w_most_Name := (na_cons aCName nName_most na_nil)
  w_most_Number := (na_cons aCNumber nNumber_most na_nil)
  w_most_Value := (na_cons aCValue nValue_most na_nil)
  w_name_FieldRow := (na_cons aCFieldRow nFieldRow_name na_nil)
  w_pairs_Fields := (na_cons aCFields nFields_pairs na_nil)
  w_room_Fields := (na_cons aCFields nFields_room na_nil)
  w_room_Name := (na_cons aCName nName_room na_nil)
  w_row_Fields := (na_cons aCFields nFields_row na_nil)
  w_text_Exact_RowEnd_Number_Value_Name := (na_cons aCExact nExact_text (na_cons aCRowEnd nRowEnd_text (na_cons aCNumber nNumber_text (na_cons aCValue nValue_text (na_cons aCName nName_text na_nil)))))
  w_value_FieldRow := (na_cons aCFieldRow nFieldRow_value na_nil)
  a_END_NAMES := AEND_NAMES
  m_END_NAMES := PySem.W.mg_of X G gEND_NAMES
  r_END_NAMES := fun em H => by
      simp only [c_END_NAMES, Rp]
      exact ⟨AEND_NAMES, [.str "length", .str "pieces", .str "parts", .str "rest"], rfl, .inr ⟨_, _, _, hEND_NAMES, rfl, rfl, (by show 4 ≤ sizeLine; decide), (.cons ⟨_, rfl⟩ (.cons ⟨_, rfl⟩ (.cons ⟨_, rfl⟩ (.cons ⟨_, rfl⟩ .nil))))⟩, (RpL.cons (by simp only [Rp] <;> exact congrArg V.str (by decide +kernel)) (RpL.cons (by simp only [Rp] <;> exact congrArg V.str (by decide +kernel)) (RpL.cons (by simp only [Rp] <;> exact congrArg V.str (by decide +kernel)) (RpL.cons (by simp only [Rp] <;> exact congrArg V.str (by decide +kernel)) RpL.nil))))⟩
  s_FIGURES := _
  t_FIGURES := _
  m_FIGURES := PySem.W.mg_of X G gFIGURES
  r_FIGURES := fun em H => by
      simp only [c_FIGURES, Rp]
      exact congrArg V.str (by decide +kernel)
  s_FILLER := _
  t_FILLER := _
  m_FILLER := PySem.W.mg_of X G gFILLER
  r_FILLER := fun em H => by
      simp only [c_FILLER, Rp]
      exact congrArg V.str (by decide +kernel)
  t_MOST_BODY := _
  m_MOST_BODY := PySem.W.mg_of X G gMOST_BODY
  r_MOST_BODY := fun em H => by simp only [c_MOST_BODY, Rp]
  t_MOST_NAME := _
  m_MOST_NAME := PySem.W.mg_of X G gMOST_NAME
  r_MOST_NAME := fun em H => by simp only [c_MOST_NAME, Rp]
  t_MOST_VALUE := _
  m_MOST_VALUE := PySem.W.mg_of X G gMOST_VALUE
  r_MOST_VALUE := fun em H => by simp only [c_MOST_VALUE, Rp]
  s_ROW_END := _
  t_ROW_END := _
  m_ROW_END := PySem.W.mg_of X G gROW_END
  r_ROW_END := fun em H => by
      simp only [c_ROW_END, Rp]
      exact congrArg V.str (by decide +kernel)
  z_any := PySem.W.mg_none_of X G zany
  z_len := PySem.W.mg_none_of X G zlen
  z_range := PySem.W.mg_none_of X G zrange
  z_str := PySem.W.mg_none_of X G zstr
  z_tuple := PySem.W.mg_none_of X G ztuple
  }⟩
end My

set_option Elab.async false
set_option linter.all false
set_option maxRecDepth 100000
set_option maxHeartbeats 4000000
namespace AL
open PySem PySem.Spec PyProof.Rows L2
theorem Rs.bd_congr {α β : Type} {r r' : Rs α} {k : α → Mu → Rs β} (h : r = r') : r.bd k = r'.bd k := by rw [h]
noncomputable def sq (r : Rs Fl) (g : FS) : Rs Fl := match r with
  | .ok (.nx ρ1) μ1 => g ρ1 μ1
  | r => r
theorem sq_congr {r r' : Rs Fl} {g : FS} (h : r = r') : sq r g = sq r' g := by rw [h]
@[simp] theorem sq_nx (ρ : Ev) (μ : Mu) (g : FS) : sq (.ok (.nx ρ) μ) g = g ρ μ := rfl
@[simp] theorem sq_rt (d : AV) (μ : Mu) (g : FS) : sq (.ok (.rt d) μ) g = .ok (.rt d) μ := rfl
@[simp] theorem sq_no (g : FS) : sq .no g = .no := rfl
noncomputable def ifS (r : Rs Bool) (f g : FS) (ρ : Ev) : Rs Fl := r.bd fun k μ1 => if k then f ρ μ1 else g ρ μ1
theorem ifS_congr {r r' : Rs Bool} {f g : FS} {ρ : Ev} (h : r = r') : ifS r f g ρ = ifS r' f g ρ := by rw [h]
@[simp] theorem ifS_ok (k : Bool) (f g : FS) (ρ : Ev) (μ : Mu) : ifS (.ok k μ) f g ρ = if k then f ρ μ else g ρ μ := rfl
@[simp] theorem ifS_no (f g : FS) (ρ : Ev) : ifS .no f g ρ = .no := rfl
section
variable {ρ : Ev} {μ : Mu} {fa fb fc fe f : FE} {fl : FL} {ta tb : FB} {a b : AV}
@[simp] theorem e_var (i : Nat) : fVar i ρ μ = (match ρ[i]? with | some (some d) => .ok d μ | _ => .no) := rfl
@[simp] theorem e_c (d : AV) : fC d ρ μ = .ok d μ := rfl
@[simp] theorem e_op (g) : fOp g fa fb ρ μ = (fa ρ μ).bd fun x μ1 => (fb ρ μ1).bd fun y μ2 => g x y μ2 := rfl
@[simp] theorem e_T : fT fa ρ μ = (fa ρ μ).bd toB := rfl
@[simp] theorem e_toB (k : Bool) : toB (.bl k) μ = .ok k μ := rfl
@[simp] theorem e_chain (g g') : fChain g g' fa fb fc ρ μ = (fa ρ μ).bd fun x μ1 => (fb ρ μ1).bd fun y μ2 => (g x y μ2).bd fun z μ3 => match z with
  | .bl k => if k then (fc ρ μ3).bd fun w μ4 => g' y w μ4 else .ok (.bl false) μ3
  | _ => .no := rfl
@[simp] theorem e_and : fAnd fa fb ρ μ = (fa ρ μ).bd fun x μ1 => match x with
  | .bl k => if k then fb ρ μ1 else .ok (.bl false) μ1
  | _ => .no := rfl
@[simp] theorem e_or : fOr fa fb ρ μ = (fa ρ μ).bd fun x μ1 => match x with
  | .bl k => if k then .ok (.bl true) μ1 else fb ρ μ1
  | _ => .no := rfl
@[simp] theorem e_notV : fNotV fa ρ μ = (fa ρ μ).bd fun x μ1 => match x with
  | .bl k => .ok (.bl (!k)) μ1
  | _ => .no := rfl
@[simp] theorem e_andB : fAndB ta tb ρ μ = (ta ρ μ).bd fun k μ1 => if k then tb ρ μ1 else .ok false μ1 := rfl
@[simp] theorem e_orB : fOrB ta tb ρ μ = (ta ρ μ).bd fun k μ1 => if k then .ok true μ1 else tb ρ μ1 := rfl
@[simp] theorem e_notB : fNotB ta ρ μ = (ta ρ μ).bd fun k μ1 => .ok (!k) μ1 := rfl
@[simp] theorem e_ifE : fIfE ta fa fb ρ μ = (ta ρ μ).bd fun k μ1 => if k then fa ρ μ1 else fb ρ μ1 := rfl
@[simp] theorem e_tru : fTru fa ρ μ = (fa ρ μ).bd truA := rfl
@[simp] theorem e_nilL : fNilL ρ μ = .ok [] μ := rfl
@[simp] theorem e_consL : fConsL f fl ρ μ = (f ρ μ).bd fun d μ1 => (fl ρ μ1).bd fun ds μ2 => .ok (d :: ds) μ2 := rfl
@[simp] theorem e_tup : fTup fl ρ μ = (fl ρ μ).bd fun ds μ1 => if ds.length ≤ LIM then .ok (.tup ds) μ1 else .no := rfl
@[simp] theorem e_lst : fLst fl ρ μ = (fl ρ μ).bd fun ds μ1 => if ds.length ≤ LIM then .ok (.loc μ1.length) (μ1 ++ [.lst ds]) else .no := rfl
@[simp] theorem e_noPart : fNoPart ρ μ = .ok none μ := rfl
@[simp] theorem e_part : fPart f ρ μ = (f ρ μ).bd fun d μ1 => match d with
  | .int i => .ok (some i) μ1
  | _ => .no := rfl
@[simp] theorem e_sl (g) (lo hi : FO) : fSl g fe lo hi ρ μ = (fe ρ μ).bd fun d μ1 => (lo ρ μ1).bd fun l μ2 => (hi ρ μ2).bd fun h μ3 => g d l h μ3 := rfl
@[simp] theorem e_CB (g) : fCB g fl ρ μ = (fl ρ μ).bd g := rfl
@[simp] theorem e_BM (T g) : fBM T g fe fl ρ μ = (fe ρ μ).bd fun d μ1 => if isT T d μ1 = true then (fl ρ μ1).bd fun ds μ2 => g d ds μ2 else .no := rfl
@[simp] theorem e_call (n F dfl) : fCall n F dfl fl ρ μ = (fl ρ μ).bd fun ds μ1 => if ds.length + dfl.length = n then F (ds ++ dfl) μ1 else .no := rfl
@[simp] theorem e_neg : fNeg fa ρ μ = (fa ρ μ).bd negA := rfl
@[simp] theorem e_negA (i : Int) : negA (.int i) μ = .ok (.int (-i)) μ := rfl
@[simp] theorem e_nx : fNx ρ μ = .ok (.nx ρ) μ := rfl
@[simp] theorem e_seq (f g : FS) : fSeq f g ρ μ = sq (f ρ μ) g := rfl
@[simp] theorem e_ret : fRet f ρ μ = (f ρ μ).bd fun d μ1 => .ok (.rt d) μ1 := rfl
@[simp] theorem e_drop : fDrop f ρ μ = (f ρ μ).bd fun _ μ1 => .ok (.nx ρ) μ1 := rfl
@[simp] theorem e_if (fc : FB) (f g : FS) : fIf fc f g ρ μ = ifS (fc ρ μ) f g ρ := rfl
@[simp] theorem e_nm (i : Nat) (d : AV) : gNm i d ρ μ = .ok (ρ.set i (some d)) μ := rfl
@[simp] theorem e_gsNil : gsNil [] ρ μ = .ok ρ μ := rfl
@[simp] theorem e_gsCons (g gs) (d : AV) (r : List AV) : gsCons g gs (d :: r) ρ μ = (g d ρ μ).bd fun ρ1 μ1 => gs r ρ1 μ1 := rfl
@[simp] theorem e_gTp (n gs) (ds : List AV) : gTp n gs (.tup ds) ρ μ = if ds.length = n then gs ds ρ μ else .no := rfl
@[simp] theorem e_asg (g) : fAsg f g ρ μ = (f ρ μ).bd fun d μ1 => (g d ρ μ1).bd fun ρ1 μ2 => .ok (.nx ρ1) μ2 := rfl
@[simp] theorem e_no : fNo ρ μ = .no := rfl
@[simp] theorem e_yes : fYes ρ μ = .ok true μ := rfl
@[simp] theorem e_gSub (fo fi : FE) (d : AV) : gSubA fo fi d ρ μ = (fo ρ μ).bd fun o μ1 => (fi ρ μ1).bd fun i μ2 => (setA o i d μ2).bd fun _ μ3 => .ok ρ μ3 := rfl
@[simp] theorem e_for (n fi g fb) : fFor n fi g fb ρ μ = (fi ρ μ).bd fun it μ1 => forN n it 0 g fb ρ μ1 := rfl
@[simp] theorem e_body (n N) (f : FS) (ds : List AV) : fBody n N f ds μ = (match f (startE N ds) μ with
  | .ok (.rt d) μ' => .ok d μ'
  | .ok (.nx _) μ' => .ok .non μ'
  | .exc C fs μ' => .exc C fs μ'
  | _ => .no) := rfl
@[simp] theorem e_BG (n N) (f : FS) (ds : List AV) : fBG n N f ds μ = gcR μ (fBody n N f ds μ) := rfl
@[simp] theorem e_gc (d : AV) : gcR μ (.ok d μ) = .ok d μ := gcR_eq
@[simp] theorem e_start (N : List Str) (ds : List AV) : startE N ds = ds.map some ++ List.replicate (N.length - ds.length) none := rfl
@[simp] theorem v_int (C h) (i j : Int) : iA C h (.int i) (.int j) μ = if C i j = true then .ok (.int (h i j)) μ else .no := rfl
@[simp] theorem v_addi (i j : Int) : addG (.int i) (.int j) μ = .ok (.int (i + j)) μ := rfl
@[simp] theorem v_adds (x y : List Nat) : addG (.str x) (.str y) μ = if x.length + y.length ≤ LIM then .ok (.str (x ++ y)) μ else .no := rfl
@[simp] theorem v_addt (x y : List AV) : addG (.tup x) (.tup y) μ = if x.length + y.length ≤ LIM then .ok (.tup (x ++ y)) μ else .no := rfl
@[simp] theorem v_addl (i j : Nat) : addG (.loc i) (.loc j) μ = (match lstAt μ i, lstAt μ j with
    | some x, some y => if x.length + y.length ≤ LIM then .ok (.loc μ.length) (μ ++ [.lst (x ++ y)]) else .no
    | _, _ => .no) := rfl
@[simp] theorem v_cmpi (hi hs) (i j : Int) : cA hi hs (.int i) (.int j) μ = .ok (.bl (hi i j)) μ := rfl
@[simp] theorem v_cmps (hi hs) (x y : List Nat) : cA hi hs (.str x) (.str y) μ = .ok (.bl (hs x y)) μ := rfl
@[simp] theorem v_eqi (n : Bool) (i j : Int) : eqA n (.int i) (.int j) μ = .ok (.bl (if n then !(i == j) else i == j)) μ := rfl
@[simp] theorem v_eqs (n : Bool) (x y : List Nat) : eqA n (.str x) (.str y) μ = .ok (.bl (if n then !(x == y) else x == y)) μ := rfl
@[simp] theorem v_eqb (n : Bool) (x y : Bool) : eqA n (.bl x) (.bl y) μ = .ok (.bl (if n then !(x == y) else x == y)) μ := rfl
@[simp] theorem v_is (n : Bool) : isA n a b μ = (match sameA a b with
  | some k => .ok (.bl (if n then !k else k)) μ
  | none => .no) := rfl
@[simp] theorem v_sameN : sameA a .non = some (match a with | .non => true | _ => false) := rfl
@[simp] theorem v_sameB (y : Bool) : sameA a (.bl y) = some (match a with | .bl x => x == y | _ => false) := rfl
@[simp] theorem v_seqT (ds : List AV) : seqOf μ (.tup ds) = some ds := rfl
@[simp] theorem v_seqL (i : Nat) : seqOf μ (.loc i) = lstAt μ i := rfl
@[simp] theorem v_ixT (ds : List AV) (k : Int) : ixA (.tup ds) (.int k) μ = (match L2.atI ds k with
    | some d => .ok d μ
    | none => .no) := rfl
@[simp] theorem v_ixS (x : List Nat) (k : Int) : ixA (.str x) (.int k) μ = if x.length ≤ LIM then (match L2.atI x k with
      | some c => .ok (.str [c]) μ
      | none => .no) else .no := rfl
@[simp] theorem v_ixL (i : Nat) (k : Int) : ixA (.loc i) (.int k) μ = (match lstAt μ i with
    | some ds => (match L2.atI ds k with
      | some d => .ok d μ
      | none => .no)
    | none => .no) := rfl
@[simp] theorem v_slS (x : List Nat) (lo hi : Option Int) : slG (.str x) lo hi μ = if x.length ≤ LIM then .ok (.str (cutL x lo hi)) μ else .no := rfl
@[simp] theorem v_slT (x : List AV) (lo hi : Option Int) : slG (.tup x) lo hi μ = .ok (.tup (cutL x lo hi)) μ := rfl
@[simp] theorem v_slL (i : Nat) (lo hi : Option Int) : slG (.loc i) lo hi μ = (match lstAt μ i with
    | some ds => .ok (.loc μ.length) (μ ++ [.lst (cutL ds lo hi)])
    | none => .no) := rfl
@[simp] theorem v_lenS (x : List Nat) : lenA [.str x] μ = if x.length ≤ LIM then .ok (.int x.length) μ else .no := rfl
@[simp] theorem v_lenT (x : List AV) : lenA [.tup x] μ = .ok (.int x.length) μ := rfl
@[simp] theorem v_lenL (i : Nat) : lenA [.loc i] μ = (match lstAt μ i with
    | some ds => .ok (.int ds.length) μ
    | none => .no) := rfl
@[simp] theorem v_truB (k : Bool) : truA (.bl k) μ = .ok k μ := rfl
@[simp] theorem v_truL (i : Nat) : truA (.loc i) μ = (match lstAt μ i with
    | some ds => .ok (!ds.isEmpty) μ
    | none => .no) := rfl
@[simp] theorem v_list (d : AV) : listA [d] μ = (match seqOf μ d with
    | some xs => .ok (.loc μ.length) (μ ++ [.lst xs])
    | none => .no) := rfl
@[simp] theorem v_tuple (d : AV) : tupA [d] μ = (match seqOf μ d with
    | some xs => .ok (.tup xs) μ
    | none => .no) := rfl
@[simp] theorem v_min (i j : Int) : minA [.int i, .int j] μ = .ok (.int (if j < i then j else i)) μ := rfl
@[simp] theorem v_max (i j : Int) : maxA [.int i, .int j] μ = .ok (.int (if j > i then j else i)) μ := rfl
@[simp] theorem v_intB (k : Bool) : intA [.bl k] μ = .ok (.int (if k then 1 else 0)) μ := rfl
@[simp] theorem v_intI (i : Int) : intA [.int i] μ = .ok (.int i) μ := rfl
@[simp] theorem v_all (d : AV) : allA [d] μ = (match (seqOf μ d).bind boolsOf with
    | some bs => .ok (.bl (bs.all fun b => b)) μ
    | none => .no) := rfl
@[simp] theorem v_any (d : AV) : anyA [d] μ = (match (seqOf μ d).bind boolsOf with
    | some bs => .ok (.bl (bs.any fun b => b)) μ
    | none => .no) := rfl
@[simp] theorem v_sum (d : AV) : sumA [d] μ = (match (seqOf μ d).bind intsOf with
    | some ns => .ok (.int ns.sum) μ
    | none => .no) := rfl
@[simp] theorem v_str (i : Int) : strA [.int i] μ = if sm 1900 i = true then .ok (.str (decL i)) μ else .no := rfl
@[simp] theorem v_isTs (x : List Nat) : isT "str" (.str x) μ = true := rfl
@[simp] theorem v_isTl (i : Nat) : isT "list" (.loc i) μ = (lstAt μ i).isSome := by simp [isT]
@[simp] theorem v_join (sep : List Nat) (l : AV) : joinA (.str sep) [l] μ = (match (seqOf μ l).bind strsOf with
    | some ys => if (ys.map (·.length)).sum + ys.length * sep.length ≤ LIM then .ok (.str (joinL sep ys)) μ else .no
    | none => .no) := rfl
@[simp] theorem v_in (n : Bool) (ds : List AV) : inG n a (.tup ds) μ = if (flatA a && ds.all flatA) = true then .ok (.bl (if n then !(ds.any fun y => eqF y a) else ds.any fun y => eqF y a)) μ else .no := rfl
@[simp] theorem v_flat (x : List Nat) : flatA (.str x) = true := rfl
@[simp] theorem v_eqF (x y : List Nat) : eqF (.str x) (.str y) = (x == y) := rfl
@[simp] theorem v_append (i : Nat) (y : AV) : appendA (.loc i) [y] μ = (match μ[i]? with
    | some (.lst xs) => if xs.length < LIM then .ok .non (μ.set i (.lst (xs ++ [y]))) else .no
    | _ => .no) := rfl
@[simp] theorem v_extend (i : Nat) (y : AV) : extendA (.loc i) [y] μ = (match μ[i]?, seqOf μ y with
    | some (.lst xs), some ys => if xs.length + ys.length ≤ LIM then .ok .non (μ.set i (.lst (xs ++ ys))) else .no
    | _, _ => .no) := rfl
@[simp] theorem v_set (j : Nat) (k : Int) (v : AV) : setA (.loc j) (.int k) v μ = (match μ[j]? with
    | some (.lst xs) => (match ixN xs.length k with
      | some m => .ok () (μ.set j (.lst (xs.set m v)))
      | none => .no)
    | _ => .no) := rfl
@[simp] theorem lstAt_app (xs : List AV) (t : Mu) : lstAt (μ ++ .lst xs :: t) μ.length = some xs := by simp [lstAt]
theorem lstAt_add (t : Mu) (k : Nat) : lstAt (μ ++ t) (μ.length + k) = lstAt t k := by
  unfold lstAt
  rw [List.getElem?_append_right (by omega), Nat.add_sub_cancel_left]
@[simp] theorem lstAt_a1 (a : AO) (xs : List AV) (t : Mu) : lstAt (μ ++ a :: .lst xs :: t) (μ.length + 1) = some xs := lstAt_add _ 1
@[simp] theorem lstAt_a2 (a b : AO) (xs : List AV) (t : Mu) : lstAt (μ ++ a :: b :: .lst xs :: t) (μ.length + 1 + 1) = some xs := lstAt_add _ 2
@[simp] theorem lstAt_a2' (a b : AO) (xs : List AV) (t : Mu) : lstAt (μ ++ a :: b :: .lst xs :: t) (μ.length + 2) = some xs := lstAt_add _ 2
@[simp] theorem lstAt_a3 (a b c : AO) (xs : List AV) (t : Mu) : lstAt (μ ++ a :: b :: c :: .lst xs :: t) (μ.length + 3) = some xs := lstAt_add _ 3
theorem any_strs (x : List Nat) : ∀ ts : List (List Nat), ((ts.map AV.str).any fun y => eqF y (.str x)) = decide (x ∈ ts)
  | [] => rfl
  | t :: ts => by
    rw [List.map_cons, List.any_cons, any_strs x ts, v_eqF]
    by_cases h : t = x
    · subst h; simp
    · have h' : ¬ x = t := fun e => h e.symm
      simp [h, h']
@[simp high] theorem v_inS (n : Bool) (x : List Nat) (ts : List (List Nat)) : inG n (.str x) (.tup (ts.map AV.str)) μ = .ok (.bl (if n then !decide (x ∈ ts) else decide (x ∈ ts))) μ := by
  rw [v_in, any_strs]
  simp
@[simp] theorem bdd_int (n : Nat) (i : Int) : bdd n (.int i) = true := rfl
@[simp] theorem bdd_str (n : Nat) (x : List Nat) : bdd n (.str x) = true := rfl
@[simp] theorem bdd_bl (n : Nat) (k : Bool) : bdd n (.bl k) = true := rfl
@[simp] theorem bdd_non (n : Nat) : bdd n .non = true := rfl
@[simp] theorem bdd_tup (n : Nat) (ds : List AV) : bdd n (.tup ds) = bddL n ds := by simp [bdd]
@[simp] theorem bddL_nil (n : Nat) : bddL n [] = true := rfl
@[simp] theorem bddL_cons (n : Nat) (d : AV) (ds : List AV) : bddL n (d :: ds) = (bdd n d && bddL n ds) := rfl
theorem bddL_map (n : Nat) {α : Type} (f : α → AV) (h : ∀ x, bdd n (f x) = true) : ∀ xs : List α, bddL n (xs.map f) = true
  | [] => rfl
  | x :: xs => by simp [h x, bddL_map n f h xs]
@[simp] theorem e_gcB {t : Mu} (k : Bool) : gcR μ (.ok (.bl k) (μ ++ t)) = .ok (.bl k) μ := gcR_app rfl
@[simp] theorem e_gcI {t : Mu} (k : Int) : gcR μ (.ok (.int k) (μ ++ t)) = .ok (.int k) μ := gcR_app rfl
@[simp] theorem e_gcS {t : Mu} (k : List Nat) : gcR μ (.ok (.str k) (μ ++ t)) = .ok (.str k) μ := gcR_app rfl
@[simp] theorem e_gcN {t : Mu} : gcR μ (.ok .non (μ ++ t)) = .ok .non μ := gcR_app rfl
@[simp] theorem id_cm {α : Type} (p : α → Bool) : (fun b => b) ∘ p = p := rfl
theorem e_gcA {t : Mu} {d : AV} (h : bdd μ.length d = true) : gcR μ (.ok d (μ ++ t)) = .ok d μ := gcR_app h
theorem at_nat {α : Type} (xs : List α) (n : Nat) : L2.atI xs (n : Int) = xs[n]? := by
  unfold L2.atI ixN
  rw [if_pos (by omega)]
  by_cases h : n < xs.length
  · rw [if_pos (by omega)]; simp
  · rw [if_neg (by omega)]; simp; omega
@[simp] theorem at_0 {α : Type} (xs : List α) : L2.atI xs 0 = xs[0]? := at_nat xs 0
@[simp] theorem at_1 {α : Type} (xs : List α) : L2.atI xs 1 = xs[1]? := at_nat xs 1
@[simp] theorem at_2 {α : Type} (xs : List α) : L2.atI xs 2 = xs[2]? := at_nat xs 2
@[simp] theorem at_3 {α : Type} (xs : List α) : L2.atI xs 3 = xs[3]? := at_nat xs 3
@[simp] theorem at_4 {α : Type} (xs : List α) : L2.atI xs 4 = xs[4]? := at_nat xs 4
@[simp] theorem at_5 {α : Type} (xs : List α) : L2.atI xs 5 = xs[5]? := at_nat xs 5
@[simp] theorem at_6 {α : Type} (xs : List α) : L2.atI xs 6 = xs[6]? := at_nat xs 6
@[simp] theorem at_last {α : Type} (xs : List α) : L2.atI xs (-1) = xs[xs.length - 1]? := by
  unfold L2.atI ixN
  rw [if_neg (by omega)]
  cases xs with
  | nil => rfl
  | cons x xs =>
    rw [if_pos (by simp; omega)]
    have : (-1 + ((x :: xs).length : Int)).toNat = (x :: xs).length - 1 := by simp; omega
    simp only [this, Option.bind_some]
theorem compM_go {α : Type} (enc f : α → AV) (g : FG) (fe : FE) (I : Ev → Prop) (all : List α) (j : Nat) :
    ∀ (as pre : List α) (n : Nat) (ρ : Ev) (μ : Mu) (xs : List AV), all = pre ++ as → (∀ a ∈ as, ∀ ρ, I ρ → ∀ μ, ∃ ρ1, g (enc a) ρ μ = .ok ρ1 μ ∧ I ρ1 ∧ fe ρ1 μ = .ok (f a) μ) → I ρ → as.length < n → μ[j]? = some (.lst xs) → xs.length + as.length ≤ LIM →
      compN n (.s (all.map enc)) pre.length j g fYes fe ρ μ = .ok (.loc j) (μ.set j (.lst (xs ++ as.map f)))
  | [], pre, n + 1, ρ, μ, xs, ha, h, hI, hn, hj, hl => by
    have e : (AIt.s (all.map enc)).get μ pre.length = some none := by
      show some ((all.map enc)[pre.length]?) = _
      rw [ha]
      simp
    have hs : μ.set j (.lst xs) = μ := by
      apply List.ext_getElem?
      intro i
      by_cases hij : j = i
      · subst hij
        have hlt : j < μ.length := (List.getElem?_eq_some_iff.mp hj).1
        rw [List.getElem?_set_self hlt, hj]
      · rw [List.getElem?_set_ne hij]
    unfold compN
    simp only [e, List.map_nil, List.append_nil, hs]
  | d :: ds, pre, n + 1, ρ, μ, xs, ha, h, hI, hn, hj, hl => by
    have e : (AIt.s (all.map enc)).get μ pre.length = some (some (enc d)) := by
      show some ((all.map enc)[pre.length]?) = _
      rw [ha]
      simp
    obtain ⟨ρ1, h1, h2, h3⟩ := h d List.mem_cons_self ρ hI μ
    have hlt : j < μ.length := (List.getElem?_eq_some_iff.mp hj).1
    have hp : pushA j (f d) μ = .ok () (μ.set j (.lst (xs ++ [f d]))) := by
      unfold pushA
      simp only [hj]
      rw [if_pos (by simp at hl; omega)]
    have ih := compM_go enc f g fe I all j ds (pre ++ [d]) n ρ1 (μ.set j (.lst (xs ++ [f d]))) (xs ++ [f d]) (by rw [ha]; simp) (fun d' hd' => h d' (List.mem_cons_of_mem _ hd')) h2 (by simp at hn; omega) (List.getElem?_set_self hlt) (by simp at hl ⊢; omega)
    unfold compN
    simp only [e, h1, Rs.bd_ok, e_yes, if_true, h3, hp]
    rw [List.length_append] at ih
    simp only [List.length_cons, List.length_nil, Nat.zero_add] at ih
    rw [ih]
    simp [List.set_set]
theorem e_compM {α : Type} {n : Nat} {caps : List (Option Nat)} {fi : FI} {g : FG} {fe : FE} {ρ : Ev} {μ μ1 : Mu} (as : List α) (enc f : α → AV) (I : Ev → Prop) (hi : fi ρ μ = .ok (.s (as.map enc)) μ1) (hI : I (capE ρ caps))
    (h : ∀ a ∈ as, ∀ ρ, I ρ → ∀ μ, ∃ ρ1, g (enc a) ρ μ = .ok ρ1 μ ∧ I ρ1 ∧ fe ρ1 μ = .ok (f a) μ) (hn : as.length < n) (hl : as.length ≤ LIM) : fComp n caps fi g fYes fe ρ μ = .ok (.loc μ1.length) (μ1 ++ [.lst (as.map f)]) := by
  unfold fComp
  rw [hi]
  have := compM_go enc f g fe I as μ1.length as [] n (capE ρ caps) (μ1 ++ [.lst []]) [] rfl h hI hn (by simp) (by simpa using hl)
  simp only [Rs.bd_ok]
  simp only [List.length_nil, List.nil_append] at this
  rw [this]
  congr 1
  rw [List.set_append_right _ _ (Nat.le_refl _)]
  simp
theorem e_comp1 {α : Type} {n : Nat} {caps : List (Option Nat)} {fi : FI} {fe : FE} {ρ : Ev} {μ μ1 : Mu} {rest : Ev} (as : List α) (enc f : α → AV) (hi : fi ρ μ = .ok (.s (as.map enc)) μ1) (hI : capE ρ caps = none :: rest)
    (h : ∀ a ∈ as, ∀ μ, fe (some (enc a) :: rest) μ = .ok (f a) μ) (hn : as.length < n) (hl : as.length ≤ 16777216) : fComp n caps fi (gNm 0) fYes fe ρ μ = .ok (.loc μ1.length) (μ1 ++ [.lst (as.map f)]) :=
  e_compM as enc f (fun ρ => ∃ o, ρ = o :: rest) hi ⟨none, hI⟩ (fun a ha ρ hρ μ => by
    obtain ⟨o, rfl⟩ := hρ
    exact ⟨some (enc a) :: rest, rfl, ⟨_, rfl⟩, h a ha μ⟩) hn hl
theorem set_same {j : Nat} {o : AO} {μ : Mu} (hj : μ[j]? = some o) : μ.set j o = μ := by
  apply List.ext_getElem?
  intro i
  by_cases hij : j = i
  · subst hij
    have hlt : j < μ.length := (List.getElem?_eq_some_iff.mp hj).1
    rw [List.getElem?_set_self hlt, hj]
  · rw [List.getElem?_set_ne hij]
theorem lstAt_set {l j : Nat} {o : AO} {μ : Mu} (h : l ≠ j) : lstAt (μ.set j o) l = lstAt μ l := by
  unfold lstAt
  rw [List.getElem?_set_ne (Ne.symm h)]
theorem lstAt_lt {l : Nat} {xs : List AV} {μ : Mu} (h : lstAt μ l = some xs) : l < μ.length := by
  unfold lstAt at h
  by_cases hl : l < μ.length
  · exact hl
  · rw [List.getElem?_eq_none (by omega)] at h; cases h
theorem lstAt_left {l : Nat} {μ t : Mu} (h : l < μ.length) : lstAt (μ ++ t) l = lstAt μ l := by
  unfold lstAt
  rw [List.getElem?_append_left h]
theorem compL_go {α : Type} (enc f : α → AV) (g : FG) (fe : FE) (I : Ev → Prop) (all : List α) (l j : Nat) (hlj : l ≠ j) :
    ∀ (as pre : List α) (n : Nat) (ρ : Ev) (μ : Mu) (xs : List AV), all = pre ++ as → lstAt μ l = some (all.map enc) → (∀ a ∈ as, ∀ ρ, I ρ → ∀ μ, ∃ ρ1, g (enc a) ρ μ = .ok ρ1 μ ∧ I ρ1 ∧ fe ρ1 μ = .ok (f a) μ) → I ρ → as.length < n → μ[j]? = some (.lst xs) → xs.length + as.length ≤ LIM →
      compN n (.l l) pre.length j g fYes fe ρ μ = .ok (.loc j) (μ.set j (.lst (xs ++ as.map f)))
  | [], pre, n + 1, ρ, μ, xs, ha, hl, h, hI, hn, hj, hz => by
    have e : (AIt.l l).get μ pre.length = some none := by
      show (lstAt μ l).map (fun ds => ds[pre.length]?) = _
      rw [hl, ha]
      simp
    unfold compN
    simp only [e, List.map_nil, List.append_nil, set_same hj]
  | d :: ds, pre, n + 1, ρ, μ, xs, ha, hl, h, hI, hn, hj, hz => by
    have e : (AIt.l l).get μ pre.length = some (some (enc d)) := by
      show (lstAt μ l).map (fun ds => ds[pre.length]?) = _
      rw [hl, ha]
      simp
    obtain ⟨ρ1, h1, h2, h3⟩ := h d List.mem_cons_self ρ hI μ
    have hlt : j < μ.length := (List.getElem?_eq_some_iff.mp hj).1
    have hp : pushA j (f d) μ = .ok () (μ.set j (.lst (xs ++ [f d]))) := by
      unfold pushA
      simp only [hj]
      rw [if_pos (by simp at hz; omega)]
    have ih := compL_go enc f g fe I all l j hlj ds (pre ++ [d]) n ρ1 (μ.set j (.lst (xs ++ [f d]))) (xs ++ [f d]) (by rw [ha]; simp) (by rw [lstAt_set hlj]; exact hl) (fun d' hd' => h d' (List.mem_cons_of_mem _ hd')) h2 (by simp at hn; omega) (List.getElem?_set_self hlt) (by simp at hz ⊢; omega)
    unfold compN
    simp only [e, h1, Rs.bd_ok, e_yes, if_true, h3, hp]
    rw [List.length_append] at ih
    simp only [List.length_cons, List.length_nil, Nat.zero_add] at ih
    rw [ih]
    simp [List.set_set]
theorem e_compL1 {α : Type} {n : Nat} {caps : List (Option Nat)} {fi : FI} {fe : FE} {ρ : Ev} {μ μ1 : Mu} {rest : Ev} {l : Nat} (as : List α) (enc f : α → AV) (hi : fi ρ μ = .ok (.l l) μ1) (hl : lstAt μ1 l = some (as.map enc)) (hI : capE ρ caps = none :: rest)
    (h : ∀ a ∈ as, ∀ μ, fe (some (enc a) :: rest) μ = .ok (f a) μ) (hn : as.length < n) (hz : as.length ≤ 16777216) : fComp n caps fi (gNm 0) fYes fe ρ μ = .ok (.loc μ1.length) (μ1 ++ [.lst (as.map f)]) := by
  have hlt := lstAt_lt hl
  have := compL_go enc f (gNm 0) fe (fun ρ => ∃ o, ρ = o :: rest) as l μ1.length (by omega) as [] n (capE ρ caps) (μ1 ++ [.lst []]) [] rfl (by rw [lstAt_left hlt]; exact hl) (fun a ha ρ hρ μ => by
    obtain ⟨o, rfl⟩ := hρ
    exact ⟨some (enc a) :: rest, rfl, ⟨_, rfl⟩, h a ha μ⟩) ⟨none, hI⟩ hn (by simp) (by simp only [List.length_nil, Nat.zero_add]; exact hz)
  unfold fComp
  rw [hi]
  simp only [Rs.bd_ok]
  simp only [List.length_nil, List.nil_append] at this
  rw [this]
  congr 1
  rw [List.set_append_right _ _ (Nat.le_refl _)]
  simp
@[simp] theorem gc_new {m : Mu} : gcR μ (.ok (.loc μ.length) m) = .ok (.loc μ.length) m := by
  have hc : ¬ gcC μ (.loc μ.length) m := fun h => by
    have := h.1
    simp [bdd] at this
  simp [gcR, hc]
@[simp] theorem e_fiA : fiA f ρ μ = (f ρ μ).bd itA := rfl
@[simp] theorem e_itT (ds : List AV) : itA (.tup ds) μ = .ok (.s ds) μ := rfl
@[simp] theorem e_itS (x : List Nat) : itA (.str x) μ = .ok (.s (x.map fun c => .str [c])) μ := rfl
@[simp] theorem e_itL (i : Nat) : itA (.loc i) μ = if (lstAt μ i).isSome = true then .ok (.l i) μ else .no := rfl
@[simp] theorem e_R1 : fiR1 fl ρ μ = (fl ρ μ).bd fun ds μ1 => match ds with
  | [.int j] => if sm 62 j = true then .ok (.s (rngL 0 j.toNat)) μ1 else .no
  | _ => .no := rfl
@[simp] theorem e_R2 : fiR2 fl ρ μ = (fl ρ μ).bd r2A := rfl
@[simp] theorem e_R3 : fiR3 fl ρ μ = (fl ρ μ).bd r3A := rfl
@[simp] theorem bools_nil : boolsOf [] = some [] := rfl
@[simp] theorem bools_cons (k : Bool) (r : List AV) : boolsOf (.bl k :: r) = (boolsOf r).map (k :: ·) := rfl
@[simp] theorem ints_nil : intsOf [] = some [] := rfl
@[simp] theorem ints_cons (k : Int) (r : List AV) : intsOf (.int k :: r) = (intsOf r).map (k :: ·) := rfl
@[simp] theorem strs_nil : strsOf [] = some [] := rfl
@[simp] theorem strs_cons (k : List Nat) (r : List AV) : strsOf (.str k :: r) = (strsOf r).map (k :: ·) := rfl
@[simp] theorem bools_map {α : Type} (p : α → Bool) : ∀ xs : List α, boolsOf (xs.map fun a => .bl (p a)) = some (xs.map p)
  | [] => rfl
  | x :: xs => by simp [boolsOf, bools_map p xs]
@[simp] theorem ints_map {α : Type} (p : α → Int) : ∀ xs : List α, intsOf (xs.map fun a => .int (p a)) = some (xs.map p)
  | [] => rfl
  | x :: xs => by simp [intsOf, ints_map p xs]
@[simp] theorem strs_map {α : Type} (p : α → List Nat) : ∀ xs : List α, strsOf (xs.map fun a => .str (p a)) = some (xs.map p)
  | [] => rfl
  | x :: xs => by simp [strsOf, strs_map p xs]
theorem joinL_nil : ∀ xs : List (List Nat), joinL [] xs = xs.flatten
  | [] => rfl
  | [x] => by simp [joinL]
  | x :: y :: r => by
    have := joinL_nil (y :: r)
    simp only [joinL, List.append_nil] at this ⊢
    rw [this]
    simp
theorem e_joinC {α : Type} {fk : FE} {ρ : Ev} {μ μ1 : Mu} (sep : List Nat) (as : List α) (f : α → List Nat) (hc : fk ρ μ = .ok (.loc μ1.length) (μ1 ++ [.lst (as.map fun a => .str (f a))])) (hz : (as.map fun a => (f a).length).sum + as.length * sep.length ≤ 16777216) :
    fBM "str" joinA (fC (.str sep)) (fConsL fk fNilL) ρ μ = .ok (.str (joinL sep (as.map f))) (μ1 ++ [.lst (as.map fun a => .str (f a))]) := by
  have e : ((as.map f).map (·.length)).sum = (as.map fun a => (f a).length).sum := by rw [List.map_map]; rfl
  rw [e_BM, e_c]
  simp only [Rs.bd_ok, v_isTs, if_true, e_consL, hc, e_nilL, v_join, v_seqL, lstAt_app, Option.bind_some, strs_map, e, List.length_map]
  rw [if_pos (show _ ≤ LIM from hz)]
theorem flat_one {α : Type} (f : α → Nat) (as : List α) : (as.map fun a => [f a]).flatten = as.map f := by
  induction as with
  | nil => rfl
  | cons x xs ih => simp only [List.map_cons, List.flatten_cons, ih, List.singleton_append]
theorem sum_one {α : Type} (f : α → Nat) (as : List α) : (as.map fun a => [f a].length).sum = as.length := by
  induction as with
  | nil => rfl
  | cons x xs ih =>
    rw [List.map_cons, List.sum_cons, ih]
    simp only [List.length_cons, List.length_nil]
    omega
end
end AL

set_option Elab.async false
set_option linter.all false
set_option maxRecDepth 100000
set_option maxHeartbeats 4000000
namespace AL
open PySem PySem.Spec PyProof.Rows L2
noncomputable def insAt (μ : Mu) (i : Nat) : Option (Nat × List (Nat × AV)) := match μ[i]? with
  | some (.ins C fs) => some (C, fs)
  | _ => none
section
variable {ρ : Ev} {μ : Mu} {fa fb fc fe f fo fv : FE} {fl : FL}
@[simp] theorem o_fld (k : Nat) : fFld k fe ρ μ = (fe ρ μ).bd fun d μ1 => fldA k d μ1 := rfl
@[simp] theorem o_fldA (k i : Nat) : fldA k (.loc i) μ = (match insAt μ i with
    | some q => (match q.2.lookup k with
      | some v => .ok v μ
      | none => .no)
    | none => .no) := by
  dsimp only [fldA, objAt, insAt]
  cases μ[i]? with
  | none => rfl
  | some o => cases o <;> rfl
@[simp] theorem o_setF (cl : List Nat) (k : Nat) : fSetF cl k fo fv ρ μ = (fv ρ μ).bd fun y μ1 => (fo ρ μ1).bd fun d μ2 => (setFA cl k d y μ2).bd fun _ μ3 => .ok (.nx ρ) μ3 := rfl
@[simp] theorem o_setA (cl : List Nat) (k i : Nat) (y : AV) : setFA cl k (.loc i) y μ = (match insAt μ i with
    | some q => if (hasT cl q.1 && decide (q.2.length < 1000)) = true then .ok .non (μ.set i (.ins q.1 (putA k y q.2))) else .no
    | none => .no) := by
  dsimp only [setFA, insAt]
  cases μ[i]? with
  | none => rfl
  | some o => cases o <;> rfl
@[simp] theorem o_meth (n : Nat) (D) : fMeth n D fo fl ρ μ = (fo ρ μ).bd fun d μ1 => match dispA D μ1 d with
  | some F => (fl ρ μ1).bd fun ds μ2 => if ds.length + 1 = n then F (d :: ds) μ2 else .no
  | none => .no := rfl
@[simp] theorem o_disp (D : List (Nat × (List AV → Mu → Rs AV))) (i : Nat) : dispA D μ (.loc i) = (match insAt μ i with
    | some q => D.lookup q.1
    | none => none) := by
  dsimp only [dispA, objAt, insAt]
  cases μ[i]? with
  | none => rfl
  | some o => cases o <;> rfl
@[simp] theorem o_make (C n F) : fMake C n F fl ρ μ = (fl ρ μ).bd fun ds μ1 => if ds.length + 1 = n then mkA C F ds μ1 else .no := rfl
@[simp] theorem o_mkA (C F) (ds : List AV) : mkA C F ds μ = (F (.loc μ.length :: ds) (μ ++ [.ins C []])).bd fun v μ2 => match v with
  | .non => .ok (.loc μ.length) μ2
  | _ => .no := rfl
@[simp] theorem o_lk {β : Type} (k g : Nat) (x : β) (r : List (Nat × β)) : List.lookup k ((g, x) :: r) = if k = g then some x else List.lookup k r := by
  rw [List.lookup_cons]
  by_cases h : k = g
  · rw [if_pos h, h, beq_self_eq_true]
  · rw [if_neg h, beq_eq_false_iff_ne.mpr h]
@[simp] theorem o_lk0 {β : Type} (k : Nat) : List.lookup k ([] : List (Nat × β)) = none := rfl
@[simp] theorem o_hasT0 (C : Nat) : hasT [] C = false := rfl
@[simp] theorem o_hasT (a C : Nat) (r : List Nat) : hasT (a :: r) C = (a == C || hasT r C) := rfl
@[simp] theorem o_put0 (k : Nat) (v : AV) : putA k v [] = [(k, v)] := rfl
@[simp] theorem o_put (k g : Nat) (v x : AV) (r : List (Nat × AV)) : putA k v ((g, x) :: r) = if g = k then (g, v) :: r else (g, x) :: putA k v r := rfl
theorem o_ins {i C : Nat} {fs : List (Nat × AV)} (h : μ[i]? = some (.ins C fs)) : insAt μ i = some (C, fs) := by
  unfold insAt
  rw [h]
@[simp] theorem o_insApp (C : Nat) (fs : List (Nat × AV)) (t : Mu) : insAt (μ ++ .ins C fs :: t) μ.length = some (C, fs) := o_ins (by simp)
theorem o_insL {i : Nat} (t : Mu) (h : i < μ.length) : insAt (μ ++ t) i = insAt μ i := by
  unfold insAt
  rw [List.getElem?_append_left h]
theorem o_lt {i C : Nat} {fs : List (Nat × AV)} (h : insAt μ i = some (C, fs)) : i < μ.length := by
  unfold insAt at h
  cases e : μ[i]? with
  | none => rw [e] at h; cases h
  | some o => exact (List.getElem?_eq_some_iff.mp e).1
theorem o_get {i C : Nat} {fs : List (Nat × AV)} (h : insAt μ i = some (C, fs)) : μ[i]? = some (.ins C fs) := by
  unfold insAt at h
  cases e : μ[i]? with
  | none => rw [e] at h; cases h
  | some o =>
    rw [e] at h
    cases o with
    | ins C' fs' => cases h; rfl
    | _ => cases h
theorem o_setS {i C : Nat} {fs : List (Nat × AV)} (h : i < μ.length) : insAt (μ.set i (.ins C fs)) i = some (C, fs) := o_ins (List.getElem?_set_self h)
theorem o_setN {i j : Nat} {o : AO} (h : i ≠ j) : insAt (μ.set i o) j = insAt μ j := by
  unfold insAt
  rw [List.getElem?_set_ne h]
@[simp] theorem e_is2 (T : String) : fIs2 T f ρ μ = (f ρ μ).bd fun d μ1 => match isTy2 T d with
  | some b => .ok (.bl b) μ1
  | none => .no := rfl
@[simp] theorem v_tyB (k : Bool) : isTy2 "bool" (.bl k) = some true := rfl
@[simp] theorem v_tyI (i : Int) : isTy2 "bool" (.int i) = some false := rfl
@[simp] theorem v_tyS (x : List Nat) : isTy2 "str" (.str x) = some true := rfl
@[simp] theorem v_find (x y : List Nat) : findA (.str x) [.str y] μ = .ok (.int (Txt.find ⟨x.toArray⟩ ⟨y.toArray⟩)) μ := rfl
@[simp] theorem v_index (x y : List Nat) : indexA (.str x) [.str y] μ = if 0 ≤ Txt.find ⟨x.toArray⟩ ⟨y.toArray⟩ then .ok (.int (Txt.find ⟨x.toArray⟩ ⟨y.toArray⟩)) μ else .no := rfl
end
end AL

set_option Elab.async false
set_option linter.all false
set_option maxRecDepth 100000
set_option maxHeartbeats 4000000
namespace AL
open PySem PySem.Spec PyProof.Rows L2
section
variable {ρ : Ev} {μ : Mu} {f : FE}
@[simp] theorem o_makeO (C : Nat) : fMakeO C ρ μ = .ok (.loc μ.length) (μ ++ [.ins C []]) := rfl
@[simp] theorem o_noE : fNoE ρ μ = .no := rfl
@[simp] theorem o_isO (cs : List (Nat × Bool)) : fIsO cs f ρ μ = (f ρ μ).bd fun d μ1 => isOA cs d μ1 := rfl
@[simp] theorem o_isOA (cs : List (Nat × Bool)) (i : Nat) : isOA cs (.loc i) μ = (match insAt μ i with
    | some q => (match cs.lookup q.1 with
      | some b => .ok (.bl b) μ
      | none => .no)
    | none => .no) := by
  dsimp only [isOA, objAt, insAt]
  cases μ[i]? with
  | none => rfl
  | some o => cases o <;> rfl
@[simp] theorem v_mulI (i j : Int) : mulG (.int i) (.int j) μ = if mulOk i j = true then .ok (.int (i * j)) μ else .no := rfl
@[simp] theorem v_mulS (x : List Nat) (n : Int) : mulG (.str x) (.int n) μ = if (sm 30 n && decide (x.length * n.toNat ≤ LIM)) = true then .ok (.str (mulT x n)) μ else .no := rfl
end
end AL

set_option maxHeartbeats 1000000
namespace My
open PySem PySem.Spec PyProof.Rows L2 AL
section
theorem forI {it : AIt} {g : FG} {fb : FS} (N : Nat) (get : Nat → AV) (I : Nat → Ev → Mu → Prop) (hget : ∀ k ρ μ, I k ρ μ → k ≤ N → it.get μ k = some (if k < N then some (get k) else none))
    (step : ∀ k ρ μ, k < N → I k ρ μ → ∃ ρ1 μ1 ρ2 μ2, g (get k) ρ μ = .ok ρ1 μ1 ∧ fb ρ1 μ1 = .ok (.nx ρ2) μ2 ∧ I (k + 1) ρ2 μ2) :
    ∀ (r k n : Nat) (ρ : Ev) (μ : Mu), k + r = N → r < n → I k ρ μ → ∃ ρ' μ', forN n it k g fb ρ μ = .ok (.nx ρ') μ' ∧ I N ρ' μ'
  | 0, k, n + 1, ρ, μ, e, _, h => by
    have e : k = N := e
    subst e
    have hg := hget k ρ μ h (Nat.le_refl _)
    rw [if_neg (Nat.lt_irrefl _)] at hg
    refine ⟨ρ, μ, ?_, h⟩
    unfold forN
    simp only [hg]
  | r + 1, k, n + 1, ρ, μ, e, hn, h => by
    have hk : k < N := by omega
    have hg := hget k ρ μ h (Nat.le_of_lt hk)
    rw [if_pos hk] at hg
    obtain ⟨ρ1, μ1, ρ2, μ2, h1, h2, h3⟩ := step k ρ μ hk h
    obtain ⟨ρ', μ', h4, h5⟩ := forI N get I hget step r (k + 1) n ρ2 μ2 (by omega) (by omega) h3
    refine ⟨ρ', μ', ?_, h5⟩
    unfold forN
    simp only [hg, h1, Rs.bd_ok, h2]
    exact h4
theorem forS {g : FG} {fb : FS} {ds : List AV} {n : Nat} {ρ : Ev} {μ : Mu} (I : Nat → Ev → Mu → Prop) (h0 : I 0 ρ μ) (hn : ds.length < n)
    (step : ∀ k d ρ μ, ds[k]? = some d → I k ρ μ → ∃ ρ1 μ1 ρ2 μ2, g d ρ μ = .ok ρ1 μ1 ∧ fb ρ1 μ1 = .ok (.nx ρ2) μ2 ∧ I (k + 1) ρ2 μ2) : ∃ ρ' μ', forN n (.s ds) 0 g fb ρ μ = .ok (.nx ρ') μ' ∧ I ds.length ρ' μ' :=
  forI ds.length (fun k => ds.getD k .non) I (fun k ρ μ _ hk => by
    show some ds[k]? = _
    by_cases h : k < ds.length
    · rw [if_pos h, List.getD_eq_getElem?_getD, List.getElem?_eq_getElem h]; rfl
    · rw [if_neg h, List.getElem?_eq_none (by omega)]) (fun k ρ μ hk h => step k _ ρ μ (by rw [List.getD_eq_getElem?_getD, List.getElem?_eq_getElem hk]; rfl) h) ds.length 0 n ρ μ (by omega) hn h0
theorem forL {g : FG} {fb : FS} {ds : List AV} {l n : Nat} {ρ : Ev} {μ : Mu} (I : Nat → Ev → Mu → Prop) (h0 : I 0 ρ μ) (hn : ds.length < n) (hl : ∀ k ρ μ, I k ρ μ → lstAt μ l = some ds)
    (step : ∀ k d ρ μ, ds[k]? = some d → I k ρ μ → ∃ ρ1 μ1 ρ2 μ2, g d ρ μ = .ok ρ1 μ1 ∧ fb ρ1 μ1 = .ok (.nx ρ2) μ2 ∧ I (k + 1) ρ2 μ2) : ∃ ρ' μ', forN n (.l l) 0 g fb ρ μ = .ok (.nx ρ') μ' ∧ I ds.length ρ' μ' :=
  forI ds.length (fun k => ds.getD k .non) I (fun k ρ μ h hk => by
    show (lstAt μ l).map (fun ds => ds[k]?) = _
    rw [hl k ρ μ h]
    by_cases h : k < ds.length
    · rw [if_pos h, List.getD_eq_getElem?_getD]; simp [List.getElem?_eq_getElem h]
    · rw [if_neg h]; simp; omega) (fun k ρ μ hk h => step k _ ρ μ (by rw [List.getD_eq_getElem?_getD, List.getElem?_eq_getElem hk]; rfl) h) ds.length 0 n ρ μ (by omega) hn h0
theorem LIMv : LIM = 16777216 := rfl
theorem modN (i : Int) (n : Int) (h : 0 < n) : modOk i n = true := by simp [modOk, h]
theorem ix_lt (i : Int) (n : Nat) (h : 0 < n) : (i % (n : Int)).toNat < n := by
  have a := Int.emod_nonneg i (show (n : Int) ≠ 0 by omega)
  have b := Int.emod_lt_of_pos i (show (0 : Int) < (n : Int) by omega)
  omega
theorem atI_mod {α : Type} (al : List α) (d : α) (i : Int) (h : 0 < al.length) : L2.atI al (i % (al.length : Int)) = some (al.getD (i % (al.length : Int)).toNat d) := by
  have a := Int.emod_nonneg i (show (al.length : Int) ≠ 0 by omega)
  have b := ix_lt i al.length h
  have e : i % (al.length : Int) = (((i % (al.length : Int)).toNat : Nat) : Int) := by omega
  rw [e, at_nat]
  simp only [Int.toNat_natCast]
  rw [List.getD_eq_getElem?_getD, List.getElem?_eq_getElem b]
  rfl
theorem atI_modE {α : Type} (al : List α) (d : α) (n : Int) (hn : n = (al.length : Int)) (i : Int) (h : 0 < al.length) : ∃ a ∈ al, L2.atI al (i % n) = some a := by
  subst hn
  have b := ix_lt i al.length h
  refine ⟨_, ?_, atI_mod al d i h⟩
  rw [List.getD_eq_getElem?_getD, List.getElem?_eq_getElem b]
  exact List.getElem_mem b
theorem sm31 (x : Int) (h : 0 ≤ x) (h' : x < 4294967296) : sm 64 x = true := sm_of (by
  have e : (2 : Nat) ^ 64 = 18446744073709551616 := by decide
  rw [e]
  omega) (by decide)
theorem divN (i : Int) : divOk i 1009 = true := by simp only [divOk]; decide
noncomputable abbrev Tx := List Nat
theorem lt1 (a b : Nat) : (([a] : List Nat) < [b]) = (a < b) := by
  apply propext
  constructor
  · intro h
    cases h with
    | rel h => exact h
    | cons h => cases h
  · intro h
    exact List.Lex.rel h
noncomputable def isSm (c : Nat) : Bool := decide (97 ≤ c) && decide (c ≤ 122)
noncomputable def isPl (c : Nat) : Bool := decide (c = 10) || (decide (32 ≤ c) && decide (c ≤ 126))
theorem small_one (c : Nat) (μ : Mu) : F_is_small [.str [c]] μ = .ok (.bl (isSm c)) μ := by
  simp [F_is_small, LIMv, lt1, isSm]
  by_cases h1 : c < 97
  · have h3 : ¬ 97 ≤ c := by omega
    simp [h1, h3]
  · have h2 : 97 ≤ c := by omega
    simp [h1, h2]
    by_cases h4 : 122 < c
    · have h5 : ¬ c ≤ 122 := by omega
      simp [h4, h5]
    · have h5 : c ≤ 122 := by omega
      simp [h4, h5]
theorem plain_one (c : Nat) (μ : Mu) : F_is_plain [.str [c]] μ = .ok (.bl (isPl c)) μ := by
  simp [F_is_plain, LIMv, lt1, isPl]
  by_cases h0 : c = 10
  · simp [h0]
  · by_cases h1 : c < 32
    · have h3 : ¬ 32 ≤ c := by omega
      simp [h0, h1, h3]
    · have h2 : 32 ≤ c := by omega
      by_cases h4 : 126 < c
      · have h5 : ¬ c ≤ 126 := by omega
        simp [h0, h1, h2, h4, h5]
      · have h5 : c ≤ 126 := by omega
        simp [h0, h1, h2, h4, h5]
mutual
noncomputable def okV : AV → Bool
  | .str x => x.all fun c => decide (c < 0x110000)
  | .tup ds => okVs ds
  | _ => false
noncomputable def okVs : List AV → Bool
  | [] => true
  | d :: ds => okV d && okVs ds
end
mutual
noncomputable def dpV : AV → Nat
  | .tup ds => dpVs ds + 1
  | _ => 0
noncomputable def dpVs : List AV → Nat
  | [] => 0
  | d :: ds => max (dpV d) (dpVs ds)
end
mutual
theorem pyV : ∀ d : AV, okV d = true → ∃ p, pyD d = some p ∧ p.canLay0 = true ∧ p.depth = dpV d
  | .str x, h => ⟨.str ⟨x.toArray⟩, rfl, by
      simp only [okV] at h
      simp only [PyData.canLay0, PyData.strOk]
      simpa using h, by simp [PyData.depth, dpV]⟩
  | .tup ds, h => by
    simp only [okV] at h
    obtain ⟨ps, e, c, z⟩ := pyVs ds h
    exact ⟨.tuple ps, by simp [pyD, e], by simpa [PyData.canLay0] using c, by simp [PyData.depth, dpV, z]⟩
  | .non, h => by simp [okV] at h
  | .bl _, h => by simp [okV] at h
  | .int _, h => by simp [okV] at h
  | .loc _, h => by simp [okV] at h
theorem pyVs : ∀ ds : List AV, okVs ds = true → ∃ ps, pyDs ds = some ps ∧ PyData.canLayAll0 ps = true ∧ PyData.depthAll ps = dpVs ds
  | [], _ => ⟨[], rfl, by simp [PyData.canLayAll0], by simp [PyData.depthAll, dpVs]⟩
  | d :: ds, h => by
    simp only [okVs, Bool.and_eq_true] at h
    obtain ⟨p, e, c, z⟩ := pyV d h.1
    obtain ⟨ps, e2, c2, z2⟩ := pyVs ds h.2
    exact ⟨p :: ps, by simp [pyDs, e, e2], by simp [PyData.canLayAll0, c, c2], by simp [PyData.depthAll, dpVs, z, z2]⟩
end
mutual
theorem eqV : ∀ (d e : AV) (p q : PyData), okV d = true → okV e = true → pyD d = some p → pyD e = some q → (PyData.eqv p q = true ↔ d = e)
  | .str x, .str y, p, q, _, _, hp, hq => by
    simp only [pyD, Option.some.injEq] at hp hq
    subst hp hq
    simp [PyData.eqv]
  | .tup ds, .tup es, p, q, h, h', hp, hq => by
    simp only [okV] at h h'
    obtain ⟨ps, e1, _⟩ := pyVs ds h
    obtain ⟨qs, e2, _⟩ := pyVs es h'
    simp only [pyD, e1, e2, Option.map_some, Option.some.injEq] at hp hq
    subst hp hq
    have := eqVs ds es ps qs h h' e1 e2
    simp only [PyData.eqv, AV.tup.injEq]
    exact this
  | .str x, .tup es, p, q, h, h', hp, hq => by
    simp only [okV] at h h'
    obtain ⟨qs, e2, _⟩ := pyVs es h'
    simp only [pyD, e2, Option.map_some, Option.some.injEq] at hp hq
    subst hp hq
    simp [PyData.eqv]
  | .tup ds, .str y, p, q, h, h', hp, hq => by
    simp only [okV] at h h'
    obtain ⟨ps, e1, _⟩ := pyVs ds h
    simp only [pyD, e1, Option.map_some, Option.some.injEq] at hp hq
    subst hp hq
    simp [PyData.eqv]
  | .non, _, p, q, h, h', hp, hq => by simp [okV] at h
  | .bl _, _, p, q, h, h', hp, hq => by simp [okV] at h
  | .int _, _, p, q, h, h', hp, hq => by simp [okV] at h
  | .loc _, _, p, q, h, h', hp, hq => by simp [okV] at h
  | .str _, .non, p, q, h, h', hp, hq => by simp [okV] at h'
  | .str _, .bl _, p, q, h, h', hp, hq => by simp [okV] at h'
  | .str _, .int _, p, q, h, h', hp, hq => by simp [okV] at h'
  | .str _, .loc _, p, q, h, h', hp, hq => by simp [okV] at h'
  | .tup _, .non, p, q, h, h', hp, hq => by simp [okV] at h'
  | .tup _, .bl _, p, q, h, h', hp, hq => by simp [okV] at h'
  | .tup _, .int _, p, q, h, h', hp, hq => by simp [okV] at h'
  | .tup _, .loc _, p, q, h, h', hp, hq => by simp [okV] at h'
theorem eqVs : ∀ (ds es : List AV) (ps qs : List PyData), okVs ds = true → okVs es = true → pyDs ds = some ps → pyDs es = some qs → (PyData.eqvAll ps qs = true ↔ ds = es)
  | [], [], ps, qs, _, _, hp, hq => by
    simp only [pyDs, Option.some.injEq] at hp hq
    subst hp hq
    simp [PyData.eqvAll]
  | [], e :: es, ps, qs, _, h', hp, hq => by
    simp only [okVs, Bool.and_eq_true] at h'
    obtain ⟨q, e1, _⟩ := pyV e h'.1
    obtain ⟨qs', e2, _⟩ := pyVs es h'.2
    simp only [pyDs, e1, e2, Option.some.injEq] at hp hq
    subst hp hq
    simp [PyData.eqvAll]
  | d :: ds, [], ps, qs, h, _, hp, hq => by
    simp only [okVs, Bool.and_eq_true] at h
    obtain ⟨q, e1, _⟩ := pyV d h.1
    obtain ⟨qs', e2, _⟩ := pyVs ds h.2
    simp only [pyDs, e1, e2, Option.some.injEq] at hp hq
    subst hp hq
    simp [PyData.eqvAll]
  | d :: ds, e :: es, ps, qs, h, h', hp, hq => by
    simp only [okVs, Bool.and_eq_true] at h h'
    obtain ⟨p1, e1, _⟩ := pyV d h.1
    obtain ⟨ps1, e2, _⟩ := pyVs ds h.2
    obtain ⟨q1, e3, _⟩ := pyV e h'.1
    obtain ⟨qs1, e4, _⟩ := pyVs es h'.2
    simp only [pyDs, e1, e2, e3, e4, Option.some.injEq] at hp hq
    subst hp hq
    have a := eqV d e p1 q1 h.1 h'.1 e1 e3
    have b := eqVs ds es ps1 qs1 h.2 h'.2 e2 e4
    simp only [PyData.eqvAll, Bool.and_eq_true, List.cons.injEq, a, b]
end
theorem eq_tup (ds es : List AV) (h : okVs ds = true) (h' : okVs es = true) (hd : dpVs ds ≤ 63) (hd' : dpVs es ≤ 63) : ∃ k : Bool, (k = true ↔ ds = es) ∧ ∀ (neg : Bool) (μ : Mu), eqA neg (.tup ds) (.tup es) μ = .ok (.bl (if neg then !k else k)) μ := by
  obtain ⟨p, e1, c1, z1⟩ := pyV (.tup ds) (by simpa [okV] using h)
  obtain ⟨q, e2, c2, z2⟩ := pyV (.tup es) (by simpa [okV] using h')
  have s1 : SeqAt.shaped p = true := by
    simp only [dpV] at z1
    simp only [SeqAt.shaped, c1, z1, Bool.true_and, decide_eq_true_eq]
    omega
  have s2 : SeqAt.shaped q = true := by
    simp only [dpV] at z2
    simp only [SeqAt.shaped, c2, z2, Bool.true_and, decide_eq_true_eq]
    omega
  refine ⟨PyData.eqv p q, ?_, fun neg μ => ?_⟩
  · rw [eqV (.tup ds) (.tup es) p q (by simpa [okV] using h) (by simpa [okV] using h') e1 e2]
    simp
  · show eqG neg (.tup ds) (.tup es) μ = _
    unfold eqG
    have t1 : pyT μ (.tup ds) = some p := e1
    have t2 : pyT μ (.tup es) = some q := e2
    rw [t1, t2]
    simp only
    rw [if_pos ⟨s1, s2⟩]
noncomputable def pre (a b : List Nat) : Bool := a == b.take a.length
@[simp] theorem start_pre (x y : List Nat) (μ : Mu) : startA (.str x) [.str y] μ = .ok (.bl (pre y x)) μ := by
  show Rs.ok (AV.bl (Txt.startswith ⟨x.toArray⟩ ⟨y.toArray⟩)) μ = _
  have : Txt.startswith ⟨x.toArray⟩ ⟨y.toArray⟩ = pre y x := by
    rw [Bool.eq_iff_iff]
    simp only [Txt.startswith, PySem.Builtin.Str.subAt, Str.length, pre, Bool.and_eq_true, decide_eq_true_eq, beq_iff_eq]
    simp
    constructor
    · rintro ⟨_, h⟩
      exact h.symm
    · intro h
      refine ⟨?_, h.symm⟩
      have := congrArg List.length h
      rw [List.length_take] at this
      omega
  rw [this]
theorem gc_len {μ m : Mu} {d : AV} (h : m.length = μ.length) : gcR μ (.ok d m) = .ok d m := by
  simp only [gcR]
  split
  · rw [← h]; simp
  · rfl
noncomputable def tps (xs : List Tx) : AV := .tup (xs.map .str)
inductive MK
  | ex (g : Tx)
  | num (M : Int)
  | val (M : Int)
  | name (M R : Int) (ends : List Tx)
noncomputable def MK.cls : MK → Nat
  | .ex _ => 1
  | .num _ => 3
  | .val _ => 5
  | .name _ _ _ => 6
noncomputable def MK.rest : MK → List (Nat × AV)
  | .ex g => [(21, .str g)]
  | .num M => [(22, .int 10), (23, .int M)]
  | .val M => [(23, .int M)]
  | .name M R ends => [(23, .int M), (24, .int R), (25, tps ends)]
noncomputable def MK.obj (k : MK) (t : Tx) : AO := .ins k.cls ((20, .str t) :: k.rest)
noncomputable def MkA (μ : Mu) (a : Nat) (k : MK) (t : Tx) : Prop := insAt μ a = some (k.cls, (20, .str t) :: k.rest)
noncomputable def FIG : List Nat := [48, 49, 50, 51, 52, 53, 54, 55, 56, 57, 97, 98, 99, 100, 101, 102]
noncomputable def fnd (x : List Nat) (c : Nat) : Int := Txt.find ⟨x.toArray⟩ ⟨[c].toArray⟩
noncomputable def fig (c : Nat) : Int := fnd FIG c
noncomputable def nval (t : List Nat) : Int := t.foldl (fun n c => n * 10 + fig c) 0
theorem val_snoc (t : List Nat) (c : Nat) : nval (t ++ [c]) = nval t * 10 + fig c := by simp [nval]
noncomputable def vOk (c : Nat) : Bool := isPl c && !(c == 59 || c == 10)
noncomputable def ENDN : List Tx := [[108, 101, 110, 103, 116, 104], [112, 105, 101, 99, 101, 115], [112, 97, 114, 116, 115], [114, 101, 115, 116]]
theorem cENDN : c_END_NAMES = tps ENDN := rfl
noncomputable def cgo (M R : Int) (t : Tx) : Bool := !(decide (R < 1) || decide ((t.length : Int) > M)) && (decide ((t.length : Int) < M) || !decide (t ∈ ENDN))
noncomputable def MK.tk : MK → Tx → Nat → Bool
  | .ex g, t, c => pre (t ++ [c]) g
  | .num M, t, c => !(decide (fnd (FIG.take 10) c < 0) || t == [48]) && decide (nval t * 10 + fnd (FIG.take 10) c ≤ M)
  | .val M, t, c => vOk c && (if c = 32 then decide (0 < (t.length : Int)) && decide ((t.length : Int) < M - 1) else decide ((t.length : Int) < M))
  | .name M R ends, t, c => ends.any (fun e => pre (t ++ [c]) e) || (isSm c && cgo M R (t ++ [c]))
noncomputable def MK.gd : MK → Tx → Bool
  | .ex g, t => t == g
  | .num _, t => !(t == [])
  | .val _, t => !(t == []) && !(t.getLast? == some 32)
  | .name M R ends, t => decide (t ∈ ends) || (!(t == []) && (!decide (t ∈ ENDN) && cgo M R t))
variable {μ : Mu} {a : Nat} {t : Tx} {c : Nat}
theorem ex_takes {g : Tx} (h : MkA μ a (.ex g) t) (hl : t.length < 10000) (hg : g.length ≤ 10000) : F_Exact_takes [.loc a, .str [c]] μ = .ok (.bl (MK.tk (.ex g) t c)) μ := by
  have hz1 : t.length + 1 ≤ LIM := by rw [LIMv]; omega
  have ho : insAt μ a = _ := h
  simp [MK.rest, MK.cls] at ho
  unfold F_Exact_takes
  simp [ho, hz1, MK.tk]
theorem val_takes {M : Int} (h : MkA μ a (.val M) t) (hl : t.length < 10000) : F_Value_takes [.loc a, .str [c]] μ = .ok (.bl (MK.tk (.val M) t c)) μ := by
  have hz : t.length ≤ LIM := by rw [LIMv]; omega
  have hz2 : (2 : Nat) ≤ LIM := by decide
  have ho : insAt μ a = _ := h
  simp [MK.rest, MK.cls] at ho
  unfold F_Value_takes MK.tk
  simp [ho, plain_one, hz, hz2, vOk]
  cases isPl c with
  | false => simp
  | true =>
    by_cases h1 : c = 59
    · simp [h1, hz2, ho, hz]
    · by_cases h2 : c = 10
      · simp [h2, hz2, ho, hz]
      · by_cases h3 : c = 32
        · subst h3
          by_cases h4 : t = []
          · simp [h4] at ho; simp [h4, hz2, ho, hz]
          · have h5 : 0 < t.length := List.length_pos_iff.mpr h4
            simp [h5, hz2, ho, hz]
        · have h1' : ¬ 59 = c := fun e => h1 e.symm
          have h2' : ¬ 10 = c := fun e => h2 e.symm
          simp [h1, h2, h3, h1', h2', hz2, ho, hz]
theorem told_loop {M : Int} (h : MkA μ a (.num M) t) (hl : t.length < 1000000) :
    ∃ o, forN 1000000 (.s (t.map fun c => .str [c])) 0 (gNm 2) (fAsg (fOp addG (fOp mulG (fVar 1) (fFld 22 (fVar 0))) (fBM "str" findA (fC c_FIGURES) (fConsL (fVar 2) fNilL))) (gNm 1)) [some (.loc a), some (.int 0), none] μ = .ok (.nx [some (.loc a), some (.int (nval t)), o]) μ := by
  have ho : insAt μ a = _ := h
  simp [MK.rest, MK.cls] at ho
  have hm : ∀ x : Int, mulOk x 10 = true := fun x => by
    have h10 : sm 64 10 = true := by decide +kernel
    simp [mulOk, h10]
  obtain ⟨ρ', μ', e, o, hρ, hμ⟩ := forS (g := gNm 2) (n := 1000000) (ds := t.map fun c => .str [c]) (ρ := [some (.loc a), some (.int 0), none]) (μ := μ) (fb := fAsg (fOp addG (fOp mulG (fVar 1) (fFld 22 (fVar 0))) (fBM "str" findA (fC c_FIGURES) (fConsL (fVar 2) fNilL))) (gNm 1))
    (fun k ρ ν => ∃ o, ρ = [some (.loc a), some (.int (nval (t.take k))), o] ∧ ν = μ) ⟨none, rfl, rfl⟩ (by simpa using hl) (fun k d ρ ν hd ⟨o, hρ, hν⟩ => by
      subst hρ hν
      rw [List.getElem?_map] at hd
      cases e : t[k]? with
      | none => rw [e] at hd; cases hd
      | some c =>
        rw [e] at hd
        cases hd
        refine ⟨_, _, _, _, rfl, ?_, some (.str [c]), rfl, rfl⟩
        rw [List.take_add_one, e, Option.toList_some, val_snoc]
        simp [ho, hm, c_FIGURES, fig, fnd, FIG])
  refine ⟨o, ?_⟩
  rw [e, hρ, hμ]
  simp
theorem num_told {M : Int} (h : MkA μ a (.num M) t) (hl : t.length < 1000000) : F_Number_told [.loc a] μ = .ok (.int (nval t)) μ := by
  obtain ⟨o, e⟩ := told_loop h hl
  have ho : insAt μ a = _ := h
  simp [MK.rest, MK.cls] at ho
  unfold F_Number_told
  simp [ho, e]
theorem num_takes {M : Int} (h : MkA μ a (.num M) t) (hl : t.length < 10000) : F_Number_takes [.loc a, .str [c]] μ = .ok (.bl (MK.tk (.num M) t c)) μ := by
  have ho : insAt μ a = _ := h
  simp [MK.rest, MK.cls] at ho
  have hm : ∀ x : Int, mulOk x 10 = true := fun x => by
    have h10 : sm 64 10 = true := by decide +kernel
    simp [mulOk, h10]
  have cB : cutL [48, 49, 50, 51, 52, 53, 54, 55, 56, 57, 97, 98, 99, 100, 101, 102] none (some 10) = FIG.take 10 := rfl
  unfold F_Number_takes MK.tk
  by_cases h1 : fnd (FIG.take 10) c < 0
  · have h1' : Txt.find ⟨(FIG.take 10).toArray⟩ ⟨[c].toArray⟩ < 0 := h1
    simp [ho, c_FIGURES, LIMv, cB, h1, h1']
  · have h1' : ¬ Txt.find ⟨(FIG.take 10).toArray⟩ ⟨[c].toArray⟩ < 0 := h1
    by_cases h2 : t = [48]
    · simp [ho, c_FIGURES, LIMv, cB, h1, h1', h2]
    · have h3 : (t == [48]) = false := by simp [h2]
      simp [ho, c_FIGURES, LIMv, cB, h1, h1', h3, num_told h (by omega), hm]
      simp [fnd]
theorem in_tps (x : Tx) (xs : List Tx) (neg : Bool) (μ : Mu) : inG neg (.str x) (tps xs) μ = .ok (.bl (if neg then !decide (x ∈ xs) else decide (x ∈ xs))) μ := v_inS _ _ _
theorem nm_cgo {M R : Int} {ends : List Tx} (h : MkA μ a (.name M R ends) t) (x : Tx) (hz : x.length ≤ LIM) : F_Name_can_grow_ordinary [.loc a, .str x] μ = .ok (.bl (cgo M R x)) μ := by
  have ho : insAt μ a = _ := h
  simp [MK.rest, MK.cls] at ho
  unfold F_Name_can_grow_ordinary cgo
  rw [cENDN]
  by_cases h1 : R < 1
  · simp [ho, hz, h1]
  · by_cases h2 : M < (x.length : Int)
    · simp [ho, hz, h1, h2]
    · by_cases h3 : (x.length : Int) < M
      · simp [ho, hz, h1, h2, h3]
      · simp [-v_in, ho, hz, h1, h2, h3, in_tps]
theorem nm_takes {M R : Int} {ends : List Tx} (h : MkA μ a (.name M R ends) t) (hl : t.length < 10000) (he : ends.length < 1000) : F_Name_takes [.loc a, .str [c]] μ = .ok (.bl (MK.tk (.name M R ends) t c)) μ := by
  have ho : insAt μ a = _ := h
  simp [MK.rest, MK.cls] at ho
  have hz1 : t.length + 1 ≤ LIM := by rw [LIMv]; omega
  have hc := e_comp1 (n := 1000000) (caps := [none, some 2]) (fi := fiA (fFld 25 (fVar 0))) (fe := fBM "str" startA (fVar 0) (fConsL (fVar 1) fNilL)) (ρ := [some (.loc a), some (.str [c]), some (.str (t ++ [c]))]) (μ := μ) (μ1 := μ) (rest := [some (.str (t ++ [c]))]) ends .str (fun e => .bl (pre (t ++ [c]) e)) (by simp [ho, tps]) rfl (fun e _ μ => by simp) (by omega) (by omega)
  have hcg := nm_cgo (μ := μ ++ [.lst (ends.map fun e => .bl (pre (t ++ [c]) e))]) (a := a) (t := t) (M := M) (R := R) (ends := ends) (by unfold MkA; rw [o_insL _ (o_lt h)]; exact h) (t ++ [c]) (by simpa using hz1)
  have ho2 : insAt (μ ++ [.lst (ends.map fun e => .bl (pre (t ++ [c]) e))]) a = some (6, [(20, .str t), (23, .int M), (24, .int R), (25, tps ends)]) := by rw [o_insL _ (o_lt h)]; exact ho
  unfold F_Name_takes MK.tk
  cases e1 : ends.any (fun e => pre (t ++ [c]) e) with
  | true => simp [ho, hz1, hc, e1]
  | false =>
    cases e2 : isSm c with
    | true => simp [ho, hz1, hc, e1, small_one, e2, ho2, hcg]
    | false => simp [ho, hz1, hc, e1, small_one, e2]
theorem nm_good {M R : Int} {ends : List Tx} (h : MkA μ a (.name M R ends) t) (hl : t.length < 10000) : F_Name_good [.loc a] μ = .ok (.bl (MK.gd (.name M R ends) t)) μ := by
  have ho : insAt μ a = _ := h
  simp [MK.rest, MK.cls] at ho
  have hcg := nm_cgo h t (by rw [LIMv]; omega)
  unfold F_Name_good MK.gd
  rw [cENDN]
  by_cases h1 : t ∈ ends
  · simp [-v_in, ho, in_tps, h1]
  · by_cases h2 : t = []
    · simp [-v_in, ho, in_tps, h1, h2]
      simp [h2] at h1 ho ⊢
      simp [-v_in, ho, in_tps, h1]
    · have h2' : (t == []) = false := by simp [h2]
      by_cases h3 : t ∈ ENDN
      · simp [-v_in, ho, in_tps, h1, h2', h3]
      · simp [-v_in, ho, in_tps, h1, h2', h3, hcg]
theorem nm_awaited {M R : Int} {ends : List Tx} (h : MkA μ a (.name M R ends) t) (hl : t.length < 10000) (hg : MK.gd (.name M R ends) t = true) : F_Name_awaited [.loc a] μ = .ok (.str []) μ := by
  have ho : insAt μ a = _ := h
  simp [MK.rest, MK.cls] at ho
  have e := nm_good h hl
  rw [hg] at e
  unfold F_Name_awaited
  simp [ho, e]
noncomputable def MK.sz : MK → Prop
  | .ex g => g.length ≤ 10000
  | .name _ _ ends => ends.length < 1000
  | _ => True
theorem mk_fed (k : MK) (h : MkA μ a k t) (hl : t.length < 10000) (hs : k.sz) : F_Mark_fed [.loc a, .str [c]] μ = if k.tk t c = true then .ok (.bl true) (μ.set a (k.obj (t ++ [c]))) else .ok (.bl false) μ := by
  have hz1 : t.length + 1 ≤ LIM := by rw [LIMv]; omega
  have hr : k.rest.length < 100 := by cases k <;> simp [MK.rest]
  have ho : insAt μ a = _ := h
  unfold F_Mark_fed
  cases k with
  | ex g =>
    have e := ex_takes (c := c) h hl hs
    simp only [MK.rest, MK.cls] at ho
    cases hk : MK.tk (.ex g) t c with
    | true => rw [hk] at e; simp [ho, e, hz1]; exact gc_len (by simp)
    | false => rw [hk] at e; simp [ho, e]
  | num M =>
    have e := num_takes (c := c) h hl
    simp only [MK.rest, MK.cls] at ho
    cases hk : MK.tk (.num M) t c with
    | true => rw [hk] at e; simp [ho, e, hz1]; exact gc_len (by simp)
    | false => rw [hk] at e; simp [ho, e]
  | val M =>
    have e := val_takes (c := c) h hl
    simp only [MK.rest, MK.cls] at ho
    cases hk : MK.tk (.val M) t c with
    | true => rw [hk] at e; simp [ho, e, hz1]; exact gc_len (by simp)
    | false => rw [hk] at e; simp [ho, e]
  | name M R ends =>
    have e := nm_takes (c := c) h hl hs
    simp only [MK.rest, MK.cls] at ho
    cases hk : MK.tk (.name M R ends) t c with
    | true => rw [hk] at e; simp [ho, e, hz1]; exact gc_len (by simp)
    | false => rw [hk] at e; simp [ho, e]
theorem ex_good {g : Tx} (h : MkA μ a (.ex g) t) : F_Exact_good [.loc a] μ = .ok (.bl (t == g)) μ := by
  have ho : insAt μ a = _ := h
  simp [MK.rest, MK.cls] at ho
  unfold F_Exact_good
  simp [ho]
theorem mk_good (k : MK) (h : MkA μ a k t) (hl : t.length < 10000) (fo : FE) (ρ : Ev) (hf : fo ρ μ = .ok (.loc a) μ) : fMeth 1 [(6, F_Name_good), (5, F_Value_good), (3, F_Number_good), (1, F_Exact_good)] fo fNilL ρ μ = .ok (.bl (k.gd t)) μ := by
  have ho : insAt μ a = _ := h
  cases k with
  | ex g =>
    have e := ex_good h
    simp only [MK.rest, MK.cls] at ho
    simp [hf, ho, e, MK.gd]
  | num M =>
    simp only [MK.rest, MK.cls] at ho
    simp [hf, ho, F_Number_good, MK.gd]
  | val M =>
    simp only [MK.rest, MK.cls] at ho
    by_cases h1 : t = []
    · subst h1
      simp [hf, ho, F_Value_good, MK.gd]
    · have h2 : (t == []) = false := by simp [h1]
      have hz : t.length ≤ LIM := by rw [LIMv]; omega
      have hp : 0 < t.length := List.length_pos_iff.mpr h1
      obtain ⟨z, hz'⟩ : ∃ z, t[t.length - 1]? = some z := ⟨_, List.getElem?_eq_getElem (by omega)⟩
      simp [hf, ho, F_Value_good, MK.gd, h2, hz, hz', List.getLast?_eq_getElem?]
  | name M R ends =>
    have e := nm_good h hl
    simp only [MK.rest, MK.cls] at ho
    simp [hf, ho, e]
noncomputable def MK.told : MK → Tx → AV
  | .num _, t => .int (nval t)
  | _, t => .str t
theorem mk_told (k : MK) (h : MkA μ a k t) (hl : t.length < 10000) (fo : FE) (ρ : Ev) (hf : fo ρ μ = .ok (.loc a) μ) : fMeth 1 [(6, F_Mark_told), (5, F_Mark_told), (3, F_Number_told), (1, F_Mark_told)] fo fNilL ρ μ = .ok (k.told t) μ := by
  have ho : insAt μ a = _ := h
  cases k with
  | ex g =>
    simp only [MK.rest, MK.cls] at ho
    simp [hf, ho, F_Mark_told, MK.told]
  | num M =>
    have e := num_told h (by omega)
    simp only [MK.rest, MK.cls] at ho
    simp [hf, ho, e, MK.told]
  | val M =>
    simp only [MK.rest, MK.cls] at ho
    simp [hf, ho, F_Mark_told, MK.told]
  | name M R ends =>
    simp only [MK.rest, MK.cls] at ho
    simp [hf, ho, F_Mark_told, MK.told]
noncomputable def ClA (μ : Mu) (a m x : Nat) (cl : Bool) : Prop := insAt μ a = some (8, [(27, .loc m), (28, .loc x), (29, .bl cl)])
noncomputable def clO (m x : Nat) (cl : Bool) : AO := .ins 8 [(27, .loc m), (28, .loc x), (29, .bl cl)]
theorem MK.cls_ne (k : MK) : k.cls ≠ 8 ∧ k.cls ≠ 9 ∧ k.cls ≠ 10 := by cases k <;> simp [MK.cls]
theorem ClA.fed {m x : Nat} {cl : Bool} {k : MK} {g ct : Tx} (h : ClA μ a m x cl) (hm : MkA μ m k t) (hx : MkA μ x (.ex g) ct) (hmx : m ≠ x) (hl : t.length < 10000) (hl' : ct.length < 10000) (hs : k.sz) (hg : g.length ≤ 10000) :
    F_Closed_fed [.loc a, .str [c]] μ = if (!cl && k.tk t c) = true then .ok (.bl true) (μ.set m (k.obj (t ++ [c]))) else if (k.gd t && pre (ct ++ [c]) g) = true then .ok (.bl true) ((μ.set x (MK.obj (.ex g) (ct ++ [c]))).set a (clO m x true)) else .ok (.bl false) μ := by
  have ho : insAt μ a = _ := h
  have hom : insAt μ m = _ := hm
  have e1 := mk_fed (c := c) k hm hl hs
  have e3 := mk_fed (c := c) (.ex g) hx hl' hg
  have hox : insAt μ x = some (1, [(20, .str ct), (21, .str g)]) := hx
  have hax : x ≠ a := by rintro rfl; have := ho.symm.trans hox; simp at this
  have e2 : ∀ ρ, fMeth 1 [(6, F_Name_good), (5, F_Value_good), (3, F_Number_good), (1, F_Exact_good)] (fFld 27 (fVar 0)) fNilL (some (.loc a) :: ρ) μ = .ok (.bl (k.gd t)) μ := fun ρ => mk_good k hm hl _ _ (by simp [ho])
  have d1 : ∀ ρ, fMeth 2 [(6, F_Mark_fed), (5, F_Mark_fed), (3, F_Mark_fed), (1, F_Mark_fed)] (fFld 27 (fVar 0)) (fConsL (fVar 1) fNilL) (some (.loc a) :: some (.str [c]) :: ρ) μ = F_Mark_fed [.loc m, .str [c]] μ := fun ρ => by
    cases k <;> (simp only [MK.cls] at hom; simp [ho, hom])
  have d3 : ∀ ρ, fMeth 2 [(1, F_Mark_fed)] (fFld 28 (fVar 0)) (fConsL (fVar 1) fNilL) (some (.loc a) :: some (.str [c]) :: ρ) μ = F_Mark_fed [.loc x, .str [c]] μ := fun ρ => by simp [ho, hox]
  rw [e1] at d1
  rw [e3] at d3
  simp only [MK.tk] at d3
  have ho2 : ∀ o, insAt (μ.set x o) a = some (8, [(27, .loc m), (28, .loc x), (29, .bl cl)]) := fun o => by rw [o_setN hax]; exact ho
  unfold F_Closed_fed
  cases cl with
  | true =>
    cases h2 : k.gd t with
    | false => simp [-o_meth, ho, e2, h2]
    | true =>
      cases h3 : pre (ct ++ [c]) g with
      | false => simp [-o_meth, ho, e2, h2, d3, h3]
      | true =>
        simp [-o_meth, ho, e2, h2, d3, h3, ho2]
        exact gc_len (by simp)
  | false =>
    cases h1 : k.tk t c with
    | true =>
      simp [-o_meth, ho, d1, h1]
      exact gc_len (by simp)
    | false =>
      cases h2 : k.gd t with
      | false => simp [-o_meth, ho, d1, h1, e2, h2]
      | true =>
        cases h3 : pre (ct ++ [c]) g with
        | false => simp [-o_meth, ho, d1, h1, e2, h2, d3, h3]
        | true =>
          simp [-o_meth, ho, d1, h1, e2, h2, d3, h3, ho2]
          exact gc_len (by simp)
theorem ClA.good {m x : Nat} {cl : Bool} {g ct : Tx} (h : ClA μ a m x cl) (hx : MkA μ x (.ex g) ct) : F_Closed_good [.loc a] μ = .ok (.bl (ct == g)) μ := by
  have ho : insAt μ a = _ := h
  have hox : insAt μ x = some (1, [(20, .str ct), (21, .str g)]) := hx
  have e := ex_good hx
  unfold F_Closed_good
  simp [ho, hox, e]
theorem ClA.told {m x : Nat} {cl : Bool} {k : MK} (h : ClA μ a m x cl) (hm : MkA μ m k t) (hl : t.length < 10000) : F_Closed_told [.loc a] μ = .ok (k.told t) μ := by
  have ho : insAt μ a = _ := h
  have e : ∀ ρ, fMeth 1 [(6, F_Mark_told), (5, F_Mark_told), (3, F_Number_told), (1, F_Mark_told)] (fFld 27 (fVar 0)) fNilL (some (.loc a) :: ρ) μ = .ok (k.told t) μ := fun ρ => mk_told k hm hl _ _ (by simp [ho])
  unfold F_Closed_told
  simp [-o_meth, e]
noncomputable def frO (bk : AV) (ends : List Tx) (nm hd : Nat) (v : AV) : AO := .ins 9 [(30, bk), (25, tps ends), (31, .loc nm), (32, .loc hd), (33, v)]
noncomputable def FrA (μ : Mu) (r : Nat) (bk : AV) (ends : List Tx) (nm hd : Nat) (v : AV) : Prop := insAt μ r = some (9, [(30, bk), (25, tps ends), (31, .loc nm), (32, .loc hd), (33, v)])
theorem MkA.set_ne {k : MK} (h : MkA μ a k t) {b : Nat} (o : AO) (hb : b ≠ a) : MkA (μ.set b o) a k t := by unfold MkA; rw [o_setN hb]; exact h
theorem MkA.set_self {k k' : MK} {t' : Tx} (h : MkA μ a k t) : MkA (μ.set a (k'.obj t')) a k' t' := o_setS (o_lt h)
theorem ClA.set_ne {m x : Nat} {cl : Bool} (h : ClA μ a m x cl) {b : Nat} (o : AO) (hb : b ≠ a) : ClA (μ.set b o) a m x cl := by unfold ClA; rw [o_setN hb]; exact h
theorem FrA.set_ne {bk v : AV} {ends : List Tx} {nm hd r : Nat} (h : FrA μ r bk ends nm hd v) {b : Nat} (o : AO) (hb : b ≠ r) : FrA (μ.set b o) r bk ends nm hd v := by unfold FrA; rw [o_setN hb]; exact h
theorem ins_ne {i j C D : Nat} {fs gs : List (Nat × AV)} (h : insAt μ i = some (C, fs)) (h' : insAt μ j = some (D, gs)) (hne : C ≠ D) : i ≠ j := by
  rintro rfl
  have := h.symm.trans h'
  simp at this
  exact hne this.1
structure RowN (μ : Mu) (r nm hd x : Nat) (bk : AV) (ends : List Tx) (M R : Int) (t : Tx) (cl : Bool) (ct : Tx) : Prop where
  f : FrA μ r bk ends nm hd .non
  n : MkA μ nm (.name M R ends) t
  h : ClA μ hd nm x cl
  x : MkA μ x (.ex [58, 32]) ct
variable {r nm hd x : Nat} {bk : AV} {ends : List Tx} {M R : Int} {cl : Bool} {ct : Tx}
theorem RowN.ne (h : RowN μ r nm hd x bk ends M R t cl ct) : nm ≠ x ∧ nm ≠ r ∧ nm ≠ hd ∧ x ≠ hd ∧ x ≠ r ∧ hd ≠ r := by
  have h1 : insAt μ nm = some (6, _) := h.n
  have h2 : insAt μ x = some (1, _) := h.x
  have h3 : insAt μ hd = some (8, _) := h.h
  have h4 : insAt μ r = some (9, _) := h.f
  exact ⟨ins_ne h1 h2 (by decide), ins_ne h1 h4 (by decide), ins_ne h1 h3 (by decide), ins_ne h2 h3 (by decide), ins_ne h2 h4 (by decide), ins_ne h3 h4 (by decide)⟩
theorem RowN.name (h : RowN μ r nm hd x bk ends M R t false []) (hl : t.length < 10000) (he : ends.length < 1000) (hk : MK.tk (.name M R ends) t c = true) :
    F_FieldRow_fed [.loc r, .str [c]] μ = .ok (.bl true) (μ.set nm (MK.obj (.name M R ends) (t ++ [c]))) ∧ RowN (μ.set nm (MK.obj (.name M R ends) (t ++ [c]))) r nm hd x bk ends M R (t ++ [c]) false [] := by
  obtain ⟨n1, n2, n3, n4, n5, n6⟩ := h.ne
  have e := h.h.fed (c := c) h.n h.x n1 hl (by decide) he (by decide)
  rw [if_pos (by simp [hk])] at e
  have z : RowN (μ.set nm (MK.obj (.name M R ends) (t ++ [c]))) r nm hd x bk ends M R (t ++ [c]) false [] := ⟨h.f.set_ne _ n2, h.n.set_self, h.h.set_ne _ n3, h.x.set_ne _ n1⟩
  have eg := z.h.good z.x
  have ho : insAt μ r = _ := h.f
  have hoh : insAt μ hd = _ := h.h
  have ho' : insAt (μ.set nm (MK.obj (.name M R ends) (t ++ [c]))) r = _ := z.f
  have hoh' : insAt (μ.set nm (MK.obj (.name M R ends) (t ++ [c]))) hd = _ := z.h
  refine ⟨?_, z⟩
  unfold F_FieldRow_fed
  simp [ho, hoh, e, ho', hoh', eg]
  exact gc_len (by simp)
noncomputable def setC (μ : Mu) (x hd nm : Nat) (ct : Tx) : Mu := (μ.set x (MK.obj (.ex [58, 32]) ct)).set hd (clO nm x true)
theorem RowN.toC (h : RowN μ r nm hd x bk ends M R t cl ct) (ct' : Tx) : RowN (setC μ x hd nm ct') r nm hd x bk ends M R t true ct' := by
  obtain ⟨n1, n2, n3, n4, n5, n6⟩ := h.ne
  refine ⟨(h.f.set_ne _ n5).set_ne _ n6, (h.n.set_ne _ (Ne.symm n1)).set_ne _ (Ne.symm n3), ?_, h.x.set_self.set_ne _ (Ne.symm n4)⟩
  exact o_setS (by rw [List.length_set]; exact o_lt h.h)
theorem RowN.colon (h : RowN μ r nm hd x bk ends M R t false []) (hl : t.length < 10000) (he : ends.length < 1000) (hk : MK.tk (.name M R ends) t 58 = false) (hg : MK.gd (.name M R ends) t = true) :
    F_FieldRow_fed [.loc r, .str [58]] μ = .ok (.bl true) (setC μ x hd nm [58]) ∧ RowN (setC μ x hd nm [58]) r nm hd x bk ends M R t true [58] := by
  obtain ⟨n1, n2, n3, n4, n5, n6⟩ := h.ne
  have e := h.h.fed (c := 58) h.n h.x n1 hl (by decide) he (by decide)
  rw [if_neg (by simp [hk]), if_pos (by simp [hg, pre])] at e
  have z := h.toC [58]
  have eg := z.h.good z.x
  have ho : insAt μ r = _ := h.f
  have hoh : insAt μ hd = _ := h.h
  have ho' : insAt (setC μ x hd nm [58]) r = _ := z.f
  have hoh' : insAt (setC μ x hd nm [58]) hd = _ := z.h
  refine ⟨?_, z⟩
  change F_Closed_fed [.loc hd, .str [58]] μ = .ok (.bl true) (setC μ x hd nm [58]) at e
  unfold F_FieldRow_fed
  simp [ho, hoh, e, ho', hoh', eg]
  exact gc_len (by simp [setC])
theorem set_app (μ : Mu) (o o' : AO) : (μ ++ [o]).set μ.length o' = μ ++ [o'] := by rw [List.set_append_right _ _ (Nat.le_refl _)]; simp
theorem set_app2 (μ : Mu) (o o' : AO) (r : Mu) : (μ ++ o :: r).set μ.length o' = μ ++ o' :: r := by rw [List.set_append_right _ _ (Nat.le_refl _)]; simp
theorem gc_app (μ : Mu) (o o' : AO) : gcR (μ ++ [o]) (.ok .non (μ ++ [o'])) = .ok .non (μ ++ [o']) := gc_len (by simp)
theorem gc_far {l : Nat} {m : Mu} (h : μ.length ≤ l) : gcR μ (.ok (.loc l) m) = .ok (.loc l) m := by
  have hc : ¬ gcC μ (.loc l) m := fun h => by
    have := h.1
    simp [bdd] at this
    omega
  simp [gcR, hc]
theorem gc_keep {i : Nat} {o : AO} {m : Mu} {d : AV} (hi : i < μ.length) (hm : m[i]? = some o) (hb : bddO μ.length o = false) (hne : μ[i]? ≠ some o) : gcR μ (.ok d m) = .ok d m := by
  have hc : ¬ gcC μ d m := fun h => by
    rcases h.2.2 i hi with z | ⟨o', z, z'⟩
    · exact hne (z.symm.trans hm)
    · rw [hm] at z
      cases z
      rw [hb] at z'
      cases z'
  simp [gcR, hc]
theorem mark_init (C : Nat) (hC : hasT [1, 2, 3, 5, 6] C = true) (μ : Mu) : F_Mark_init [.loc μ.length] (μ ++ [.ins C []]) = .ok .non (μ ++ [.ins C [(20, .str [])]]) := by
  unfold F_Mark_init
  simp [set_app, -o_hasT, -o_hasT0, hC]
  exact gc_app _ _ _
theorem exact_init (C : Nat) (hC : C = 1 ∨ C = 2) (g : Tx) (μ : Mu) : F_Exact_init [.loc μ.length, .str g] (μ ++ [.ins C []]) = .ok .non (μ ++ [.ins C [(20, .str []), (21, .str g)]]) := by
  have e := mark_init C (by rcases hC with rfl | rfl <;> rfl) μ
  unfold F_Exact_init
  rcases hC with rfl | rfl
  · simp [e, set_app]
    exact gc_app _ _ _
  · simp [e, set_app]
    exact gc_app _ _ _
theorem number_init (m : Int) (μ : Mu) : F_Number_init [.loc μ.length, .int 10, .int m] (μ ++ [.ins 3 []]) = .ok .non (μ ++ [MK.obj (.num m) []]) := by
  have e := mark_init 3 rfl μ
  unfold F_Number_init
  simp [e, set_app]
  exact gc_app _ _ _
theorem value_init (m : Int) (μ : Mu) : F_Value_init [.loc μ.length, .int m] (μ ++ [.ins 5 []]) = .ok .non (μ ++ [MK.obj (.val m) []]) := by
  have e := mark_init 5 rfl μ
  unfold F_Value_init
  simp [e, set_app]
  exact gc_app _ _ _
theorem name_init (M R : Int) (ends : List Tx) (μ : Mu) : F_Name_init [.loc μ.length, .int M, .int R, tps ends] (μ ++ [.ins 6 []]) = .ok .non (μ ++ [MK.obj (.name M R ends) []]) := by
  have e := mark_init 6 rfl μ
  unfold F_Name_init
  simp [e, set_app]
  exact gc_app _ _ _
theorem closed_init (m : Nat) (g : Tx) (μ : Mu) : F_Closed_init [.loc μ.length, .loc m, .str g] (μ ++ [.ins 8 []]) = .ok .non (μ ++ [clO m (μ.length + 1) false, MK.obj (.ex g) []]) := by
  have e := exact_init 1 (.inl rfl) g (μ ++ [.ins 8 [(27, .loc m)]])
  simp at e
  unfold F_Closed_init
  simp [e, set_app, set_app2]
  exact gc_keep (i := μ.length) (o := clO m (μ.length + 1) false) (by simp) (by simp [clO]) (by simp [bddO, bddL, bdd, clO]) (by simp [clO])
noncomputable def bkT (a b d e m p q : Int) : AV := .tup [.int a, .int b, .int d, .int e, .int m, .int p, .int q]
noncomputable def LEN : Tx := [108, 101, 110, 103, 116, 104]
noncomputable def YES : Tx := [121, 101, 115]
noncomputable def vk (ends : List Tx) (t : Tx) (d m : Int) : MK := if t ∈ ends then (if t = LEN then .num m else .ex YES) else .val d
theorem ntc {v : AV} (hf : FrA μ r bk ends nm hd v) (hn : MkA μ nm (.name M R ends) t) (hl : t.length < 10000) (hg : MK.gd (.name M R ends) t = true) : F_FieldRow_name_to_come [.loc r] μ = .ok (.str t) μ := by
  have ho : insAt μ r = _ := hf
  have hon : insAt μ nm = some (6, [(20, .str t), (23, .int M), (24, .int R), (25, tps ends)]) := hn
  have e := nm_awaited hn hl hg
  have hz : t.length ≤ LIM := by rw [LIMv]; omega
  unfold F_FieldRow_name_to_come
  simp [ho, hon, F_Mark_told, e, hz]
theorem vtc {b0 b1 d b3 m b5 b6 : Int} {v : AV} (hf : FrA μ r (bkT b0 b1 d b3 m b5 b6) ends nm hd v) (hn : MkA μ nm (.name M R ends) t) (hl : t.length < 10000) (hg : MK.gd (.name M R ends) t = true) :
    F_FieldRow_value_to_come [.loc r] μ = .ok (.loc (μ.length + 1)) (μ ++ [(vk ends t d m).obj [], clO μ.length (μ.length + 2) false, MK.obj (.ex [59, 10]) []]) := by
  have ho : insAt μ r = _ := hf
  have e := ntc hf hn hl hg
  have ec := fun (o : AO) => closed_init μ.length [59, 10] (μ ++ [o])
  simp at ec
  have hz : μ.length + 1 = μ.length + 1 := rfl
  have gg : ∀ m, gcR μ (.ok (.loc (μ.length + 1)) m) = .ok (.loc (μ.length + 1)) m := fun m => gc_far (by omega)
  unfold F_FieldRow_value_to_come vk
  by_cases h1 : t ∈ ends
  · by_cases h2 : t = LEN
    · have h2' : t = [108, 101, 110, 103, 116, 104] := h2
      rw [if_pos h1, if_pos h2]
      simp [-v_in, ho, e, in_tps, h1, ← h2', bkT, c_MOST_BODY, number_init, c_ROW_END, ec, gg]
    · have h2' : ¬ t = [108, 101, 110, 103, 116, 104] := h2
      have e3 := exact_init 1 (.inl rfl) YES μ
      unfold YES at e3
      rw [if_pos h1, if_neg h2]
      simp [-v_in, ho, e, in_tps, h1, h2', e3, c_ROW_END, ec, gg]
      rfl
  · rw [if_neg h1]
    simp [-v_in, ho, e, in_tps, h1, bkT, c_MOST_VALUE, value_init, c_ROW_END, ec, gg]
structure RowV (μ : Mu) (r nm hd vc mk x2 : Nat) (bk : AV) (ends : List Tx) (M R : Int) (t : Tx) (k : MK) (vt : Tx) (cl : Bool) (ct : Tx) : Prop where
  f : FrA μ r bk ends nm hd (.loc vc)
  n : MkA μ nm (.name M R ends) t
  v : ClA μ vc mk x2 cl
  m : MkA μ mk k vt
  x : MkA μ x2 (.ex [59, 10]) ct
  mx : mk ≠ x2
  nmk : k.cls ≠ 6
noncomputable def setR (μ : Mu) (r : Nat) (bk : AV) (ends : List Tx) (nm hd : Nat) (k : MK) : Mu := (μ ++ [k.obj [], clO μ.length (μ.length + 2) false, MK.obj (.ex [59, 10]) []]).set r (frO bk ends nm hd (.loc (μ.length + 1)))
theorem insA (i : Nat) (C : Nat) (fs : List (Nat × AV)) (u : Mu) (h : insAt μ i = some (C, fs)) : insAt (μ ++ u) i = some (C, fs) := by rw [o_insL _ (o_lt h)]; exact h
theorem vk_cls (ends : List Tx) (t : Tx) (d m : Int) : (vk ends t d m).cls ≠ 6 ∧ (vk ends t d m).sz := by
  unfold vk
  split
  · split
    · exact ⟨by simp [MK.cls], trivial⟩
    · exact ⟨by simp [MK.cls], by simp [MK.sz, YES]⟩
  · exact ⟨by simp [MK.cls], trivial⟩
theorem RowN.toV (h : RowN μ r nm hd x bk ends M R t cl ct) (k : MK) (hk : k.cls ≠ 6) : RowV (setR μ r bk ends nm hd k) r nm hd (μ.length + 1) μ.length (μ.length + 2) bk ends M R t k [] false [] := by
  have l1 := o_lt h.f
  have l2 := o_lt h.n
  obtain ⟨n1, n2, n3, n4, n5, n6⟩ := h.ne
  refine ⟨o_setS (by simp; omega), ?_, ?_, ?_, ?_, by omega, hk⟩
  · refine MkA.set_ne (insA _ _ _ _ h.n) _ (Ne.symm n2)
  · refine ClA.set_ne ?_ _ (by omega)
    unfold ClA
    simp [insAt, clO]
  · refine MkA.set_ne ?_ _ (by omega)
    unfold MkA
    simp [insAt, MK.obj]
  · refine MkA.set_ne ?_ _ (by omega)
    unfold MkA
    simp [insAt, MK.obj]
theorem RowN.blank {b0 b1 d b3 m b5 b6 : Int} (h : RowN μ r nm hd x (bkT b0 b1 d b3 m b5 b6) ends M R t true [58]) (hl : t.length < 10000) (he : ends.length < 1000) (hg : MK.gd (.name M R ends) t = true) :
    ∃ μ', F_FieldRow_fed [.loc r, .str [32]] μ = .ok (.bl true) μ' ∧ μ' = setR (setC μ x hd nm [58, 32]) r (bkT b0 b1 d b3 m b5 b6) ends nm hd (vk ends t d m) := by
  obtain ⟨n1, n2, n3, n4, n5, n6⟩ := h.ne
  have e := h.h.fed (c := 32) h.n h.x n1 hl (by decide) he (by decide)
  rw [if_neg (by simp), if_pos (by simp [hg, pre])] at e
  have z := h.toC [58, 32]
  have eg := z.h.good z.x
  have ev := vtc z.f z.n hl hg
  have ho : insAt μ r = _ := h.f
  have hoh : insAt μ hd = _ := h.h
  have ho' : insAt (setC μ x hd nm [58, 32]) r = _ := z.f
  have hoh' : insAt (setC μ x hd nm [58, 32]) hd = _ := z.h
  have hoV : ∀ u, insAt (setC μ x hd nm [58, 32] ++ u) r = some (9, [(30, bkT b0 b1 d b3 m b5 b6), (25, tps ends), (31, .loc nm), (32, .loc hd), (33, .non)]) := fun u => insA _ _ _ _ z.f
  refine ⟨_, ?_, rfl⟩
  change F_Closed_fed [.loc hd, .str [32]] μ = .ok (.bl true) (setC μ x hd nm [58, 32]) at e
  unfold F_FieldRow_fed
  simp [ho, hoh, e, ho', hoh', eg, ev, hoV]
  have hlen : (setC μ x hd nm [58, 32]).length = μ.length := by simp [setC]
  have hr : r < μ.length := o_lt h.f
  refine gc_keep (i := r) (o := frO (bkT b0 b1 d b3 m b5 b6) ends nm hd (.loc ((setC μ x hd nm [58, 32]).length + 1))) hr ?_ ?_ ?_
  · rw [List.getElem?_set_self (by simp [hlen]; omega)]; rfl
  · simp [bddO, bddL, bdd, frO, bkT, tps, hlen]
  · rw [o_get ho]
    simp [frO]
theorem RowV.ne {vc mk x2 : Nat} {k : MK} {vt : Tx} (h : RowV μ r nm hd vc mk x2 bk ends M R t k vt cl ct) : mk ≠ r ∧ mk ≠ nm ∧ mk ≠ vc ∧ x2 ≠ r ∧ x2 ≠ nm ∧ x2 ≠ vc ∧ vc ≠ r ∧ vc ≠ nm := by
  have h1 : insAt μ nm = some (6, _) := h.n
  have h2 : insAt μ x2 = some (1, _) := h.x
  have h3 : insAt μ vc = some (8, _) := h.v
  have h4 : insAt μ r = some (9, _) := h.f
  have h5 : insAt μ mk = some (k.cls, _) := h.m
  have hc := k.cls_ne
  exact ⟨ins_ne h5 h4 hc.2.1, ins_ne h5 h1 h.nmk, ins_ne h5 h3 hc.1, ins_ne h2 h4 (by decide), ins_ne h2 h1 (by decide), ins_ne h2 h3 (by decide), ins_ne h3 h4 (by decide), ins_ne h3 h1 (by decide)⟩
variable {vc mk x2 : Nat} {k : MK} {vt : Tx}
theorem RowV.value (h : RowV μ r nm hd vc mk x2 bk ends M R t k vt false []) (hl : vt.length < 10000) (hs : k.sz) (hk : k.tk vt c = true) :
    F_FieldRow_fed [.loc r, .str [c]] μ = .ok (.bl true) (μ.set mk (k.obj (vt ++ [c]))) ∧ RowV (μ.set mk (k.obj (vt ++ [c]))) r nm hd vc mk x2 bk ends M R t k (vt ++ [c]) false [] := by
  obtain ⟨n1, n2, n3, n4, n5, n6, n7, n8⟩ := h.ne
  have e := h.v.fed (c := c) h.m h.x h.mx hl (by decide) hs (by decide)
  rw [if_pos (by simp [hk])] at e
  have ho : insAt μ r = _ := h.f
  have hoh : insAt μ vc = _ := h.v
  refine ⟨?_, h.f.set_ne _ n1, h.n.set_ne _ n2, h.v.set_ne _ n3, h.m.set_self, h.x.set_ne _ h.mx, h.mx, h.nmk⟩
  unfold F_FieldRow_fed
  simp [ho, hoh, e]
  exact gc_len (by simp)
noncomputable def setE (μ : Mu) (x2 vc mk : Nat) (ct : Tx) : Mu := (μ.set x2 (MK.obj (.ex [59, 10]) ct)).set vc (clO mk x2 true)
theorem RowV.toE (h : RowV μ r nm hd vc mk x2 bk ends M R t k vt cl ct) (ct' : Tx) : RowV (setE μ x2 vc mk ct') r nm hd vc mk x2 bk ends M R t k vt true ct' := by
  obtain ⟨n1, n2, n3, n4, n5, n6, n7, n8⟩ := h.ne
  refine ⟨(h.f.set_ne _ n4).set_ne _ n7, (h.n.set_ne _ n5).set_ne _ n8, ?_, (h.m.set_ne _ (Ne.symm h.mx)).set_ne _ (Ne.symm n3), h.x.set_self.set_ne _ (Ne.symm n6), h.mx, h.nmk⟩
  exact o_setS (by rw [List.length_set]; exact o_lt h.v)
theorem RowV.close (h : RowV μ r nm hd vc mk x2 bk ends M R t k vt cl ct) (hl : vt.length < 10000) (hs : k.sz) (hk : (!cl && k.tk vt c) = false) (hg : k.gd vt = true) (hc : pre (ct ++ [c]) [59, 10] = true) (hct : ct.length < 100) :
    F_FieldRow_fed [.loc r, .str [c]] μ = .ok (.bl true) (setE μ x2 vc mk (ct ++ [c])) := by
  have e := h.v.fed (c := c) h.m h.x h.mx hl (by omega) hs (by decide)
  rw [if_neg (by simp [hk]), if_pos (by simp [hg, hc])] at e
  have ho : insAt μ r = _ := h.f
  have hoh : insAt μ vc = _ := h.v
  change F_Closed_fed [.loc vc, .str [c]] μ = .ok (.bl true) (setE μ x2 vc mk (ct ++ [c])) at e
  unfold F_FieldRow_fed
  simp [ho, hoh, e]
  exact gc_len (by simp [setE])
theorem RowV.good (h : RowV μ r nm hd vc mk x2 bk ends M R t k vt cl ct) : F_FieldRow_good [.loc r] μ = .ok (.bl (ct == [59, 10])) μ := by
  have ho : insAt μ r = _ := h.f
  have hoh : insAt μ vc = _ := h.v
  have e := h.v.good h.x
  unfold F_FieldRow_good
  simp [ho, hoh, e]
theorem RowN.good (h : RowN μ r nm hd x bk ends M R t cl ct) : F_FieldRow_good [.loc r] μ = .ok (.bl false) μ := by
  have ho : insAt μ r = _ := h.f
  unfold F_FieldRow_good
  simp [ho]
noncomputable def dueE (ends : List Tx) (t : Tx) (k : MK) (vt : Tx) : AV := if t ∈ ends then (if t = LEN then .tup [.str t, k.told vt] else .tup [.str t, .int 0]) else .non
theorem RowV.etc (h : RowV μ r nm hd vc mk x2 bk ends M R t k vt cl ct) (hl : t.length < 10000) (hl' : vt.length < 10000) (hg : MK.gd (.name M R ends) t = true) : F_FieldRow_end_to_come [.loc r] μ = .ok (dueE ends t k vt) μ := by
  have ho : insAt μ r = _ := h.f
  have hoh : insAt μ vc = _ := h.v
  have e := ntc h.f h.n hl hg
  have e2 := h.v.told h.m hl'
  unfold F_FieldRow_end_to_come dueE
  by_cases h1 : t ∈ ends
  · by_cases h2 : t = LEN
    · have h2' : t = [108, 101, 110, 103, 116, 104] := h2
      rw [if_pos h1, if_pos h2]
      simp [-v_in, ho, hoh, e, in_tps, h1, ← h2', e2, LIMv]
    · have h2' : ¬ t = [108, 101, 110, 103, 116, 104] := h2
      rw [if_pos h1, if_neg h2]
      simp [-v_in, ho, hoh, e, in_tps, h1, h2', LIMv]
  · rw [if_neg h1]
    simp [-v_in, ho, e, in_tps, h1]
theorem RowV.told (h : RowV μ r nm hd vc mk x2 bk ends M R t k vt cl ct) (hl' : vt.length < 10000) : F_FieldRow_told [.loc r] μ = .ok (.tup [.str t, k.told vt]) μ := by
  have ho : insAt μ r = _ := h.f
  have hoh : insAt μ vc = _ := h.v
  have hon : insAt μ nm = some (6, [(20, .str t), (23, .int M), (24, .int R), (25, tps ends)]) := h.n
  have e2 := h.v.told h.m hl'
  unfold F_FieldRow_told
  simp [ho, hoh, hon, F_Mark_told, e2, LIMv]
theorem gc_idem {y : Rs AV} {d : AV} {m : Mu} (h : gcR μ y = .ok d m) : gcR μ (.ok d m) = .ok d m := by
  cases y with
  | ok d' m' =>
    by_cases hc : gcC μ d' m'
    · have h2 : Rs.ok d' (m'.take μ.length) = Rs.ok d m := by rw [← h]; simp [gcR, hc]
      cases h2
      refine gc_len ?_
      rw [List.length_take]
      have := hc.2.1
      omega
    · have h2 : Rs.ok d' m' = Rs.ok d m := by rw [← h]; simp [gcR, hc]
      cases h2
      simp [gcR, hc]
  | exc C fs m' => simp [gcR] at h
  | no => simp [gcR] at h
noncomputable def fsL (bk : AV) (R0 : Int) (ends : List Tx) (lp : Nat) (en row er : AV) : List (Nat × AV) := [(30, bk), (24, .int R0), (25, tps ends), (34, .loc lp), (35, en), (36, row), (37, er)]
noncomputable def fsO (bk : AV) (R0 : Int) (ends : List Tx) (lp : Nat) (en row er : AV) : AO := .ins 10 (fsL bk R0 ends lp en row er)
noncomputable def FsA (μ : Mu) (i : Nat) (bk : AV) (R0 : Int) (ends : List Tx) (lp : Nat) (en row er : AV) : Prop := insAt μ i = some (10, fsL bk R0 ends lp en row er)
theorem FsA.set_ne {i lp : Nat} {R0 : Int} {en row er : AV} (h : FsA μ i bk R0 ends lp en row er) {b : Nat} (o : AO) (hb : b ≠ i) : FsA (μ.set b o) i bk R0 ends lp en row er := by unfold FsA; rw [o_setN hb]; exact h
variable {i lp : Nat} {R0 : Int} {en row er : AV} {ps : List AV}
theorem fs_room (h : FsA μ i bk R0 ends lp en row er) (hp : lstAt μ lp = some ps) (hl : ps.length < 1000) : F_Fields_room_left [.loc i] μ = .ok (.int (R0 - ps.length)) μ := by
  have ho : insAt μ i = some (10, [(30, bk), (24, .int R0), (25, tps ends), (34, .loc lp), (35, en), (36, row), (37, er)]) := h
  have hz : ps.length ≤ LIM := by rw [LIMv]; omega
  unfold F_Fields_room_left
  simp [ho, hp, hz]
theorem fs_row {μ1 : Mu} {fs fs1 : List (Nat × AV)} (h : FsA μ i bk R0 ends lp .non (.loc r) .non) (e : F_FieldRow_fed [.loc r, .str [c]] μ = .ok (.bl true) μ1) (h1 : FsA μ1 i bk R0 ends lp .non (.loc r) .non) (hr : insAt μ r = some (9, fs)) (hr1 : insAt μ1 r = some (9, fs1)) (eg : F_FieldRow_good [.loc r] μ1 = .ok (.bl false) μ1) :
    F_Fields_fed [.loc i, .str [c]] μ = .ok (.bl true) μ1 := by
  have hg : gcR μ (.ok (.bl true) μ1) = .ok (.bl true) μ1 := gc_idem e
  have ho : insAt μ i = some (10, [(30, bk), (24, .int R0), (25, tps ends), (34, .loc lp), (35, .non), (36, .loc r), (37, .non)]) := h
  have ho1 : insAt μ1 i = some (10, [(30, bk), (24, .int R0), (25, tps ends), (34, .loc lp), (35, .non), (36, .loc r), (37, .non)]) := h1
  have hs : μ1.set i (.ins 10 [(30, bk), (24, .int R0), (25, tps ends), (34, .loc lp), (35, .non), (36, .loc r), (37, .non)]) = μ1 := set_same (o_get ho1)
  have e2 : F_Fields_fed_row [.loc i, .str [c]] μ = .ok (.bl true) μ1 := by
    unfold F_Fields_fed_row
    simp [ho, hr, e, ho1, hs, hr1, eg, hg]
  unfold F_Fields_fed
  simp [ho, e2, hg]
noncomputable def fsK (μ : Mu) (i : Nat) (bk : AV) (R0 : Int) (ends : List Tx) (lp : Nat) (en : AV) (ps : List AV) (p : AV) : Mu := (match en with
  | .non => μ.set lp (.lst (ps ++ [p]))
  | _ => μ).set i (fsO bk R0 ends lp en .non .non)
theorem fs_keep {μ1 : Mu} (h : FsA μ i bk R0 ends lp .non (.loc r) .non) (hp : μ[lp]? = some (.lst ps)) (hl : ps.length < 1000) (hv : RowV μ r nm hd vc mk x2 bk ends M R t k vt cl ct) (hlt : t.length < 10000) (hlv : vt.length < 10000) (hg : MK.gd (.name M R ends) t = true) :
    F_Fields_keep_row [.loc i] μ = .ok .non (fsK μ i bk R0 ends lp (dueE ends t k vt) ps (.tup [.str t, k.told vt])) := by
  have ho : insAt μ i = some (10, [(30, bk), (24, .int R0), (25, tps ends), (34, .loc lp), (35, .non), (36, .loc r), (37, .non)]) := h
  have hor : insAt μ r = some (9, _) := hv.f
  have hir : i ≠ r := ins_ne h hor (by decide)
  have hin : i ≠ nm := ins_ne h (show insAt μ nm = some (6, _) from hv.n) (by decide)
  have hiv : i ≠ vc := ins_ne h (show insAt μ vc = some (8, _) from hv.v) (by decide)
  have him : i ≠ mk := ins_ne h (show insAt μ mk = some (k.cls, _) from hv.m) (Ne.symm k.cls_ne.2.2)
  have hix : i ≠ x2 := ins_ne h (show insAt μ x2 = some (1, _) from hv.x) (by decide)
  have hlpi : i ≠ lp := by
    rintro rfl
    have := (o_get h).symm.trans hp
    simp at this
  have e1 := hv.etc hlt hlv hg
  have hz : ps.length < LIM := by rw [LIMv]; omega
  have hi := o_lt h
  have oS : ∀ fs, insAt (μ.set i (.ins 10 fs)) i = some (10, fs) := fun fs => o_setS hi
  have oR : ∀ o, insAt (μ.set i o) r = some (9, [(30, bk), (25, tps ends), (31, .loc nm), (32, .loc hd), (33, .loc vc)]) := fun o => by rw [o_setN hir]; exact hor
  have hv' : ∀ o, RowV (μ.set i o) r nm hd vc mk x2 bk ends M R t k vt cl ct := fun o => ⟨hv.f.set_ne _ hir, hv.n.set_ne _ hin, hv.v.set_ne _ hiv, hv.m.set_ne _ him, hv.x.set_ne _ hix, hv.mx, hv.nmk⟩
  have e2 : ∀ o, F_FieldRow_told [.loc r] (μ.set i o) = .ok (.tup [.str t, k.told vt]) (μ.set i o) := fun o => (hv' o).told hlv
  have hp' : ∀ o, (μ.set i o)[lp]? = some (.lst ps) := fun o => by rw [List.getElem?_set_ne hlpi]; exact hp
  have hpl : ∀ o, lstAt (μ.set i o) lp = some ps := fun o => by unfold lstAt; rw [hp' o]
  have oT : ∀ fs o, insAt ((μ.set lp o).set i (.ins 10 fs)) i = some (10, fs) := fun fs o => o_setS (by rw [List.length_set]; exact hi)
  have hcm : ∀ o o' : AO, (μ.set i o).set lp o' = (μ.set lp o').set i o := fun o o' => List.set_comm _ _ hlpi
  unfold F_Fields_keep_row fsK
  cases hd : dueE ends t k vt with
  | non =>
    rw [hd] at e1
    simp [ho, hor, e1, oS, oR, e2, hp', hpl, hz, oT, hcm]
    exact gc_len (by simp)
  | tup ds =>
    rw [hd] at e1
    simp [ho, hor, e1, oS, oR]
    exact gc_len (by simp)
  | _ => 
    exfalso
    unfold dueE at hd
    split at hd
    · split at hd <;> cases hd
    · cases hd
theorem fs_close {μ1 : Mu} {fs : List (Nat × AV)} (h : FsA μ i bk R0 ends lp .non (.loc r) .non) (e : F_FieldRow_fed [.loc r, .str [c]] μ = .ok (.bl true) μ1) (hlen : μ1.length = μ.length) (h1 : FsA μ1 i bk R0 ends lp .non (.loc r) .non) (hr : insAt μ r = some (9, fs)) (hv : RowV μ1 r nm hd vc mk x2 bk ends M R t k vt cl [59, 10]) (hp : μ1[lp]? = some (.lst ps)) (hl : ps.length < 1000) (hlt : t.length < 10000) (hlv : vt.length < 10000) (hg : MK.gd (.name M R ends) t = true) :
    F_Fields_fed [.loc i, .str [c]] μ = .ok (.bl true) (fsK μ1 i bk R0 ends lp (dueE ends t k vt) ps (.tup [.str t, k.told vt])) := by
  have ho : insAt μ i = some (10, [(30, bk), (24, .int R0), (25, tps ends), (34, .loc lp), (35, .non), (36, .loc r), (37, .non)]) := h
  have ho1 : insAt μ1 i = some (10, [(30, bk), (24, .int R0), (25, tps ends), (34, .loc lp), (35, .non), (36, .loc r), (37, .non)]) := h1
  have hr1 : insAt μ1 r = some (9, _) := hv.f
  have eg := hv.good
  have ek := fs_keep (μ1 := μ1) h1 hp hl hv hlt hlv hg
  have hs : μ1.set i (.ins 10 [(30, bk), (24, .int R0), (25, tps ends), (34, .loc lp), (35, .non), (36, .loc r), (37, .non)]) = μ1 := set_same (o_get ho1)
  have hgc : gcR μ (.ok (.bl true) (fsK μ1 i bk R0 ends lp (dueE ends t k vt) ps (.tup [.str t, k.told vt]))) = .ok (.bl true) (fsK μ1 i bk R0 ends lp (dueE ends t k vt) ps (.tup [.str t, k.told vt])) := gc_len (by unfold fsK; cases dueE ends t k vt <;> simp [hlen])
  have e2 : F_Fields_fed_row [.loc i, .str [c]] μ = .ok (.bl true) (fsK μ1 i bk R0 ends lp (dueE ends t k vt) ps (.tup [.str t, k.told vt])) := by
    unfold F_Fields_fed_row
    simp [ho, hr, e, ho1, hs, hr1, eg, ek, hgc]
  unfold F_Fields_fed
  simp [ho, e2, hgc]
theorem frow_init {b0 b1 d b3 m b5 b6 : Int} (R : Int) (ends : List Tx) (μ : Mu) : F_FieldRow_init [.loc μ.length, bkT b0 b1 d b3 m b5 b6, .int R, tps ends] (μ ++ [.ins 9 []]) = .ok .non (μ ++ [frO (bkT b0 b1 d b3 m b5 b6) ends (μ.length + 1) (μ.length + 2) .non, MK.obj (.name b1 (if d > 0 then R else 0) ends) [], clO (μ.length + 1) (μ.length + 3) false, MK.obj (.ex [58, 32]) []]) := by
  have e1 := name_init b1 (if d > 0 then R else 0) ends (μ ++ [.ins 9 [(30, bkT b0 b1 d b3 m b5 b6), (25, tps ends)]])
  have e2 := fun o => closed_init (μ.length + 1) [58, 32] (μ ++ [.ins 9 [(30, bkT b0 b1 d b3 m b5 b6), (25, tps ends), (31, .loc (μ.length + 1))], o])
  simp at e1 e2
  unfold F_FieldRow_init
  have hgc : ∀ u, gcR (μ ++ [AO.ins 9 []]) (.ok .non (μ ++ frO (bkT b0 b1 d b3 m b5 b6) ends (μ.length + 1) (μ.length + 2) .non :: u)) = .ok .non (μ ++ frO (bkT b0 b1 d b3 m b5 b6) ends (μ.length + 1) (μ.length + 2) .non :: u) := fun u =>
    gc_keep (i := μ.length) (o := frO (bkT b0 b1 d b3 m b5 b6) ends (μ.length + 1) (μ.length + 2) .non) (by simp) (by simp) (by simp [bddO, bddL, bdd, frO, bkT, tps]) (by simp [frO])
  unfold frO bkT at hgc
  unfold bkT at e1 e2
  by_cases hd : (0 : Int) < d
  · simp [hd] at e1
    simp [set_app, set_app2, bkT, c_MOST_NAME, c_MOST_VALUE, hd, e1, e2, frO]
    exact hgc _
  · simp [hd] at e1
    simp [set_app, set_app2, bkT, c_MOST_NAME, c_MOST_VALUE, hd, e1, e2, frO]
    exact hgc _
theorem RowN.set_ne (h : RowN μ r nm hd x bk ends M R t cl ct) {b : Nat} (o : AO) (h1 : b ≠ r) (h2 : b ≠ nm) (h3 : b ≠ hd) (h4 : b ≠ x) : RowN (μ.set b o) r nm hd x bk ends M R t cl ct := ⟨h.f.set_ne _ h1, h.n.set_ne _ h2, h.h.set_ne _ h3, h.x.set_ne _ h4⟩
theorem fs_start {b0 b1 d b3 m b5 b6 : Int} (h : FsA μ i (bkT b0 b1 d b3 m b5 b6) R0 ends lp .non .non .non) (hp : lstAt μ lp = some ps) (hl : ps.length < 1000) (he : ends.length < 1000) (hc : c ≠ 59) (hk : MK.tk (.name b1 (if d > 0 then R0 - ps.length else 0) ends) [] c = true) :
    ∃ ν, F_Fields_fed [.loc i, .str [c]] μ = .ok (.bl true) ν ∧ FsA ν i (bkT b0 b1 d b3 m b5 b6) R0 ends lp .non (.loc μ.length) .non ∧
      RowN ν μ.length (μ.length + 1) (μ.length + 2) (μ.length + 3) (bkT b0 b1 d b3 m b5 b6) ends b1 (if d > 0 then R0 - ps.length else 0) [c] false [] ∧ ∀ l, l < μ.length → l ≠ i → ν[l]? = μ[l]? := by
  have hi := o_lt h
  have ho : insAt μ i = some (10, [(30, bkT b0 b1 d b3 m b5 b6), (24, .int R0), (25, tps ends), (34, .loc lp), (35, .non), (36, .non), (37, .non)]) := h
  have er := fs_room h hp hl
  have em := frow_init (b0 := b0) (b1 := b1) (d := d) (b3 := b3) (m := m) (b5 := b5) (b6 := b6) (R0 - ps.length) ends μ
  obtain ⟨u, hu⟩ : ∃ u, u = [frO (bkT b0 b1 d b3 m b5 b6) ends (μ.length + 1) (μ.length + 2) .non, MK.obj (.name b1 (if d > 0 then R0 - ps.length else 0) ends) [], clO (μ.length + 1) (μ.length + 3) false, MK.obj (.ex [58, 32]) []] := ⟨_, rfl⟩
  have z0 : RowN (μ ++ u) μ.length (μ.length + 1) (μ.length + 2) (μ.length + 3) (bkT b0 b1 d b3 m b5 b6) ends b1 (if d > 0 then R0 - ps.length else 0) [] false [] := by
    subst hu
    refine ⟨?_, ?_, ?_, ?_⟩
    · unfold FrA; simp [insAt, frO]
    · unfold MkA; simp [insAt, MK.obj]
    · unfold ClA; simp [insAt, clO]
    · unfold MkA; simp [insAt, MK.obj]
  rw [← hu] at em
  obtain ⟨e1, z1⟩ := z0.name (c := c) (by decide) he hk
  obtain ⟨ν1, hν1⟩ : ∃ ν1, ν1 = (μ ++ u).set (μ.length + 1) (MK.obj (.name b1 (if d > 0 then R0 - ps.length else 0) ends) ([] ++ [c])) := ⟨_, rfl⟩
  rw [← hν1] at e1 z1
  have ho1 : insAt ν1 i = some (10, [(30, bkT b0 b1 d b3 m b5 b6), (24, .int R0), (25, tps ends), (34, .loc lp), (35, .non), (36, .non), (37, .non)]) := by
    rw [hν1, o_setN (by omega)]
    exact insA _ _ _ _ ho
  have l1 : ν1.length = μ.length + u.length := by rw [hν1]; simp
  obtain ⟨ν2, hν2⟩ : ∃ ν2, ν2 = ν1.set i (fsO (bkT b0 b1 d b3 m b5 b6) R0 ends lp .non (.loc μ.length) .non) := ⟨_, rfl⟩
  have z2 : RowN ν2 μ.length (μ.length + 1) (μ.length + 2) (μ.length + 3) (bkT b0 b1 d b3 m b5 b6) ends b1 (if d > 0 then R0 - ps.length else 0) [c] false [] := by
    rw [hν2]
    exact z1.set_ne _ (by omega) (by omega) (by omega) (by omega)
  have f2 : FsA ν2 i (bkT b0 b1 d b3 m b5 b6) R0 ends lp .non (.loc μ.length) .non := by
    rw [hν2]
    exact o_setS (by omega)
  have hgc : gcR μ (.ok (.bl true) ν2) = .ok (.bl true) ν2 := gc_keep (i := i) (o := fsO (bkT b0 b1 d b3 m b5 b6) R0 ends lp .non (.loc μ.length) .non) hi (o_get f2) (by simp [bddO, bddL, bdd, fsO, fsL, bkT, tps]) (by rw [o_get ho]; simp [fsO, fsL])
  have eg := z2.good
  have hor : insAt (μ ++ u) μ.length = some (9, _) := z0.f
  have hor2 : insAt ν2 μ.length = some (9, _) := z2.f
  have e2 : F_Fields_fed_row [.loc i, .str [c]] μ = .ok (.bl true) ν2 := by
    unfold fsO fsL at hν2
    unfold F_Fields_fed_row
    simp [ho, er, em, hor, e1, ho1, ← hν2, hor2, eg, hgc]
  refine ⟨ν2, ?_, f2, z2, fun l hl hne => ?_⟩
  · have hc' : ¬ c = 59 := hc
    unfold F_Fields_fed
    simp [ho, c_ROW_END, LIMv, hc', e2, hgc]
  · rw [hν2, List.getElem?_set_ne (Ne.symm hne), hν1, List.getElem?_set_ne (by omega), List.getElem?_append_left hl]
inductive Run (i : Nat) : Mu → Tx → Mu → Prop
  | nil {μ : Mu} : Run i μ [] μ
  | cons {μ μ1 μ2 : Mu} {c : Nat} {cs : Tx} {fs : List (Nat × AV)} (ho : insAt μ i = some (10, fs)) (w : F_Fields_whole [.loc i] μ = .ok (.bl false) μ) (e : F_Fields_fed [.loc i, .str [c]] μ = .ok (.bl true) μ1) (z : Run i μ1 cs μ2) : Run i μ (c :: cs) μ2
theorem Run.append {μ1 μ2 : Mu} {cs ds : Tx} (h : Run i μ cs μ1) (h' : Run i μ1 ds μ2) : Run i μ (cs ++ ds) μ2 := by
  induction h with
  | nil => exact h'
  | cons ho w e z ih => exact .cons ho w e (ih h')
theorem FsA.nw (h : FsA μ i bk R0 ends lp en row .non) : F_Fields_whole [.loc i] μ = .ok (.bl false) μ := by
  have ho : insAt μ i = some (10, [(30, bk), (24, .int R0), (25, tps ends), (34, .loc lp), (35, en), (36, row), (37, .non)]) := h
  unfold F_Fields_whole
  simp [ho]
theorem FsA.one {ν : Mu} (h : FsA μ i bk R0 ends lp en row .non) (e : F_Fields_fed [.loc i, .str [c]] μ = .ok (.bl true) ν) : Run i μ [c] ν := .cons h h.nw e .nil
noncomputable def Kp (N : Nat) (μ μ' : Mu) : Prop := ∀ l, l < N → μ'[l]? = μ[l]?
theorem Kp.refl {N : Nat} : Kp N μ μ := fun _ _ => rfl
theorem Kp.trans {N : Nat} {μ1 μ2 : Mu} (h : Kp N μ μ1) (h' : Kp N μ1 μ2) : Kp N μ μ2 := fun l hl => (h' l hl).trans (h l hl)
theorem Kp.set {N b : Nat} {o : AO} (h : N ≤ b) : Kp N μ (μ.set b o) := fun l hl => List.getElem?_set_ne (by omega)
noncomputable def TkA (k : MK) : Tx → Tx → Prop
  | _, [] => True
  | p, c :: s => k.tk p c = true ∧ TkA k (p ++ [c]) s
theorem run_name {N : Nat} (he : ends.length < 1000) (hN : N ≤ nm) : ∀ (s p : Tx) (ν : Mu), FsA ν i bk R0 ends lp .non (.loc r) .non → RowN ν r nm hd x bk ends M R p false [] → TkA (.name M R ends) p s → (p ++ s).length < 10000 →
    ∃ ν', Run i ν s ν' ∧ FsA ν' i bk R0 ends lp .non (.loc r) .non ∧ RowN ν' r nm hd x bk ends M R (p ++ s) false [] ∧ ν'.length = ν.length ∧ Kp N ν ν' ∧ (∀ l, l ≠ nm → ν'[l]? = ν[l]?)
  | [], p, ν, hF, hR, _, _ => ⟨ν, .nil, hF, by simpa using hR, rfl, Kp.refl, fun _ _ => rfl⟩
  | c :: s, p, ν, hF, hR, hk, hl => by
    obtain ⟨e, z⟩ := hR.name (c := c) (by simp at hl; omega) he hk.1
    have hin : nm ≠ i := ins_ne (show insAt ν nm = some (6, _) from hR.n) (show insAt ν i = some (10, _) from hF) (by decide)
    have hF1 := hF.set_ne (MK.obj (.name M R ends) (p ++ [c])) hin
    have ef := fs_row hF e hF1 (show insAt ν r = some (9, _) from hR.f) (show insAt _ r = some (9, _) from z.f) z.good
    obtain ⟨ν', h1, h2, h3, h4, h5, h6⟩ := run_name he hN s (p ++ [c]) _ hF1 z hk.2 (by simpa using hl)
    refine ⟨ν', .cons hF hF.nw ef h1, h2, by simpa using h3, by rw [h4]; simp, (Kp.set hN).trans h5, fun l hl => ?_⟩
    rw [h6 l hl, List.getElem?_set_ne (Ne.symm hl)]
theorem run_value {N : Nat} (hs : k.sz) (hN : N ≤ mk) : ∀ (s p : Tx) (ν : Mu), FsA ν i bk R0 ends lp .non (.loc r) .non → RowV ν r nm hd vc mk x2 bk ends M R t k p false [] → TkA k p s → (p ++ s).length < 10000 →
    ∃ ν', Run i ν s ν' ∧ FsA ν' i bk R0 ends lp .non (.loc r) .non ∧ RowV ν' r nm hd vc mk x2 bk ends M R t k (p ++ s) false [] ∧ ν'.length = ν.length ∧ Kp N ν ν' ∧ (∀ l, l ≠ mk → ν'[l]? = ν[l]?)
  | [], p, ν, hF, hR, _, _ => ⟨ν, .nil, hF, by simpa using hR, rfl, Kp.refl, fun _ _ => rfl⟩
  | c :: s, p, ν, hF, hR, hk, hl => by
    obtain ⟨e, z⟩ := hR.value (c := c) (by simp at hl; omega) hs hk.1
    have hin : mk ≠ i := ins_ne (show insAt ν mk = some (k.cls, _) from hR.m) (show insAt ν i = some (10, _) from hF) k.cls_ne.2.2
    have hF1 := hF.set_ne (k.obj (p ++ [c])) hin
    have ef := fs_row hF e hF1 (show insAt ν r = some (9, _) from hR.f) (show insAt _ r = some (9, _) from z.f) z.good
    obtain ⟨ν', h1, h2, h3, h4, h5, h6⟩ := run_value hs hN s (p ++ [c]) _ hF1 z hk.2 (by simpa using hl)
    refine ⟨ν', .cons hF hF.nw ef h1, h2, by simpa using h3, by rw [h4]; simp, (Kp.set hN).trans h5, fun l hl => ?_⟩
    rw [h6 l hl, List.getElem?_set_ne (Ne.symm hl)]
theorem run_row {b0 b1 d b3 m b5 b6 : Int} {N : Nat} (h : FsA μ i (bkT b0 b1 d b3 m b5 b6) R0 ends lp .non .non .non) (hp : μ[lp]? = some (.lst ps)) (hl : ps.length < 1000) (he : ends.length < 1000) (hNi : N ≤ i) (hNl : N ≤ lp) (hNm : N ≤ μ.length)
    (y s v : Tx) (c : Nat) (hy : y = c :: s) (hc : c ≠ 59) (hyl : y.length < 10000) (hR : R = if d > 0 then R0 - ps.length else 0)
    (hn : TkA (.name b1 R ends) [] y) (hn2 : MK.tk (.name b1 R ends) y 58 = false) (hn3 : MK.gd (.name b1 R ends) y = true) (hk : k = vk ends y d m) (hvl : v.length < 10000) (hv : TkA k [] v) (hv2 : k.tk v 59 = false) (hv3 : k.gd v = true) :
    ∃ ν, Run i μ (y ++ [58, 32] ++ v ++ [59, 10]) ν ∧ FsA ν i (bkT b0 b1 d b3 m b5 b6) R0 ends lp (dueE ends y k v) .non .non ∧ ν[lp]? = some (.lst (match dueE ends y k v with
      | .non => ps ++ [.tup [.str y, k.told v]]
      | _ => ps)) ∧ Kp N μ ν ∧ μ.length ≤ ν.length := by
  subst hy
  have hpl : lstAt μ lp = some ps := by unfold lstAt; rw [hp]
  have hlp : lp < μ.length := (List.getElem?_eq_some_iff.mp hp).1
  have hil := o_lt h
  have hlpi : lp ≠ i := by
    rintro rfl
    have := (o_get h).symm.trans hp
    simp at this
  obtain ⟨ν0, e0, f0, r0, k0⟩ := fs_start (c := c) h hpl hl he hc (by rw [← hR]; exact hn.1)
  rw [← hR] at r0
  have len0 : μ.length + 3 < ν0.length := o_lt r0.x
  obtain ⟨ν1, g1, f1, r1, l1, kp1, q1⟩ := run_name (N := N) he (by omega) s [c] ν0 f0 r0 hn.2 (by simpa using hyl)
  have r1 : RowN ν1 μ.length (μ.length + 1) (μ.length + 2) (μ.length + 3) (bkT b0 b1 d b3 m b5 b6) ends b1 R (c :: s) false [] := r1
  obtain ⟨e2, r2⟩ := r1.colon hyl he hn2 hn3
  have f2 : FsA (setC ν1 (μ.length + 3) (μ.length + 2) (μ.length + 1) [58]) i (bkT b0 b1 d b3 m b5 b6) R0 ends lp .non (.loc μ.length) .non := (f1.set_ne _ (by omega)).set_ne _ (by omega)
  have ef2 := fs_row f1 e2 f2 (show insAt _ μ.length = some (9, _) from r1.f) (show insAt _ μ.length = some (9, _) from r2.f) r2.good
  obtain ⟨ν2, hν2⟩ : ∃ ν2, ν2 = setC ν1 (μ.length + 3) (μ.length + 2) (μ.length + 1) [58] := ⟨_, rfl⟩
  rw [← hν2] at e2 r2 f2 ef2
  have l2 : ν2.length = ν1.length := by rw [hν2]; simp [setC]
  have q2 : ∀ l, l < μ.length → ν2[l]? = ν1[l]? := fun l hl => by rw [hν2]; unfold setC; rw [List.getElem?_set_ne (by omega), List.getElem?_set_ne (by omega)]
  obtain ⟨ν3, e3, hν3⟩ := r2.blank hyl he hn3
  rw [← hk] at hν3
  have r2' := r2.toC [58, 32]
  have r3 := r2'.toV k (by rw [hk]; exact (vk_cls _ _ _ _).1)
  obtain ⟨μ2, hμ2⟩ : ∃ μ2, μ2 = setC ν2 (μ.length + 3) (μ.length + 2) (μ.length + 1) [58, 32] := ⟨_, rfl⟩
  rw [← hμ2] at hν3 r3
  rw [← hν3] at r3
  have lμ2 : μ2.length = ν2.length := by rw [hμ2]; simp [setC]
  have q3 : ∀ l, l < μ.length → ν3[l]? = ν2[l]? := fun l hl => by
    rw [hν3]
    unfold setR
    rw [List.getElem?_set_ne (by omega), List.getElem?_append_left (by omega), hμ2]
    unfold setC
    rw [List.getElem?_set_ne (by omega), List.getElem?_set_ne (by omega)]
  have f3 : FsA ν3 i (bkT b0 b1 d b3 m b5 b6) R0 ends lp .non (.loc μ.length) .non := o_ins (by rw [q3 i hil]; exact o_get f2)
  have ef3 := fs_row f2 e3 f3 (show insAt _ μ.length = some (9, _) from r2.f) (show insAt _ μ.length = some (9, _) from r3.f) r3.good
  have l3 : ν3.length = μ2.length + 3 := by rw [hν3]; simp [setR]
  obtain ⟨ν4, g4, f4, r4, l4, kp4, q4⟩ := run_value (N := N) (by rw [hk]; exact (vk_cls _ _ _ _).2) (by omega) v [] ν3 f3 r3 hv (by simpa using hvl)
  simp only [List.nil_append] at r4
  have hsz : k.sz := by rw [hk]; exact (vk_cls _ _ _ _).2
  have e5 := r4.close (c := 59) hvl hsz (by simp [hv2]) hv3 (by decide) (by decide)
  have r5 := r4.toE [59]
  simp only [List.nil_append] at e5
  obtain ⟨ν5, hν5⟩ : ∃ ν5, ν5 = setE ν4 (μ2.length + 2) (μ2.length + 1) μ2.length [59] := ⟨_, rfl⟩
  rw [← hν5] at e5 r5
  have q5 : ∀ l, l < μ.length → ν5[l]? = ν4[l]? := fun l hl => by rw [hν5]; unfold setE; rw [List.getElem?_set_ne (by omega), List.getElem?_set_ne (by omega)]
  have f5 : FsA ν5 i (bkT b0 b1 d b3 m b5 b6) R0 ends lp .non (.loc μ.length) .non := o_ins (by rw [q5 i hil]; exact o_get f4)
  have ef5 := fs_row f4 e5 f5 (show insAt _ μ.length = some (9, _) from r4.f) (show insAt _ μ.length = some (9, _) from r5.f) r5.good
  have e6 := r5.close (c := 10) hvl hsz (by simp) hv3 (by decide) (by decide)
  have r6 := r5.toE [59, 10]
  obtain ⟨ν6, hν6⟩ : ∃ ν6, ν6 = setE ν5 (μ2.length + 2) (μ2.length + 1) μ2.length [59, 10] := ⟨_, rfl⟩
  simp only [List.cons_append, List.nil_append] at e6
  rw [← hν6] at e6 r6
  have q6 : ∀ l, l < μ.length → ν6[l]? = ν5[l]? := fun l hl => by rw [hν6]; unfold setE; rw [List.getElem?_set_ne (by omega), List.getElem?_set_ne (by omega)]
  have f6 : FsA ν6 i (bkT b0 b1 d b3 m b5 b6) R0 ends lp .non (.loc μ.length) .non := o_ins (by rw [q6 i hil]; exact o_get f5)
  have l5 : ν5.length = ν4.length := by rw [hν5]; simp [setE]
  have l6 : ν6.length = ν5.length := by rw [hν6]; simp [setE]
  have hp6 : ν6[lp]? = some (.lst ps) := by
    rw [q6 lp hlp, q5 lp hlp, q4 lp (by omega), q3 lp hlp, q2 lp hlp, q1 lp (by omega), k0 lp hlp hlpi]
    exact hp
  have ef6 := fs_close f5 e6 l6 f6 (show insAt _ μ.length = some (9, _) from r5.f) r6 hp6 hl hyl hvl hn3
  obtain ⟨ν7, hν7⟩ : ∃ ν7, ν7 = fsK ν6 i (bkT b0 b1 d b3 m b5 b6) R0 ends lp (dueE ends (c :: s) k v) ps (.tup [.str (c :: s), k.told v]) := ⟨_, rfl⟩
  rw [← hν7] at ef6
  have i6 : i < ν6.length := o_lt f6
  have lp6 : lp < ν6.length := (List.getElem?_eq_some_iff.mp hp6).1
  refine ⟨ν7, ?_, ?_, ?_, ?_, ?_⟩
  · have := (f0.nw)
    have a0 := h.one e0
    have a2 := f1.one ef2
    have a3 := f2.one ef3
    have a5 := f4.one ef5
    have a6 := f5.one ef6
    have := ((((((a0.append g1).append a2).append a3).append g4).append a5).append a6)
    simpa using this
  · rw [hν7]
    unfold fsK
    exact o_setS (by cases dueE ends (c :: s) k v <;> simp [i6])
  · rw [hν7]
    unfold fsK
    rw [List.getElem?_set_ne (Ne.symm hlpi)]
    cases dueE ends (c :: s) k v with
    | non => simp [lp6]
    | _ => exact hp6
  · intro l hl
    rw [hν7]
    unfold fsK
    rw [List.getElem?_set_ne (by omega)]
    have : ν6[l]? = μ[l]? := by rw [q6 l (by omega), q5 l (by omega), q4 l (by omega), q3 l (by omega), q2 l (by omega), q1 l (by omega), k0 l (by omega) (by omega)]
    cases dueE ends (c :: s) k v with
    | non => rw [← this]; exact List.getElem?_set_ne (by omega)
    | _ => exact this
  · rw [hν7]
    unfold fsK
    cases dueE ends (c :: s) k v <;> simp <;> omega
noncomputable def ReA (μ : Mu) (a : Nat) (t : Tx) : Prop := insAt μ a = some (2, [(20, .str t), (21, .str [59, 10])])
noncomputable def reO (t : Tx) : AO := .ins 2 [(20, .str t), (21, .str [59, 10])]
theorem re_fed (h : ReA μ a t) (hl : t.length < 100) : F_Mark_fed [.loc a, .str [c]] μ = if pre (t ++ [c]) [59, 10] = true then .ok (.bl true) (μ.set a (reO (t ++ [c]))) else .ok (.bl false) μ := by
  have ho : insAt μ a = _ := h
  have hz1 : t.length + 1 ≤ LIM := by rw [LIMv]; omega
  have e : F_Exact_takes [.loc a, .str [c]] μ = .ok (.bl (pre (t ++ [c]) [59, 10])) μ := by
    unfold F_Exact_takes
    simp [ho, hz1]
  unfold F_Mark_fed
  cases hk : pre (t ++ [c]) [59, 10] with
  | true => rw [hk] at e; simp [ho, e, hz1]; exact gc_len (by simp)
  | false => rw [hk] at e; simp [ho, e]
theorem rend_init (μ : Mu) : F_RowEnd_init [.loc μ.length] (μ ++ [.ins 2 []]) = .ok .non (μ ++ [reO []]) := by
  have e := exact_init 2 (.inr rfl) [59, 10] μ
  unfold F_RowEnd_init
  simp [c_ROW_END, e]
  exact gc_app _ _ _
theorem FsA.whole {er : Nat} (h : FsA μ i bk R0 ends lp en row (.loc er)) (hr : ReA μ er t) : F_Fields_whole [.loc i] μ = .ok (.bl (t == [59, 10])) μ := by
  have ho : insAt μ i = some (10, [(30, bk), (24, .int R0), (25, tps ends), (34, .loc lp), (35, en), (36, row), (37, .loc er)]) := h
  have hor : insAt μ er = _ := hr
  have e : F_Exact_good [.loc er] μ = .ok (.bl (t == [59, 10])) μ := by
    unfold F_Exact_good
    simp [hor]
  unfold F_Fields_whole
  simp [ho, hor, e]
theorem FsA.fedE {er : Nat} (h : FsA μ i bk R0 ends lp en row (.loc er)) (hr : ReA μ er t) (hl : t.length < 100) : F_Fields_fed [.loc i, .str [c]] μ = if pre (t ++ [c]) [59, 10] = true then .ok (.bl true) (μ.set er (reO (t ++ [c]))) else .ok (.bl false) μ := by
  have ho : insAt μ i = some (10, [(30, bk), (24, .int R0), (25, tps ends), (34, .loc lp), (35, en), (36, row), (37, .loc er)]) := h
  have hor : insAt μ er = _ := hr
  have e := re_fed (c := c) hr hl
  unfold F_Fields_fed
  cases hk : pre (t ++ [c]) [59, 10] with
  | true => rw [hk] at e; simp at e; simp [ho, hor, e]; exact gc_len (by simp)
  | false => rw [hk] at e; simp at e; simp [ho, hor, e]
theorem run_empty {N : Nat} (h : FsA μ i bk R0 ends lp en .non .non) (hb : bdd μ.length bk = true) (hN : N ≤ i) (hNm : N ≤ μ.length) :
    ∃ ν, Run i μ [59, 10] ν ∧ FsA ν i bk R0 ends lp en .non (.loc μ.length) ∧ ReA ν μ.length [59, 10] ∧ (∀ l, l < μ.length → l ≠ i → ν[l]? = μ[l]?) := by
  have hi := o_lt h
  have ho : insAt μ i = some (10, [(30, bk), (24, .int R0), (25, tps ends), (34, .loc lp), (35, en), (36, .non), (37, .non)]) := h
  have ei := rend_init μ
  obtain ⟨ν1, hν1⟩ : ∃ ν1, ν1 = (μ ++ [reO []]).set i (fsO bk R0 ends lp en .non (.loc μ.length)) := ⟨_, rfl⟩
  have f1 : FsA ν1 i bk R0 ends lp en .non (.loc μ.length) := by rw [hν1]; exact o_setS (by simp; omega)
  have r1 : ReA ν1 μ.length [] := by
    rw [hν1]
    unfold ReA
    rw [o_setN (by omega)]
    exact o_insApp _ _ _
  have e1 := re_fed (c := 59) r1 (by decide)
  rw [if_pos (by decide)] at e1
  obtain ⟨ν2, hν2⟩ : ∃ ν2, ν2 = ν1.set μ.length (reO ([] ++ [59])) := ⟨_, rfl⟩
  rw [← hν2] at e1
  have l1 : ν1.length = μ.length + 1 := by rw [hν1]; simp
  have f2 : FsA ν2 i bk R0 ends lp en .non (.loc μ.length) := by rw [hν2]; exact f1.set_ne _ (by omega)
  have r2 : ReA ν2 μ.length [59] := by rw [hν2]; exact o_setS (by omega)
  have ho0 : insAt (μ ++ [reO []]) i = some (10, [(30, bk), (24, .int R0), (25, tps ends), (34, .loc lp), (35, en), (36, .non), (37, .non)]) := insA _ _ _ _ ho
  have hor1 : insAt ν1 μ.length = _ := r1
  have ho1 : insAt ν1 i = some (10, [(30, bk), (24, .int R0), (25, tps ends), (34, .loc lp), (35, en), (36, .non), (37, .loc μ.length)]) := f1
  have hgc : gcR μ (.ok (.bl true) ν2) = .ok (.bl true) ν2 := gc_keep (i := i) (o := fsO bk R0 ends lp en .non (.loc μ.length)) hi (o_get f2) (by simp [bddO, bddL, bdd, fsO, fsL]) (by rw [o_get ho]; simp [fsO, fsL])
  have e2 : F_Fields_fed [.loc i, .str [59]] μ = .ok (.bl true) ν2 := by
    unfold fsO fsL at hν1
    unfold F_Fields_fed
    simp [ho, c_ROW_END, LIMv, ei, ho0, ← hν1, ho1, hor1, e1, hgc]
  have e3 := f2.fedE (c := 10) r2 (by decide)
  rw [if_pos (by decide)] at e3
  have w2 := f2.whole r2
  refine ⟨_, .cons h h.nw e2 (.cons f2 w2 e3 .nil), f2.set_ne _ (by omega), o_setS (by rw [hν2]; simp [l1]), fun l hl hne => ?_⟩
  rw [List.getElem?_set_ne (by omega), hν2, List.getElem?_set_ne (by omega), hν1, List.getElem?_set_ne (Ne.symm hne), List.getElem?_append_left hl]
theorem FsA.awaitedE {er : Nat} (h : FsA μ i bk R0 ends lp en row (.loc er)) (hr : ReA μ er [59, 10]) : F_Fields_awaited [.loc i] μ = .ok (.str []) μ := by
  have ho : insAt μ i = some (10, [(30, bk), (24, .int R0), (25, tps ends), (34, .loc lp), (35, en), (36, row), (37, .loc er)]) := h
  have hor : insAt μ er = _ := hr
  have e : F_Exact_awaited [.loc er] μ = .ok (.str []) μ := by
    unfold F_Exact_awaited
    simp [hor, LIMv]
    rfl
  unfold F_Fields_awaited
  simp [ho, hor, e]
theorem FsA.toldP (h : FsA μ i bk R0 ends lp en row er) (hp : lstAt μ lp = some ps) (hl : ps.length < 1000) : F_Fields_told [.loc i] μ = .ok (.tup ps) μ := by
  have ho : insAt μ i = some (10, [(30, bk), (24, .int R0), (25, tps ends), (34, .loc lp), (35, en), (36, row), (37, er)]) := h
  have hz : ps.length ≤ LIM := by rw [LIMv]; omega
  unfold F_Fields_told
  simp [ho, hp, hz]
theorem FsA.toldE (h : FsA μ i bk R0 ends lp en row er) : F_Fields_told_end [.loc i] μ = .ok en μ := by
  have ho : insAt μ i = some (10, [(30, bk), (24, .int R0), (25, tps ends), (34, .loc lp), (35, en), (36, row), (37, er)]) := h
  unfold F_Fields_told_end
  simp [ho]
theorem fields_init {b0 b1 d b3 m b5 b6 : Int} (R0 : Int) (ends : List Tx) (μ : Mu) : F_Fields_init [.loc μ.length, bkT b0 b1 d b3 m b5 b6, .int R0, tps ends] (μ ++ [.ins 10 []]) = .ok .non (μ ++ [fsO (bkT b0 b1 d b3 m b5 b6) R0 ends (μ.length + 1) .non .non .non, .lst []]) := by
  unfold F_Fields_init
  simp [set_app, set_app2, LIMv]
  exact gc_keep (i := μ.length) (o := fsO (bkT b0 b1 d b3 m b5 b6) R0 ends (μ.length + 1) .non .non .non) (by simp) (by simp [fsO, fsL]) (by simp [bddO, bddL, bdd, fsO, fsL, bkT, tps]) (by simp [fsO, fsL])
end
section
theorem cell_eq (l : Nat) (ns : List Int) (k : Nat) (μ : Mu) (h : lstAt μ l = some (ns.map .int)) : ∃ c : Int, F__law_cell_at [.loc l, .int k] μ = .ok (.int c) μ := by
  by_cases hk : k < ns.length
  · refine ⟨ns[k], ?_⟩
    have e : ((k : Int) < (ns.length : Int)) = True := by simp; exact_mod_cast hk
    unfold F__law_cell_at
    simp [h, at_nat, hk, List.getElem?_eq_getElem hk]
  · refine ⟨0, ?_⟩
    have e : ¬ ((k : Int) < (ns.length : Int)) := by exact_mod_cast hk
    unfold F__law_cell_at
    simp [h, hk]
noncomputable def nxt (x : Int) (k : Nat) : Int := (x + 7919 * k + 1) * (x / 1009 + 69621) % 2147483647
theorem nxt_b (x : Int) (k : Nat) : 0 ≤ nxt x k ∧ nxt x k < 2147483647 := ⟨Int.emod_nonneg _ (by decide), Int.emod_lt_of_pos _ (by decide)⟩
theorem stream_eq (c : Int) (n : Nat) (hn : n < 100) (μ : Mu) : ∃ xs : List Int, xs.length = n ∧ F__law_stream [.int c, .int n] μ = .ok (.loc μ.length) (μ ++ [.lst (xs.map .int)]) := by
  have hsm : sm 62 (n : Int) = true := sm_of (by
    have : (2 : Nat) ^ 62 = 4611686018427387904 := by decide
    rw [this]; omega) (by decide)
  have h0 : mulOk (c + 1) 48271 = true := by
    have : sm 64 48271 = true := by decide +kernel
    simp [mulOk, this]
  obtain ⟨ρ', μ', e, xs, x, o, hx, hb, hb', hρ, hμ⟩ := forS (g := gNm 4) (n := 1000000) (ds := rngL 0 n) (ρ := [some (.int c), some (.int n), some (.loc μ.length), some (.int ((c + 1) * 48271 % 2147483647)), none]) (μ := μ ++ [.lst []])
    (fb := fSeq (fAsg (fOp modA (fOp mulG (fOp addG (fOp addG (fVar 3) (fOp mulG (fC (.int 7919)) (fVar 4))) (fC (.int 1))) (fOp addG (fOp fdivA (fVar 3) (fC (.int 1009))) (fC (.int 69621)))) (fC (.int 2147483647))) (gNm 3)) (fDrop (fBM "list" appendA (fVar 2) (fConsL (fVar 3) fNilL))))
    (fun k ρ ν => ∃ (xs : List Int) (x : Int) (o : Option AV), xs.length = k ∧ 0 ≤ x ∧ x < 2147483647 ∧ ρ = [some (.int c), some (.int n), some (.loc μ.length), some (.int x), o] ∧ ν = μ ++ [.lst (xs.map .int)])
    ⟨[], _, none, rfl, Int.emod_nonneg _ (by decide), Int.emod_lt_of_pos _ (by decide), rfl, rfl⟩ (by simp [rngL]; omega) (fun k d ρ ν hd ⟨xs, x, o, hx, hb, hb', hρ, hν⟩ => by
      rw [rngL_get] at hd
      by_cases hk : k < n
      · rw [if_pos hk] at hd
        cases hd
        subst hρ hν
        have h1 : mulOk 7919 ((0 : Int) + k) = true := by
          have : sm 64 7919 = true := by decide +kernel
          simp [mulOk, this]
        have h2 : mulOk (x + 7919 * ((0 : Int) + k) + 1) (x / 1009 + 69621) = true := by
          have : sm 64 (x / 1009 + 69621) = true := sm31 _ (by omega) (by omega)
          simp [mulOk, this]
        have h1' : mulOk 7919 (k : Int) = true := by simpa using h1
        have h2' : mulOk (x + 7919 * (k : Int) + 1) (x / 1009 + 69621) = true := by simpa using h2
        have hl : xs.length < LIM := by rw [LIMv]; omega
        refine ⟨_, _, _, _, rfl, ?_, xs ++ [nxt x k], nxt x k, some (.int k), by simp [hx], (nxt_b x k).1, (nxt_b x k).2, rfl, rfl⟩
        simp [h1', h2', divN, modN, hl, nxt, List.getElem?_append_right, List.set_append_right]
      · rw [if_neg hk] at hd
        cases hd)
  refine ⟨xs, by rw [hx]; simp [rngL], ?_⟩
  subst hρ hμ
  unfold F__law_stream
  simp [LIMv, h0, modN, hsm, e]
noncomputable def stripL (g : Nat → Bool) (x : Tx) : Tx := ((x.dropWhile g).reverse.dropWhile g).reverse
theorem drop_tw (g : Nat → Bool) : ∀ x : Tx, x.drop (x.takeWhile g).length = x.dropWhile g
  | [] => rfl
  | a :: x => by
    by_cases h : g a = true
    · simp [h, drop_tw g x]
    · simp [h]
theorem strip_eq (x : Tx) (y : Tx) : (Txt.stripChars ⟨x.toArray⟩ ⟨y.toArray⟩).cps.toList = stripL (fun c => y.contains c) x := by
  unfold Txt.stripChars
  rw [W.stripBy_eq]
  have hg : (y.toArray.contains) = fun c => y.contains c := by funext c; simp
  show ((W.stripped (y.toArray.contains) true true ⟨x.toArray⟩).cps).toList = _
  rw [hg]
  generalize (fun c => y.contains c) = g
  unfold W.stripped stripL
  simp only [if_true, Builtin.Str.strSub, Str.length, List.size_toArray]
  rw [drop_tw]
  have e1 : (x.dropWhile g).length = x.length - (x.takeWhile g).length := by rw [← drop_tw, List.length_drop]
  have e2 : (x.takeWhile g).length ≤ x.length := by
    have := congrArg List.length (List.takeWhile_append_dropWhile (p := g) (l := x))
    rw [List.length_append] at this
    omega
  have e3 := drop_tw g (x.dropWhile g).reverse
  have e4 : ((x.dropWhile g).reverse.takeWhile g).length ≤ (x.dropWhile g).length := by
    have := congrArg List.length (List.takeWhile_append_dropWhile (p := g) (l := (x.dropWhile g).reverse))
    rw [List.length_append, List.length_reverse] at this
    omega
  rw [← e3, List.drop_reverse, List.reverse_reverse]
  simp only [Array.toList_extract, List.extract_eq_take_drop, drop_tw]
  congr 1
  omega
theorem strip_mem (g : Nat → Bool) (x : Tx) : ∀ c ∈ stripL g x, c ∈ x := fun c hc => by
  unfold stripL at hc
  rw [List.mem_reverse] at hc
  have h1 := (List.dropWhile_suffix (l := (x.dropWhile g).reverse) g).subset hc
  rw [List.mem_reverse] at h1
  exact (List.dropWhile_suffix (l := x) g).subset h1
theorem strip_len (g : Nat → Bool) (x : Tx) : (stripL g x).length ≤ x.length := by
  unfold stripL
  have h1 := (List.dropWhile_suffix (l := (x.dropWhile g).reverse) g).length_le
  have h2 := (List.dropWhile_suffix (l := x) g).length_le
  rw [List.length_reverse] at h1 ⊢
  omega
theorem strip_last (g : Nat → Bool) (x : Tx) (c : Nat) (h : (stripL g x)[(stripL g x).length - 1]? = some c) : g c = false := by
  rw [← List.getLast?_eq_getElem?] at h
  unfold stripL at h
  rw [List.getLast?_reverse] at h
  have := List.head?_dropWhile_not g (x.dropWhile g).reverse
  rw [h] at this
  exact this
theorem strip_first (g : Nat → Bool) (x : Tx) (c : Nat) (h : (stripL g x)[0]? = some c) : g c = false := by
  rw [← List.head?_eq_getElem?] at h
  unfold stripL at h
  rw [List.head?_reverse] at h
  obtain ⟨t, ht⟩ := List.dropWhile_suffix (l := (x.dropWhile g).reverse) g
  have hl : (x.dropWhile g).reverse.getLast? = some c := by
    rw [← ht, List.getLast?_append, h]
    rfl
  rw [List.getLast?_reverse] at hl
  have := List.head?_dropWhile_not g x
  rw [hl] at this
  exact this
theorem cut_hi {α : Type} (x : List α) (n : Int) (h : 0 ≤ n) : cutL x none (some n) = x.take n.toNat := by
  unfold cutL
  show List.take ((if n < 0 then (n + (x.length : Int)).toNat else min n.toNat x.length) - 0) (List.drop 0 x) = _
  rw [if_neg (by omega)]
  simp only [List.drop_zero, Nat.sub_zero]
  rcases Nat.le_total n.toNat x.length with h1 | h1
  · rw [Nat.min_eq_left h1]
  · rw [Nat.min_eq_right h1, List.take_length, List.take_of_length_le h1]
theorem flat_one {α : Type} (f : α → Nat) (as : List α) : (as.map fun a => [f a]).flatten = as.map f := by
  induction as with
  | nil => rfl
  | cons x xs ih => simp only [List.map_cons, List.flatten_cons, ih, List.singleton_append]
theorem sum_one {α : Type} (f : α → Nat) (as : List α) : (as.map fun a => [f a].length).sum = as.length := by
  induction as with
  | nil => rfl
  | cons x xs ih => rw [List.map_cons, List.sum_cons, ih]; simp; omega
theorem draw_text {fe : FE} (g : Int → Nat) (hfe : ∀ x μ, fe [some (.int x)] μ = .ok (.str [g x]) μ) (xs : List Int) (M : Nat) (hM : 1 ≤ M) (hM2 : M ≤ 12) (hx : M < xs.length) (μ : Mu) (L : Nat) (hL : lstAt μ L = some (xs.map .int)) (a0 a3 : Option AV) :
    ∃ (y : Tx) (u : Mu), fBM "str" joinA (fC (.str [])) (fConsL (fComp 1000000 [none] (fiA (fSl slG (fVar 2) fNoPart (fPart (fOp addG (fC (.int 1)) (fOp modA (fOp ixA (fVar 2) (fVar 1)) (fVar 1)))))) (gNm 0) fYes fe) fNilL) [a0, some (.int (M : Int)), some (.loc L), a3] μ = .ok (.str y) (μ ++ u) ∧ 1 ≤ y.length ∧ y.length ≤ M ∧ ∀ d ∈ y, ∃ x, d = g x := by
  have hm0 : 0 ≤ xs[M] % (M : Int) := Int.emod_nonneg _ (by omega)
  have hm1 : xs[M] % (M : Int) < (M : Int) := Int.emod_lt_of_pos _ (by omega)
  obtain ⟨n, hn⟩ : ∃ n : Nat, (1 : Int) + xs[M] % (M : Int) = (n : Int) := ⟨(1 + xs[M] % (M : Int)).toNat, by omega⟩
  have hat : L2.atI (xs.map AV.int) (M : Int) = some (.int xs[M]) := by rw [at_nat]; simp [hx]
  have hmod : modOk xs[M] (M : Int) = true := modN _ _ (by omega)
  have hcut : cutL (xs.map AV.int) none (some (n : Int)) = (xs.take n).map .int := by rw [cut_hi _ _ (by omega), Int.toNat_natCast, List.map_take]
  have htl : (xs.take n).length = n := by rw [List.length_take]; omega
  have hc := e_compL1 (n := 1000000) (caps := [none]) (fi := fiA (fSl slG (fVar 2) fNoPart (fPart (fOp addG (fC (.int 1)) (fOp modA (fOp ixA (fVar 2) (fVar 1)) (fVar 1)))))) (fe := fe) (ρ := [a0, some (.int (M : Int)), some (.loc L), a3]) (μ := μ) (μ1 := μ ++ [.lst ((xs.take n).map .int)]) (rest := []) (l := μ.length) (xs.take n) .int (fun x => .str [g x]) (by simp [hL, hat, hmod, hn, hcut]) (by simp) rfl (fun x _ μ => hfe x μ) (by omega) (by omega)
  have hj := e_joinC [] (xs.take n) (fun x => [g x]) hc (by rw [sum_one]; simp [htl]; omega)
  simp only [joinL_nil, flat_one, List.append_assoc] at hj
  refine ⟨(xs.take n).map g, _, hj, by rw [List.length_map]; omega, by rw [List.length_map]; omega, fun d hd => ?_⟩
  obtain ⟨x, _, rfl⟩ := List.mem_map.mp hd
  exact ⟨x, rfl⟩
noncomputable def sg93 : List Nat := [97, 98, 32, 33, 34, 35, 36, 38, 39, 40, 41, 42, 43, 44, 45, 46, 47, 48, 49, 50, 51, 52, 53, 54, 55, 56, 57, 58, 60, 61, 62, 63, 64, 65, 66, 67, 68, 69, 70, 71, 72, 73, 74, 75, 76, 77, 78, 79, 80, 81, 82, 83, 84, 85, 86, 87, 88, 89, 90, 91, 92, 93, 94, 95, 96, 99, 100, 101, 102, 103, 104, 105, 106, 107, 108, 109, 110, 111, 112, 113, 114, 115, 116, 117, 118, 119, 120, 121, 122, 123, 124, 125, 126]
theorem sg93_ok : ∀ c ∈ sg93, vOk c = true := by decide
theorem sign_ex (x : Int) : ∃ c ∈ sg93, ∀ μ, F__law_sign [.int x] μ = .ok (.str [c]) μ := by
  obtain ⟨c, hc, e⟩ := atI_modE sg93 0 93 rfl x (by decide)
  refine ⟨c, hc, fun μ => ?_⟩
  unfold sg93 at e
  unfold F__law_sign
  simp [LIMv, modN, e]
noncomputable def sgX (x : Int) : Nat := Classical.choose (sign_ex x)
theorem sgX_ok (x : Int) : vOk (sgX x) = true := sg93_ok _ (Classical.choose_spec (sign_ex x)).1
theorem sgX_eq (x : Int) (μ : Mu) : F__law_sign [.int x] μ = .ok (.str [sgX x]) μ := (Classical.choose_spec (sign_ex x)).2 μ
structure VOk (M : Nat) (v : Tx) : Prop where
  one : 1 ≤ v.length
  le : v.length ≤ M
  ok : ∀ c ∈ v, vOk c = true
  fst : v[0]? ≠ some 32
  lst : v[v.length - 1]? ≠ some 32
theorem valueD (c : Int) (M : Nat) (hM : 1 ≤ M) (hM2 : M ≤ 12) (μ : Mu) : ∃ v, VOk M v ∧ F__law_value [.int c, .int (M : Int)] μ = .ok (.str v) μ := by
  obtain ⟨xs, hx, es⟩ := stream_eq c (M + 1) (by omega) μ
  have es' : F__law_stream [.int c, .int ((M : Int) + 1)] μ = .ok (.loc μ.length) (μ ++ [.lst (xs.map .int)]) := by rw [← es]; simp
  obtain ⟨y, u, e, h1, h2, h3⟩ := draw_text (fe := fCall 1 F__law_sign [] (fConsL (fVar 0) fNilL)) sgX (fun x μ => by simp [sgX_eq]) xs M hM hM2 (by omega) (μ ++ [.lst (xs.map .int)]) μ.length (by simp) (some (.int c)) none
  have hy : ∀ d ∈ y, vOk d = true := fun d hd => by
    obtain ⟨x, rfl⟩ := h3 d hd
    exact sgX_ok x
  have hst : ∀ μ, stripA (.str y) [.str [32]] μ = .ok (.str (stripL (fun c => [32].contains c) y)) μ := fun μ => by
    show (if y.length ≤ LIM then Rs.ok (AV.str (Txt.stripChars ⟨y.toArray⟩ ⟨[32].toArray⟩).cps.toList) μ else .no) = _
    rw [if_pos (by rw [LIMv]; omega), strip_eq]
  have zl := strip_len (fun c => [32].contains c) y
  have zm := strip_mem (fun c => [32].contains c) y
  have z0 := strip_first (fun c => [32].contains c) y
  have z1 := strip_last (fun c => [32].contains c) y
  generalize stripL (fun c => [32].contains c) y = z at *
  have g : ∀ (s : Tx) (t : Mu), gcR μ (.ok (.str s) (μ ++ t)) = .ok (.str s) μ := fun s t => e_gcA rfl
  by_cases hz : z = []
  · refine ⟨[126], ⟨by decide, by simpa using hM, by decide, by decide, by decide⟩, ?_⟩
    unfold F__law_value
    simp [-e_BM, es', e]
    simp [hst, hz]
  · have hne : 1 ≤ z.length := by cases z <;> simp_all
    refine ⟨z, ⟨hne, by omega, fun c hc => hy c (zm c hc), fun h => ?_, fun h => ?_⟩, ?_⟩
    · have := z0 32 h; simp at this
    · have := z1 32 h; simp at this
    · have hz' : (z == ([] : List Nat)) = false := by simpa using hz
      unfold F__law_value
      simp [-e_BM, es', e]
      simp [hst, hz]
theorem seq_nx {f g : FS} {ρ ρ1 : Ev} {μ μ1 : Mu} (h : f ρ μ = .ok (.nx ρ1) μ1) : fSeq f g ρ μ = g ρ1 μ1 := by
  rw [e_seq, h]
  rfl
noncomputable def abc : Tx := [97, 98, 99, 100, 101, 102, 103, 104, 105, 106, 107, 108, 109, 110, 111, 112, 113, 114, 115, 116, 117, 118, 119, 120, 121, 122]
theorem abc_ex (x : Int) : ∃ c ∈ abc, L2.atI abc (x % 26) = some c := atI_modE abc 0 26 rfl x (by decide)
noncomputable def abX (x : Int) : Nat := Classical.choose (abc_ex x)
theorem abX_sm (x : Int) : isSm (abX x) = true := by
  have : ∀ c ∈ abc, isSm c = true := by decide
  exact this _ (Classical.choose_spec (abc_ex x)).1
theorem abX_eq (x : Int) : L2.atI [97, 98, 99, 100, 101, 102, 103, 104, 105, 106, 107, 108, 109, 110, 111, 112, 113, 114, 115, 116, 117, 118, 119, 120, 121, 122] (x % 26) = some (abX x) := (Classical.choose_spec (abc_ex x)).2
structure NOk (M : Nat) (y : Tx) : Prop where
  one : 1 ≤ y.length
  le : y.length ≤ M
  ok : ∀ c ∈ y, isSm c = true
  ne : y ∉ ENDN
noncomputable def menu : List Tx := [[108, 101, 110, 103, 116, 104, 121], [112, 105, 101, 99], [112, 97, 114, 116, 115, 97], [114, 101, 115], [108, 101, 110, 103, 116, 104], [114, 101, 115, 116]]
theorem menu_ok : ∀ t ∈ menu, (∀ c ∈ t, isSm c = true) ∧ 1 ≤ t.length := by decide
theorem in_list {ν : Mu} {l : Nat} {ts : List Tx} (h : lstAt ν l = some (ts.map .str)) (x : Tx) (neg : Bool) : inG neg (.str x) (.loc l) ν = .ok (.bl (if neg then !decide (x ∈ ts) else decide (x ∈ ts))) ν := by
  have : inG neg (.str x) (.loc l) ν = inG neg (.str x) (.tup (ts.map .str)) ν := by
    unfold inG
    rw [show seqOf ν (.loc l) = some (ts.map .str) from h]
    rfl
  rw [this]
  exact v_inS _ _ _
noncomputable def sizeOk (M : Nat) (y : Tx) : Prop := 1 ≤ y.length ∧ y.length ≤ M ∧ ∀ c ∈ y, isSm c = true
theorem name_end {M : Nat} (hM2 : M ≤ 12) {y : Tx} (hy : sizeOk M y) (μ ν : Mu) (u : Mu) (hν : ν = μ ++ u) (a0 a1 a2 : Option AV) : ∃ z w, NOk M z ∧ (fSeq (fIf (fT (fOp (inG false) (fVar 3) (fLst (fConsL (fC (.str [108, 101, 110, 103, 116, 104])) (fConsL (fC (.str [112, 105, 101, 99, 101, 115])) (fConsL (fC (.str [112, 97, 114, 116, 115])) (fConsL (fC (.str [114, 101, 115, 116])) fNilL))))))) (fRet (fSl slG (fVar 3) (fPart (fC (.int 1))) fNoPart)) fNx) (fRet (fVar 3))) [a0, a1, a2, some (.str y)] ν = .ok (.rt (.str z)) (μ ++ w) := by
  obtain ⟨h1, h2, h3⟩ := hy
  have hl : lstAt (ν ++ [.lst [.str [108, 101, 110, 103, 116, 104], .str [112, 105, 101, 99, 101, 115], .str [112, 97, 114, 116, 115], .str [114, 101, 115, 116]]]) ν.length = some (ENDN.map .str) := by simp [ENDN]
  have hi := fun neg => in_list hl y neg
  have hz : y.length ≤ LIM := by rw [LIMv]; omega
  have hz4 : (4 : Nat) ≤ LIM := by decide
  by_cases he : y ∈ ENDN
  · refine ⟨cutL y (some 1) none, u ++ [.lst [.str [108, 101, 110, 103, 116, 104], .str [112, 105, 101, 99, 101, 115], .str [112, 97, 114, 116, 115], .str [114, 101, 115, 116]]], ?_, ?_⟩
    · have key : ∀ y ∈ ENDN, 1 ≤ (cutL y (some 1) none).length ∧ (cutL y (some 1) none).length ≤ y.length ∧ (∀ c ∈ cutL y (some 1) none, isSm c = true) ∧ cutL y (some 1) none ∉ ENDN := by decide
      obtain ⟨k1, k2, k3, k4⟩ := key y he
      exact ⟨k1, by omega, k3, k4⟩
    · simp [hz4, hi, he, hz]
      simp [hν]
  · refine ⟨y, u ++ [.lst [.str [108, 101, 110, 103, 116, 104], .str [112, 105, 101, 99, 101, 115], .str [112, 97, 114, 116, 115], .str [114, 101, 115, 116]]], ⟨h1, h2, h3, he⟩, ?_⟩
    simp [hz4, hi, he]
    simp [hν]
theorem nameD (c : Int) (M : Nat) (hM : 1 ≤ M) (hM2 : M ≤ 12) (μ : Mu) : ∃ y, NOk M y ∧ F__law_name [.int c, .int (M : Int)] μ = .ok (.str y) μ := by
  obtain ⟨xs, hx, es⟩ := stream_eq c (M + 2) (by omega) μ
  have es' : F__law_stream [.int c, .int ((M : Int) + 2)] μ = .ok (.loc μ.length) (μ ++ [.lst (xs.map .int)]) := by rw [← es]; simp
  obtain ⟨y, u, e, h1, h2, h3⟩ := draw_text (fe := fOp ixA (fC (.str [97, 98, 99, 100, 101, 102, 103, 104, 105, 106, 107, 108, 109, 110, 111, 112, 113, 114, 115, 116, 117, 118, 119, 120, 121, 122])) (fOp modA (fVar 0) (fC (.int 26)))) abX (fun x μ => by simp [LIMv, modN, abX_eq]) xs M hM hM2 (by omega) (μ ++ [.lst (xs.map .int)]) μ.length (by simp) (some (.int c)) none
  have hy : sizeOk M y := ⟨h1, h2, fun d hd => by
    obtain ⟨x, rfl⟩ := h3 d hd
    exact abX_sm x⟩
  have hx1 : M + 1 < xs.length := by omega
  have hat : L2.atI (xs.map AV.int) ((M : Int) + 1) = some (.int xs[M + 1]) := by
    rw [show (M : Int) + 1 = ((M + 1 : Nat) : Int) by omega, at_nat]
    simp [hx1]
  obtain ⟨q, hq⟩ : ∃ q, xs[M + 1] = q := ⟨_, rfl⟩
  rw [hq] at hat
  have hL : lstAt (μ ++ ([.lst (xs.map .int)] ++ u)) μ.length = some (xs.map .int) := by simp
  have d3 : divOk q 3 = true := by simp only [divOk]; decide +kernel
  obtain ⟨ν, hν⟩ : ∃ ν, ν = μ ++ ([.lst (xs.map .int)] ++ u) := ⟨_, rfl⟩
  rw [List.append_assoc, ← hν] at e
  rw [← hν] at hL
  have gz : ∀ (s : Tx) (t : Mu), gcR μ (.ok (.str s) (μ ++ t)) = .ok (.str s) μ := fun s t => e_gcA rfl
  have fin : ∀ z w (g : Rs AV), g = .ok (.str z) (μ ++ w) → gcR μ g = .ok (.str z) μ := fun z w g h => by rw [h]; exact gz _ _
  have s1 : ∀ g, fSeq (fAsg (fCall 2 F__law_stream [] (fConsL (fVar 0) (fConsL (fOp addG (fVar 1) (fC (.int 2))) fNilL))) (gNm 2)) g (startE ["_law_cell", "_law_most", "_law_xs", "_law_text"] [.int c, .int (M : Int)]) μ = g [some (.int c), some (.int (M : Int)), some (.loc μ.length), none] (μ ++ [.lst (xs.map .int)]) := fun g => seq_nx (by simp [es'])
  have s2 : ∀ g, fSeq (fAsg (fBM "str" joinA (fC (.str [])) (fConsL (fComp 1000000 [none] (fiA (fSl slG (fVar 2) fNoPart (fPart (fOp addG (fC (.int 1)) (fOp modA (fOp ixA (fVar 2) (fVar 1)) (fVar 1)))))) (gNm 0) fYes (fOp ixA (fC (.str [97, 98, 99, 100, 101, 102, 103, 104, 105, 106, 107, 108, 109, 110, 111, 112, 113, 114, 115, 116, 117, 118, 119, 120, 121, 122])) (fOp modA (fVar 0) (fC (.int 26))))) fNilL)) (gNm 3)) g [some (.int c), some (.int (M : Int)), some (.loc μ.length), none] (μ ++ [.lst (xs.map .int)]) = g [some (.int c), some (.int (M : Int)), some (.loc μ.length), some (.str y)] ν := fun g => seq_nx (by rw [e_asg, e]; simp)
  by_cases h0 : q % 3 = 0
  · obtain ⟨a, ha, ea⟩ := atI_modE (menu.map AV.str) .non 6 rfl (q / 3) (by decide)
    obtain ⟨b, hb, rfl⟩ := List.mem_map.mp ha
    obtain ⟨b1, b2⟩ := menu_ok b hb
    have hb7 : b.length ≤ 7 := by
      have : ∀ t ∈ menu, t.length ≤ 7 := by decide
      exact this b hb
    have hsz : sizeOk M (b.take M) := ⟨by rw [List.length_take]; omega, by rw [List.length_take]; omega, fun c hc => b1 c (List.mem_of_mem_take hc)⟩
    have hcut : cutL b none (some (M : Int)) = b.take M := by rw [cut_hi _ _ (by omega), Int.toNat_natCast]
    obtain ⟨z, w, hz, ez⟩ := name_end hM2 hsz μ (ν ++ [.lst (menu.map .str)]) (([.lst (xs.map .int)] ++ u) ++ [.lst (menu.map .str)]) (by rw [hν]; simp) (some (.int c)) (some (.int (M : Int))) (some (.loc μ.length))
    refine ⟨z, hz, ?_⟩
    have hbz : b.length ≤ LIM := by rw [LIMv]; omega
    have hz6 : (6 : Nat) ≤ LIM := by decide
    have d6 : modOk (q / 3) 6 = true := modN _ _ (by decide)
    have m3 : modOk q 3 = true := modN _ _ (by decide)
    unfold menu at ea ez
    simp only [List.map_cons, List.map_nil] at ea ez
    have s3 : ∀ g, fSeq (fIf (fT (fOp (eqA false) (fOp modA (fOp ixA (fVar 2) (fOp addG (fVar 1) (fC (.int 1)))) (fC (.int 3))) (fC (.int 0)))) (fAsg (fSl slG (fOp ixA (fLst (fConsL (fC (.str [108, 101, 110, 103, 116, 104, 121])) (fConsL (fC (.str [112, 105, 101, 99])) (fConsL (fC (.str [112, 97, 114, 116, 115, 97])) (fConsL (fC (.str [114, 101, 115])) (fConsL (fC (.str [108, 101, 110, 103, 116, 104])) (fConsL (fC (.str [114, 101, 115, 116])) fNilL))))))) (fOp modA (fOp fdivA (fOp ixA (fVar 2) (fOp addG (fVar 1) (fC (.int 1)))) (fC (.int 3))) (fC (.int 6)))) fNoPart (fPart (fVar 1))) (gNm 3)) fNx) g [some (.int c), some (.int (M : Int)), some (.loc μ.length), some (.str y)] ν = g [some (.int c), some (.int (M : Int)), some (.loc μ.length), some (.str (b.take M))] (ν ++ [.lst [.str [108, 101, 110, 103, 116, 104, 121], .str [112, 105, 101, 99], .str [112, 97, 114, 116, 115, 97], .str [114, 101, 115], .str [108, 101, 110, 103, 116, 104], .str [114, 101, 115, 116]]]) := fun g => seq_nx (by
      have hL2 : ∀ w, lstAt (ν ++ w) μ.length = some (xs.map .int) := fun w => by rw [lstAt_left (lstAt_lt hL)]; exact hL
      simp [hL, hL2, hat, m3, h0, d3, d6, hz6, ea, hcut, hbz])
    unfold F__law_name
    rw [e_BG, e_body, s1, s2, s3, ez]
    exact gz _ _
  · obtain ⟨z, w, hz, ez⟩ := name_end hM2 hy μ ν ([.lst (xs.map .int)] ++ u) hν (some (.int c)) (some (.int (M : Int))) (some (.loc μ.length))
    refine ⟨z, hz, ?_⟩
    have m3 : modOk q 3 = true := modN _ _ (by decide)
    have s3 : ∀ g, fSeq (fIf (fT (fOp (eqA false) (fOp modA (fOp ixA (fVar 2) (fOp addG (fVar 1) (fC (.int 1)))) (fC (.int 3))) (fC (.int 0)))) (fAsg (fSl slG (fOp ixA (fLst (fConsL (fC (.str [108, 101, 110, 103, 116, 104, 121])) (fConsL (fC (.str [112, 105, 101, 99])) (fConsL (fC (.str [112, 97, 114, 116, 115, 97])) (fConsL (fC (.str [114, 101, 115])) (fConsL (fC (.str [108, 101, 110, 103, 116, 104])) (fConsL (fC (.str [114, 101, 115, 116])) fNilL))))))) (fOp modA (fOp fdivA (fOp ixA (fVar 2) (fOp addG (fVar 1) (fC (.int 1)))) (fC (.int 3))) (fC (.int 6)))) fNoPart (fPart (fVar 1))) (gNm 3)) fNx) g [some (.int c), some (.int (M : Int)), some (.loc μ.length), some (.str y)] ν = g [some (.int c), some (.int (M : Int)), some (.loc μ.length), some (.str y)] ν := fun g => seq_nx (by
      simp [hL, hat, m3, h0])
    unfold F__law_name
    rw [e_BG, e_body, s1, s2, s3, ez]
    exact gz _ _
theorem eqNilV (neg : Bool) (a b : Nat) (ds : List AV) (μ : Mu) (ha : lstAt μ a = some ds) (hb : lstAt μ b = some []) (ho : okVs ds = true) (hd : dpVs ds ≤ 1) : eqA neg (.loc a) (.loc b) μ = .ok (.bl (if neg then !ds.isEmpty else ds.isEmpty)) μ := by
  obtain ⟨ps, e, c1, c2⟩ := pyVs ds ho
  have t1 : pyT μ (.loc a) = some (.list ps) := by
    show ((lstAt μ a).bind pyDs).map PyData.list = _
    rw [ha, Option.bind_some, e]
    rfl
  have t2 : pyT μ (.loc b) = some (.list []) := by
    show ((lstAt μ b).bind pyDs).map PyData.list = _
    rw [hb]
    rfl
  have s1 : SeqAt.shaped (.list ps) = true := by
    simp only [SeqAt.shaped, PyData.canLay0, c1, Bool.true_and, decide_eq_true_eq, PyData.depth, c2]
    omega
  have s2 : SeqAt.shaped (.list []) = true := by decide
  show eqG neg (.loc a) (.loc b) μ = _
  unfold eqG
  rw [t1, t2]
  simp only
  rw [if_pos ⟨s1, s2⟩]
  cases ds with
  | nil => cases ps with
    | nil => simp [PyData.eqv, PyData.eqvAll]
    | cons p ps => simp [pyDs] at e
  | cons d ds => cases ps with
    | nil =>
      rw [pyDs] at e
      cases h1 : pyD d <;> cases h2 : pyDs ds <;> simp [h1, h2] at e
    | cons p ps => simp [PyData.eqv, PyData.eqvAll]
noncomputable def eF (f : Tx × Tx) : AV := .tup [.str f.1, .str f.2]
noncomputable def FOk (M V : Nat) (fs : List (Tx × Tx)) : Prop := ∀ f ∈ fs, NOk M f.1 ∧ VOk V f.2
theorem vOk_lt {c : Nat} (h : vOk c = true) : c < 0x110000 := by
  simp [vOk, isPl] at h
  omega
theorem isSm_lt {c : Nat} (h : isSm c = true) : c < 0x110000 := by
  simp [isSm] at h
  omega
theorem okV_str {x : Tx} (h : ∀ c ∈ x, c < 0x110000) : okV (.str x) = true := by
  simp only [okV, List.all_eq_true, decide_eq_true_eq]
  exact h
theorem FOk.lay {M V : Nat} : ∀ {fs : List (Tx × Tx)}, FOk M V fs → okVs (fs.map eF) = true ∧ dpVs (fs.map eF) ≤ 1
  | [], _ => ⟨rfl, by simp [dpVs]⟩
  | f :: fs, h => by
    obtain ⟨a, b⟩ := FOk.lay (fs := fs) fun g hg => h g (List.mem_cons_of_mem _ hg)
    obtain ⟨n, v⟩ := h f List.mem_cons_self
    have h1 := okV_str fun c hc => isSm_lt (n.ok c hc)
    have h2 := okV_str fun c hc => vOk_lt (v.ok c hc)
    constructor
    · show (okV (eF f) && okVs (fs.map eF)) = true
      rw [a, Bool.and_true]
      show (okV (.str f.1) && (okV (.str f.2) && true)) = true
      rw [h1, h2]
      rfl
    · simp only [List.map_cons, dpVs, eF, dpV]
      simp [dpVs, dpV]
      exact Nat.max_le.mpr ⟨Nat.le_refl _, b⟩
theorem dv3 (i : Int) : divOk i 3 = true := by simp only [divOk]; decide +kernel
theorem fields_turn {b0 b3 m b5 b6 : Int} {M V : Nat} (hM : 1 ≤ M) (hM2 : M ≤ 12) (hV : 1 ≤ V) (hV2 : V ≤ 12) (fs : List (Tx × Tx)) (hf : FOk M V fs) (hfl : fs.length < 100) (μ u : Mu) (l0 : AV) (cell : Int) (o4 : Option AV) :
    ∃ (f : Tx × Tx) (u' : Mu) (p4 : Option AV), NOk M f.1 ∧ VOk V f.2 ∧ (fSeq (fAsg (fCall 2 F__law_name [] (fConsL (fOp fdivA (fVar 3) (fC (.int 3))) (fConsL (fOp ixA (fVar 1) (fC (.int 1))) fNilL))) (gNm 4)) (fSeq (fIf (fAndB (fT (fOp (eqA false) (fOp modA (fVar 3) (fC (.int 5))) (fC (.int 0)))) (fT (fOp (eqA true) (fVar 2) (fLst fNilL)))) (fAsg (fOp ixA (fOp ixA (fVar 2) (fNeg (fC (.int 1)))) (fC (.int 0))) (gNm 4)) fNx) (fDrop (fBM "list" appendA (fVar 2) (fConsL (fTup (fConsL (fVar 4) (fConsL (fCall 2 F__law_value [] (fConsL (fVar 3) (fConsL (fOp ixA (fVar 1) (fC (.int 2))) fNilL))) fNilL))) fNilL))))) [some l0, some (bkT b0 (M : Int) (V : Int) b3 m b5 b6), some (.loc μ.length), some (.int cell), o4] (μ ++ .lst (fs.map eF) :: u) = .ok (.nx [some l0, some (bkT b0 (M : Int) (V : Int) b3 m b5 b6), some (.loc μ.length), some (.int cell), p4]) (μ ++ .lst ((fs ++ [f]).map eF) :: u') := by
  obtain ⟨bk, hbk⟩ : ∃ bk, bk = bkT b0 (M : Int) (V : Int) b3 m b5 b6 := ⟨_, rfl⟩
  obtain ⟨ν, hν⟩ : ∃ ν, ν = μ ++ .lst (fs.map eF) :: u := ⟨_, rfl⟩
  obtain ⟨y, hy, ey⟩ := nameD (cell / 3) M hM hM2 ν
  have hb1 : ∀ ν, ixA bk (.int 1) ν = .ok (.int (M : Int)) ν := fun ν => by rw [hbk]; simp [bkT]
  have hb2 : ∀ ν, ixA bk (.int 2) ν = .ok (.int (V : Int)) ν := fun ν => by rw [hbk]; simp [bkT]
  have s1 : ∀ g, fSeq (fAsg (fCall 2 F__law_name [] (fConsL (fOp fdivA (fVar 3) (fC (.int 3))) (fConsL (fOp ixA (fVar 1) (fC (.int 1))) fNilL))) (gNm 4)) g [some l0, some bk, some (.loc μ.length), some (.int cell), o4] ν = g [some l0, some bk, some (.loc μ.length), some (.int cell), some (.str y)] ν := fun g => seq_nx (by simp [dv3, hb1, ey])
  have m5 : modOk cell 5 = true := modN _ _ (by decide)
  have hlf : lstAt ν μ.length = some (fs.map eF) := by rw [hν]; simp
  obtain ⟨z, w, hz, s2⟩ : ∃ (z : Tx) (w : Mu), NOk M z ∧ ∀ g, fSeq (fIf (fAndB (fT (fOp (eqA false) (fOp modA (fVar 3) (fC (.int 5))) (fC (.int 0)))) (fT (fOp (eqA true) (fVar 2) (fLst fNilL)))) (fAsg (fOp ixA (fOp ixA (fVar 2) (fNeg (fC (.int 1)))) (fC (.int 0))) (gNm 4)) fNx) g [some l0, some bk, some (.loc μ.length), some (.int cell), some (.str y)] ν = g [some l0, some bk, some (.loc μ.length), some (.int cell), some (.str z)] (ν ++ w) := by
    by_cases h5 : cell % 5 = 0
    · have hne := eqNilV true μ.length ν.length (fs.map eF) (ν ++ [.lst []]) (by rw [lstAt_left (lstAt_lt hlf)]; exact hlf) (by simp) hf.lay.1 hf.lay.2
      cases hfs : fs.reverse with
      | nil =>
        have hfs' : fs = [] := by simpa using hfs
        refine ⟨y, [.lst []], hy, fun g => seq_nx ?_⟩
        rw [hfs'] at hne
        simp at hne
        simp [m5, h5, hne, LIMv]
      | cons f r =>
        have hfs' : fs = r.reverse ++ [f] := by rw [← List.reverse_reverse fs, hfs]; simp
        have hmem : f ∈ fs := by rw [hfs']; simp
        have hat : (fs.map eF)[(fs.map eF).length - 1]? = some (eF f) := by
          rw [hfs']
          simp
        have hat2 : L2.atI (fs.map eF) (-1) = some (eF f) := by rw [← hat]; simp
        refine ⟨f.1, [.lst []], (hf f hmem).1, fun g => seq_nx ?_⟩
        have hl2 : lstAt (ν ++ [.lst []]) μ.length = some (fs.map eF) := by rw [lstAt_left (lstAt_lt hlf)]; exact hlf
        have hemp : (fs.map eF).isEmpty = false := by rw [hfs']; simp
        rw [hemp] at hne
        simp at hne
        have hz0 : (0 : Nat) ≤ LIM := Nat.zero_le _
        simp [m5, h5, hne, hl2]
        rw [show fs[fs.length - 1]? = some f by rw [hfs']; simp]
        simp [eF]
    · exact ⟨y, [], hy, fun g => seq_nx (by simp [m5, h5])⟩
  obtain ⟨v, hv, ev⟩ := valueD cell V hV hV2 (ν ++ w)
  refine ⟨(z, v), u ++ w, some (.str z), hz, hv, ?_⟩
  rw [← hbk, ← hν, s1, s2]
  have hνl : (ν ++ w)[μ.length]? = some (.lst (fs.map eF)) := by rw [hν]; simp
  have hlz : fs.length < LIM := by rw [LIMv]; omega
  have hl3 : lstAt (ν ++ w) μ.length = some (fs.map eF) := by rw [lstAt_left (lstAt_lt hlf)]; exact hlf
  have hset : ∀ o, (ν ++ w).set μ.length o = μ ++ o :: (u ++ w) := fun o => by rw [hν, List.append_assoc, List.cons_append]; exact set_app2 _ _ _ _
  have hz2 : (2 : Nat) ≤ LIM := by decide
  simp [hb2, ev, hνl, hl3, hlz, hz2, hset, eF]
theorem fields_eq {b0 b3 m b5 b6 : Int} {M V : Nat} (hM : 1 ≤ M) (hM2 : M ≤ 12) (hV : 1 ≤ V) (hV2 : V ≤ 12) (cells : List Int) (hc : cells.length < 90) (μ : Mu) (l0 : Nat) (hl : lstAt μ l0 = some (cells.map .int)) :
    ∃ (fs : List (Tx × Tx)) (u : Mu), FOk M V fs ∧ fs.length = cells.length ∧ F__law_fields [.loc l0, bkT b0 (M : Int) (V : Int) b3 m b5 b6] μ = .ok (.loc μ.length) (μ ++ .lst (fs.map eF) :: u) := by
  have hlt := lstAt_lt hl
  obtain ⟨ρ', μ', e, fs, u, o3, o4, h1, h2, hρ, hμ⟩ := forL (g := gNm 3) (n := 1000000) (l := l0) (ds := cells.map AV.int) (ρ := [some (.loc l0), some (bkT b0 (M : Int) (V : Int) b3 m b5 b6), some (.loc μ.length), none, none]) (μ := μ ++ [.lst []]) (fb := (fSeq (fAsg (fCall 2 F__law_name [] (fConsL (fOp fdivA (fVar 3) (fC (.int 3))) (fConsL (fOp ixA (fVar 1) (fC (.int 1))) fNilL))) (gNm 4)) (fSeq (fIf (fAndB (fT (fOp (eqA false) (fOp modA (fVar 3) (fC (.int 5))) (fC (.int 0)))) (fT (fOp (eqA true) (fVar 2) (fLst fNilL)))) (fAsg (fOp ixA (fOp ixA (fVar 2) (fNeg (fC (.int 1)))) (fC (.int 0))) (gNm 4)) fNx) (fDrop (fBM "list" appendA (fVar 2) (fConsL (fTup (fConsL (fVar 4) (fConsL (fCall 2 F__law_value [] (fConsL (fVar 3) (fConsL (fOp ixA (fVar 1) (fC (.int 2))) fNilL))) fNilL))) fNilL))))))
    (fun k ρ ν => ∃ (fs : List (Tx × Tx)) (u : Mu) (o3 o4 : Option AV), FOk M V fs ∧ fs.length = k ∧ ρ = [some (.loc l0), some (bkT b0 (M : Int) (V : Int) b3 m b5 b6), some (.loc μ.length), o3, o4] ∧ ν = μ ++ .lst (fs.map eF) :: u)
    ⟨[], [], none, none, fun f hf => by simp at hf, rfl, rfl, rfl⟩ (by simp; omega)
    (fun k ρ ν ⟨fs, u, o3, o4, h1, h2, hρ, hν⟩ => by rw [hν, lstAt_left hlt]; exact hl)
    (fun k d ρ ν hd ⟨fs, u, o3, o4, h1, h2, hρ, hν⟩ => by
      rw [List.getElem?_map] at hd
      cases ed : cells[k]? with
      | none => rw [ed] at hd; cases hd
      | some cell =>
        rw [ed] at hd
        cases hd
        have hkl := (List.getElem?_eq_some_iff.mp ed).1
        subst hρ hν
        obtain ⟨f, u', p4, a1, a2, ef⟩ := fields_turn (b0 := b0) (b3 := b3) (m := m) (b5 := b5) (b6 := b6) hM hM2 hV hV2 fs h1 (by omega) μ u (.loc l0) cell o4
        refine ⟨_, _, _, _, rfl, ef, fs ++ [f], u', some (.int cell), p4, fun g hg => ?_, by simp [h2], rfl, rfl⟩
        rcases List.mem_append.mp hg with z | z
        · exact h1 g z
        · rw [List.mem_singleton.mp z]; exact ⟨a1, a2⟩)
  refine ⟨fs, u, h1, by rw [h2]; simp, ?_⟩
  subst hρ hμ
  have hz0 : (0 : Nat) ≤ LIM := Nat.zero_le _
  have hl1 : lstAt (μ ++ [.lst []]) l0 = some (cells.map .int) := by rw [lstAt_left hlt]; exact hl
  unfold F__law_fields
  simp [hl1, e]
noncomputable def rowT (f : Tx × Tx) : Tx := f.1 ++ [58, 32] ++ f.2 ++ [59, 10]
noncomputable def rowsT (fs : List (Tx × Tx)) : Tx := (fs.map rowT).flatten
theorem e_compL2 {α : Type} {n : Nat} {caps : List (Option Nat)} {fi : FI} {fe : FE} {ρ : Ev} {μ μ1 : Mu} {rest : Ev} {l : Nat} (as : List α) (e1 e2 f : α → AV) (hi : fi ρ μ = .ok (.l l) μ1) (hl : lstAt μ1 l = some (as.map fun a => .tup [e1 a, e2 a])) (hI : capE ρ caps = none :: none :: rest)
    (h : ∀ a ∈ as, ∀ μ, fe (some (e1 a) :: some (e2 a) :: rest) μ = .ok (f a) μ) (hn : as.length < n) (hz : as.length ≤ 16777216) : fComp n caps fi (gTp 2 (gsCons (gNm 0) (gsCons (gNm 1) gsNil))) fYes fe ρ μ = .ok (.loc μ1.length) (μ1 ++ [.lst (as.map f)]) := by
  have hlt := lstAt_lt hl
  have := compL_go (fun a => .tup [e1 a, e2 a]) f (gTp 2 (gsCons (gNm 0) (gsCons (gNm 1) gsNil))) fe (fun ρ => ∃ o o', ρ = o :: o' :: rest) as l μ1.length (by omega) as [] n (capE ρ caps) (μ1 ++ [.lst []]) [] rfl (by rw [lstAt_left hlt]; exact hl) (fun a ha ρ hρ μ => by
    obtain ⟨o, o', rfl⟩ := hρ
    exact ⟨some (e1 a) :: some (e2 a) :: rest, by simp, ⟨_, _, rfl⟩, h a ha μ⟩) ⟨none, none, hI⟩ hn (by simp) (by simp only [List.length_nil, Nat.zero_add]; exact hz)
  unfold fComp
  rw [hi]
  simp only [Rs.bd_ok]
  simp only [List.length_nil, List.nil_append] at this
  rw [this]
  congr 1
  rw [List.set_append_right _ _ (Nat.le_refl _)]
  simp
theorem rows_eq {M V : Nat} (hM2 : M ≤ 12) (hV2 : V ≤ 12) (fs : List (Tx × Tx)) (hf : FOk M V fs) (hl : fs.length < 100) (μ : Mu) (lf : Nat) (h : lstAt μ lf = some (fs.map eF)) : F__law_rows [.loc lf] μ = .ok (.str (rowsT fs)) μ := by
  have hs : ∀ f ∈ fs, f.1.length ≤ 12 ∧ f.2.length ≤ 12 := fun f hm => ⟨by have := (hf f hm).1.le; omega, by have := (hf f hm).2.le; omega⟩
  have hc := e_compL2 (n := 1000000) (caps := [none, none]) (fi := fiA (fVar 0)) (fe := fOp addG (fOp addG (fOp addG (fVar 0) (fC (.str [58, 32]))) (fVar 1)) (fC (.str [59, 10]))) (ρ := [some (.loc lf)]) (μ := μ) (μ1 := μ) (rest := []) (l := lf) fs (fun f => .str f.1) (fun f => .str f.2) (fun f => .str (rowT f)) (by simp [h]) (by rw [h]; rfl) rfl (fun f hm μ => by
    obtain ⟨a, b⟩ := hs f hm
    have z1 : f.1.length + 2 ≤ LIM := by rw [LIMv]; omega
    have z2 : f.1.length + 2 + f.2.length ≤ LIM := by rw [LIMv]; omega
    have z3 : f.1.length + (f.2.length + 2) ≤ LIM := by rw [LIMv]; omega
    have z4 : f.1.length + (1 + 1 + f.2.length) ≤ LIM := by rw [LIMv]; omega
    have z5 : f.1.length + (f.2.length + 1 + 1) + 2 ≤ LIM := by rw [LIMv]; omega
    simp [rowT, z1, z2, z3, z4, z5]) (by omega) (by omega)
  have hsum : (fs.map fun f => (rowT f).length).sum ≤ fs.length * 28 := by
    clear hc h hf hl
    induction fs with
    | nil => simp
    | cons f fs ih =>
      have := ih fun g hg => hs g (List.mem_cons_of_mem _ hg)
      obtain ⟨a, b⟩ := hs f List.mem_cons_self
      simp [rowT] at this ⊢
      omega
  have hj := e_joinC [] fs rowT hc (by simp; omega)
  simp only [joinL_nil] at hj
  unfold F__law_rows
  simp [-e_BM, hj]
  rfl
theorem TkA_go (k : MK) : ∀ (s p : Tx), (∀ j c, s[j]? = some c → k.tk (p ++ s.take j) c = true) → TkA k p s
  | [], _, _ => trivial
  | c :: s, p, h => ⟨by have := h 0 c rfl; simpa using this, TkA_go k s (p ++ [c]) fun j d hd => by
      have := h (j + 1) d (by simpa using hd)
      simpa using this⟩
theorem TkA_of (k : MK) (t : Tx) (h : ∀ j c, t[j]? = some c → k.tk (t.take j) c = true) : TkA k [] t := TkA_go k t [] (by simpa using h)
theorem take_lt {t : Tx} {j c : Nat} (h : t[j]? = some c) : j < t.length ∧ (t.take j).length = j ∧ t.take j ++ [c] = t.take (j + 1) := by
  have hj := (List.getElem?_eq_some_iff.mp h).1
  refine ⟨hj, by rw [List.length_take]; omega, ?_⟩
  rw [List.take_add_one, h]
  rfl
theorem val_tk {V : Nat} {v : Tx} (h : VOk V v) : TkA (.val (V : Int)) [] v := TkA_of _ _ fun j c hc => by
  obtain ⟨h1, h2, h3⟩ := take_lt hc
  have h4 := h.ok c (List.mem_of_getElem? hc)
  have h5 := h.le
  simp only [MK.tk, h4, h2, Bool.true_and]
  by_cases h6 : c = 32
  · subst h6
    have j0 : j ≠ 0 := by rintro rfl; exact h.fst hc
    have j1 : j ≠ v.length - 1 := by rintro rfl; exact h.lst hc
    simp
    omega
  · rw [if_neg h6]
    simp
    omega
theorem val_gd {V : Nat} {v : Tx} (h : VOk V v) : MK.gd (.val (V : Int)) v = true ∧ MK.tk (.val (V : Int)) v 59 = false := by
  have h1 : v ≠ [] := by rintro rfl; have := h.one; simp at this
  have h2 := h.lst
  rw [← List.getLast?_eq_getElem?] at h2
  simp [MK.gd, MK.tk, h1, h2, vOk]
structure EnOk (ends : List Tx) : Prop where
  sub : ∀ e ∈ ends, e ∈ ENDN
  len : ends.length < 1000
theorem endn_sm : ∀ e ∈ ENDN, (∀ c ∈ e, isSm c = true) ∧ 1 ≤ e.length ∧ e.length ≤ 6 := by decide
theorem no_colon {ends : List Tx} (hE : EnOk ends) (y : Tx) : ends.any (fun e => pre (y ++ [58]) e) = false := by
  rw [List.any_eq_false]
  intro e he h
  unfold pre at h
  have h := beq_iff_eq.mp h
  have h58 : (58 : Nat) ∈ e := List.mem_of_mem_take (by rw [← h]; simp)
  have := (endn_sm e (hE.sub e he)).1 58 h58
  simp [isSm] at this
theorem name_tk {M : Nat} {R : Int} {ends : List Tx} {y : Tx} (h : NOk M y) (hR : 1 ≤ R) : TkA (.name (M : Int) R ends) [] y := TkA_of _ _ fun j c hc => by
  obtain ⟨h1, h2, h3⟩ := take_lt hc
  have h4 := h.ok c (List.mem_of_getElem? hc)
  have h5 := h.le
  have hl : (y.take (j + 1)).length = j + 1 := by rw [List.length_take]; omega
  simp only [MK.tk, h3, h4, Bool.true_and, cgo, hl]
  by_cases h6 : j + 1 = y.length
  · have : y.take (j + 1) = y := by rw [h6]; simp
    rw [this]
    simp [h.ne]
    right
    omega
  · simp
    right
    omega
theorem name_gd {M : Nat} {R : Int} {ends : List Tx} {y : Tx} (hE : EnOk ends) (h : NOk M y) (hR : 1 ≤ R) : MK.gd (.name (M : Int) R ends) y = true ∧ MK.tk (.name (M : Int) R ends) y 58 = false ∧ y ∉ ends := by
  have h1 : y ≠ [] := by rintro rfl; have := h.one; simp at this
  have h2 : y ∉ ends := fun hy => h.ne (hE.sub y hy)
  have h5 := h.le
  refine ⟨?_, ?_, h2⟩
  · simp [MK.gd, h1, h2, h.ne, cgo]
    omega
  · simp [MK.tk, no_colon hE, isSm]
theorem end_tk {M R : Int} {ends : List Tx} {y : Tx} (hE : EnOk ends) (hy : y ∈ ends) : TkA (.name M R ends) [] y ∧ MK.gd (.name M R ends) y = true ∧ MK.tk (.name M R ends) y 58 = false := by
  refine ⟨TkA_of _ _ fun j c hc => ?_, by simp [MK.gd, hy], by simp [MK.tk, no_colon hE, isSm]⟩
  obtain ⟨h1, h2, h3⟩ := take_lt hc
  simp only [MK.tk, h3]
  rw [Bool.or_eq_true]
  left
  rw [List.any_eq_true]
  refine ⟨y, hy, ?_⟩
  simp [pre]
noncomputable def td (n : Nat) : Tx := (Nat.toDigits 10 n).map Char.toNat
theorem decL_td (n : Nat) : decL (n : Int) = td n := PySem.W.KIN.signs_num n
noncomputable def chk (n : Nat) : Bool := (nval (td n) == (n : Int)) && !(td n == []) && decide ((td n).length < 100) && (List.range (td n).length).all fun j => MK.tk (.num (n : Int)) ((td n).take j) ((td n).getD j 0)
theorem chk_a : ∀ n < 251, chk n = true := by decide +kernel
theorem chk_b : ∀ n < 250, chk (n + 251) = true := by decide +kernel
theorem chk_c : ∀ n < 250, chk (n + 501) = true := by decide +kernel
theorem chk_d : ∀ n < 250, chk (n + 751) = true := by decide +kernel
theorem chk_all : ∀ n < 1001, chk n = true := fun n h => by
  by_cases h1 : n < 251
  · exact chk_a n h1
  · by_cases h2 : n < 501
    · have := chk_b (n - 251) (by omega)
      rwa [Nat.sub_add_cancel (by omega)] at this
    · by_cases h3 : n < 751
      · have := chk_c (n - 501) (by omega)
        rwa [Nat.sub_add_cancel (by omega)] at this
      · have := chk_d (n - 751) (by omega)
        rwa [Nat.sub_add_cancel (by omega)] at this
theorem num_mono {n m : Int} (h : n ≤ m) {t : Tx} {c : Nat} (hk : MK.tk (.num n) t c = true) : MK.tk (.num m) t c = true := by
  simp only [MK.tk, Bool.and_eq_true, decide_eq_true_eq] at hk ⊢
  exact ⟨hk.1, by omega⟩
theorem num_tk {n : Nat} {m : Int} (hn : n < 1001) (hm : (n : Int) ≤ m) : TkA (.num m) [] (td n) ∧ MK.gd (.num m) (td n) = true ∧ MK.tk (.num m) (td n) 59 = false ∧ nval (td n) = (n : Int) ∧ (td n).length < 100 := by
  have h := chk_all n hn
  simp only [chk, Bool.and_eq_true, List.all_eq_true, beq_iff_eq, decide_eq_true_eq] at h
  obtain ⟨⟨⟨h1, h2⟩, h3⟩, h4⟩ := h
  refine ⟨TkA_of _ _ fun j c hc => ?_, h2, ?_, h1, h3⟩
  · obtain ⟨j1, _, _⟩ := take_lt hc
    have := h4 j (List.mem_range.mpr j1)
    rw [List.getD_eq_getElem?_getD, hc] at this
    exact num_mono hm this
  · have : fnd (FIG.take 10) 59 < 0 := by decide +kernel
    simp [MK.tk, this]
end
section
variable {μ : Mu} {i lp : Nat} {ends : List Tx} {R0 : Int} {b0 b3 m b5 b6 : Int} {M V : Nat}
theorem sm_ne {c : Nat} (h : isSm c = true) : c ≠ 59 := by rintro rfl; simp [isSm] at h
theorem run_rows {N : Nat} (hE : EnOk ends) (hM2 : M ≤ 12) (hV1 : 1 ≤ V) (hV2 : V ≤ 12) (hNi : N ≤ i) (hNl : N ≤ lp) : ∀ (fs : List (Tx × Tx)) (ps : List AV) (μ : Mu), FOk M V fs → FsA μ i (bkT b0 (M : Int) (V : Int) b3 m b5 b6) R0 ends lp .non .non .non → μ[lp]? = some (.lst ps) → (ps.length : Int) + fs.length ≤ R0 → R0 < 100 → N ≤ μ.length →
    ∃ ν, Run i μ (rowsT fs) ν ∧ FsA ν i (bkT b0 (M : Int) (V : Int) b3 m b5 b6) R0 ends lp .non .non .non ∧ ν[lp]? = some (.lst (ps ++ fs.map eF)) ∧ Kp N μ ν ∧ μ.length ≤ ν.length
  | [], ps, μ, _, hF, hp, _, _, _ => ⟨μ, .nil, hF, by simpa using hp, Kp.refl, Nat.le_refl _⟩
  | f :: fs, ps, μ, hf, hF, hp, hl, hR, hN => by
    obtain ⟨hn, hv⟩ := hf f List.mem_cons_self
    have hV0 : (V : Int) > 0 := by omega
    have hR1 : 1 ≤ R0 - (ps.length : Int) := by simp at hl; omega
    obtain ⟨g1, g2, g3⟩ := name_gd hE hn hR1
    obtain ⟨v1, v2⟩ := val_gd hv
    have hvk : MK.val (V : Int) = vk ends f.1 (V : Int) m := by unfold vk; rw [if_neg g3]
    obtain ⟨c, s, hy⟩ : ∃ c s, f.1 = c :: s := by
      have := hn.one
      cases h : f.1 with
      | nil => rw [h] at this; simp at this
      | cons c s => exact ⟨c, s, rfl⟩
    have n1 := hn.le
    have n2 := hv.le
    obtain ⟨ν, a1, a2, a3, a4, a5⟩ := run_row (N := N) (R := R0 - (ps.length : Int)) (k := .val (V : Int)) hF hp (by simp at hl; omega) hE.len hNi hNl hN f.1 s f.2 c hy (sm_ne (hn.ok c (by rw [hy]; simp))) (by omega) (by rw [if_pos hV0]) (name_tk hn hR1) g2 g1 hvk (by omega) (val_tk hv) v2 v1
    have hd : dueE ends f.1 (.val (V : Int)) f.2 = .non := by unfold dueE; rw [if_neg g3]
    rw [hd] at a2 a3
    obtain ⟨ν', c1, c2, c3, c4, c5⟩ := run_rows hE hM2 hV1 hV2 hNi hNl fs (ps ++ [.tup [.str f.1, MK.told (.val (V : Int)) f.2]]) ν (fun g hg => hf g (List.mem_cons_of_mem _ hg)) a2 a3 (by simp at hl ⊢; omega) hR (by omega)
    refine ⟨ν', ?_, c2, ?_, a4.trans c4, by omega⟩
    · have := a1.append c1
      simpa [rowsT, rowT] using this
    · rw [c3]
      simp [eF, MK.told]
inductive EndR (ends : List Tx) (m : Int) : Tx → AV → Prop
  | none : EndR ends m [] .non
  | len (n : Nat) (hn : n < 1001) (hm : (n : Int) ≤ m) (h : LEN ∈ ends) : EndR ends m (LEN ++ [58, 32] ++ td n ++ [59, 10]) (.tup [.str LEN, .int (n : Int)])
  | yes (y : Tx) (h : y ∈ ends) (hy : y ≠ LEN) : EndR ends m (y ++ [58, 32] ++ YES ++ [59, 10]) (.tup [.str y, .int 0])
theorem run_end {N : Nat} {E : Tx} {D : AV} {ps : List AV} (hE : EnOk ends) (hV1 : 1 ≤ V) (hNi : N ≤ i) (hNl : N ≤ lp) (hN : N ≤ μ.length) (h : EndR ends m E D) (hF : FsA μ i (bkT b0 (M : Int) (V : Int) b3 m b5 b6) R0 ends lp .non .non .non) (hp : μ[lp]? = some (.lst ps)) (hl : ps.length < 1000) :
    ∃ ν, Run i μ E ν ∧ FsA ν i (bkT b0 (M : Int) (V : Int) b3 m b5 b6) R0 ends lp D .non .non ∧ ν[lp]? = some (.lst ps) ∧ Kp N μ ν ∧ μ.length ≤ ν.length := by
  cases h with
  | none => exact ⟨μ, .nil, hF, hp, Kp.refl, Nat.le_refl _⟩
  | len n hn hm h =>
    obtain ⟨t1, t2, t3⟩ := end_tk (M := (M : Int)) (R := if (V : Int) > 0 then R0 - (ps.length : Int) else 0) hE h
    obtain ⟨k1, k2, k3, k4, k5⟩ := num_tk hn hm
    have hvk : MK.num m = vk ends LEN (V : Int) m := by unfold vk; rw [if_pos h, if_pos rfl]
    obtain ⟨ν, a1, a2, a3, a4, a5⟩ := run_row (N := N) (k := .num m) hF hp hl hE.len hNi hNl hN LEN [101, 110, 103, 116, 104] (td n) 108 rfl (by decide) (by decide) rfl t1 t3 t2 hvk (by omega) k1 k3 k2
    have hd : dueE ends LEN (.num m) (td n) = .tup [.str LEN, .int (n : Int)] := by unfold dueE; rw [if_pos h, if_pos rfl]; simp [MK.told, k4]
    rw [hd] at a2 a3
    exact ⟨ν, a1, a2, a3, a4, a5⟩
  | yes y h hy =>
    obtain ⟨t1, t2, t3⟩ := end_tk (M := (M : Int)) (R := if (V : Int) > 0 then R0 - (ps.length : Int) else 0) hE h
    have hvk : MK.ex YES = vk ends y (V : Int) m := by unfold vk; rw [if_pos h, if_neg hy]
    obtain ⟨e1, e2, e3⟩ := endn_sm y (hE.sub y h)
    obtain ⟨c, s, hys⟩ : ∃ c s, y = c :: s := by
      cases hh : y with
      | nil => rw [hh] at e2; simp at e2
      | cons c s => exact ⟨c, s, rfl⟩
    have y1 : TkA (.ex YES) [] YES := ⟨by decide, by decide, by decide, trivial⟩
    obtain ⟨ν, a1, a2, a3, a4, a5⟩ := run_row (N := N) (k := .ex YES) hF hp hl hE.len hNi hNl hN y s YES c hys (sm_ne (e1 c (by rw [hys]; simp))) (by omega) rfl t1 t3 t2 hvk (by decide) y1 (by decide) (by decide)
    have hd : dueE ends y (.ex YES) YES = .tup [.str y, .int 0] := by unfold dueE; rw [if_pos h, if_neg hy]
    rw [hd] at a2 a3
    exact ⟨ν, a1, a2, a3, a4, a5⟩
theorem run_all {E : Tx} {D : AV} {fs : List (Tx × Tx)} (hE : EnOk ends) (hM2 : M ≤ 12) (hV1 : 1 ≤ V) (hV2 : V ≤ 12) (hf : FOk M V fs) (hfl : (fs.length : Int) ≤ R0) (hR : R0 < 100) (h : EndR ends m E D) (μ : Mu) :
    ∃ ν er, Run μ.length (μ ++ [fsO (bkT b0 (M : Int) (V : Int) b3 m b5 b6) R0 ends (μ.length + 1) .non .non .non, .lst []]) (rowsT fs ++ E ++ [59, 10]) ν ∧ FsA ν μ.length (bkT b0 (M : Int) (V : Int) b3 m b5 b6) R0 ends (μ.length + 1) D .non (.loc er) ∧ ReA ν er [59, 10] ∧ lstAt ν (μ.length + 1) = some (fs.map eF) ∧ Kp μ.length (μ ++ [fsO (bkT b0 (M : Int) (V : Int) b3 m b5 b6) R0 ends (μ.length + 1) .non .non .non, .lst []]) ν := by
  obtain ⟨μ1, hμ1⟩ : ∃ μ1, μ1 = μ ++ [fsO (bkT b0 (M : Int) (V : Int) b3 m b5 b6) R0 ends (μ.length + 1) .non .non .non, .lst []] := ⟨_, rfl⟩
  rw [← hμ1]
  have l1 : μ1.length = μ.length + 2 := by rw [hμ1]; simp
  have f0 : FsA μ1 μ.length (bkT b0 (M : Int) (V : Int) b3 m b5 b6) R0 ends (μ.length + 1) .non .non .non := by rw [hμ1]; exact o_insApp _ _ _
  have p0 : μ1[μ.length + 1]? = some (.lst []) := by rw [hμ1]; simp
  obtain ⟨ν1, a1, a2, a3, a4, a5⟩ := run_rows (N := μ.length) hE hM2 hV1 hV2 (Nat.le_refl _) (by omega) fs [] μ1 hf f0 p0 (by simpa using hfl) hR (by omega)
  simp only [List.nil_append] at a3
  obtain ⟨ν2, c1, c2, c3, c4, c5⟩ := run_end (N := μ.length) hE hV1 (Nat.le_refl _) (by omega) (by omega) h a2 a3 (by simp; omega)
  have hlp : μ.length + 1 < ν2.length := (List.getElem?_eq_some_iff.mp c3).1
  obtain ⟨ν3, d1, d2, d3, d4⟩ := run_empty (N := μ.length) c2 (by simp [bdd, bkT, bddL]) (Nat.le_refl _) (by omega)
  refine ⟨ν3, ν2.length, (a1.append c1).append d1, d2, d3, ?_, fun l hl => ?_⟩
  · unfold lstAt
    rw [d4 _ hlp (by omega), c3]
  · rw [d4 l (by omega) (by omega), c4 l hl, a4 l hl]
end
section
theorem eq_si (y : Tx) (hy : ∀ c ∈ y, c < 0x110000) (n : Int) (neg : Bool) (μ : Mu) : eqA neg (.tup [.str y, .int n]) (.tup [.str y, .int n]) μ = .ok (.bl (!neg)) μ := by
  have t1 : pyT μ (.tup [.str y, .int n]) = some (.tuple [.str ⟨y.toArray⟩, .int n]) := rfl
  have s1 : SeqAt.shaped (.tuple [.str ⟨y.toArray⟩, .int n]) = true := by
    have hs : PyData.canLay0 (.str ⟨y.toArray⟩) = true := by
      simp only [PyData.canLay0, PyData.strOk]
      simpa using hy
    simp only [SeqAt.shaped, PyData.canLay0, PyData.canLayAll0, PyData.depth, PyData.depthAll] at hs ⊢
    simp [hs]
  show eqG neg (.tup [.str y, .int n]) (.tup [.str y, .int n]) μ = _
  unfold eqG
  rw [t1]
  simp only
  rw [if_pos ⟨s1, s1⟩]
  cases neg <;> simp [PyData.eqv, PyData.eqvAll]
theorem due_self {ends : List Tx} {m : Int} {E : Tx} {D : AV} (hE : EnOk ends) (h : EndR ends m E D) (neg : Bool) (μ : Mu) : eqA neg D D μ = .ok (.bl (!neg)) μ := by
  cases h with
  | none => cases neg <;> rfl
  | len n hn hm h => exact eq_si LEN (by decide) _ _ _
  | yes y h hy => exact eq_si y (fun c hc => isSm_lt ((endn_sm y (hE.sub y h)).1 c hc)) _ _ _
noncomputable def bdA : FS := (fIf (fOrB (fTru (fMeth 1 [(10, F_Fields_whole)] (fVar 11) fNilL)) (fT (fOp (isA true) (fMeth 2 [(10, F_Fields_fed)] (fVar 11) (fConsL (fOp ixA (fVar 9) (fVar 12)) fNilL)) (fC (.bl true))))) (fRet (fC (.bl false))) fNx)
noncomputable def bdB : FS := (fIf (fT (fOp (isA true) (fMeth 2 [(10, F_Fields_fed)] (fVar 11) (fConsL (fVar 13) fNilL)) (fC (.bl false)))) (fRet (fC (.bl false))) fNx)
theorem feed_loop {T : Tx} {i : Nat} {μ νE : Mu} (hT : T.length < 10000) (h : Run i μ T νE) (a0 a1 a2 a3 a4 a5 a6 a7 a8 a10 : Option AV) :
    ∃ o, forN 1000000 (.s (rngL 0 T.length)) 0 (gNm 12) bdA [a0, a1, a2, a3, a4, a5, a6, a7, a8, some (.str T), a10, some (.loc i), none, none] μ = .ok (.nx [a0, a1, a2, a3, a4, a5, a6, a7, a8, some (.str T), a10, some (.loc i), o, none]) νE := by
  have hz : T.length ≤ LIM := by rw [LIMv]; omega
  obtain ⟨ρ', μ', e, o, hρ, hR⟩ := forS (g := gNm 12) (n := 1000000) (ds := rngL 0 T.length) (ρ := [a0, a1, a2, a3, a4, a5, a6, a7, a8, some (.str T), a10, some (.loc i), none, none]) (μ := μ) (fb := bdA)
    (fun k ρ ν => ∃ o, ρ = [a0, a1, a2, a3, a4, a5, a6, a7, a8, some (.str T), a10, some (.loc i), o, none] ∧ Run i ν (T.drop k) νE) ⟨none, rfl, h⟩ (by simp [rngL]; omega) (fun k d ρ ν hd ⟨o, hρ, hR⟩ => by
      rw [rngL_get] at hd
      by_cases hk : k < T.length
      · rw [if_pos hk] at hd
        cases hd
        subst hρ
        rw [List.drop_eq_getElem_cons hk] at hR
        cases hR with
        | cons ho w e z =>
          refine ⟨_, _, _, _, rfl, ?_, some (.int (k : Int)), rfl, z⟩
          have hat : T[k]? = some T[k] := List.getElem?_eq_getElem hk
          unfold bdA
          simp [ho, w, hz, at_nat, hat, e]
      · rw [if_neg hk] at hd
        cases hd)
  have hlen : (rngL 0 T.length).length = T.length := by simp [rngL]
  rw [hlen, List.drop_length] at hR
  refine ⟨o, ?_⟩
  rw [e, hρ]
  cases hR
  rfl
theorem refuse_loop {i er lp l : Nat} {bk en row : AV} {R0 : Int} {ends : List Tx} {μ : Mu} (h : FsA μ i bk R0 ends lp en row (.loc er)) (hr : ReA μ er [59, 10]) (hl : lstAt μ l = some [.str [97], .str [59], .str [10], .str [108], .str [32]]) (a0 a1 a2 a3 a4 a5 a6 a7 a8 a9 a10 a12 : Option AV) :
    ∃ o, forN 1000000 (.l l) 0 (gNm 13) bdB [a0, a1, a2, a3, a4, a5, a6, a7, a8, a9, a10, some (.loc i), a12, none] μ = .ok (.nx [a0, a1, a2, a3, a4, a5, a6, a7, a8, a9, a10, some (.loc i), a12, o]) μ := by
  obtain ⟨ρ', μ', e, o, hρ, hμ⟩ := forL (g := gNm 13) (n := 1000000) (l := l) (ds := ([97, 59, 10, 108, 32] : Tx).map fun c => .str [c]) (ρ := [a0, a1, a2, a3, a4, a5, a6, a7, a8, a9, a10, some (.loc i), a12, none]) (μ := μ) (fb := bdB)
    (fun k ρ ν => ∃ o, ρ = [a0, a1, a2, a3, a4, a5, a6, a7, a8, a9, a10, some (.loc i), a12, o] ∧ ν = μ) ⟨none, rfl, rfl⟩ (by simp) (fun k ρ ν ⟨_, _, hν⟩ => by rw [hν]; exact hl) (fun k d ρ ν hd ⟨o, hρ, hν⟩ => by
      subst hρ hν
      rw [List.getElem?_map] at hd
      cases ed : ([97, 59, 10, 108, 32] : Tx)[k]? with
      | none => rw [ed] at hd; cases hd
      | some c =>
        rw [ed] at hd
        cases hd
        have e := h.fedE (c := c) hr (by decide)
        rw [if_neg (by simp [pre])] at e
        have ho : insAt ν i = some (10, _) := h
        refine ⟨_, _, _, _, rfl, ?_, some (.str [c]), rfl, rfl⟩
        unfold bdB
        simp [ho, e])
  refine ⟨o, ?_⟩
  rw [e, hρ, hμ]
theorem dvN (i n : Int) (h : 0 < n) (h' : n < 1000) : divOk i n = true := by
  have : sm 30 n = true := sm_of (by
    have e : (2 : Nat) ^ 30 = 1073741824 := by decide
    rw [e]
    omega) (by decide)
  simp [divOk, this, h]
noncomputable def E4 : List Tx := [[108, 101, 110, 103, 116, 104], [112, 105, 101, 99, 101, 115], [112, 97, 114, 116, 115], [114, 101, 115, 116]]
noncomputable def E3 : List Tx := [[108, 101, 110, 103, 116, 104], [112, 105, 101, 99, 101, 115], [112, 97, 114, 116, 115]]
noncomputable def NONE : Tx := [110, 111, 110, 101]
theorem law_rest {c0 : Int} {m r n lf : Nat} {M V : Nat} {bk : AV} {ends : List Tx} {y : Tx} {fs : List (Tx × Tx)} {T0 E : Tx} {D : AV} (hbk : bk = bkT 8 (M : Int) (V : Int) 6 (m : Int) 2 2) (hE : EnOk ends) (hM2 : M ≤ 12) (hV1 : 1 ≤ V) (hV2 : V ≤ 12) (hf : FOk M V fs) (hfl : fs.length ≤ r) (hr : r < 7) (he : EndR ends (m : Int) E D) (hT0 : T0 = rowsT fs ++ E ++ [59, 10]) (hT : T0.length < 10000) (μ : Mu) (hl : lstAt μ lf = some (fs.map eF)) :
    ∃ μ', fSeq (fAsg (fMake 10 4 F_Fields_init (fConsL (fVar 3) (fConsL (fVar 4) (fConsL (fVar 6) fNilL)))) (gNm 11)) (fSeq (fFor 1000000 (fiR1 (fConsL (fCB lenA (fConsL (fVar 9) fNilL)) fNilL)) (gNm 12) (fIf (fOrB (fTru (fMeth 1 [(10, F_Fields_whole)] (fVar 11) fNilL)) (fT (fOp (isA true) (fMeth 2 [(10, F_Fields_fed)] (fVar 11) (fConsL (fOp ixA (fVar 9) (fVar 12)) fNilL)) (fC (.bl true))))) (fRet (fC (.bl false))) fNx)) (fSeq (fIf (fOrB (fT (fOp (isA true) (fMeth 1 [(10, F_Fields_whole)] (fVar 11) fNilL) (fC (.bl true)))) (fOrB (fT (fOp (eqA true) (fMeth 1 [(10, F_Fields_told)] (fVar 11) fNilL) (fCB tupA (fConsL (fVar 5) fNilL)))) (fT (fOp (eqA true) (fMeth 1 [(10, F_Fields_told_end)] (fVar 11) fNilL) (fVar 10))))) (fRet (fC (.bl false))) fNx) (fSeq (fFor 1000000 (fiA (fLst (fConsL (fC (.str [97])) (fConsL (fC (.str [59])) (fConsL (fC (.str [10])) (fConsL (fC (.str [108])) (fConsL (fC (.str [32])) fNilL))))))) (gNm 13) (fIf (fT (fOp (isA true) (fMeth 2 [(10, F_Fields_fed)] (fVar 11) (fConsL (fVar 13) fNilL)) (fC (.bl false)))) (fRet (fC (.bl false))) fNx)) (fRet (fAnd (fOp (eqA false) (fMeth 1 [(10, F_Fields_room_left)] (fVar 11) fNilL) (fOp subA (fVar 4) (fCB lenA (fConsL (fVar 5) fNilL)))) (fAnd (fOp (eqA false) (fMeth 1 [(10, F_Fields_awaited)] (fVar 11) fNilL) (fC (.str []))) (fOp (eqA false) (fMeth 1 [(10, F_Fields_told)] (fVar 11) fNilL) (fCB tupA (fConsL (fVar 5) fNilL))))))))) [some (.loc 0), some (.int c0), some (.int (m : Int)), some bk, some (.int (r : Int)), some (.loc lf), some (tps ends), some (.str y), some (.int (n : Int)), some (.str T0), some D, none, none, none] μ = .ok (.rt (.bl true)) μ' := by
  obtain ⟨νE, er, hrun, fE, rE, pE, kE⟩ := run_all (b0 := 8) (b3 := 6) (b5 := 2) (b6 := 2) (R0 := (r : Int)) hE hM2 hV1 hV2 hf (by omega) (by omega) he μ
  rw [← hbk, ← hT0] at hrun
  rw [← hbk] at fE kE
  have hlf := lstAt_lt hl
  have ei := fields_init (b0 := 8) (b1 := (M : Int)) (d := (V : Int)) (b3 := 6) (m := (m : Int)) (b5 := 2) (b6 := 2) (r : Int) ends μ
  rw [← hbk] at ei
  obtain ⟨μ5, hμ5⟩ : ∃ μ5, μ5 = μ ++ [fsO bk (r : Int) ends (μ.length + 1) .non .non .non, .lst []] := ⟨_, rfl⟩
  rw [← hμ5] at ei hrun kE
  have s12 : ∀ g, fSeq (fAsg (fMake 10 4 F_Fields_init (fConsL (fVar 3) (fConsL (fVar 4) (fConsL (fVar 6) fNilL)))) (gNm 11)) g [some (.loc 0), some (.int c0), some (.int (m : Int)), some bk, some (.int (r : Int)), some (.loc lf), some (tps ends), some (.str y), some (.int (n : Int)), some (.str T0), some D, none, none, none] μ = g [some (.loc 0), some (.int c0), some (.int (m : Int)), some bk, some (.int (r : Int)), some (.loc lf), some (tps ends), some (.str y), some (.int (n : Int)), some (.str T0), some D, some (.loc μ.length), none, none] μ5 := fun g => seq_nx (by simp [ei])
  obtain ⟨o, e13⟩ := feed_loop hT hrun (some (.loc 0)) (some (.int c0)) (some (.int (m : Int))) (some bk) (some (.int (r : Int))) (some (.loc lf)) (some (tps ends)) (some (.str y)) (some (.int (n : Int))) (some D)
  have hz : T0.length ≤ LIM := by rw [LIMv]; omega
  have hsm : sm 62 (T0.length : Int) = true := sm_of (by
    have : (2 : Nat) ^ 62 = 4611686018427387904 := by decide
    rw [this]; omega) (by decide)
  unfold bdA at e13
  have s13 : ∀ g, fSeq (fFor 1000000 (fiR1 (fConsL (fCB lenA (fConsL (fVar 9) fNilL)) fNilL)) (gNm 12) (fIf (fOrB (fTru (fMeth 1 [(10, F_Fields_whole)] (fVar 11) fNilL)) (fT (fOp (isA true) (fMeth 2 [(10, F_Fields_fed)] (fVar 11) (fConsL (fOp ixA (fVar 9) (fVar 12)) fNilL)) (fC (.bl true))))) (fRet (fC (.bl false))) fNx)) g [some (.loc 0), some (.int c0), some (.int (m : Int)), some bk, some (.int (r : Int)), some (.loc lf), some (tps ends), some (.str y), some (.int (n : Int)), some (.str T0), some D, some (.loc μ.length), none, none] μ5 = g [some (.loc 0), some (.int c0), some (.int (m : Int)), some bk, some (.int (r : Int)), some (.loc lf), some (tps ends), some (.str y), some (.int (n : Int)), some (.str T0), some D, some (.loc μ.length), o, none] νE := fun g => seq_nx (by simp [hz, hsm, e13])
  have hlE : lstAt νE lf = some (fs.map eF) := by
    have : νE[lf]? = μ[lf]? := by rw [kE lf hlf, hμ5, List.getElem?_append_left hlf]
    unfold lstAt at hl ⊢
    rw [this]
    exact hl
  have w := fE.whole rE
  have t1 := fE.toldP pE (by simp; omega)
  have t2 := fE.toldE
  obtain ⟨kk, hk1, hk2⟩ := eq_tup (fs.map eF) (fs.map eF) hf.lay.1 hf.lay.1 (by have := hf.lay.2; omega) (by have := hf.lay.2; omega)
  have hkk := hk1.mpr rfl
  subst hkk
  have hd := due_self hE he
  have hoE : insAt νE μ.length = some (10, _) := fE
  have hfz : fs.length ≤ LIM := by rw [LIMv]; omega
  have s14 : ∀ g, fSeq (fIf (fOrB (fT (fOp (isA true) (fMeth 1 [(10, F_Fields_whole)] (fVar 11) fNilL) (fC (.bl true)))) (fOrB (fT (fOp (eqA true) (fMeth 1 [(10, F_Fields_told)] (fVar 11) fNilL) (fCB tupA (fConsL (fVar 5) fNilL)))) (fT (fOp (eqA true) (fMeth 1 [(10, F_Fields_told_end)] (fVar 11) fNilL) (fVar 10))))) (fRet (fC (.bl false))) fNx) g [some (.loc 0), some (.int c0), some (.int (m : Int)), some bk, some (.int (r : Int)), some (.loc lf), some (tps ends), some (.str y), some (.int (n : Int)), some (.str T0), some D, some (.loc μ.length), o, none] νE = g [some (.loc 0), some (.int c0), some (.int (m : Int)), some bk, some (.int (r : Int)), some (.loc lf), some (tps ends), some (.str y), some (.int (n : Int)), some (.str T0), some D, some (.loc μ.length), o, none] νE := fun g => seq_nx (by simp [hoE, w, t1, t2, hlE, hk2, hd, hfz])
  obtain ⟨νF, hνF⟩ : ∃ νF, νF = νE ++ [.lst [.str [97], .str [59], .str [10], .str [108], .str [32]]] := ⟨_, rfl⟩
  have fF : FsA νF μ.length bk (r : Int) ends (μ.length + 1) D .non (.loc er) := by rw [hνF]; exact insA _ _ _ _ fE
  have rF : ReA νF er [59, 10] := by rw [hνF]; exact insA _ _ _ _ rE
  have lF : lstAt νF νE.length = some [.str [97], .str [59], .str [10], .str [108], .str [32]] := by rw [hνF]; simp
  obtain ⟨o2, e15⟩ := refuse_loop fF rF lF (some (.loc 0)) (some (.int c0)) (some (.int (m : Int))) (some bk) (some (.int (r : Int))) (some (.loc lf)) (some (tps ends)) (some (.str y)) (some (.int (n : Int))) (some (.str T0)) (some D) o
  unfold bdB at e15
  have h5 : (5 : Nat) ≤ LIM := by decide
  have s15 : ∀ g, fSeq (fFor 1000000 (fiA (fLst (fConsL (fC (.str [97])) (fConsL (fC (.str [59])) (fConsL (fC (.str [10])) (fConsL (fC (.str [108])) (fConsL (fC (.str [32])) fNilL))))))) (gNm 13) (fIf (fT (fOp (isA true) (fMeth 2 [(10, F_Fields_fed)] (fVar 11) (fConsL (fVar 13) fNilL)) (fC (.bl false)))) (fRet (fC (.bl false))) fNx)) g [some (.loc 0), some (.int c0), some (.int (m : Int)), some bk, some (.int (r : Int)), some (.loc lf), some (tps ends), some (.str y), some (.int (n : Int)), some (.str T0), some D, some (.loc μ.length), o, none] νE = g [some (.loc 0), some (.int c0), some (.int (m : Int)), some bk, some (.int (r : Int)), some (.loc lf), some (tps ends), some (.str y), some (.int (n : Int)), some (.str T0), some D, some (.loc μ.length), o, o2] νF := fun g => seq_nx (by simp [h5, ← hνF, lF, e15])
  have pF : lstAt νF (μ.length + 1) = some (fs.map eF) := by rw [hνF, lstAt_left (lstAt_lt pE)]; exact pE
  have hlF : lstAt νF lf = some (fs.map eF) := by rw [hνF, lstAt_left (lstAt_lt hlE)]; exact hlE
  have q1 := fs_room fF pF (by simp; omega)
  have q2 := fF.awaitedE rF
  have q3 := fF.toldP pF (by simp; omega)
  have hoF : insAt νF μ.length = some (10, _) := fF
  refine ⟨νF, ?_⟩
  rw [s12, s13, s14, s15]
  simp [hoF, q1, q2, q3, hlF, hk2, hfz]
theorem endr_len {ends : List Tx} {m : Int} {E : Tx} {D : AV} (hE : EnOk ends) (h : EndR ends m E D) : E.length < 200 := by
  cases h with
  | none => simp
  | len n hn hm h =>
    have := (num_tk hn hm).2.2.2.2
    simp [LEN]
    omega
  | yes y h hy =>
    have := (endn_sm y (hE.sub y h)).2.2
    simp [YES]
    omega
theorem rowsT_len {M V : Nat} (hM2 : M ≤ 12) (hV2 : V ≤ 12) : ∀ (fs : List (Tx × Tx)), FOk M V fs → (rowsT fs).length ≤ fs.length * 28
  | [], _ => by simp [rowsT]
  | f :: fs, h => by
    have ih := rowsT_len hM2 hV2 fs fun g hg => h g (List.mem_cons_of_mem _ hg)
    obtain ⟨a, b⟩ := h f List.mem_cons_self
    have := a.le
    have := b.le
    simp [rowsT, rowT] at ih ⊢
    omega
theorem law_end {c0 : Int} {m r n lf : Nat} {bk : AV} {ends : List Tx} {y : Tx} {fs : List (Tx × Tx)} (hE : EnOk ends) (hy : y ∈ ends ∨ y = NONE) (hn : n ≤ m) (hm : m ≤ 1000) (hfl : (rowsT fs).length < 1000) (μ : Mu) :
    ∃ E D, EndR ends (m : Int) E D ∧ ∀ g, fSeq (fAsg (fTup (fConsL (fVar 7) (fConsL (fC (.int 0)) fNilL))) (gNm 10)) (fSeq (fIf (fT (fOp (eqA false) (fVar 7) (fC (.str [108, 101, 110, 103, 116, 104])))) (fSeq (fAsg (fTup (fConsL (fVar 7) (fConsL (fVar 8) fNilL))) (gNm 10)) (fAsg (fOp addG (fOp addG (fOp addG (fVar 9) (fC (.str [108, 101, 110, 103, 116, 104, 58, 32]))) (fCB strA (fConsL (fVar 8) fNilL))) (fC (.str [59, 10]))) (gNm 9))) (fIf (fT (fOp (eqA false) (fVar 7) (fC (.str [110, 111, 110, 101])))) (fAsg (fC .non) (gNm 10)) (fAsg (fOp addG (fOp addG (fVar 9) (fVar 7)) (fC (.str [58, 32, 121, 101, 115, 59, 10]))) (gNm 9)))) (fSeq (fAsg (fOp addG (fVar 9) (fC (.str [59, 10]))) (gNm 9)) g)) [some (.loc 0), some (.int c0), some (.int (m : Int)), some bk, some (.int (r : Int)), some (.loc lf), some (tps ends), some (.str y), some (.int (n : Int)), some (.str (rowsT fs)), none, none, none, none] μ = g [some (.loc 0), some (.int c0), some (.int (m : Int)), some bk, some (.int (r : Int)), some (.loc lf), some (tps ends), some (.str y), some (.int (n : Int)), some (.str (rowsT fs ++ E ++ [59, 10])), some D, none, none, none] μ := by
  have hNE : NONE ∉ ENDN := by decide
  by_cases h1 : y = LEN
  · have hmem : LEN ∈ ends := by
      rcases hy with h | h
      · rw [← h1]; exact h
      · rw [h1] at h; exact absurd h (by decide)
    have hd := (num_tk (n := n) (m := (m : Int)) (by omega) (by omega)).2.2.2.2
    have hsm : sm 1900 (n : Int) = true := sm_of (by
      have : (2 : Nat) ^ 10 ≤ 2 ^ 1900 := Nat.pow_le_pow_right (by decide) (by decide)
      have e : (2 : Nat) ^ 10 = 1024 := by decide
      omega) (by decide)
    refine ⟨_, _, .len n (by omega) (by omega) hmem, fun g => ?_⟩
    have h1' : y = [108, 101, 110, 103, 116, 104] := h1
    subst h1'
    have z1 : (rowsT fs).length + 8 ≤ LIM := by rw [LIMv]; omega
    have z2 : (rowsT fs).length + 8 + (td n).length ≤ LIM := by rw [LIMv]; omega
    have z3 : (rowsT fs).length + 8 + (td n).length + 2 ≤ LIM := by rw [LIMv]; omega
    have z4 : (rowsT fs).length + 8 + (td n).length + 2 + 2 ≤ LIM := by rw [LIMv]; omega
    have z0 : (2 : Nat) ≤ LIM := by decide
    have w1 : (rowsT fs).length + ((td n).length + 8) + 2 ≤ LIM := by rw [LIMv]; omega
    have w2 : (rowsT fs).length + ((td n).length + 2 + 8) + 2 ≤ LIM := by rw [LIMv]; omega
    have w3 : (rowsT fs).length + ((td n).length + 8) ≤ LIM := by rw [LIMv]; omega
    have s9 : ∀ g, fSeq (fAsg (fTup (fConsL (fVar 7) (fConsL (fC (.int 0)) fNilL))) (gNm 10)) g [some (.loc 0), some (.int c0), some (.int (m : Int)), some bk, some (.int (r : Int)), some (.loc lf), some (tps ends), some (.str [108, 101, 110, 103, 116, 104]), some (.int (n : Int)), some (.str (rowsT fs)), none, none, none, none] μ = g [some (.loc 0), some (.int c0), some (.int (m : Int)), some bk, some (.int (r : Int)), some (.loc lf), some (tps ends), some (.str [108, 101, 110, 103, 116, 104]), some (.int (n : Int)), some (.str (rowsT fs)), some (.tup [.str [108, 101, 110, 103, 116, 104], .int 0]), none, none, none] μ := fun g => seq_nx (by simp [z0])
    have s10 : ∀ g, fSeq (fIf (fT (fOp (eqA false) (fVar 7) (fC (.str [108, 101, 110, 103, 116, 104])))) (fSeq (fAsg (fTup (fConsL (fVar 7) (fConsL (fVar 8) fNilL))) (gNm 10)) (fAsg (fOp addG (fOp addG (fOp addG (fVar 9) (fC (.str [108, 101, 110, 103, 116, 104, 58, 32]))) (fCB strA (fConsL (fVar 8) fNilL))) (fC (.str [59, 10]))) (gNm 9))) (fIf (fT (fOp (eqA false) (fVar 7) (fC (.str [110, 111, 110, 101])))) (fAsg (fC .non) (gNm 10)) (fAsg (fOp addG (fOp addG (fVar 9) (fVar 7)) (fC (.str [58, 32, 121, 101, 115, 59, 10]))) (gNm 9)))) g [some (.loc 0), some (.int c0), some (.int (m : Int)), some bk, some (.int (r : Int)), some (.loc lf), some (tps ends), some (.str [108, 101, 110, 103, 116, 104]), some (.int (n : Int)), some (.str (rowsT fs)), some (.tup [.str [108, 101, 110, 103, 116, 104], .int 0]), none, none, none] μ = g [some (.loc 0), some (.int c0), some (.int (m : Int)), some bk, some (.int (r : Int)), some (.loc lf), some (tps ends), some (.str [108, 101, 110, 103, 116, 104]), some (.int (n : Int)), some (.str (rowsT fs ++ (LEN ++ [58, 32] ++ td n ++ [59, 10]))), some (.tup [.str LEN, .int (n : Int)]), none, none, none] μ := fun g => seq_nx (by simp [z0, hsm, decL_td, LEN, z1, z2, z3, w1, w2, w3])
    rw [s9, s10]
    refine seq_nx ?_
    simp [LEN, z1, z2, z3, z4, w1, w2, w3]
  · have h1' : ¬ y = [108, 101, 110, 103, 116, 104] := h1
    have z0 : (2 : Nat) ≤ LIM := by decide
    have s9 : ∀ g, fSeq (fAsg (fTup (fConsL (fVar 7) (fConsL (fC (.int 0)) fNilL))) (gNm 10)) g [some (.loc 0), some (.int c0), some (.int (m : Int)), some bk, some (.int (r : Int)), some (.loc lf), some (tps ends), some (.str y), some (.int (n : Int)), some (.str (rowsT fs)), none, none, none, none] μ = g [some (.loc 0), some (.int c0), some (.int (m : Int)), some bk, some (.int (r : Int)), some (.loc lf), some (tps ends), some (.str y), some (.int (n : Int)), some (.str (rowsT fs)), some (.tup [.str y, .int 0]), none, none, none] μ := fun g => seq_nx (by simp [z0])
    have z1 : (rowsT fs).length + 2 ≤ LIM := by rw [LIMv]; omega
    by_cases h2 : y = NONE
    · have h2' : y = [110, 111, 110, 101] := h2
      refine ⟨_, _, .none, fun g => ?_⟩
      have s10 : ∀ g, fSeq (fIf (fT (fOp (eqA false) (fVar 7) (fC (.str [108, 101, 110, 103, 116, 104])))) (fSeq (fAsg (fTup (fConsL (fVar 7) (fConsL (fVar 8) fNilL))) (gNm 10)) (fAsg (fOp addG (fOp addG (fOp addG (fVar 9) (fC (.str [108, 101, 110, 103, 116, 104, 58, 32]))) (fCB strA (fConsL (fVar 8) fNilL))) (fC (.str [59, 10]))) (gNm 9))) (fIf (fT (fOp (eqA false) (fVar 7) (fC (.str [110, 111, 110, 101])))) (fAsg (fC .non) (gNm 10)) (fAsg (fOp addG (fOp addG (fVar 9) (fVar 7)) (fC (.str [58, 32, 121, 101, 115, 59, 10]))) (gNm 9)))) g [some (.loc 0), some (.int c0), some (.int (m : Int)), some bk, some (.int (r : Int)), some (.loc lf), some (tps ends), some (.str y), some (.int (n : Int)), some (.str (rowsT fs)), some (.tup [.str y, .int 0]), none, none, none] μ = g [some (.loc 0), some (.int c0), some (.int (m : Int)), some bk, some (.int (r : Int)), some (.loc lf), some (tps ends), some (.str y), some (.int (n : Int)), some (.str (rowsT fs)), some AV.non, none, none, none] μ := fun g => seq_nx (by
        rw [h2']
        simp)
      rw [s9, s10]
      refine seq_nx ?_
      simp [z1]
    · have h2' : ¬ y = [110, 111, 110, 101] := h2
      have hmem : y ∈ ends := by
        rcases hy with h | h
        · exact h
        · exact absurd h h2
      have hyl := (endn_sm y (hE.sub y hmem)).2.2
      have w1 : (rowsT fs).length + y.length ≤ LIM := by rw [LIMv]; omega
      have w2 : (rowsT fs).length + y.length + 7 ≤ LIM := by rw [LIMv]; omega
      have w3 : (rowsT fs).length + (y.length + 7) + 2 ≤ LIM := by rw [LIMv]; omega
      have w4 : (rowsT fs).length + (y.length + 7) ≤ LIM := by rw [LIMv]; omega
      refine ⟨_, _, .yes y hmem h1, fun g => ?_⟩
      have s10 : ∀ g, fSeq (fIf (fT (fOp (eqA false) (fVar 7) (fC (.str [108, 101, 110, 103, 116, 104])))) (fSeq (fAsg (fTup (fConsL (fVar 7) (fConsL (fVar 8) fNilL))) (gNm 10)) (fAsg (fOp addG (fOp addG (fOp addG (fVar 9) (fC (.str [108, 101, 110, 103, 116, 104, 58, 32]))) (fCB strA (fConsL (fVar 8) fNilL))) (fC (.str [59, 10]))) (gNm 9))) (fIf (fT (fOp (eqA false) (fVar 7) (fC (.str [110, 111, 110, 101])))) (fAsg (fC .non) (gNm 10)) (fAsg (fOp addG (fOp addG (fVar 9) (fVar 7)) (fC (.str [58, 32, 121, 101, 115, 59, 10]))) (gNm 9)))) g [some (.loc 0), some (.int c0), some (.int (m : Int)), some bk, some (.int (r : Int)), some (.loc lf), some (tps ends), some (.str y), some (.int (n : Int)), some (.str (rowsT fs)), some (.tup [.str y, .int 0]), none, none, none] μ = g [some (.loc 0), some (.int c0), some (.int (m : Int)), some bk, some (.int (r : Int)), some (.loc lf), some (tps ends), some (.str y), some (.int (n : Int)), some (.str (rowsT fs ++ (y ++ [58, 32] ++ YES ++ [59, 10]))), some (.tup [.str y, .int 0]), none, none, none] μ := fun g => seq_nx (by
        simp [h1', h2', w1, w2, w3, w4, YES])
      rw [s9, s10]
      refine seq_nx ?_
      simp [YES, w1, w2, w3, w4]
theorem law_eq (ns : List Int) (hl : ns.length ≤ 63) : ∃ μ', F_law [.loc 0] [.fz (ns.map .int)] = .ok (.bl true) μ' := by
  have l0 : lstAt [AO.fz (ns.map .int)] 0 = some (ns.map .int) := rfl
  have l1 : lstAt [AO.fz (ns.map .int), .lst [.int 0, .int 9, .int 400, .int 1000]] 0 = some (ns.map .int) := rfl
  obtain ⟨c0, e0⟩ := cell_eq 0 ns 0 [AO.fz (ns.map .int)] l0
  obtain ⟨c1, e1⟩ := cell_eq 0 ns 1 [AO.fz (ns.map .int), .lst [.int 0, .int 9, .int 400, .int 1000]] l1
  obtain ⟨c2, e2⟩ := cell_eq 0 ns 2 [AO.fz (ns.map .int), .lst [.int 0, .int 9, .int 400, .int 1000]] l1
  simp at e0 e1 e2
  obtain ⟨m, hm, em⟩ : ∃ m : Nat, m ≤ 1000 ∧ L2.atI [AV.int 0, AV.int 9, AV.int 400, AV.int 1000] (c0 / 7 % 4) = some (.int (m : Int)) := by
    obtain ⟨a, ha, e⟩ := atI_modE [AV.int 0, AV.int 9, AV.int 400, AV.int 1000] .non 4 rfl (c0 / 7) (by decide)
    simp at ha
    rcases ha with rfl | rfl | rfl | rfl
    · exact ⟨0, by decide, e⟩
    · exact ⟨9, by decide, e⟩
    · exact ⟨400, by decide, e⟩
    · exact ⟨1000, by decide, e⟩
  obtain ⟨M, hMe, hM1, hM2⟩ : ∃ M : Nat, 1 + c1 % 12 = (M : Int) ∧ 1 ≤ M ∧ M ≤ 12 := ⟨(1 + c1 % 12).toNat, by omega, by omega, by omega⟩
  obtain ⟨V, hVe, hV1, hV2⟩ : ∃ V : Nat, 1 + c2 % 12 = (V : Int) ∧ 1 ≤ V ∧ V ≤ 12 := ⟨(1 + c2 % 12).toNat, by omega, by omega, by omega⟩
  obtain ⟨r, hre, hr⟩ : ∃ r : Nat, c0 % 7 = (r : Int) ∧ r < 7 := ⟨(c0 % 7).toNat, by omega, by omega⟩
  obtain ⟨bk, hbk⟩ : ∃ bk, bk = bkT 8 (M : Int) (V : Int) 6 (m : Int) 2 2 := ⟨_, rfl⟩
  have z4 : (4 : Nat) ≤ LIM := by decide
  have z7 : (7 : Nat) ≤ LIM := by decide
  have z2 : (2 : Nat) ≤ LIM := by decide
  have s0 : ∀ g, fSeq (fAsg (fCall 2 F__law_cell_at [] (fConsL (fVar 0) (fConsL (fC (.int 0)) fNilL))) (gNm 1)) g (startE ["_law_script", "_law_first", "_law_most", "_law_book", "_law_room", "_law_fields_here", "_law_ends", "_law_name_here", "_law_number", "_law_text", "_law_due", "_law_rows_here", "_law_k", "_law_sign_here"] [.loc 0]) [AO.fz (ns.map .int)] = g [some (.loc 0), some (.int c0), none, none, none, none, none, none, none, none, none, none, none, none] [AO.fz (ns.map .int)] := fun g => seq_nx (by simp [e0])
  have s1 : ∀ g, fSeq (fAsg (fOp ixA (fLst (fConsL (fC (.int 0)) (fConsL (fC (.int 9)) (fConsL (fC (.int 400)) (fConsL (fC (.int 1000)) fNilL))))) (fOp modA (fOp fdivA (fVar 1) (fC (.int 7))) (fC (.int 4)))) (gNm 2)) g [some (.loc 0), some (.int c0), none, none, none, none, none, none, none, none, none, none, none, none] [AO.fz (ns.map .int)] = g [some (.loc 0), some (.int c0), some (.int (m : Int)), none, none, none, none, none, none, none, none, none, none, none] [AO.fz (ns.map .int), .lst [.int 0, .int 9, .int 400, .int 1000]] := fun g => seq_nx (by simp [lstAt, z4, dvN, modN, em])
  have s2 : ∀ g, fSeq (fAsg (fTup (fConsL (fC (.int 8)) (fConsL (fOp addG (fC (.int 1)) (fOp modA (fCall 2 F__law_cell_at [] (fConsL (fVar 0) (fConsL (fC (.int 1)) fNilL))) (fC (.int 12)))) (fConsL (fOp addG (fC (.int 1)) (fOp modA (fCall 2 F__law_cell_at [] (fConsL (fVar 0) (fConsL (fC (.int 2)) fNilL))) (fC (.int 12)))) (fConsL (fC (.int 6)) (fConsL (fVar 2) (fConsL (fC (.int 2)) (fConsL (fC (.int 2)) fNilL)))))))) (gNm 3)) g [some (.loc 0), some (.int c0), some (.int (m : Int)), none, none, none, none, none, none, none, none, none, none, none] [AO.fz (ns.map .int), .lst [.int 0, .int 9, .int 400, .int 1000]] = g [some (.loc 0), some (.int c0), some (.int (m : Int)), some bk, none, none, none, none, none, none, none, none, none, none] [AO.fz (ns.map .int), .lst [.int 0, .int 9, .int 400, .int 1000]] := fun g => seq_nx (by simp [e1, e2, modN, hMe, hVe, z7, hbk, bkT])
  have s3 : ∀ g, fSeq (fAsg (fOp modA (fVar 1) (fC (.int 7))) (gNm 4)) g [some (.loc 0), some (.int c0), some (.int (m : Int)), some bk, none, none, none, none, none, none, none, none, none, none] [AO.fz (ns.map .int), .lst [.int 0, .int 9, .int 400, .int 1000]] = g [some (.loc 0), some (.int c0), some (.int (m : Int)), some bk, some (.int (r : Int)), none, none, none, none, none, none, none, none, none] [AO.fz (ns.map .int), .lst [.int 0, .int 9, .int 400, .int 1000]] := fun g => seq_nx (by simp [modN, hre])
  have cs : cutL (ns.map AV.int) (some 4) (some (4 + (r : Int))) = (cutL ns (some 4) (some (4 + (r : Int)))).map .int := by simp [cutL, List.map_take, List.map_drop]
  have csl : (cutL ns (some 4) (some (4 + (r : Int)))).length ≤ r := by
    unfold cutL
    rw [List.length_take]
    show min ((if (4 + (r : Int)) < 0 then (4 + (r : Int) + (ns.length : Int)).toNat else min (4 + (r : Int)).toNat ns.length) - (if (4 : Int) < 0 then ((4 : Int) + (ns.length : Int)).toNat else min (4 : Int).toNat ns.length)) _ ≤ r
    rw [if_neg (by omega), if_neg (by decide)]
    omega
  obtain ⟨ds, hds⟩ : ∃ ds : List Int, cutL ns (some 4) (some (4 + (r : Int))) = ds := ⟨_, rfl⟩
  rw [hds] at cs csl
  obtain ⟨fs, u, hf, hfl, ef⟩ := fields_eq (b0 := 8) (b3 := 6) (m := (m : Int)) (b5 := 2) (b6 := 2) hM1 hM2 hV1 hV2 ds (by omega) ([AO.fz (ns.map .int), .lst [.int 0, .int 9, .int 400, .int 1000]] ++ [.lst (ds.map .int)]) 2 rfl
  rw [← hbk] at ef
  obtain ⟨lf, hlf⟩ : ∃ lf, lf = ([AO.fz (ns.map .int), .lst [.int 0, .int 9, .int 400, .int 1000]] ++ [AO.lst (ds.map .int)]).length := ⟨_, rfl⟩
  obtain ⟨μ3, hμ3⟩ : ∃ μ3, μ3 = [AO.fz (ns.map .int), .lst [.int 0, .int 9, .int 400, .int 1000]] ++ [AO.lst (ds.map .int)] ++ .lst (fs.map eF) :: u := ⟨_, rfl⟩
  rw [← hlf, ← hμ3] at ef
  have ef' : F__law_fields [.loc 2, bk] [.fz (ns.map .int), .lst [.int 0, .int 9, .int 400, .int 1000], .lst (ds.map .int)] = .ok (.loc lf) μ3 := ef
  have s4 : ∀ g, fSeq (fAsg (fCall 2 F__law_fields [] (fConsL (fSl slG (fVar 0) (fPart (fC (.int 4))) (fPart (fOp addG (fC (.int 4)) (fVar 4)))) (fConsL (fVar 3) fNilL))) (gNm 5)) g [some (.loc 0), some (.int c0), some (.int (m : Int)), some bk, some (.int (r : Int)), none, none, none, none, none, none, none, none, none] [AO.fz (ns.map .int), .lst [.int 0, .int 9, .int 400, .int 1000]] = g [some (.loc 0), some (.int c0), some (.int (m : Int)), some bk, some (.int (r : Int)), some (.loc lf), none, none, none, none, none, none, none, none] μ3 := fun g => seq_nx (by simp [lstAt, cs, hds, ef'])
  have l3 : lstAt μ3 lf = some (fs.map eF) := by rw [hμ3, hlf]; rfl
  have l30 : lstAt μ3 0 = some (ns.map .int) := by rw [hμ3]; rfl
  obtain ⟨ends, hE, ee⟩ : ∃ ends, EnOk ends ∧ L2.atI [tps E4, tps E3] (c0 / 28 % 2) = some (tps ends) := by
    obtain ⟨a, ha, e⟩ := atI_modE [tps E4, tps E3] .non 2 rfl (c0 / 28) (by decide)
    simp at ha
    rcases ha with rfl | rfl
    · exact ⟨E4, ⟨by decide, by decide⟩, e⟩
    · exact ⟨E3, ⟨by decide, by decide⟩, e⟩
  obtain ⟨μ4, hμ4⟩ : ∃ μ4, μ4 = μ3 ++ [.lst [tps E4, tps E3]] := ⟨_, rfl⟩
  have l4 : lstAt μ4 lf = some (fs.map eF) := by rw [hμ4, lstAt_left (lstAt_lt l3)]; exact l3
  have l40 : lstAt μ4 0 = some (ns.map .int) := by rw [hμ4, lstAt_left (lstAt_lt l30)]; exact l30
  have l44 : lstAt μ4 μ3.length = some [tps E4, tps E3] := by rw [hμ4]; simp
  have z3 : (3 : Nat) ≤ LIM := by decide
  have s5 : ∀ g, fSeq (fAsg (fOp ixA (fLst (fConsL (fTup (fConsL (fC (.str [108, 101, 110, 103, 116, 104])) (fConsL (fC (.str [112, 105, 101, 99, 101, 115])) (fConsL (fC (.str [112, 97, 114, 116, 115])) (fConsL (fC (.str [114, 101, 115, 116])) fNilL))))) (fConsL (fTup (fConsL (fC (.str [108, 101, 110, 103, 116, 104])) (fConsL (fC (.str [112, 105, 101, 99, 101, 115])) (fConsL (fC (.str [112, 97, 114, 116, 115])) fNilL)))) fNilL))) (fOp modA (fOp fdivA (fVar 1) (fC (.int 28))) (fC (.int 2)))) (gNm 6)) g [some (.loc 0), some (.int c0), some (.int (m : Int)), some bk, some (.int (r : Int)), some (.loc lf), none, none, none, none, none, none, none, none] μ3 = g [some (.loc 0), some (.int c0), some (.int (m : Int)), some bk, some (.int (r : Int)), some (.loc lf), some (tps ends), none, none, none, none, none, none, none] μ4 := fun g => seq_nx (by
    unfold tps E4 E3 at ee hμ4 l44
    simp at ee hμ4 l44
    simp [z4, z3, z2, dvN, modN, ee, ← hμ4, l44, tps])
  have hne : 0 < ends.length + 1 := by omega
  obtain ⟨y, hy, ey⟩ : ∃ y, (y ∈ ends ∨ y = NONE) ∧ L2.atI ((ends ++ [NONE]).map AV.str) (c0 / 56 % ((ends.length : Int) + 1)) = some (.str y) := by
    obtain ⟨a, ha, e⟩ := atI_modE ((ends ++ [NONE]).map AV.str) .non ((ends.length : Int) + 1) (by simp) (c0 / 56) (by simp)
    obtain ⟨b, hb, rfl⟩ := List.mem_map.mp ha
    refine ⟨b, ?_, e⟩
    simpa using hb
  have hel := hE.len
  have zE : ends.length + 1 ≤ LIM := by rw [LIMv]; omega
  have mE : ∀ x, modOk x ((ends.length : Int) + 1) = true := fun x => modN _ _ (by omega)
  have z1 : (1 : Nat) ≤ LIM := by decide
  have s6 : ∀ g, fSeq (fAsg (fOp ixA (fOp addG (fVar 6) (fTup (fConsL (fC (.str [110, 111, 110, 101])) fNilL))) (fOp modA (fOp fdivA (fVar 1) (fC (.int 56))) (fOp addG (fCB lenA (fConsL (fVar 6) fNilL)) (fC (.int 1))))) (gNm 7)) g [some (.loc 0), some (.int c0), some (.int (m : Int)), some bk, some (.int (r : Int)), some (.loc lf), some (tps ends), none, none, none, none, none, none, none] μ4 = g [some (.loc 0), some (.int c0), some (.int (m : Int)), some bk, some (.int (r : Int)), some (.loc lf), some (tps ends), some (.str y), none, none, none, none, none, none] μ4 := fun g => seq_nx (by
    unfold NONE at ey
    simp at ey
    simp [tps, z1, zE, dvN, mE, ey])
  obtain ⟨c3, e3⟩ := cell_eq 0 ns 3 μ4 l40
  simp at e3
  obtain ⟨n, hne', hnm⟩ : ∃ n : Nat, c3 % ((m : Int) + 1) = (n : Int) ∧ n ≤ m := by
    have a := Int.emod_nonneg c3 (show (m : Int) + 1 ≠ 0 by omega)
    have b := Int.emod_lt_of_pos c3 (show (0 : Int) < (m : Int) + 1 by omega)
    exact ⟨(c3 % ((m : Int) + 1)).toNat, by omega, by omega⟩
  have mM : ∀ x, modOk x ((m : Int) + 1) = true := fun x => modN _ _ (by omega)
  have s7 : ∀ g, fSeq (fAsg (fOp modA (fCall 2 F__law_cell_at [] (fConsL (fVar 0) (fConsL (fC (.int 3)) fNilL))) (fOp addG (fVar 2) (fC (.int 1)))) (gNm 8)) g [some (.loc 0), some (.int c0), some (.int (m : Int)), some bk, some (.int (r : Int)), some (.loc lf), some (tps ends), some (.str y), none, none, none, none, none, none] μ4 = g [some (.loc 0), some (.int c0), some (.int (m : Int)), some bk, some (.int (r : Int)), some (.loc lf), some (tps ends), some (.str y), some (.int (n : Int)), none, none, none, none, none] μ4 := fun g => seq_nx (by simp [e3, mM, hne'])
  have er := rows_eq hM2 hV2 fs hf (by omega) μ4 lf l4
  have s8 : ∀ g, fSeq (fAsg (fCall 1 F__law_rows [] (fConsL (fVar 5) fNilL)) (gNm 9)) g [some (.loc 0), some (.int c0), some (.int (m : Int)), some bk, some (.int (r : Int)), some (.loc lf), some (tps ends), some (.str y), some (.int (n : Int)), none, none, none, none, none] μ4 = g [some (.loc 0), some (.int c0), some (.int (m : Int)), some bk, some (.int (r : Int)), some (.loc lf), some (tps ends), some (.str y), some (.int (n : Int)), some (.str (rowsT fs)), none, none, none, none] μ4 := fun g => seq_nx (by simp [er])
  have hrl := rowsT_len hM2 hV2 fs hf
  obtain ⟨E, D, hED, s9⟩ := law_end (c0 := c0) (r := r) (lf := lf) (bk := bk) (fs := fs) hE hy hnm hm (by omega) μ4
  have hEl := endr_len hE hED
  obtain ⟨μ', efin⟩ := law_rest (c0 := c0) (n := n) (y := y) hbk hE hM2 hV1 hV2 hf (by omega) hr hED rfl (by simp; omega) μ4 l4
  have gcx : ∃ μ'', gcR [AO.fz (ns.map .int)] (.ok (.bl true) μ') = .ok (.bl true) μ'' := by
    unfold gcR
    dsimp only
    split
    · exact ⟨_, rfl⟩
    · exact ⟨_, rfl⟩
  obtain ⟨μ'', gcx⟩ := gcx
  refine ⟨μ'', ?_⟩
  unfold F_law
  rw [e_BG, e_body, s0, s1, s2, s3, s4, s5, s6, s7, s8, s9, efin]
  exact gcx
end
end My

namespace My
open PySem PySem.Spec PyProof.Rows L2 AL
noncomputable def spLaw (K : PySem.W.Frag) : Sp := fun vs H Q _ => ∃ (a : Addr) (ns : List Int), vs = [.ref a] ∧ Frz K H a (ns.map V.int) ∧ ns.length ≤ 63 ∧ ∀ H', Q (.bl true) H'
theorem rp_ints (K : PySem.W.Frag) (em : Em) (H : Hp) : ∀ ns : List Int, RpL K em H (ns.map AV.int) (ns.map V.int)
  | [] => RpL.nil
  | n :: r => RpL.cons (by simp only [Rp]) (rp_ints K em H r)
theorem law_ok {P : Program} {w : World} {K : PySem.W.Frag} {mg : Str → Option Value} {base : Heap} (T : TX K mg) : FnOk P w K mg base CX0 10 T.x_law.f T.x_law.fd ["_law_script"] (spLaw K) := by
  refine FnOk.imp (d_law (P := P) (w := w) (base := base) T) fun vs H Q E h => ?_
  obtain ⟨a, ns, rfl, hq, hl, q⟩ := h
  obtain ⟨μ', e⟩ := law_eq ns hl
  refine ⟨rfl, [.loc 0], [.fz (ns.map .int)], [a], RpL.cons (by simp only [Rp]; exact ⟨a, rfl, rfl⟩) RpL.nil, ⟨rfl, fun i j b oi oj h1 h2 h3 h4 m1 m2 => ?_, fun i b o h1 h2 => ?_⟩, ?_⟩
  · have hi : i < 1 := (List.getElem?_eq_some_iff.mp h1).1
    have hj : j < 1 := (List.getElem?_eq_some_iff.mp h2).1
    omega
  · have hi : i < 1 := (List.getElem?_eq_some_iff.mp h1).1
    have hi0 : i = 0 := by omega
    subst hi0
    cases h1
    cases h2
    exact ⟨ns.map V.int, hq, rp_ints K _ H ns⟩
  · rw [e]
    intro em' H' v p x S r
    simp only [Rp] at r
    subst r
    exact q H'
theorem only_frz {K : PySem.W.Frag} {H : Hp} {a : Addr} {xs : List V} (hO : Only H) (h : SqL K H a xs) : Frz K H a xs := by
  rcases h with h | h
  · rcases h with h | h
    · rcases hO a with z | ⟨o, ys, z⟩
      · rw [h] at z; cases z
      · rw [h] at z; cases z
    · exact .inl h
  · exact .inr h
end My

open PySem PySem.W PyProof.Rows
local macro_rules|`(tactic|o_head ($_:ident $K:term $as:term $e:term))=>`(tactic|refine holds_open (q:=TP.q) (loose:=TP.lo) (Xt:=fun s=>xlAt TP.q [] s&&recOk [] s) (XP:=XL TP.q []) (Yf:=Hook.obs (TP.hook $K $as $e)) (Ya:=Hook.val (TP.hook $K $as $e)) (YP:=Hook.says (TP.hook $K $as $e)) (N:=7558) (TP.left (by kernel_rfl) (by kernel_rfl) (fun s=>by kernel_rfl) fun w=>by kernel_rfl) (Hook.of (TP.hook $K $as $e)) (Hook.keeps (TP.hook $K $as $e)) (fun s e=>xl_of s (Bool.and_eq_true_iff.mp e).1) XL.keeps (by rfl) (by rfl) (by rfl) (fun s e=>recFacts_of (Bool.and_eq_true_iff.mp e).2) (by rfl) (by first|assumption|decide+kernel) (by decide+kernel) ⟨rfl,rfl,rfl,rfl,rfl,by decide+kernel⟩ ?hw ?hc)
set_option maxRecDepth 100000 in
set_option maxHeartbeats 0 in
theorem PySem.Challenge.cw_framepost_k31_rows_of_fields_read_holds : PySem.Challenge.rw_framepost_k31_rows_of_fields_read.Holds := by
  w_on; o_law; k_head; (case hw => w_witness2)
  k_fill
  refine L2.walk_ofK (l := PySem.Challenge.rw_framepost_k31_rows_of_fields_read) (n := 63) (k := 10) (x := "_law_script") (CX := L2.CX0) (sp := My.spLaw) rfl (by decide) rfl ⟨rfl, by decide, by decide⟩ (fun w h Y => TP.hook_in Y) ?F ?S ?C
  case F =>
    intro w mg fa h KX G hmg
    have T : Nonempty (My.TX (L2.KOf KX) mg) := by
      dsimp only [L2.KOf]
      refine' My.tx_mk KX G ?aCMark ?pgMark ?hdMark ?poMark ?saMark ?aCExact ?pgExact ?hdExact ?poExact ?saExact ?aCRowEnd ?pgRowEnd ?hdRowEnd ?poRowEnd ?saRowEnd ?aCNumber ?pgNumber ?hdNumber ?poNumber ?saNumber ?aCValue ?pgValue ?hdValue ?poValue ?saValue ?aCName ?pgName ?hdName ?poName ?saName ?aCClosed ?pgClosed ?hdClosed ?poClosed ?saClosed ?aCFieldRow ?pgFieldRow ?hdFieldRow ?poFieldRow ?saFieldRow ?aCFields ?pgFields ?hdFields ?poFields ?saFields ?a1 ?l1 ?c1 ?k1 ?a2 ?l2 ?c2 ?k2 ?a3 ?i3 ?l3 ?c3 ?k3 ?a4 ?i4 ?l4 ?c4 ?k4 ?a5 ?i5 ?l5 ?c5 ?k5 ?a6 ?i6 ?l6 ?c6 ?k6 ?a7 ?i7 ?l7 ?c7 ?k7 ?a8 ?i8 ?l8 ?c8 ?k8 ?a9 ?i9 ?l9 ?c9 ?k9 ?a10 ?i10 ?l10 ?c10 ?k10 ?a11 ?i11 ?l11 ?c11 ?k11 ?a12 ?i12 ?l12 ?c12 ?k12 ?a13 ?i13 ?l13 ?c13 ?k13 ?a14 ?i14 ?l14 ?c14 ?k14 ?a15 ?i15 ?l15 ?c15 ?k15 ?a16 ?i16 ?l16 ?c16 ?k16 ?a17 ?i17 ?l17 ?c17 ?k17 ?a18 ?i18 ?l18 ?c18 ?k18 ?a19 ?i19 ?l19 ?c19 ?k19 ?a20 ?i20 ?l20 ?c20 ?k20 ?a21 ?i21 ?l21 ?c21 ?k21 ?a22 ?i22 ?l22 ?c22 ?k22 ?a23 ?i23 ?l23 ?c23 ?k23 ?a24 ?i24 ?l24 ?c24 ?k24 ?a25 ?i25 ?l25 ?c25 ?k25 ?a26 ?i26 ?l26 ?c26 ?k26 ?a27 ?i27 ?l27 ?c27 ?k27 ?a28 ?i28 ?l28 ?c28 ?k28 ?a29 ?i29 ?l29 ?c29 ?k29 ?a30 ?i30 ?l30 ?c30 ?k30 ?a31 ?i31 ?l31 ?c31 ?k31 ?a32 ?i32 ?l32 ?c32 ?k32 ?a33 ?i33 ?l33 ?c33 ?k33 ?a34 ?i34 ?l34 ?c34 ?k34 ?a35 ?i35 ?l35 ?c35 ?k35 ?a36 ?i36 ?l36 ?c36 ?k36 ?a37 ?i37 ?l37 ?c37 ?k37 ?a38 ?i38 ?l38 ?c38 ?k38 ?a39 ?i39 ?l39 ?c39 ?k39 ?a40 ?i40 ?l40 ?c40 ?k40 ?a41 ?i41 ?l41 ?c41 ?k41 ?a42 ?i42 ?l42 ?c42 ?k42 ?a43 ?i43 ?l43 ?c43 ?k43 ?a44 ?i44 ?l44 ?c44 ?k44 ?a45 ?i45 ?l45 ?c45 ?k45 ?a46 ?i46 ?l46 ?c46 ?k46 ?a47 ?l47 ?c47 ?k47 ?a48 ?l48 ?c48 ?k48 ?a49 ?l49 ?c49 ?k49 ?a50 ?l50 ?c50 ?k50 ?a51 ?l51 ?c51 ?k51 ?a52 ?l52 ?c52 ?k52 ?a53 ?l53 ?c53 ?k53 ?a54 ?l54 ?c54 ?k54 ?eExact_fed ?eExact_told ?eName_fed ?eName_told ?eNumber_fed ?eRowEnd_awaited ?eRowEnd_fed ?eRowEnd_good ?eRowEnd_takes ?eValue_fed ?eValue_told ?bgExact_init ?brExact_init ?bfExact_init ?bgMark_init ?brMark_init ?bfMark_init ?mmClosed ?kcClosed ?mmExact ?kcExact ?mmFieldRow ?kcFieldRow ?mmFields ?kcFields ?mmName ?kcName ?mmNumber ?kcNumber ?mmRowEnd ?kcRowEnd ?mmValue ?kcValue ?nNumber_base ?nFieldRow_book ?nFields_book ?nClosed_closing ?nFields_empty_row ?nFields_end ?nFieldRow_ends ?nFields_ends ?nName_ends ?nRowEnd_goal ?nExact_goal ?nFieldRow_head ?nClosed_is_closing ?nClosed_mark ?nName_most ?nNumber_most ?nValue_most ?nFieldRow_name ?nFields_pairs ?nFields_room ?nName_room ?nFields_row ?nName_text ?nValue_text ?nNumber_text ?nRowEnd_text ?nExact_text ?nFieldRow_value ?gEND_NAMES ?hEND_NAMES ?gFIGURES ?gFILLER ?gMOST_BODY ?gMOST_NAME ?gMOST_VALUE ?gROW_END ?zany ?zlen ?zrange ?zstr ?ztuple
      (case aCMark => k_is)
      (case pgMark => k_is)
      (case hdMark => k_is)
      (case poMark => k_is)
      (case saMark => k_is)
      (case aCExact => k_is)
      (case pgExact => k_is)
      (case hdExact => k_is)
      (case poExact => k_is)
      (case saExact => k_is)
      (case aCRowEnd => k_is)
      (case pgRowEnd => k_is)
      (case hdRowEnd => k_is)
      (case poRowEnd => k_is)
      (case saRowEnd => k_is)
      (case aCNumber => k_is)
      (case pgNumber => k_is)
      (case hdNumber => k_is)
      (case poNumber => k_is)
      (case saNumber => k_is)
      (case aCValue => k_is)
      (case pgValue => k_is)
      (case hdValue => k_is)
      (case poValue => k_is)
      (case saValue => k_is)
      (case aCName => k_is)
      (case pgName => k_is)
      (case hdName => k_is)
      (case poName => k_is)
      (case saName => k_is)
      (case aCClosed => k_is)
      (case pgClosed => k_is)
      (case hdClosed => k_is)
      (case poClosed => k_is)
      (case saClosed => k_is)
      (case aCFieldRow => k_is)
      (case pgFieldRow => k_is)
      (case hdFieldRow => k_is)
      (case poFieldRow => k_is)
      (case saFieldRow => k_is)
      (case aCFields => k_is)
      (case pgFields => k_is)
      (case hdFields => k_is)
      (case poFields => k_is)
      (case saFields => k_is)
      (case a1 => k_is)
      (case l1 => k_is)
      (case c1 => k_is)
      (case k1 => k_is)
      (case a2 => k_is)
      (case l2 => k_is)
      (case c2 => k_is)
      (case k2 => k_is)
      (case a3 => k_is)
      (case i3 => k_is)
      (case l3 => k_is)
      (case c3 => k_is)
      (case k3 => k_is)
      (case a4 => k_is)
      (case i4 => k_is)
      (case l4 => k_is)
      (case c4 => k_is)
      (case k4 => k_is)
      (case a5 => k_is)
      (case i5 => k_is)
      (case l5 => k_is)
      (case c5 => k_is)
      (case k5 => k_is)
      (case a6 => k_is)
      (case i6 => k_is)
      (case l6 => k_is)
      (case c6 => k_is)
      (case k6 => k_is)
      (case a7 => k_is)
      (case i7 => k_is)
      (case l7 => k_is)
      (case c7 => k_is)
      (case k7 => k_is)
      (case a8 => k_is)
      (case i8 => k_is)
      (case l8 => k_is)
      (case c8 => k_is)
      (case k8 => k_is)
      (case a9 => k_is)
      (case i9 => k_is)
      (case l9 => k_is)
      (case c9 => k_is)
      (case k9 => k_is)
      (case a10 => k_is)
      (case i10 => k_is)
      (case l10 => k_is)
      (case c10 => k_is)
      (case k10 => k_is)
      (case a11 => k_is)
      (case i11 => k_is)
      (case l11 => k_is)
      (case c11 => k_is)
      (case k11 => k_is)
      (case a12 => k_is)
      (case i12 => k_is)
      (case l12 => k_is)
      (case c12 => k_is)
      (case k12 => k_is)
      (case a13 => k_is)
      (case i13 => k_is)
      (case l13 => k_is)
      (case c13 => k_is)
      (case k13 => k_is)
      (case a14 => k_is)
      (case i14 => k_is)
      (case l14 => k_is)
      (case c14 => k_is)
      (case k14 => k_is)
      (case a15 => k_is)
      (case i15 => k_is)
      (case l15 => k_is)
      (case c15 => k_is)
      (case k15 => k_is)
      (case a16 => k_is)
      (case i16 => k_is)
      (case l16 => k_is)
      (case c16 => k_is)
      (case k16 => k_is)
      (case a17 => k_is)
      (case i17 => k_is)
      (case l17 => k_is)
      (case c17 => k_is)
      (case k17 => k_is)
      (case a18 => k_is)
      (case i18 => k_is)
      (case l18 => k_is)
      (case c18 => k_is)
      (case k18 => k_is)
      (case a19 => k_is)
      (case i19 => k_is)
      (case l19 => k_is)
      (case c19 => k_is)
      (case k19 => k_is)
      (case a20 => k_is)
      (case i20 => k_is)
      (case l20 => k_is)
      (case c20 => k_is)
      (case k20 => k_is)
      (case a21 => k_is)
      (case i21 => k_is)
      (case l21 => k_is)
      (case c21 => k_is)
      (case k21 => k_is)
      (case a22 => k_is)
      (case i22 => k_is)
      (case l22 => k_is)
      (case c22 => k_is)
      (case k22 => k_is)
      (case a23 => k_is)
      (case i23 => k_is)
      (case l23 => k_is)
      (case c23 => k_is)
      (case k23 => k_is)
      (case a24 => k_is)
      (case i24 => k_is)
      (case l24 => k_is)
      (case c24 => k_is)
      (case k24 => k_is)
      (case a25 => k_is)
      (case i25 => k_is)
      (case l25 => k_is)
      (case c25 => k_is)
      (case k25 => k_is)
      (case a26 => k_is)
      (case i26 => k_is)
      (case l26 => k_is)
      (case c26 => k_is)
      (case k26 => k_is)
      (case a27 => k_is)
      (case i27 => k_is)
      (case l27 => k_is)
      (case c27 => k_is)
      (case k27 => k_is)
      (case a28 => k_is)
      (case i28 => k_is)
      (case l28 => k_is)
      (case c28 => k_is)
      (case k28 => k_is)
      (case a29 => k_is)
      (case i29 => k_is)
      (case l29 => k_is)
      (case c29 => k_is)
      (case k29 => k_is)
      (case a30 => k_is)
      (case i30 => k_is)
      (case l30 => k_is)
      (case c30 => k_is)
      (case k30 => k_is)
      (case a31 => k_is)
      (case i31 => k_is)
      (case l31 => k_is)
      (case c31 => k_is)
      (case k31 => k_is)
      (case a32 => k_is)
      (case i32 => k_is)
      (case l32 => k_is)
      (case c32 => k_is)
      (case k32 => k_is)
      (case a33 => k_is)
      (case i33 => k_is)
      (case l33 => k_is)
      (case c33 => k_is)
      (case k33 => k_is)
      (case a34 => k_is)
      (case i34 => k_is)
      (case l34 => k_is)
      (case c34 => k_is)
      (case k34 => k_is)
      (case a35 => k_is)
      (case i35 => k_is)
      (case l35 => k_is)
      (case c35 => k_is)
      (case k35 => k_is)
      (case a36 => k_is)
      (case i36 => k_is)
      (case l36 => k_is)
      (case c36 => k_is)
      (case k36 => k_is)
      (case a37 => k_is)
      (case i37 => k_is)
      (case l37 => k_is)
      (case c37 => k_is)
      (case k37 => k_is)
      (case a38 => k_is)
      (case i38 => k_is)
      (case l38 => k_is)
      (case c38 => k_is)
      (case k38 => k_is)
      (case a39 => k_is)
      (case i39 => k_is)
      (case l39 => k_is)
      (case c39 => k_is)
      (case k39 => k_is)
      (case a40 => k_is)
      (case i40 => k_is)
      (case l40 => k_is)
      (case c40 => k_is)
      (case k40 => k_is)
      (case a41 => k_is)
      (case i41 => k_is)
      (case l41 => k_is)
      (case c41 => k_is)
      (case k41 => k_is)
      (case a42 => k_is)
      (case i42 => k_is)
      (case l42 => k_is)
      (case c42 => k_is)
      (case k42 => k_is)
      (case a43 => k_is)
      (case i43 => k_is)
      (case l43 => k_is)
      (case c43 => k_is)
      (case k43 => k_is)
      (case a44 => k_is)
      (case i44 => k_is)
      (case l44 => k_is)
      (case c44 => k_is)
      (case k44 => k_is)
      (case a45 => k_is)
      (case i45 => k_is)
      (case l45 => k_is)
      (case c45 => k_is)
      (case k45 => k_is)
      (case a46 => k_is)
      (case i46 => k_is)
      (case l46 => k_is)
      (case c46 => k_is)
      (case k46 => k_is)
      (case a47 => k_is)
      (case l47 => k_is)
      (case c47 => k_is)
      (case k47 => k_is)
      (case a48 => k_is)
      (case l48 => k_is)
      (case c48 => k_is)
      (case k48 => k_is)
      (case a49 => k_is)
      (case l49 => k_is)
      (case c49 => k_is)
      (case k49 => k_is)
      (case a50 => k_is)
      (case l50 => k_is)
      (case c50 => k_is)
      (case k50 => k_is)
      (case a51 => k_is)
      (case l51 => k_is)
      (case c51 => k_is)
      (case k51 => k_is)
      (case a52 => k_is)
      (case l52 => k_is)
      (case c52 => k_is)
      (case k52 => k_is)
      (case a53 => k_is)
      (case l53 => k_is)
      (case c53 => k_is)
      (case k53 => k_is)
      (case a54 => k_is)
      (case l54 => k_is)
      (case c54 => k_is)
      (case k54 => k_is)
      (case eExact_fed => k_is)
      (case eExact_told => k_is)
      (case eName_fed => k_is)
      (case eName_told => k_is)
      (case eNumber_fed => k_is)
      (case eRowEnd_awaited => k_is)
      (case eRowEnd_fed => k_is)
      (case eRowEnd_good => k_is)
      (case eRowEnd_takes => k_is)
      (case eValue_fed => k_is)
      (case eValue_told => k_is)
      (case bgExact_init => k_is)
      (case brExact_init => k_is)
      (case bfExact_init => k_is)
      (case bgMark_init => k_is)
      (case brMark_init => k_is)
      (case bfMark_init => k_is)
      (case mmClosed => k_is)
      (case kcClosed => k_is)
      (case mmExact => k_is)
      (case kcExact => k_is)
      (case mmFieldRow => k_is)
      (case kcFieldRow => k_is)
      (case mmFields => k_is)
      (case kcFields => k_is)
      (case mmName => k_is)
      (case kcName => k_is)
      (case mmNumber => k_is)
      (case kcNumber => k_is)
      (case mmRowEnd => k_is)
      (case kcRowEnd => k_is)
      (case mmValue => k_is)
      (case kcValue => k_is)
      (case nNumber_base => k_is)
      (case nFieldRow_book => k_is)
      (case nFields_book => k_is)
      (case nClosed_closing => k_is)
      (case nFields_empty_row => k_is)
      (case nFields_end => k_is)
      (case nFieldRow_ends => k_is)
      (case nFields_ends => k_is)
      (case nName_ends => k_is)
      (case nRowEnd_goal => k_is)
      (case nExact_goal => k_is)
      (case nFieldRow_head => k_is)
      (case nClosed_is_closing => k_is)
      (case nClosed_mark => k_is)
      (case nName_most => k_is)
      (case nNumber_most => k_is)
      (case nValue_most => k_is)
      (case nFieldRow_name => k_is)
      (case nFields_pairs => k_is)
      (case nFields_room => k_is)
      (case nName_room => k_is)
      (case nFields_row => k_is)
      (case nName_text => k_is)
      (case nValue_text => k_is)
      (case nNumber_text => k_is)
      (case nRowEnd_text => k_is)
      (case nExact_text => k_is)
      (case nFieldRow_value => k_is)
      (case gEND_NAMES => k_is)
      (case hEND_NAMES => k_is)
      (case gFIGURES => k_is)
      (case gFILLER => k_is)
      (case gMOST_BODY => k_is)
      (case gMOST_NAME => k_is)
      (case gMOST_VALUE => k_is)
      (case gROW_END => k_is)
      (case zany => k_is)
      (case zlen => k_is)
      (case zrange => k_is)
      (case zstr => k_is)
      (case ztuple => k_is)
    obtain ⟨T⟩ := T
    have e0 := hmg.symm.trans T.x_law.m
    cases e0
    obtain ⟨oc, od, kV, doc, pm, an, cdv, ct, osl, e1, lk, hcd⟩ := T.x_law.F.ex
    refine ⟨T.x_law.fd, fun s u => ?_, fun base _ _ => My.law_ok T⟩
    rw [e1, T.x_law.hd rfl]
    exact .of_eq rfl
  case S => exact fun K H a ns hl hO hS => ⟨a, ns, rfl, My.only_frz hO hS, hl, fun _ => rfl⟩
  case C => exact fun _ _ _ _ z => z


