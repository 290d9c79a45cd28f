import PyProof.Rows.All
import Wide.All
import OpenK.AllK
import Wide.FinOn
import PyProof.EqAt
import PyProof.EqKinds
import PyProof.TupleCall
import HandS.Base
import HandS.Call
import HandS.List
import HandS.Comp
import HandS.Set
import HandS.Strs
import HandS.SetBool
import HandS.Ends
import HandS.More
import HandS.Exc
import HandS.Star
import HandS.Defaults
import HandS.Words
import HandS.HeadEnd
import HandS.Dict
import HandS.IsInst
import KE.SortData
import PyProof.ReprRoads
import HandS.TupAny
import HandS.WordsList
import HandS.Text
import HandS.FStr
import HandS.Iter
import HandS.StrMore
import HandS.Property
import HandS.ClsMeth
import HandS.Evl
import HandS.TryOnly
import HandS.TryMany
import HandS.ExcOwn
import HandS.WordsExc
import HandS.Wide
import HandS.Style
import HandS.Conv
import HandS.HeadHook1
import HandS.HeadHook2
import HandS.Flow
import HandS.CallLocal
import PyProof.ReprLen
import HandS.Head0
import HandS.Head1
import HandS.Head2
import KE.KStateDown
import KE.KOpsOwn
import HandS.Lambda
import HandS.NestedK
import HandS.EndTab
import HandS.HeadHook4
import KE.DatumOrd
import HandS.SortKw
import PySem.Challenge.RW_countalike_k62_questions_put_together
set_option Elab.async false
set_option linter.all false
set_option maxRecDepth 100000
set_option maxHeartbeats 4000000
/-! a set comprehension of two clauses whose elements are ints -/
namespace Ca
open PySem PySem.Spec PyProof.Rows L2

abbrev sc2 (elt a0 b0 a1 b1 : Expr) (c0 c1 : List Expr) (scope : Scope) (pos : Pos) : Expr :=
  .SetComp elt [⟨a0, b0, c0, 0⟩, ⟨a1, b1, c1, 0⟩] scope pos
section
variable {prog : Program} {w : World} {A : Around} {R : Result → Shared → Prop} {s : Shared} {elt a0 b0 a1 b1 : Expr} {c0 c1 : List Expr}
  {scope : Scope} {pos : Pos} {it acc : Value} {env : Env}
abbrev Tst (M : Model) (A : Around) (env : Env) (cs : List Expr) (Q : Bool → Shared → Prop) (E : Value → Shared → Prop) (s : Shared) : Prop :=
  wpAny M A (forIn cs true fun c r => if r = true then do
      let ok ← isTrue c env (eval c env)
      pure (ForInStep.yield ok) else pure (ForInStep.yield r)) Q E s
theorem turn_outer : compTurn (sc2 elt a0 b0 a1 b1 c0 c1 scope pos) 0 it acc env = (do
      standAt b0.pos
      match ← pyNext it with
      | none => pure (.done .next)
      | some u =>
        letOwnedTupleGo a0 it u
        assign a0 env u
        let mut ok := true
        for c in c0 do
          if ok then ok ← isTrue c env (eval c env)
        if ok then
          let y ← eval b1 env
          standAt b1.pos
          let y ← foldedSetIterable b1 env y
          let _ ← runOwn (.compStart (sc2 elt a0 b0 a1 b1 c0 c1 scope pos) 1 (← holding [y] (pyIter y)) acc env) env
        again (.compLoop (sc2 elt a0 b0 a1 b1 c0 c1 scope pos) 0 it acc env)) := by rfl
theorem turn_inner : compTurn (sc2 elt a0 b0 a1 b1 c0 c1 scope pos) 1 it acc env = (do
      standAt b1.pos
      match ← pyNext it with
      | none => pure (.done .next)
      | some u =>
        letOwnedTupleGo a1 it u
        assign a1 env u
        let mut ok := true
        for c in c1 do
          if ok then ok ← isTrue c env (eval c env)
        if ok then
          (do let y ← eval elt env; standAt elt.pos; let _ ← call (.builtin "set.add") [acc, y])
        again (.compLoop (sc2 elt a0 b0 a1 b1 c0 c1 scope pos) 1 it acc env)) := by rfl
abbrev Nt (prog : Program) (w : World) (A : Around) (env : Env) (R : Result → Shared → Prop) : Value → Shared → Prop :=
  notedBy (model prog w) A env fun x s' => R (.error x) s'
theorem loop_outer (fs : ∀ x, foldedSetIterable b1 env x = pure x) (J : Nat → Shared → Prop)
    (turn : ∀ n s, J n s → wpAny (model prog w) A (pyNext it) (fun r s₁ => match r with
      | none => R (.ok .next) s₁
      | some u => wpAny (model prog w) A (letOwnedTupleGo a0 it u) (fun _ s₂ => wpAny (model prog w) A (assign a0 env u) (fun _ s₃ =>
          Tst (model prog w) A env c0 (fun ok s₄ => if ok = true then wpAny (model prog w) A (eval b1 env) (fun x s₅ =>
            wpAny (model prog w) A (pyIter x) (fun z s₆ => codeAny (model prog w) A (.compStart (sc2 elt a0 b0 a1 b1 c0 c1 scope pos) 1 z acc env)
              (fun r s' => match r with
                | .ok _ => ∃ m, m < n ∧ J m s'
                | .error _ => False) s₆) (Nt prog w A env R) s₅) (Nt prog w A env R) s₄
            else ∃ m, m < n ∧ J m s₄) (Nt prog w A env R) s₃) (Nt prog w A env R) s₂) (Nt prog w A env R) s₁) (Nt prog w A env R) s)
    (n : Nat) (h : J n s) : codeAny (model prog w) A (.compLoop (sc2 elt a0 b0 a1 b1 c0 c1 scope pos) 0 it acc env) R s := by
  refine codeAny_loop rfl J (fun n s hJ => ?_) n h
  show wpAny _ A ((compTurn (sc2 elt a0 b0 a1 b1 c0 c1 scope pos) 0 it acc env).onRaise (fun x => do noteFrame x env; theTreesLotGoes x)) _ _ s
  refine wpAny_noted ?_
  rw [turn_outer]
  refine wpAny_bind (wpAny_standAt (wpAny_bind (wpAny_mono (turn n s hJ) (fun r s₁ k₁ => ?_) fun _ _ z => z)))
  cases r with
  | none => exact wpAny_pure k₁
  | some u =>
    refine wpAny_bind (wpAny_mono k₁ (fun _ s₂ k₂ => ?_) fun _ _ z => z)
    refine wpAny_bind (wpAny_mono k₂ (fun _ s₃ k₃ => ?_) fun _ _ z => z)
    refine wpAny_bind (wpAny_mono k₃ (fun ok s₄ k₄ => ?_) fun _ _ z => z)
    cases ok with
    | false => exact wpAny_pure ⟨rfl, k₄⟩
    | true =>
      refine wpAny_bind (wpAny_mono k₄ (fun x s₅ k₅ => ?_) fun _ _ z => z)
      refine wpAny_bind (wpAny_standAt (wpAny_bind (wpAny_of_eq (fs x) (wpAny_bind (wpAny_holding (wpAny_mono k₅ (fun z s₆ k₆ => ?_) fun _ _ z => z))))))
      refine wpAny_bind (wpAny_runOwn ?_)
      rw [Around.mark_none]
      refine codeAny_mono k₆ fun r s' hr => ?_
      cases r with
      | error e => exact hr.elim
      | ok f => first | exact wpAny_pure ⟨rfl, hr⟩ | exact wpAny_bind (wpAny_pure (wpAny_pure ⟨rfl, hr⟩))
theorem loop_inner (J : Nat → Shared → Prop)
    (turn : ∀ n s, J n s → wpAny (model prog w) A (pyNext it) (fun r s₁ => match r with
      | none => R (.ok .next) s₁
      | some u => wpAny (model prog w) A (letOwnedTupleGo a1 it u) (fun _ s₂ => wpAny (model prog w) A (assign a1 env u) (fun _ s₃ =>
          Tst (model prog w) A env c1 (fun ok s₄ => if ok = true then wpAny (model prog w) A (eval elt env) (fun x s₅ =>
              wpAny (model prog w) A (call (.builtin "set.add") [acc, x]) (fun _ s₆ => ∃ m, m < n ∧ J m s₆) (Nt prog w A env R) s₅) (Nt prog w A env R) s₄
            else ∃ m, m < n ∧ J m s₄) (Nt prog w A env R) s₃) (Nt prog w A env R) s₂) (Nt prog w A env R) s₁) (Nt prog w A env R) s)
    (n : Nat) (h : J n s) : codeAny (model prog w) A (.compLoop (sc2 elt a0 b0 a1 b1 c0 c1 scope pos) 1 it acc env) R s := by
  refine codeAny_loop rfl J (fun n s hJ => ?_) n h
  show wpAny _ A ((compTurn (sc2 elt a0 b0 a1 b1 c0 c1 scope pos) 1 it acc env).onRaise (fun x => do noteFrame x env; theTreesLotGoes x)) _ _ s
  refine wpAny_noted ?_
  rw [turn_inner]
  refine wpAny_bind (wpAny_standAt (wpAny_bind (wpAny_mono (turn n s hJ) (fun r s₁ k₁ => ?_) fun _ _ z => z)))
  cases r with
  | none => exact wpAny_pure k₁
  | some u =>
    refine wpAny_bind (wpAny_mono k₁ (fun _ s₂ k₂ => ?_) fun _ _ z => z)
    refine wpAny_bind (wpAny_mono k₂ (fun _ s₃ k₃ => ?_) fun _ _ z => z)
    refine wpAny_bind (wpAny_mono k₃ (fun ok s₄ k₄ => ?_) fun _ _ z => z)
    cases ok with
    | false => exact wpAny_pure ⟨rfl, k₄⟩
    | true =>
      refine wpAny_bind (wpAny_bind (wpAny_mono k₄ (fun x s₅ k₅ => ?_) fun _ _ z => z))
      exact wpAny_bind (wpAny_standAt (wpAny_bind (wpAny_mono k₅ (fun _ s₆ k₆ => wpAny_pure (wpAny_pure ⟨rfl, k₆⟩)) fun _ _ z => z)))
theorem start_inner (h0 : codeAny (model prog w) A (.compLoop (sc2 elt a0 b0 a1 b1 c0 c1 scope pos) 1 it acc env) R s)
    (h : wpAny (model prog w) A (pyIter it) (fun z s' => codeAny (model prog w) A (.compLoop (sc2 elt a0 b0 a1 b1 c0 c1 scope pos) 1 z acc env) R s') (Nt prog w A env R) s) :
    codeAny (model prog w) A (.compStart (sc2 elt a0 b0 a1 b1 c0 c1 scope pos) 1 it acc env) R s := by
  refine codeAny_of_tree ?_
  show wpAny _ _ ((compStart (sc2 elt a0 b0 a1 b1 c0 c1 scope pos) 1 it acc env).onRaise (fun x => do noteFrame x env; standAt theWindowsPlace)) _ _ s
  refine wpAny_notedAt ?_
  unfold compStart
  show wpAny _ _ (ask >>= _) _ _ s
  refine wpAny_bind (wpAny_askSetting (wpAny_ite ?_))
  split
  · first | exact wpAny_bind (wpAny_pure (wpAny_pure (And.intro rfl h0))) | exact wpAny_pure (And.intro rfl h0)
  · refine wpAny_bind (wpAny_rule ?_)
    show wpAny _ _ (standAt b1.pos >>= _) _ _ s
    exact wpAny_bind (wpAny_standAt (wpAny_bind (wpAny_mono h (fun z s' k => wpAny_pure (And.intro rfl k)) fun _ _ x => x)))
end
end Ca

set_option maxHeartbeats 4000000
namespace Ca
open PySem PySem.Spec PyProof.Rows L2
/-- one more int in a set -/
def more (S : Int → Bool) (k : Int) : Int → Bool := fun j => S j || decide (j = k)
def cntS (S : Int → Bool) (n : Nat) (k : Int) : Nat := if S k = true then n else n + 1
section
variable {X : Cx}
/-- {elt for .. in .. for .. in ..}: D the new set of ints; vs all names of the block, us those of the second target -/
def tSc2 (w : World) (wi : TI) (g : TG) (tt : TT) (wj : TI) (g1 : TG) (tt1 : TT) (te : TE) (vs us : List Nat) : TE := fun σ H Q =>
  wi σ H fun J H1 => ∀ D, H1 D = none → ∃ W : Nat → Nat → Hp → Prop, (∃ m, W 0 m (upd H1 D (SetO w D (fun _ => false) 0))) ∧ ∀ i m H, W i m H →
    (J.stop i H ∧ Q (.ref D) H) ∨ (J.go i H ∧ ∃ Nx : Hp → Prop, (∀ H', Nx H' → ∃ m', m' < m ∧ W (i + 1) m' H') ∧
      ∀ x H', J.yld i H x H' → g x (wipe σ vs) H' fun σ2 H2 => wipe σ2 vs = wipe σ vs ∧ tt σ2 H2 fun b H3 =>
        if b = true then wj σ2 H3 fun J1 H4 => ∃ W1 : Nat → Nat → Hp → Prop, (∃ m, W1 0 m H4) ∧ ∀ j k H, W1 j k H →
          (J1.stop j H ∧ Nx H) ∨ (J1.go j H ∧ ∃ Nx1 : Hp → Prop, (∀ H', Nx1 H' → ∃ k', k' < k ∧ W1 (j + 1) k' H') ∧
            ∀ x H', J1.yld j H x H' → g1 x (wipe σ2 us) H' fun σ3 H5 => wipe σ3 us = wipe σ2 us ∧ tt1 σ3 H5 fun b H6 =>
              if b = true then te σ3 H6 fun y H7 => ∃ (k : Int) (S : Int → Bool) (n : Nat), y = .int k ∧ H7 D = some (SetO w D S n) ∧ n + 1 < scanBound ∧
                Nx1 (upd H7 D (SetO w D (more S k) (cntS S n k))) else Nx1 H6)
        else Nx H3)
/-- set.add of an int, as a raw call -/
theorem add_int {pins : List (Addr × Obj)} {σ : L2.St} {H : Hp} {s : Shared} {E : Value → Shared → Prop} {D : Addr} {S : Int → Bool} {n : Nat} {k : Int} {u : Value}
    {Q : Value → Shared → Prop} (I : Inv X pins σ H s) (hD : H D = some (SetO X.w D S n)) (room : n + 1 < scanBound) (ru : RelV (.int k) u)
    (h : ∀ s', Inv X pins σ (upd H D (SetO X.w D (more S k) (cntS S n k))) s' → Q .none s') : wpAny (model X.prog X.w) X.A (call (.builtin "set.add") [.ref D, u]) Q E s := by
  obtain ⟨tk, rfl⟩ := ru
  refine setR_add (setO_get I hD) room fun h' sb new => ?_
  have ex : ∃ u, h'.get? D = some u := by
    have ⟨o, _, _, _, ho, _⟩ := new
    exact ⟨o, ho⟩
  refine h _ (I.write (e := D) (t' := s.toks + 1) (by rw [hD]; trivial) (.inl rfl) (fun b u hb hu => ?_) ex (setO_new new))
  exact (sb.2 b hb).trans hu
abbrev eSet (w : World) : Obj := { cls := .type "set", dict := none, data := .set #[] 0 (.fresh 0 0 (!w.params.followText "set-order")) }
theorem pe_sc2 {elt a0 b0 a1 b1 : Expr} {c0 c1 : List Expr} {scope : Scope} {own : List (PySem.Str × Nat)} {us : List Nat} {pos : Pos} {wi wj : TI} {g g1 : TG} {tt tt1 : TT} {te : TE}
    (hc : X.calm = true) (hN : X.N.Nodup) (hi : PI X a0 b0 wi) (ok : BlkOk X.N X.env.scope scope own) (hv : ∀ i ∈ us, i ∈ own.map (·.2))
    (hg : ∀ (s : Shared) (H : Hp) (C : Addr) (cl : List (PySem.Str × Addr)) (fq : List Addr), PG (X.blk s H scope (compEnvC scope cl C X.env) fq) a0 g) (ht : ∀ (s : Shared) (H : Hp) (C : Addr) (cl : List (PySem.Str × Addr)) (fq : List Addr), PTs (X.blk s H scope (compEnvC scope cl C X.env) fq) c0 tt) (hj : ∀ (s : Shared) (H : Hp) (C : Addr) (cl : List (PySem.Str × Addr)) (fq : List Addr), PI (X.blk s H scope (compEnvC scope cl C X.env) fq) a1 b1 wj) (hg1 : ∀ (s : Shared) (H : Hp) (C : Addr) (cl : List (PySem.Str × Addr)) (fq : List Addr), PG (X.blk s H scope (compEnvC scope cl C X.env) fq) a1 g1)
    (ht1 : ∀ (s : Shared) (H : Hp) (C : Addr) (cl : List (PySem.Str × Addr)) (fq : List Addr), PTs (X.blk s H scope (compEnvC scope cl C X.env) fq) c1 tt1) (he : ∀ (s : Shared) (H : Hp) (C : Addr) (cl : List (PySem.Str × Addr)) (fq : List Addr), PE (X.blk s H scope (compEnvC scope cl C X.env) fq) elt te) (f0 : ∀ x, foldedSetIterable b0 X.env x = pure x := by intro _; rfl)
    (f1 : ∀ env x, foldedSetIterable b1 env x = pure x := by intro _ _; rfl) :
    PE X (sc2 elt a0 b0 a1 b1 c0 c1 scope pos) (tSc2 X.w wi g tt wj g1 tt1 te (own.map (·.2)) us) := by
  refine ⟨fun pins s σ H Q I h => ?_⟩
  rw [PpSet.eval_SetComp]
  have free : ∀ y ∈ scope.names, y.2 = .free → ∃ c, X.env.cells.lookup y.1 = some c := fun y hy e =>
    (ok.free y hy e).elim (fun k => I.ok.has _ (.inl k)) (fun k => I.ok.has _ (.inr k))
  refine wpAny_comprehension_free (use := none) rfl f0 (closure_ok free) ok.kind (fun y hy e => by rw [ok.uniq y hy, e]) ?_
  refine thn (hi.run pins s σ H _ I h) fun xv s1 hx => thn hx fun itv s2 h2 => ?_
  obtain ⟨it, fp, tn, J, H2, rfl, I2, T, st2, fpo, q⟩ := h2
  refine PpSet.newSet_ok (newEnv_comp ?_)
  generalize hD : s2.heap.objs.size = D
  obtain ⟨W, ⟨m0, w0⟩, turn⟩ := q D (I2.hok.fresh (Nat.le_of_eq hD))
  generalize hs3 : ({ s2 with heap := s2.heap.push (eSet X.w) } : Shared) = s3
  have e3 : s3.heap = s2.heap.push (eSet X.w) := by rw [← hs3]
  have I3 : Inv X pins σ (upd H2 D (SetO X.w D (fun _ => false) 0)) s3 := by
    subst hs3 hD
    exact I2.laid (t' := s2.toks) (fun b o e => Heap.get?_push_of_some _ e) (Nat.le_refl _) (setO_new (setR_fresh X.w))
  have low : ∀ b ∈ fp, b < s2.heap.objs.size := fun b hb =>
    let ⟨_, e, _⟩ := T.obj _ _ st2 b hb
    Heap.lt_size e
  have fpo3 : ∀ b ∈ fp, FpOk X pins (upd H2 D (SetO X.w D (fun _ => false) 0)) b ∧ b < s3.heap.objs.size := fun b hb => by
    have lt := low b hb
    refine ⟨⟨?_, (fpo b hb).2⟩, by rw [e3, Heap.size_push]; exact Nat.lt_succ_of_lt lt⟩
    rw [upd_ne (by subst hD; exact Nat.ne_of_lt lt)]
    exact (fpo b hb).1
  have st3 : tn 0 s3.heap := T.keep _ _ _ st2 fun b _ o e => by rw [e3]; exact Heap.get?_push_of_some _ e
  have I4 := block_start I3 ok hN fpo3
  generalize hcl : cellsFrom (s3.heap.objs.size + 1) scope.names (cloFrom X.env.cells scope.names []) = cl at I4 ⊢
  have qg := hg s3 (upd H2 D (SetO X.w D (fun _ => false) 0)) s3.heap.objs.size cl fp
  have qt := ht s3 (upd H2 D (SetO X.w D (fun _ => false) 0)) s3.heap.objs.size cl fp
  have qj := hj s3 (upd H2 D (SetO X.w D (fun _ => false) 0)) s3.heap.objs.size cl fp
  have qg1 := hg1 s3 (upd H2 D (SetO X.w D (fun _ => false) 0)) s3.heap.objs.size cl fp
  have qt1 := ht1 s3 (upd H2 D (SetO X.w D (fun _ => false) 0)) s3.heap.objs.size cl fp
  have qe := he s3 (upd H2 D (SetO X.w D (fun _ => false) 0)) s3.heap.objs.size cl fp
  have non3 : ∀ b ∈ fp, (upd H2 D (SetO X.w D (fun _ => false) 0)) b = none := fun b hb => (fpo3 b hb).1.1
  show codeAny _ _ (.compStart (sc2 elt a0 b0 a1 b1 c0 c1 scope pos) 0 (.ref it) (.ref D) (compEnvC scope cl s3.heap.objs.size X.env)) (compPost (model X.prog X.w) X.A X.xe none _ (.ref D) s3.heap.objs.size)
    { s3 with heap := pushCells (s3.heap.push { cls := .type "dict", data := .dict #[] }) scope.names }
  generalize hce : compEnvC scope cl s3.heap.objs.size X.env = ce at I4 qg qt qj qg1 qt1 qe ⊢
  have loc : ce.locals = s3.heap.objs.size := by subst hce; rfl
  generalize hH3 : upd H2 D (SetO X.w D (fun _ => false) 0) = H3 at I3 I4 qg qt qj qg1 qt1 qe w0 non3 fpo3
  generalize hs4 : ({ s3 with heap := pushCells (s3.heap.push { cls := .type "dict", data := .dict #[] }) scope.names } : Shared) = s4 at I4 ⊢
  have st4 : tn 0 s4.heap := T.keep _ _ _ st3 fun b _ o e => by
    subst hs4
    exact pushCells_keeps _ _ _ _ (Heap.get?_push_of_some _ e)
  let Y : Cx := X.blk s3 H3 scope ce fp
  have okFp : ∀ {σ' : L2.St} {H' : Hp} {s' : Shared}, Inv Y [] σ' H' s' → (∀ b ∈ fp, H' b = none) → ∀ b ∈ fp, FpOk Y [] H' b := fun {σ' H' s'} K hn b hb =>
    ⟨hn b hb, (K.ok.exf b hb).1, K.ok.exfs b hb, .inl hb, fun x c e => (K.ok.exf b hb).2 x c e,
      fun p hp => absurd (show p ∈ ([] : List (Addr × Obj)) ++ [] from hp) (by simp)⟩
  generalize hvs : own.map (·.2) = vs at turn hv I4
  have loop : codeAny (model X.prog X.w) X.A (.compLoop (sc2 elt a0 b0 a1 b1 c0 c1 scope pos) 0 (.ref it) (.ref D) ce)
      (compPost (model X.prog X.w) X.A X.xe none (EP X pins σ Q) (.ref D) s3.heap.objs.size) s4 := by
    refine loop_outer (f1 ce) (fun n s' => ∃ i H', Inv Y [] (wipe σ vs) H' s' ∧ tn i s'.heap ∧ (∀ b ∈ fp, H' b = none) ∧ W i n H') ?_ m0 ⟨0, H3, I4, st4, non3, w0⟩
    rintro n s5 ⟨i, H5, I5, st5, n5, w5⟩
    rcases turn i n H5 w5 with ⟨stop, fin⟩ | ⟨go, Nx, hNx, step⟩
    · refine thnF (T.done Y rfl rfl rfl hc i [] s5 _ H5 (fun _ _ => False) I5 (okFp I5 n5) st5 stop) fun r s6 ⟨hr, I6⟩ => ?_
      subst hr
      have I7 : Inv X pins σ H5 s6 := I3.call' (ch := fp) I6.os I6.base I6.hok I6.bare fun b hb =>
        ⟨(fpo3 b hb).1.2.2.2.1, (fpo3 b hb).1.2.1, (fpo3 b hb).1.2.2.2.2.1, (fpo3 b hb).1.2.2.2.2.2⟩
      have nC : H5 s3.heap.objs.size = none := by
        have z : H5 ce.locals = none := I6.free
        rwa [loc] at z
      obtain ⟨m, hm, _⟩ := I6.loc
      have hm : s6.heap.Ns ce.locals m := hm
      rw [loc] at hm
      obtain ⟨z0, z1, z2, z3, z4, z5⟩ := I3.fpOk (Nat.le_refl _) nC
      refine ⟨m, hm, fun h'' sb => ⟨.ref D, H5, I7.turned (t' := s6.toks) (fun b o hb e => ?_) z0 z1 z3 z4 z5, rfl, fin⟩⟩
      exact (sb.2 b hb).trans e
    · refine thnF (T.item Y rfl rfl rfl hc i [] s5 _ H5 (fun _ _ => False) I5 (okFp I5 n5) st5 go) fun r s6 ⟨u, hr, h6⟩ => ?_
      subst hr
      refine thnF h6 fun _ s7 ⟨x, H7, I7, r7, y7, st7, n7⟩ => ?_
      refine thnF (qg.run _ s7 _ H7 x u _ (I7.pinned (okFp I7 n7) (T.obj _ _ st7)) r7 (step x H7 y7)) fun _ s8 ⟨σ8, H8, I8, w8, q8⟩ => ?_
      refine thnF (qt.run _ s8 σ8 H8 _ I8 q8) fun b s9 ⟨H9, I9, q9⟩ => ?_
      have close : ∀ {τ : L2.St} {s' : Shared} {H' : Hp}, Inv Y ([] ++ pinsAt fp s7.heap) τ H' s' → (wipe σ vs).length = τ.length →
          (∀ (j : Nat) v, (wipe σ vs)[j]? = some (some v) → τ[j]? = some (some v)) → Nx H' →
          ∃ m, m < n ∧ ∃ i H', Inv Y [] (wipe σ vs) H' s' ∧ tn i s'.heap ∧ (∀ b ∈ fp, H' b = none) ∧ W i m H' := fun {τ s' H'} K hl hk nx => by
        obtain ⟨m', hm, w'⟩ := hNx H' nx
        have held : ∀ b ∈ fp, ∀ o, s7.heap.get? b = some o → s'.heap.get? b = some o ∧ H' b = none := fun b hb o e =>
          let z := K.pin (b, o) (List.mem_append_right _ (List.mem_append_right _ (mem_pinsAt hb e)))
          ⟨z.1, z.2.1⟩
        refine ⟨m', hm, i + 1, H', (K.unpinned (pins := [])).weak hl hk, T.keep _ _ _ st7 fun b hb o e => (held b hb o e).1, fun b hb => ?_, w'⟩
        obtain ⟨o, e, _⟩ := T.obj _ _ st7 b hb
        exact (held b hb o e).2
      have l8 : (wipe σ vs).length = σ8.length := by rw [← w8, wipe_length]
      have k8 : ∀ (j : Nat) v, (wipe σ vs)[j]? = some (some v) → σ8[j]? = some (some v) := fun j v e => by
        rw [← w8] at e
        exact (wipe_some e).1
      have k9 : ∀ (j : Nat) v, (wipe σ vs)[j]? = some (some v) → (wipe σ8 us)[j]? = some (some v) := fun j v e => by
        rw [← w8] at e
        obtain ⟨z1, z2⟩ := wipe_some e
        rw [wipe_out fun z => z2 (hv j z)]
        exact z1
      cases b with
      | false =>
        simp only [Bool.false_eq_true, if_false] at q9 ⊢
        exact close I9 l8 k8 q9
      | true =>
        simp only [if_true] at q9 ⊢
        refine thnF (qj.run _ s9 σ8 H9 _ I9 q9) fun xv s10 hx => thnF hx fun itv s11 h11 => ?_
        obtain ⟨it1, fq, tm, J1, H11, rfl, I11, T1, st11, fqo, W1, ⟨m1, w1⟩, turn1⟩ := h11
        have okFq : ∀ {H' : Hp}, (∀ b ∈ fq, H' b = none) → ∀ b ∈ fq, FpOk Y ([] ++ pinsAt fp s7.heap) H' b := fun hn b hb => ⟨hn b hb, (fqo b hb).2⟩
        have loop1 : codeAny (model X.prog X.w) X.A (.compLoop (sc2 elt a0 b0 a1 b1 c0 c1 scope pos) 1 (.ref it1) (.ref D) ce) (fun r s' => match r with
              | .ok _ => ∃ m, m < n ∧ ∃ i H', Inv Y [] (wipe σ vs) H' s' ∧ tn i s'.heap ∧ (∀ b ∈ fp, H' b = none) ∧ W i m H'
              | .error _ => False) s11 := by
          refine loop_inner (fun k s' => ∃ j H', Inv Y ([] ++ pinsAt fp s7.heap) (wipe σ8 us) H' s' ∧ tm j s'.heap ∧ (∀ b ∈ fq, H' b = none) ∧ W1 j k H') ?_ m1
            ⟨0, H11, I11.weak (wipe_length _ _) (fun j v e => (wipe_some e).1), st11, fun b hb => (fqo b hb).1, w1⟩
          rintro k s12 ⟨j, H12, I12, st12, n12, w12⟩
          rcases turn1 j k H12 w12 with ⟨stop1, nx1⟩ | ⟨go1, Nx1, hNx1, step1⟩
          · refine thnF (T1.done Y rfl rfl rfl hc j _ s12 (wipe σ8 us) H12 (fun _ _ => False) I12 (okFq n12) st12 stop1) fun r s13 ⟨hr, I13⟩ => ?_
            subst hr
            exact close I13 (l8.trans (wipe_length σ8 us).symm) k9 nx1
          · refine thnF (T1.item Y rfl rfl rfl hc j _ s12 (wipe σ8 us) H12 (fun _ _ => False) I12 (okFq n12) st12 go1) fun r s13 ⟨u1, hr, h13⟩ => ?_
            subst hr
            refine thnF h13 fun _ s14 ⟨x1, H14, I14, r14, y14, st14, n14⟩ => ?_
            refine thnF (qg1.run _ s14 (wipe σ8 us) H14 x1 u1 _ (I14.pinned (okFq n14) (T1.obj _ _ st14)) r14 (step1 x1 H14 y14)) fun _ s15 ⟨τ, H15, I15, w15, q15⟩ => ?_
            refine thnF (qt1.run _ s15 τ H15 _ I15 q15) fun b1 s16 ⟨H16, I16, q16⟩ => ?_
            have close1 : ∀ {s' : Shared} {H' : Hp}, Inv Y (([] ++ pinsAt fp s7.heap) ++ pinsAt fq s14.heap) τ H' s' → Nx1 H' →
                ∃ m, m < k ∧ ∃ j H', Inv Y ([] ++ pinsAt fp s7.heap) (wipe σ8 us) H' s' ∧ tm j s'.heap ∧ (∀ b ∈ fq, H' b = none) ∧ W1 j m H' := fun {s' H'} K nx => by
              obtain ⟨m', hm, w'⟩ := hNx1 H' nx
              have held : ∀ b ∈ fq, ∀ o, s14.heap.get? b = some o → s'.heap.get? b = some o ∧ H' b = none := fun b hb o e =>
                let z := K.pin (b, o) (List.mem_append_right _ (List.mem_append_right _ (mem_pinsAt hb e)))
                ⟨z.1, z.2.1⟩
              refine ⟨m', hm, j + 1, H', K.unpinned.weak (by rw [← w15, wipe_length]) (fun j v e => ?_), T1.keep _ _ _ st14 fun b hb o e => (held b hb o e).1, fun b hb => ?_, w'⟩
              · rw [← w15] at e
                exact (wipe_some e).1
              · obtain ⟨o, e, _⟩ := T1.obj _ _ st14 b hb
                exact (held b hb o e).2
            cases b1 with
            | false =>
              simp only [Bool.false_eq_true, if_false] at q16 ⊢
              exact close1 I16 q16
            | true =>
              simp only [if_true] at q16 ⊢
              refine thnF (qe.run _ s16 τ H16 _ I16 q16) fun z s17 ⟨yv, H17, I17, r17, k0, S0, n0, ey, d17, room, nx⟩ => ?_
              subst ey
              exact add_int (X := Y) I17 d17 room r17 fun s18 I18 => close1 I18 nx
        exact start_inner loop1 (T1.self X.A 0 _ _ _ st11 loop1)
  exact PpSet.codeAny_compStart_set loop (T.self X.A 0 _ _ _ st4 loop)
end
end Ca

set_option maxHeartbeats 4000000
/-! defs that are called where no repr is under way (the stack's guards are known to be none) -/
namespace Ca
open PySem PySem.Spec PyProof.Rows L2
def FnG (P : Program) (w : World) (K : PySem.W.Frag) (mg : PySem.Str → Option Value) (base : Heap) (CX : CXT) (k : Nat) (f : Addr) (sp : Sp) : Prop :=
  ∀ (A : Around) (outer : List Env) (s : Shared) (H : Hp) (us : List Value) (vs : List V) (Q : VK) (E : XK), A.guards = some [] → Room k A →
    Env0 P w K mg base A outer s H → Vals vs us → sp vs H Q E → codeAny (model P w) A (.call (.ref f) ⟨us, []⟩) (CR CX outer P w H s Q E) s
section
variable {P : Program} {w : World} {K : PySem.W.Frag} {mg : PySem.Str → Option Value} {base : Heap} {CX : CXT} {k : Nat} {f : Addr} {fd : FuncData} {sp : Sp}
  {name qual : PySem.Str} {params : Arguments} {body : List Stmt} {scope : Scope} {N ps : List PySem.Str}
theorem FnG.mono {j : Nat} (F : FnG P w K mg base CX j f sp) (h : j ≤ k) : FnG P w K mg base CX k f sp :=
  fun A outer s H us vs Q E hg hr => F A outer s H us vs Q E hg (hr.mono h)
theorem fng_of (F : FunD K name qual params body scope [] [] f fd) (S : FnScope N ps scope)
    (bd : ∀ (s : Shared) (us : List Value), us.length = ps.length → BindsTo s fd ⟨us, []⟩ (ps.zip us)) (len : ∀ vs H Q E, sp vs H Q E → vs.length = ps.length)
    (hbody : ∀ (cdv : Value) (A : Around) (outer : List Env) (s : Shared) (H : Hp) (vs : List V) (Q : VK) (E : XK), A.guards = some [] →
      Room k (A.deeper (envOfC qual scope s.heap.objs.size f cdv)) → sp vs H Q E →
      ∃ t, PSs (cxOf CX P w K mg base N qual scope f cdv A outer s H E) body t ∧ t { nx := fun _ H' => Q .non H', rt := Q } (start N vs) H) :
    FnG P w K mg base CX (k + 1) f sp := by
  obtain ⟨oc, od, dV, kV, doc, pm, an, cdv, ct, osl, rfl, lk, hcd, _, _⟩ := F.ex
  intro A outer s H us vs Q E hg hr e0 r hsp
  have l1 := len _ _ _ _ hsp
  have l2 : us.length = ps.length := by rw [← r.length]; exact l1
  refine StX.run_bnd (G := fun zs H2 => zs = vs ∧ H2 = H) lk hcd S hr e0 (fun A' Ex Q' h => ?_) fun s2 H2 zs ⟨e1, e2⟩ hr' => ?_
  · exact bd s us l2 _ _ _ _ (h s H vs us e0 (Un.kept fun _ _ e => e) rfl (fun _ _ z => z) r l1 ⟨rfl, rfl⟩)
  · subst e1 e2
    exact hbody cdv A outer s2 _ _ Q E hg hr' hsp
end
section
variable {X : Cx} {CX : CXT} {k : Nat} {f : Addr} {sp : Sp} {E : XK} {x : PySem.Str} {p pos : Pos} {e : Expr} {es : List Expr} {t : TA}
theorem run_fnG {pins : List (Addr × Obj)} {σ : L2.St} {H : Hp} {s : Shared} {Q : VK} {us : List Value} {vs : List V} (F : FnG X.prog X.w X.K X.mg X.base CX k f sp)
    (hg : X.A.guards = some []) (hr : Room k X.A) (hx : Passes CX X E) (I : Inv X pins σ H s) (r : Vals vs us) (h : sp vs H Q E) :
    wpAny (model X.prog X.w) X.A (call (.ref f) us) (EP X pins σ Q) X.xe s := by
  refine wpAny_call (codeAny_mono (F X.A X.stack s H us vs Q E hg hr I.env0 r h) fun r s' hq => ?_)
  cases r with
  | error e => exact hx pins σ H s e s' I hq
  | ok fl =>
    cases fl with
    | ret u => exact I.after hq
    | _ => exact False.elim hq
/-- f(e, ..) of such a def -/
theorem pe_callG (F : FnG X.prog X.w X.K X.mg X.base CX k f sp) (hg : X.A.guards = some []) (hr : Room k X.A) (hgl : Gl X x) (hm : X.mg x = some (.ref f)) (hk : PySem.W.keepIn X.K (.ref f) = true)
    (hx : Passes CX X E) (ha : PA X (e :: es) t) (hdb : (x == ("__debug__" : PySem.Str)) = false := by decide)
    (he : starEach (e :: es) X.env = (false, eval e X.env) :: starEach es X.env := by rfl) (hpl : (backTo pos (starEach es X.env)).any (·.1) = false := by rfl) :
    PE X (.Call (.Name x p) (e :: es) [] pos) (tCall sp [] E t) := by
  refine ⟨fun pins s σ H Q I h => wpAny_Call_Name_kw (ld_glob I hgl hm ?_ hdb)⟩
  refine PySem.W.callWith_K (h₀ := X.base) I.ok.mod.kin hk (thn (ha.run pos pins s σ H _ I h) fun us s1 ⟨vs, H1, I1, r, q⟩ => ⟨I1.kIn, ?_⟩) he hpl
  have q2 : sp (vs ++ []) H1 Q E := q
  rw [List.append_nil] at q2
  exact run_fnG F hg hr hx I1 r q2
end
/-! ### the law's own call -/
theorem law_callG {P : Program} {w : World} {K : PySem.W.Frag} {mg mb : PySem.Str → Option Value} {k : Nat} {fa a : Addr} {sp : Sp} {s₁ : Shared} {vs : List Value} {ns : List Int}
    (KX : K.In s₁.heap) (gns : s₁.heap.Ns mainGlobals mg) (bns : s₁.heap.Ns builtinsNs mb) (bb : ∀ x : PySem.Str, x ≠ "__name__" → mb x = bootBuiltins x) (lim : s₁.heap.NoLimit)
    (hgen : s₁.gens = #[]) (ha : s₁.heap.get? a = some { cls := .type "list", data := .seq vs.toArray }) (hi : IntsAre vs ns) (hl : ns.length ≤ sizeLine) (hr : Room k callerA)
    (F : ∀ base : Heap, K.In base → base.Ns mainGlobals mg → FnG P w K mg base CX0 k fa sp)
    (hsp : ∀ H : Hp, Only H → SqL K H a (ns.map V.int) → sp [.ref a] H (fun v _ => v = .bl true) fun _ _ _ => False) :
    codeAny (model P w) callerA (.call (.ref fa) ⟨[.ref a], []⟩) (fun r s' => r = .ok (.ret (.bool true)) ∧ OldK s₁.heap s'.heap ∧ s'.os = s₁.os ∧ AllBare s'.gens) s₁ := by
  have rv := vals_ints hi
  have lv := hi.length
  have main : ∀ H : Hp, Only H → SqL K H a (ns.map V.int) → HOk P w H s₁.heap → (∀ b, H b ≠ none → b = a) → (H a ≠ none → K.lookup a = none) →
      codeAny (model P w) callerA (.call (.ref fa) ⟨[.ref a], []⟩) (fun r s' => r = .ok (.ret (.bool true)) ∧ OldK s₁.heap s'.heap ∧ s'.os = s₁.os ∧ AllBare s'.gens) s₁ := by
    intro H only sq hok only_a inK
    have un_dict : ∀ {b : Addr} {o : Obj} {es : Array DictEntry} {ep : Nat}, s₁.heap.get? b = some o → o.data = .dict es ep → H b = none := fun {b o es ep} e d => by
      cases q : H b with
      | none => rfl
      | some u =>
        obtain rfl : b = a := only_a b (by rw [q]; simp)
        rw [ha] at e
        cases e
        cases (show Data.seq vs.toArray _ = Data.dict es ep from d)
    have ns_hid : ∀ {b : Addr} {m : PySem.Str → Option Value}, s₁.heap.Ns b m → (hidT s₁.heap H).Ns b m := fun {b m} ⟨o, es, ep, e, d, z⟩ =>
      ⟨o, es, ep, hidT_get e (un_dict e d), d, z⟩
    have kHid : K.In (hidT s₁.heap H) := fun b o e => by
      refine hidT_get (KX b o e) ?_
      cases q : H b with
      | none => rfl
      | some u =>
        obtain rfl : b = a := only_a b (by rw [q]; simp)
        rw [inK (by rw [q]; simp)] at e
        cases e
    have md : Mod K mg (hidT s₁.heap H) := ⟨kHid, ns_hid gns, ⟨mb, ns_hid bns, bb⟩, let ⟨mc, h1, h2⟩ := lim; ⟨mc, ns_hid h1, h2⟩⟩
    have env : Env0 P w K mg (hidT s₁.heap H) callerA [] s₁ H := ⟨rfl, md, fun b o e => of_hidT e, Nat.le_of_eq (hidT_size _ _), trivial,
      fun b hb => absurd (show b ∈ ([] : List Addr) from hb) (by simp), hok, .of_eq hgen⟩
    refine codeAny_mono (F _ kHid (ns_hid gns) callerA [] s₁ H [.ref a] [.ref a] _ _ rfl hr env (.cons rfl .nil) (hsp H only sq)) fun r s' h => ?_
    cases r with
    | error e => exact False.elim h
    | ok fl =>
      cases fl with
      | next => exact False.elim h
      | brk => exact False.elim h
      | cont => exact False.elim h
      | ret u =>
        obtain ⟨v, H', os, bare, un, hok', r', q⟩ := h
        obtain rfl : v = .bl true := q
        obtain rfl : u = Value.bool true := r'
        refine ⟨rfl, OldK.of_keep fun b o e => ?_, os, bare⟩
        cases q : H b with
        | none => exact un.keep b o e q (fun z => absurd (show b ∈ ([] : List Addr) from z) (by simp)) (by simp)
        | some u =>
          rcases only b with z | ⟨ob, xs, z⟩
          · rw [q] at z
            cases z
          · obtain ⟨e1, _⟩ := hok b _ z
            obtain ⟨e2, _⟩ := hok' b _ (un.frzs b ob _ z)
            rw [e] at e1
            cases e1
            exact e2
  cases hk : K.lookup a with
  | some o =>
    have e := KX a o hk
    rw [ha] at e
    cases e
    refine main (fun _ => none) (fun _ => .inl rfl) (.inr ⟨_, vs.toArray, _, hk, rfl, rfl, rfl, ?_, by simpa using rv⟩) (fun b u z => ?_) (fun b z => absurd rfl z) fun z => absurd rfl z
    · rw [List.size_toArray, lv]
      exact hl
    · cases (show (none : Option HO) = some u from z)
  | none =>
    let oa : Obj := { cls := .type "list", data := .seq vs.toArray }
    refine main (fun b => if b = a then some (.frz oa (.lst (ns.map V.int))) else none) (fun b => ?_) (.inl (.inr ⟨oa, if_pos rfl⟩)) (fun b u z => ?_) (fun b z => ?_) fun _ => hk
    · by_cases hb : b = a
      · exact .inr ⟨_, _, if_pos hb⟩
      · exact .inl (if_neg hb)
    · by_cases hb : b = a
      · cases (if_pos hb).symm.trans z
        subst hb
        refine ⟨ha, ?_, vs, _, rv, ha⟩
        rw [List.length_map]
        exact hl
      · cases (if_neg hb).symm.trans z
    · by_cases hb : b = a
      · exact hb
      · exact absurd (if_neg hb) z
theorem walk_ofG {l : PySem.W.OpenLaw} {n k : Nat} {q : Program} {loose : List PySem.Str} {XP : (PySem.Str → Option Value) → Heap → Prop} {YP : World → Heap → Prop} {d : DefRec}
    (hn : l.most = some n) (hn2 : n ≤ sizeLine) (hdf : d.params.defaults = []) (hr : Room k callerA)
    (F : ∀ (w : World) (mg : PySem.Str → Option Value) (fa : Addr) (h : Heap), YP w h → h.Ns mainGlobals mg → mg d.name = some (.ref fa) →
      ∃ (K : PySem.W.Frag) (sp : Sp), K.In h ∧ (∀ (H : Hp) (a : Addr) (ns : List Int), ns.length ≤ n → Only H → SqL K H a (ns.map V.int) →
          sp [.ref a] H (fun v _ => v = .bl true) fun _ _ _ => False) ∧ ∀ base : Heap, K.In base → base.Ns mainGlobals mg → FnG l.prog w K mg base CX0 k fa sp) :
    PySem.W.WalkO q loose XP YP l.row.toRowW d [] (fun f vs => PySem.call f vs) := by
  refine Att.attach_call hn hdf fun w s₀ s₁ mg mb fa o pm cd doc a vs ns G Y ho hd hcd hmg hobj hints hlen hg => ?_
  obtain ⟨K, sp, KX, hsp, hF⟩ := F w mg fa _ Y G.T.g hmg
  exact law_callG KX G.T.g G.T.b G.T.builtins G.T.nolimit hg hobj hints (Nat.le_trans hlen hn2) hr hF fun H hO hS => hsp H a ns hlen hO hS
end Ca

set_option maxHeartbeats 4000000
/-! values that read as data, and rules over them -/
namespace Ca
open PySem PySem.Spec PyProof.Rows L2
/-- a dict from ints to ints -/
def iK (p : Int × Int) : Key × V := (.inl p.1, .int p.2)
def iD (p : Int × Int) : PyData × PyData := (.int p.1, .int p.2)
mutual
/-- v reads as d off the tracked objects -/
inductive Rp (H : Hp) : V → PyData → Prop
  | non : Rp H .non .none
  | bl (b : Bool) : Rp H (.bl b) (.bool b)
  | int (i : Int) : Rp H (.int i) (.int i)
  | str (x : PySem.Str) : Rp H (.str x) (.str x)
  | lst {a : Addr} {xs : List V} {ds : List PyData} (h : H a = some (.lst xs)) (r : RpA H xs ds) : Rp H (.ref a) (.list ds)
  | tup {a : Addr} {xs : List V} {ds : List PyData} (h : H a = some (.tup xs)) (r : RpA H xs ds) : Rp H (.ref a) (.tuple ds)
  | dic {a : Addr} {ns : List (Int × Int)} (h : H a = some (.dK (ns.map iK))) : Rp H (.ref a) (.dict (ns.map iD))
inductive RpA (H : Hp) : List V → List PyData → Prop
  | nil : RpA H [] []
  | cons {v : V} {vs : List V} {d : PyData} {ds : List PyData} (h : Rp H v d) (r : RpA H vs ds) : RpA H (v :: vs) (d :: ds)
end
section
variable {H H' : Hp}
mutual
theorem Rp.mono (e : Same H H') : ∀ {d : PyData} {v : V}, Rp H v d → Rp H' v d
  | _, _, .non => .non
  | _, _, .bl b => .bl b
  | _, _, .int i => .int i
  | _, _, .str x => .str x
  | _, _, .lst h r => .lst (e _ _ h) (RpA.mono e r)
  | _, _, .tup h r => .tup (e _ _ h) (RpA.mono e r)
  | _, _, .dic h => .dic (e _ _ h)
theorem RpA.mono (e : Same H H') : ∀ {ds : List PyData} {vs : List V}, RpA H vs ds → RpA H' vs ds
  | _, _, .nil => .nil
  | _, _, .cons h r => .cons (Rp.mono e h) (RpA.mono e r)
end
theorem RpA.length : ∀ {vs : List V} {ds : List PyData}, RpA H vs ds → vs.length = ds.length
  | _, _, .nil => rfl
  | _, _, .cons _ r => by rw [List.length_cons, List.length_cons, r.length]
theorem RpA.get : ∀ {vs : List V} {ds : List PyData} {i : Nat} {v : V}, RpA H vs ds → vs[i]? = some v → ∃ d, ds[i]? = some d ∧ Rp H v d
  | _, _, _, _, .nil, e => by simp at e
  | _, _, 0, v, .cons h _, e => by
    cases (show some _ = some v from e)
    exact ⟨_, rfl, h⟩
  | _, _, i + 1, v, .cons _ r, e => by
    obtain ⟨d, h1, h2⟩ := RpA.get (i := i) r (by simpa using e)
    exact ⟨d, by simpa using h1, h2⟩
theorem RpA.at : ∀ {vs : List V} {ds : List PyData} {i : Nat} {d : PyData}, RpA H vs ds → ds[i]? = some d → ∃ v, vs[i]? = some v ∧ Rp H v d
  | _, _, _, _, .nil, e => by simp at e
  | _, _, 0, d, .cons h _, e => by
    cases (show some _ = some d from e)
    exact ⟨_, rfl, h⟩
  | _, _, i + 1, d, .cons _ r, e => by
    obtain ⟨v, h1, h2⟩ := RpA.at (i := i) r (by simpa using e)
    exact ⟨v, by simpa using h1, h2⟩
theorem RpA.append : ∀ {vs ws : List V} {ds es : List PyData}, RpA H vs ds → RpA H ws es → RpA H (vs ++ ws) (ds ++ es)
  | _, _, _, _, .nil, s => s
  | _, _, _, _, .cons h r, s => .cons h (RpA.append r s)
theorem RpA.take : ∀ {vs : List V} {ds : List PyData} (n : Nat), RpA H vs ds → RpA H (vs.take n) (ds.take n)
  | _, _, 0, _ => .nil
  | _, _, _ + 1, .nil => .nil
  | _, _, n + 1, .cons h r => .cons h (RpA.take n r)
theorem RpA.drop : ∀ {vs : List V} {ds : List PyData} (n : Nat), RpA H vs ds → RpA H (vs.drop n) (ds.drop n)
  | _, _, 0, r => r
  | _, _, _ + 1, .nil => .nil
  | _, _, n + 1, .cons _ r => RpA.drop n r
/-- the class that a datum has -/
def tyD : PyData → String
  | .none => "NoneType"
  | .bool _ => "bool"
  | .int _ => "int"
  | .str _ => "str"
  | .list _ => "list"
  | .tuple _ => "tuple"
  | .dict _ => "dict"
theorem Rp.ty {K : PySem.W.Frag} {v : V} {d : PyData} (h : Rp H v d) : TyX K H v (.type (tyD d)) := by
  cases h with
  | non => exact .base .non
  | bl b => exact .base (.bl b)
  | int i => exact .base (.int i)
  | str x => exact .base (.str x)
  | lst h r => exact .base (.lst h)
  | tup h r => exact .base (.tup h)
  | dic h => exact .base (.dK h)
theorem Rp.isI {v : V} {d : PyData} (h : Rp H v d) {i : Int} (e : d = .int i) : v = .int i := by
  subst e; cases h; rfl
theorem Rp.isS {v : V} {d : PyData} (h : Rp H v d) {x : PySem.Str} (e : d = .str x) : v = .str x := by
  subst e; cases h; rfl
theorem Rp.isB {v : V} {d : PyData} (h : Rp H v d) {b : Bool} (e : d = .bool b) : v = .bl b := by
  subst e; cases h; rfl
end
section
variable {X : Cx} {pins : List (Addr × Obj)} {σ : L2.St} {H : Hp} {s : Shared}
theorem reads_ints {P : Program} {w : World} {h : Heap} : ∀ {l : List DictEntry} {vs : List (Key × Value)} {ns : List (Int × Int)}, Pairs (mixKind P w) l vs → KV (ns.map iK) vs → ReadsAll h (l.map (·.key)) ((ns.map iD).map (·.1)) [] ∧ ReadsAll h (l.map (·.val)) ((ns.map iD).map (·.2)) []
  | [], _, [], _, _ => ⟨.nil, .nil⟩
  | [], _, p :: ns, hp, kv => by
    cases hp
    cases kv
  | e :: l, _, [], hp, kv => by
    cases kv
    cases hp
  | e :: l, _, p :: ns, hp, kv => by
    cases hp with
    | @cons _ kx _ _ h1 h2 hp =>
      obtain ⟨k, v⟩ := kx
      cases kv with
      | cons r kv =>
        obtain ⟨q1, q2⟩ := reads_ints hp kv
        obtain ⟨e1, e2⟩ := r
        have e1 : Sum.inl p.1 = k := e1
        subst e1
        obtain ⟨t, e2⟩ := (show ∃ t, v = Value.int p.2 t from e2)
        have h1 : keyIs (.inl p.1) e.key = true := h1
        rcases keyIs_shape h1 with ⟨i, u, z1, z2⟩ | ⟨x, u, z1, z2⟩
        · cases z1
          refine ⟨?_, ?_⟩
          · have := ReadsAll.cons (h := h) (Reads.int p.1 u) q1
            rw [← z2] at this
            exact this
          · have := ReadsAll.cons (h := h) (Reads.int p.2 t) q2
            rw [← e2] at this
            have h2 : e.val = v := h2
            rw [← h2] at this
            exact this
        · cases z1
mutual
theorem Rp.reads (I : Inv X pins σ H s) (sm : ∃ o, X.K.lookup sysModules = some o) : ∀ (d : PyData) (v : V) (u : Value), Rp H v d → RelV v u → ∃ as, Reads s.heap u d as ∧ sysModules ∉ as
  | .none, _, _, h, r => by
    cases h
    cases r
    exact ⟨_, Reads.none, by simp⟩
  | .bool b, _, _, h, r => by
    cases h
    cases r
    exact ⟨_, Reads.bool b, by simp⟩
  | .int i, _, _, h, r => by
    cases h
    obtain ⟨t, rfl⟩ := r
    exact ⟨_, Reads.int i t, by simp⟩
  | .str x, _, _, h, r => by
    cases h
    obtain ⟨t, rfl⟩ := r
    exact ⟨_, Reads.str x t, by simp⟩
  | .list ds, _, _, h, r => by
    cases h with
    | @lst a xs _ h q =>
      cases r
      obtain ⟨_, its, n, rv, ho⟩ := (show ObjOk X.prog X.w H s.heap a (.lst xs) from I.hok a _ h)
      obtain ⟨as, hr, hn⟩ := Rp.readsA I sm ds _ its q rv
      refine ⟨_, Reads.list ho rfl rfl (by simpa using hr), fun z => ?_⟩
      rcases List.mem_cons.mp z with z | z
      · obtain ⟨o, e⟩ := sm
        rw [← z, (I.bs sysModules o (I.ok.mod.kin _ _ e)).2] at h
        cases h
      · exact hn z
  | .tuple ds, _, _, h, r => by
    cases h with
    | @tup a xs _ h q =>
      cases r
      obtain ⟨_, its, rv, o, ho, hc, n, hd⟩ := (show ObjOk X.prog X.w H s.heap a (.tup xs) from I.hok a _ h)
      obtain ⟨as, hr, hn⟩ := Rp.readsA I sm ds _ its q rv
      exact ⟨_, Reads.tuple ho hc hd (by simpa using hr), hn⟩
  | .dict kvs, _, _, h, r => by
    cases h with
    | @dic a ns h =>
      cases r
      obtain ⟨_, hs, vs, kv, o, es, ep, ho, hx, hd, _, hp, _⟩ := (show ObjOk X.prog X.w H s.heap a (.dK (ns.map iK)) from I.hok a _ h)
      obtain ⟨r1, r2⟩ := reads_ints hp kv
      refine ⟨_, Reads.dict (kvs := ns.map iD) ho hx.1 hd r1 r2, fun z => ?_⟩
      have z2 : sysModules = a := by simpa using z
      rw [z2] at hs
      simp at hs
theorem Rp.readsA (I : Inv X pins σ H s) (sm : ∃ o, X.K.lookup sysModules = some o) : ∀ (ds : List PyData) (vs : List V) (us : List Value), RpA H vs ds → Vals vs us → ∃ as, ReadsAll s.heap us ds as ∧ sysModules ∉ as
  | [], _, _, h, r => by
    cases h
    cases r
    exact ⟨_, .nil, by simp⟩
  | d :: ds, _, _, h, r => by
    cases h with
    | cons h1 h2 =>
      cases r with
      | cons r1 r2 =>
        obtain ⟨as, q1, n1⟩ := Rp.reads I sm d _ _ h1 r1
        obtain ⟨bs, q2, n2⟩ := Rp.readsA I sm ds _ _ h2 r2
        refine ⟨_, .cons q1 q2, fun z => ?_⟩
        rcases List.mem_append.mp z with z | z
        · exact n1 z
        · exact n2 z
end
end
end Ca

set_option maxHeartbeats 4000000
namespace Ca
open PySem PySem.Spec PyProof.Rows L2
mutual
theorem reads_lt {h : Heap} : ∀ {u : Value} {d : PyData} {as : List Addr}, Reads h u d as → ∀ {x : Addr}, x ∈ as → x < h.objs.size
  | _, _, _, .none, x, z => by simp at z
  | _, _, _, .bool _, x, z => by simp at z
  | _, _, _, .int _ _, x, z => by simp at z
  | _, _, _, .str _ _, x, z => by simp at z
  | _, _, _, .list ho _ _ r, x, z => by
    rcases List.mem_cons.mp z with z | z
    · rw [z]
      exact Heap.lt_size ho
    · exact readsA_lt r z
  | _, _, _, .tuple ho _ _ r, x, z => readsA_lt r z
  | _, _, _, .dict ho _ _ r1 r2, x, z => by
    rcases List.mem_append.mp z with z | z
    · rcases List.mem_cons.mp z with z | z
      · rw [z]
        exact Heap.lt_size ho
      · exact readsA_lt r1 z
    · exact readsA_lt r2 z
theorem readsA_lt {h : Heap} : ∀ {us : List Value} {ds : List PyData} {as : List Addr}, ReadsAll h us ds as → ∀ {x : Addr}, x ∈ as → x < h.objs.size
  | _, _, _, .nil, x, z => by simp at z
  | _, _, _, .cons r1 r2, x, z => by
    rcases List.mem_append.mp z with z | z
    · exact reads_lt r1 z
    · exact readsA_lt r2 z
end
section
variable {X : Cx}
/-- repr(x) of data -/
def rRepr : List V → Hp → VK → Prop := fun xs H Q => ∃ x d, xs = [x] ∧ Rp H x d ∧ d.showable = true ∧ d.depth ≤ 60 ∧ d.shown.length ≤ sizeLine ∧ Q (.str d.shown) H
theorem call_repr {k : Nat} (sm : ∃ o, X.K.lookup sysModules = some o) (hg : X.A.guards = some []) (hr : Room k X.A) : CallR X (.builtin "repr") rRepr := by
  intro pins s σ H xs us Q I r h
  obtain ⟨x, d, rfl, rp, hs, hdp, hz, q⟩ := h
  have hu : X.A.units + 64 < cLine := hr.units
  cases r with
  | @cons _ u _ _ r1 rt =>
    cases rt
    obtain ⟨as, rd, hn⟩ := Rp.reads I sm d x u rp r1
    have fin : ∀ (h' : Heap) (tk : Tok) (t2 : Nat), (∀ b o, s.heap.get? b = some o → h'.get? b = some o) → EP X pins σ Q (.str d.shown tk) { s with heap := h', toks := t2 } := fun h' tk t2 k =>
      ⟨.str d.shown, H, I.kept (t' := t2) k, ⟨tk, rfl⟩, q⟩
    cases rp with
    | non =>
      obtain rfl : u = Value.none := r1
      exact P.repr_of_none (fin _ _ _ fun _ _ e => e)
    | bl b =>
      obtain rfl : u = Value.bool b := r1
      exact P.repr_of_bool (fin _ _ _ fun _ _ e => e)
    | int i =>
      obtain ⟨t, rfl⟩ := (show ∃ t, u = Value.int i t from r1)
      refine P.repr_of_int ?_ (fin _ _ _ fun _ _ e => e)
      simpa [PyData.showable] using hs
    | str y =>
      obtain ⟨t, rfl⟩ := (show ∃ t, u = Value.str y t from r1)
      exact P.repr_of_str (fin _ _ _ fun _ _ e => e) hz
    | lst h q =>
      cases (show u = Value.ref _ from r1)
      exact repr_of_reads' rd hs (fun _ => hn) hg (by omega) (fun _ _ e => e) (fun h' u tk k => fin h' u tk k) hz
    | tup h q =>
      cases (show u = Value.ref _ from r1)
      exact repr_of_reads' rd hs (fun _ => hn) hg (by omega) (fun _ _ e => e) (fun h' u tk k => fin h' u tk k) hz
    | dic h =>
      cases (show u = Value.ref _ from r1)
      exact repr_of_reads' rd hs (fun _ => hn) hg (by omega) (fun _ _ e => e) (fun h' u tk k => fin h' u tk k) hz
/-- len(x) of an own instance -/
def rLenO (C : Addr) (sp : Sp) : List V → Hp → VK → Prop := fun xs H Q => ∃ a dx fs, xs = [.ref a] ∧ H a = some (.ins C dx fs) ∧
  sp [.ref a] H (fun v H' => ∃ n : Int, v = .int n ∧ 0 ≤ n ∧ n < 2 ^ 63 ∧ Q (.int n) H') E0
theorem call_lenO {C f : Addr} {k : Nat} {fd : FuncData} {sp : Sp} (hs : PySem.W.findIn X.K (.ref C) "__len__" = some (some (.ref f))) (hf : PySem.W.isFn X.K (.ref f) = true)
    (F : FnOk X.prog X.w X.K X.mg X.base CX0 k f fd ["self"] sp) (hb : Binds X.K fd ["self"] []) (hr : Room (k + 1) X.A) : CallR X (.builtin "len") (rLenO C sp) := by
  intro pins s σ H xs us Q I r h
  obtain ⟨a, dx, fs, rfl, ha, q⟩ := h
  cases r with
  | @cons _ u _ _ r1 rt =>
    cases rt
    cases (show u = Value.ref a from r1)
    obtain ⟨mA, O, _⟩ := ins_get I.hok ha
    obtain ⟨od, J, _⟩ := O.look
    obtain ⟨m, fr⟩ := I.fr
    refine PySem.W.len_K fr I.ok.mod.kin J hs hf ?_
    have r2 : Vals [V.ref a] [Value.ref a] := .cons rfl .nil
    refine wpAny_call (codeAny_mono (F.run X.A.in1 X.stack s H ⟨[.ref a], []⟩ [.ref a] [.ref a] _ E0 hr.in1 I.env0.in1 (hb s [.ref a] I.kIn (by simp)) r2 q) fun r s' hq => ?_)
    cases r with
    | error e => exact False.elim hq
    | ok fl =>
      cases fl with
      | ret u =>
        obtain ⟨v, H', J', rv, n, rfl, h0, h1, q2⟩ := I.after hq
        obtain ⟨t, rfl⟩ := rv
        exact ⟨⟨h0, h1⟩, .int n, H', J'.tok _, ⟨_, rfl⟩, q2⟩
      | _ => exact False.elim hq
/-- sorted(x), x a list or a tuple of alike data: bs the items with what they read as -/
def sortD (bs : List (V × PyData)) : List (V × PyData) := bs.mergeSort (PySem.W.dataLe false Prod.snd)
def rSortD : List V → Hp → VK → Prop := fun xs H Q => ∃ (a : Addr) (bs : List (V × PyData)), xs = [.ref a] ∧ (H a = some (.lst (bs.map Prod.fst)) ∨ H a = some (.tup (bs.map Prod.fst))) ∧
  (∀ b ∈ bs, Rp H b.1 b.2) ∧ PySem.W.AllAlike (bs.map Prod.snd) ∧ PySem.W.Sortable (bs.map Prod.snd) ∧ (∀ b ∈ bs, b.2.depth ≤ 60) ∧ bs.length ≤ sizeLine ∧
  ∀ p, H p = none → Q (.ref p) (upd H p (.lst ((sortD bs).map Prod.fst)))
theorem each_of : ∀ {bs : List (V × PyData)} {us : List Value}, Vals (bs.map Prod.fst) us → PySem.W.EachIs (fun (u : Value) (b : V × PyData) => RelV b.1 u) us bs
  | [], _, .nil => .nil
  | _ :: _, _, .cons r t => .cons r (each_of t)
theorem of_each : ∀ {bs : List (V × PyData)} {us : List Value}, PySem.W.EachIs (fun (u : Value) (b : V × PyData) => RelV b.1 u) us bs → Vals (bs.map Prod.fst) us
  | [], _, .nil => .nil
  | _ :: _, _, .cons r t => .cons r (of_each t)
theorem each_rd {pins : List (Addr × Obj)} {σ : L2.St} {H : Hp} {s : Shared} (I : Inv X pins σ H s) (sm : ∃ o, X.K.lookup sysModules = some o) {h' : Heap} {l : Addr} (hl : s.heap.objs.size ≤ l)
    (kp : ∀ b o, s.heap.get? b = some o → h'.get? b = some o) : ∀ {bs : List (V × PyData)} {us : List Value}, (∀ b ∈ bs, Rp H b.1 b.2) → Vals (bs.map Prod.fst) us →
    PySem.W.EachIs (fun (u : Value) (b : V × PyData) => ∃ as, Reads h' u b.2 as ∧ l ∉ as) us bs
  | [], _, _, .nil => .nil
  | b :: bs, _, h, .cons r t => by
    obtain ⟨as, rd, _⟩ := Rp.reads I sm b.2 b.1 _ (h b (.head _)) r
    refine .cons ⟨as, PyProof.Rows.Reads.keeps kp rd, fun z => ?_⟩ (each_rd I sm hl kp (fun c hc => h c (.tail _ hc)) t)
    exact absurd (reads_lt rd z) (Nat.not_lt.mpr hl)
theorem cr_sortD {k : Nat} (sm : ∃ o, X.K.lookup sysModules = some o) (hr : Room k X.A) : CallR X (.builtin "sorted") rSortD := by
  intro pins s σ H xs us Q I r h
  obtain ⟨a, bs, rfl, ha, hrp, hal, hso, hdp, hlen, q⟩ := h
  have hu : X.A.units + 64 < cLine := hr.units
  rw [Vals.ref1 r]
  obtain ⟨T, hT, its, o, n, rv, ho, hc, hd⟩ : ∃ T, (T = "list" ∨ T = "tuple") ∧ ∃ (its : List Value) (o : Obj) (n : Nat), Vals (bs.map Prod.fst) its ∧ s.heap.get? a = some o ∧ o.cls = .type T ∧ o.data = .seq its.toArray n := by
    rcases ha with ha | ha
    · obtain ⟨_, its, n, rv, ho⟩ := (show ObjOk X.prog X.w H s.heap a (.lst (bs.map Prod.fst)) from I.hok a _ ha)
      exact ⟨"list", .inl rfl, its, _, n, rv, ho, rfl, rfl⟩
    · obtain ⟨_, its, rv, o, ho, hc, n, hd⟩ := (show ObjOk X.prog X.w H s.heap a (.tup (bs.map Prod.fst)) from I.hok a _ ha)
      exact ⟨"tuple", .inr rfl, its, o, n, rv, ho, hc, hd⟩
  have li : its.length = bs.length := by rw [← rv.length, List.length_map]
  refine Calls.call_function_entry kind_sorted plain_sorted entry_sorted (args_sorted1 _) ?_
  unfold Builtin.«sorted»
  refine wpAny_bind (m := checkCount "sorted" 1 1 _) (wpAny_pure ?_)
  refine wpAny_bind (wpAny_collect_seq a hT ho hc hd (fun h1 k1 => ?_) (by rw [List.size_toArray, li]; exact hlen))
  refine wpAny_bind (wpAny_newList ?_ (by simpa [li] using hlen))
  have I1 : Inv X pins σ H { s with heap := h1 } := I.kept (t' := s.toks) k1
  have kp : ∀ b o, h1.get? b = some o → (h1.push (seqObj "list" its.toArray 0)).get? b = some o := fun b o e => Heap.get?_push_of_some _ e
  have hL : (h1.push (seqObj "list" its.toArray 0)).get? h1.objs.size = some (seqObj "list" its.toArray 0) := Heap.get?_push_size _ rfl
  have er := each_rd (l := h1.objs.size) I1 sm (Nat.le_refl _) kp hrp rv
  show wpAny (model X.prog X.w) X.A.in1 _ _ _ { s with heap := h1.push (seqObj "list" its.toArray 0) }
  refine wpAny_bind (wpAny_holding (PySem.W.list_sort_data (bs := bs) (enc := Prod.snd) (R := fun (u : Value) (b : V × PyData) => RelV b.1 u) (vs := its) (n := 0) hL (each_of rv) er hal hso hlen
    (fun b hb => ?_) fun out ho1 ho2 => wpAny_pure ⟨_, rfl, ?_⟩))
  · have z := hdp b hb
    show X.A.units + 1 + 1 + b.2.depth < cLine
    omega
  · have vo := of_each ho2
    have hn : H h1.objs.size = none := I1.hok.fresh (Nat.le_refl _)
    have old : ∀ b o, h1.get? b = some o → (sortedHeap (h1.push (seqObj "list" its.toArray 0)) h1.objs.size its out.toArray).get? b = some o := fun b o e => by
      have lt := Heap.lt_size e
      rw [sortedHeap_old (Nat.ne_of_lt lt) (by rw [size_push']; exact Nat.lt_succ_of_lt lt)]
      exact kp b o e
    obtain ⟨c, hat⟩ := sortedHeap_at (out := out.toArray) hL
    have lo : ((sortD bs).map Prod.fst).length ≤ sizeLine := by
      rw [List.length_map]
      unfold sortD
      rw [List.length_mergeSort]
      exact hlen
    exact ⟨.ref h1.objs.size, upd H h1.objs.size (.lst ((sortD bs).map Prod.fst)), I1.laid (t' := s.toks) old (Nat.le_refl _) ⟨lo, out, c, vo, hat⟩, rfl, q _ hn⟩
end
end Ca

set_option maxHeartbeats 4000000
namespace Ca
open PySem PySem.Spec PyProof.Rows L2
/-- the heap without what stands at D -/
def off (D : Addr) (H : Hp) : Hp := fun a => if a = D then none else H a
theorem off_ne {D a : Addr} {H : Hp} (h : a ≠ D) : off D H a = H a := if_neg h
theorem off_same {D : Addr} {H : Hp} : Same (off D H) H := fun b o e => by
  unfold off at e
  split at e
  · cases e
  · exact e
theorem off_mono {D : Addr} {H H' : Hp} (h : Same H H') : Same (off D H) (off D H') := fun b o e => by
  unfold off at e ⊢
  split at e
  · cases e
  · rename_i hb
    rw [if_neg hb]
    exact h b o e
theorem off_upd {D : Addr} {H : Hp} {o : HO} : off D (upd H D o) = off D H := by
  funext b
  unfold off
  split
  · rfl
  · rename_i hb
    exact upd_ne hb
theorem same_new {H : Hp} {D : Addr} {o : HO} (h : H D = none) : Same H (upd H D o) := fun b u e => by
  rw [upd_ne (ne_of_none e h)]
  exact e
theorem same_mut {H H' : Hp} {D : Addr} {o : HO} (s : Same H H') (h : H D = none) : Same H (upd H' D o) := fun b u e => by
  rw [upd_ne (ne_of_none e h)]
  exact s b u e
/-- what is kept of the items so far -/
abbrev keptD (F : PyData → Option PyData) (l : List PyData) : List PyData := l.filterMap F
theorem keptD_app (F : PyData → Option PyData) (a b : List PyData) : keptD F (a ++ b) = keptD F a ++ keptD F b := List.filterMap_append ..
theorem keptD_len (F : PyData → Option PyData) (l : List PyData) : (keptD F l).length ≤ l.length := List.length_filterMap_le ..
theorem keptD_map (f : PyData → PyData) (l : List PyData) : keptD (fun d => some (f d)) l = l.map f := by
  induction l with
  | nil => rfl
  | cons d l ih =>
    show List.filterMap _ (d :: l) = _
    rw [List.filterMap_cons]
    show f d :: List.filterMap _ l = _
    rw [show List.filterMap (fun d => some (f d)) l = l.map f from ih]
    rfl
theorem take_more {α : Type} : ∀ {l : List α} {i : Nat} {x : α}, l[i]? = some x → l.take (i + 1) = l.take i ++ [x]
  | [], i, x, h => by simp at h
  | a :: l, 0, x, h => by
    cases (show some a = some x from h)
    rfl
  | a :: l, i + 1, x, h => by
    have ih := take_more (l := l) (i := i) (x := x) (by simpa using h)
    show a :: l.take (i + 1) = (a :: l.take i) ++ [x]
    rw [ih]
    rfl
/-- one more item appended at D -/
def Ap (D : Addr) (Nx : Hp → Prop) (y : V) (H : Hp) : Prop := ∃ acc, H D = some (.lst acc) ∧ acc.length < sizeLine ∧ Nx (upd H D (.lst (acc ++ [y])))
/-- a turn of a comprehension: item x reads as d; what is appended reads as F d (nothing where F d is none) -/
abbrev LcTurn (σ : L2.St) (vs : List Nat) (g : TG) (tt : TT) (te : TE) (D : Addr) (H : Hp) (ds : List PyData) (F : PyData → Option PyData) : Prop :=
  ∀ (x : V) (d : PyData) (H' : Hp) (Nx : Hp → Prop), d ∈ ds → Same H H' → H' D ≠ none → Rp (off D H') x d →
    (∀ (y : V) (e : PyData) (H4 : Hp), F d = some e → Same H' H4 → Rp (off D H4) y e → Ap D Nx y H4) → (F d = none → ∀ H4, Same H' H4 → Nx H4) →
    g x (wipe σ vs) H' fun σ2 H2 => wipe σ2 vs = wipe σ vs ∧ tt σ2 H2 fun b H3 => if b = true then te σ2 H3 (Ap D Nx) else Nx H3
abbrev LcInv (H : Hp) (D : Addr) (ds : List PyData) (F : PyData → Option PyData) (i : Nat) (H' : Hp) : Prop :=
  Same H H' ∧ ∃ acc, H' D = some (.lst acc) ∧ RpA (off D H') acc (keptD F (ds.take i))
section
variable {K : PySem.W.Frag} {a D : Addr} {xs : List V} {ds : List PyData} {H : Hp} {σ : L2.St} {vs : List Nat} {g : TG} {tt : TT} {te : TE} {F : PyData → Option PyData} {Qd : Hp → Prop}
theorem lc_turn (hD : H D = none) (r : RpA H xs ds) (hz : ds.length ≤ 1000) (ht : LcTurn σ vs g tt te D H ds F) : ∀ i x H', xs[i]? = some x → LcInv H D ds F i H' →
    g x (wipe σ vs) H' fun σ2 H2 => wipe σ2 vs = wipe σ vs ∧ tt σ2 H2 fun b H3 => if b = true then te σ2 H3 fun y H4 => ∃ acc, H4 D = some (.lst acc) ∧ acc.length < sizeLine ∧
      LcInv H D ds F (i + 1) (upd H4 D (.lst (acc ++ [y]))) else LcInv H D ds F (i + 1) H3 := by
  intro i x H' hi ⟨s, acc, hacc, ra⟩
  obtain ⟨d, hd, rx⟩ := r.get hi
  have e1 : ds.take (i + 1) = ds.take i ++ [d] := take_more hd
  have kD : Same H (off D H') := fun b o e => by
    rw [off_ne (ne_of_none e hD)]
    exact s b o e
  refine ht x d H' (LcInv H D ds F (i + 1)) (List.mem_of_getElem? hd) s (by rw [hacc]; simp) (rx.mono kD) (fun y e H4 hF s4 ry => ?_) (fun hF H4 s4 => ?_)
  · refine ⟨acc, s4 _ _ hacc, ?_, ?_⟩
    · have l1 := ra.length
      have l2 := keptD_len F (ds.take i)
      have l3 : (ds.take i).length ≤ 1000 := by rw [List.length_take]; omega
      have : acc.length ≤ 1000 := by omega
      exact small1000 this
    · refine ⟨same_mut (s.trans s4) hD, _, upd_same, ?_⟩
      rw [off_upd, e1, keptD_app]
      have e2 : keptD F [d] = [e] := by simp [keptD, hF]
      rw [e2]
      exact (ra.mono (off_mono s4)).append (.cons ry .nil)
  · refine ⟨s.trans s4, acc, s4 _ _ hacc, ?_⟩
    have e2 : keptD F [d] = [] := by simp [keptD, hF]
    rw [e1, keptD_app, e2, List.append_nil]
    exact ra.mono (off_mono s4)
theorem lc_fin (r : RpA H xs ds) (hq : ∀ H' acc, Same H H' → H' D = some (.lst acc) → RpA (off D H') acc (keptD F ds) → Qd H') : ∀ H', LcInv H D ds F xs.length H' → Qd H' := by
  intro H' ⟨s, acc, h1, h2⟩
  rw [r.length, List.take_length] at h2
  exact hq H' acc s h1 h2
theorem lc_ini (hD : H D = none) : LcInv H D ds F 0 (upd H D (.lst [])) := ⟨same_new hD, [], upd_same, .nil⟩
/-- what a comprehension's reading asks behind its source -/
abbrev LcW (J : It) (σ : L2.St) (vs : List Nat) (g : TG) (tt : TT) (te : TE) (H1 : Hp) (D : Addr) (Qd : Hp → Prop) : Prop :=
  ∃ W : Nat → Nat → Hp → Prop, (∃ m, W 0 m (upd H1 D (.lst []))) ∧ ∀ i m H, W i m H → (J.stop i H ∧ Qd H) ∨ (J.go i H ∧ ∃ Nx : Hp → Prop,
    (∀ H', Nx H' → ∃ m', m' < m ∧ W (i + 1) m' H') ∧ ∀ x H', J.yld i H x H' → g x (wipe σ vs) H' fun σ2 H2 => wipe σ2 vs = wipe σ vs ∧ tt σ2 H2 fun b H3 =>
      if b = true then te σ2 H3 fun y H4 => ∃ acc, H4 D = some (.lst acc) ∧ acc.length < sizeLine ∧ Nx (upd H4 D (.lst (acc ++ [y]))) else Nx H3)
/-- over a tuple, a list -/
theorem lcT (hx : H a = some (.tup xs)) (r : RpA H xs ds) (hz : ds.length ≤ 1000) (hD : H D = none) (ht : LcTurn σ vs g tt te D H ds F)
    (hq : ∀ H' acc, Same H H' → H' D = some (.lst acc) → RpA (off D H') acc (keptD F ds) → Qd H') : LcW (Itt K a) σ vs g tt te H D Qd :=
  lc_tup (LcInv H D ds F) (lc_ini hD) (fun i H' _ p => .inl (.inl (p.1 _ _ hx))) (lc_turn hD r hz ht) (lc_fin r hq)
theorem lcL (hx : H a = some (.lst xs)) (r : RpA H xs ds) (hz : ds.length ≤ 1000) (hD : H D = none) (ht : LcTurn σ vs g tt te D H ds F)
    (hq : ∀ H' acc, Same H H' → H' D = some (.lst acc) → RpA (off D H') acc (keptD F ds) → Qd H') : LcW (Itl K a) σ vs g tt te H D Qd :=
  lc_list (LcInv H D ds F) (lc_ini hD) (fun i H' _ p => .inl (.inl (p.1 _ _ hx))) (lc_turn hD r hz ht) (lc_fin r hq)
end
end Ca

set_option maxHeartbeats 4000000
namespace Ca
open PySem PySem.Spec PyProof.Rows L2
/-! what an expression gives, in data; S: what may change under way (lists, dicts, sets being made), nothing of which is read as data -/
def offS (S : Addr → Bool) (H : Hp) : Hp := fun a => if S a = true then none else H a
def MutO : HO → Prop
  | .tup _ => False
  | .ins _ _ _ => False
  | _ => True
def Fr (S : Addr → Bool) (H : Hp) : Prop := ∀ a, S a = true → ∃ o, H a = some o ∧ MutO o
section
variable {S : Addr → Bool} {H H' : Hp} {p : Addr} {o : HO}
theorem Fr.mono (f : Fr S H) (s : Same H H') : Fr S H' := fun a h => let ⟨o, e, m⟩ := f a h; ⟨o, s _ _ e, m⟩
theorem offS_mono (s : Same H H') : Same (offS S H) (offS S H') := fun b o e => by
  unfold offS at e ⊢
  split at e
  · cases e
  · rename_i hb
    rw [if_neg hb]
    exact s b o e
theorem offS_same : Same (offS S H) H := fun b o e => by
  unfold offS at e
  split at e
  · cases e
  · exact e
theorem offS_at (h : S p = false) : offS S H p = H p := by
  unfold offS
  rw [h]
  rfl
theorem Fr.new (f : Fr S H) (h : H p = none) : S p = false := by
  cases e : S p with
  | false => rfl
  | true =>
    obtain ⟨o, e2, _⟩ := f p e
    rw [h] at e2
    cases e2
theorem Fr.imm (f : Fr S H) (h : H p = some o) (hm : ¬ MutO o) : S p = false := by
  cases e : S p with
  | false => rfl
  | true =>
    obtain ⟨o', e2, m⟩ := f p e
    rw [h] at e2
    cases e2
    exact absurd m hm
theorem offS_new (f : Fr S H) (h : H p = none) : offS S (upd H p o) p = some o := by
  rw [offS_at (f.new h), upd_same]
theorem fr0 : Fr (fun _ => false) H := fun a h => by cases h
theorem off0 : offS (fun _ => false) H = H := rfl
def addS (S : Addr → Bool) (D : Addr) : Addr → Bool := fun a => S a || decide (a = D)
theorem Fr.add (f : Fr S H) (h : H p = some o) (m : MutO o) : Fr (addS S p) H := fun a ha => by
  unfold addS at ha
  rw [Bool.or_eq_true] at ha
  rcases ha with z | z
  · exact f a z
  · rw [of_decide_eq_true z]
    exact ⟨o, h, m⟩
theorem addS_off : Same (offS (addS S p) H) (offS S H) := fun b o e => by
  unfold offS at e ⊢
  split at e
  · cases e
  · rename_i hb
    have : ¬ S b = true := fun z => hb (by unfold addS; rw [z]; rfl)
    rw [if_neg this]
    exact e
theorem addS_new (h : (offS S H) p = none) (s : Same (offS S H) (offS S H')) : Same (offS S H) (offS (addS S p) H') := fun b o e => by
  have e2 := s b o e
  have nb : b ≠ p := fun z => by rw [z, h] at e; cases e
  unfold offS at e2 ⊢
  split at e2
  · cases e2
  · rename_i hb
    have : ¬ addS S p b = true := fun z => by
      unfold addS at z
      rw [Bool.or_eq_true] at z
      rcases z with z | z
      · exact hb z
      · exact nb (of_decide_eq_true z)
    rw [if_neg this]
    exact e2
theorem addS_upd : Same (offS (addS S p) H) (offS (addS S p) (upd H p o)) := fun b u e => by
  unfold offS at e ⊢
  split at e
  · cases e
  · rename_i hb
    rw [if_neg hb]
    have nb : b ≠ p := fun z => hb (by unfold addS; rw [z]; simp)
    rw [upd_ne nb]
    exact e
end
def EvP (te : TE) (σ : L2.St) (F : Hp) (P : Hp → V → Prop) : Prop := ∀ (S : Addr → Bool) (H1 : Hp), Fr S H1 → Same F (offS S H1) → ∀ Q : VK, (∀ v H2, Same H1 H2 → P (offS S H2) v → Q v H2) → te σ H1 Q
abbrev EvD (te : TE) (σ : L2.St) (F : Hp) (d : PyData) : Prop := EvP te σ F fun H v => Rp H v d
def EvA (ta : TA) (σ : L2.St) (F : Hp) (ds : List PyData) : Prop := ∀ (S : Addr → Bool) (H1 : Hp), Fr S H1 → Same F (offS S H1) → ∀ Q : List V → Hp → Prop, (∀ vs H2, Same H1 H2 → RpA (offS S H2) vs ds → Q vs H2) → ta σ H1 Q
def EvB (tt : TT) (σ : L2.St) (F : Hp) (b : Bool) : Prop := ∀ (S : Addr → Bool) (H1 : Hp), Fr S H1 → Same F (offS S H1) → ∀ Q : Bool → Hp → Prop, (∀ H2, Same H1 H2 → Q b H2) → tt σ H1 Q
def EvO (tl : TO) (σ : L2.St) (F : Hp) (o : Option Int) : Prop := ∀ (S : Addr → Bool) (H1 : Hp), Fr S H1 → Same F (offS S H1) → ∀ Q : Option Int → Hp → Prop, (∀ H2, Same H1 H2 → Q o H2) → tl σ H1 Q
section
variable {K : PySem.W.Frag} {σ : L2.St} {F : Hp} {ta tb tc te : TE} {tas : TA} {tt tu : TT} {d e : PyData} {ds es : List PyData} {P P2 : Hp → V → Prop}
theorem EvP.weak (h : EvP te σ F P) (hw : ∀ H v, P H v → P2 H v) : EvP te σ F P2 := fun S H1 f s Q q => h S H1 f s Q fun v H2 s2 p => q v H2 s2 (hw _ _ p)
theorem EvP.at {F2 : Hp} (h : EvP te σ F P) (s : Same F F2) : EvP te σ F2 P := fun S H1 f s1 Q q => h S H1 f (s.trans s1) Q q
theorem EvB.at {F2 : Hp} {b : Bool} (h : EvB tt σ F b) (s : Same F F2) : EvB tt σ F2 b := fun S H1 f s1 Q q => h S H1 f (s.trans s1) Q q
/-! names and constants -/
theorem e_varP {i : Nat} {v : V} (h : σ[i]? = some (some v)) (r : ∀ H, Same F H → P H v) : EvP (tVar i) σ F P := fun S H1 f s Q q => ⟨v, h, q v H1 (Same.refl _) (r _ s)⟩
theorem e_var {i : Nat} {v : V} (h : σ[i]? = some (some v)) (r : Rp F v d) : EvD (tVar i) σ F d := e_varP h fun _ s => r.mono s
theorem e_int {i : Int} : EvD (tC (.int i)) σ F (.int i) := fun S H1 _ _ Q q => q _ H1 (Same.refl _) (.int i)
theorem e_str {x : PySem.Str} : EvD (tC (.str x)) σ F (.str x) := fun S H1 _ _ Q q => q _ H1 (Same.refl _) (.str x)
theorem e_bl {b : Bool} : EvD (tC (.bl b)) σ F (.bool b) := fun S H1 _ _ Q q => q _ H1 (Same.refl _) (.bl b)
theorem e_non : EvD (tC .non) σ F .none := fun S H1 _ _ Q q => q _ H1 (Same.refl _) .non
theorem a_nil : EvA tNil σ F [] := fun S H1 _ _ Q q => q _ H1 (Same.refl _) .nil
theorem a_cons (h : EvD te σ F d) (hs : EvA tas σ F ds) : EvA (tCons te tas) σ F (d :: ds) := fun S H1 f s Q q =>
  h S H1 f s _ fun v H2 s2 r => hs S H2 (f.mono s2) (s.trans (offS_mono s2)) _ fun vs H3 s3 rs => q _ H3 (s2.trans s3) (.cons (r.mono (offS_mono s3)) rs)
theorem e_tup (h : EvA tas σ F ds) (hl : ds.length ≤ 1000 := by first | decide | (simp only [List.length_cons, List.length_nil]; omega)) : EvD (tTup tas) σ F (.tuple ds) := fun S H1 f s Q q =>
  h S H1 f s _ fun vs H2 s2 r => ⟨by rw [r.length]; exact Nat.le_of_lt (small1000 hl), fun p hp => q _ _ (s2.trans (same_new hp)) (.tup (offS_new (f.mono s2) hp) (r.mono (offS_mono (same_new hp))))⟩
theorem e_lst (h : EvA tas σ F ds) (hl : ds.length ≤ 1000 := by first | decide | (simp only [List.length_cons, List.length_nil]; omega)) : EvD (tLst tas) σ F (.list ds) := fun S H1 f s Q q =>
  h S H1 f s _ fun vs H2 s2 r => ⟨by rw [r.length]; exact Nat.le_of_lt (small1000 hl), fun p hp => q _ _ (s2.trans (same_new hp)) (.lst (offS_new (f.mono s2) hp) (r.mono (offS_mono (same_new hp))))⟩
theorem e_dic : EvD tDNewK σ F (.dict []) := fun S H1 f s Q q => fun p hp => q _ _ (same_new hp) (.dic (ns := []) (offS_new f hp))
/-! operators -/
theorem e_op {r : R2} (ha : EvD ta σ F d) (hb : EvD tb σ F e)
    (hr : ∀ (S : Addr → Bool) (H : Hp) (x y : V), Fr S H → Rp (offS S H) x d → Rp (offS S H) y e → ∀ Q : VK, (∀ v H2, Same H H2 → P (offS S H2) v → Q v H2) → r x y H Q) : EvP (tOp r ta tb) σ F P := fun S H1 f s Q q =>
  ha S H1 f s _ fun x H2 s2 r2 => hb S H2 (f.mono s2) (s.trans (offS_mono s2)) _ fun y H3 s3 r3 =>
    hr S H3 x y (f.mono (s2.trans s3)) (r2.mono (offS_mono s3)) r3 Q fun v H4 s4 p => q v H4 ((s2.trans s3).trans s4) p
theorem e_un {r : V → Hp → VK → Prop} (ha : EvD ta σ F d)
    (hr : ∀ (S : Addr → Bool) (H : Hp) (x : V), Fr S H → Rp (offS S H) x d → ∀ Q : VK, (∀ v H2, Same H H2 → P (offS S H2) v → Q v H2) → r x H Q) : EvP (tUn r ta) σ F P := fun S H1 f s Q q =>
  ha S H1 f s _ fun x H2 s2 r2 => hr S H2 x (f.mono s2) r2 Q fun v H4 s4 p => q v H4 (s2.trans s4) p
theorem e_neg {i : Int} (ha : EvD ta σ F (.int i)) : EvD (tUn (rU fun i => .int (-i)) ta) σ F (.int (-i)) := e_un ha fun S H x f r Q q => by
  cases r
  exact ⟨i, rfl, q _ H (Same.refl _) (.int _)⟩
theorem e_add {i j : Int} (ha : EvD ta σ F (.int i)) (hb : EvD tb σ F (.int j)) : EvD (tOp (rI0 fun i j => .int (i + j)) ta tb) σ F (.int (i + j)) := e_op ha hb fun S H x y f rx ry Q q => by
  cases rx; cases ry
  exact ⟨i, j, rfl, rfl, q _ H (Same.refl _) (.int _)⟩
theorem e_sub {i j : Int} (ha : EvD ta σ F (.int i)) (hb : EvD tb σ F (.int j)) : EvD (tOp (rI0 fun i j => .int (i - j)) ta tb) σ F (.int (i - j)) := e_op ha hb fun S H x y f rx ry Q q => by
  cases rx; cases ry
  exact ⟨i, j, rfl, rfl, q _ H (Same.refl _) (.int _)⟩
theorem e_mul {i j : Int} (ha : EvD ta σ F (.int i)) (hb : EvD tb σ F (.int j)) (h : CMul i j) : EvD (tOp (rI CMul fun i j => .int (i * j)) ta tb) σ F (.int (i * j)) := e_op ha hb fun S H x y f rx ry Q q => by
  cases rx; cases ry
  exact ⟨i, j, rfl, rfl, h, q _ H (Same.refl _) (.int _)⟩
theorem e_cmp {g : Int → Int → Bool} {i j : Int} (ha : EvD ta σ F (.int i)) (hb : EvD tb σ F (.int j)) : EvD (tOp (rI0 fun i j => .bl (g i j)) ta tb) σ F (.bool (g i j)) := e_op ha hb fun S H x y f rx ry Q q => by
  cases rx; cases ry
  exact ⟨i, j, rfl, rfl, q _ H (Same.refl _) (.bl _)⟩
theorem e_eqI {i j : Int} (ha : EvD ta σ F (.int i)) (hb : EvD tb σ F (.int j)) : EvD (tOp rEq ta tb) σ F (.bool (decide (i = j))) := e_op ha hb fun S H x y f rx ry Q q => by
  cases rx; cases ry
  refine ⟨rfl, q _ H (Same.refl _) ?_⟩
  have e : decide (V.int i = V.int j) = decide (i = j) := by simp
  rw [e]
  exact .bl _
theorem e_neI {i j : Int} (ha : EvD ta σ F (.int i)) (hb : EvD tb σ F (.int j)) : EvD (tOp rNe ta tb) σ F (.bool (!decide (i = j))) := e_op ha hb fun S H x y f rx ry Q q => by
  cases rx; cases ry
  refine ⟨rfl, q _ H (Same.refl _) ?_⟩
  have e : decide (V.int i = V.int j) = decide (i = j) := by simp
  rw [e]
  exact .bl _
theorem e_eqS {i j : PySem.Str} (ha : EvD ta σ F (.str i)) (hb : EvD tb σ F (.str j)) : EvD (tOp rEq ta tb) σ F (.bool (decide (i = j))) := e_op ha hb fun S H x y f rx ry Q q => by
  cases rx; cases ry
  refine ⟨rfl, q _ H (Same.refl _) ?_⟩
  have e : decide (V.str i = V.str j) = decide (i = j) := by simp
  rw [e]
  exact .bl _
theorem e_neS {i j : PySem.Str} (ha : EvD ta σ F (.str i)) (hb : EvD tb σ F (.str j)) : EvD (tOp rNe ta tb) σ F (.bool (!decide (i = j))) := e_op ha hb fun S H x y f rx ry Q q => by
  cases rx; cases ry
  refine ⟨rfl, q _ H (Same.refl _) ?_⟩
  have e : decide (V.str i = V.str j) = decide (i = j) := by simp
  rw [e]
  exact .bl _
theorem e_addS {x y : PySem.Str} (ha : EvD ta σ F (.str x)) (hb : EvD tb σ F (.str y)) (hl : x.length + y.length ≤ 1000) :
    EvD (tOp (fun x y H Q => ∃ i j, x = .str i ∧ y = .str j ∧ i.length + j.length ≤ sizeLine ∧ Q (.str (i ++ j)) H) ta tb) σ F (.str (x ++ y)) := e_op ha hb fun S H u v f rx ry Q q => by
  cases rx; cases ry
  exact ⟨x, y, rfl, rfl, Nat.le_of_lt (small1000 hl), q _ H (Same.refl _) (.str _)⟩
theorem rp_lst {S : Addr → Bool} {H : Hp} {v : V} (r : Rp (offS S H) v (.list ds)) : ∃ a xs, v = .ref a ∧ H a = some (.lst xs) ∧ RpA (offS S H) xs ds := by
  cases r with
  | lst h q => exact ⟨_, _, rfl, offS_same _ _ h, q⟩
theorem rp_tup {S : Addr → Bool} {H : Hp} {v : V} (r : Rp (offS S H) v (.tuple ds)) : ∃ a xs, v = .ref a ∧ H a = some (.tup xs) ∧ RpA (offS S H) xs ds := by
  cases r with
  | tup h q => exact ⟨_, _, rfl, offS_same _ _ h, q⟩
theorem e_cat (ha : EvD ta σ F (.list ds)) (hb : EvD tb σ F (.list es)) (hl : ds.length + es.length ≤ 1000) : EvD (tOp rCat ta tb) σ F (.list (ds ++ es)) := e_op ha hb fun S H x y f rx ry Q q => by
  obtain ⟨a, xs, rfl, h1, r1⟩ := rp_lst rx
  obtain ⟨b, ys, rfl, h2, r2⟩ := rp_lst ry
  have l1 := r1.length
  have l2 := r2.length
  exact ⟨a, b, xs, ys, rfl, rfl, h1, h2, Nat.le_of_lt (small1000 (by omega)), fun p hp => q _ _ (same_new hp) (.lst (offS_new f hp) ((r1.append r2).mono (offS_mono (same_new hp))))⟩
theorem e_catT (ha : EvD ta σ F (.tuple ds)) (hb : EvD tb σ F (.tuple es)) (hl : ds.length + es.length ≤ 1000) : EvD (tOp (rCatA K) ta tb) σ F (.tuple (ds ++ es)) := e_op ha hb fun S H x y f rx ry Q q => by
  obtain ⟨a, xs, rfl, h1, r1⟩ := rp_tup rx
  obtain ⟨b, ys, rfl, h2, r2⟩ := rp_tup ry
  have l1 := r1.length
  have l2 := r2.length
  refine ⟨a, b, xs, ys, rfl, rfl, .inl (.inl h1), .inl (.inl h2), Nat.le_of_lt (small1000 (by omega)), fun z => ?_, fun z1 z2 => ?_, fun _ _ p hp => q _ _ (same_new hp) (.tup (offS_new f hp) ((r1.append r2).mono (offS_mono (same_new hp))))⟩
  · subst z
    have : ds = [] := List.eq_nil_of_length_eq_zero (by simpa using l1.symm)
    subst this
    exact q _ H (Same.refl _) ry
  · subst z2
    have : es = [] := List.eq_nil_of_length_eq_zero (by simpa using l2.symm)
    subst this
    rw [List.append_nil] at q
    exact q _ H (Same.refl _) rx
theorem rpa_rep {H : Hp} {xs : List V} (r : RpA H xs ds) : ∀ n : Nat, RpA H (List.replicate n xs).flatten (List.replicate n ds).flatten
  | 0 => .nil
  | n + 1 => by
    rw [List.replicate_succ, List.replicate_succ, List.flatten_cons, List.flatten_cons]
    exact r.append (rpa_rep r n)
theorem e_rep {k : Nat} (ha : EvD ta σ F (.list ds)) (hb : EvD tb σ F (.int (k : Int))) (hl : ds.length * k ≤ 1000) (hk : k < 2 ^ 62) : EvD (tOp rRep ta tb) σ F (.list (List.replicate k ds).flatten) := e_op ha hb fun S H x y f rx ry Q q => by
  obtain ⟨a, xs, rfl, h1, r1⟩ := rp_lst rx
  cases ry
  have l1 := r1.length
  refine ⟨a, _, xs, rfl, rfl, h1, by omega, by omega, ?_, fun p hp => q _ _ (same_new hp) (.lst (offS_new f hp) ((rpa_rep r1 k).mono (offS_mono (same_new hp))))⟩
  rw [l1]
  exact Nat.le_of_lt (small1000 hl)
theorem atI_of {xs : List V} {i : Int} {n : Nat} {x : V} (h : i = (n : Int)) (hx : xs[n]? = some x) : atI xs i = some x := L2.at_of h hx
theorem e_ixL {i : Int} {n : Nat} (ha : EvD ta σ F (.list ds)) (hb : EvD tb σ F (.int i)) (hi : i = (n : Int)) (hd : ds[n]? = some d) : EvD (tOp (rIxL K) ta tb) σ F d := e_op ha hb fun S H x y f rx ry Q q => by
  obtain ⟨a, xs, rfl, h1, r1⟩ := rp_lst rx
  cases ry
  obtain ⟨v, hv, rv⟩ := r1.at hd
  exact ⟨a, xs, i, v, rfl, rfl, .inl (.inl h1), atI_of hi hv, q _ H (Same.refl _) rv⟩
theorem e_ixT {i : Int} {n : Nat} (ha : EvD ta σ F (.tuple ds)) (hb : EvD tb σ F (.int i)) (hi : i = (n : Int)) (hd : ds[n]? = some d) : EvD (tOp (rIxT K) ta tb) σ F d := e_op ha hb fun S H x y f rx ry Q q => by
  obtain ⟨a, xs, rfl, h1, r1⟩ := rp_tup rx
  cases ry
  obtain ⟨v, hv, rv⟩ := r1.at hd
  exact ⟨a, xs, i, v, rfl, rfl, .inl (.inl h1), atI_of hi hv, q _ H (Same.refl _) rv⟩
/-! slices -/
theorem o_none : EvO tNoPart σ F none := fun S H1 f s Q q => q H1 (Same.refl _)
theorem o_some {i : Int} (h : EvD te σ F (.int i)) : EvO (tPart te) σ F (some i) := fun S H1 f s Q q => h S H1 f s _ fun v H2 s2 r => by
  cases r
  exact ⟨i, rfl, q H2 s2⟩
theorem e_sl {r : V → Option Int → Option Int → Hp → VK → Prop} {tl th : TO} {lo hi : Option Int} (ha : EvD ta σ F d) (hl : EvO tl σ F lo) (hh : EvO th σ F hi)
    (hr : ∀ (S : Addr → Bool) (H : Hp) (x : V), Fr S H → Rp (offS S H) x d → ∀ Q : VK, (∀ v H2, Same H H2 → P (offS S H2) v → Q v H2) → r x lo hi H Q) : EvP (tSl r ta tl th) σ F P := fun S H1 f s Q q =>
  ha S H1 f s _ fun x H2 s2 r2 => hl S H2 (f.mono s2) (s.trans (offS_mono s2)) _ fun H3 s3 => hh S H3 (f.mono (s2.trans s3)) (s.trans (offS_mono (s2.trans s3))) _ fun H4 s4 =>
    hr S H4 x (f.mono ((s2.trans s3).trans s4)) (r2.mono (offS_mono (s3.trans s4))) Q fun v H5 s5 p => q v H5 (((s2.trans s3).trans s4).trans s5) p
def cutD (ds : List PyData) (lo hi : Option Int) : List PyData := (ds.drop (HT.sIx ds.length 0 lo)).take (HT.sIx ds.length ds.length hi - HT.sIx ds.length 0 lo)
theorem rpa_cut {H : Hp} {xs : List V} {lo hi : Option Int} (r : RpA H xs ds) : RpA H (cutV xs lo hi) (cutD ds lo hi) := by
  unfold cutV cutD
  rw [r.length]
  exact (r.drop _).take _
theorem e_slL {tl th : TO} {lo hi : Option Int} (ha : EvD ta σ F (.list ds)) (hl : EvO tl σ F lo) (hh : EvO th σ F hi) : EvD (tSl (rSlL K) ta tl th) σ F (.list (cutD ds lo hi)) := e_sl ha hl hh fun S H x f rx Q q => by
  obtain ⟨a, xs, rfl, h1, r1⟩ := rp_lst rx
  exact ⟨a, xs, rfl, .inl (.inl h1), fun p hp => q _ _ (same_new hp) (.lst (offS_new f hp) ((rpa_cut r1).mono (offS_mono (same_new hp))))⟩
theorem e_slT {tl th : TO} {lo hi : Option Int} (ha : EvD ta σ F (.tuple ds)) (hl : EvO tl σ F lo) (hh : EvO th σ F hi) : EvD (tSl (rSlA K) ta tl th) σ F (.tuple (cutD ds lo hi)) := e_sl ha hl hh fun S H x f rx Q q => by
  obtain ⟨a, xs, rfl, h1, r1⟩ := rp_tup rx
  refine ⟨a, xs, rfl, .inl (.inl h1), fun z => ?_, fun _ p hp => q _ _ (same_new hp) (.tup (offS_new f hp) ((rpa_cut r1).mono (offS_mono (same_new hp))))⟩
  have e : cutD ds lo hi = ds := by
    unfold cutD
    rw [r1.length] at z
    rw [z.1, z.2]
    simp
  rw [e] at q
  exact q _ H (Same.refl _) rx
/-! bools, tests -/
theorem b_val {b : Bool} (h : EvD te σ F (.bool b)) : EvB (tB te) σ F b := fun S H1 f s Q q => h S H1 f s _ fun v H2 s2 r => by
  cases r
  exact ⟨b, rfl, q H2 s2⟩
theorem b_test {b : Bool} (h : EvD te σ F (.bool b)) : EvB (tTest te) σ F b := fun S H1 f s Q q => h S H1 f s _ fun v H2 s2 r => by
  cases r
  exact ⟨b, rfl, q H2 s2⟩
theorem b_yes : EvB tYes σ F true := fun S H1 f s Q q => q H1 (Same.refl _)
theorem b_not {b : Bool} (h : EvB tt σ F b) : EvB (tNot tt) σ F (!b) := fun S H1 f s Q q => h S H1 f s _ fun H2 s2 => q H2 s2
theorem b_and {a b : Bool} (h : EvB tt σ F a) (h2 : a = true → EvB tu σ F b) : EvB (tAnd tt tu) σ F (a && b) := fun S H1 f s Q q => h S H1 f s _ fun H2 s2 => by
  cases a with
  | true => exact h2 rfl S H2 (f.mono s2) (s.trans (offS_mono s2)) _ fun H3 s3 => q H3 (s2.trans s3)
  | false => exact q H2 s2
theorem b_or {a b : Bool} (h : EvB tt σ F a) (h2 : a = false → EvB tu σ F b) : EvB (tOr tt tu) σ F (a || b) := fun S H1 f s Q q => h S H1 f s _ fun H2 s2 => by
  cases a with
  | false => exact h2 rfl S H2 (f.mono s2) (s.trans (offS_mono s2)) _ fun H3 s3 => q H3 (s2.trans s3)
  | true => exact q H2 s2
theorem e_and {a b : Bool} (h : EvD ta σ F (.bool a)) (h2 : a = true → EvD tb σ F (.bool b)) : EvD (tAndV ta tb) σ F (.bool (a && b)) := fun S H1 f s Q q => h S H1 f s _ fun v H2 s2 r => by
  cases r
  refine ⟨a, rfl, ?_⟩
  cases a with
  | true => exact h2 rfl S H2 (f.mono s2) (s.trans (offS_mono s2)) _ fun v H3 s3 r3 => q v H3 (s2.trans s3) r3
  | false => exact q _ H2 s2 (.bl _)
theorem e_or {a b : Bool} (h : EvD ta σ F (.bool a)) (h2 : a = false → EvD tb σ F (.bool b)) : EvD (tOrV ta tb) σ F (.bool (a || b)) := fun S H1 f s Q q => h S H1 f s _ fun v H2 s2 r => by
  cases r
  refine ⟨a, rfl, ?_⟩
  cases a with
  | false => exact h2 rfl S H2 (f.mono s2) (s.trans (offS_mono s2)) _ fun v H3 s3 r3 => q v H3 (s2.trans s3) r3
  | true => exact q _ H2 s2 (.bl _)
theorem e_not {a : Bool} (h : EvD ta σ F (.bool a)) : EvD (tNotV ta) σ F (.bool (!a)) := fun S H1 f s Q q => h S H1 f s _ fun v H2 s2 r => by
  cases r
  exact ⟨a, rfl, q _ H2 s2 (.bl _)⟩
theorem e_ifP {b : Bool} (h : EvB tt σ F b) (h1 : b = true → EvP ta σ F P) (h2 : b = false → EvP tb σ F P) : EvP (tIf tt ta tb) σ F P := fun S H1 f s Q q => h S H1 f s _ fun H2 s2 => by
  cases b with
  | true => exact h1 rfl S H2 (f.mono s2) (s.trans (offS_mono s2)) _ fun v H3 s3 r3 => q v H3 (s2.trans s3) r3
  | false => exact h2 rfl S H2 (f.mono s2) (s.trans (offS_mono s2)) _ fun v H3 s3 r3 => q v H3 (s2.trans s3) r3
/-! membership -/
theorem ints_flat (ns : List Int) : (ns.map V.int).all flatV = true := by
  induction ns with
  | nil => rfl
  | cons n ns ih => rw [List.map_cons, List.all_cons, ih]; rfl
theorem inV_ints (n : Int) (ns : List Int) : inV (.int n) (ns.map V.int) = ns.contains n := by
  unfold inV
  induction ns with
  | nil => rfl
  | cons m ns ih =>
    rw [List.map_cons, List.any_cons, ih, List.contains_cons]
    have e : eqV (.int m) (.int n) = (n == m) := by
      have e1 : eqV (.int m) (.int n) = (m == n) := by simp [eqV]
      rw [e1]
      exact Bool.eq_iff_iff.mpr ⟨fun z => beq_iff_eq.mpr (beq_iff_eq.mp z).symm, fun z => beq_iff_eq.mpr (beq_iff_eq.mp z).symm⟩
    rw [e]
theorem ints_rp {H : Hp} : ∀ {xs : List V} {ns : List Int}, RpA H xs (ns.map PyData.int) → xs = ns.map V.int
  | _, [], r => by cases r; rfl
  | _, n :: ns, r => by
    cases r with
    | cons h q =>
      cases h
      rw [ints_rp q]
      rfl
theorem rp_ints {H : Hp} : ∀ ns : List Int, RpA H (ns.map V.int) (ns.map PyData.int)
  | [] => .nil
  | n :: ns => .cons (.int n) (rp_ints ns)
theorem e_inT {n : Int} {ns : List Int} (ha : EvD ta σ F (.int n)) (hb : EvD tb σ F (.tuple (ns.map .int))) : EvD (tOp (rIn K false) ta tb) σ F (.bool (ns.contains n)) := e_op ha hb fun S H x y f rx ry Q q => by
  cases rx
  obtain ⟨a, xs, rfl, h1, r1⟩ := rp_tup ry
  rw [ints_rp r1] at h1
  refine ⟨a, _, rfl, .inr (.inl (.inl h1)), rfl, ints_flat ns, q _ H (Same.refl _) ?_⟩
  show Rp (offS S H) (.bl (inV (.int n) (ns.map V.int))) _
  rw [inV_ints]
  exact .bl _
theorem e_inL {n : Int} {ns : List Int} (ha : EvD ta σ F (.int n)) (hb : EvD tb σ F (.list (ns.map .int))) : EvD (tOp (rIn K false) ta tb) σ F (.bool (ns.contains n)) := e_op ha hb fun S H x y f rx ry Q q => by
  cases rx
  obtain ⟨a, xs, rfl, h1, r1⟩ := rp_lst ry
  rw [ints_rp r1] at h1
  refine ⟨a, _, rfl, .inl (.inl (.inl h1)), rfl, ints_flat ns, q _ H (Same.refl _) ?_⟩
  show Rp (offS S H) (.bl (inV (.int n) (ns.map V.int))) _
  rw [inV_ints]
  exact .bl _
/-! calls of built-ins and of defs -/
theorem e_cb {r : List V → Hp → VK → Prop} (h : EvA tas σ F ds)
    (hr : ∀ (S : Addr → Bool) (H : Hp) (vs : List V), Fr S H → RpA (offS S H) vs ds → ∀ Q : VK, (∀ v H2, Same H H2 → P (offS S H2) v → Q v H2) → r vs H Q) : EvP (tCB r tas) σ F P := fun S H1 f s Q q =>
  h S H1 f s _ fun vs H2 s2 r2 => hr S H2 vs (f.mono s2) r2 Q fun v H4 s4 p => q v H4 (s2.trans s4) p
theorem rpa1 {H : Hp} {vs : List V} (r : RpA H vs [d]) : ∃ v, vs = [v] ∧ Rp H v d := by
  cases r with
  | cons h q =>
    cases q
    exact ⟨_, rfl, h⟩
theorem rpa2 {H : Hp} {vs : List V} {d1 d2 : PyData} (r : RpA H vs [d1, d2]) : ∃ v1 v2, vs = [v1, v2] ∧ Rp H v1 d1 ∧ Rp H v2 d2 := by
  cases r with
  | cons h q =>
    obtain ⟨v, rfl, h2⟩ := rpa1 q
    exact ⟨_, _, rfl, h, h2⟩
theorem rpa3 {H : Hp} {vs : List V} {d1 d2 d3 : PyData} (r : RpA H vs [d1, d2, d3]) : ∃ v1 v2 v3, vs = [v1, v2, v3] ∧ Rp H v1 d1 ∧ Rp H v2 d2 ∧ Rp H v3 d3 := by
  cases r with
  | cons h q =>
    obtain ⟨v, w, rfl, h2, h3⟩ := rpa2 q
    exact ⟨_, _, _, rfl, h, h2, h3⟩
theorem rpa4 {H : Hp} {vs : List V} {d1 d2 d3 d4 : PyData} (r : RpA H vs [d1, d2, d3, d4]) : ∃ v1 v2 v3 v4, vs = [v1, v2, v3, v4] ∧ Rp H v1 d1 ∧ Rp H v2 d2 ∧ Rp H v3 d3 ∧ Rp H v4 d4 := by
  cases r with
  | cons h q =>
    obtain ⟨v, w, u, rfl, h2, h3, h4⟩ := rpa3 q
    exact ⟨_, _, _, _, rfl, h, h2, h3, h4⟩
def rLenQ (K : PySem.W.Frag) : List V → Hp → VK → Prop := fun xs H Q => ∃ p ys, xs = [.ref p] ∧ (SqL K H p ys ∨ SqT K H p ys) ∧ Q (.int ys.length) H
theorem call_lenQ {X : Cx} : CallR X (.builtin "len") (rLenQ X.K) := call_len_seq
def rTupQ (K : PySem.W.Frag) : List V → Hp → VK → Prop := fun xs H Q => ∃ p ys, xs = [.ref p] ∧ ((SqL K H p ys ∧ ∀ l, H l = none → Q (.ref l) (upd H l (.tup ys))) ∨ (SqT K H p ys ∧ Q (.ref p) H))
theorem call_tupQ {X : Cx} : CallR X (.type "tuple") (rTupQ X.K) := call_tuple_of
def rLstQ (K : PySem.W.Frag) : List V → Hp → VK → Prop := fun xs H Q => ∃ p ys, xs = [.ref p] ∧ (SqL K H p ys ∨ SqT K H p ys) ∧ ∀ l, H l = none → Q (.ref l) (upd H l (.lst ys))
theorem call_lstQ {X : Cx} : CallR X (.type "list") (rLstQ X.K) := call_list_of
def rJoinQ (K : PySem.W.Frag) : V → List V → Hp → VK → Prop := fun x xs H Q => ∃ a p, ∃ ys : List PySem.Str, x = .str a ∧ xs = [.ref p] ∧ (SqL K H p (ys.map V.str) ∨ SqT K H p (ys.map V.str)) ∧ (ys.map (·.length)).sum + ys.length * a.length ≤ 16777216 ∧ Q (.str (Txt.join a ys)) H
theorem e_lenL (h : EvD ta σ F (.list ds)) : EvD (tCB (rLenQ K) (tCons ta tNil)) σ F (.int ds.length) := e_cb (a_cons h a_nil) fun S H vs f r Q q => by
  obtain ⟨v, rfl, r1⟩ := rpa1 r
  obtain ⟨a, xs, rfl, h1, r2⟩ := rp_lst r1
  refine ⟨a, xs, rfl, .inl (.inl (.inl h1)), q _ H (Same.refl _) ?_⟩
  rw [r2.length]
  exact .int _
theorem e_lenT (h : EvD ta σ F (.tuple ds)) : EvD (tCB (rLenQ K) (tCons ta tNil)) σ F (.int ds.length) := e_cb (a_cons h a_nil) fun S H vs f r Q q => by
  obtain ⟨v, rfl, r1⟩ := rpa1 r
  obtain ⟨a, xs, rfl, h1, r2⟩ := rp_tup r1
  refine ⟨a, xs, rfl, .inr (.inl (.inl h1)), q _ H (Same.refl _) ?_⟩
  rw [r2.length]
  exact .int _
theorem bools_rp {H : Hp} : ∀ {xs : List V} {bs : List Bool}, RpA H xs (bs.map PyData.bool) → xs = bs.map V.bl
  | _, [], r => by cases r; rfl
  | _, n :: ns, r => by
    cases r with
    | cons h q =>
      cases h
      rw [bools_rp q]
      rfl
theorem strs_rp {H : Hp} : ∀ {xs : List V} {bs : List PySem.Str}, RpA H xs (bs.map PyData.str) → xs = bs.map V.str
  | _, [], r => by cases r; rfl
  | _, n :: ns, r => by
    cases r with
    | cons h q =>
      cases h
      rw [strs_rp q]
      rfl
def truD : PyData → Bool
  | .bool b => b
  | _ => false
def intD : PyData → Int
  | .int i => i
  | _ => 0
def strD : PyData → PySem.Str
  | .str x => x
  | _ => PySem.Str.ofString ""
theorem of_bools : ∀ {ds : List PyData}, (∀ d ∈ ds, ∃ b, d = .bool b) → ds = (ds.map truD).map .bool
  | [], _ => rfl
  | d :: ds, h => by
    obtain ⟨b, rfl⟩ := h d (.head _)
    rw [List.map_cons, List.map_cons, ← of_bools fun e he => h e (.tail _ he)]
    rfl
theorem of_ints : ∀ {ds : List PyData}, (∀ d ∈ ds, ∃ i, d = .int i) → ds = (ds.map intD).map .int
  | [], _ => rfl
  | d :: ds, h => by
    obtain ⟨b, rfl⟩ := h d (.head _)
    rw [List.map_cons, List.map_cons, ← of_ints fun e he => h e (.tail _ he)]
    rfl
theorem of_strs : ∀ {ds : List PyData}, (∀ d ∈ ds, ∃ x, d = .str x) → ds = (ds.map strD).map .str
  | [], _ => rfl
  | d :: ds, h => by
    obtain ⟨b, rfl⟩ := h d (.head _)
    rw [List.map_cons, List.map_cons, ← of_strs fun e he => h e (.tail _ he)]
    rfl
theorem eqD (h : EvD te σ F d) (he : d = e) : EvD te σ F e := he ▸ h
theorem e_all (h : EvD ta σ F (.list ds)) (hb : ∀ d ∈ ds, ∃ b, d = .bool b) : EvD (tCB (rAll K) (tCons ta tNil)) σ F (.bool (ds.all truD)) := e_cb (a_cons h a_nil) fun S H vs f r Q q => by
  obtain ⟨v, rfl, r1⟩ := rpa1 r
  obtain ⟨a, xs, rfl, h1, r2⟩ := rp_lst r1
  rw [of_bools hb] at r2
  rw [bools_rp r2] at h1
  refine ⟨a, _, rfl, .inl (.inl h1), q _ H (Same.refl _) ?_⟩
  rw [List.all_map]
  exact .bl _
theorem e_any (h : EvD ta σ F (.list ds)) (hb : ∀ d ∈ ds, ∃ b, d = .bool b) : EvD (tCB (rAny K) (tCons ta tNil)) σ F (.bool (ds.any truD)) := e_cb (a_cons h a_nil) fun S H vs f r Q q => by
  obtain ⟨v, rfl, r1⟩ := rpa1 r
  obtain ⟨a, xs, rfl, h1, r2⟩ := rp_lst r1
  rw [of_bools hb] at r2
  rw [bools_rp r2] at h1
  refine ⟨a, _, rfl, .inl (.inl h1), q _ H (Same.refl _) ?_⟩
  rw [List.any_map]
  exact .bl _
theorem e_sum (h : EvD ta σ F (.list ds)) (hb : ∀ d ∈ ds, ∃ i, d = .int i) : EvD (tCB (rSum K) (tCons ta tNil)) σ F (.int (ds.map intD).sum) := e_cb (a_cons h a_nil) fun S H vs f r Q q => by
  obtain ⟨v, rfl, r1⟩ := rpa1 r
  obtain ⟨a, xs, rfl, h1, r2⟩ := rp_lst r1
  rw [of_ints hb] at r2
  rw [ints_rp r2] at h1
  exact ⟨a, _, rfl, .inl (.inl h1), q _ H (Same.refl _) (.int _)⟩
theorem e_inD {n : Int} (ha : EvD ta σ F (.int n)) (hb : EvD tb σ F (.tuple ds)) (hi : ∀ d ∈ ds, ∃ i, d = .int i) : EvD (tOp (rIn K false) ta tb) σ F (.bool ((ds.map intD).contains n)) := e_inT ha (eqD hb (by rw [← of_ints hi]))
theorem e_inDL {n : Int} (ha : EvD ta σ F (.int n)) (hb : EvD tb σ F (.list ds)) (hi : ∀ d ∈ ds, ∃ i, d = .int i) : EvD (tOp (rIn K false) ta tb) σ F (.bool ((ds.map intD).contains n)) := e_inL ha (eqD hb (by rw [← of_ints hi]))
theorem e_tupOf (h : EvD ta σ F (.list ds)) : EvD (tCB (rTupQ K) (tCons ta tNil)) σ F (.tuple ds) := e_cb (a_cons h a_nil) fun S H vs f r Q q => by
  obtain ⟨v, rfl, r1⟩ := rpa1 r
  obtain ⟨a, xs, rfl, h1, r2⟩ := rp_lst r1
  exact ⟨a, xs, rfl, .inl ⟨.inl (.inl h1), fun p hp => q _ _ (same_new hp) (.tup (offS_new f hp) (r2.mono (offS_mono (same_new hp))))⟩⟩
theorem e_strI {i : Int} (h : EvD ta σ F (.int i)) (hl : i.natAbs.log2 < 1920) : EvD (tCB (fun xs H Q => ∃ i, xs = [.int i] ∧ i.natAbs.log2 < 1920 ∧ Q (.str (toString i)) H) (tCons ta tNil)) σ F (.str (PySem.Str.ofString (toString i))) := e_cb (a_cons h a_nil) fun S H vs f r Q q => by
  obtain ⟨v, rfl, r1⟩ := rpa1 r
  cases r1
  exact ⟨i, rfl, hl, q _ H (Same.refl _) (.str _)⟩
/-- the promise of a def over data: R its arguments and its answer -/
def spR (R : List PyData → PyData → Prop) : Sp := fun vs H Q _ => ∃ (S : Addr → Bool) (ds : List PyData) (d : PyData), Fr S H ∧ RpA (offS S H) vs ds ∧ R ds d ∧ ∀ v H', Same H H' → Rp (offS S H') v d → Q v H'
theorem spR_len {R : List PyData → PyData → Prop} {n : Nat} (h : ∀ ds d, R ds d → ds.length = n) : ∀ vs H Q E, spR R vs H Q E → vs.length = n := fun vs H Q E ⟨S, ds, d, f, r, hr, _⟩ => by
  rw [r.length]
  exact h ds d hr
theorem e_call {R : List PyData → PyData → Prop} {E : XK} (h : EvA tas σ F ds) (hR : R ds d) : EvD (tCall (spR R) [] E tas) σ F d := fun S H1 f s Q q =>
  h S H1 f s _ fun vs H2 s2 r2 => ⟨S, ds, d, f.mono s2, by rw [List.append_nil]; exact r2, hR, fun v H3 s3 r3 => q v H3 (s2.trans s3) r3⟩
/-! comprehensions -/
def GtP (g : TG) (x : V) (σ : L2.St) (F : Hp) (C : L2.St → Prop) : Prop := ∀ (S : Addr → Bool) (H1 : Hp), Fr S H1 → Same F (offS S H1) → ∀ Q : L2.St → Hp → Prop, (∀ σ2, C σ2 → Q σ2 H1) → g x σ H1 Q
theorem g_name {i : Nat} {x : V} {C : L2.St → Prop} (h : C (σ.set i (some x))) : GtP (gName i) x σ F C := fun S H1 f s Q q => q _ h
theorem g_tup2 {i j : Nat} {x : V} {C : L2.St → Prop} {d1 d2 : PyData} (r : Rp F x (.tuple [d1, d2])) (h : ∀ v1 v2, Rp F v1 d1 → Rp F v2 d2 → C ((σ.set i (some v1)).set j (some v2))) :
    GtP (gTup K 2 (gCons (gName i) (gCons (gName j) gNil))) x σ F C := fun S H1 f s Q q => by
  cases r with
  | tup h1 r1 =>
    obtain ⟨v1, v2, rfl, r1, r2⟩ := rpa2 r1
    exact ⟨_, _, rfl, .inl (.inl (offS_same _ _ (s _ _ h1))), rfl, _, _, rfl, _, _, rfl, rfl, q _ (h v1 v2 r1 r2)⟩
theorem g_tup3 {i j k : Nat} {x : V} {C : L2.St → Prop} {d1 d2 d3 : PyData} (r : Rp F x (.tuple [d1, d2, d3])) (h : ∀ v1 v2 v3, Rp F v1 d1 → Rp F v2 d2 → Rp F v3 d3 → C (((σ.set i (some v1)).set j (some v2)).set k (some v3))) :
    GtP (gTup K 3 (gCons (gName i) (gCons (gName j) (gCons (gName k) gNil)))) x σ F C := fun S H1 f s Q q => by
  cases r with
  | tup h1 r1 =>
    obtain ⟨v1, v2, v3, rfl, r1, r2, r3⟩ := rpa3 r1
    exact ⟨_, _, rfl, .inl (.inl (offS_same _ _ (s _ _ h1))), rfl, _, _, rfl, _, _, rfl, _, _, rfl, rfl, q _ (h v1 v2 v3 r1 r2 r3)⟩
theorem g_tup4 {i j k l : Nat} {x : V} {C : L2.St → Prop} {d1 d2 d3 d4 : PyData} (r : Rp F x (.tuple [d1, d2, d3, d4])) (h : ∀ v1 v2 v3 v4, Rp F v1 d1 → Rp F v2 d2 → Rp F v3 d3 → Rp F v4 d4 → C ((((σ.set i (some v1)).set j (some v2)).set k (some v3)).set l (some v4))) :
    GtP (gTup K 4 (gCons (gName i) (gCons (gName j) (gCons (gName k) (gCons (gName l) gNil))))) x σ F C := fun S H1 f s Q q => by
  cases r with
  | tup h1 r1 =>
    obtain ⟨v1, v2, v3, v4, rfl, r1, r2, r3, r4⟩ := rpa4 r1
    exact ⟨_, _, rfl, .inl (.inl (offS_same _ _ (s _ _ h1))), rfl, _, _, rfl, _, _, rfl, _, _, rfl, _, _, rfl, rfl, q _ (h v1 v2 v3 v4 r1 r2 r3 r4)⟩
/-- a turn of a comprehension over what reads as d -/
abbrev Turn (g : TG) (tt : TT) (te : TE) (σ : L2.St) (vs : List Nat) (F : Hp) (d : PyData) (b : Bool) (e : PyData) : Prop :=
  ∀ x F1, Same F F1 → Rp F1 x d → GtP g x (wipe σ vs) F1 fun σ2 => wipe σ2 vs = wipe σ vs ∧ EvB tt σ2 F1 b ∧ (b = true → EvD te σ2 F1 e)
section
variable {α : Type} {enc : α → PyData} {as : List α} {b : α → Bool} {ev : α → PyData} {g : TG} {vs : List Nat}
abbrev LInv (S : Addr → Bool) (H0 : Hp) (D : Addr) (as : List α) (b : α → Bool) (ev : α → PyData) (i : Nat) (H' : Hp) : Prop :=
  Same H0 H' ∧ ∃ acc, H' D = some (.lst acc) ∧ RpA (offS (addS S D) H') acc (((as.take i).filter b).map ev)
theorem l_turn {S : Addr → Bool} {H0 : Hp} {D : Addr} {a : α} {i : Nat} {H' : Hp} {x : V} (fr : Fr S H0) (sF : Same F (offS S H0)) (hD : H0 D = none) (hz : as.length ≤ 1000) (hi : as[i]? = some a) (rx : Rp (offS S H0) x (enc a))
    (ht : Turn g tt te σ vs F (enc a) (b a) (ev a)) (inv : LInv S H0 D as b ev i H') :
    g x (wipe σ vs) H' fun σ2 H2 => wipe σ2 vs = wipe σ vs ∧ tt σ2 H2 fun c H3 => if c = true then te σ2 H3 fun y H4 => ∃ acc, H4 D = some (.lst acc) ∧ acc.length < sizeLine ∧
      LInv S H0 D as b ev (i + 1) (upd H4 D (.lst (acc ++ [y]))) else LInv S H0 D as b ev (i + 1) H3 := by
  obtain ⟨s, acc, hacc, ra⟩ := inv
  have f1 : Fr (addS S D) H' := (fr.mono s).add hacc trivial
  have hDo : offS S H0 D = none := by
    unfold offS
    split
    · rfl
    · exact hD
  have s1 : Same (offS S H0) (offS (addS S D) H') := addS_new hDo (offS_mono s)
  have e1 : as.take (i + 1) = as.take i ++ [a] := take_more hi
  refine ht x (offS (addS S D) H') (sF.trans s1) (rx.mono s1) (addS S D) H' f1 (Same.refl _) _ fun σ2 ⟨w, hb, he⟩ => ⟨w, hb (addS S D) H' f1 (Same.refl _) _ fun H3 s3 => ?_⟩
  cases hb2 : b a with
  | false =>
    refine ⟨s.trans s3, acc, s3 _ _ hacc, ?_⟩
    rw [e1, List.filter_append, List.map_append]
    have : [a].filter b = [] := by simp [hb2]
    rw [this, List.map_nil, List.append_nil]
    exact ra.mono (offS_mono s3)
  | true =>
    refine he hb2 (addS S D) H3 (f1.mono s3) (offS_mono s3) _ fun y H4 s4 r4 => ⟨acc, (s3.trans s4) _ _ hacc, ?_, same_mut (s.trans (s3.trans s4)) hD, _, upd_same, ?_⟩
    · have l1 := ra.length
      rw [List.length_map] at l1
      have l2 := List.length_filter_le b (as.take i)
      have l3 : (as.take i).length ≤ 1000 := by rw [List.length_take]; omega
      exact small1000 (by omega)
    · rw [e1, List.filter_append, List.map_append]
      have : [a].filter b = [a] := by simp [hb2]
      rw [this]
      exact ((ra.mono (offS_mono (s3.trans s4))).mono addS_upd).append (.cons (r4.mono addS_upd) .nil)
theorem l_fin {S : Addr → Bool} {H0 : Hp} {D : Addr} {H' : Hp} {n : Nat} (fr : Fr S H0) (hD : H0 D = none) (hn : n = as.length) (inv : LInv S H0 D as b ev n H') : Rp (offS S H') (.ref D) (.list ((as.filter b).map ev)) := by
  obtain ⟨s, acc, hacc, ra⟩ := inv
  rw [hn, List.take_length] at ra
  exact .lst (by rw [offS_at (fr.new hD)]; exact hacc) (ra.mono addS_off)
theorem l_get {H : Hp} {xs : List V} {i : Nat} {x : V} (r : RpA H xs (as.map enc)) (hx : xs[i]? = some x) : ∃ a, as[i]? = some a ∧ Rp H x (enc a) := by
  obtain ⟨d, hd, rx⟩ := r.get hx
  rw [List.getElem?_map] at hd
  cases ha : as[i]? with
  | none => rw [ha] at hd; cases hd
  | some a =>
    rw [ha] at hd
    cases hd
    exact ⟨a, rfl, rx⟩
theorem e_lcL {tl : TE} (hl : EvD tl σ F (.list (as.map enc))) (hz : as.length ≤ 1000) (ht : ∀ a ∈ as, Turn g tt te σ vs F (enc a) (b a) (ev a)) :
    EvD (tLc (iList K tl) g tt te vs) σ F (.list ((as.filter b).map ev)) := fun S H1 f s Q q => hl S H1 f s _ fun v H2 s2 r => by
  obtain ⟨a, xs, rfl, h1, r1⟩ := rp_lst r
  refine ⟨a, rfl, ⟨xs, .inl (.inl h1)⟩, fun D hD => ?_⟩
  have f2 := f.mono s2
  have sF := s.trans (offS_mono (S := S) s2)
  refine lc_list (LInv S H2 D as b ev) ⟨same_new hD, [], upd_same, .nil⟩ (fun i H' _ p => .inl (.inl (p.1 _ _ h1))) (fun i x H' hx inv => ?_) fun H' inv => q _ _ (s2.trans inv.1) (l_fin f2 hD (by rw [r1.length, List.length_map]) inv)
  obtain ⟨t, ht1, rx⟩ := l_get r1 hx
  exact l_turn f2 sF hD hz ht1 rx (ht t (List.mem_of_getElem? ht1)) inv
theorem e_lcT {tl : TE} (hl : EvD tl σ F (.tuple (as.map enc))) (hz : as.length ≤ 1000) (ht : ∀ a ∈ as, Turn g tt te σ vs F (enc a) (b a) (ev a)) :
    EvD (tLc (iTup K tl) g tt te vs) σ F (.list ((as.filter b).map ev)) := fun S H1 f s Q q => hl S H1 f s _ fun v H2 s2 r => by
  obtain ⟨a, xs, rfl, h1, r1⟩ := rp_tup r
  refine ⟨a, rfl, ⟨xs, .inl (.inl h1)⟩, fun D hD => ?_⟩
  have f2 := f.mono s2
  have sF := s.trans (offS_mono (S := S) s2)
  refine lc_tup (LInv S H2 D as b ev) ⟨same_new hD, [], upd_same, .nil⟩ (fun i H' _ p => .inl (.inl (p.1 _ _ h1))) (fun i x H' hx inv => ?_) fun H' inv => q _ _ (s2.trans inv.1) (l_fin f2 hD (by rw [r1.length, List.length_map]) inv)
  obtain ⟨t, ht1, rx⟩ := l_get r1 hx
  exact l_turn f2 sF hD hz ht1 rx (ht t (List.mem_of_getElem? ht1)) inv
end
/-- over range(n) -/
theorem e_lcR {ta : TA} {n : Nat} {b : Nat → Bool} {ev : Nat → PyData} {g : TG} {vs : List Nat} (hl : EvA ta σ F [.int (n : Int)]) (hz : n ≤ 1000) (ht : ∀ a, a < n → Turn g tt te σ vs F (.int (a : Int)) (b a) (ev a)) :
    EvD (tLc (iRng1 ta) g tt te vs) σ F (.list (((List.range n).filter b).map ev)) := fun S H1 f s Q q => hl S H1 f s _ fun v H2 s2 r => by
  obtain ⟨v1, rfl, r1⟩ := rpa1 r
  cases r1
  refine ⟨_, rfl, by omega, by omega, fun D hD => ?_⟩
  have f2 := f.mono s2
  have sF := s.trans (offS_mono (S := S) s2)
  have en : ((n : Nat) : Int).toNat = n := by omega
  refine lc_range (lo := 0) (n := ((n : Nat) : Int).toNat) (LInv S H2 D (List.range n) b ev) ⟨same_new hD, [], upd_same, .nil⟩ (fun i H' hi inv => ?_) fun H' inv => q _ _ (s2.trans inv.1) (l_fin f2 hD (by rw [en, List.length_range]) inv)
  have hi2 : i < n := by omega
  have e0 : (0 : Int) + (i : Int) = (i : Int) := by omega
  rw [e0]
  exact l_turn (as := List.range n) (enc := fun a : Nat => PyData.int (a : Int)) f2 sF hD (by rw [List.length_range]; exact hz) (List.getElem?_range hi2) (.int _) (ht i hi2) inv
/-! statements -/
variable {S : Addr → Bool} {H : Hp} {D : L2.Ends} {t u : TS}
theorem go_seq (h : t { D with nx := u D } σ H) : tSeq t u D σ H := h
theorem go_ret (f : Fr S H) (h : EvP te σ (offS S H) P) (k : ∀ v H', Same H H' → P (offS S H') v → D.rt v H') : tRet te D σ H := h S H f (Same.refl _) _ k
theorem go_set {i : Nat} (f : Fr S H) (h : EvP te σ (offS S H) P) (k : ∀ v H', Same H H' → Fr S H' → P (offS S H') v → D.nx (σ.set i (some v)) H') : tAsg te (gName i) D σ H := h S H f (Same.refl _) _ fun v H' s p => k v H' s (f.mono s) p
theorem go_if {b : Bool} (f : Fr S H) (h : EvB tt σ (offS S H) b) (k1 : b = true → ∀ H', Same H H' → Fr S H' → t D σ H') (k2 : b = false → ∀ H', Same H H' → Fr S H' → u D σ H') : tIfS tt t u D σ H := h S H f (Same.refl _) _ fun H' s => by
  cases b with
  | true => exact k1 rfl H' s (f.mono s)
  | false => exact k2 rfl H' s (f.mono s)
theorem go_ifT (f : Fr S H) (h : EvB tt σ (offS S H) true) (k1 : ∀ H', Same H H' → Fr S H' → t D σ H') : tIfS tt t u D σ H := go_if f h (fun _ => k1) fun z => by cases z
theorem go_ifF (f : Fr S H) (h : EvB tt σ (offS S H) false) (k1 : ∀ H', Same H H' → Fr S H' → u D σ H') : tIfS tt t u D σ H := go_if f h (fun z => by cases z) fun _ => k1
end
end Ca

set_option maxHeartbeats 4000000
namespace Ca
open PySem PySem.Spec PyProof.Rows L2
theorem cut_take (ds : List PyData) (k : Nat) : cutD ds none (some (k : Int)) = ds.take k := by
  unfold cutD
  rw [HT.sIx_none, HT.sIx_nat, Nat.sub_zero, List.drop_zero]
  rcases Nat.le_total k ds.length with h | h
  · rw [Nat.min_eq_left h]
  · rw [Nat.min_eq_right h, List.take_of_length_le (Nat.le_refl _), List.take_of_length_le h]
theorem cut_drop (ds : List PyData) (k : Nat) : cutD ds (some (k : Int)) none = ds.drop k := by
  unfold cutD
  rw [HT.sIx_none, HT.sIx_nat]
  rcases Nat.le_total k ds.length with h | h
  · rw [Nat.min_eq_left h, List.take_of_length_le (by rw [List.length_drop]; exact Nat.le_refl _)]
  · rw [Nat.min_eq_right h, List.drop_of_length_le (Nat.le_refl _), List.drop_of_length_le h, List.take_nil]
section
variable {K : PySem.W.Frag} {σ : L2.St} {ta tb tc te : TE} {tas : TA} {tt tu : TT} {d e : PyData} {ds es : List PyData} {P P2 : Hp → V → Prop}
variable {S : Addr → Bool} {H : Hp} {D : L2.Ends} {t u : TS} {g : TG}
theorem go_forR {n : Nat} (fr : Fr S H) (h : EvA tas σ (offS S H) [.int (n : Int)]) (hz : n < 2 ^ 62) (k : ∀ H1, Same H H1 → Fr S H1 → ∃ Pv : Nat → L2.St → Hp → Prop, Pv 0 σ H1 ∧
    (∀ i σ' H', i < n → Pv i σ' H' → g (.int (i : Int)) σ' H' fun σ2 H2 => t { D with nx := Pv (i + 1), ct := Pv (i + 1), bk := D.nx } σ2 H2) ∧ (∀ σ' H', Pv n σ' H' → D.nx σ' H')) : tFor (iRng1 tas) g t D σ H :=
  h S H fr (Same.refl _) _ fun vs H1 s1 r => by
    obtain ⟨v1, rfl, r1⟩ := rpa1 r
    cases r1
    obtain ⟨Pv, p0, ps, pd⟩ := k H1 s1 (fr.mono s1)
    have en : ((n : Nat) : Int).toNat = n := by omega
    refine ⟨_, rfl, by omega, by omega, for_range (lo := 0) (n := ((n : Nat) : Int).toNat) Pv p0 (fun i σ' H' hi p => ?_) fun σ' H' p => pd σ' H' ?_⟩
    · have e0 : (0 : Int) + (i : Int) = (i : Int) := by omega
      rw [e0]
      exact ps i σ' H' (by omega) p
    · rw [en] at p
      exact p
section
variable {α : Type} {enc : α → PyData} {as : List α}
theorem go_forL {tl : TE} (fr : Fr S H) (h : EvD tl σ (offS S H) (.list (as.map enc))) (k : ∀ H1, Same H H1 → Fr S H1 → ∃ Pv : Nat → L2.St → Hp → Prop, Pv 0 σ H1 ∧
    (∀ i σ' H', Pv i σ' H' → Fr S H' ∧ Same (offS S H1) (offS S H')) ∧
    (∀ i a x σ' H', as[i]? = some a → Rp (offS S H') x (enc a) → Pv i σ' H' → g x σ' H' fun σ2 H2 => t { D with nx := Pv (i + 1), ct := Pv (i + 1), bk := D.nx } σ2 H2) ∧
    (∀ σ' H', Pv as.length σ' H' → D.nx σ' H')) : tFor (iList K tl) g t D σ H :=
  h S H fr (Same.refl _) _ fun v H1 s1 r => by
    obtain ⟨Pv, p0, pk, ps, pd⟩ := k H1 s1 (fr.mono s1)
    cases r with
    | @lst a xs _ h1 r1 =>
      have hl : xs.length = as.length := by rw [r1.length, List.length_map]
      refine ⟨a, rfl, ⟨xs, .inl (.inl (offS_same _ _ h1))⟩, for_list (xs := xs) Pv p0 (fun i σ' H' _ p => .inl (.inl (offS_same _ _ ((pk i σ' H' p).2 _ _ h1)))) (fun i x σ' H' hx p => ?_) fun σ' H' p => pd σ' H' (by rw [hl] at p; exact p)⟩
      obtain ⟨t1, ht1, rx⟩ := l_get r1 hx
      exact ps i t1 x σ' H' ht1 (rx.mono (pk i σ' H' p).2) p
theorem go_forT {tl : TE} (fr : Fr S H) (h : EvD tl σ (offS S H) (.tuple (as.map enc))) (k : ∀ H1, Same H H1 → Fr S H1 → ∃ Pv : Nat → L2.St → Hp → Prop, Pv 0 σ H1 ∧
    (∀ i σ' H', Pv i σ' H' → Fr S H' ∧ Same (offS S H1) (offS S H')) ∧
    (∀ i a x σ' H', as[i]? = some a → Rp (offS S H') x (enc a) → Pv i σ' H' → g x σ' H' fun σ2 H2 => t { D with nx := Pv (i + 1), ct := Pv (i + 1), bk := D.nx } σ2 H2) ∧
    (∀ σ' H', Pv as.length σ' H' → D.nx σ' H')) : tFor (iTup K tl) g t D σ H :=
  h S H fr (Same.refl _) _ fun v H1 s1 r => by
    obtain ⟨Pv, p0, pk, ps, pd⟩ := k H1 s1 (fr.mono s1)
    cases r with
    | @tup a xs _ h1 r1 =>
      have hl : xs.length = as.length := by rw [r1.length, List.length_map]
      refine ⟨a, rfl, ⟨xs, .inl (.inl (offS_same _ _ h1))⟩, for_tup (xs := xs) Pv p0 (fun i σ' H' _ p => .inl (.inl (offS_same _ _ ((pk i σ' H' p).2 _ _ h1)))) (fun i x σ' H' hx p => ?_) fun σ' H' p => pd σ' H' (by rw [hl] at p; exact p)⟩
      obtain ⟨t1, ht1, rx⟩ := l_get r1 hx
      exact ps i t1 x σ' H' ht1 (rx.mono (pk i σ' H' p).2) p
end
theorem go_setS {i : Nat} (f : Fr S H) (h : EvP te σ (offS S H) P) (k : ∀ v H', Same H H' → Fr S H' → P (offS S H') v → u D (σ.set i (some v)) H') : tSeq (tAsg te (gName i)) u D σ H := go_set (D := { D with nx := u D }) f h k
theorem go_forRS {n : Nat} (fr : Fr S H) (h : EvA tas σ (offS S H) [.int (n : Int)]) (hz : n < 2 ^ 62) (k : ∀ H1, Same H H1 → Fr S H1 → ∃ Pv : Nat → L2.St → Hp → Prop, Pv 0 σ H1 ∧
    (∀ i σ' H', i < n → Pv i σ' H' → g (.int (i : Int)) σ' H' fun σ2 H2 => t { D with nx := Pv (i + 1), ct := Pv (i + 1), bk := u D } σ2 H2) ∧ (∀ σ' H', Pv n σ' H' → u D σ' H')) : tSeq (tFor (iRng1 tas) g t) u D σ H := go_forR (D := { D with nx := u D }) fr h hz k
section
variable {α : Type} {enc : α → PyData} {as : List α}
theorem go_forLS {tl : TE} (fr : Fr S H) (h : EvD tl σ (offS S H) (.list (as.map enc))) (k : ∀ H1, Same H H1 → Fr S H1 → ∃ Pv : Nat → L2.St → Hp → Prop, Pv 0 σ H1 ∧
    (∀ i σ' H', Pv i σ' H' → Fr S H' ∧ Same (offS S H1) (offS S H')) ∧
    (∀ i a x σ' H', as[i]? = some a → Rp (offS S H') x (enc a) → Pv i σ' H' → g x σ' H' fun σ2 H2 => t { D with nx := Pv (i + 1), ct := Pv (i + 1), bk := u D } σ2 H2) ∧
    (∀ σ' H', Pv as.length σ' H' → u D σ' H')) : tSeq (tFor (iList K tl) g t) u D σ H := go_forL (D := { D with nx := u D }) fr h k
end
theorem go_ifS {b : Bool} {t1 t2 : TS} (f : Fr S H) (h : EvB tt σ (offS S H) b) (k1 : b = true → ∀ H', Same H H' → Fr S H' → t1 { D with nx := u D } σ H') (k2 : b = false → ∀ H', Same H H' → Fr S H' → t2 { D with nx := u D } σ H') : tSeq (tIfS tt t1 t2) u D σ H := go_if (D := { D with nx := u D }) f h k1 k2
/-! data compared -/
mutual
def nd : PyData → Bool
  | .list ds => ndA ds
  | .tuple ds => ndA ds
  | .dict _ => false
  | _ => true
def ndA : List PyData → Bool
  | [] => true
  | d :: ds => nd d && ndA ds
end
mutual
theorem Rp.dp {H : Hp} : ∀ {d : PyData} {v : V}, nd d = true → Rp H v d → Dp K H v d
  | _, _, _, .non => .non
  | _, _, _, .bl b => .bl b
  | _, _, _, .int i => .int i
  | _, _, _, .str x => .str x
  | _, _, h, .lst h1 r => .lst (.inl (.inl h1)) (RpA.dp (by simpa [nd] using h) r)
  | _, _, h, .tup h1 r => .tup (.inl (.inl h1)) (RpA.dp (by simpa [nd] using h) r)
  | _, _, h, .dic h1 => by simp [nd] at h
theorem RpA.dp {H : Hp} : ∀ {ds : List PyData} {vs : List V}, ndA ds = true → RpA H vs ds → DpAll K H vs ds
  | _, _, _, .nil => .nil
  | _, _, h, .cons h1 r => by
    have h2 := h
    simp only [ndA, Bool.and_eq_true] at h2
    exact .cons (Rp.dp h2.1 h1) (RpA.dp h2.2 r)
end
def eqOk (d : PyData) : Bool := nd d && SeqAt.shaped d
theorem e_eqD {F : Hp} (ha : EvD ta σ F d) (hb : EvD tb σ F e) (h1 : eqOk d = true) (h2 : eqOk e = true) : EvD (tOp (rEqD K) ta tb) σ F (.bool (PyData.eqv d e)) := e_op ha hb fun S H x y f rx ry Q q => by
  unfold eqOk at h1 h2
  rw [Bool.and_eq_true] at h1 h2
  exact ⟨d, e, Rp.dp h1.1 (rx.mono offS_same), Rp.dp h2.1 (ry.mono offS_same), h1.2, h2.2, q _ H (Same.refl _) (.bl _)⟩
theorem e_neD {F : Hp} (ha : EvD ta σ F d) (hb : EvD tb σ F e) (h1 : eqOk d = true) (h2 : eqOk e = true) : EvD (tOp (rNeD K) ta tb) σ F (.bool (!PyData.eqv d e)) := e_op ha hb fun S H x y f rx ry Q q => by
  unfold eqOk at h1 h2
  rw [Bool.and_eq_true] at h1 h2
  exact ⟨d, e, Rp.dp h1.1 (rx.mono offS_same), Rp.dp h2.1 (ry.mono offS_same), h1.2, h2.2, q _ H (Same.refl _) (.bl _)⟩
/-! texts -/
theorem e_joinL {F : Hp} {x : PySem.Str} (ha : EvD ta σ F (.str x)) (hb : EvD tb σ F (.list ds)) (hs : ∀ d ∈ ds, ∃ y, d = .str y) (hl : ((ds.map strD).map (·.length)).sum + (ds.map strD).length * x.length ≤ 16777216) :
    EvD (tM1 (rJoinQ K) ta tb) σ F (.str (Txt.join x (ds.map strD))) := fun S H1 f s Q q =>
  ha S H1 f s _ fun v H2 s2 r2 => by
    cases r2
    refine ⟨⟨_, rfl⟩, hb S H2 (f.mono s2) (s.trans (offS_mono s2)) _ fun w H3 s3 r3 => ?_⟩
    obtain ⟨a, xs, rfl, h1, r1⟩ := rp_lst r3
    rw [of_strs hs] at r1
    rw [strs_rp r1] at h1
    exact ⟨x, a, _, rfl, rfl, .inl (.inl (.inl h1)), hl, q _ H3 (s2.trans s3) (.str _)⟩
end
end Ca

set_option maxHeartbeats 4000000
namespace Ca
open PySem PySem.Spec PyProof.Rows L2
section
variable {X : Cx} {K : PySem.W.Frag} {tg e o : Expr} {t to te : TE} {apos pos : Pos}
theorem pi_listQ (hK : X.K = K) (h : PE X e t) : PI X tg e (iList K t) := hK ▸ pi_list h
theorem pi_tupQ (hK : X.K = K) (h : PE X e t) : PI X tg e (iTup K t) := hK ▸ pi_tup h
theorem pe_joinQ (hK : X.K = K) (ho : PE X o to) (he : PE X e te) (hs : starEach [e] X.env = [(false, eval e X.env)] := by rfl) (hbase : attributeBase o "join" X.env (eval o X.env) = eval o X.env := by rfl) (hline : (apos.endLine == pos.line) = true := by rfl) :
    PE X (.Call (.Attribute o "join" apos) [e] [] pos) (tM1 (rJoinQ K) to te) := hK ▸ pe_join ho he hs hbase hline
end
/-! data that may be compared -/
structure Cq (k : Nat) (d : PyData) : Prop where
  n : nd d = true
  c : d.canLay0 = true
  p : d.depth ≤ k
theorem Cq.ok {k : Nat} {d : PyData} (h : Cq k d) (hk : k ≤ 64 := by decide) : eqOk d = true := by
  unfold eqOk SeqAt.shaped
  rw [h.n, h.c, decide_eq_true (Nat.le_trans h.p hk)]
  rfl
theorem Cq.mono {k m : Nat} {d : PyData} (h : Cq k d) (hk : k ≤ m) : Cq m d := ⟨h.n, h.c, Nat.le_trans h.p hk⟩
theorem cq_all {k : Nat} : ∀ {ds : List PyData}, (∀ d ∈ ds, Cq k d) → ndA ds = true ∧ PyData.canLayAll0 ds = true ∧ PyData.depthAll ds ≤ k
  | [], _ => ⟨rfl, rfl, Nat.zero_le _⟩
  | d :: ds, h => by
    obtain ⟨h1, h2, h3⟩ := cq_all fun e he => h e (.tail _ he)
    have z := h d (.head _)
    refine ⟨?_, ?_, ?_⟩
    · unfold ndA
      rw [z.n, h1]
      rfl
    · unfold PyData.canLayAll0
      rw [z.c, h2]
      rfl
    · unfold PyData.depthAll
      exact Nat.max_le.mpr ⟨z.p, h3⟩
theorem cq_lst {k : Nat} {ds : List PyData} (h : ∀ d ∈ ds, Cq k d) : Cq (k + 1) (.list ds) := by
  obtain ⟨h1, h2, h3⟩ := cq_all h
  refine ⟨by unfold nd; exact h1, by unfold PyData.canLay0; exact h2, by unfold PyData.depth; omega⟩
theorem cq_tup {k : Nat} {ds : List PyData} (h : ∀ d ∈ ds, Cq k d) : Cq (k + 1) (.tuple ds) := by
  obtain ⟨h1, h2, h3⟩ := cq_all h
  refine ⟨by unfold nd; exact h1, by unfold PyData.canLay0; exact h2, by unfold PyData.depth; omega⟩
theorem cq_int {k : Nat} (i : Int) : Cq k (.int i) := ⟨by simp [nd], by simp [PyData.canLay0], by simp [PyData.depth]⟩
theorem cq_bool {k : Nat} (b : Bool) : Cq k (.bool b) := ⟨by simp [nd], by simp [PyData.canLay0], by simp [PyData.depth]⟩
theorem cq_none {k : Nat} : Cq k .none := ⟨by simp [nd], by simp [PyData.canLay0], by simp [PyData.depth]⟩
theorem eqv_nil (ds : List PyData) : PyData.eqv (.list ds) (.list []) = ds.isEmpty := by
  cases ds with
  | nil => simp [PyData.eqv, PyData.eqvAll]
  | cons d ds => simp [PyData.eqv, PyData.eqvAll]
section
variable {K : PySem.W.Frag} {S : Addr → Bool} {H : Hp} {σ : L2.St} {x : V} {Q : L2.St → Hp → Prop} {i j k l : Nat} {d1 d2 d3 d4 : PyData}
theorem gg_tup2 (f : Fr S H) (r : Rp (offS S H) x (.tuple [d1, d2])) (h : ∀ v1 v2, Rp (offS S H) v1 d1 → Rp (offS S H) v2 d2 → Q ((σ.set i (some v1)).set j (some v2)) H) :
    gTup K 2 (gCons (gName i) (gCons (gName j) gNil)) x σ H Q := g_tup2 (C := fun σ2 => Q σ2 H) r h S H f (Same.refl _) Q fun _ c => c
theorem gg_tup3 (f : Fr S H) (r : Rp (offS S H) x (.tuple [d1, d2, d3])) (h : ∀ v1 v2 v3, Rp (offS S H) v1 d1 → Rp (offS S H) v2 d2 → Rp (offS S H) v3 d3 → Q (((σ.set i (some v1)).set j (some v2)).set k (some v3)) H) :
    gTup K 3 (gCons (gName i) (gCons (gName j) (gCons (gName k) gNil))) x σ H Q := g_tup3 (C := fun σ2 => Q σ2 H) r h S H f (Same.refl _) Q fun _ c => c
theorem gg_tup4 (f : Fr S H) (r : Rp (offS S H) x (.tuple [d1, d2, d3, d4])) (h : ∀ v1 v2 v3 v4, Rp (offS S H) v1 d1 → Rp (offS S H) v2 d2 → Rp (offS S H) v3 d3 → Rp (offS S H) v4 d4 → Q ((((σ.set i (some v1)).set j (some v2)).set k (some v3)).set l (some v4)) H) :
    gTup K 4 (gCons (gName i) (gCons (gName j) (gCons (gName k) (gCons (gName l) gNil)))) x σ H Q := g_tup4 (C := fun σ2 => Q σ2 H) r h S H f (Same.refl _) Q fun _ c => c
end
theorem filter_yes {α : Type} (as : List α) : as.filter (fun _ => true) = as := List.filter_eq_self.mpr fun _ _ => rfl
end Ca

set_option maxHeartbeats 4000000
namespace Ca
open PySem PySem.Spec PyProof.Rows L2
/-- J goes over what reads as es, at the facts F -/
def Iter (J : It) (F : Hp) (es : List PyData) : Prop := ∀ (S : Addr → Bool) (H : Hp) (i : Nat), Fr S H → Same F (offS S H) →
  (i < es.length → J.go i H ∧ ∀ x H', J.yld i H x H' → Same H H' ∧ ∃ d, es[i]? = some d ∧ Rp (offS S H') x d) ∧ (es.length ≤ i → J.stop i H)
/-- what is gone over reads as es -/
def ItP (wi : TI) (σ : L2.St) (F : Hp) (es : List PyData) : Prop := ∀ (S : Addr → Bool) (H1 : Hp), Fr S H1 → Same F (offS S H1) → ∀ R : It → Hp → Prop, (∀ J H2, Same H1 H2 → Iter J (offS S H2) es → R J H2) → wi σ H1 R
section
variable {K : PySem.W.Frag} {σ : L2.St} {F : Hp} {ta te tl : TE} {tas : TA} {tt tt1 : TT} {ds es : List PyData}
theorem it_list (h : EvD tl σ F (.list ds)) : ItP (iList K tl) σ F ds := fun S H1 f s R r => h S H1 f s _ fun v H2 s2 rv => by
  cases rv with
  | @lst a xs _ ha rx =>
    refine ⟨a, rfl, ⟨xs, .inl (.inl (offS_same _ _ ha))⟩, r _ H2 s2 fun S' H' i f' s' => ⟨fun hi => ?_, fun hi => ⟨xs, .inl (.inl (offS_same _ _ (s' _ _ ha))), by rw [rx.length]; exact hi⟩⟩⟩
    have q := offS_same _ _ (s' _ _ ha)
    have hx : i < xs.length := by rw [rx.length]; exact hi
    refine ⟨⟨xs, xs[i], .inl (.inl q), by simp [hx]⟩, fun x H'' y => ?_⟩
    obtain ⟨rfl, y⟩ := y
    obtain ⟨d, hd, rd⟩ := rx.get (y xs (.inl (.inl q)))
    exact ⟨Same.refl _, d, hd, rd.mono s'⟩
theorem it_tup (h : EvD tl σ F (.tuple ds)) : ItP (iTup K tl) σ F ds := fun S H1 f s R r => h S H1 f s _ fun v H2 s2 rv => by
  cases rv with
  | @tup a xs _ ha rx =>
    refine ⟨a, rfl, ⟨xs, .inl (.inl (offS_same _ _ ha))⟩, r _ H2 s2 fun S' H' i f' s' => ⟨fun hi => ?_, fun hi => ⟨xs, .inl (.inl (offS_same _ _ (s' _ _ ha))), by rw [rx.length]; exact hi⟩⟩⟩
    have q := offS_same _ _ (s' _ _ ha)
    have hx : i < xs.length := by rw [rx.length]; exact hi
    refine ⟨⟨xs, xs[i], .inl (.inl q), by simp [hx]⟩, fun x H'' y => ?_⟩
    obtain ⟨rfl, y⟩ := y
    obtain ⟨d, hd, rd⟩ := rx.get (y xs (.inl (.inl q)))
    exact ⟨Same.refl _, d, hd, rd.mono s'⟩
theorem it_rng {n : Nat} (h : EvA tas σ F [.int (n : Int)]) (hz : n < 2 ^ 62) : ItP (iRng1 tas) σ F ((List.range n).map fun i : Nat => .int (i : Int)) := fun S H1 f s R r => h S H1 f s _ fun vs H2 s2 rv => by
  obtain ⟨v1, rfl, r1⟩ := rpa1 rv
  cases r1
  have en : ((n : Nat) : Int).toNat = n := by omega
  refine ⟨_, rfl, by omega, by omega, r _ H2 s2 fun S' H' i f' s' => ⟨fun hi => ?_, fun hi => ?_⟩⟩
  · rw [List.length_map, List.length_range] at hi
    refine ⟨?_, fun x H'' y => ?_⟩
    · show i < ((n : Nat) : Int).toNat
      omega
    · obtain ⟨rfl, rfl⟩ := y
      refine ⟨Same.refl _, .int (i : Int), ?_, ?_⟩
      · rw [List.getElem?_map, List.getElem?_range hi]
        rfl
      · have e0 : (0 : Int) + (i : Int) = (i : Int) := by omega
        rw [e0]
        exact .int _
  · rw [List.length_map, List.length_range] at hi
    show ((n : Nat) : Int).toNat ≤ i
    omega
section
variable {α β : Type} {enc : α → PyData} {as : List α} {b : α → Bool} {ev : α → PyData} {g g1 : TG} {vs us : List Nat} {wi wj : TI}
/-- one for -/
theorem e_lcG (hi : ItP wi σ F (as.map enc)) (hz : as.length ≤ 1000) (ht : ∀ a ∈ as, Turn g tt te σ vs F (enc a) (b a) (ev a)) :
    EvD (tLc wi g tt te vs) σ F (.list ((as.filter b).map ev)) := fun S H1 f s Q q => hi S H1 f s _ fun J H2 s2 it D hD => by
  have f2 := f.mono s2
  have sF := s.trans (offS_mono (S := S) s2)
  refine ⟨fun i m H' => m = as.length - i ∧ i ≤ as.length ∧ LInv S H2 D as b ev i H', ⟨as.length, by simp, Nat.zero_le _, same_new hD, [], upd_same, .nil⟩, ?_⟩
  rintro i m H' ⟨rfl, hi, inv⟩
  have f3 : Fr S H' := f2.mono inv.1
  have jt := it S H' i f3 (offS_mono inv.1)
  rw [List.length_map] at jt
  by_cases hlt : i < as.length
  · obtain ⟨go, yl⟩ := jt.1 hlt
    refine .inr ⟨go, LInv S H2 D as b ev (i + 1), fun H'' p' => ⟨as.length - (i + 1), by omega, rfl, hlt, p'⟩, fun x H'' y => ?_⟩
    have ha : as[i]? = some as[i] := List.getElem?_eq_getElem hlt
    -- read the item off the list's own place
    obtain ⟨s3, acc, hacc, ra⟩ := inv
    have f4 : Fr (addS S D) H' := f3.add hacc trivial
    have hDo : offS S H2 D = none := by
      unfold offS
      split
      · rfl
      · exact hD
    have s1 : Same (offS S H2) (offS (addS S D) H') := addS_new hDo (offS_mono s3)
    have jt2 := it (addS S D) H' i f4 s1
    rw [List.length_map] at jt2
    obtain ⟨s5, d, hd, rx⟩ := (jt2.1 hlt).2 x H'' y
    rw [List.getElem?_map, ha] at hd
    cases hd
    have f5 := f4.mono s5
    have e1 : as.take (i + 1) = as.take i ++ [as[i]] := take_more ha
    refine ht as[i] (List.getElem_mem hlt) x (offS (addS S D) H'') ((sF.trans s1).trans (offS_mono s5)) rx (addS S D) H'' f5 (Same.refl _) _ fun σ2 ⟨w, hb, he⟩ => ⟨w, hb (addS S D) H'' f5 (Same.refl _) _ fun H3 s6 => ?_⟩
    have hacc3 := (s5.trans s6) _ _ hacc
    cases hb2 : b as[i] with
    | false =>
      refine ⟨s3.trans (s5.trans s6), acc, hacc3, ?_⟩
      rw [e1, List.filter_append, List.map_append]
      have : [as[i]].filter b = [] := by simp [hb2]
      rw [this, List.map_nil, List.append_nil]
      exact ra.mono (offS_mono (s5.trans s6))
    | true =>
      refine he hb2 (addS S D) H3 (f5.mono s6) (offS_mono s6) _ fun y H4 s7 r4 => ⟨acc, s7 _ _ hacc3, ?_, same_mut (s3.trans (s5.trans (s6.trans s7))) hD, _, upd_same, ?_⟩
      · have l1 := ra.length
        rw [List.length_map] at l1
        have l2 := List.length_filter_le b (as.take i)
        have l3 : (as.take i).length ≤ 1000 := by rw [List.length_take]; omega
        exact small1000 (by omega)
      · rw [e1, List.filter_append, List.map_append]
        have : [as[i]].filter b = [as[i]] := by simp [hb2]
        rw [this]
        exact ((ra.mono (offS_mono (s5.trans (s6.trans s7)))).mono addS_upd).append (.cons (r4.mono addS_upd) .nil)
  · exact .inl ⟨jt.2 (by omega), q _ _ (s2.trans inv.1) (l_fin f2 hD (by omega) inv)⟩
theorem go_forTS {S : Addr → Bool} {H : Hp} {D : L2.Ends} {t u : TS} {tl : TE} (fr : Fr S H) (h : EvD tl σ (offS S H) (.tuple (as.map enc))) (k : ∀ H1, Same H H1 → Fr S H1 → ∃ Pv : Nat → L2.St → Hp → Prop, Pv 0 σ H1 ∧
    (∀ i σ' H', Pv i σ' H' → Fr S H' ∧ Same (offS S H1) (offS S H')) ∧
    (∀ i a x σ' H', as[i]? = some a → Rp (offS S H') x (enc a) → Pv i σ' H' → g x σ' H' fun σ2 H2 => t { D with nx := Pv (i + 1), ct := Pv (i + 1), bk := u D } σ2 H2) ∧
    (∀ σ' H', Pv as.length σ' H' → u D σ' H')) : tSeq (tFor (iTup K tl) g t) u D σ H := go_forT (D := { D with nx := u D }) fr h k
/-- what is made so far -/
abbrev AccIs (S : Addr → Bool) (H0 : Hp) (D : Addr) (l : List PyData) (H' : Hp) : Prop := Same H0 H' ∧ ∃ acc, H' D = some (.lst acc) ∧ RpA (offS (addS S D) H') acc l
/-- two fors: the second one's items by the first one's -/
theorem e_lc2G {bs : α → List β} {enc1 : β → PyData} {c : α → β → Bool} {ev2 : α → β → PyData} (hi : ItP wi σ F (as.map enc)) (hz : (as.flatMap fun a => ((bs a).filter (c a)).map (ev2 a)).length ≤ 1000)
    (ht : ∀ a ∈ as, ∀ x F1, Same F F1 → Rp F1 x (enc a) → GtP g x (wipe σ vs) F1 fun σ2 => wipe σ2 vs = wipe σ vs ∧ EvB tt σ2 F1 true ∧ ItP wj σ2 F1 ((bs a).map enc1) ∧
      ∀ e ∈ bs a, ∀ y F2, Same F1 F2 → Rp F2 y (enc1 e) → GtP g1 y (wipe σ2 us) F2 fun σ3 => wipe σ3 us = wipe σ2 us ∧ EvB tt1 σ3 F2 (c a e) ∧ (c a e = true → EvD te σ3 F2 (ev2 a e))) :
    EvD (tLc2 wi g tt wj g1 tt1 te vs us) σ F (.list (as.flatMap fun a => ((bs a).filter (c a)).map (ev2 a))) := fun S H1 f s Q q => hi S H1 f s _ fun J H2 s2 it D hD => by
  have f2 := f.mono s2
  have sF := s.trans (offS_mono (S := S) s2)
  have hDo : offS S H2 D = none := by
    unfold offS
    split
    · rfl
    · exact hD
  have small : ∀ {l l2 : List PyData} {acc : List V} {H : Hp}, RpA H acc l → l.length < (l ++ l2).length → (l ++ l2).length ≤ 1000 → acc.length < sizeLine := fun {l l2 acc H} r h1 h2 => by
    have := r.length
    exact small1000 (by omega)
  let G : α → List PyData := fun a => ((bs a).filter (c a)).map (ev2 a)
  refine ⟨fun i m H' => m = as.length - i ∧ i ≤ as.length ∧ AccIs S H2 D ((as.take i).flatMap G) H', ⟨as.length, by simp, Nat.zero_le _, same_new hD, [], upd_same, .nil⟩, ?_⟩
  rintro i m H' ⟨rfl, hi, inv⟩
  have f3 : Fr S H' := f2.mono inv.1
  have jt := it S H' i f3 (offS_mono inv.1)
  rw [List.length_map] at jt
  by_cases hlt : i < as.length
  · obtain ⟨go, yl⟩ := jt.1 hlt
    refine .inr ⟨go, AccIs S H2 D ((as.take (i + 1)).flatMap G), fun H'' p' => ⟨as.length - (i + 1), by omega, rfl, hlt, p'⟩, fun x H'' y => ?_⟩
    have ha : as[i]? = some as[i] := List.getElem?_eq_getElem hlt
    obtain ⟨s3, acc, hacc, ra⟩ := inv
    have f4 : Fr (addS S D) H' := f3.add hacc trivial
    have s1 : Same (offS S H2) (offS (addS S D) H') := addS_new hDo (offS_mono s3)
    have jt2 := it (addS S D) H' i f4 s1
    rw [List.length_map] at jt2
    obtain ⟨s5, d, hd, rx⟩ := (jt2.1 hlt).2 x H'' y
    rw [List.getElem?_map, ha] at hd
    cases hd
    generalize hA : as[i] = a at rx
    have ham : a ∈ as := by rw [← hA]; exact List.getElem_mem hlt
    have f5 := f4.mono s5
    have e1 : (as.take (i + 1)).flatMap G = (as.take i).flatMap G ++ G a := by
      rw [take_more ha, List.flatMap_append, hA]
      simp
    have whole : ((as.take i).flatMap G ++ G a).length ≤ 1000 := by
      refine Nat.le_trans ?_ hz
      rw [← e1]
      have e2 : as = as.take (i + 1) ++ as.drop (i + 1) := (List.take_append_drop _ _).symm
      conv => rhs; rw [e2]
      rw [List.flatMap_append, List.length_append]
      exact Nat.le_add_right _ _
    refine ht a ham x (offS (addS S D) H'') ((sF.trans s1).trans (offS_mono s5)) rx (addS S D) H'' f5 (Same.refl _) _ fun σ2 ⟨w, hb, hj, he⟩ => ⟨w, hb (addS S D) H'' f5 (Same.refl _) _ fun H3 s6 => ?_⟩
    refine hj (addS S D) H3 (f5.mono s6) (offS_mono s6) _ fun J1 H4 s7 it1 => ?_
    have hacc4 := (s5.trans (s6.trans s7)) _ _ hacc
    have ra4 := ra.mono (offS_mono (S := addS S D) (s5.trans (s6.trans s7)))
    have f6 : Fr (addS S D) H4 := f5.mono (s6.trans s7)
    refine ⟨fun j k H' => k = (bs a).length - j ∧ j ≤ (bs a).length ∧ Same H2 H' ∧ Same (offS (addS S D) H4) (offS (addS S D) H') ∧ ∃ acc, H' D = some (.lst acc) ∧ RpA (offS (addS S D) H') acc ((as.take i).flatMap G ++ (((bs a).take j).filter (c a)).map (ev2 a)),
      ⟨(bs a).length, by simp, Nat.zero_le _, s3.trans (s5.trans (s6.trans s7)), Same.refl _, acc, hacc4, by simpa using ra4⟩, ?_⟩
    rintro j k H7 ⟨rfl, hj2, s8, s9, acc2, hacc2, ra2⟩
    have f7 : Fr (addS S D) H7 := (f2.mono s8).add hacc2 trivial
    have jt3 := it1 (addS S D) H7 j f7 s9
    rw [List.length_map] at jt3
    by_cases hjl : j < (bs a).length
    · obtain ⟨go1, yl1⟩ := jt3.1 hjl
      have hbj : (bs a)[j]? = some (bs a)[j] := List.getElem?_eq_getElem hjl
      refine .inr ⟨go1, fun H' => Same H2 H' ∧ Same (offS (addS S D) H4) (offS (addS S D) H') ∧ ∃ acc, H' D = some (.lst acc) ∧ RpA (offS (addS S D) H') acc ((as.take i).flatMap G ++ (((bs a).take (j + 1)).filter (c a)).map (ev2 a)), fun H'' p' => ⟨(bs a).length - (j + 1), by omega, rfl, hjl, p'⟩, fun y H8 yy => ?_⟩
      obtain ⟨s10, d, hd, ry⟩ := yl1 y H8 yy
      rw [List.getElem?_map, hbj] at hd
      cases hd
      have f8 := f7.mono s10
      have e3 : (bs a).take (j + 1) = (bs a).take j ++ [(bs a)[j]] := take_more hbj
      refine he _ (List.getElem_mem hjl) y (offS (addS S D) H8) ((offS_mono (s6.trans s7)).trans (s9.trans (offS_mono s10))) ry (addS S D) H8 f8 (Same.refl _) _ fun σ3 ⟨w3, hb3, he3⟩ => ⟨w3, hb3 (addS S D) H8 f8 (Same.refl _) _ fun H9 s11 => ?_⟩
      have hacc9 := (s10.trans s11) _ _ hacc2
      have ra9 := ra2.mono (offS_mono (S := addS S D) (s10.trans s11))
      have sn : Same (offS (addS S D) H4) (offS (addS S D) H9) := s9.trans (offS_mono (s10.trans s11))
      cases hc : c a (bs a)[j] with
      | false =>
        refine ⟨s8.trans (s10.trans s11), sn, acc2, hacc9, ?_⟩
        rw [e3, List.filter_append]
        have : [(bs a)[j]].filter (c a) = [] := by simp [hc]
        rw [this, List.append_nil]
        exact ra9
      | true =>
        have grow : (((bs a).take (j + 1)).filter (c a)).map (ev2 a) = (((bs a).take j).filter (c a)).map (ev2 a) ++ [ev2 a (bs a)[j]] := by
          rw [e3, List.filter_append, List.map_append]
          have : [(bs a)[j]].filter (c a) = [(bs a)[j]] := by simp [hc]
          rw [this]
          rfl
        refine he3 hc (addS S D) H9 (f8.mono s11) (offS_mono s11) _ fun y H10 s12 r10 => ⟨acc2, s12 _ _ hacc9, ?_, same_mut (s8.trans (s10.trans (s11.trans s12))) hD, (sn.trans (offS_mono s12)).trans addS_upd, _, upd_same, ?_⟩
        · have l1 := ra2.length
          have l2 : ((((bs a).take j).filter (c a)).map (ev2 a)).length ≤ (G a).length := by
            show _ ≤ (((bs a).filter (c a)).map (ev2 a)).length
            rw [List.length_map, List.length_map]
            have e4 : bs a = (bs a).take j ++ (bs a).drop j := (List.take_append_drop _ _).symm
            conv => rhs; rw [e4]
            rw [List.filter_append, List.length_append]
            omega
          rw [List.length_append] at l1 whole
          exact small1000 (by omega)
        · rw [grow, ← List.append_assoc]
          exact ((ra9.mono (offS_mono s12)).mono addS_upd).append (.cons (r10.mono addS_upd) .nil)
    · refine .inl ⟨jt3.2 (by omega), s8, acc2, hacc2, ?_⟩
      have ej : j = (bs a).length := by omega
      rw [ej, List.take_length] at ra2
      rw [e1]
      exact ra2
  · refine .inl ⟨jt.2 (by omega), q _ _ (s2.trans inv.1) ?_⟩
    obtain ⟨s3, acc, hacc, ra⟩ := inv
    have ei : i = as.length := by omega
    rw [ei, List.take_length] at ra
    exact .lst (by rw [offS_at (f2.new hD)]; exact hacc) (ra.mono addS_off)
end
end
end Ca

set_option maxHeartbeats 4000000
namespace Ca
open PySem PySem.Spec PyProof.Rows L2
def enD : Nat → List PyData → List PyData
  | _, [] => []
  | n, d :: ds => .tuple [.int (n : Int), d] :: enD (n + 1) ds
theorem enD_len : ∀ (ds : List PyData) (n : Nat), (enD n ds).length = ds.length
  | [], _ => rfl
  | d :: ds, n => by
    show (enD (n + 1) ds).length + 1 = _
    rw [enD_len ds, List.length_cons]
theorem enD_get : ∀ (ds : List PyData) (n i : Nat) {d : PyData}, ds[i]? = some d → (enD n ds)[i]? = some (.tuple [.int ((n + i : Nat) : Int), d])
  | [], _, _, _, h => by simp at h
  | e :: ds, n, 0, d, h => by
    cases (show some e = some d from h)
    rfl
  | e :: ds, n, i + 1, d, h => by
    have := enD_get ds (n + 1) i (d := d) (by simpa using h)
    show (enD (n + 1) ds)[i]? = _
    rw [this]
    congr 4
    omega
section
variable {K : PySem.W.Frag} {σ : L2.St} {F : Hp} {ta te tl : TE} {tas : TA} {ds : List PyData}
theorem it_enum (h : EvA tas σ F [.list ds]) : ItP (iEnum K tas) σ F (enD 0 ds) := fun S H1 f s R r => h S H1 f s _ fun vs H2 s2 rv => by
  obtain ⟨v1, rfl, r1⟩ := rpa1 rv
  cases r1 with
  | @lst a xs _ ha rx =>
    refine ⟨a, xs, rfl, .inl (.inl (offS_same _ _ ha)), r _ H2 s2 fun S' H' i f' s' => ⟨fun hi => ?_, fun hi => ⟨xs, .inl (.inl (offS_same _ _ (s' _ _ ha))), by rw [rx.length]; rw [enD_len] at hi; exact hi⟩⟩⟩
    rw [enD_len] at hi
    have q := offS_same _ _ (s' _ _ ha)
    have hx : i < xs.length := by rw [rx.length]; exact hi
    refine ⟨⟨xs, xs[i], .inl (.inl q), by simp [hx]⟩, fun x H'' y => ?_⟩
    obtain ⟨T, x1, rfl, hT, rfl, y⟩ := y
    obtain ⟨d, hd, rd⟩ := rx.get (y xs (.inl (.inl q)))
    have := enD_get ds 0 i hd
    rw [Nat.zero_add] at this
    refine ⟨same_new hT, _, this, .tup ?_ (.cons (.int _) (.cons ((rd.mono s').mono (offS_mono (same_new hT))) .nil))⟩
    rw [offS_at (f'.new hT), upd_same]
section
variable {α : Type} {enc : α → PyData} {as : List α} {g : TG} {S : Addr → Bool} {H : Hp} {D : L2.Ends} {t u : TS} {wi : TI}
theorem go_forG (fr : Fr S H) (h : ItP wi σ (offS S H) (as.map enc)) (k : ∀ H1, Same H H1 → Fr S H1 → ∃ Pv : Nat → L2.St → Hp → Prop, Pv 0 σ H1 ∧
    (∀ i σ' H', Pv i σ' H' → Fr S H' ∧ Same (offS S H1) (offS S H')) ∧
    (∀ i a x σ' H' H'', as[i]? = some a → Pv i σ' H' → Same H' H'' → Rp (offS S H'') x (enc a) → g x σ' H'' fun σ2 H2 => t { D with nx := Pv (i + 1), ct := Pv (i + 1), bk := D.nx } σ2 H2) ∧
    (∀ σ' H', Pv as.length σ' H' → D.nx σ' H')) : tFor wi g t D σ H := h S H fr (Same.refl _) _ fun J H1 s1 it => by
  obtain ⟨Pv, p0, pk, ps, pd⟩ := k H1 s1 (fr.mono s1)
  refine ⟨fun i m σ' H' => m = as.length - i ∧ i ≤ as.length ∧ Pv i σ' H', ⟨as.length, by simp, Nat.zero_le _, p0⟩, ?_⟩
  rintro i m σ' H' ⟨rfl, hi, p⟩
  obtain ⟨f', s'⟩ := pk i σ' H' p
  have jt := it S H' i f' s'
  rw [List.length_map] at jt
  by_cases hlt : i < as.length
  · obtain ⟨go, yl⟩ := jt.1 hlt
    refine .inr ⟨go, Pv (i + 1), fun σ2 H2 p' => ⟨as.length - (i + 1), by omega, rfl, hlt, p'⟩, fun x H'' y => ?_⟩
    obtain ⟨s2, d, hd, rx⟩ := yl x H'' y
    have ha : as[i]? = some as[i] := List.getElem?_eq_getElem hlt
    rw [List.getElem?_map, ha] at hd
    cases hd
    exact ps i as[i] x σ' H' H'' ha p s2 rx
  · have e : i = as.length := by omega
    subst e
    exact .inl ⟨jt.2 (Nat.le_refl _), pd σ' H' p⟩
theorem go_forGS (fr : Fr S H) (h : ItP wi σ (offS S H) (as.map enc)) (k : ∀ H1, Same H H1 → Fr S H1 → ∃ Pv : Nat → L2.St → Hp → Prop, Pv 0 σ H1 ∧
    (∀ i σ' H', Pv i σ' H' → Fr S H' ∧ Same (offS S H1) (offS S H')) ∧
    (∀ i a x σ' H' H'', as[i]? = some a → Pv i σ' H' → Same H' H'' → Rp (offS S H'') x (enc a) → g x σ' H'' fun σ2 H2 => t { D with nx := Pv (i + 1), ct := Pv (i + 1), bk := u D } σ2 H2) ∧
    (∀ σ' H', Pv as.length σ' H' → u D σ' H')) : tSeq (tFor wi g t) u D σ H := go_forG (D := { D with nx := u D }) fr h k
end
/-! sorted of data -/
def srtD (ds : List PyData) : List PyData := ds.mergeSort (PySem.W.dataLe false id)
theorem zipV {H : Hp} : ∀ {xs : List V} {ds : List PyData}, RpA H xs ds → ∃ bs : List (V × PyData), bs.map Prod.fst = xs ∧ bs.map Prod.snd = ds ∧ ∀ b ∈ bs, Rp H b.1 b.2
  | _, _, .nil => ⟨[], rfl, rfl, fun b h => by cases h⟩
  | _, _, .cons (v := v) (d := d) h r => by
    obtain ⟨bs, e1, e2, e3⟩ := zipV r
    refine ⟨(v, d) :: bs, by rw [List.map_cons, e1], by rw [List.map_cons, e2], fun b hb => ?_⟩
    rcases List.mem_cons.mp hb with z | z
    · rw [z]
      exact h
    · exact e3 b z
theorem unzipV {H : Hp} : ∀ {bs : List (V × PyData)}, (∀ b ∈ bs, Rp H b.1 b.2) → RpA H (bs.map Prod.fst) (bs.map Prod.snd)
  | [], _ => .nil
  | b :: bs, h => .cons (h b (.head _)) (unzipV fun c hc => h c (.tail _ hc))
theorem srt_snd (bs : List (V × PyData)) : (sortD bs).map Prod.snd = srtD (bs.map Prod.snd) := PySem.W.sort_maps Prod.snd fun a _ b _ => rfl
theorem e_sortD (h : EvD ta σ F (.list ds)) (hal : PySem.W.AllAlike ds) (hso : PySem.W.Sortable ds) (hdp : ∀ d ∈ ds, d.depth ≤ 60) (hl : ds.length ≤ 1000) : EvD (tCB rSortD (tCons ta tNil)) σ F (.list (srtD ds)) := fun S H1 f s Q q =>
  h S H1 f s _ fun v H2 s2 r => by
    cases r with
    | @lst a xs _ ha rx =>
      obtain ⟨bs, rfl, rfl, rb⟩ := zipV rx
      rw [List.length_map] at hl
      refine ⟨a, bs, rfl, .inl (offS_same _ _ ha), fun b hb => (rb b hb).mono offS_same, hal, hso, fun b hb => hdp _ (List.mem_map.mpr ⟨b, hb, rfl⟩), Nat.le_of_lt (small1000 hl), fun p hp => q _ _ (s2.trans (same_new hp)) (.lst (offS_new (f.mono s2) hp) ?_)⟩
      rw [← srt_snd]
      refine RpA.mono (offS_mono (same_new hp)) (unzipV fun b hb => rb b ?_)
      unfold sortD at hb
      exact (List.mem_mergeSort.mp hb)
theorem srt_head {ds : List PyData} {d : PyData} {es : List PyData} (h : srtD ds = d :: es) : d ∈ ds ∧ ∀ e ∈ ds, PySem.W.dataLt e d = false := by
  have tot : PySem.W.TotalLe (PySem.W.dataLe false (id : PyData → PyData)) := PySem.W.sortLe_total _ _ _
  have pw := PySem.W.sort_pairwise tot ds
  have mem : ∀ e, e ∈ srtD ds ↔ e ∈ ds := fun e => List.mem_mergeSort
  refine ⟨(mem d).mp (by rw [h]; exact .head _), fun e he => ?_⟩
  have pw2 : (srtD ds).Pairwise (fun a b => PySem.W.dataLe false id a b = true) := pw
  rw [h, List.pairwise_cons] at pw2
  have le : PySem.W.dataLe false id d e = true := by
    rcases List.mem_cons.mp (by rw [← h]; exact (mem e).mpr he : e ∈ d :: es) with z | z
    · rw [z]
      exact tot.refl d
    · exact pw2.1 e z
  have : (!PySem.W.dataLt e d) = true := le
  simpa using this
end
end Ca

set_option maxHeartbeats 4000000
namespace Q
open PySem PySem.Spec PyProof.Rows L2 Ca
theorem bIsi : bootBuiltins "isinstance" = some (.builtin "isinstance") := by decide +kernel
theorem bInt : bootBuiltins "int" = some (.type "int") := by decide +kernel
theorem bBool : bootBuiltins "bool" = some (.type "bool") := by decide +kernel
theorem bStr : bootBuiltins "str" = some (.type "str") := by decide +kernel
theorem bTup : bootBuiltins "tuple" = some (.type "tuple") := by decide +kernel
theorem bLst : bootBuiltins "list" = some (.type "list") := by decide +kernel
theorem bLen : bootBuiltins "len" = some (.builtin "len") := by decide +kernel
theorem bAll : bootBuiltins "all" = some (.builtin "all") := by decide +kernel
theorem bSorted : bootBuiltins "sorted" = some (.builtin "sorted") := by decide +kernel
theorem bRepr : bootBuiltins "repr" = some (.builtin "repr") := by decide +kernel
theorem bMax : bootBuiltins "max" = some (.builtin "max") := by decide +kernel
theorem bMin : bootBuiltins "min" = some (.builtin "min") := by decide +kernel
/-! ### the text -/
def top (i : Nat) : Stmt := PySem.Challenge.pw_countalike_k62_questions_put_together.main.body.getD i (.Pass ⟨0, 0, 0, 0⟩)
abbrev FnP (K : PySem.W.Frag) (x : PySem.Str) (st : Stmt) (f : Addr) (fd : FuncData) : Prop := FunD K x x (defArgs st) (defBody st) (defScope st) [] [] f fd
abbrev FnM (K : PySem.W.Frag) (x q : PySem.Str) (st : Stmt) (f : Addr) (fd : FuncData) : Prop := FunD K x q (defArgs st) (defBody st) (defScope st) [] [] f fd
/-- the built-in names that the text does not bind, the module's constants -/
structure Tx (K : PySem.W.Frag) (mg : PySem.Str → Option Value) : Prop where
  isi : mg "isinstance" = none
  int : mg "int" = none
  bool : mg "bool" = none
  str : mg "str" = none
  tup : mg "tuple" = none
  lst : mg "list" = none
  len : mg "len" = none
  all : mg "all" = none
  sorted : mg "sorted" = none
  repr : mg "repr" = none
  max : mg "max" = none
  min : mg "min" = none
  range : mg "range" = none
  kinds : ∃ a, mg "KINDS" = some (.ref a) ∧ ∀ H : Hp, SqT K H a [.str "A", .str "B", .str "C"]
  mAtoms : ∃ t, mg "MOST_ATOMS" = some (.int 4 t)
  mVar : ∃ t, mg "MOST_VARIABLE" = some (.int 9 t)
  sm : ∃ o, K.lookup sysModules = some o
/-! ### is_number -/
abbrev s_is_number : Stmt := top 4
def isNum (d : PyData) (lo hi : Int) : Bool := match d with
  | .int i => decide (lo ≤ i) && decide (i ≤ hi)
  | _ => false
def spNum : Sp := fun vs H Q _ => ∃ v d lo hi, vs = [v, .int lo, .int hi] ∧ Rp H v d ∧ Q (.bl (isNum d lo hi)) H
theorem sc_num : FnScope ["thing", "least", "most"] ["thing", "least", "most"] (defScope s_is_number) := ⟨rfl, rfl, rfl, by decide +kernel, rfl, by decide +kernel, by decide +kernel⟩
section
variable {P : Program} {w : World} {K : PySem.W.Frag} {mg : PySem.Str → Option Value} {base : Heap}
/-- isinstance(x, T) of data -/
def isInt : PyData → Bool
  | .int _ => true
  | .bool _ => true
  | _ => false
def isBool : PyData → Bool
  | .bool _ => true
  | _ => false
def isTup : PyData → Bool
  | .tuple _ => true
  | _ => false
def isStr : PyData → Bool
  | .str _ => true
  | _ => false
theorem kInt {K : PySem.W.Frag} : ∀ d : PyData, PySem.W.kitOne K (.type (tyD d)) (.type "int") = some (isInt d)
  | .none => kit_ty (show kitB "NoneType" "int" = some false by decide +kernel)
  | .bool _ => kit_ty (show kitB "bool" "int" = some true by decide +kernel)
  | .int _ => kit_ty (show kitB "int" "int" = some true by decide +kernel)
  | .str _ => kit_ty (show kitB "str" "int" = some false by decide +kernel)
  | .list _ => kit_ty (show kitB "list" "int" = some false by decide +kernel)
  | .tuple _ => kit_ty (show kitB "tuple" "int" = some false by decide +kernel)
  | .dict _ => kit_ty (show kitB "dict" "int" = some false by decide +kernel)
theorem kBool {K : PySem.W.Frag} : ∀ d : PyData, PySem.W.kitOne K (.type (tyD d)) (.type "bool") = some (isBool d)
  | .none => kit_ty (show kitB "NoneType" "bool" = some false by decide +kernel)
  | .bool _ => kit_ty (show kitB "bool" "bool" = some true by decide +kernel)
  | .int _ => kit_ty (show kitB "int" "bool" = some false by decide +kernel)
  | .str _ => kit_ty (show kitB "str" "bool" = some false by decide +kernel)
  | .list _ => kit_ty (show kitB "list" "bool" = some false by decide +kernel)
  | .tuple _ => kit_ty (show kitB "tuple" "bool" = some false by decide +kernel)
  | .dict _ => kit_ty (show kitB "dict" "bool" = some false by decide +kernel)
theorem kTup {K : PySem.W.Frag} : ∀ d : PyData, PySem.W.kitOne K (.type (tyD d)) (.type "tuple") = some (isTup d)
  | .none => kit_ty (show kitB "NoneType" "tuple" = some false by decide +kernel)
  | .bool _ => kit_ty (show kitB "bool" "tuple" = some false by decide +kernel)
  | .int _ => kit_ty (show kitB "int" "tuple" = some false by decide +kernel)
  | .str _ => kit_ty (show kitB "str" "tuple" = some false by decide +kernel)
  | .list _ => kit_ty (show kitB "list" "tuple" = some false by decide +kernel)
  | .tuple _ => kit_ty (show kitB "tuple" "tuple" = some true by decide +kernel)
  | .dict _ => kit_ty (show kitB "dict" "tuple" = some false by decide +kernel)
theorem kStr {K : PySem.W.Frag} : ∀ d : PyData, PySem.W.kitOne K (.type (tyD d)) (.type "str") = some (isStr d)
  | .none => kit_ty (show kitB "NoneType" "str" = some false by decide +kernel)
  | .bool _ => kit_ty (show kitB "bool" "str" = some false by decide +kernel)
  | .int _ => kit_ty (show kitB "int" "str" = some false by decide +kernel)
  | .str _ => kit_ty (show kitB "str" "str" = some true by decide +kernel)
  | .list _ => kit_ty (show kitB "list" "str" = some false by decide +kernel)
  | .tuple _ => kit_ty (show kitB "tuple" "str" = some false by decide +kernel)
  | .dict _ => kit_ty (show kitB "dict" "str" = some false by decide +kernel)
theorem ok_num {f : Addr} {fd : FuncData} (F : FnP K "is_number" s_is_number f fd) (T : Tx K mg) : FnOk P w K mg base CX0 1 f fd ["thing", "least", "most"] spNum := by
  refine F.ok sc_num (fun vs H Q E h => ?_) (fun cdv A outer s H vs Q E hr h => ?_)
  · obtain ⟨v, d, lo, hi, rfl, _⟩ := h
    rfl
  · obtain ⟨v, d, lo, hi, rfl, rp, q⟩ := h
    refine ⟨_, PSs.nox (pss_one (ps_ret (pe_and (pe_callB call_isi (by rfl) T.isi bIsi (pa_cons (pv 0) (pa_cons (pe_bltn (v := .ty "int") (by rfl) T.int bInt rfl) pa_nil)))
      (pe_and (pe_not (pe_callB call_isi (by rfl) T.isi bIsi (pa_cons (pv 0) (pa_cons (pe_bltn (v := .ty "bool") (by rfl) T.bool bBool rfl) pa_nil))))
        (pe_one (pe_chain op_le op_le (pv 1) (pv 0) (pv 2))))))), ?_⟩
    refine ⟨_, rfl, _, _, _, _, _, rfl, .ty _, rp.ty, kInt d, _, rfl, ?_⟩
    cases hi1 : isInt d with
    | false =>
      refine iteF ?_
      have e : isNum d lo hi = false := by cases d <;> first | rfl | cases hi1
      rw [e] at q
      exact q
    | true =>
      refine iteT ⟨_, rfl, _, _, _, _, _, rfl, .ty _, rp.ty, kBool d, _, rfl, _, rfl, ?_⟩
      cases hb1 : isBool d with
      | true =>
        have e : isNum d lo hi = false := by cases d <;> first | rfl | cases hb1
        rw [e] at q
        exact iteF q
      | false =>
        refine iteT ?_
        cases rp with
        | int i =>
          refine ⟨_, rfl, _, rfl, lo, i, rfl, rfl, decide (lo ≤ i), rfl, ?_⟩
          by_cases c : lo ≤ i
          · have e : isNum (.int i) lo hi = decide (i ≤ hi) := by simp [isNum, c]
            rw [e] at q
            rw [decide_eq_true c]
            exact iteT ⟨_, rfl, i, hi, rfl, rfl, q⟩
          · have e : isNum (.int i) lo hi = false := by simp [isNum, c]
            rw [e] at q
            rw [decide_eq_false c]
            exact iteF q
        | bl b => cases hb1
        | _ => cases hi1
end
end Q

set_option maxHeartbeats 4000000
namespace Q
open PySem PySem.Spec PyProof.Rows L2 Ca
/-! ### is_triple -/
abbrev s_is_triple : Stmt := top 5
def kindOk (k : PySem.Str) : Bool := inV (.str k) [.str "A", .str "B", .str "C"]
def isTri (d : PyData) (m : Int) : Bool := match d with
  | .tuple [.str k, l, r] => kindOk k && (isNum l 0 m && isNum r 0 m)
  | _ => false
theorem isTri_tup {ds : List PyData} {m : Int} (h : ds.length ≠ 3) : isTri (.tuple ds) m = false := by
  match ds, h with
  | [], _ => rfl
  | [a], _ => cases a <;> rfl
  | [a, b], _ => cases a <;> rfl
  | [a, b, c], h => exact absurd rfl h
  | a :: b :: c :: e :: r, _ => cases a <;> rfl
theorem isTri_not {d : PyData} {m : Int} (h : isTup d = false) : isTri d m = false := by
  cases d <;> first | rfl | cases h
theorem isTri_kind {k l r : PyData} {m : Int} (h : isStr k = false) : isTri (.tuple [k, l, r]) m = false := by
  cases k <;> first | rfl | cases h
def spTri : Sp := fun vs H Q _ => ∃ v d m, vs = [v, .int m] ∧ Rp H v d ∧ Q (.bl (isTri d m)) H
theorem sc_tri : FnScope ["thing", "most", "kind", "left", "right"] ["thing", "most"] (defScope s_is_triple) := ⟨rfl, rfl, rfl, by decide +kernel, rfl, by decide +kernel, by decide +kernel⟩
section
variable {P : Program} {w : World} {K : PySem.W.Frag} {mg : PySem.Str → Option Value} {base : Heap}
theorem ok_tri {f fN : Addr} {fd fdN : FuncData} (F : FnP K "is_triple" s_is_triple f fd) (T : Tx K mg) (FN : FnP K "is_number" s_is_number fN fdN) (gN : mg "is_number" = some (.ref fN)) :
    FnOk P w K mg base CX0 2 f fd ["thing", "most"] spTri := by
  have GN : FnOk P w K mg base CX0 1 fN fdN ["thing", "least", "most"] spNum := ok_num FN T
  have bN : Binds K fdN ["thing", "least", "most"] [] := FN.bindsN fun _ _ _ _ _ _ us hl => match us, hl with | [_, _, _], _ => rfl
  obtain ⟨aK, gK, sK⟩ := T.kinds
  refine F.ok sc_tri (fun vs H Q E h => ?_) (fun cdv A outer s H vs Q E hr h => ?_)
  · obtain ⟨v, d, m, rfl, _⟩ := h
    rfl
  · obtain ⟨v, d, m, rfl, rp, q⟩ := h
    refine ⟨_, PSs.nox (pss_cons (ps_if (PW.pt (pw_or (pt_not (pt_val (pe_callB call_isi (by rfl) T.isi bIsi (pa_cons (pv 0) (pa_cons (pe_bltn (v := .ty "tuple") (by rfl) T.tup bTup rfl) pa_nil)))))
        (pw_or1 (pt_cmpR op_ne (pe_callB call_len_seq (by rfl) T.len bLen (pa_cons (pv 0) pa_nil)) pe_int (nomark _))))) (pss_one (ps_ret pe_bl)) pss_nil)
      (pss_cons (ps_asg (pv 0) (pg_tup (by rfl) (pgs_cons (pg_name (i := 2) sc_tri.nd rfl (.inl rfl)) (pgs_cons (pg_name (i := 3) sc_tri.nd rfl (.inl rfl)) (pgs_cons (pg_name (i := 4) sc_tri.nd rfl (.inl rfl)) pgs_nil)))))
      (pss_cons (ps_if (PW.pt (pw_or (pt_not (pt_val (pe_callB call_isi (by rfl) T.isi bIsi (pa_cons (pv 2) (pa_cons (pe_bltn (v := .ty "str") (by rfl) T.str bStr rfl) pa_nil)))))
        (pw_or1 (pt_cmpR op_notIn_seq (pv 2) (pe_glob (v := .ref aK) rfl gK rfl) (by rfl))))) (pss_one (ps_ret pe_bl)) pss_nil)
      (pss_one (ps_ret (pe_and (pe_call GN hr rfl gN FN.kp bN .nil pass0 (pa_cons (pv 3) (pa_cons pe_int (pa_cons (pv 1) pa_nil))))
        (pe_one (pe_call GN hr rfl gN FN.kp bN .nil pass0 (pa_cons (pv 4) (pa_cons pe_int (pa_cons (pv 1) pa_nil)))))))))) ), ?_⟩
    refine ⟨_, rfl, _, _, _, _, _, rfl, .ty _, rp.ty, kTup d, _, rfl, ?_⟩
    cases hT : isTup d with
    | false =>
      rw [isTri_not hT] at q
      exact iteT (iteT q)
    | true =>
      refine iteF ?_
      cases rp with
      | @tup a xs ds h r =>
        refine ⟨_, rfl, a, xs, rfl, .inr (.inl (.inl h)), rfl, _, rfl, ?_⟩
        have hl := r.length
        by_cases h3 : ds.length = 3
        · have e3 : (!decide (V.int ((xs.length : Nat) : Int) = V.int 3)) = false := by
            rw [hl, h3]
            rfl
          rw [e3]
          refine iteF ?_
          match ds, h3 with
          | [dk, dl, dr], _ =>
            cases r with
            | @cons vk _ _ _ rk r =>
              cases r with
              | @cons vl _ _ _ rl r =>
                cases r with
                | @cons vr _ _ _ rr r =>
                  cases r
                  refine ⟨_, rfl, a, _, rfl, .inl (.inl h), rfl, vk, _, rfl, vl, _, rfl, vr, _, rfl, rfl, ?_⟩
                  refine ⟨_, rfl, _, _, _, _, _, rfl, .ty _, rk.ty, kStr dk, _, rfl, ?_⟩
                  cases hS : isStr dk with
                  | false =>
                    rw [isTri_kind hS] at q
                    exact iteT (iteT q)
                  | true =>
                    refine iteF ?_
                    cases rk with
                    | str k =>
                      refine ⟨_, rfl, aK, _, rfl, .inr (sK H), rfl, rfl, _, rfl, ?_⟩
                      show if (!kindOk k) = true then _ else _
                      cases hk : kindOk k with
                      | false =>
                        have e : isTri (.tuple [.str k, dl, dr]) m = false := by simp [isTri, hk]
                        rw [e] at q
                        exact iteT q
                      | true =>
                        refine iteF ?_
                        have e : isTri (.tuple [.str k, dl, dr]) m = (isNum dl 0 m && isNum dr 0 m) := by simp [isTri, hk]
                        rw [e] at q
                        refine ⟨_, rfl, _, rfl, vl, dl, 0, m, rfl, rl, _, rfl, ?_⟩
                        cases hn : isNum dl 0 m with
                        | false =>
                          rw [hn] at q
                          exact iteF q
                        | true =>
                          rw [hn] at q
                          exact iteT ⟨_, rfl, _, rfl, vr, dr, 0, m, rfl, rr, q⟩
                    | _ => cases hS
        · have e3 : (!decide (V.int ((xs.length : Nat) : Int) = V.int 3)) = true := by
            have z : ¬ V.int ((xs.length : Nat) : Int) = V.int 3 := fun z => by
              injection z with z
              omega
            rw [decide_eq_false z]
            rfl
          rw [e3]
          rw [isTri_tup h3] at q
          exact iteT q
      | _ => cases hT
end
end Q

set_option maxHeartbeats 4000000
namespace Q
open PySem PySem.Spec PyProof.Rows L2 Ca
/-! ### are_atoms -/
abbrev s_are_atoms : Stmt := top 37
def areAt (ds : List PyData) : Bool := decide (1 ≤ ds.length) && decide (ds.length ≤ 4) && ds.all fun d => isTri d 9
def spAre : Sp := fun vs H Q _ => ∃ v d ds, vs = [v] ∧ Rp H v d ∧ (d = .tuple ds ∨ d = .list ds) ∧ ds.length ≤ 1000 ∧ ∀ H', Same H H' → Q (.bl (areAt ds)) H'
theorem sc_are : FnScope ["things", "thing"] ["things"] (defScope s_are_atoms) := ⟨rfl, rfl, rfl, by decide +kernel, rfl, by decide +kernel, by decide +kernel⟩
theorem bools_of {H : Hp} {f : PyData → Bool} : ∀ {acc : List V} {ds : List PyData}, RpA H acc (ds.map fun d => .bool (f d)) → acc = (ds.map f).map V.bl
  | _, [], h => by
    cases h
    rfl
  | _, d :: ds, h => by
    cases h with
    | cons h1 h2 =>
      cases h1
      rw [bools_of h2]
      rfl
theorem all_id {f : PyData → Bool} (ds : List PyData) : (ds.map f).all id = ds.all f := by
  induction ds with
  | nil => rfl
  | cons d ds ih => simp [ih]
section
variable {P : Program} {w : World} {K : PySem.W.Frag} {mg : PySem.Str → Option Value} {base : Heap}
theorem ok_are {f fT : Addr} {fd fdT : FuncData} (F : FnP K "are_atoms" s_are_atoms f fd) (T : Tx K mg) (GT : FnOk P w K mg base CX0 2 fT fdT ["thing", "most"] spTri) (bT : Binds K fdT ["thing", "most"] [])
    (kT : PySem.W.keepIn K (.ref fT) = true) (gT : mg "is_triple" = some (.ref fT)) : FnOk P w K mg base CX0 3 f fd ["things"] spAre := by
  obtain ⟨t1, g1⟩ := T.mAtoms
  obtain ⟨t2, g2⟩ := T.mVar
  refine F.ok sc_are (fun vs H Q E h => ?_) (fun cdv A outer s H vs Q E hr h => ?_)
  · obtain ⟨v, d, ds, rfl, _⟩ := h
    rfl
  · obtain ⟨v, d, ds, rfl, rp, hd, hz, q⟩ := h
    have fin : ∀ {k : Bool} {H' : Hp}, Same H H' → k = areAt ds → Q (.bl k) H' := fun s e => by rw [e]; exact q _ s
    rcases hd with rfl | rfl
    · cases rp with
      | @tup a xs _ h r =>
        refine ⟨_, PSs.nox (pss_one (ps_ret (pe_and (pe_chain op_le op_le pe_int (pe_callB call_len_seq (by rfl) T.len bLen (pa_cons (pv 0) pa_nil)) (pe_glob (v := .int 4) rfl g1 ⟨t1, rfl⟩))
          (pe_one (pe_callB (cr_all rfl) (by rfl) T.all bAll (pa_cons (pe_lc (own := [("thing", 1)]) (g := gName 1) (tt := tYes) rfl sc_are.nd (pi_tup (pv 0))
            (blkOk_by (own := [("thing", 1)]) (N := ["things", "thing"]) (sc := defScope s_are_atoms) (by decide +kernel))
            (fun _ _ _ _ _ => pg_name (i := 1) sc_are.nd rfl (Or.inl rfl)) (fun _ _ _ _ _ => pts_nil)
            (fun _ _ _ _ _ => pe_call GT hr rfl gT kT bT .nil pass0 (pa_cons (pv 1) (pa_cons (pe_glob (v := .int 9) rfl g2 ⟨t2, rfl⟩) pa_nil)))) pa_nil)))))), ?_⟩
        have hl := r.length
        refine ⟨_, rfl, a, xs, rfl, .inr (.inl (.inl h)), 1, _, rfl, rfl, decide ((1 : Int) ≤ ((xs.length : Nat) : Int)), rfl, ?_⟩
        by_cases c1 : (1 : Int) ≤ ((xs.length : Nat) : Int)
        · rw [decide_eq_true c1]
          refine iteT ⟨_, 4, rfl, rfl, decide (((xs.length : Nat) : Int) ≤ 4), rfl, ?_⟩
          by_cases c2 : ((xs.length : Nat) : Int) ≤ 4
          · rw [decide_eq_true c2]
            refine iteT ⟨_, rfl, a, rfl, ⟨_, .inl (.inl h)⟩, fun D hD => lcT (F := fun d => some (.bool (isTri d 9))) h r hz hD (fun x d H' Nx _ s1 hn rx c _ => ⟨rfl, ?_⟩) fun H' acc s1 h1 h2 => ?_⟩
            · refine ⟨x, rfl, x, d, 9, rfl, rx.mono off_same, ?_⟩
              exact c _ _ H' rfl (Same.refl _) (.bl _)
            · rw [keptD_map] at h2
              have ea := bools_of h2
              subst ea
              refine ⟨D, _, rfl, .inl (.inl h1), fin s1 ?_⟩
              have k1 : decide (1 ≤ ds.length) = true := decide_eq_true (by omega)
              have k2 : decide (ds.length ≤ 4) = true := decide_eq_true (by omega)
              rw [all_id]
              simp [areAt, k1, k2]
          · rw [decide_eq_false c2]
            refine iteF (fin (Same.refl _) ?_)
            have k2 : decide (ds.length ≤ 4) = false := decide_eq_false (by omega)
            simp [areAt, k2]
        · rw [decide_eq_false c1]
          refine iteF ⟨_, rfl, iteF (fin (Same.refl _) ?_)⟩
          have k1 : decide (1 ≤ ds.length) = false := decide_eq_false (by omega)
          simp [areAt, k1]
    · cases rp with
      | @lst a xs _ h r =>
        refine ⟨_, PSs.nox (pss_one (ps_ret (pe_and (pe_chain op_le op_le pe_int (pe_callB call_len_seq (by rfl) T.len bLen (pa_cons (pv 0) pa_nil)) (pe_glob (v := .int 4) rfl g1 ⟨t1, rfl⟩))
          (pe_one (pe_callB (cr_all rfl) (by rfl) T.all bAll (pa_cons (pe_lc (own := [("thing", 1)]) (g := gName 1) (tt := tYes) rfl sc_are.nd (pi_list (pv 0))
            (blkOk_by (own := [("thing", 1)]) (N := ["things", "thing"]) (sc := defScope s_are_atoms) (by decide +kernel))
            (fun _ _ _ _ _ => pg_name (i := 1) sc_are.nd rfl (Or.inl rfl)) (fun _ _ _ _ _ => pts_nil)
            (fun _ _ _ _ _ => pe_call GT hr rfl gT kT bT .nil pass0 (pa_cons (pv 1) (pa_cons (pe_glob (v := .int 9) rfl g2 ⟨t2, rfl⟩) pa_nil)))) pa_nil)))))), ?_⟩
        have hl := r.length
        refine ⟨_, rfl, a, xs, rfl, .inl (.inl (.inl h)), 1, _, rfl, rfl, decide ((1 : Int) ≤ ((xs.length : Nat) : Int)), rfl, ?_⟩
        by_cases c1 : (1 : Int) ≤ ((xs.length : Nat) : Int)
        · rw [decide_eq_true c1]
          refine iteT ⟨_, 4, rfl, rfl, decide (((xs.length : Nat) : Int) ≤ 4), rfl, ?_⟩
          by_cases c2 : ((xs.length : Nat) : Int) ≤ 4
          · rw [decide_eq_true c2]
            refine iteT ⟨_, rfl, a, rfl, ⟨_, .inl (.inl h)⟩, fun D hD => lcL (F := fun d => some (.bool (isTri d 9))) h r hz hD (fun x d H' Nx _ s1 hn rx c _ => ⟨rfl, ?_⟩) fun H' acc s1 h1 h2 => ?_⟩
            · refine ⟨x, rfl, x, d, 9, rfl, rx.mono off_same, ?_⟩
              exact c _ _ H' rfl (Same.refl _) (.bl _)
            · rw [keptD_map] at h2
              have ea := bools_of h2
              subst ea
              refine ⟨D, _, rfl, .inl (.inl h1), fin s1 ?_⟩
              have k1 : decide (1 ≤ ds.length) = true := decide_eq_true (by omega)
              have k2 : decide (ds.length ≤ 4) = true := decide_eq_true (by omega)
              rw [all_id]
              simp [areAt, k1, k2]
          · rw [decide_eq_false c2]
            refine iteF (fin (Same.refl _) ?_)
            have k2 : decide (ds.length ≤ 4) = false := decide_eq_false (by omega)
            simp [areAt, k2]
        · rw [decide_eq_false c1]
          refine iteF ⟨_, rfl, iteF (fin (Same.refl _) ?_)⟩
          have k1 : decide (1 ≤ ds.length) = false := decide_eq_false (by omega)
          simp [areAt, k1]
end
end Q

set_option maxHeartbeats 4000000
namespace Q
open PySem PySem.Spec PyProof.Rows L2 Ca
/-! ### atoms, variables_of -/
structure At where
  k : PySem.Str
  l : Int
  r : Int
def atD (a : At) : PyData := .tuple [.str a.k, .int a.l, .int a.r]
def vars (as : List At) : List Int := as.flatMap fun a => [a.l, a.r]
theorem vars_app (a b : List At) : vars (a ++ b) = vars a ++ vars b := List.flatMap_append ..
abbrev s_variables_of : Stmt := top 40
def spVars : Sp := fun vs H Q _ => ∃ (v : V) (d : PyData) (as : List At), vs = [v] ∧ Rp H v d ∧ (d = .tuple (as.map atD) ∨ d = .list (as.map atD)) ∧ as.length ≤ 30 ∧
  ∀ (p : Addr) (ns : List Int) (H' : Hp), H p = none → Same H H' → H' p = some (.tup (ns.map V.int)) → ns.Pairwise (· < ·) → (∀ k : Int, k ∈ ns ↔ k ∈ vars as) → Q (.ref p) H'
theorem sc_vars : FnScope ["atoms", "kind", "left", "right", "variable"] ["atoms"] (defScope s_variables_of) := ⟨rfl, rfl, rfl, by decide +kernel, rfl, by decide +kernel, by decide +kernel⟩
/-- an atom as it stands in the heap -/
theorem at_of {H : Hp} {x : V} {a : At} (h : Rp H x (atD a)) : ∃ p, x = .ref p ∧ H p = some (.tup [.str a.k, .int a.l, .int a.r]) := by
  cases h with
  | @tup p xs _ h r =>
    cases r with
    | cons h1 r => cases r with
      | cons h2 r => cases r with
        | cons h3 r =>
          cases r
          cases h1
          cases h2
          cases h3
          exact ⟨p, rfl, h⟩
theorem bound_scan {n : Nat} (h : n ≤ 100) : n + 1 < scanBound := by
  unfold scanBound
  omega
/-- what the set holds behind i atoms and j variables more -/
def SetIs (w : World) (H : Hp) (D : Addr) (l : List Int) (m : Nat) : Prop := ∃ S n, H D = some (SetO w D S n) ∧ (∀ k : Int, S k = true ↔ k ∈ l) ∧ n ≤ m
theorem SetIs.add {w : World} {H : Hp} {D : Addr} {l : List Int} {m : Nat} {S : Int → Bool} {n : Nat} (k : Int) (hS : ∀ k : Int, S k = true ↔ k ∈ l) (hn : n ≤ m) :
    SetIs w (upd H D (SetO w D (more S k) (cntS S n k))) D (l ++ [k]) (m + 1) := by
  refine ⟨_, _, upd_same, fun j => ?_, ?_⟩
  · unfold more
    rw [Bool.or_eq_true, hS j, List.mem_append, List.mem_singleton, decide_eq_true_iff]
  · unfold cntS
    split <;> omega
section
variable {P : Program} {w : World} {K : PySem.W.Frag} {mg : PySem.Str → Option Value} {base : Heap}
theorem ok_vars {f : Addr} {fd : FuncData} (F : FnP K "variables_of" s_variables_of f fd) (T : Tx K mg) : FnOk P w K mg base CX0 1 f fd ["atoms"] spVars := by
  refine F.ok sc_vars (fun vs H Q E h => ?_) (fun cdv A outer s H vs Q E hr h => ?_)
  · obtain ⟨v, d, as, rfl, _⟩ := h
    rfl
  · obtain ⟨v, d, as, rfl, rp, hd, hz, q⟩ := h
    rcases hd with rfl | rfl
    · cases rp with
      | @tup a xs _ h r =>
        refine ⟨_, PSs.nox (pss_one (ps_ret (pe_callTy call_tuple_of (by rfl) T.tup bTup (pa_cons (pe_callB (cr_sortedSet rfl) (by rfl) T.sorted bSorted (pa_cons
          (pe_sc2 (own := [("kind", 1), ("left", 2), ("right", 3), ("variable", 4)]) (us := [4]) (g := gTup K 3 (gCons (gName 1) (gCons (gName 2) (gCons (gName 3) gNil)))) (tt := tYes) (wj := iTup K (tTup (tCons (tVar 2) (tCons (tVar 3) tNil)))) (g1 := gName 4) (tt1 := tYes) (te := tVar 4) rfl sc_vars.nd (pi_tup (pv 0))
            (blkOk_by (own := [("kind", 1), ("left", 2), ("right", 3), ("variable", 4)]) (N := ["atoms", "kind", "left", "right", "variable"]) (sc := defScope s_variables_of) (by decide +kernel)) (by decide)
            (fun _ _ _ _ _ => pg_tup (by rfl) (pgs_cons (pg_name (i := 1) sc_vars.nd rfl (Or.inl rfl)) (pgs_cons (pg_name (i := 2) sc_vars.nd rfl (Or.inl rfl)) (pgs_cons (pg_name (i := 3) sc_vars.nd rfl (Or.inl rfl)) pgs_nil))))
            (fun _ _ _ _ _ => pts_nil) (fun _ _ _ _ _ => pi_tup (pe_tup (pa_cons (pv 2) (pa_cons (pv 3) pa_nil)))) (fun _ _ _ _ _ => pg_name (i := 4) sc_vars.nd rfl (Or.inl rfl))
            (fun _ _ _ _ _ => pts_nil) (fun _ _ _ _ _ => pv 4)) pa_nil)) pa_nil)))), ?_⟩
        have hl := r.length
        rw [List.length_map] at hl
        refine ⟨_, rfl, a, rfl, ⟨_, .inl (.inl h)⟩, fun D hD => ?_⟩
        refine ⟨fun i m H' => m = xs.length - i ∧ i ≤ xs.length ∧ Same H H' ∧ SetIs w H' D (vars (as.take i)) (2 * i), ⟨xs.length, rfl, Nat.zero_le _, same_new hD, _, 0, upd_same, fun k => ?_, Nat.le_refl _⟩, ?_⟩
        · simp [vars]
        rintro i m H' ⟨rfl, hi, s1, S, n, hS, hm, hn⟩
        have sq := s1 _ _ h
        by_cases hlt : i < xs.length
        · refine .inr ⟨⟨xs, xs[i], .inl (.inl sq), by simp [hlt]⟩, fun H' => Same H H' ∧ SetIs w H' D (vars (as.take (i + 1))) (2 * (i + 1)), fun H' p' => ⟨xs.length - (i + 1), by omega, rfl, hlt, p'⟩, fun x H2 y => ?_⟩
          obtain ⟨rfl, y⟩ := y
          have hx := y xs (.inl (.inl sq))
          obtain ⟨d, hd, rx⟩ := r.get hx
          rw [List.getElem?_map] at hd
          obtain ⟨t, ht, rfl⟩ : ∃ t, as[i]? = some t ∧ atD t = d := by
            cases e : as[i]? with
            | none =>
              rw [e] at hd
              cases hd
            | some t =>
              rw [e] at hd
              exact ⟨t, rfl, Option.some.inj hd⟩
          obtain ⟨p, rfl, hp⟩ := at_of (rx.mono s1)
          have ev : vars (as.take (i + 1)) = vars (as.take i) ++ [t.l, t.r] := by
            rw [take_more ht, vars_app]
            rfl
          have i30 : i < 30 := by omega
          refine ⟨p, _, rfl, .inl (.inl hp), rfl, _, _, rfl, _, _, rfl, _, _, rfl, rfl, rfl, ?_⟩
          refine ⟨_, rfl, _, rfl, by show 2 ≤ sizeLine; decide, fun u hu => ⟨u, rfl, ⟨_, .inl (.inl upd_same)⟩, ?_⟩⟩
          have nDu : D ≠ u := ne_of_none hS hu
          refine ⟨fun j k H3 => k = 2 - j ∧ j ≤ 2 ∧ Same H H3 ∧ H3 u = some (.tup [.int t.l, .int t.r]) ∧ SetIs w H3 D (vars (as.take i) ++ [t.l, t.r].take j) (2 * i + j),
            ⟨2, rfl, by omega, fun b o e => ?_, upd_same, S, n, ?_, fun k => ?_, by omega⟩, ?_⟩
          · rw [upd_ne (ne_of_none (s1 b o e) hu)]
            exact s1 b o e
          · rw [upd_ne nDu]
            exact hS
          · rw [List.take_zero, List.append_nil]
            exact hm k
          rintro j k H3 ⟨rfl, hj, s3, hu3, S3, n3, hS3, hm3, hn3⟩
          by_cases hj2 : j < 2
          · refine .inr ⟨⟨_, [V.int t.l, V.int t.r][j], .inl (.inl hu3), by simp⟩, fun H3 => Same H H3 ∧ H3 u = some (.tup [.int t.l, .int t.r]) ∧ SetIs w H3 D (vars (as.take i) ++ [t.l, t.r].take (j + 1)) (2 * i + (j + 1)),
              fun H4 p4 => ⟨2 - (j + 1), by omega, rfl, by omega, p4⟩, fun x H4 y => ?_⟩
            obtain ⟨rfl, y⟩ := y
            have hx := y _ (.inl (.inl hu3))
            obtain ⟨z, hz1, rfl⟩ : ∃ z, [t.l, t.r][j]? = some z ∧ x = V.int z := by
              match j, hj2 with
              | 0, _ => exact ⟨t.l, rfl, (Option.some.inj hx).symm⟩
              | 1, _ => exact ⟨t.r, rfl, (Option.some.inj hx).symm⟩
            refine ⟨rfl, _, rfl, z, S3, n3, rfl, hS3, bound_scan (by omega), fun b o e => ?_, ?_, ?_⟩
            · rw [upd_ne (ne_of_none e hD)]
              exact s3 b o e
            · rw [upd_ne nDu.symm]
              exact hu3
            · have e4 := take_more hz1
              rw [e4, ← List.append_assoc]
              exact SetIs.add z hm3 hn3
          · have e2 : j = 2 := by omega
            subst e2
            refine .inl ⟨⟨_, .inl (.inl hu3), Nat.le_refl _⟩, s3, S3, n3, hS3, fun k => ?_, by omega⟩
            rw [ev]
            exact hm3 k
        · have e : i = xs.length := by omega
          subst e
          refine .inl ⟨⟨xs, .inl (.inl sq), Nat.le_refl _⟩, D, S, n, rfl, hS, by omega, fun ns u hs hk hln hu => ?_⟩
          refine ⟨u, _, rfl, .inl ⟨.inl (.inl upd_same), fun p hp => ?_⟩⟩
          have hp1 : H' p = none := by
            have z : p ≠ u := fun z => by
              rw [z, upd_same] at hp
              cases hp
            rw [upd_ne z] at hp
            exact hp
          refine q p ns _ (s1.free hp1) ((s1.trans (same_new hu)).trans (same_new hp)) upd_same hs fun k => ?_
          rw [hk k, hm k, hl, List.take_length]
    · cases rp with
      | @lst a xs _ h r =>
        refine ⟨_, PSs.nox (pss_one (ps_ret (pe_callTy call_tuple_of (by rfl) T.tup bTup (pa_cons (pe_callB (cr_sortedSet rfl) (by rfl) T.sorted bSorted (pa_cons
          (pe_sc2 (own := [("kind", 1), ("left", 2), ("right", 3), ("variable", 4)]) (us := [4]) (g := gTup K 3 (gCons (gName 1) (gCons (gName 2) (gCons (gName 3) gNil)))) (tt := tYes) (wj := iTup K (tTup (tCons (tVar 2) (tCons (tVar 3) tNil)))) (g1 := gName 4) (tt1 := tYes) (te := tVar 4) rfl sc_vars.nd (pi_list (pv 0))
            (blkOk_by (own := [("kind", 1), ("left", 2), ("right", 3), ("variable", 4)]) (N := ["atoms", "kind", "left", "right", "variable"]) (sc := defScope s_variables_of) (by decide +kernel)) (by decide)
            (fun _ _ _ _ _ => pg_tup (by rfl) (pgs_cons (pg_name (i := 1) sc_vars.nd rfl (Or.inl rfl)) (pgs_cons (pg_name (i := 2) sc_vars.nd rfl (Or.inl rfl)) (pgs_cons (pg_name (i := 3) sc_vars.nd rfl (Or.inl rfl)) pgs_nil))))
            (fun _ _ _ _ _ => pts_nil) (fun _ _ _ _ _ => pi_tup (pe_tup (pa_cons (pv 2) (pa_cons (pv 3) pa_nil)))) (fun _ _ _ _ _ => pg_name (i := 4) sc_vars.nd rfl (Or.inl rfl))
            (fun _ _ _ _ _ => pts_nil) (fun _ _ _ _ _ => pv 4)) pa_nil)) pa_nil)))), ?_⟩
        have hl := r.length
        rw [List.length_map] at hl
        refine ⟨_, rfl, a, rfl, ⟨_, .inl (.inl h)⟩, fun D hD => ?_⟩
        refine ⟨fun i m H' => m = xs.length - i ∧ i ≤ xs.length ∧ Same H H' ∧ SetIs w H' D (vars (as.take i)) (2 * i), ⟨xs.length, rfl, Nat.zero_le _, same_new hD, _, 0, upd_same, fun k => ?_, Nat.le_refl _⟩, ?_⟩
        · simp [vars]
        rintro i m H' ⟨rfl, hi, s1, S, n, hS, hm, hn⟩
        have sq := s1 _ _ h
        by_cases hlt : i < xs.length
        · refine .inr ⟨⟨xs, xs[i], .inl (.inl sq), by simp [hlt]⟩, fun H' => Same H H' ∧ SetIs w H' D (vars (as.take (i + 1))) (2 * (i + 1)), fun H' p' => ⟨xs.length - (i + 1), by omega, rfl, hlt, p'⟩, fun x H2 y => ?_⟩
          obtain ⟨rfl, y⟩ := y
          have hx := y xs (.inl (.inl sq))
          obtain ⟨d, hd, rx⟩ := r.get hx
          rw [List.getElem?_map] at hd
          obtain ⟨t, ht, rfl⟩ : ∃ t, as[i]? = some t ∧ atD t = d := by
            cases e : as[i]? with
            | none =>
              rw [e] at hd
              cases hd
            | some t =>
              rw [e] at hd
              exact ⟨t, rfl, Option.some.inj hd⟩
          obtain ⟨p, rfl, hp⟩ := at_of (rx.mono s1)
          have ev : vars (as.take (i + 1)) = vars (as.take i) ++ [t.l, t.r] := by
            rw [take_more ht, vars_app]
            rfl
          have i30 : i < 30 := by omega
          refine ⟨p, _, rfl, .inl (.inl hp), rfl, _, _, rfl, _, _, rfl, _, _, rfl, rfl, rfl, ?_⟩
          refine ⟨_, rfl, _, rfl, by show 2 ≤ sizeLine; decide, fun u hu => ⟨u, rfl, ⟨_, .inl (.inl upd_same)⟩, ?_⟩⟩
          have nDu : D ≠ u := ne_of_none hS hu
          refine ⟨fun j k H3 => k = 2 - j ∧ j ≤ 2 ∧ Same H H3 ∧ H3 u = some (.tup [.int t.l, .int t.r]) ∧ SetIs w H3 D (vars (as.take i) ++ [t.l, t.r].take j) (2 * i + j),
            ⟨2, rfl, by omega, fun b o e => ?_, upd_same, S, n, ?_, fun k => ?_, by omega⟩, ?_⟩
          · rw [upd_ne (ne_of_none (s1 b o e) hu)]
            exact s1 b o e
          · rw [upd_ne nDu]
            exact hS
          · rw [List.take_zero, List.append_nil]
            exact hm k
          rintro j k H3 ⟨rfl, hj, s3, hu3, S3, n3, hS3, hm3, hn3⟩
          by_cases hj2 : j < 2
          · refine .inr ⟨⟨_, [V.int t.l, V.int t.r][j], .inl (.inl hu3), by simp⟩, fun H3 => Same H H3 ∧ H3 u = some (.tup [.int t.l, .int t.r]) ∧ SetIs w H3 D (vars (as.take i) ++ [t.l, t.r].take (j + 1)) (2 * i + (j + 1)),
              fun H4 p4 => ⟨2 - (j + 1), by omega, rfl, by omega, p4⟩, fun x H4 y => ?_⟩
            obtain ⟨rfl, y⟩ := y
            have hx := y _ (.inl (.inl hu3))
            obtain ⟨z, hz1, rfl⟩ : ∃ z, [t.l, t.r][j]? = some z ∧ x = V.int z := by
              match j, hj2 with
              | 0, _ => exact ⟨t.l, rfl, (Option.some.inj hx).symm⟩
              | 1, _ => exact ⟨t.r, rfl, (Option.some.inj hx).symm⟩
            refine ⟨rfl, _, rfl, z, S3, n3, rfl, hS3, bound_scan (by omega), fun b o e => ?_, ?_, ?_⟩
            · rw [upd_ne (ne_of_none e hD)]
              exact s3 b o e
            · rw [upd_ne nDu.symm]
              exact hu3
            · have e4 := take_more hz1
              rw [e4, ← List.append_assoc]
              exact SetIs.add z hm3 hn3
          · have e2 : j = 2 := by omega
            subst e2
            refine .inl ⟨⟨_, .inl (.inl hu3), Nat.le_refl _⟩, s3, S3, n3, hS3, fun k => ?_, by omega⟩
            rw [ev]
            exact hm3 k
        · have e : i = xs.length := by omega
          subst e
          refine .inl ⟨⟨xs, .inl (.inl sq), Nat.le_refl _⟩, D, S, n, rfl, hS, by omega, fun ns u hs hk hln hu => ?_⟩
          refine ⟨u, _, rfl, .inl ⟨.inl (.inl upd_same), fun p hp => ?_⟩⟩
          have hp1 : H' p = none := by
            have z : p ≠ u := fun z => by
              rw [z, upd_same] at hp
              cases hp
            rw [upd_ne z] at hp
            exact hp
          refine q p ns _ (s1.free hp1) ((s1.trans (same_new hu)).trans (same_new hp)) upd_same hs fun k => ?_
          rw [hk k, hm k, hl, List.take_length]
end
end Q

set_option maxHeartbeats 4000000
namespace Q
open PySem PySem.Spec PyProof.Rows L2 Ca
/-! ### text_of_atoms -/
structure Good (a : At) : Prop where
  k : kindOk a.k = true
  l0 : 0 ≤ a.l
  l9 : a.l ≤ 9
  r0 : 0 ≤ a.r
  r9 : a.r ≤ 9
theorem kind_len {k : PySem.Str} (h : kindOk k = true) : k.length = 1 := by
  unfold kindOk inV at h
  rw [List.any_eq_true] at h
  obtain ⟨y, hy, e⟩ := h
  rcases List.mem_cons.mp hy with z | hy
  · subst z
    have e1 : PySem.Str.ofString "A" = k := by simpa [eqV] using e
    rw [← e1]
    decide +kernel
  · rcases List.mem_cons.mp hy with z | hy
    · subst z
      have e1 : PySem.Str.ofString "B" = k := by simpa [eqV] using e
      rw [← e1]
      decide +kernel
    · rcases List.mem_cons.mp hy with z | hy
      · subst z
        have e1 : PySem.Str.ofString "C" = k := by simpa [eqV] using e
        rw [← e1]
        decide +kernel
      · cases hy
theorem dig_len {i : Int} (h0 : 0 ≤ i) (h9 : i ≤ 9) : (PySem.Str.ofString (toString i)).length = 1 := by
  obtain ⟨n, rfl⟩ := Int.eq_ofNat_of_zero_le h0
  have h : ∀ n : Nat, n < 10 → (PySem.Str.ofString (toString ((n : Nat) : Int))).length = 1 := by decide +kernel
  exact h n (by omega)
theorem dig_log {i : Int} (h0 : 0 ≤ i) (h9 : i ≤ 9) : i.natAbs.log2 < 1920 := by
  obtain ⟨n, rfl⟩ := Int.eq_ofNat_of_zero_le h0
  have h : ∀ n : Nat, n < 10 → ((n : Int)).natAbs.log2 < 1920 := by decide +kernel
  exact h n (by omega)
theorem len_app (x y : PySem.Str) : (x ++ y).length = x.length + y.length := PySem.Str.length_append x y
def atT (a : At) : PySem.Str := a.k ++ PySem.Str.ofString (toString a.l) ++ PySem.Str.ofString (toString a.r)
theorem atT_len {a : At} (g : Good a) : (atT a).length = 3 := by
  unfold atT
  rw [len_app, len_app, kind_len g.k, dig_len g.l0 g.l9, dig_len g.r0 g.r9]
def txt (as : List At) : PySem.Str := Txt.join " " (as.map atT)
def atF (d : PyData) : Option PyData := match d with
  | .tuple [.str k, .int l, .int r] => some (.str (atT ⟨k, l, r⟩))
  | _ => none
theorem atF_map (as : List At) : (as.map atD).filterMap atF = as.map fun a => .str (atT a) := by
  induction as with
  | nil => rfl
  | cons a as ih =>
    rw [List.map_cons, List.filterMap_cons]
    show PyData.str (atT a) :: (as.map atD).filterMap atF = _
    rw [ih]
    rfl
theorem strs_of {H : Hp} {g : At → PySem.Str} : ∀ {acc : List V} {as : List At}, RpA H acc (as.map fun a => .str (g a)) → acc = (as.map g).map V.str
  | _, [], h => by
    cases h
    rfl
  | _, a :: as, h => by
    cases h with
    | cons h1 h2 =>
      cases h1
      rw [strs_of h2]
      rfl
theorem sum_len {as : List At} (h : ∀ a ∈ as, Good a) : ((as.map atT).map (·.length)).sum = 3 * as.length := by
  induction as with
  | nil => rfl
  | cons a as ih =>
    rw [List.map_cons, List.map_cons, List.sum_cons, ih fun b hb => h b (.tail _ hb), atT_len (h a (.head _)), List.length_cons]
    omega
def tJ3 : TE := fun σ H Q => tJs [tFmt (tVar 1), tFmt (tVar 2), tFmt (tVar 3)] PySem.Str.empty σ H fun out H1 => Q (.str out) H1
abbrev s_text_of_atoms : Stmt := top 38
def spText : Sp := fun vs H Q _ => ∃ (v : V) (d : PyData) (as : List At), vs = [v] ∧ Rp H v d ∧ (d = .tuple (as.map atD) ∨ d = .list (as.map atD)) ∧ as.length ≤ 30 ∧ (∀ a ∈ as, Good a) ∧
  ∀ H', Same H H' → Q (.str (txt as)) H'
theorem sc_text : FnScope ["atoms", "kind", "left", "right"] ["atoms"] (defScope s_text_of_atoms) := ⟨rfl, rfl, rfl, by decide +kernel, rfl, by decide +kernel, by decide +kernel⟩
section
variable {P : Program} {w : World} {K : PySem.W.Frag} {mg : PySem.Str → Option Value} {base : Heap}
theorem ok_text {f : Addr} {fd : FuncData} (F : FnP K "text_of_atoms" s_text_of_atoms f fd) (T : Tx K mg) : FnOk P w K mg base CX0 1 f fd ["atoms"] spText := by
  refine F.ok sc_text (fun vs H Q E h => ?_) (fun cdv A outer s H vs Q E hr h => ?_)
  · obtain ⟨v, d, as, rfl, _⟩ := h
    rfl
  · obtain ⟨v, d, as, rfl, rp, hd, hz, hg, q⟩ := h
    have small : ∀ n : Nat, n ≤ 1000 → n ≤ sizeLine := fun n h => Nat.le_of_lt (small1000 h)
    rcases hd with rfl | rfl
    · cases rp with
      | @tup a xs _ h r =>
        refine ⟨_, PSs.nox (pss_one (ps_ret (pe_join pe_str (pe_lc (own := [("kind", 1), ("left", 2), ("right", 3)]) (g := gTup K 3 (gCons (gName 1) (gCons (gName 2) (gCons (gName 3) gNil)))) (tt := tYes) rfl sc_text.nd (pi_tup (pv 0))
            (blkOk_by (own := [("kind", 1), ("left", 2), ("right", 3)]) (N := ["atoms", "kind", "left", "right"]) (sc := defScope s_text_of_atoms) (by decide +kernel))
            (fun _ _ _ _ _ => pg_tup (by rfl) (pgs_cons (pg_name (i := 1) sc_text.nd rfl (Or.inl rfl)) (pgs_cons (pg_name (i := 2) sc_text.nd rfl (Or.inl rfl)) (pgs_cons (pg_name (i := 3) sc_text.nd rfl (Or.inl rfl)) pgs_nil))))
            (fun _ _ _ _ _ => pts_nil) (fun _ _ _ _ _ => pe_joined (.cons (pe_fmt (pv 1)) (.cons (pe_fmt (pv 2)) (.cons (pe_fmt (pv 3)) .nil)))))))), ?_⟩
        refine ⟨⟨_, rfl⟩, _, rfl, a, rfl, ⟨_, .inl (.inl h)⟩, fun D hD => lcT (F := atF) (te := tJ3) h r (by rw [List.length_map]; omega) hD (fun x d H' Nx hm s1 hn rx c _ => ?_) fun H' acc s1 h1 h2 => ?_⟩
        · obtain ⟨t, ht, rfl⟩ := List.mem_map.mp hm
          have g := hg t ht
          obtain ⟨p, rfl, hp⟩ := at_of (rx.mono off_same)
          have kl := kind_len g.k
          have ll := dig_len g.l0 g.l9
          have rl := dig_len g.r0 g.r9
          refine ⟨p, _, rfl, .inl (.inl hp), rfl, _, _, rfl, _, _, rfl, _, _, rfl, rfl, rfl, ?_⟩
          refine ⟨_, rfl, .inl ⟨_, rfl, small _ (by omega), _, rfl, small _ (by rw [PySem.Str.empty_append]; omega), ?_⟩⟩
          refine ⟨_, rfl, .inr ⟨_, rfl, dig_log g.l0 g.l9, _, rfl, small _ (by rw [PySem.Str.empty_append, len_app]; omega), ?_⟩⟩
          refine ⟨_, rfl, .inr ⟨_, rfl, dig_log g.r0 g.r9, _, rfl, small _ (by rw [PySem.Str.empty_append, len_app, len_app]; omega), ?_⟩⟩
          rw [PySem.Str.empty_append]
          exact c _ _ H' rfl (Same.refl _) (.str _)
        · have h3 : RpA (off D H') acc (as.map fun a => .str (atT a)) := by
            rw [← atF_map]
            exact h2
          have ea := strs_of h3
          subst ea
          refine ⟨_, D, as.map atT, rfl, rfl, .inl (.inl (.inl h1)), ?_, q _ s1⟩
          rw [sum_len hg, List.length_map]
          have e1 : (PySem.Str.ofString " ").length = 1 := by decide +kernel
          rw [e1]
          omega
    · cases rp with
      | @lst a xs _ h r =>
        refine ⟨_, PSs.nox (pss_one (ps_ret (pe_join pe_str (pe_lc (own := [("kind", 1), ("left", 2), ("right", 3)]) (g := gTup K 3 (gCons (gName 1) (gCons (gName 2) (gCons (gName 3) gNil)))) (tt := tYes) rfl sc_text.nd (pi_list (pv 0))
            (blkOk_by (own := [("kind", 1), ("left", 2), ("right", 3)]) (N := ["atoms", "kind", "left", "right"]) (sc := defScope s_text_of_atoms) (by decide +kernel))
            (fun _ _ _ _ _ => pg_tup (by rfl) (pgs_cons (pg_name (i := 1) sc_text.nd rfl (Or.inl rfl)) (pgs_cons (pg_name (i := 2) sc_text.nd rfl (Or.inl rfl)) (pgs_cons (pg_name (i := 3) sc_text.nd rfl (Or.inl rfl)) pgs_nil))))
            (fun _ _ _ _ _ => pts_nil) (fun _ _ _ _ _ => pe_joined (.cons (pe_fmt (pv 1)) (.cons (pe_fmt (pv 2)) (.cons (pe_fmt (pv 3)) .nil)))))))), ?_⟩
        refine ⟨⟨_, rfl⟩, _, rfl, a, rfl, ⟨_, .inl (.inl h)⟩, fun D hD => lcL (F := atF) (te := tJ3) h r (by rw [List.length_map]; omega) hD (fun x d H' Nx hm s1 hn rx c _ => ?_) fun H' acc s1 h1 h2 => ?_⟩
        · obtain ⟨t, ht, rfl⟩ := List.mem_map.mp hm
          have g := hg t ht
          obtain ⟨p, rfl, hp⟩ := at_of (rx.mono off_same)
          have kl := kind_len g.k
          have ll := dig_len g.l0 g.l9
          have rl := dig_len g.r0 g.r9
          refine ⟨p, _, rfl, .inl (.inl hp), rfl, _, _, rfl, _, _, rfl, _, _, rfl, rfl, rfl, ?_⟩
          refine ⟨_, rfl, .inl ⟨_, rfl, small _ (by omega), _, rfl, small _ (by rw [PySem.Str.empty_append]; omega), ?_⟩⟩
          refine ⟨_, rfl, .inr ⟨_, rfl, dig_log g.l0 g.l9, _, rfl, small _ (by rw [PySem.Str.empty_append, len_app]; omega), ?_⟩⟩
          refine ⟨_, rfl, .inr ⟨_, rfl, dig_log g.r0 g.r9, _, rfl, small _ (by rw [PySem.Str.empty_append, len_app, len_app]; omega), ?_⟩⟩
          rw [PySem.Str.empty_append]
          exact c _ _ H' rfl (Same.refl _) (.str _)
        · have h3 : RpA (off D H') acc (as.map fun a => .str (atT a)) := by
            rw [← atF_map]
            exact h2
          have ea := strs_of h3
          subst ea
          refine ⟨_, D, as.map atT, rfl, rfl, .inl (.inl (.inl h1)), ?_, q _ s1⟩
          rw [sum_len hg, List.length_map]
          have e1 : (PySem.Str.ofString " ").length = 1 := by decide +kernel
          rw [e1]
          omega
end
end Q

set_option maxHeartbeats 4000000
namespace Q
open PySem PySem.Spec PyProof.Rows L2 Ca
/-! ### Question.__init__ -/
theorem num_int {d : PyData} {lo hi : Int} (h : isNum d lo hi = true) : ∃ i, d = .int i ∧ lo ≤ i ∧ i ≤ hi := by
  cases d with
  | int i =>
    have h2 : (decide (lo ≤ i) && decide (i ≤ hi)) = true := h
    rw [Bool.and_eq_true, decide_eq_true_iff, decide_eq_true_iff] at h2
    exact ⟨i, rfl, h2.1, h2.2⟩
  | _ => cases h
theorem tri_at {d : PyData} (h : isTri d 9 = true) : ∃ a : At, d = atD a ∧ Good a := by
  unfold isTri at h
  split at h
  · rename_i k l r
    rw [Bool.and_eq_true, Bool.and_eq_true] at h
    obtain ⟨h1, h2, h3⟩ := h
    obtain ⟨i, rfl, a1, a2⟩ := num_int h2
    obtain ⟨j, rfl, b1, b2⟩ := num_int h3
    exact ⟨⟨k, i, j⟩, rfl, h1, a1, a2, b1, b2⟩
  · cases h
theorem good_of : ∀ {ds : List PyData}, (∀ d ∈ ds, isTri d 9 = true) → ∃ as : List At, ds = as.map atD ∧ ∀ a ∈ as, Good a
  | [], _ => ⟨[], rfl, fun a h => by cases h⟩
  | d :: ds, h => by
    obtain ⟨a, rfl, g⟩ := tri_at (h d (.head _))
    obtain ⟨as, rfl, gs⟩ := good_of (ds := ds) fun e he => h e (.tail _ he)
    refine ⟨a :: as, rfl, fun b hb => ?_⟩
    rcases List.mem_cons.mp hb with z | z
    · rw [z]
      exact g
    · exact gs b z
theorem are_good {ds : List PyData} (h : areAt ds = true) : ∃ as : List At, ds = as.map atD ∧ (∀ a ∈ as, Good a) ∧ 1 ≤ as.length ∧ as.length ≤ 4 := by
  unfold areAt at h
  rw [Bool.and_eq_true, Bool.and_eq_true, decide_eq_true_iff, decide_eq_true_iff, List.all_eq_true] at h
  obtain ⟨⟨h1, h2⟩, h3⟩ := h
  obtain ⟨as, rfl, gs⟩ := good_of h3
  rw [List.length_map] at h1 h2
  exact ⟨as, rfl, gs, h1, h2⟩
theorem alike_at (a b : At) : PySem.W.alike (atD a) (atD b) = true := by simp [atD, PySem.W.alike, PySem.W.alikeAll]
theorem alike_all (as : List At) : PySem.W.AllAlike (as.map atD) := by
  intro d hd d' hd'
  obtain ⟨a, _, rfl⟩ := List.mem_map.mp hd
  obtain ⟨b, _, rfl⟩ := List.mem_map.mp hd'
  exact alike_at a b
theorem sortable_at (as : List At) : PySem.W.Sortable (as.map atD) := .inl fun d hd => by
  obtain ⟨a, _, rfl⟩ := List.mem_map.mp hd
  exact ⟨_, _, rfl⟩
theorem depth_at (a : At) : (atD a).depth ≤ 60 := by simp [atD, PyData.depth, PyData.depthAll]
theorem putF_le (f : PySem.Str) (v : V) : ∀ fs : List (PySem.Str × V), (putF f v fs).length ≤ fs.length + 1
  | [] => Nat.le_refl _
  | (g, u) :: fs => by
    have ih := putF_le f v fs
    unfold putF
    split
    · simp only [List.length_cons]; omega
    · simp only [List.length_cons]; omega
theorem putF_1 (f : PySem.Str) (v : V) : (putF f v []).length < 1000 := by
  have := putF_le f v []
  simp only [List.length_nil] at this
  omega
theorem putF_2 (f g : PySem.Str) (v u : V) : (putF f v (putF g u [])).length < 1000 := by
  have h1 := putF_le f v (putF g u [])
  have h2 := putF_le g u []
  simp only [List.length_nil] at h2
  omega
/-- the fields of a question -/
def qf (p o u : V) : List (PySem.Str × V) := putF "used" u (putF "ordered" o (putF "given" p []))
theorem s_go : ¬ (("given" : PySem.Str) = "ordered") := by decide +kernel
theorem s_gu : ¬ (("given" : PySem.Str) = "used") := by decide +kernel
theorem s_ou : ¬ (("ordered" : PySem.Str) = "used") := by decide +kernel
theorem qf_given (p o u : V) : (qf p o u).lookup ("given" : PySem.Str) = some p := by
  unfold qf
  rw [lookup_putF, if_neg s_gu, lookup_putF, if_neg s_go, lookup_putF, if_pos rfl]
theorem qf_ordered (p o u : V) : (qf p o u).lookup ("ordered" : PySem.Str) = some o := by
  unfold qf
  rw [lookup_putF, if_neg s_ou, lookup_putF, if_pos rfl]
theorem qf_used (p o u : V) : (qf p o u).lookup ("used" : PySem.Str) = some u := by
  unfold qf
  rw [lookup_putF, if_pos rfl]
theorem qf_no (p o u : V) {m : PySem.Str} (h1 : ¬ m = "given") (h2 : ¬ m = "ordered") (h3 : ¬ m = "used") : (qf p o u).lookup m = none := by
  unfold qf
  rw [lookup_putF, if_neg h3, lookup_putF, if_neg h2, lookup_putF, if_neg h1]
  rfl
/-- what the top has written of the class Question (at C) and of NoAtoms (at N) -/
structure QT (K : PySem.W.Frag) (mg : PySem.Str → Option Value) (C N : Addr) : Prop where
  cl : Cls K C
  nG : NoAttr K C "given"
  nO : NoAttr K C "ordered"
  nU : NoAttr K C "used"
  gN : mg "NoAtoms" = some (.ref N)
  xN : PySem.W.excIn K N [.type "ValueError", .type "Exception", .type "BaseException", .type "object"] "ValueError.__new__" = true
  kN : PySem.W.keepIn K (.ref N) = true
  bN : PySem.W.subIn K (.ref N) (.type "BaseException") = some true
  tN : PySem.W.typeIn K (.ref N) = some (.type "type")
abbrev cQ : Stmt := top 41
abbrev s_init : Stmt := inClass cQ 0
/-- a question at x whose atoms stand in the tuple at p -/
structure IsQ (H : Hp) (C x dx p : Addr) (as : List At) : Prop where
  obj : ∃ (o u : Addr) (ns : List Int), H x = some (.ins C dx (qf (.ref p) (.ref o) (.ref u))) ∧ H u = some (.tup (ns.map V.int)) ∧ ns.Pairwise (· < ·) ∧ (∀ k : Int, k ∈ ns ↔ k ∈ vars as) ∧
    ∃ bs : List (V × PyData), bs.map Prod.snd = as.map atD ∧ H p = some (.tup (bs.map Prod.fst)) ∧ H o = some (.tup ((sortD bs).map Prod.fst)) ∧ ∀ b ∈ bs, Rp H b.1 b.2
theorem rp_zip {H : Hp} : ∀ {xs : List V} {ds : List PyData}, RpA H xs ds → ∃ bs : List (V × PyData), bs.map Prod.fst = xs ∧ bs.map Prod.snd = ds ∧ ∀ b ∈ bs, Rp H b.1 b.2
  | _, _, .nil => ⟨[], rfl, rfl, fun b h => by cases h⟩
  | _, _, .cons (v := v) (d := d) h r => by
    obtain ⟨bs, e1, e2, e3⟩ := rp_zip r
    refine ⟨(v, d) :: bs, by rw [List.map_cons, e1], by rw [List.map_cons, e2], fun b hb => ?_⟩
    rcases List.mem_cons.mp hb with z | z
    · rw [z]
      exact h
    · exact e3 b z
theorem zip_rp {H : Hp} : ∀ {bs : List (V × PyData)}, (∀ b ∈ bs, Rp H b.1 b.2) → RpA H (bs.map Prod.fst) (bs.map Prod.snd)
  | [], _ => .nil
  | b :: bs, h => .cons (h b (.head _)) (zip_rp fun c hc => h c (.tail _ hc))
def spInit (C N : Addr) : Sp := fun vs H Q E => ∃ (x dx p : Addr) (ds : List PyData), vs = [.ref x, .ref p] ∧ H x = some (.ins C dx []) ∧ Rp H (.ref p) (.tuple ds) ∧ ds.length ≤ 30 ∧
  (areAt ds = false → ∀ H', Same H H' → E (.ref N) none H') ∧
  (∀ as : List At, ds = as.map atD → (∀ a ∈ as, Good a) → areAt ds = true → ∀ H', (∀ b o, b ≠ x → H b = some o → H' b = some o) → IsQ H' C x dx p as → Q .non H')
theorem sc_init : FnScope ["self", "atoms"] ["self", "atoms"] (defScope s_init) := ⟨rfl, rfl, rfl, by decide +kernel, rfl, by decide +kernel, by decide +kernel⟩
def spInitR (C N : Addr) : Sp := fun vs H Q E => ∃ ws rest : List V, vs = ws ++ rest ∧ ws.length = ["self"].length ∧ rest.length ≤ sizeLine ∧ ∀ p, H p = none → spInit C N (ws ++ [V.ref p]) (upd H p (.tup rest)) Q E
section
variable {P : Program} {w : World} {K : PySem.W.Frag} {mg : PySem.Str → Option Value} {base : Heap}
theorem ok_init {f C N fA fV : Addr} {fd fdA fdV : FuncData} (F : FnM K "__init__" "Question.__init__" s_init f fd) (T : Tx K mg) (TQ : QT K mg C N)
    (GA : FnOk P w K mg base CX0 3 fA fdA ["things"] spAre) (bA : Binds K fdA ["things"] []) (kA : PySem.W.keepIn K (.ref fA) = true) (gA : mg "are_atoms" = some (.ref fA))
    (GV : FnOk P w K mg base CX0 1 fV fdV ["atoms"] spVars) (bV : Binds K fdV ["atoms"] []) (kV : PySem.W.keepIn K (.ref fV) = true) (gV : mg "variables_of" = some (.ref fV)) :
    FnR P w K mg base (L2.CX P w) 4 f (spInitR C N) := by
  obtain ⟨oc, od, dV, kV', doc, pm, an, cdv, ct, osl, rfl, lk, hcd, hdfl, _⟩ := F.ex
  have ed : dV = .none := by
    rcases hdfl with ⟨_, e⟩ | ⟨h, _⟩
    · exact e
    · exact absurd rfl h
  subst ed
  refine StX.fn_star (ps := ["self"]) (pv := "atoms") lk hcd sc_init StX.cxUp (StX.bind_star1 (p1 := "self") (pv := "atoms") (B := fun us => bindArgs (PySem.W.fnOf "__init__" "Question.__init__" (defArgs s_init) (defBody s_init) (defScope s_init) .none kV' doc pm an cdv ct) ⟨us, []⟩) (fun a => by rfl) (fun a r rs => by rfl)) (fun A outer s H vs Q E hr h => ?_)
  obtain ⟨x, dx, p, ds, rfl, hx, rp, hz, kE, kQ⟩ := h
  have hr1 : Room 1 _ := hr.mono (by decide)
  refine ⟨_, pss_cons (ps_if (pt_not (pt_val (pe_call GA hr rfl gA kA bA .nil pass0 (pa_cons (pv 1) pa_nil))))
      (pss_one (ps_raise rfl (takes_of rfl rfl rfl rfl) (pmk_own PySem.F.excBase_ValueError TQ.xN TQ.gN TQ.kN (raises_own TQ.bN TQ.tN) rfl))) pss_nil)
    (pss_cons (ps_fld (pv 0) (pv 1) rfl)
    (pss_cons (ps_fld (pv 0) (pe_callTy call_tuple_of (by rfl) T.tup bTup (pa_cons (pe_callB (cr_sortD T.sm hr) (by rfl) T.sorted bSorted (pa_cons (pv 1) pa_nil)) pa_nil)) rfl)
    (pss_one (ps_fld (pv 0) (pe_call GV hr1 rfl gV kV bV .nil pass0 (pa_cons (pv 1) pa_nil)) rfl)))), ?_⟩
  refine ⟨_, rfl, _, _, ds, rfl, rp, .inl rfl, by omega, fun H1 s1 => ⟨_, rfl, ?_⟩⟩
  cases hA : areAt ds with
  | false => exact iteT (kE hA H1 s1)
  | true =>
    refine iteF ?_
    obtain ⟨as, rfl, gs, l1, l4⟩ := are_good hA
    cases rp with
    | @tup _ xs _ hp rx =>
      have hx1 := s1 _ _ hx
      have hp1 := s1 _ _ hp
      have nxp : x ≠ p := ne_of hx1 hp1 (by intro z; cases z)
      refine ⟨_, rfl, _, rfl, x, C, dx, [], rfl, hx1, TQ.cl, TQ.nG, by decide, ?_⟩
      obtain ⟨bs, e1, e2, e3⟩ := rp_zip (rx.mono s1)
      have keep : ∀ {H2 : Hp} {o : HO} {b : V × PyData}, Rp H2 b.1 b.2 → b ∈ bs → (∃ dx fs, H2 x = some (.ins C dx fs)) → Rp (upd H2 x o) b.1 b.2 := fun {H2 o b} rb hb hi => by
        have m : b.2 ∈ as.map atD := by
          rw [← e2]
          exact List.mem_map.mpr ⟨b, hb, rfl⟩
        obtain ⟨t, _, et⟩ := List.mem_map.mp m
        rw [← et] at rb ⊢
        obtain ⟨q, eq, hq⟩ := at_of rb
        rw [eq]
        obtain ⟨dx', fs', hi⟩ := hi
        have nqx : q ≠ x := ne_of hq hi (by intro z; cases z)
        exact .tup (by rw [upd_ne nqx]; exact hq) (.cons (.str _) (.cons (.int _) (.cons (.int _) .nil)))
      -- self.ordered = tuple(sorted(atoms))
      have hpx : (upd H1 x (.ins C dx (putF "given" (.ref p) []))) p = some (.tup (bs.map Prod.fst)) := by
        rw [upd_ne nxp.symm, e1]
        exact hp1
      refine ⟨_, rfl, p, bs, rfl, .inr hpx, fun b hb => keep (e3 b hb) hb ⟨_, _, hx1⟩, by rw [e2]; exact alike_all as, by rw [e2]; exact sortable_at as, fun b hb => ?_, ?_, fun l hl => ?_⟩
      · have m : b.2 ∈ as.map atD := by
          rw [← e2]
          exact List.mem_map.mpr ⟨b, hb, rfl⟩
        obtain ⟨t, _, et⟩ := List.mem_map.mp m
        rw [← et]
        exact depth_at t
      · have lb : bs.length = as.length := by
          have z := congrArg List.length e2
          rw [List.length_map, List.length_map] at z
          exact z
        rw [lb]
        exact Nat.le_trans l4 (by decide)
      refine ⟨l, _, rfl, .inl ⟨.inl (.inl upd_same), fun o ho => ?_⟩⟩
      have nol : o ≠ l := fun z => by
        rw [z, upd_same] at ho
        cases ho
      have hoo : (upd H1 x (.ins C dx (putF "given" (.ref p) []))) o = none := by
        rw [upd_ne nol] at ho
        exact ho
      have nxl : x ≠ l := fun z => by
        rw [← z, upd_same] at hl
        cases hl
      have nxo : x ≠ o := fun z => by
        rw [← z, upd_same] at hoo
        cases hoo
      have npl : p ≠ l := ne_of_none hpx hl
      have npo : p ≠ o := ne_of_none hpx hoo
      generalize hH2 : upd (upd (upd H1 x (.ins C dx (putF "given" (.ref p) []))) l (.lst ((sortD bs).map Prod.fst))) o (.tup ((sortD bs).map Prod.fst)) = H2
      have x2 : H2 x = some (.ins C dx (putF "given" (.ref p) [])) := by
        rw [← hH2, upd_ne nxo, upd_ne nxl, upd_same]
      have p2 : H2 p = some (.tup (bs.map Prod.fst)) := by
        rw [← hH2, upd_ne npo, upd_ne npl]
        exact hpx
      have o2 : H2 o = some (.tup ((sortD bs).map Prod.fst)) := by
        rw [← hH2, upd_same]
      have s12 : ∀ b ob, b ≠ x → H1 b = some ob → H2 b = some ob := fun b ob hb e => by
        have z : (upd H1 x (.ins C dx (putF "given" (.ref p) []))) b = some ob := by
          rw [upd_ne hb]
          exact e
        rw [← hH2, upd_ne (ne_of_none z hoo), upd_ne (ne_of_none z hl)]
        exact z
      have r2 : ∀ b ∈ bs, Rp H2 b.1 b.2 := fun b hb => by
        have z := keep (o := .ins C dx (putF "given" (.ref p) [])) (e3 b hb) hb ⟨_, _, hx1⟩
        rw [← hH2]
        exact (z.mono (same_new hl)).mono (same_new ho)
      refine ⟨_, rfl, x, C, dx, _, rfl, x2, TQ.cl, TQ.nO, putF_1 _ _, ?_⟩
      have nox : o ≠ x := nxo.symm
      -- self.used = variables_of(atoms)
      have rp3 : Rp (upd H2 x (.ins C dx (putF "ordered" (.ref o) (putF "given" (.ref p) [])))) (.ref p) (.tuple (as.map atD)) := by
        refine .tup (by rw [upd_ne nxp.symm]; exact p2) ?_
        rw [← e2]
        exact zip_rp fun b hb => keep (r2 b hb) hb ⟨_, _, x2⟩
      refine ⟨_, rfl, _, _, as, rfl, rp3, .inl rfl, by omega, fun u ns H4 hu s4 h4 hs hk => ?_⟩
      have x4 := s4 _ _ (upd_same (H := H2) (a := x) (o := .ins C dx (putF "ordered" (.ref o) (putF "given" (.ref p) []))))
      refine ⟨_, rfl, x, C, dx, _, rfl, x4, TQ.cl, TQ.nU, putF_2 _ _ _ _, ?_⟩
      have nux : u ≠ x := fun z => by
        rw [z, upd_same] at hu
        cases hu
      have r4 : ∀ b ∈ bs, Rp H4 b.1 b.2 := fun b hb => (keep (r2 b hb) hb ⟨_, _, x2⟩).mono s4
      refine kQ as rfl gs hA _ (fun b ob hb e => ?_) ⟨o, u, ns, upd_same, ?_, hs, hk, bs, e2, ?_, ?_, fun b hb => keep (r4 b hb) hb ⟨_, _, x4⟩⟩
      · rw [upd_ne hb]
        refine s4 b ob ?_
        rw [upd_ne hb]
        exact s12 b ob hb (s1 b ob e)
      · rw [upd_ne nux]
        exact h4
      · rw [upd_ne nxp.symm]
        exact s4 p _ (by rw [upd_ne nxp.symm]; exact p2)
      · rw [upd_ne nox]
        exact s4 o _ (by rw [upd_ne nox]; exact o2)
end
end Q

set_option maxHeartbeats 4000000
namespace Q
open PySem PySem.Spec PyProof.Rows L2 Ca
/-! ### Question.atoms, __len__, text -/
abbrev s_atoms : Stmt := inClass cQ 1
abbrev s_len : Stmt := inClass cQ 4
abbrev s_qtext : Stmt := inClass cQ 11
theorem IsQ.mono {H H' : Hp} {C x dx p : Addr} {as : List At} (s : Same H H') (h : IsQ H C x dx p as) : IsQ H' C x dx p as := by
  obtain ⟨o, u, ns, h1, h2, h3, h4, bs, e1, e2, e3, e4⟩ := h.obj
  exact ⟨o, u, ns, s _ _ h1, s _ _ h2, h3, h4, bs, e1, s _ _ e2, s _ _ e3, fun b hb => (e4 b hb).mono s⟩
theorem IsQ.atoms {H : Hp} {C x dx p : Addr} {as : List At} (h : IsQ H C x dx p as) : Rp H (.ref p) (.tuple (as.map atD)) := by
  obtain ⟨o, u, ns, h1, h2, h3, h4, bs, e1, e2, e3, e4⟩ := h.obj
  rw [← e1]
  exact .tup e2 (zip_rp e4)
theorem sc_atoms : FnScope ["self"] ["self"] (defScope s_atoms) := ⟨rfl, rfl, rfl, by decide +kernel, rfl, by decide +kernel, by decide +kernel⟩
theorem sc_len : FnScope ["self"] ["self"] (defScope s_len) := ⟨rfl, rfl, rfl, by decide +kernel, rfl, by decide +kernel, by decide +kernel⟩
theorem sc_qtext : FnScope ["self"] ["self"] (defScope s_qtext) := ⟨rfl, rfl, rfl, by decide +kernel, rfl, by decide +kernel, by decide +kernel⟩
def spAtoms (C : Addr) : Sp := fun vs H Q _ => ∃ (x dx p : Addr) (as : List At), vs = [.ref x] ∧ IsQ H C x dx p as ∧ Q (.ref p) H
def spLen (C : Addr) : Sp := fun vs H Q _ => ∃ (x dx p : Addr) (as : List At), vs = [.ref x] ∧ IsQ H C x dx p as ∧ Q (.int as.length) H
def spQText (C : Addr) : Sp := fun vs H Q _ => ∃ (x dx p : Addr) (as : List At), vs = [.ref x] ∧ IsQ H C x dx p as ∧ as.length ≤ 30 ∧ (∀ a ∈ as, Good a) ∧ ∀ H', Same H H' → Q (.str (txt as)) H'
section
variable {P : Program} {w : World} {K : PySem.W.Frag} {mg : PySem.Str → Option Value} {base : Heap}
theorem ok_atoms {f C N : Addr} {fd : FuncData} (F : FnM K "atoms" "Question.atoms" s_atoms f fd) (TQ : QT K mg C N) : FnOk P w K mg base CX0 1 f fd ["self"] (spAtoms C) := by
  refine F.ok sc_atoms (fun vs H Q E h => ?_) (fun cdv A outer s H vs Q E hr h => ?_)
  · obtain ⟨x, dx, p, as, rfl, _⟩ := h
    rfl
  · obtain ⟨x, dx, p, as, rfl, hq, q⟩ := h
    obtain ⟨o, u, ns, h1, _⟩ := hq.obj
    exact ⟨_, PSs.nox (pss_one (ps_ret (pe_fld (pv 0) rfl))), _, rfl, x, C, dx, _, _, rfl, h1, TQ.cl, TQ.nG, qf_given _ _ _, q⟩
theorem ok_len {f C N : Addr} {fd : FuncData} (F : FnM K "__len__" "Question.__len__" s_len f fd) (TQ : QT K mg C N) (T : Tx K mg) : FnOk P w K mg base CX0 1 f fd ["self"] (spLen C) := by
  refine F.ok sc_len (fun vs H Q E h => ?_) (fun cdv A outer s H vs Q E hr h => ?_)
  · obtain ⟨x, dx, p, as, rfl, _⟩ := h
    rfl
  · obtain ⟨x, dx, p, as, rfl, hq, q⟩ := h
    obtain ⟨o, u, ns, h1, _, _, _, bs, e1, e2, _⟩ := hq.obj
    refine ⟨_, PSs.nox (pss_one (ps_ret (pe_callB call_len_seq (by rfl) T.len bLen (pa_cons (pe_fld (pv 0) rfl) pa_nil)))), ?_⟩
    refine ⟨_, rfl, x, C, dx, _, _, rfl, h1, TQ.cl, TQ.nG, qf_given _ _ _, p, _, rfl, .inr (.inl (.inl e2)), ?_⟩
    have z : (bs.map Prod.fst).length = as.length := by
      have z := congrArg List.length e1
      rw [List.length_map, List.length_map] at z
      rw [List.length_map, z]
    rw [z]
    exact q
theorem ok_qtext {f C N fT : Addr} {fd fdT : FuncData} (F : FnM K "text" "Question.text" s_qtext f fd) (TQ : QT K mg C N) (GT : FnOk P w K mg base CX0 1 fT fdT ["atoms"] spText) (bT : Binds K fdT ["atoms"] [])
    (kT : PySem.W.keepIn K (.ref fT) = true) (gT : mg "text_of_atoms" = some (.ref fT)) : FnOk P w K mg base CX0 2 f fd ["self"] (spQText C) := by
  refine F.ok sc_qtext (fun vs H Q E h => ?_) (fun cdv A outer s H vs Q E hr h => ?_)
  · obtain ⟨x, dx, p, as, rfl, _⟩ := h
    rfl
  · obtain ⟨x, dx, p, as, rfl, hq, hz, hg, q⟩ := h
    obtain ⟨o, u, ns, h1, _⟩ := hq.obj
    refine ⟨_, PSs.nox (pss_one (ps_ret (pe_call GT hr rfl gT kT bT .nil pass0 (pa_cons (pe_fld (pv 0) rfl) pa_nil)))), ?_⟩
    exact ⟨_, rfl, x, C, dx, _, _, rfl, h1, TQ.cl, TQ.nG, qf_given _ _ _, _, _, as, rfl, hq.atoms, .inl rfl, hz, hg, q⟩
end
/-! ### making a question by a call -/
section
variable {X : Cx} {CX : CXT} {k : Nat} {f C : Addr} {sp : Sp} {E : XK} {x : PySem.Str} {p pos : Pos}
theorem pe_makeR0 (M : Mk X.K C f) (F : FnR X.prog X.w X.K X.mg X.base CX k f sp) (hr : Room (k + 1) X.A) (hg : Gl X x) (hm : X.mg x = some (.ref C)) (hx : Passes CX X E)
    (hdb : (x == ("__debug__" : PySem.Str)) = false := by decide) : PE X (.Call (.Name x p) [] [] pos) (StX.tMakeR C sp E tNil) :=
  ⟨fun pins s σ H Q I h => wpAny_Call_Name_kw (ld_glob I hg hm (PySem.W.callWith_K0 I.kIn M.kp (StX.run_makeR M F hr hx I .nil h)) hdb)⟩
/-- what is asked where Question(..) is called with the values vs, which read as ds -/
theorem make_q {N : Addr} {H : Hp} {vs : List V} {ds : List PyData} {Q : VK} {E : XK} (r : RpA H vs ds) (hz : ds.length ≤ 30)
    (kE : areAt ds = false → ∀ H', Same H H' → E (.ref N) none H')
    (kQ : ∀ as : List At, ds = as.map atD → (∀ a ∈ as, Good a) → areAt ds = true → ∀ x dx p H', H x = none → Same H H' → IsQ H' C x dx p as → Q (.ref x) H') :
    ∀ x dx, H x = none → H dx = none → dx ≠ x → spInitR C N (.ref x :: vs) (upd (upd H dx (.own x)) x (.ins C dx [])) (fun v H2 => v = .non ∧ Q (.ref x) H2) E := by
  intro x dx nx nd ne
  have l := r.length
  have sz : vs.length ≤ sizeLine := by
    rw [l]
    exact Nat.le_trans hz (by decide)
  have s0 : Same H (upd (upd H dx (.own x)) x (.ins C dx [])) := fun b o e => by
    rw [upd_ne (ne_of_none e nx), upd_ne (ne_of_none e nd)]
    exact e
  refine ⟨[.ref x], vs, rfl, rfl, sz, fun p hp => ?_⟩
  have npx : p ≠ x := fun z => by
    rw [z, upd_same] at hp
    cases hp
  have s1 : Same H (upd (upd (upd H dx (.own x)) x (.ins C dx [])) p (.tup vs)) := s0.trans (same_new hp)
  refine ⟨x, dx, p, ds, rfl, by rw [upd_ne npx.symm, upd_same], .tup upd_same (r.mono s1), hz, fun h H' s => kE h H' (s1.trans s), fun as e g h H' kp hq => ⟨rfl, kQ as e g h x dx p H' nx (fun b o eb => ?_) hq⟩⟩
  exact kp b o (ne_of_none eb nx) (s1 b o eb)
end
end Q

set_option maxHeartbeats 4000000
namespace Q
open PySem PySem.Spec PyProof.Rows L2 Ca
/-! ### a star call of a class that a name holds -/
section
variable {X : Cx} {CX : CXT} {k i : Nat} {f C : Addr} {sp : Sp} {E : XK} {x : PySem.Str} {e : Expr} {te : TE} {p sq pos : Pos}
/-- cls(*e), the i-th slot holds the class at C -/
def tClsStar (K : PySem.W.Frag) (C : Addr) (i : Nat) (sp : Sp) (E : XK) (te : TE) : TE := fun σ H Q => σ[i]? = some (some (.ref C)) ∧ te σ H fun y H1 => ∃ a xs, y = V.ref a ∧ (SqT K H1 a xs ∨ SqL K H1 a xs) ∧
  ∀ x dx, H1 x = none → H1 dx = none → dx ≠ x → sp (V.ref x :: xs) (upd (upd H1 dx (.own x)) x (.ins C dx [])) (fun v H2 => v = .non ∧ Q (.ref x) H2) E
theorem pe_clsStar (M : Mk X.K C f) (F : FnR X.prog X.w X.K X.mg X.base CX k f sp) (hr : Room (k + 1) X.A) (hN : X.N[i]? = some x) (hv : Vis X.env.scope x) (hx : Passes CX X E) (he : PE X e te)
    (hdb : (x == ("__debug__" : PySem.Str)) = false := by decide) (hcd : (x == ("__classdict__" : PySem.Str)) = false := by decide) (hst : starEach [.Starred e sq] X.env = [(true, eval e X.env)] := by rfl) :
    PE X (.Call (.Name x p) [.Starred e sq] [] pos) (tClsStar X.K C i sp E te) := by
  refine ⟨fun pins s σ H Q I h => ?_⟩
  obtain ⟨h0, h⟩ := h
  refine wpAny_Call_Name_kw (thn ((pe_var (pos := p) hN hv hdb hcd).run pins s σ H (fun v H1 => v = .ref C ∧ H1 = H) I ⟨.ref C, h0, rfl, rfl⟩) fun u s1 ⟨v, H1, I1, r1, e1, e2⟩ => ?_)
  subst e1 e2
  obtain rfl : u = Value.ref C := r1
  refine PySem.W.callWith_S (h₀ := X.base) I1.ok.mod.kin M.kp (thn (he.run pins s1 σ _ _ I1 h) fun v s2 ⟨y, H2, I2, ry, a, xs, ey, hxs, q⟩ => ?_) hst
  subst ey
  obtain rfl : v = Value.ref a := ry
  exact StX.star_any I2 hxs fun us s3 I3 rv => ⟨I3.kIn, StX.run_makeR M F hr hx I3 rv q⟩
/-- C(*e), C a class of the module -/
def tGlbStar (K : PySem.W.Frag) (C : Addr) (sp : Sp) (E : XK) (te : TE) : TE := fun σ H Q => te σ H fun y H1 => ∃ a xs, y = V.ref a ∧ (SqT K H1 a xs ∨ SqL K H1 a xs) ∧
  ∀ x dx, H1 x = none → H1 dx = none → dx ≠ x → sp (V.ref x :: xs) (upd (upd H1 dx (.own x)) x (.ins C dx [])) (fun v H2 => v = .non ∧ Q (.ref x) H2) E
theorem pe_glbStar (M : Mk X.K C f) (F : FnR X.prog X.w X.K X.mg X.base CX k f sp) (hr : Room (k + 1) X.A) (hg : Gl X x) (hm : X.mg x = some (.ref C)) (hx : Passes CX X E) (he : PE X e te)
    (hdb : (x == ("__debug__" : PySem.Str)) = false := by decide) (hst : starEach [.Starred e sq] X.env = [(true, eval e X.env)] := by rfl) :
    PE X (.Call (.Name x p) [.Starred e sq] [] pos) (tGlbStar X.K C sp E te) := by
  refine ⟨fun pins s σ H Q I h => wpAny_Call_Name_kw (ld_glob I hg hm ?_ hdb)⟩
  refine PySem.W.callWith_S (h₀ := X.base) I.ok.mod.kin M.kp (thn (he.run pins s σ _ _ I h) fun v s2 ⟨y, H2, I2, ry, a, xs, ey, hxs, q⟩ => ?_) hst
  subst ey
  obtain rfl : v = Value.ref a := ry
  exact StX.star_any I2 hxs fun us s3 I3 rv => ⟨I3.kIn, StX.run_makeR M F hr hx I3 rv q⟩
end
/-! ### number_of_word, atom_of_word: of what text() writes -/
abbrev s_now : Stmt := top 6
abbrev s_aow : Stmt := top 39
abbrev s_read : Stmt := inClass cQ 12
theorem sc_now : FnScope ["word"] ["word"] (defScope s_now) := ⟨rfl, rfl, rfl, by decide +kernel, rfl, by decide +kernel, by decide +kernel⟩
theorem sc_aow : FnScope ["word"] ["word"] (defScope s_aow) := ⟨rfl, rfl, rfl, by decide +kernel, rfl, by decide +kernel, by decide +kernel⟩
theorem sc_read : FnScope ["cls", "text", "atoms", "word"] ["cls", "text"] (defScope s_read) := ⟨rfl, rfl, rfl, by decide +kernel, rfl, by decide +kernel, by decide +kernel⟩
abbrev dg (i : Int) : PySem.Str := PySem.Str.ofString (toString i)
def spNow : Sp := fun vs H Q _ => ∃ i : Int, vs = [.str (dg i)] ∧ 0 ≤ i ∧ i ≤ 9 ∧ Q (.int i) H
def spAow : Sp := fun vs H Q _ => ∃ a : At, vs = [.str (atT a)] ∧ Good a ∧ ∀ p, H p = none → Q (.ref p) (upd H p (.tup [.str a.k, .int a.l, .int a.r]))
theorem dg_facts {i : Int} (h0 : 0 ≤ i) (h9 : i ≤ 9) : (dg i).length = 1 ∧ Txt.isascii (dg i) = true ∧ Txt.isdigit (dg i) = true ∧ PySem.intText? (dg i) = some i := by
  obtain ⟨n, rfl⟩ := Int.eq_ofNat_of_zero_le h0
  have h1 : ∀ n : Nat, n < 10 → (dg ((n : Nat) : Int)).length = 1 ∧ Txt.isascii (dg ((n : Nat) : Int)) = true ∧ Txt.isdigit (dg ((n : Nat) : Int)) = true := by decide +kernel
  have h2 : (TL.numL n).length ≤ 4300 := by
    have e : (TL.numL n).length = (dg ((n : Nat) : Int)).length := by
      rw [← TL.tl_num]
      exact Array.length_toList
    rw [e, (h1 n (by omega)).1]
    decide
  exact ⟨(h1 n (by omega)).1, (h1 n (by omega)).2.1, (h1 n (by omega)).2.2, TL.int_num h2⟩
theorem list1 {x : PySem.Str} (h : x.length = 1) : ∃ c, x.cps.toList = [c] := by
  have e : x.cps.toList.length = 1 := by
    rw [Array.length_toList]
    exact h
  match x.cps.toList, e with
  | [c], _ => exact ⟨c, rfl⟩
theorem cut3 {x y z : PySem.Str} (hx : x.length = 1) (hy : y.length = 1) (hz : z.length = 1) :
    cutS (x ++ y ++ z) none (some 1) = x ∧ cutS (x ++ y ++ z) (some 1) (some 2) = y ∧ cutS (x ++ y ++ z) (some 2) none = z := by
  obtain ⟨a, ha⟩ := list1 hx
  obtain ⟨b, hb⟩ := list1 hy
  obtain ⟨c, hc⟩ := list1 hz
  have l : (x ++ y ++ z).length = 3 := by rw [len_app, len_app, hx, hy, hz]
  have e : (x ++ y ++ z).cps.toList = [a, b, c] := by
    have e1 : (x ++ y ++ z).cps.toList = (x ++ y).cps.toList ++ z.cps.toList := TL.tl_append _ _
    have e2 : (x ++ y).cps.toList = x.cps.toList ++ y.cps.toList := TL.tl_append _ _
    rw [e1, e2, ha, hb, hc]
    rfl
  have back : ∀ (w : PySem.Str) (d : Nat), w.cps.toList = [d] → (⟨[d].toArray⟩ : PySem.Str) = w := fun w d h => by
    cases w with
    | mk cs =>
      have h2 : cs.toList = [d] := h
      rw [← h2]
  refine ⟨?_, ?_, ?_⟩
  · unfold cutS
    rw [l, e]
    exact back x a ha
  · unfold cutS
    rw [l, e]
    exact back y b hb
  · unfold cutS
    rw [l, e]
    exact back z c hc
section
variable {P : Program} {w : World} {K : PySem.W.Frag} {mg : PySem.Str → Option Value} {base : Heap}
theorem ok_now {f : Addr} {fd : FuncData} (F : FnP K "number_of_word" s_now f fd) (T : Tx K mg) (hL : ∃ t, mg "LONGEST_NUMBER" = some (.int 5 t)) : FnOk P w K mg base CX0 1 f fd ["word"] spNow := by
  obtain ⟨tL, gL⟩ := hL
  refine F.ok sc_now (fun vs H Q E h => ?_) (fun cdv A outer s H vs Q E hr h => ?_)
  · obtain ⟨i, rfl, _⟩ := h
    rfl
  · obtain ⟨i, rfl, h0, h9, q⟩ := h
    obtain ⟨l, a1, a2, a3⟩ := dg_facts h0 h9
    refine ⟨_, PSs.nox (pss_cons (ps_if (PW.pt (pw_or (pt_cmpR op_gt (pe_callB call_len_str (by rfl) T.len bLen (pa_cons (pv 0) pa_nil)) (pe_glob (v := .int 5) rfl gL ⟨tL, rfl⟩) (nomark _)) (pw_or (pt_not (pt_val (pe_m0 PySem.F.slot_str_isascii PySem.F.type_str_isascii mt_isascii (pv 0)))) (pw_or1 (pt_not (pt_val (pe_m0 PySem.F.slot_str_isdigit PySem.F.type_str_isdigit mt_isdigit (pv 0)))))))) (pss_one (ps_ret (pe_un un_neg pe_int))) pss_nil)
      (pss_one (ps_ret (pe_callTy call_int_str (by rfl) T.int bInt (pa_cons (pv 0) pa_nil))))), ?_⟩
    refine ⟨_, rfl, _, rfl, by rw [l]; decide, _, 5, rfl, rfl, _, rfl, ?_⟩
    have e : decide ((5 : Int) < ((dg i).length : Nat)) = false := by
      rw [l]
      rfl
    rw [e]
    refine iteF ⟨_, rfl, ⟨_, rfl⟩, _, rfl, rfl, trivial, _, rfl, ?_⟩
    rw [a1]
    refine iteF ⟨_, rfl, ⟨_, rfl⟩, _, rfl, rfl, trivial, _, rfl, ?_⟩
    rw [a2]
    exact iteF ⟨_, rfl, _, i, rfl, a3, by rw [l]; decide, q⟩
theorem ok_aow {f fN : Addr} {fd fdN : FuncData} (F : FnP K "atom_of_word" s_aow f fd) (GN : FnOk P w K mg base CX0 1 fN fdN ["word"] spNow) (bN : Binds K fdN ["word"] []) (kN : PySem.W.keepIn K (.ref fN) = true)
    (gN : mg "number_of_word" = some (.ref fN)) : FnOk P w K mg base CX0 2 f fd ["word"] spAow := by
  refine F.ok sc_aow (fun vs H Q E h => ?_) (fun cdv A outer s H vs Q E hr h => ?_)
  · obtain ⟨a, rfl, _⟩ := h
    rfl
  · obtain ⟨a, rfl, g, q⟩ := h
    have hr1 : Room 1 _ := hr
    refine ⟨_, PSs.nox (pss_one (ps_ret (pe_tup (pa_cons (pe_slice sl_str (pv 0) po_none (po_some pe_int)) (pa_cons (pe_call GN hr1 rfl gN kN bN .nil pass0 (pa_cons (pe_slice sl_str (pv 0) (po_some pe_int) (po_some pe_int)) pa_nil)) (pa_cons (pe_call GN hr1 rfl gN kN bN .nil pass0 (pa_cons (pe_slice sl_str (pv 0) (po_some pe_int) po_none) pa_nil)) pa_nil)))))), ?_⟩
    obtain ⟨c1, c2, c3⟩ := cut3 (kind_len g.k) (dig_len g.l0 g.l9) (dig_len g.r0 g.r9)
    have sz : (atT a).length ≤ sizeLine := by
      rw [atT_len g]
      decide
    refine ⟨_, rfl, 1, rfl, _, rfl, sz, ?_⟩
    refine ⟨_, rfl, 1, rfl, 2, rfl, _, rfl, sz, a.l, by rw [show cutS (atT a) (some 1) (some 2) = dg a.l from c2]; rfl, g.l0, g.l9, ?_⟩
    refine ⟨_, rfl, 2, rfl, _, rfl, sz, a.r, by rw [show cutS (atT a) (some 2) none = dg a.r from c3]; rfl, g.r0, g.r9, ?_⟩
    refine ⟨by show 3 ≤ sizeLine; decide, fun p hp => ?_⟩
    rw [show cutS (atT a) none (some 1) = a.k from c1]
    exact q p hp
/-! ### Question.read, of what text() writes -/
def decW (d : PyData) : Option PyData := match d with
  | .str w => some (.tuple [.str (cutS w none (some 1)), .int ((PySem.intText? (cutS w (some 1) (some 2))).getD 0), .int ((PySem.intText? (cutS w (some 2) none)).getD 0)])
  | _ => none
theorem decW_at {a : At} (g : Good a) : decW (.str (atT a)) = some (atD a) := by
  obtain ⟨c1, c2, c3⟩ := cut3 (kind_len g.k) (dig_len g.l0 g.l9) (dig_len g.r0 g.r9)
  unfold decW
  show some (PyData.tuple [.str (cutS (atT a) none (some 1)), .int ((PySem.intText? (cutS (atT a) (some 1) (some 2))).getD 0), .int ((PySem.intText? (cutS (atT a) (some 2) none)).getD 0)]) = _
  rw [show cutS (atT a) none (some 1) = a.k from c1, show cutS (atT a) (some 1) (some 2) = dg a.l from c2, show cutS (atT a) (some 2) none = dg a.r from c3, (dg_facts g.l0 g.l9).2.2.2, (dg_facts g.r0 g.r9).2.2.2]
  rfl
theorem decW_map {as : List At} (h : ∀ a ∈ as, Good a) : ((as.map atT).map PyData.str).filterMap decW = as.map atD := by
  induction as with
  | nil => rfl
  | cons a as ih =>
    rw [List.map_cons, List.map_cons, List.filterMap_cons, decW_at (h a (.head _)), ih fun b hb => h b (.tail _ hb)]
    rfl
theorem no_space {a : At} (g : Good a) : (32 : Nat) ∉ (atT a).cps.toList := by
  have d : ∀ n : Nat, n < 10 → (32 : Nat) ∉ (dg ((n : Nat) : Int)).cps.toList := by decide +kernel
  have dd : ∀ {i : Int}, 0 ≤ i → i ≤ 9 → (32 : Nat) ∉ (dg i).cps.toList := fun {i} h0 h9 => by
    obtain ⟨n, rfl⟩ := Int.eq_ofNat_of_zero_le h0
    exact d n (by omega)
  have e1 : (atT a).cps.toList = (a.k ++ dg a.l).cps.toList ++ (dg a.r).cps.toList := TL.tl_append _ _
  have e2 : (a.k ++ dg a.l).cps.toList = a.k.cps.toList ++ (dg a.l).cps.toList := TL.tl_append _ _
  rw [e1, e2]
  intro z
  rcases List.mem_append.mp z with z | z
  · rcases List.mem_append.mp z with z | z
    · have k := g.k
      unfold kindOk inV at k
      rw [List.any_eq_true] at k
      obtain ⟨y, hy, e⟩ := k
      have hk : a.k = "A" ∨ a.k = "B" ∨ a.k = "C" := by
        rcases List.mem_cons.mp hy with q | hy
        · subst q
          exact .inl (Eq.symm (by simpa [eqV] using e))
        · rcases List.mem_cons.mp hy with q | hy
          · subst q
            exact .inr (.inl (Eq.symm (by simpa [eqV] using e)))
          · rcases List.mem_cons.mp hy with q | hy
            · subst q
              exact .inr (.inr (Eq.symm (by simpa [eqV] using e)))
            · cases hy
      rcases hk with q | q | q <;> rw [q] at z <;> revert z <;> decide +kernel
    · exact dd g.l0 g.l9 z
  · exact dd g.r0 g.r9 z
theorem split_txt {as : List At} (h : ∀ a ∈ as, Good a) (hn : as ≠ []) : Txt.split (txt as) " " = as.map atT := by
  unfold txt
  refine TL.split_join (y := " ") (s := 32) (S := []) (by decide +kernel) (by decide +kernel) (fun e => hn (List.map_eq_nil_iff.mp e)) fun p hp => ?_
  obtain ⟨a, ha, rfl⟩ := List.mem_map.mp hp
  exact no_space (h a ha)
theorem are_of {as : List At} (h : ∀ a ∈ as, Good a) (l1 : 1 ≤ as.length) (l4 : as.length ≤ 4) : areAt (as.map atD) = true := by
  unfold areAt
  rw [Bool.and_eq_true, Bool.and_eq_true, decide_eq_true_iff, decide_eq_true_iff, List.length_map, List.all_eq_true]
  refine ⟨⟨l1, l4⟩, fun d hd => ?_⟩
  obtain ⟨a, ha, rfl⟩ := List.mem_map.mp hd
  have g := h a ha
  show (kindOk a.k && (decide (0 ≤ a.l) && decide (a.l ≤ 9) && (decide (0 ≤ a.r) && decide (a.r ≤ 9)))) = true
  rw [g.k, decide_eq_true g.l0, decide_eq_true g.l9, decide_eq_true g.r0, decide_eq_true g.r9]
  rfl
theorem txt_len2 {as : List At} (h : ∀ a ∈ as, Good a) : (txt as).length ≤ 4 * as.length := by
  have z := StrLaws.join_length_le " " (as.map atT)
  rw [sum_len h, List.length_map] at z
  have e1 : (PySem.Str.ofString " ").length = 1 := by decide +kernel
  rw [e1] at z
  unfold txt
  rw [TL.join_eq]
  omega
theorem rpa_strs {H : Hp} : ∀ ws : List PySem.Str, RpA H (ws.map V.str) (ws.map PyData.str)
  | [] => .nil
  | x :: ws => .cons (.str _) (rpa_strs ws)
theorem atD_inj : ∀ {bs as : List At}, bs.map atD = as.map atD → bs = as
  | [], [], _ => rfl
  | [], _ :: _, h => by cases h
  | _ :: _, [], h => by cases h
  | ⟨k, l, r⟩ :: bs, ⟨k', l', r'⟩ :: as, h => by
    rw [List.map_cons, List.map_cons, List.cons.injEq] at h
    obtain ⟨h1, h2⟩ := h
    have h3 : PyData.tuple [.str k, .int l, .int r] = PyData.tuple [.str k', .int l', .int r'] := h1
    injection h3 with h3
    simp only [List.cons.injEq, PyData.str.injEq, PyData.int.injEq] at h3
    obtain ⟨rfl, rfl, rfl, _⟩ := h3
    rw [atD_inj h2]
def spRead (C : Addr) : Sp := fun vs H Q _ => ∃ as : List At, vs = [.ref C, .str (txt as)] ∧ (∀ a ∈ as, Good a) ∧ 1 ≤ as.length ∧ as.length ≤ 4 ∧ ∀ x dx p H', H x = none → Same H H' → IsQ H' C x dx p as → Q (.ref x) H'
theorem ok_read {f C N fI fA fR fX : Addr} {fd fdA fdR fdX : FuncData} (F : FnM K "read" "Question.read" s_read f fd) (T : Tx K mg) (M : Mk K C fI) (GI : FnR P w K mg base (L2.CX P w) 4 fI (spInitR C N))
    (GA : FnOk P w K mg base CX0 2 fA fdA ["word"] spAow) (bA : Binds K fdA ["word"] []) (kA : PySem.W.keepIn K (.ref fA) = true) (gA : mg "atom_of_word" = some (.ref fA))
    (GR : FnOk P w K mg base CX0 3 fR fdR ["things"] spAre) (bR : Binds K fdR ["things"] []) (kR : PySem.W.keepIn K (.ref fR) = true) (gR : mg "are_atoms" = some (.ref fR))
    (GX : FnOk P w K mg base CX0 1 fX fdX ["atoms"] spText) (bX : Binds K fdX ["atoms"] []) (kX : PySem.W.keepIn K (.ref fX) = true) (gX : mg "text_of_atoms" = some (.ref fX)) :
    FnOk P w K mg base CX0 6 f fd ["cls", "text"] (spRead C) := by
  refine F.ok sc_read (fun vs H Q E h => ?_) (fun cdv A outer s H vs Q E hr h => ?_)
  · obtain ⟨as, rfl, _⟩ := h
    rfl
  · obtain ⟨as, rfl, gs, l1, l4, q⟩ := h
    have hr1 : Room 1 _ := hr.mono (by decide)
    have hr2 : Room 2 _ := hr.mono (by decide)
    have hr3 : Room 3 _ := hr.mono (by decide)
    refine ⟨_, PSs.nox (pss_cons (ps_if (pt_not (pt_val (pe_callB call_isi (by rfl) T.isi bIsi (pa_cons (pv 1) (pa_cons (pe_bltn (v := .ty "str") (by rfl) T.str bStr rfl) pa_nil))))) pss_never pss_nil)
      (pss_cons (ps_setLc (i := 2) (own := [("word", 3)]) (g := gName 3) (tt := tYes) (by rfl) sc_read.nd rfl rfl (sw_true rfl rfl rfl (by decide +kernel)) (pi_list (pe_split (pv 1) pe_str))
        (blkOk_by (own := [("word", 3)]) (N := ["cls", "text", "atoms", "word"]) (sc := defScope s_read) (by decide +kernel))
        (fun _ _ _ _ _ => pg_name (i := 3) sc_read.nd rfl (Or.inl rfl)) (fun _ _ _ _ _ => pts_nil) (fun _ _ _ _ _ => (pe_call GA hr2 rfl gA kA bA .nil pass0 (pa_cons (pv 3) pa_nil))))
      (pss_cons (ps_if (PW.pt (pw_or (pt_not (pt_val (pe_call GR hr3 rfl gR kR bR .nil pass0 (pa_cons (pv 2) pa_nil)))) (pw_or1 (pt_cmpR op_ne (pe_call GX hr1 rfl gX kX bX .nil pass0 (pa_cons (pv 2) pa_nil)) (pv 1) (nomark _))))) pss_never pss_nil)
      (pss_one (ps_ret (pe_clsStar (i := 0) M GI hr rfl (Or.inl rfl) passL (pv 2))))))), ?_⟩
    have tl := txt_len2 gs
    refine ⟨_, rfl, _, _, _, _, true, rfl, .ty _, .base (.str _), kit_ty (show kitB "str" "str" = some true by decide +kernel), _, rfl, iteF ?_⟩
    refine ⟨_, rfl, ⟨_, rfl⟩, _, _, rfl, rfl, by decide +kernel, Nat.le_trans (show (txt as).length + 2 ≤ 1000 by omega) (by decide), fun u hu => ?_⟩
    rw [split_txt gs (by intro z; rw [z] at l1; simp at l1)]
    refine ⟨u, rfl, ⟨_, .inl (.inl upd_same)⟩, fun D hD => ?_⟩
    have r0 : RpA (upd H u (.lst ((as.map atT).map V.str))) ((as.map atT).map V.str) ((as.map atT).map PyData.str) := rpa_strs _
    have s0 : Same H (upd H u (.lst ((as.map atT).map V.str))) := same_new hu
    refine lcL (F := decW) upd_same r0 (by rw [List.length_map, List.length_map]; omega) hD (fun x d H' Nx hm s1 hn rx c _ => ⟨rfl, ?_⟩) fun H1 acc s1 h1 h2 => ?_
    · obtain ⟨x1, hx1, rfl⟩ := List.mem_map.mp hm
      obtain ⟨a, ha, rfl⟩ := List.mem_map.mp hx1
      have ex := rx.isS rfl
      subst ex
      refine ⟨_, rfl, a, rfl, gs a ha, fun p hp => c _ _ _ (decW_at (gs a ha)) (same_new hp) (.tup ?_ (.cons (.str _) (.cons (.int _) (.cons (.int _) .nil))))⟩
      rw [off_ne (fun e => hn (by rw [← e]; exact hp)), upd_same]
    · rw [show keptD decW ((as.map atT).map PyData.str) = as.map atD from decW_map gs] at h2
      have s2 := s0.trans s1
      have rD : Rp H1 (.ref D) (.list (as.map atD)) := .lst h1 (h2.mono off_same)
      refine ⟨_, rfl, _, _, _, rfl, rD, .inr rfl, by rw [List.length_map]; omega, fun H2 s3 => ?_⟩
      rw [are_of gs l1 l4]
      refine ⟨_, rfl, iteF ⟨_, rfl, _, _, as, rfl, rD.mono s3, .inr rfl, by omega, gs, fun H3 s4 => ⟨_, rfl, rfl, _, rfl, iteNS rfl ?_⟩⟩⟩
      refine ⟨rfl, _, rfl, D, acc, rfl, .inr (.inl (.inl ((s3.trans s4) _ _ h1))), ?_⟩
      refine make_q (N := N) ((h2.mono off_same).mono (s3.trans s4)) (by rw [List.length_map]; omega) (fun z => ?_) fun bs e gb hA x dx p H' nx sx hq => ?_
      · rw [are_of gs l1 l4] at z
        cases z
      · have eb : bs = as := by
          first | exact atD_inj e | exact atD_inj e.symm
        subst eb
        exact q x dx p H' ((s2.trans (s3.trans s4)).free nx) ((s2.trans (s3.trans s4)).trans sx) hq
end
end Q

set_option maxHeartbeats 4000000
namespace Ca
open PySem PySem.Spec PyProof.Rows L2
/-- a def of the module under its name -/
structure Fd (P : Program) (w : World) (K : PySem.W.Frag) (mg : PySem.Str → Option Value) (base : Heap) (x : PySem.Str) (k : Nat) (ps : List PySem.Str) (sp : Sp) : Prop where
  ex : ∃ f fd, FnOk P w K mg base CX0 k f fd ps sp ∧ Binds K fd ps [] ∧ PySem.W.keepIn K (.ref f) = true ∧ mg x = some (.ref f)
/-- ascending, each once -/
def ins1 (n : Int) : List Int → List Int
  | [] => [n]
  | m :: l => if n < m then n :: m :: l else if n = m then m :: l else m :: ins1 n l
def sd (l : List Int) : List Int := l.foldr ins1 []
theorem ins1_mem {n k : Int} : ∀ {l : List Int}, k ∈ ins1 n l ↔ k = n ∨ k ∈ l
  | [] => by simp [ins1]
  | m :: l => by
    unfold ins1
    split
    · simp
    · split
      · rename_i h
        subst h
        simp
      · rw [List.mem_cons, ins1_mem (l := l), List.mem_cons]
        constructor
        · rintro (h | h | h)
          · exact .inr (.inl h)
          · exact .inl h
          · exact .inr (.inr h)
        · rintro (h | h | h)
          · exact .inr (.inl h)
          · exact .inl h
          · exact .inr (.inr h)
theorem sd_mem {k : Int} : ∀ {l : List Int}, k ∈ sd l ↔ k ∈ l
  | [] => by simp [sd]
  | n :: l => by
    show k ∈ ins1 n (sd l) ↔ _
    rw [ins1_mem, sd_mem (l := l), List.mem_cons]
theorem ins1_up {n : Int} : ∀ {l : List Int}, l.Pairwise (· < ·) → (ins1 n l).Pairwise (· < ·)
  | [], _ => by simp [ins1]
  | m :: l, h => by
    rw [List.pairwise_cons] at h
    unfold ins1
    split
    · rename_i c
      rw [List.pairwise_cons]
      refine ⟨fun k hk => ?_, List.pairwise_cons.mpr h⟩
      rcases List.mem_cons.mp hk with e | e
      · rw [e]; exact c
      · exact Int.lt_trans c (h.1 k e)
    · split
      · exact List.pairwise_cons.mpr h
      · rename_i c1 c2
        rw [List.pairwise_cons]
        refine ⟨fun k hk => ?_, ins1_up h.2⟩
        rcases ins1_mem.mp hk with e | e
        · rw [e]; omega
        · exact h.1 k e
theorem sd_up : ∀ l : List Int, (sd l).Pairwise (· < ·)
  | [] => .nil
  | n :: l => ins1_up (sd_up l)
theorem up_eq : ∀ {a b : List Int}, a.Pairwise (· < ·) → b.Pairwise (· < ·) → (∀ k, k ∈ a ↔ k ∈ b) → a = b
  | [], [], _, _, _ => rfl
  | [], m :: b, _, _, h => absurd ((h m).mpr (.head _)) (by simp)
  | n :: a, [], _, _, h => absurd ((h n).mp (.head _)) (by simp)
  | n :: a, m :: b, ha, hb, h => by
    rw [List.pairwise_cons] at ha hb
    have e : n = m := by
      rcases List.mem_cons.mp ((h n).mp (.head _)) with z | z
      · exact z
      · rcases List.mem_cons.mp ((h m).mpr (.head _)) with y | y
        · exact y.symm
        · have := ha.1 m y
          have := hb.1 n z
          omega
    subst e
    rw [up_eq ha.2 hb.2 fun k => ?_]
    constructor
    · intro hk
      rcases List.mem_cons.mp ((h k).mp (.tail _ hk)) with z | z
      · have := ha.1 k hk
        omega
      · exact z
    · intro hk
      rcases List.mem_cons.mp ((h k).mpr (.tail _ hk)) with z | z
      · have := hb.1 k hk
        omega
      · exact z
end Ca
namespace Q
open PySem PySem.Spec PyProof.Rows L2 Ca
/-! what is proved already, as promises over data -/
theorem ats_off {S : Addr → Bool} {H : Hp} (f : Fr S H) {as : List At} {xs : List V} (r : RpA H xs (as.map atD)) : RpA (offS S H) xs (as.map atD) :=
  by
  induction as generalizing xs with
  | nil => cases r; exact .nil
  | cons a as ih =>
    cases r with
    | cons h q =>
      obtain ⟨p, rfl, hp⟩ := at_of h
      exact .cons (.tup (by rw [offS_at (f.imm hp (by simp [MutO]))]; exact hp) (.cons (.str _) (.cons (.int _) (.cons (.int _) .nil)))) (ih q)
def RVars : List PyData → PyData → Prop := fun ds d => ∃ as : List At, (ds = [.tuple (as.map atD)] ∨ ds = [.list (as.map atD)]) ∧ as.length ≤ 30 ∧ d = .tuple ((sd (vars as)).map .int)
def RText : List PyData → PyData → Prop := fun ds d => ∃ as : List At, (ds = [.tuple (as.map atD)] ∨ ds = [.list (as.map atD)]) ∧ as.length ≤ 30 ∧ (∀ a ∈ as, Good a) ∧ d = .str (txt as)
def RAre : List PyData → PyData → Prop := fun ds d => ∃ es : List PyData, (ds = [.tuple es] ∨ ds = [.list es]) ∧ es.length ≤ 1000 ∧ d = .bool (areAt es)
section
variable {P : Program} {w : World} {K : PySem.W.Frag} {mg : PySem.Str → Option Value} {base : Heap}
theorem vars_imp : ∀ vs H Q E, spR RVars vs H Q E → spVars vs H Q E := by
  rintro vs H Q E ⟨S, ds, d, f, r, ⟨as, hd, hl, rfl⟩, q⟩
  have key : ∀ d0, ds = [d0] → (d0 = .tuple (as.map atD) ∨ d0 = .list (as.map atD)) → spVars vs H Q E := by
    intro d0 e h0
    subst e
    obtain ⟨v, rfl, rv⟩ := rpa1 r
    refine ⟨v, d0, as, rfl, rv.mono offS_same, h0, hl, fun p ns H' hp s h1 up hm => ?_⟩
    have e : ns = sd (vars as) := up_eq up (sd_up _) fun k => by rw [hm k, sd_mem]
    subst e
    exact q _ H' s (.tup (by rw [offS_at (f.new hp)]; exact h1) (rp_ints _))
  rcases hd with e | e
  · exact key _ e (.inl rfl)
  · exact key _ e (.inr rfl)
theorem text_imp : ∀ vs H Q E, spR RText vs H Q E → spText vs H Q E := by
  rintro vs H Q E ⟨S, ds, d, f, r, ⟨as, hd, hl, hg, rfl⟩, q⟩
  rcases hd with e | e
  all_goals
    subst e
    obtain ⟨v, rfl, rv⟩ := rpa1 r
    exact ⟨v, _, as, rfl, rv.mono offS_same, by first | exact .inl rfl | exact .inr rfl, hl, hg, fun H' s => q _ H' s (.str _)⟩
theorem are_imp : ∀ vs H Q E, spR RAre vs H Q E → spAre vs H Q E := by
  rintro vs H Q E ⟨S, ds, d, f, r, ⟨es, hd, hl, rfl⟩, q⟩
  rcases hd with e | e
  all_goals
    subst e
    obtain ⟨v, rfl, rv⟩ := rpa1 r
    exact ⟨v, _, es, rfl, rv.mono offS_same, by first | exact .inl rfl | exact .inr rfl, hl, fun H' s => q _ H' s (.bl _)⟩
end
end Q

set_option maxHeartbeats 4000000
namespace Q
open PySem PySem.Spec PyProof.Rows L2 Ca
/-! questions as values -/
def QV (C : Addr) (as : List At) (F : Hp) (v : V) : Prop := ∃ x dx p, v = .ref x ∧ IsQ F C x dx p as
theorem QV.mono {H H' : Hp} {C : Addr} {as : List At} {v : V} (s : Same H H') (h : QV C as H v) : QV C as H' v := by
  obtain ⟨x, dx, p, e, q⟩ := h
  exact ⟨x, dx, p, e, q.mono s⟩
theorem rp_at_off {S : Addr → Bool} {H : Hp} (f : Fr S H) {a : At} {v : V} (r : Rp H v (atD a)) : Rp (offS S H) v (atD a) := by
  obtain ⟨p, rfl, hp⟩ := at_of r
  exact .tup (by rw [offS_at (f.imm hp (by simp [MutO]))]; exact hp) (.cons (.str _) (.cons (.int _) (.cons (.int _) .nil)))
theorem IsQ.off {S : Addr → Bool} {H : Hp} {C x dx p : Addr} {as : List At} (f : Fr S H) (h : IsQ H C x dx p as) : IsQ (offS S H) C x dx p as := by
  obtain ⟨o, u, ns, h1, h2, h3, h4, bs, e1, e2, e3, e4⟩ := h.obj
  refine ⟨o, u, ns, ?_, ?_, h3, h4, bs, e1, ?_, ?_, fun b hb => ?_⟩
  · rw [offS_at (f.imm h1 (by simp [MutO]))]; exact h1
  · rw [offS_at (f.imm h2 (by simp [MutO]))]; exact h2
  · rw [offS_at (f.imm e2 (by simp [MutO]))]; exact e2
  · rw [offS_at (f.imm e3 (by simp [MutO]))]; exact e3
  · have m : b.2 ∈ as.map atD := by
      rw [← e1]
      exact List.mem_map.mpr ⟨b, hb, rfl⟩
    obtain ⟨a, _, ea⟩ := List.mem_map.mp m
    have r := e4 b hb
    rw [← ea] at r ⊢
    exact rp_at_off f r
theorem QV.off {S : Addr → Bool} {H : Hp} {C : Addr} {as : List At} {v : V} (f : Fr S H) (h : QV C as H v) : QV C as (offS S H) v := by
  obtain ⟨x, dx, p, e, q⟩ := h
  exact ⟨x, dx, p, e, q.off f⟩
/-- the promise of a def: I what its arguments are and what is true of its answer -/
def spQ (I : Hp → List V → (Hp → V → Prop) → Prop) : Sp := fun vs H Q _ => ∃ (S : Addr → Bool) (P : Hp → V → Prop), Fr S H ∧ I (offS S H) vs P ∧ ∀ v H', Same H H' → P (offS S H') v → Q v H'
theorem spQ_len {I : Hp → List V → (Hp → V → Prop) → Prop} {n : Nat} (h : ∀ F vs P, I F vs P → vs.length = n) : ∀ vs H Q E, spQ I vs H Q E → vs.length = n := fun vs H Q E ⟨S, P, f, i, _⟩ => h _ _ _ i
section
variable {K : PySem.W.Frag} {mg : PySem.Str → Option Value} {σ : L2.St} {F : Hp} {ta tb te : TE} {tas : TA} {C N : Addr} {as : List At} {P P0 : Hp → V → Prop} {E : XK} {I : Hp → List V → (Hp → V → Prop) → Prop}
theorem e_prop (h : EvP ta σ F P0) (hi : ∀ F v, P0 F v → I F [v] P ∧ ∃ a dx fs, v = .ref a ∧ F a = some (.ins C dx fs)) : EvP (tProp C (spQ I) [] E ta) σ F P := fun S H1 f s Q q =>
  h S H1 f s _ fun v H2 s2 p => by
    obtain ⟨i, a, dx, fs, rfl, ha⟩ := hi _ v p
    exact ⟨a, dx, fs, rfl, offS_same _ _ ha, S, P, f.mono s2, i, fun v H3 s3 p3 => q v H3 (s2.trans s3) p3⟩
theorem e_meth0 {m : PySem.Str} (h : EvP ta σ F P0) (hi : ∀ F v, P0 F v → I F [v] P ∧ ∃ a dx fs, v = .ref a ∧ F a = some (.ins C dx fs) ∧ fs.lookup m = none) : EvP (tMeth C m (spQ I) [] E ta tNil) σ F P := fun S H1 f s Q q =>
  h S H1 f s _ fun v H2 s2 p => by
    obtain ⟨i, a, dx, fs, rfl, ha, hm⟩ := hi _ v p
    exact ⟨a, dx, fs, rfl, offS_same _ _ ha, hm, S, P, f.mono s2, i, fun v H3 s3 p3 => q v H3 (s2.trans s3) p3⟩
theorem e_call1 (h : EvP ta σ F P0) (hi : ∀ F v, P0 F v → I F [v] P) : EvP (tCall (spQ I) [] E (tCons ta tNil)) σ F P := fun S H1 f s Q q =>
  h S H1 f s _ fun v H2 s2 p => ⟨S, P, f.mono s2, hi _ v p, fun v H3 s3 p3 => q v H3 (s2.trans s3) p3⟩
/-- the class's own attributes -/
theorem e_given (cl : Cls K C) (nG : NoAttr K C "given") (h : EvP ta σ F (QV C as)) : EvD (tFld K ta "given") σ F (.tuple (as.map atD)) := fun S H1 f s Q q =>
  h S H1 f s _ fun v H2 s2 p => by
    obtain ⟨x, dx, p, rfl, hq⟩ := p
    obtain ⟨o, u, ns, h1, _⟩ := hq.obj
    exact ⟨x, C, dx, _, _, rfl, offS_same _ _ h1, cl, nG, qf_given _ _ _, q _ H2 s2 hq.atoms⟩
/-- Question(*x), x a list of atoms -/
theorem e_glbStar (h : EvD te σ F (.list (as.map atD))) (g : ∀ a ∈ as, Good a) (l1 : 1 ≤ as.length) (l4 : as.length ≤ 4) : EvP (tGlbStar K C (spInitR C N) E te) σ F (QV C as) := fun S H1 f s Q q =>
  h S H1 f s _ fun v H2 s2 r => by
    obtain ⟨a, xs, rfl, ha, rx⟩ := rp_lst r
    refine ⟨a, xs, rfl, .inr (.inl (.inl ha)), make_q (N := N) (rx.mono offS_same) (by rw [List.length_map]; omega) (fun z => ?_) fun bs e gb hA x dx p H' nx sx hq => ?_⟩
    · rw [are_of g l1 l4] at z
      cases z
    · have eb : bs = as := by
        first | exact atD_inj e | exact atD_inj e.symm
      subst eb
      exact q _ H' (s2.trans sx) ⟨x, dx, p, rfl, hq.off ((f.mono s2).mono sx)⟩
end
def IRead (C : Addr) : Hp → List V → (Hp → V → Prop) → Prop := fun F vs P => ∃ as, vs = [.ref C, .str (txt as)] ∧ (∀ a ∈ as, Good a) ∧ 1 ≤ as.length ∧ as.length ≤ 4 ∧ P = QV C as
theorem read_imp {C : Addr} : ∀ vs H Q E, spQ (IRead C) vs H Q E → spRead C vs H Q E := by
  rintro vs H Q E ⟨S, P, f, ⟨as, rfl, g, l1, l4, rfl⟩, q⟩
  exact ⟨as, rfl, g, l1, l4, fun x dx p H' hx s hq => q _ H' s ⟨x, dx, p, rfl, hq.off (f.mono s)⟩⟩
end Q

set_option maxHeartbeats 400000
namespace Ca
open PySem PySem.Spec PyProof.Rows L2
/-- data that are short when shown -/
structure Fit (d : PyData) (k n : Nat) : Prop where
  sh : d.showable = true
  dp : d.depth ≤ k
  ln : d.shown.length ≤ n
theorem Fit.mono {d : PyData} {k n k' n' : Nat} (h : Fit d k n) (hk : k ≤ k') (hn : n ≤ n') : Fit d k' n' := ⟨h.sh, Nat.le_trans h.dp hk, Nat.le_trans h.ln hn⟩
theorem fit_none : Fit .none 0 10 := ⟨by simp [PyData.showable], by simp [PyData.depth], by simp only [PyData.shown]; decide +kernel⟩
theorem fit_bool (b : Bool) : Fit (.bool b) 0 10 := ⟨by simp [PyData.showable], by simp [PyData.depth], by simp only [PyData.shown]; cases b <;> decide +kernel⟩
theorem fit_int {i : Int} (h : i.natAbs < 10 ^ 14) : Fit (.int i) 0 20 := by
  refine ⟨?_, by simp [PyData.depth], ?_⟩
  · have h1 : i.natAbs.log2 < 1920 := by
      by_cases z : i.natAbs = 0
      · rw [z]
        decide
      · rw [Nat.log2_lt z]
        exact Nat.lt_of_lt_of_le h (by decide +kernel)
    simpa [PyData.showable] using h1
  · have h2 := int_text_length_le10 (a := i) (k := 14) (by decide) h
    simp only [PyData.shown]
    show (PySem.Str.ofString (toString i)).length ≤ 20
    rw [PySem.ofString_length]
    omega
theorem fit_str {x : PySem.Str} {m : Nat} (hx : ∀ c ∈ x.cps.toList, c < 16 ^ 8) (hl : x.length ≤ m) : Fit (.str x) 0 (10 * m + 2) := by
  refine ⟨by simp [PyData.showable], by simp [PyData.depth], ?_⟩
  have := StrLaws.reprText_len x hx
  simp only [PyData.shown]
  omega
theorem all_sh : ∀ {ds : List PyData} {k n : Nat}, (∀ d ∈ ds, Fit d k n) → PyData.showableAll ds = true ∧ PyData.depthAll ds ≤ k ∧ ((PyData.shownAll ds).map (·.length)).sum ≤ ds.length * n
  | [], _, _, _ => by simp [PyData.showableAll, PyData.depthAll, PyData.shownAll]
  | d :: ds, k, n, h => by
    obtain ⟨h1, h2, h3⟩ := all_sh (ds := ds) fun e he => h e (.tail _ he)
    have f := h d (.head _)
    refine ⟨by simp [PyData.showableAll, f.sh, h1], ?_, ?_⟩
    · simp only [PyData.depthAll]
      have := f.dp
      omega
    · simp only [PyData.shownAll, List.map_cons, List.sum_cons, List.length_cons]
      have := f.ln
      rw [Nat.add_mul]
      omega
theorem shownAll_len (ds : List PyData) : (PyData.shownAll ds).length = ds.length := by
  rw [shownAll_eq_map, List.length_map]
theorem fit_list {ds : List PyData} {k n m : Nat} (h : ∀ d ∈ ds, Fit d k n) (hl : ds.length ≤ m) : Fit (.list ds) (k + 1) (m * (n + 2) + 3) := by
  obtain ⟨h1, h2, h3⟩ := all_sh h
  refine ⟨by simpa [PyData.showable] using h1, by simp only [PyData.depth]; omega, ?_⟩
  simp only [PyData.shown]
  have h4 := listText_len_le (PyData.shownAll ds)
  rw [shownAll_len] at h4
  have h5 : ds.length * (n + 2) ≤ m * (n + 2) := Nat.mul_le_mul_right _ hl
  rw [Nat.mul_add] at h5
  omega
theorem fit_tuple {ds : List PyData} {k n m : Nat} (h : ∀ d ∈ ds, Fit d k n) (hl : ds.length ≤ m) : Fit (.tuple ds) (k + 1) (m * (n + 2) + 3) := by
  obtain ⟨h1, h2, h3⟩ := all_sh h
  refine ⟨by simpa [PyData.showable] using h1, by simp only [PyData.depth]; omega, ?_⟩
  simp only [PyData.shown]
  have h4 := tupleText_len_le (PyData.shownAll ds)
  rw [shownAll_len] at h4
  have h5 : ds.length * (n + 2) ≤ m * (n + 2) := Nat.mul_le_mul_right _ hl
  rw [Nat.mul_add] at h5
  omega
theorem fit_dict0 : Fit (.dict []) 1 10 := ⟨by simp [PyData.showable, PyData.showableKv], by simp [PyData.depth, PyData.depthKv], by simp only [PyData.shown, PyData.shownKv]; decide +kernel⟩
end Ca
namespace Q
open PySem PySem.Spec PyProof.Rows L2 Ca
def Ascii (x : PySem.Str) : Prop := ∀ c ∈ x.cps.toList, c < 16 ^ 8
theorem kind_is {k : PySem.Str} (h : kindOk k = true) : k = "A" ∨ k = "B" ∨ k = "C" := by
  unfold kindOk inV at h
  rw [List.any_eq_true] at h
  obtain ⟨y, hy, e⟩ := h
  rcases List.mem_cons.mp hy with z | hy
  · subst z
    exact .inl (by simpa [eqV] using (Eq.symm (by simpa [eqV] using e)))
  · rcases List.mem_cons.mp hy with z | hy
    · subst z
      exact .inr (.inl (by simpa [eqV] using (Eq.symm (by simpa [eqV] using e))))
    · rcases List.mem_cons.mp hy with z | hy
      · subst z
        exact .inr (.inr (by simpa [eqV] using (Eq.symm (by simpa [eqV] using e))))
      · cases hy
theorem ascii_ofs {x : PySem.Str} (h : x.cps.toList.all (fun c => decide (c < 16 ^ 8)) = true) : Ascii x := fun c hc => of_decide_eq_true (List.all_eq_true.mp h c hc)
theorem ascii_kind {k : PySem.Str} (h : kindOk k = true) : Ascii k := by
  rcases kind_is h with z | z | z <;> subst z <;> exact ascii_ofs (by decide +kernel)
theorem ascii_dig {i : Int} (h0 : 0 ≤ i) (h9 : i ≤ 9) : Ascii (PySem.Str.ofString (toString i)) := by
  obtain ⟨n, rfl⟩ := Int.eq_ofNat_of_zero_le h0
  have h : ∀ n : Nat, n < 10 → (PySem.Str.ofString (toString ((n : Nat) : Int))).cps.toList.all (fun c => decide (c < 16 ^ 8)) = true := by decide +kernel
  exact ascii_ofs (h n (by omega))
theorem ascii_app {x y : PySem.Str} (hx : Ascii x) (hy : Ascii y) : Ascii (x ++ y) := fun c hc => by
  have e : (x ++ y).cps.toList = x.cps.toList ++ y.cps.toList := TL.tl_append x y
  rw [e] at hc
  rcases List.mem_append.mp hc with z | z
  · exact hx c z
  · exact hy c z
theorem ascii_join {s : PySem.Str} (hs : Ascii s) : ∀ {l : List PySem.Str}, (∀ x ∈ l, Ascii x) → Ascii (PySem.Str.join s l)
  | [], _ => fun c hc => by
    have e : (PySem.Str.join s []).cps.toList = [] := TL.tl_join s []
    rw [e] at hc
    cases hc
  | [x], h => fun c hc => by
    have e : (PySem.Str.join s [x]).cps.toList = x.cps.toList := TL.tl_join s [x]
    rw [e] at hc
    exact h x (.head _) c hc
  | x :: y :: r, h => by
    have e : PySem.Str.join s (x :: y :: r) = x ++ s ++ PySem.Str.join s (y :: r) := rfl
    rw [e]
    exact ascii_app (ascii_app (h x (.head _)) hs) (ascii_join hs fun z hz => h z (.tail _ hz))
end Q

set_option maxHeartbeats 400000
namespace Q
open PySem PySem.Spec PyProof.Rows L2 Ca
/-! ### the source of what is drawn -/
def Src (H : Hp) (s : Addr) : Prop := ∃ a b c : Int, H s = some (.lst [.int a, .int b, .int c])
/-- the source may have changed, nothing else -/
structure Stp (H H' : Hp) (s : Addr) : Prop where
  src : Src H' s
  same : ∀ b, b ≠ s → H' b = H b
theorem Stp.refl {H : Hp} {s : Addr} (h : Src H s) : Stp H H s := ⟨h, fun _ _ => rfl⟩
theorem Stp.trans {H H1 H2 : Hp} {s : Addr} (a : Stp H H1 s) (b : Stp H1 H2 s) : Stp H H2 s := ⟨b.src, fun x hx => (b.same x hx).trans (a.same x hx)⟩
theorem Stp.tup {H H' : Hp} {s t : Addr} {xs : List V} (h : Stp H H' s) (hs : Src H s) (ht : H t = some (.tup xs)) : H' t = some (.tup xs) := by
  obtain ⟨a, b, c, hs⟩ := hs
  rw [h.same t (ne_of ht hs (by intro z; cases z))]
  exact ht
theorem stp_upd {H : Hp} {s : Addr} {a b c : Int} : Stp H (upd H s (.lst [.int a, .int b, .int c])) s := ⟨⟨a, b, c, upd_same⟩, fun _ h => upd_ne h⟩
abbrev s_draw : Stmt := top 50
theorem sc_draw : FnScope ["_law_source_here", "_law_many", "_law_found", "_law_mixed"] ["_law_source_here", "_law_many"] (defScope s_draw) := ⟨rfl, rfl, rfl, by decide +kernel, rfl, by decide +kernel, by decide +kernel⟩
def spDraw : Sp := fun vs H Q _ => ∃ (s : Addr) (m : Int), vs = [.ref s, .int m] ∧ Src H s ∧ 0 < m ∧ m < 2 ^ 62 ∧ ∀ (z : Int) (H' : Hp), 0 ≤ z → z < m → Stp H H' s → Q (.int z) H'
theorem mod_bd (x : Int) {m : Int} (h0 : 0 < m) (h1 : m < 2 ^ 62) : -(2 ^ 64) < x % m ∧ x % m < 2 ^ 64 := by
  have a := Int.emod_nonneg x (show m ≠ 0 by omega)
  have b := Int.emod_lt_of_pos x h0
  omega
theorem cdw {i m : Int} (h0 : 0 < m) (h1 : m < 2 ^ 62) : CDivW i m := wide_div (b := 62) h0 (by omega) (by decide) (by decide)
section
variable {P : Program} {w : World} {K : PySem.W.Frag} {mg : PySem.Str → Option Value} {base : Heap}
theorem ok_draw {f : Addr} {fd : FuncData} (F : FnP K "_law_draw" s_draw f fd) : FnOk P w K mg base CX0 1 f fd ["_law_source_here", "_law_many"] spDraw := by
  refine F.ok sc_draw (fun vs H Q E h => ?_) (fun cdv A outer s H vs Q E hr h => ?_)
  · obtain ⟨s, m, rfl, _⟩ := h
    rfl
  · obtain ⟨s, m, rfl, ⟨a, b, c, hs⟩, m0, m1, q⟩ := h
    refine ⟨_, PSs.nox (pss_cons (ps_if (pt_cmpR op_gt (pe_ix ix_list (pv 0) pe_int (fun _ _ => rfl)) pe_int (nomark _))
        (pss_cons (ps_set (i := 2) sc_draw.nd rfl (.inl rfl) (pe_op op_mod (pe_ix ix_list (pv 0) pe_int (fun _ _ => rfl)) (pv 1)))
        (pss_cons (ps_asg (pe_op op_fdivW (pe_ix ix_list (pv 0) pe_int (fun _ _ => rfl)) (pv 1)) (pg_sub (pv 0) pe_int set_list))
        (pss_one (ps_ret (pv 2))))) pss_nil)
      (pss_cons (ps_asg (pe_op op_add (pe_ix ix_list (pv 0) pe_int (fun _ _ => rfl)) pe_int) (pg_sub (pv 0) pe_int set_list))
      (pss_cons (ps_asg (pe_op op_mod (pe_op op_add (pe_op op_add (pe_op op_mul (pe_ix ix_list (pv 0) pe_int (fun _ _ => rfl)) pe_int) (pe_op op_mul pe_int (pe_ix ix_list (pv 0) pe_int (fun _ _ => rfl)))) pe_int) pe_int) (pg_sub (pv 0) pe_int set_list))
      (pss_cons (ps_set (i := 3) sc_draw.nd rfl (.inl rfl) (pe_op op_mod (pe_op op_add (pe_op op_add (pe_op op_mul (pe_ix ix_list (pv 0) pe_int (fun _ _ => rfl)) (pe_ix ix_list (pv 0) pe_int (fun _ _ => rfl))) (pe_op op_mul pe_int (pe_ix ix_list (pv 0) pe_int (fun _ _ => rfl)))) pe_int) pe_int))
      (pss_cons (ps_set (i := 3) sc_draw.nd rfl (.inl rfl) (pe_op op_mod (pe_op op_add (pe_op op_mul (pv 3) (pv 3)) (pe_op op_mul pe_int (pv 3))) pe_int))
      (pss_one (ps_ret (pe_op op_mod (pe_op op_fdiv (pv 3) pe_int) (pv 1))))))))), ?_⟩
    refine ⟨_, rfl, s, _, 0, _, rfl, rfl, .inl (.inl hs), rfl, a, 0, rfl, rfl, _, rfl, ?_⟩
    by_cases c0 : (0 : Int) < a
    · rw [decide_eq_true c0]
      refine iteT ⟨_, rfl, s, _, 0, _, rfl, rfl, .inl (.inl hs), rfl, _, rfl, a, m, rfl, rfl, m0, ?_⟩
      refine ⟨_, rfl, s, _, 0, _, rfl, rfl, .inl (.inl hs), rfl, _, rfl, a, m, rfl, rfl, cdw m0 m1, ?_⟩
      refine ⟨_, rfl, s, _, 0, 0, rfl, rfl, hs, rfl, ?_⟩
      refine ⟨_, rfl, q _ _ (Int.emod_nonneg _ (by omega)) (Int.emod_lt_of_pos _ m0) ?_⟩
      exact stp_upd
    · rw [decide_eq_false c0]
      refine iteF ⟨_, rfl, s, _, 2, _, rfl, rfl, .inl (.inl hs), rfl, c, 1, rfl, rfl, ?_⟩
      refine ⟨_, rfl, s, _, 2, 2, rfl, rfl, hs, rfl, ?_⟩
      refine ⟨_, rfl, s, _, 1, _, rfl, rfl, .inl (.inl upd_same), rfl, b, 48271, rfl, rfl, .inr ⟨by decide, by decide⟩, ?_⟩
      refine ⟨_, rfl, s, _, 2, _, rfl, rfl, .inl (.inl upd_same), rfl, 1009, _, rfl, rfl, .inl ⟨by decide, by decide⟩, _, _, rfl, rfl, _, 7, rfl, rfl, _, 2147483647, rfl, rfl, show (0 : Int) < 2147483647 by decide, ?_⟩
      refine ⟨_, rfl, s, _, 1, 1, rfl, rfl, upd_same, rfl, ?_⟩
      refine ⟨_, rfl, s, _, 1, _, rfl, rfl, .inl (.inl upd_same), rfl, _, rfl, s, _, 1, _, rfl, rfl, .inl (.inl upd_same), rfl, _, _, rfl, rfl, .inl (mod_bd _ (by decide) (by decide)), ?_⟩
      refine ⟨_, rfl, s, _, 1, _, rfl, rfl, .inl (.inl upd_same), rfl, 69621, _, rfl, rfl, .inl ⟨by decide, by decide⟩, _, _, rfl, rfl, _, 11, rfl, rfl, _, 2147483629, rfl, rfl, show (0 : Int) < 2147483629 by decide, ?_⟩
      refine ⟨_, rfl, _, rfl, _, _, rfl, rfl, .inl (mod_bd _ (by decide) (by decide)), ?_⟩
      refine ⟨_, rfl, 40014, _, rfl, rfl, .inl ⟨by decide, by decide⟩, _, _, rfl, rfl, _, 2147483587, rfl, rfl, show (0 : Int) < 2147483587 by decide, ?_⟩
      refine ⟨_, rfl, _, 16, rfl, rfl, ⟨by decide, by decide⟩, _, rfl, _, m, rfl, rfl, m0, ?_⟩
      exact q _ _ (Int.emod_nonneg _ (by omega)) (Int.emod_lt_of_pos _ m0) (Stp.trans (H1 := upd H s (.lst [.int a, .int b, .int (c + 1)])) stp_upd stp_upd)
end
abbrev s_cell : Stmt := top 48
abbrev s_source : Stmt := top 49
abbrev s_choose : Stmt := top 51
theorem sc_cell : FnScope ["_law_script", "_law_index"] ["_law_script", "_law_index"] (defScope s_cell) := ⟨rfl, rfl, rfl, by decide +kernel, rfl, by decide +kernel, by decide +kernel⟩
theorem sc_source : FnScope ["_law_cell_here"] ["_law_cell_here"] (defScope s_source) := ⟨rfl, rfl, rfl, by decide +kernel, rfl, by decide +kernel, by decide +kernel⟩
theorem sc_choose : FnScope ["_law_source_here", "_law_values"] ["_law_source_here", "_law_values"] (defScope s_choose) := ⟨rfl, rfl, rfl, by decide +kernel, rfl, by decide +kernel, by decide +kernel⟩
def spCell (K : PySem.W.Frag) : Sp := fun vs H Q _ => ∃ (a : Addr) (ns : List Int) (z0 : Int), vs = [.ref a, .int z0] ∧ 0 ≤ z0 ∧ SqL K H a (ns.map V.int) ∧ ∀ z : Int, Q (.int z) H
def spSource : Sp := fun vs H Q _ => ∃ c : Int, vs = [.int c] ∧ ∀ (p : Addr) (x y z : Int), H p = none → Q (.ref p) (upd H p (.lst [.int x, .int y, .int z]))
def spChoose : Sp := fun vs H Q _ => ∃ (s l : Addr) (xs : List V), vs = [.ref s, .ref l] ∧ Src H s ∧ l ≠ s ∧ H l = some (.lst xs) ∧ 0 < xs.length ∧ xs.length ≤ 1000 ∧
  ∀ (i : Nat) (x : V) (H' : Hp), xs[i]? = some x → Stp H H' s → Q x H'
section
variable {P : Program} {w : World} {K : PySem.W.Frag} {mg : PySem.Str → Option Value} {base : Heap}
theorem ok_cell {f : Addr} {fd : FuncData} (F : FnP K "_law_cell" s_cell f fd) (T : Tx K mg) : FnOk P w K mg base CX0 1 f fd ["_law_script", "_law_index"] (spCell K) := by
  refine F.ok sc_cell (fun vs H Q E h => ?_) (fun cdv A outer s H vs Q E hr h => ?_)
  · obtain ⟨a, ns, i, rfl, _⟩ := h
    rfl
  · obtain ⟨a, ns, z0, rfl, hz, hs, q⟩ := h
    obtain ⟨i, rfl⟩ := Int.eq_ofNat_of_zero_le hz
    refine ⟨_, PSs.nox (pss_cons (ps_if (pt_cmpR op_lt (pv 1) (pe_callB call_len_seq (by rfl) T.len bLen (pa_cons (pv 0) pa_nil)) (nomark _)) (pss_one (ps_ret (pe_ix ix_list (pv 0) (pv 1) (fun _ _ => rfl)))) pss_nil)
      (pss_one (ps_ret pe_int))), ?_⟩
    refine ⟨_, rfl, _, rfl, a, _, rfl, .inl hs, _, _, rfl, rfl, _, rfl, ?_⟩
    by_cases c : (i : Int) < (((ns.map V.int).length : Nat) : Int)
    · rw [decide_eq_true c]
      have hi : i < ns.length := by
        rw [List.length_map] at c
        omega
      refine iteT ⟨_, rfl, _, rfl, a, _, i, .int ns[i], rfl, rfl, hs, L2.at_of rfl ?_, q _⟩
      rw [List.getElem?_map, List.getElem?_eq_getElem hi]
      rfl
    · rw [decide_eq_false c]
      exact iteF (q _)
theorem ok_source {f : Addr} {fd : FuncData} (F : FnP K "_law_source" s_source f fd) (T : Tx K mg) : FnOk P w K mg base CX0 1 f fd ["_law_cell_here"] spSource := by
  refine F.ok sc_source (fun vs H Q E h => ?_) (fun cdv A outer s H vs Q E hr h => ?_)
  · obtain ⟨c, rfl, _⟩ := h
    rfl
  · obtain ⟨c, rfl, q⟩ := h
    refine ⟨_, PSs.nox (pss_one (ps_ret (pe_lst (pa_cons (pe_callB (call_max2 rfl) (by rfl) T.max bMax (pa_cons pe_int (pa_cons (pe_op op_sub (pv 0) (pe_op op_pow pe_int pe_int)) pa_nil)))
      (pa_cons (pe_op op_add (pe_op op_mod (pv 0) pe_int) pe_int) (pa_cons pe_int pa_nil)))))), ?_⟩
    refine ⟨_, rfl, 10, 18, rfl, rfl, ⟨by decide, by decide, by decide⟩, _, _, rfl, rfl, _, _, rfl, ?_⟩
    refine ⟨_, rfl, _, 2147483629, rfl, rfl, show (0 : Int) < 2147483629 by decide, _, 1, rfl, rfl, by show 3 ≤ sizeLine; decide, fun p hp => q p _ _ _ hp⟩
theorem ok_choose {f fD : Addr} {fd fdD : FuncData} (F : FnP K "_law_choose" s_choose f fd) (T : Tx K mg) (GD : FnOk P w K mg base CX0 1 fD fdD ["_law_source_here", "_law_many"] spDraw)
    (bD : Binds K fdD ["_law_source_here", "_law_many"] []) (kD : PySem.W.keepIn K (.ref fD) = true) (gD : mg "_law_draw" = some (.ref fD)) : FnOk P w K mg base CX0 2 f fd ["_law_source_here", "_law_values"] spChoose := by
  refine F.ok sc_choose (fun vs H Q E h => ?_) (fun cdv A outer s H vs Q E hr h => ?_)
  · obtain ⟨s, l, xs, rfl, _⟩ := h
    rfl
  · obtain ⟨s, l, xs, rfl, hs, ne, hl, l0, l1, q⟩ := h
    refine ⟨_, PSs.nox (pss_one (ps_ret (pe_ix ix_list (pv 1) (pe_call GD hr rfl gD kD bD .nil pass0 (pa_cons (pv 0) (pa_cons (pe_callB call_len_seq (by rfl) T.len bLen (pa_cons (pv 1) pa_nil)) pa_nil))) (fun _ _ => rfl)))), ?_⟩
    refine ⟨_, rfl, _, rfl, _, rfl, l, xs, rfl, .inl (.inl (.inl hl)), s, _, rfl, hs, by omega, by omega, fun z H' z0 z1 st => ?_⟩
    obtain ⟨j, rfl⟩ := Int.eq_ofNat_of_zero_le z0
    have hj : j < xs.length := by omega
    refine ⟨l, xs, _, xs[j], rfl, rfl, .inl (.inl ?_), L2.at_of rfl (List.getElem?_eq_getElem hj), q j _ H' (List.getElem?_eq_getElem hj) st⟩
    rw [st.same l ne]
    exact hl
end
/-! ### _law_is_equal -/
abbrev s_eq : Stmt := top 52
theorem sc_eq : FnScope ["_law_actual", "_law_expected"] ["_law_actual", "_law_expected"] (defScope s_eq) := ⟨rfl, rfl, rfl, by decide +kernel, rfl, by decide +kernel, by decide +kernel⟩
def spEq : Sp := fun vs H Q _ => ∃ (v1 v2 : V) (d : PyData), vs = [v1, v2] ∧ Rp H v1 d ∧ Rp H v2 d ∧ Fit d 50 1000000 ∧ Q (.bl true) H
theorem big : 1000000 ≤ sizeLine := by decide
section
variable {P : Program} {w : World} {K : PySem.W.Frag} {mg : PySem.Str → Option Value} {base : Heap}
theorem ok_eq {f : Addr} {fd : FuncData} (F : FnP K "_law_is_equal" s_eq f fd) (T : Tx K mg) : FnG P w K mg base CX0 1 f spEq := by
  refine fng_of F sc_eq (FunD.bindsA (ps := ["_law_actual", "_law_expected"]) F fun _ _ _ _ _ _ us hl => match us, hl with | [_, _], _ => rfl) (fun vs H Q E h => ?_) (fun cdv A outer s H vs Q E hg hr h => ?_)
  · obtain ⟨v1, v2, d, rfl, _⟩ := h
    rfl
  · obtain ⟨v1, v2, d, rfl, r1, r2, ft, q⟩ := h
    refine ⟨_, PSs.nox (pss_one (ps_ret (pe_cmpR op_eq (pe_callB (call_repr T.sm hg hr) (by rfl) T.repr bRepr (pa_cons (pv 0) pa_nil)) (pe_callB (call_repr T.sm hg hr) (by rfl) T.repr bRepr (pa_cons (pv 1) pa_nil)) (nomark _)))), ?_⟩
    have dp : d.depth ≤ 60 := Nat.le_trans ft.dp (by decide)
    have ln : d.shown.length ≤ sizeLine := Nat.le_trans ft.ln big
    refine ⟨_, rfl, _, d, rfl, r1, ft.sh, dp, ln, _, rfl, _, d, rfl, r2, ft.sh, dp, ln, rfl, ?_⟩
    have e : decide (V.str d.shown = V.str d.shown) = true := decide_eq_true rfl
    show Q (V.bl (decide (V.str d.shown = V.str d.shown))) H
    rw [e]
    exact q
end
section
variable {K : PySem.W.Frag} {σ : L2.St} {F : Hp} {ta tb te t1 t2 : TE} {d : PyData} {ds : List PyData} {E : XK} {C : Addr} {P1 P2 : Hp → V → Prop}
theorem e_eq (h1 : EvD t1 σ F d) (h2 : EvD t2 σ F d) (ft : Fit d 50 1000000) : EvD (tCall spEq [] E (tCons t1 (tCons t2 tNil))) σ F (.bool true) := fun S H1 f s Q q =>
  h1 S H1 f s _ fun v1 H2 s2 r1 => h2 S H2 (f.mono s2) (s.trans (offS_mono s2)) _ fun v2 H3 s3 r2 => ⟨v1, v2, d, rfl, (r1.mono (offS_mono s3)).mono offS_same, r2.mono offS_same, ft, q _ H3 (s2.trans s3) (.bl _)⟩
end
end Q

set_option maxHeartbeats 400000
namespace Q
open PySem PySem.Spec PyProof.Rows L2 Ca
/-! ### what an expression gives that may draw from the source at s -/
/-- all but what stands at s is kept -/
def Kp (s : Addr) (H H' : Hp) : Prop := ∀ b o, b ≠ s → H b = some o → H' b = some o
theorem Kp.refl (s : Addr) (H : Hp) : Kp s H H := fun _ _ _ e => e
theorem Kp.trans {s : Addr} {H H1 H2 : Hp} (a : Kp s H H1) (b : Kp s H1 H2) : Kp s H H2 := fun x o hx e => b x o hx (a x o hx e)
theorem Kp.of {s : Addr} {H H' : Hp} (h : Same H H') : Kp s H H' := fun b o _ e => h b o e
theorem Stp.kp {s : Addr} {H H' : Hp} (h : Stp H H' s) : Kp s H H' := fun b o hb e => by rw [h.same b hb]; exact e
theorem src_same {H H' : Hp} {s : Addr} (hs : Src H s) (h : Same H H') : Src H' s := by
  obtain ⟨a, b, c, e⟩ := hs
  exact ⟨a, b, c, h _ _ e⟩
section
variable {s : Addr} {S : Addr → Bool} {H H' : Hp}
theorem Kp.fr (k : Kp s H H') (hs : Src H' s) (f : Fr S H) : Fr S H' := fun a ha => by
  by_cases z : a = s
  · subst z
    obtain ⟨x, y, c, e⟩ := hs
    exact ⟨_, e, trivial⟩
  · obtain ⟨o, e, m⟩ := f a ha
    exact ⟨o, k a o z e, m⟩
theorem Kp.off (k : Kp s H H') (hS : S s = true) : Same (offS S H) (offS S H') := fun b o e => by
  unfold offS at e ⊢
  split at e
  · cases e
  · rename_i hb
    rw [if_neg hb]
    exact k b o (fun z => hb (by rw [z]; exact hS)) e
end
def EvK (s : Addr) (te : TE) (σ : L2.St) (F : Hp) (P : Hp → V → Prop) : Prop := ∀ (S : Addr → Bool) (H1 : Hp), Fr S H1 → S s = true → Src H1 s → Same F (offS S H1) → ∀ Q : VK, (∀ v H2, Kp s H1 H2 → Src H2 s → P (offS S H2) v → Q v H2) → te σ H1 Q
/-- what is so stays so -/
def Mon (P : Hp → V → Prop) : Prop := ∀ F F' v, Same F F' → P F v → P F' v
inductive PsA (H : Hp) : List (Hp → V → Prop) → List V → Prop where
  | nil : PsA H [] []
  | cons {P : Hp → V → Prop} {Ps : List (Hp → V → Prop)} {v : V} {vs : List V} (h : P H v) (r : PsA H Ps vs) : PsA H (P :: Ps) (v :: vs)
theorem PsA.mono {H H' : Hp} {Ps : List (Hp → V → Prop)} {vs : List V} (r : PsA H Ps vs) (m : ∀ P ∈ Ps, Mon P) (s : Same H H') : PsA H' Ps vs := by
  induction r with
  | nil => exact .nil
  | cons h r ih => exact .cons (m _ (.head _) _ _ _ s h) (ih fun P hP => m P (.tail _ hP))
theorem PsA.length {H : Hp} {Ps : List (Hp → V → Prop)} {vs : List V} (r : PsA H Ps vs) : vs.length = Ps.length := by
  induction r with
  | nil => rfl
  | cons h r ih => rw [List.length_cons, List.length_cons, ih]
def EvKA (s : Addr) (ta : TA) (σ : L2.St) (F : Hp) (Ps : List (Hp → V → Prop)) : Prop := ∀ (S : Addr → Bool) (H1 : Hp), Fr S H1 → S s = true → Src H1 s → Same F (offS S H1) → ∀ Q : List V → Hp → Prop, (∀ vs H2, Kp s H1 H2 → Src H2 s → PsA (offS S H2) Ps vs → Q vs H2) → ta σ H1 Q
def IntP (lo hi : Int) : Hp → V → Prop := fun _ v => ∃ z, v = .int z ∧ lo ≤ z ∧ z ≤ hi
def RpP (D : PyData → Prop) : Hp → V → Prop := fun H v => ∃ d, D d ∧ Rp H v d
def LsP (n : Nat) (P : Hp → V → Prop) : Hp → V → Prop := fun H v => ∃ a xs, v = .ref a ∧ H a = some (.lst xs) ∧ xs.length = n ∧ ∀ x ∈ xs, P H x
def TpP (Ps : List (Hp → V → Prop)) : Hp → V → Prop := fun H v => ∃ a xs, v = .ref a ∧ H a = some (.tup xs) ∧ PsA H Ps xs
theorem mon_int {lo hi : Int} : Mon (IntP lo hi) := fun _ _ _ _ h => h
theorem mon_rp {D : PyData → Prop} : Mon (RpP D) := fun _ _ _ s ⟨d, h, r⟩ => ⟨d, h, r.mono s⟩
theorem mon_d {d : PyData} : Mon (fun H v => Rp H v d) := fun _ _ _ s r => r.mono s
theorem mon_ls {n : Nat} {P : Hp → V → Prop} (m : Mon P) : Mon (LsP n P) := fun _ _ _ s ⟨a, xs, e, h, l, r⟩ => ⟨a, xs, e, s _ _ h, l, fun x hx => m _ _ _ s (r x hx)⟩
section
variable {K : PySem.W.Frag} {s : Addr} {σ : L2.St} {F : Hp} {ta tb te tm tl : TE} {tas : TA} {P P1 P2 : Hp → V → Prop} {Ps : List (Hp → V → Prop)} {E : XK}
theorem k_of (h : EvP te σ F P) : EvK s te σ F P := fun S H1 f hS hs sm Q q => h S H1 f sm Q fun v H2 s2 p => q v H2 (.of s2) (src_same hs s2) p
theorem EvK.weak (h : EvK s te σ F P) (w : ∀ H v, P H v → P2 H v) : EvK s te σ F P2 := fun S H1 f hS hs sm Q q => h S H1 f hS hs sm Q fun v H2 k2 s2 p => q v H2 k2 s2 (w _ _ p)
theorem ka_nil : EvKA s tNil σ F [] := fun S H1 f hS hs sm Q q => q _ H1 (.refl _ _) hs .nil
theorem ka_cons (h : EvK s te σ F P) (m : Mon P) (hs : EvKA s tas σ F Ps) : EvKA s (tCons te tas) σ F (P :: Ps) := fun S H1 f hS hc sm Q q =>
  h S H1 f hS hc sm _ fun v H2 k2 c2 p => hs S H2 (k2.fr c2 f) hS c2 (sm.trans (k2.off hS)) _ fun vs H3 k3 c3 r => q _ H3 (k2.trans k3) c3 (.cons (m _ _ _ (k3.off hS) p) r)
theorem k_tup (h : EvKA s tas σ F Ps) (m : ∀ P ∈ Ps, Mon P) (hl : Ps.length ≤ 1000) : EvK s (tTup tas) σ F (TpP Ps) := fun S H1 f hS hc sm Q q =>
  h S H1 f hS hc sm _ fun vs H2 k2 c2 r => ⟨by rw [r.length]; exact Nat.le_of_lt (small1000 hl), fun p hp => q _ _ (k2.trans (.of (same_new hp))) (src_same c2 (same_new hp)) ⟨p, vs, rfl, offS_new (k2.fr c2 f) hp, r.mono m (offS_mono (same_new hp))⟩⟩
theorem psa_all {H : Hp} {vs : List V} (r : PsA H Ps vs) (w : ∀ P ∈ Ps, ∀ v, P H v → P2 H v) : ∀ v ∈ vs, P2 H v := by
  induction r with
  | nil => exact fun v h => by cases h
  | cons h r ih =>
    intro v hv
    rcases List.mem_cons.mp hv with z | z
    · rw [z]
      exact w _ (.head _) _ h
    · exact ih (fun P hP => w P (.tail _ hP)) v z
theorem k_lst (h : EvKA s tas σ F Ps) (m : Mon P) (w : ∀ P' ∈ Ps, ∀ H v, P' H v → P H v) (hl : Ps.length ≤ 1000) : EvK s (tLst tas) σ F (LsP Ps.length P) := fun S H1 f hS hc sm Q q =>
  h S H1 f hS hc sm _ fun vs H2 k2 c2 r => ⟨by rw [r.length]; exact Nat.le_of_lt (small1000 hl), fun p hp => q _ _ (k2.trans (.of (same_new hp))) (src_same c2 (same_new hp)) ⟨p, vs, rfl, offS_new (k2.fr c2 f) hp, r.length, fun x hx =>
    m _ _ _ (offS_mono (same_new hp)) (psa_all (P2 := P) r (fun P' hP v => w P' hP _ v) x hx)⟩⟩
theorem k_draw {i : Nat} {m : Int} (hi : σ[i]? = some (some (.ref s))) (hm : EvP tm σ F (fun H v => Rp H v (.int m))) (m0 : 0 < m) (m1 : m < 2 ^ 62) : EvK s (tCall spDraw [] E (tCons (tVar i) (tCons tm tNil))) σ F (IntP 0 (m - 1)) := fun S H1 f hS hc sm Q q =>
  ⟨_, hi, hm S H1 f sm _ fun v H2 s2 r => by
    cases r
    exact ⟨s, m, rfl, src_same hc s2, m0, m1, fun z H3 z0 z1 st => q _ H3 ((Kp.of s2).trans st.kp) st.src ⟨z, rfl, z0, by omega⟩⟩⟩
theorem k_choose {i n : Nat} (hi : σ[i]? = some (some (.ref s))) (hl : EvK s tl σ F (LsP n P)) (mo : Mon P) (n0 : 0 < n) (n1 : n ≤ 1000) : EvK s (tCall spChoose [] E (tCons (tVar i) (tCons tl tNil))) σ F P := fun S H1 f hS hc sm Q q =>
  ⟨_, hi, hl S H1 f hS hc sm _ fun v H2 k2 c2 ⟨a, xs, e, ha, hn, hx⟩ => by
    subst e
    have na : a ≠ s := fun z => by
      rw [z] at ha
      unfold offS at ha
      rw [if_pos hS] at ha
      cases ha
    exact ⟨s, a, xs, rfl, c2, na, offS_same _ _ ha, by omega, by omega, fun j x H3 hj st => q _ H3 (k2.trans st.kp) st.src (mo _ _ _ (st.kp.off hS) (hx x (List.mem_of_getElem? hj)))⟩⟩
theorem k_add {a b c d : Int} (ha : EvK s ta σ F (IntP a b)) (hb : EvK s tb σ F (IntP c d)) : EvK s (tOp (rI0 fun i j => .int (i + j)) ta tb) σ F (IntP (a + c) (b + d)) := fun S H1 f hS hc sm Q q =>
  ha S H1 f hS hc sm _ fun v H2 k2 c2 ⟨x, e1, x0, x1⟩ => hb S H2 (k2.fr c2 f) hS c2 (sm.trans (k2.off hS)) _ fun u H3 k3 c3 ⟨y, e2, y0, y1⟩ => by
    subst e1 e2
    exact ⟨x, y, rfl, rfl, q _ H3 (k2.trans k3) c3 ⟨x + y, rfl, by omega, by omega⟩⟩
theorem k_int {i lo hi : Int} (h0 : lo ≤ i) (h1 : i ≤ hi) : EvK s (tC (.int i)) σ F (IntP lo hi) := k_of fun S H1 f sm Q q => q _ H1 (Same.refl _) ⟨i, rfl, h0, h1⟩
theorem k_varI {i : Nat} {z lo hi : Int} (h : σ[i]? = some (some (.int z))) (h0 : lo ≤ z) (h1 : z ≤ hi) : EvK s (tVar i) σ F (IntP lo hi) := k_of (e_varP h fun _ _ => ⟨z, rfl, h0, h1⟩)
/-! statements -/
variable {S : Addr → Bool} {H : Hp} {D : L2.Ends} {t u : TS}
theorem go_setK {i : Nat} (f : Fr S H) (hS : S s = true) (hc : Src H s) (h : EvK s te σ (offS S H) P) (k : ∀ v H', Kp s H H' → Src H' s → Fr S H' → P (offS S H') v → u D (σ.set i (some v)) H') : tSeq (tAsg te (gName i)) u D σ H :=
  h S H f hS hc (Same.refl _) _ fun v H' k' c p => k v H' k' c (k'.fr c f) p
end
end Q

set_option maxHeartbeats 4000000
namespace Q
open PySem PySem.Spec PyProof.Rows L2 Ca
theorem cq_at {a : At} (g : Good a) : Cq 1 (atD a) := by
  refine cq_tup fun d hd => ?_
  have hk : PyData.strOk a.k = true := by
    have k := g.k
    unfold kindOk inV at k
    rw [List.any_eq_true] at k
    obtain ⟨y, hy, e⟩ := k
    rcases List.mem_cons.mp hy with q | hy
    · subst q
      have e1 : PySem.Str.ofString "A" = a.k := by simpa [eqV] using e
      rw [← e1]
      decide +kernel
    · rcases List.mem_cons.mp hy with q | hy
      · subst q
        have e1 : PySem.Str.ofString "B" = a.k := by simpa [eqV] using e
        rw [← e1]
        decide +kernel
      · rcases List.mem_cons.mp hy with q | hy
        · subst q
          have e1 : PySem.Str.ofString "C" = a.k := by simpa [eqV] using e
          rw [← e1]
          decide +kernel
        · cases hy
  rcases List.mem_cons.mp hd with e | hd
  · rw [e]
    exact ⟨by simp [nd], by simp [PyData.canLay0, hk], by simp [PyData.depth]⟩
  · rcases List.mem_cons.mp hd with e | hd
    · rw [e]
      exact cq_int _
    · rcases List.mem_cons.mp hd with e | hd
      · rw [e]
        exact cq_int _
      · cases hd
theorem cq_ats {as : List At} (g : ∀ a ∈ as, Good a) : Cq 2 (.list (as.map atD)) := cq_lst fun d hd => by
  obtain ⟨a, ha, rfl⟩ := List.mem_map.mp hd
  exact cq_at (g a ha)
theorem cqA_nil : Cq 1 (.list []) := cq_lst fun d hd => by cases hd
end Q

set_option maxHeartbeats 4000000
namespace Q
open PySem PySem.Spec PyProof.Rows L2 Ca
/-! ### _law_choose of a tuple of ints, of a text -/
def spChT : Sp := fun vs H Q _ => ∃ (s t : Addr) (ns : List Int), vs = [.ref s, .ref t] ∧ Src H s ∧ H t = some (.tup (ns.map V.int)) ∧ 0 < ns.length ∧ ns.length ≤ 1000 ∧ ∀ (n : Int) (H' : Hp), n ∈ ns → Stp H H' s → Q (.int n) H'
def spChS : Sp := fun vs H Q _ => ∃ (s : Addr) (z : PySem.Str), vs = [.ref s, .str z] ∧ Src H s ∧ 0 < z.length ∧ z.length ≤ 1000 ∧ ∀ (c : Nat) (H' : Hp), c ∈ z.cps.toList → Stp H H' s → Q (.str ⟨#[c]⟩) H'
theorem atI_nat2 {α : Type} {xs : List α} {j : Nat} {x : α} (h : xs[j]? = some x) : atI xs (j : Int) = some x := by
  have hj : j < xs.length := (List.getElem?_eq_some_iff.mp h).1
  unfold atI
  have e : ixN xs.length (j : Int) = some j := by
    unfold ixN
    simp [hj]
  rw [e]
  exact h
section
variable {P : Program} {w : World} {K : PySem.W.Frag} {mg : PySem.Str → Option Value} {base : Heap}
theorem ok_chT {f fD : Addr} {fd fdD : FuncData} (F : FnP K "_law_choose" s_choose f fd) (T : Tx K mg) (GD : FnOk P w K mg base CX0 1 fD fdD ["_law_source_here", "_law_many"] spDraw)
    (bD : Binds K fdD ["_law_source_here", "_law_many"] []) (kD : PySem.W.keepIn K (.ref fD) = true) (gD : mg "_law_draw" = some (.ref fD)) : FnOk P w K mg base CX0 2 f fd ["_law_source_here", "_law_values"] spChT := by
  refine F.ok sc_choose (fun vs H Q E h => ?_) (fun cdv A outer s H vs Q E hr h => ?_)
  · obtain ⟨s, l, xs, rfl, _⟩ := h
    rfl
  · obtain ⟨s, l, ns, rfl, hs, hl, l0, l1, q⟩ := h
    refine ⟨_, PSs.nox (pss_one (ps_ret (pe_ix ix_tup (pv 1) (pe_call GD hr rfl gD kD bD .nil pass0 (pa_cons (pv 0) (pa_cons (pe_callB call_len_seq (by rfl) T.len bLen (pa_cons (pv 1) pa_nil)) pa_nil))) (fun _ _ => rfl)))), ?_⟩
    refine ⟨_, rfl, _, rfl, _, rfl, l, _, rfl, .inr (.inl (.inl hl)), s, _, rfl, hs, by rw [List.length_map]; omega, by rw [List.length_map]; omega, fun z H' z0 z1 st => ?_⟩
    obtain ⟨j, rfl⟩ := Int.eq_ofNat_of_zero_le z0
    rw [List.length_map] at z1
    have hj : j < ns.length := by omega
    refine ⟨l, _, _, .int ns[j], rfl, rfl, .inl (.inl (st.tup hs hl)), L2.at_of rfl (by rw [List.getElem?_map, List.getElem?_eq_getElem hj]; rfl), q _ H' (List.getElem_mem hj) st⟩
theorem ok_chS {f fD : Addr} {fd fdD : FuncData} (F : FnP K "_law_choose" s_choose f fd) (T : Tx K mg) (GD : FnOk P w K mg base CX0 1 fD fdD ["_law_source_here", "_law_many"] spDraw)
    (bD : Binds K fdD ["_law_source_here", "_law_many"] []) (kD : PySem.W.keepIn K (.ref fD) = true) (gD : mg "_law_draw" = some (.ref fD)) : FnOk P w K mg base CX0 2 f fd ["_law_source_here", "_law_values"] spChS := by
  refine F.ok sc_choose (fun vs H Q E h => ?_) (fun cdv A outer s H vs Q E hr h => ?_)
  · obtain ⟨s, l, rfl, _⟩ := h
    rfl
  · obtain ⟨s, x, rfl, hs, l0, l1, q⟩ := h
    refine ⟨_, PSs.nox (pss_one (ps_ret (pe_ix ix_str (pv 1) (pe_call GD hr rfl gD kD bD .nil pass0 (pa_cons (pv 0) (pa_cons (pe_callB call_len_str (by rfl) T.len bLen (pa_cons (pv 1) pa_nil)) pa_nil))) (fun _ _ => rfl)))), ?_⟩
    refine ⟨_, rfl, _, rfl, _, rfl, _, rfl, Nat.le_of_lt (small1000 l1), s, _, rfl, hs, by omega, by omega, fun z H' z0 z1 st => ?_⟩
    obtain ⟨j, rfl⟩ := Int.eq_ofNat_of_zero_le z0
    have hj : j < x.cps.toList.length := by
      rw [Array.length_toList]
      show j < x.length
      omega
    exact ⟨x, _, x.cps.toList[j], rfl, rfl, Nat.le_of_lt (small1000 l1), atI_nat2 (List.getElem?_eq_getElem hj), q _ H' (List.getElem_mem hj) st⟩
end
/-! ### _law_some -/
abbrev s_some : Stmt := top 53
abbrev nSome : List PySem.Str := ["_law_source_here", "_law_most", "_law_pool", "_law_kinds", "_law_found", "_law_turn", "_law_atom"]
theorem sc_some : FnScope nSome ["_law_source_here", "_law_most"] (defScope s_some) := ⟨rfl, rfl, rfl, by decide +kernel, rfl, by decide +kernel, by decide +kernel⟩
theorem Kp.new {s : Addr} {H : Hp} {p : Addr} {o : HO} (h : H p = none) : Kp s H (upd H p o) := fun b u _ e => same_new h b u e
theorem src_new {H : Hp} {s p : Addr} {o : HO} (hs : Src H s) (h : H p = none) : Src (upd H p o) s := by
  obtain ⟨a, b, c, e⟩ := hs
  exact ⟨a, b, c, same_new h _ _ e⟩
theorem src_upd {H : Hp} {s p : Addr} {o : HO} (hs : Src H s) (h : p ≠ s) : Src (upd H p o) s := by
  obtain ⟨a, b, c, e⟩ := hs
  exact ⟨a, b, c, by rw [upd_ne h.symm]; exact e⟩
/-- tuples stay -/
def KTu (H H' : Hp) : Prop := ∀ t ys, H t = some (.tup ys) → H' t = some (.tup ys)
theorem KTu.trans {H H1 H2 : Hp} (a : KTu H H1) (b : KTu H1 H2) : KTu H H2 := fun t ys e => b t ys (a t ys e)
theorem Same.kt {H H' : Hp} (h : Same H H') : KTu H H' := fun t ys e => h _ _ e
theorem Stp.kt {s : Addr} {H H' : Hp} (h : Stp H H' s) (hs : Src H s) : KTu H H' := fun t ys e => h.tup hs e
theorem ktu_lst {p : Addr} {H : Hp} {o : HO} {xs : List V} (h : H p = some (.lst xs)) : KTu H (upd H p o) := fun t ys e => by
  rw [upd_ne (ne_of e h (by intro z; cases z))]
  exact e
theorem at_keep {H H' : Hp} (k : KTu H H') {x : V} {a : At} (h : Rp H x (atD a)) : Rp H' x (atD a) := by
  obtain ⟨p, rfl, hp⟩ := at_of h
  exact .tup (k _ _ hp) (.cons (.str _) (.cons (.int _) (.cons (.int _) .nil)))
theorem ats_keep {H H' : Hp} (k : KTu H H') : ∀ {as : List At} {xs : List V}, RpA H xs (as.map atD) → RpA H' xs (as.map atD)
  | [], _, h => by
    cases h
    exact .nil
  | a :: as, _, h => by
    cases h with
    | cons h1 h2 => exact .cons (at_keep k h1) (ats_keep k h2)
theorem rpA_last {H : Hp} : ∀ {as : List At} {xs : List V}, RpA H xs (as.map atD) → as ≠ [] → ∃ ys y la, xs = ys ++ [y] ∧ la ∈ as ∧ Rp H y (atD la)
  | [], _, _, h => absurd rfl h
  | [a], _, h, _ => by
    cases h with
    | @cons v vs _ _ h1 h2 =>
      cases h2
      exact ⟨[], v, a, rfl, .head _, h1⟩
  | a :: b :: as, _, h, _ => by
    cases h with
    | @cons v vs _ _ h1 h2 =>
      obtain ⟨ys, y, la, e, m, r⟩ := rpA_last (as := b :: as) h2 (by simp)
      exact ⟨v :: ys, y, la, by rw [e]; rfl, .tail _ m, r⟩
def dig (z : Int) : Prop := 0 ≤ z ∧ z ≤ 9
/-- a pool to choose variables from -/
def Pool (H : Hp) (t : Addr) : Prop := ∃ ns : List Int, H t = some (.tup (ns.map V.int)) ∧ 0 < ns.length ∧ ns.length ≤ 10 ∧ ∀ n ∈ ns, dig n
theorem Pool.kt {H H' : Hp} {t : Addr} (h : Pool H t) (k : KTu H H') : Pool H' t := by
  obtain ⟨ns, e, z⟩ := h
  exact ⟨ns, k _ _ e, z⟩
def KindT (z : PySem.Str) : Prop := 0 < z.length ∧ z.length ≤ 1000 ∧ ∀ c ∈ z.cps.toList, kindOk ⟨#[c]⟩ = true
def spSome : Sp := fun vs H Q _ => ∃ (s : Addr) (zm : Int) (m : Nat), vs = [.ref s, .int zm] ∧ zm = (m : Int) ∧ 1 ≤ m ∧ m ≤ 4 ∧ Src H s ∧
  ∀ (fo : Addr) (xs : List V) (as : List At) (H' : Hp), H fo = none → Kp s H H' → Src H' s → H' fo = some (.lst xs) → RpA H' xs (as.map atD) → 1 ≤ as.length → as.length ≤ m → (∀ a ∈ as, Good a) → Q (.ref fo) H'
structure SInv (s t fo : Addr) (H0 : Hp) (i : Nat) (H : Hp) : Prop where
  kp : Kp s H0 H
  src : Src H s
  pool : Pool H t
  f0 : H0 fo = none
  ns : fo ≠ s
  at_ : ∃ (xs : List V) (as : List At), H fo = some (.lst xs) ∧ RpA H xs (as.map atD) ∧ as.length = i ∧ ∀ a ∈ as, Good a
theorem SInv.stp {s t fo : Addr} {H0 H H' : Hp} {i : Nat} (h : SInv s t fo H0 i H) (st : Stp H H' s) : SInv s t fo H0 i H' := by
  obtain ⟨xs, as, h1, h2, h3, h4⟩ := h.at_
  exact ⟨h.kp.trans st.kp, st.src, h.pool.kt (st.kt h.src), h.f0, h.ns, xs, as, by rw [st.same fo h.ns]; exact h1, ats_keep (st.kt h.src) h2, h3, h4⟩
theorem SInv.same {s t fo : Addr} {H0 H H' : Hp} {i : Nat} (h : SInv s t fo H0 i H) (st : Same H H') : SInv s t fo H0 i H' := by
  obtain ⟨xs, as, h1, h2, h3, h4⟩ := h.at_
  exact ⟨h.kp.trans fun b o _ e => st b o e, src_same h.src st, h.pool.kt (Same.kt st), h.f0, h.ns, xs, as, st _ _ h1, h2.mono st, h3, h4⟩
theorem go_ifAnd {σ : L2.St} {S : Addr → Bool} {H : Hp} {t1 t2 : L2.TT} {ta tb : TS} {D : L2.Ends} {b : Bool} (f : Fr S H) (h : EvB t1 σ (offS S H) b) (k1 : b = true → ∀ H', Same H H' → t2 σ H' fun c H1 => if c = true then ta D σ H1 else tb D σ H1) (k2 : b = false → ∀ H', Same H H' → tb D σ H') :
    tIfS (tAnd t1 t2) ta tb D σ H := h S H f (Same.refl _) _ fun H' s => by
  cases b with
  | true => exact k1 rfl H' s
  | false => exact k2 rfl H' s
def poolL : List (List Int) := [[0], [0, 1], [0, 1, 2], [9, 4], [3, 0, 7], [0, 1, 2, 3], [2, 3, 5, 8, 9], [0, 1, 2, 3, 4, 5, 6, 7, 8, 9]]
def tiD (ns : List Int) : PyData := .tuple (ns.map .int)
theorem pool_ok : ∀ ns ∈ poolL, 0 < ns.length ∧ ns.length ≤ 10 ∧ ∀ n ∈ ns, dig n := by
  unfold dig poolL
  decide
theorem pool_of {H : Hp} {xs : List V} {j : Nat} {x : V} (r : RpA H xs (poolL.map tiD)) (h : xs[j]? = some x) : ∃ t, x = .ref t ∧ Pool H t := by
  obtain ⟨ns, hn, rx⟩ := l_get r h
  have z := pool_ok ns (List.mem_of_getElem? hn)
  cases rx with
  | tup h1 r1 =>
    rw [ints_rp r1] at h1
    exact ⟨_, rfl, ns, h1, z⟩
def kindL : List PySem.Str := ["A", "A", "AB", "CAB", "CB"]
theorem kind_ok : ∀ z ∈ kindL, KindT z := by
  have h : ∀ z ∈ kindL, 0 < z.length ∧ z.length ≤ 1000 ∧ ∀ c ∈ z.cps.toList, kindOk ⟨#[c]⟩ = true := by decide +kernel
  exact h
section
variable {P : Program} {w : World} {K : PySem.W.Frag} {mg : PySem.Str → Option Value} {base : Heap}
theorem ok_some {f fD fC : Addr} {fd fdD fdC : FuncData} (F : FnP K "_law_some" s_some f fd) (T : Tx K mg) (GD : FnOk P w K mg base CX0 1 fD fdD ["_law_source_here", "_law_many"] spDraw)
    (bD : Binds K fdD ["_law_source_here", "_law_many"] []) (kD : PySem.W.keepIn K (.ref fD) = true) (gD : mg "_law_draw" = some (.ref fD))
    (GC : FnOk P w K mg base CX0 2 fC fdC ["_law_source_here", "_law_values"] spChoose) (GCt : FnOk P w K mg base CX0 2 fC fdC ["_law_source_here", "_law_values"] spChT) (GCs : FnOk P w K mg base CX0 2 fC fdC ["_law_source_here", "_law_values"] spChS)
    (bC : Binds K fdC ["_law_source_here", "_law_values"] []) (kC : PySem.W.keepIn K (.ref fC) = true) (gC : mg "_law_choose" = some (.ref fC)) :
    FnOk P w K mg base CX0 3 f fd ["_law_source_here", "_law_most"] spSome := by
  refine F.ok sc_some (fun vs H Q E h => ?_) (fun cdv A outer s0 H vs Q E hr h => ?_)
  · obtain ⟨s, zm, m, rfl, _⟩ := h
    rfl
  · obtain ⟨s, zm, m, rfl, rfl, m1, m4, hs, q⟩ := h
    have hr1 : Room 1 _ := hr.mono (by decide)
    refine ⟨_, PSs.nox (pss_cons (ps_set (i := 2) sc_some.nd rfl (.inl rfl) (pe_lst (pa_cons (pe_tup (pa_cons pe_int pa_nil)) (pa_cons (pe_tup (pa_cons pe_int (pa_cons pe_int pa_nil))) (pa_cons (pe_tup (pa_cons pe_int (pa_cons pe_int (pa_cons pe_int pa_nil)))) (pa_cons (pe_tup (pa_cons pe_int (pa_cons pe_int pa_nil))) (pa_cons (pe_tup (pa_cons pe_int (pa_cons pe_int (pa_cons pe_int pa_nil)))) (pa_cons (pe_tup (pa_cons pe_int (pa_cons pe_int (pa_cons pe_int (pa_cons pe_int pa_nil))))) (pa_cons (pe_tup (pa_cons pe_int (pa_cons pe_int (pa_cons pe_int (pa_cons pe_int (pa_cons pe_int pa_nil)))))) (pa_cons (pe_tup (pa_cons pe_int (pa_cons pe_int (pa_cons pe_int (pa_cons pe_int (pa_cons pe_int (pa_cons pe_int (pa_cons pe_int (pa_cons pe_int (pa_cons pe_int (pa_cons pe_int pa_nil))))))))))) pa_nil))))))))))
      (pss_cons (ps_par (i := 2) (j := 3) (by rfl) sc_some.nd rfl rfl (by decide) rfl rfl (pa_cons (pe_call GC hr rfl gC kC bC .nil pass0 (pa_cons (pv 0) (pa_cons (pv 2) pa_nil))) (pa_cons (pe_call GC hr rfl gC kC bC .nil pass0 (pa_cons (pv 0) (pa_cons (pe_lst (pa_cons pe_str (pa_cons pe_str (pa_cons pe_str (pa_cons pe_str (pa_cons pe_str pa_nil)))))) pa_nil))) pa_nil)) (by rfl))
      (pss_cons (ps_set (i := 4) sc_some.nd rfl (.inl rfl) (pe_lst pa_nil))
      (pss_cons (ps_for PassesOwn.never rfl (pi_range1 rfl T.range (pa_cons (pe_op op_add pe_int (pe_call GD hr1 rfl gD kD bD .nil pass0 (pa_cons (pv 0) (pa_cons (pv 1) pa_nil)))) pa_nil)) (pg_name (i := 5) sc_some.nd rfl (.inl rfl)) (pss_cons (ps_set (i := 6) sc_some.nd rfl (.inl rfl) (pe_tup (pa_cons (pe_call GCs hr rfl gC kC bC .nil pass0 (pa_cons (pv 0) (pa_cons (pv 3) pa_nil))) (pa_cons (pe_call GCt hr rfl gC kC bC .nil pass0 (pa_cons (pv 0) (pa_cons (pv 2) pa_nil))) (pa_cons (pe_call GCt hr rfl gC kC bC .nil pass0 (pa_cons (pv 0) (pa_cons (pv 2) pa_nil))) pa_nil)))))
      (Evl.pss_cut (ps_if (PW.pt (pw_and (pt_cmpR (op_neD hr.units : OpR _ _ (rNeD K)) (pv 4) (pe_lst pa_nil) (nomark _)) (pw_and1 (pt_cmpR op_eq (pe_call GD hr1 rfl gD kD bD .nil pass0 (pa_cons (pv 0) (pa_cons pe_int pa_nil))) pe_int (nomark _))))) (pss_one (ps_set (i := 6) sc_some.nd rfl (.inl rfl) (pe_call GC hr rfl gC kC bC .nil pass0 (pa_cons (pv 0) (pa_cons (pv 4) pa_nil))))) pss_nil)
      (Evl.pss_cut (ps_if (PW.pt (pw_and (pt_cmpR (op_neD hr.units : OpR _ _ (rNeD K)) (pv 4) (pe_lst pa_nil) (nomark _)) (pw_and1 (pt_cmpR op_eq (pe_call GD hr1 rfl gD kD bD .nil pass0 (pa_cons (pv 0) (pa_cons pe_int pa_nil))) pe_int (nomark _))))) (pss_one (ps_set (i := 6) sc_some.nd rfl (.inl rfl) (pe_tup (pa_cons (pe_ix ix_tup (pv 6) pe_int (fun _ _ => rfl)) (pa_cons (pe_ix ix_tup (pe_ix ix_list (pv 4) (pe_un un_neg pe_int) (fun _ _ => rfl)) pe_int (fun _ _ => rfl)) (pa_cons (pe_ix ix_tup (pv 6) pe_int (fun _ _ => rfl)) pa_nil)))))) pss_nil)
      (pss_one (ps_expr (pe_bm PySem.F.plainAttrs_list PySem.F.slot_list_append PySem.F.type_list_append mt_append (pv 4) (pa_cons (pv 6) pa_nil))))))))
      (pss_one (ps_ret (pv 4))))))), ?_⟩
    refine go_setS (S := fun _ => false) (P := fun H v => Rp H v (.list (poolL.map tiD))) fr0 (eqD (e_lst (a_cons (e_tup (a_cons e_int a_nil)) (a_cons (e_tup (a_cons e_int (a_cons e_int a_nil))) (a_cons (e_tup (a_cons e_int (a_cons e_int (a_cons e_int a_nil)))) (a_cons (e_tup (a_cons e_int (a_cons e_int a_nil))) (a_cons (e_tup (a_cons e_int (a_cons e_int (a_cons e_int a_nil)))) (a_cons (e_tup (a_cons e_int (a_cons e_int (a_cons e_int (a_cons e_int a_nil))))) (a_cons (e_tup (a_cons e_int (a_cons e_int (a_cons e_int (a_cons e_int (a_cons e_int a_nil)))))) (a_cons (e_tup (a_cons e_int (a_cons e_int (a_cons e_int (a_cons e_int (a_cons e_int (a_cons e_int (a_cons e_int (a_cons e_int (a_cons e_int (a_cons e_int a_nil))))))))))) a_nil))))))))) rfl) fun vP H1 s1 _ rP => ?_
    have src1 := src_same hs s1
    obtain ⟨l0, xs0, rfl, hl0, r0⟩ := rp_lst rP
    have n0 : xs0.length = 8 := by
      rw [r0.length, List.length_map]
      rfl
    have ne0 : l0 ≠ s := by
      obtain ⟨a, b, c, e⟩ := src1
      refine ne_of hl0 e fun z => ?_
      injection z with z
      rw [z] at n0
      cases n0
    refine ⟨_, rfl, _, rfl, s, l0, xs0, rfl, src1, ne0, hl0, by omega, by omega, fun j x H2 hx st2 => ?_⟩
    obtain ⟨t, rfl, pl1⟩ := pool_of r0 hx
    have pl2 := Pool.kt pl1 (st2.kt src1)
    refine ⟨_, rfl, by show 5 ≤ sizeLine; decide, fun l1 hl1 => ?_⟩
    have e1 := upd_same (H := H2) (a := l1) (o := .lst [V.str "A", V.str "A", V.str "AB", V.str "CAB", V.str "CB"])
    have sn := same_new (o := .lst [V.str "A", V.str "A", V.str "AB", V.str "CAB", V.str "CB"]) hl1
    generalize upd H2 l1 (.lst [V.str "A", V.str "A", V.str "AB", V.str "CAB", V.str "CB"]) = H3 at e1 sn ⊢
    have src3 := src_same st2.src sn
    have ne1 : l1 ≠ s := by
      obtain ⟨a, b, c, e⟩ := src3
      exact ne_of e1 e (by intro z; cases z)
    refine ⟨s, l1, _, rfl, src3, ne1, e1, by show 0 < 5; decide, by show 5 ≤ 1000; decide, fun j2 x2 H4 hx2 st4 => ?_⟩
    obtain ⟨z, rfl, kz⟩ : ∃ z, x2 = V.str z ∧ KindT z := by
      match j2, hx2 with
      | 0, hx => exact ⟨_, (Option.some.inj hx).symm, kind_ok _ (.head _)⟩
      | 1, hx => exact ⟨_, (Option.some.inj hx).symm, kind_ok _ (.head _)⟩
      | 2, hx => exact ⟨_, (Option.some.inj hx).symm, kind_ok _ (.tail _ (.tail _ (.head _)))⟩
      | 3, hx => exact ⟨_, (Option.some.inj hx).symm, kind_ok _ (.tail _ (.tail _ (.tail _ (.head _))))⟩
      | 4, hx => exact ⟨_, (Option.some.inj hx).symm, kind_ok _ (.tail _ (.tail _ (.tail _ (.tail _ (.head _)))))⟩
      | m + 5, hx => cases (show none = some x2 from hx)
    have pl4 := (pl2.kt (Same.kt sn)).kt (st4.kt src3)
    have kp4 : Kp s H H4 := ((Kp.trans (fun b o _ e => s1 b o e) st2.kp).trans fun b o _ e => sn b o e).trans st4.kp
    refine ⟨_, _, rfl, Nat.zero_le _, fun fo hfo => ?_⟩
    have nfs : fo ≠ s := fun z => by
      obtain ⟨a, b, c, e⟩ := st4.src
      rw [z, e] at hfo
      cases hfo
    have f0 : H fo = none := by
      cases e : H fo with
      | none => rfl
      | some o =>
        rw [kp4 fo o nfs e] at hfo
        cases hfo
    have ini : SInv s t fo H 0 (upd H4 fo (.lst [])) := ⟨kp4.trans (Kp.new hfo), src_new st4.src hfo, pl4.kt (Same.kt (same_new hfo)), f0, nfs, [], [], upd_same, .nil, rfl, fun a h => by cases h⟩
    refine ⟨_, rfl, _, rfl, s, _, rfl, ini.src, by omega, by omega, fun k H6 k0 km st6 => ?_⟩
    obtain ⟨n, rfl⟩ := Int.eq_ofNat_of_zero_le k0
    have en : (1 + (n : Int)).toNat = n + 1 := by omega
    refine ⟨1, _, rfl, rfl, _, rfl, by omega, by omega, for_range (lo := 0) (n := (1 + (n : Int)).toNat) (fun i σ H' => ∃ x5 x6, σ = [some (V.ref s), some (V.int m), some (V.ref t), some (V.str z), some (V.ref fo), x5, x6] ∧ SInv s t fo H i H') ⟨none, none, rfl, ini.stp st6⟩ ?_ ?_⟩
    · rintro i σ H' hi ⟨x5, x6, rfl, W⟩
      have i4 : i < 4 := by omega
      refine ⟨_, rfl, _, rfl, s, z, rfl, W.src, kz.1, kz.2.1, fun c Ha hc sta => ?_⟩
      have Wa := W.stp sta
      obtain ⟨ns, hn, p0, p10, dg1⟩ := Wa.pool
      refine ⟨_, rfl, _, rfl, s, t, ns, rfl, Wa.src, hn, p0, by omega, fun n1 Hb hn1 stb => ?_⟩
      have Wb := Wa.stp stb
      refine ⟨_, rfl, _, rfl, s, t, ns, rfl, Wb.src, stb.tup Wa.src hn, p0, by omega, fun n2 Hc hn2 stc => ⟨by show 3 ≤ sizeLine; decide, fun u hu => ?_⟩⟩
      have Wc := (Wb.stp stc).same (same_new (o := .tup [V.str ⟨#[c]⟩, V.int n1, V.int n2]) hu)
      have ga : Good ⟨⟨#[c]⟩, n1, n2⟩ := ⟨kz.2.2 c hc, (dg1 n1 hn1).1, (dg1 n1 hn1).2, (dg1 n2 hn2).1, (dg1 n2 hn2).2⟩
      have ra : Rp (upd Hc u (.tup [V.str ⟨#[c]⟩, V.int n1, V.int n2])) (.ref u) (atD ⟨⟨#[c]⟩, n1, n2⟩) := .tup upd_same (.cons (.str _) (.cons (.int _) (.cons (.int _) .nil)))
      generalize upd Hc u (.tup [V.str ⟨#[c]⟩, V.int n1, V.int n2]) = H7 at Wc ra ⊢
      refine ⟨fun σ' Hx => ∃ (v : V) (a : At), σ' = [some (V.ref s), some (V.int m), some (V.ref t), some (V.str z), some (V.ref fo), some (V.int (0 + (i : Int))), some v] ∧ Rp Hx v (atD a) ∧ Good a ∧ SInv s t fo H i Hx, ?_, ?_⟩
      · obtain ⟨xs, as, g1, g2, g3, g4⟩ := Wc.at_
        refine go_ifAnd (S := fun _ => false) fr0 (b_test (e_neD (e_var rfl (Rp.lst g1 g2)) (e_lst a_nil) (cq_ats g4).ok cqA_nil.ok)) (fun c1 H8 s8 => ?_) fun c1 H8 s8 => ⟨_, _, rfl, ra.mono s8, ga, Wc.same s8⟩
        have W8 := Wc.same s8
        refine ⟨_, rfl, s, 5, rfl, W8.src, by decide, by decide, fun y Hd y0 y5 std => ⟨rfl, _, rfl, ite2 (fun _ => ?_) fun _ => ⟨_, _, rfl, at_keep (std.kt W8.src) (ra.mono s8), ga, W8.stp std⟩⟩⟩
        have W9 := W8.stp std
        obtain ⟨xs, as, g1, g2, g3, g4⟩ := W9.at_
        have lx := g2.length
        rw [List.length_map] at lx
        have i0 : 0 < xs.length := by
          rw [eqv_nil, List.isEmpty_map] at c1
          obtain ⟨xs', as', _, _, g3', _⟩ := Wc.at_
          cases i with
          | zero =>
            exfalso
            rename_i b1 b2 b3 b4 _ _ _ _
            simp_all
          | succ i => omega
        refine ⟨_, rfl, _, rfl, s, fo, xs, rfl, W9.src, W9.ns, g1, i0, by omega, fun j3 x3 He hx3 ste => ?_⟩
        obtain ⟨a3, ha3, r3⟩ := l_get (enc := atD) g2 hx3
        exact ⟨_, a3, rfl, at_keep (ste.kt W9.src) r3, g4 a3 (List.mem_of_getElem? ha3), W9.stp ste⟩
      clear Wc ra ga
      rintro σ' H7 ⟨v, a, rfl, ra, ga, Wc⟩
      refine ⟨fun σ' Hx => ∃ (v : V) (a : At), σ' = [some (V.ref s), some (V.int m), some (V.ref t), some (V.str z), some (V.ref fo), some (V.int (0 + (i : Int))), some v] ∧ Rp Hx v (atD a) ∧ Good a ∧ SInv s t fo H i Hx, ?_, ?_⟩
      · obtain ⟨xs, as, g1, g2, g3, g4⟩ := Wc.at_
        refine go_ifAnd (S := fun _ => false) fr0 (b_test (e_neD (e_var rfl (Rp.lst g1 g2)) (e_lst a_nil) (cq_ats g4).ok cqA_nil.ok)) (fun c1 H8 s8 => ?_) fun c1 H8 s8 => ⟨_, _, rfl, ra.mono s8, ga, Wc.same s8⟩
        have W8 := Wc.same s8
        refine ⟨_, rfl, s, 4, rfl, W8.src, by decide, by decide, fun y Hd y0 y5 std => ⟨rfl, _, rfl, ite2 (fun _ => ?_) fun _ => ⟨_, _, rfl, at_keep (std.kt W8.src) (ra.mono s8), ga, W8.stp std⟩⟩⟩
        have W9 := W8.stp std
        have i0 : i ≠ 0 := fun z => by
          rw [eqv_nil, List.isEmpty_map] at c1
          rw [z] at g3
          rw [List.eq_nil_of_length_eq_zero g3] at c1
          cases c1
        obtain ⟨xs, as, g1, g2, g3, g4⟩ := W9.at_
        obtain ⟨ys, y1, la, rfl, ml, ry⟩ := rpA_last g2 (by intro z; rw [z] at g3; exact i0 g3.symm)
        obtain ⟨p, rfl, hp⟩ := at_of ry
        obtain ⟨p6, rfl, hp6⟩ := at_of (at_keep (std.kt W8.src) (ra.mono s8))
        have gl := g4 la ml
        refine ⟨_, rfl, p6, _, 0, _, rfl, rfl, .inl (.inl hp6), rfl, ?_⟩
        refine ⟨_, rfl, 1, rfl, fo, _, -1, _, rfl, rfl, .inl (.inl g1), atI_last _ _, p, _, 2, _, rfl, rfl, .inl (.inl hp), rfl, ?_⟩
        refine ⟨_, rfl, p6, _, 2, _, rfl, rfl, .inl (.inl hp6), rfl, by show 3 ≤ sizeLine; decide, fun u hu => ?_⟩
        exact ⟨_, ⟨a.k, la.r, a.r⟩, rfl, .tup upd_same (.cons (.str _) (.cons (.int _) (.cons (.int _) .nil))), ⟨ga.k, gl.r0, gl.r9, ga.r0, ga.r9⟩, W9.same (same_new hu)⟩
      clear Wc ra ga
      rintro σ' H7 ⟨v, a, rfl, ra, ga, Wc⟩
      obtain ⟨xs, as, g1, g2, g3, g4⟩ := Wc.at_
      have lx := g2.length
      rw [List.length_map] at lx
      refine ⟨_, rfl, .inl ⟨rfl, _, .inl (.inl g1)⟩, _, rfl, fo, xs, _, rfl, rfl, g1, small1000 (by omega), ?_⟩
      refine ⟨_, _, rfl, ⟨fun u o hu e => ?_, src_upd Wc.src Wc.ns, Wc.pool.kt (ktu_lst g1), Wc.f0, Wc.ns, _, as ++ [a], upd_same, ?_, ?_, ?_⟩⟩
      · have nuf : u ≠ fo := fun z => by
          rw [z, Wc.f0] at e
          cases e
        rw [upd_ne nuf]
        exact Wc.kp u o hu e
      · rw [List.map_append]
        exact (ats_keep (ktu_lst g1) g2).append (.cons (at_keep (ktu_lst g1) ra) .nil)
      · rw [List.length_append, g3]
        rfl
      · intro c hc
        rcases List.mem_append.mp hc with z | z
        · exact g4 c z
        · rw [List.mem_singleton.mp z]
          exact ga
    · rintro σ H' ⟨x5, x6, rfl, W⟩
      obtain ⟨xs, as, g1, g2, g3, g4⟩ := W.at_
      exact ⟨_, rfl, q fo xs as H' W.f0 W.kp W.src g1 g2 (by omega) (by omega) g4⟩
end
end Q

set_option maxHeartbeats 4000000
namespace Q
open PySem PySem.Spec PyProof.Rows L2 Ca
/-! ### _law_words, _law_names -/
abbrev s_lwords : Stmt := top 54
abbrev s_lnames : Stmt := top 56
theorem sc_lwords : FnScope ["_law_atoms", "_law_kind", "_law_left", "_law_right"] ["_law_atoms"] (defScope s_lwords) := ⟨rfl, rfl, rfl, by decide +kernel, rfl, by decide +kernel, by decide +kernel⟩
theorem sc_lnames : FnScope ["_law_atoms", "_law_name", "_law_atom"] ["_law_atoms"] (defScope s_lnames) := ⟨rfl, rfl, rfl, by decide +kernel, rfl, by decide +kernel, by decide +kernel⟩
def RWords : List PyData → PyData → Prop := fun ds d => ∃ as : List At, ds = [.list (as.map atD)] ∧ as.length ≤ 30 ∧ (∀ a ∈ as, Good a) ∧ d = .str (txt as)
def lcSc : Expr → Scope
  | .ListComp _ _ sc _ => sc
  | _ => ⟨.function, [], false, false, []⟩
def retE : Stmt → Expr
  | .Return (some e) _ => e
  | _ => .Constant .none 0 ⟨0, 0, 0, 0⟩
/-- the variables below n, ascending -/
def nms10 (as : List At) : List Nat := (List.range 10).filter fun n => as.any fun a => ((n : Int) == a.l) || ((n : Int) == a.r)
def RNames : List PyData → PyData → Prop := fun ds d => ∃ as : List At, ds = [.list (as.map atD)] ∧ as.length ≤ 30 ∧ d = .list ((nms10 as).map fun n : Nat => .int (n : Int))
theorem len_le {x y : PySem.Str} {m n k : Nat} (hx : x.length ≤ m) (hy : y.length ≤ n) (h : m + n ≤ k) : x.length + y.length ≤ k := by omega
section
variable {P : Program} {w : World} {K : PySem.W.Frag} {mg : PySem.Str → Option Value} {base : Heap}
theorem ok_lwords {f : Addr} {fd : FuncData} (F : FnP K "_law_words" s_lwords f fd) (T : Tx K mg) : FnOk P w K mg base CX0 1 f fd ["_law_atoms"] (spR RWords) := by
  refine F.ok sc_lwords (spR_len (by rintro _ _ ⟨as, rfl, _⟩; rfl)) (fun cdv A outer s H vs Q E hr h => ?_)
  obtain ⟨S, ds, d, fr, rA, ⟨as, rfl, hz, hg, rfl⟩, q⟩ := h
  obtain ⟨v0, rfl, r0⟩ := rpa1 rA
  refine ⟨_, PSs.nox (pss_one (ps_ret (pe_join pe_str (pe_lc (own := [("_law_kind", 1), ("_law_left", 2), ("_law_right", 3)]) (g := gTup K 3 (gCons (gName 1) (gCons (gName 2) (gCons (gName 3) gNil)))) rfl sc_lwords.nd (pi_list (pv 0) : PI _ _ _ (iList K _)) (blkOk_by (own := [("_law_kind", 1), ("_law_left", 2), ("_law_right", 3)]) (N := ["_law_atoms", "_law_kind", "_law_left", "_law_right"]) (sc := defScope s_lwords) (by decide +kernel)) (fun _ _ _ _ _ => pg_tup (by rfl) (pgs_cons (pg_name (i := 1) sc_lwords.nd rfl (Or.inl rfl)) (pgs_cons (pg_name (i := 2) sc_lwords.nd rfl (Or.inl rfl)) (pgs_cons (pg_name (i := 3) sc_lwords.nd rfl (Or.inl rfl)) pgs_nil)))) (fun _ _ _ _ _ => pts_nil) (fun _ _ _ _ _ => (pe_op op_add_str (pe_op op_add_str (pv 1) (pe_callTy call_str_int (by rfl) T.str bStr (pa_cons (pv 2) pa_nil))) (pe_callTy call_str_int (by rfl) T.str bStr (pa_cons (pv 3) pa_nil))))) : PE _ _ (tM1 (rJoinQ K) _ _)))), ?_⟩
  refine go_ret (P := fun H v => Rp H v (.str (txt as))) fr (eqD (e_joinL e_str (e_lcL (enc := atD) (e_var rfl r0) ?_ fun t5 ht6 x1 F2 sF3 r4 => g_tup3 r4 fun v10 v11 v12 q7 q8 q9 => ⟨rfl, b_yes, fun _ => (e_addS (e_addS (e_var rfl q7) (e_strI (e_var rfl q8) ?_) ?_) (e_strI (e_var rfl q9) ?_) ?_)⟩) ?_ ?_) ?_) q
  · omega
  · have := hg t5 ht6
    exact dig_log this.l0 this.l9
  · have := hg t5 ht6
    rw [kind_len this.k, dig_len this.l0 this.l9]
    decide
  · have := hg t5 ht6
    exact dig_log this.r0 this.r9
  · have := hg t5 ht6
    rw [len_app, kind_len this.k, dig_len this.l0 this.l9, dig_len this.r0 this.r9]
    decide
  · intro d hd
    obtain ⟨a, _, rfl⟩ := List.mem_map.mp hd
    exact ⟨_, rfl⟩
  · rw [filter_yes, List.map_map (g := strD)]
    have e := sum_len hg
    have e1 : (PySem.Str.ofString " ").length = 1 := by decide +kernel
    show ((as.map atT).map (·.length)).sum + (as.map atT).length * _ ≤ _
    rw [e, List.length_map, e1]
    omega
  · rw [filter_yes, List.map_map]
    rfl

end
end Q

set_option maxHeartbeats 4000000
namespace Q
open PySem PySem.Spec PyProof.Rows L2 Ca
section
variable {K : PySem.W.Frag} {σ : L2.St} {F : Hp} {ta tb te t1 t2 : TE} {d : PyData} {ds : List PyData} {E : XK} {C : Addr} {as : List At} {P1 P2 : Hp → V → Prop}
theorem e_cmeth (hC : EvP ta σ F fun _ v => v = .ref C) (h : EvD te σ F (.str (txt as))) (g : ∀ a ∈ as, Good a) (l1 : 1 ≤ as.length) (l4 : as.length ≤ 4) : EvP (ClX.tCMeth C (spQ (IRead C)) E ta (tCons te tNil)) σ F (QV C as) := fun S H1 f s Q q =>
  hC S H1 f s _ fun v H2 s2 e => ⟨e, h S H2 (f.mono s2) (s.trans (offS_mono s2)) _ fun v H3 s3 r => by
    cases r
    exact ⟨S, QV C as, f.mono (s2.trans s3), ⟨as, rfl, g, l1, l4, rfl⟩, fun v H4 s4 p => q v H4 ((s2.trans s3).trans s4) p⟩⟩
theorem go_parS {S : Addr → Bool} {H : Hp} {D : L2.Ends} {u : TS} {i j : Nat} (f : Fr S H) (h1 : EvP t1 σ (offS S H) P1) (h2 : EvP t2 σ (offS S H) P2) (m1 : ∀ F F' v, Same F F' → P1 F v → P1 F' v)
    (k : ∀ v w H', Same H H' → Fr S H' → P1 (offS S H') v → P2 (offS S H') w → u D ((σ.set i (some v)).set j (some w)) H') : tSeq (tPar i j (tCons t1 (tCons t2 tNil))) u D σ H :=
  h1 S H f (Same.refl _) _ fun v H2 s2 p1 => h2 S H2 (f.mono s2) (offS_mono s2) _ fun w H3 s3 p2 => ⟨v, w, rfl, k v w H3 (s2.trans s3) (f.mono (s2.trans s3)) (m1 _ _ _ (offS_mono s3) p1) p2⟩
end
/-! ### _law_question -/
abbrev s_lq : Stmt := top 55
theorem sc_lq : FnScope ["_law_atoms"] ["_law_atoms"] (defScope s_lq) := ⟨rfl, rfl, rfl, by decide +kernel, rfl, by decide +kernel, by decide +kernel⟩
def ILq (C : Addr) : Hp → List V → (Hp → V → Prop) → Prop := fun F vs P => ∃ v as, vs = [v] ∧ Rp F v (.list (as.map atD)) ∧ (∀ a ∈ as, Good a) ∧ 1 ≤ as.length ∧ as.length ≤ 4 ∧ P = QV C as
section
variable {P : Program} {w : World} {K : PySem.W.Frag} {mg : PySem.Str → Option Value} {base : Heap}
theorem ok_lq {f C pR gR : Addr} {fd : FuncData} (F : FnP K "_law_question" s_lq f fd) (gC : mg "Question" = some (.ref C)) (cr : ClX.CRead K C (.type "type")) (cm : ClX.CMet K C (.type "type") "read" pR gR)
    (GR : FnR P w K mg base CX0 6 gR (spQ (IRead C))) (D1 : Fd P w K mg base "_law_words" 1 ["_law_atoms"] (spR RWords)) : FnOk P w K mg base CX0 7 f fd ["_law_atoms"] (spQ (ILq C)) := by
  obtain ⟨f1, fd1, G1, b1, k1, m1⟩ := D1.ex
  refine F.ok sc_lq (spQ_len (by rintro _ _ _ ⟨v, as, rfl, _⟩; rfl)) (fun cdv A outer s H vs Q E hr h => ?_)
  obtain ⟨S, P0, fr, ⟨v0, as, rfl, r0, g, l1, l4, rfl⟩, q⟩ := h
  refine ⟨_, PSs.nox (pss_one (ps_ret (ClX.pe_cmeth (pe_glob (v := .ref C) rfl gC rfl) cr cm GR hr pass0 (pa_cons (pe_call G1 (hr.mono (by decide)) rfl m1 k1 b1 .nil pass0 (pa_cons (pv 0) pa_nil)) pa_nil)))), ?_⟩
  exact go_ret (P := QV C as) fr (e_cmeth (fun S H1 f s Q q => q _ H1 (Same.refl _) rfl) (e_call (a_cons (e_var rfl r0) a_nil) ⟨_, rfl, by omega, g, rfl⟩) g l1 l4) q
end
end Q

set_option maxHeartbeats 4000000
/-! what is read off the top: facts (as Bools of the written part) and defs (found by an address of one's own) -/
namespace Ca
open PySem PySem.Spec PyProof.Rows L2 He
structure DfX where
  at_ : PySem.W.Frag → Addr
  name : PySem.Str
  qual : PySem.Str
  st : Stmt
abbrev DfX.see (d : DfX) (K : PySem.W.Frag) : FnW := match K.lookup (d.at_ K) with
  | some ⟨_, _, .func fd, _⟩ => some (fd.name, fd.qualname, fd.params, fd.body, fd.scope, fd.globals, fd.closure, fd.builtins)
  | _ => none
def DfX.due (d : DfX) : FnW := some (d.name, d.qual, defArgs d.st, .stmts (defBody d.st), defScope d.st, mainGlobals, [], builtinsNs)
def DfX.ok (d : DfX) (K : PySem.W.Frag) : Bool := PySem.W.keepIn K (.ref (d.at_ K)) && (match K.lookup (d.at_ K) with
  | some ⟨_, _, .func fd, _⟩ => PySem.W.codeIn K fd.code d.qual && dflB K fd.defaults []
  | _ => false)
theorem DfX.fun_ {d : DfX} {K : PySem.W.Frag} (e : d.see K = d.due) (c : d.ok K = true) : ∃ fd, FunD K d.name d.qual (defArgs d.st) (defBody d.st) (defScope d.st) [] [] (d.at_ K) fd := by
  obtain ⟨kp, c⟩ := ba c
  unfold DfX.see at e
  cases q : K.lookup (d.at_ K) with
  | none =>
    rw [q] at c
    cases c
  | some o =>
    obtain ⟨oc, od, dt, sl⟩ := o
    rw [q] at c e
    cases dt with
    | func fd =>
      obtain ⟨y1, y2, y3, y4, y5, y6, y7, y8, y9, y10, y11, y12, y13, y14, y15⟩ := fd
      unfold DfX.due at e
      have e1 := Option.some.inj e
      simp only [Prod.mk.injEq] at e1
      obtain ⟨z1, z2, z3, z4, z5, z6, z7, z8⟩ := e1
      subst z1 z2 z3 z4 z5 z6 z7 z8
      obtain ⟨k1, k2⟩ := ba c
      exact ⟨_, ⟨oc, od, y8, y9, y10, y11, y12, y13, y14, sl, rfl, q, k1, dflB_ok k2, .inl rfl⟩, kp⟩
    | _ => cases c
abbrev AlX : Type := Bool × List FnW
def seeX (fs : List (PySem.W.Frag → Bool)) (fn : List DfX) (K : PySem.W.Frag) : AlX := (fs.all (fun f => f K) && fn.all (fun d => d.ok K), fn.map fun d => d.see K)
def dueX (fn : List DfX) : AlX := (true, fn.map DfX.due)
def SaysX (fs : List (PySem.W.Frag → Bool)) (fn : List DfX) (K : PySem.W.Frag) : Prop := seeX fs fn K = dueX fn
def seeG (n : Nat) (fs : List (PySem.W.Frag → Bool)) (fn : List DfX) (g : Addr → Option Obj) : AlX := seeX fs fn (frG g (sysModules :: asD g n))
def hookX (n : Nat) (fs : List (PySem.W.Frag → Bool)) (fn : List DfX) : PySem.W.Hook where
  α := AlX
  obs := fun s => seeG n fs fn s.heap.get?
  val := fun _ => dueX fn
  says := fun _ h => ∃ K : PySem.W.Frag, K.In h ∧ SaysX fs fn K
  of := fun _ _ e => ⟨_, frG_in, e⟩
  keeps := fun _ _ _ ⟨K, hK, c⟩ k => ⟨K, PySem.W.Frag.In.keeps hK k, c⟩
theorem seeG_eq {n : Nat} {fs : List (PySem.W.Frag → Bool)} {fn : List DfX} {g : Addr → Option Obj} {s : Shared} (h : ∀ a, g a = s.heap.get? a) : seeG n fs fn g = (hookX n fs fn).obs s := by
  obtain rfl : g = s.heap.get? := funext h
  rfl
section
variable {fs : List (PySem.W.Frag → Bool)} {fn : List DfX} {K : PySem.W.Frag}
theorem SaysX.fact (c : SaysX fs fn K) (i : Nat) {f : PySem.W.Frag → Bool} (h : fs[i]? = some f := by rfl) : f K = true := by
  have z := congrArg (fun y : AlX => y.1) c
  exact List.all_eq_true.mp (ba z).1 f (List.mem_of_getElem? h)
theorem SaysX.def_ (c : SaysX fs fn K) (i : Nat) {d : DfX} (h : fn[i]? = some d := by rfl) : ∃ fd, FunD K d.name d.qual (defArgs d.st) (defBody d.st) (defScope d.st) [] [] (d.at_ K) fd := by
  have z1 := congrArg (fun y : AlX => y.1) c
  have z2 : fn.map (fun d => d.see K) = fn.map DfX.due := congrArg (fun y : AlX => y.2) c
  have z3 : (fn.map fun d => d.see K)[i]? = (fn.map DfX.due)[i]? := by rw [z2]
  rw [List.getElem?_map, List.getElem?_map, h] at z3
  exact DfX.fun_ (Option.some.inj z3) (List.all_eq_true.mp (ba z1).2 d (List.mem_of_getElem? h))
end
/-- the getter of a property of a class -/
def propG (K : PySem.W.Frag) (p : Addr) : Addr := match PySem.W.recIn K p "property" with
  | some (.ref g :: _) => g
  | _ => 0
def propB (x m : PySem.Str) (K : PySem.W.Frag) : Bool :=
  eqO (PySem.W.findIn K (.ref (ga K x)) m) (some (some (.ref (ma K (ga K x) m)))) && (eqO (PySem.W.specialIn K (.ref (ma K (ga K x) m)) "__get__") (some (some (.builtin "property.__get__"))) &&
    (decide (PySem.W.takesIn K (.ref (ma K (ga K x) m)) = some true) && (match PySem.W.recIn K (ma K (ga K x) m) "property" with
      | some (.ref _ :: _) => true
      | _ => false)))
theorem prop_ok {x m : PySem.Str} {K : PySem.W.Frag} (h : propB x m K = true) : PropOf K (ga K x) m (ma K (ga K x) m) (propG K (ma K (ga K x) m)) := by
  obtain ⟨h1, h⟩ := ba h
  obtain ⟨h2, h⟩ := ba h
  obtain ⟨h3, h4⟩ := ba h
  refine ⟨eqO_ok h1, eqO_ok h2, of_decide_eq_true h3, ?_⟩
  unfold propG
  cases q : PySem.W.recIn K (ma K (ga K x) m) "property" with
  | none =>
    rw [q] at h4
    cases h4
  | some l =>
    rw [q] at h4
    cases l with
    | nil => cases h4
    | cons v l =>
      cases v with
      | ref g => exact ⟨l, rfl⟩
      | _ => cases h4
end Ca

set_option maxHeartbeats 4000000
namespace Ca
open PySem PySem.Spec PyProof.Rows L2 He
/-- a class read by its name, its classmethods -/
def cmP (K : PySem.W.Frag) (x m : PySem.Str) : Addr := match PySem.W.findCls K (.ref (ga K x)) (.type "type") m with
  | some (.get _ (.ref p) _ _) => p
  | _ => 0
def cmG (K : PySem.W.Frag) (x m : PySem.Str) : Addr := match PySem.W.recIn K (cmP K x m) "classmethod" with
  | some (.ref g :: _) => g
  | _ => 0
def cmB (x m : PySem.Str) (K : PySem.W.Frag) : Bool :=
  (match PySem.W.findCls K (.ref (ga K x)) (.type "type") m with
    | some (.get (.builtin s) (.ref _) .none (.ref c)) => decide (s = "classmethod.__get__") && decide (c = ga K x)
    | _ => false) && ((match PySem.W.recIn K (cmP K x m) "classmethod" with
    | some (.ref _ :: _) => true
    | _ => false) && PySem.W.fnIn K (cmG K x m))
theorem cm_ok {x m : PySem.Str} {K : PySem.W.Frag} (h : cmB x m K = true) : ClX.CMet K (ga K x) (.type "type") m (cmP K x m) (cmG K x m) := by
  unfold cmB at h
  obtain ⟨h1, h⟩ := ba h
  obtain ⟨h2, h3⟩ := ba h
  refine ⟨?_, ?_, h3⟩
  · have e : ∃ p, PySem.W.findCls K (.ref (ga K x)) (.type "type") m = some (.get (.builtin "classmethod.__get__") (.ref p) .none (.ref (ga K x))) ∧ cmP K x m = p := by
      unfold cmP
      split at h1
      · rename_i s p c q
        obtain ⟨a1, a2⟩ := ba h1
        have a1 := of_decide_eq_true a1
        have a2 := of_decide_eq_true a2
        subst a1 a2
        exact ⟨p, q, by rw [q]⟩
      · cases h1
    obtain ⟨p, e1, e2⟩ := e
    rw [e2]
    exact e1
  · unfold cmG
    split at h2
    · rename_i g l q
      exact ⟨l, by rw [q]⟩
    · cases h2
def crB (x : PySem.Str) (K : PySem.W.Frag) : Bool := PySem.W.readsIn K (ga K x) (.type "type") && eqO (PySem.W.specialIn K (.ref (ga K x)) "__getattribute__") (some (some (.builtin "type.__getattribute__")))
theorem cr_ok {x : PySem.Str} {K : PySem.W.Frag} (h : crB x K = true) : ClX.CRead K (ga K x) (.type "type") := by
  obtain ⟨h1, h2⟩ := ba h
  exact ⟨h1, eqO_ok h2⟩
def seeY (n : Nat) (fs : List (PySem.W.Frag → Bool)) (fn : List DfX) (g : Addr → Option Obj) : AlX := seeX fs fn (frG g (cStatics :: sysModules :: asD g n))
def hookY (n : Nat) (fs : List (PySem.W.Frag → Bool)) (fn : List DfX) : PySem.W.Hook where
  α := AlX
  obs := fun s => seeY n fs fn s.heap.get?
  val := fun _ => dueX fn
  says := fun _ h => ∃ K : PySem.W.Frag, K.In h ∧ SaysX fs fn K
  of := fun _ _ e => ⟨_, frG_in, e⟩
  keeps := fun _ _ _ ⟨K, hK, c⟩ k => ⟨K, PySem.W.Frag.In.keeps hK k, c⟩
theorem seeY_eq {n : Nat} {fs : List (PySem.W.Frag → Bool)} {fn : List DfX} {g : Addr → Option Obj} {s : Shared} (h : ∀ a, g a = s.heap.get? a) : seeY n fs fn g = (hookY n fs fn).obs s := by
  obtain rfl : g = s.heap.get? := funext h
  rfl
end Ca

set_option maxHeartbeats 400000
namespace Ca
open PySem PySem.Spec PyProof.Rows L2
/-! own operators: x op y, x an instance whose class has the operator as a def, y another one or data -/
def tyN : List String := ["NoneType", "bool", "int", "str", "list", "tuple", "dict"]
structure OwnOp (K : PySem.W.Frag) (C f : Addr) (op : Operator) : Prop where
  first : PySem.W.selfFirst K C = true
  has : PySem.W.findIn K (.ref C) (PySem.dunder op.info.2) = some (some (.ref f))
  fn : PySem.W.isFn K (.ref f) = true
  rev : PySem.W.findIn K (.ref C) (dunderR op.info.2) = some none
  other : ∀ T ∈ tyN, (∃ fo, PySem.W.findIn K (.type T) (PySem.dunder op.info.2) = some fo) ∧ (∃ ro, PySem.W.findIn K (.type T) (dunderR op.info.2) = some ro) ∧ PySem.W.subIn K (.type T) (.ref C) = some false
open PySem.W in
theorem own_bin {P : Program} {w : World} {A : Around} {E : Value → Shared → Prop} {s : Shared} {K : PySem.W.Frag} {x C L f : Addr} {h₀ : Heap} {m : PySem.Str → Option Value} {ox : Obj} {od : Option Obj} {op : Operator} {b : Value} {T : String} {Q : Value → Shared → Prop}
    (fr : PyProof.Rows.Fr h₀ L s.heap m) (kin : K.In h₀) (J : InstAt s.heap x ox C od) (o : OwnOp K C f op) (hT : T ∈ tyN) (lb : Looks (model P w) s.heap (typeOf b) (.type T))
    (go : wpAny (model P w) A (call (.ref f) [.ref x, b]) (PySem.W.CmpBack Q) E s) : wpAny (model P w) A (binaryOp op (.ref x) b) Q E s := by
  obtain ⟨⟨fo, e1⟩, ⟨ro, e2⟩, e3⟩ := o.other T hT
  have kh := kin.keeps fr.keep
  obtain ⟨cd, rest, c1, c2⟩ := ksp_first o.first
  have hs := o.has
  have hr := o.rev
  rcases ei : op.info with ⟨sy, nm⟩
  rw [ei] at hs hr e1 e2
  dsimp only at hs hr e1 e2
  have tm := ksp_try kh J hs o.fn go
  obtain ⟨hh, gg, dd, tt, oo⟩ := s
  have a1 : Looks (model P w) hh (typeOf (.ref x)) (.ref C) := J.type
  have a2 : Looks (model P w) hh (typeOf b) (.type T) := lb
  have a3 : Looks (model P w) hh (fillsNumberSlot (.ref C) nm) true := fills_K kh c1 c2 hs
  have a4 : Looks (model P w) hh (fillsNumberSlot (.type T) nm) ((fo.isSome && !isSeqSlot fo) || (ro.isSome && !isSeqSlot ro)) := ksp_fillsT kh e1 e2
  have a5 : Looks (model P w) hh (isSubtype (.type T) (.ref C)) false := looks_subIn kh e3
  have a6 : Looks (model P w) hh (numberSlotInPython (.ref C) nm) true := ksp_inPy kh hs hr (.inl rfl)
  have a7 : Looks (model P w) hh (numberSlotInPython (.type T) nm) false := Looks.of_pure rfl
  have a8 : Looks (model P w) hh (typeLookup (.type T) (dunderR nm)) ro := looks_findIn kh e2
  generalize ((fo.isSome && !isSeqSlot fo) || (ro.isSome && !isSeqSlot ro)) = rt at a4
  have ne : (Value.ref C == Value.type T) = false := by
    cases e : (Value.ref C == Value.type T) with
    | false => rfl
    | true => cases beq_iff_eq.mp e
  simp only [binaryOp, ei]
  refine wpAny_holding (wpAny_bind ?_)
  unfold binaryOp1
  refine wpAny_bind (a1.at (wpAny_bind (a2.at (wpAny_bind (a3.at ?_)))))
  simp only [ne, Bool.false_eq_true, if_false]
  cases rt
  all_goals
    ksp_lk
    refine wpAny_mono tm (fun r s' z => ?_) fun _ _ z => z
    obtain ⟨v, rfl, z2⟩ := z
    ksp_lk
    exact z2
/-- the values that may stand on the right -/
def rOwn (K : PySem.W.Frag) (C : Addr) (sp : Sp) (E : XK) : R2 := fun x y H Q => ∃ a dx fs t, x = .ref a ∧ H a = some (.ins C dx fs) ∧ TyX K H y t ∧ (t = .ref C ∨ ∃ T ∈ tyN, t = .type T) ∧ sp [x, y] H Q E
theorem op_own {X : Cx} {CX : CXT} {k : Nat} {f C : Addr} {fd : FuncData} {ps : List PySem.Str} {sp : Sp} {E : XK} {op : Operator} (o : OwnOp X.K C f op) (F : FnOk X.prog X.w X.K X.mg X.base CX k f fd ps sp) (hb : Binds X.K fd ps []) (hr : Room k X.A) (hx : Passes CX X E) :
    OpR X (binaryOp op) (rOwn X.K C sp E) := by
  intro pins s σ H x y v u Q I rx ry h
  obtain ⟨a, dx, fs, t, rfl, ha, ty, ht, q⟩ := h
  cases (show v = Value.ref a from rx)
  obtain ⟨mA, O, _⟩ := ins_get I.hok ha
  obtain ⟨od, J, _⟩ := O.look
  obtain ⟨m, fr⟩ := I.fr
  have go : wpAny (model X.prog X.w) X.A (call (.ref f) [.ref a, u]) (PySem.W.CmpBack (EP X pins σ Q)) X.xe s := by
    refine wpAny_mono (run_fnS (E := fun _ => E) F hr hb (fun pins H s e s' I c => hx pins σ H s e s' I c) I (.cons rx (.cons ry .nil)) q) (fun r s' z => ?_) fun _ _ z => z
    obtain ⟨vv, H', J', rv, q'⟩ := id z
    cases vv with
    | non => cases (show r = _ from rv); exact z
    | bl b => cases (show r = _ from rv); exact z
    | int i => obtain ⟨t, e⟩ := (show ∃ t, r = Value.int i t from rv); subst e; exact z
    | str i => obtain ⟨t, e⟩ := (show ∃ t, r = Value.str i t from rv); subst e; exact z
    | byt i => obtain ⟨t, e⟩ := (show ∃ t, r = Value.bytes i t from rv); subst e; exact z
    | flt i => obtain ⟨t, e⟩ := (show ∃ t, r = Value.float i t from rv); subst e; exact z
    | ref i => cases (show r = _ from rv); exact z
    | ty i => cases (show r = _ from rv); exact z
  obtain ⟨P, Z, p, _⟩ := kit_of I ry ty
  have lk := Z.ty (model X.prog X.w) s.heap I.kIn p
  rcases ht with e | ⟨T, hT, e⟩
  · rw [e] at lk
    exact PySem.W.binop_K fr I.ok.mod.kin J lk o.first o.has o.fn go
  · rw [e] at lk
    exact own_bin fr I.ok.mod.kin J o hT lk go
end Ca

set_option maxHeartbeats 4000000
namespace Q
open PySem PySem.Spec PyProof.Rows L2 Ca
/-- what the top has written of an exception's class (at N) -/
structure XT (K : PySem.W.Frag) (mg : PySem.Str → Option Value) (x : PySem.Str) (N : Addr) : Prop where
  gN : mg x = some (.ref N)
  xN : PySem.W.excIn K N [.type "ValueError", .type "Exception", .type "BaseException", .type "object"] "ValueError.__new__" = true
  kN : PySem.W.keepIn K (.ref N) = true
  bN : PySem.W.subIn K (.ref N) (.type "BaseException") = some true
  tN : PySem.W.typeIn K (.ref N) = some (.type "type")
/-- what isinstance asks of the class -/
structure IsiC (K : PySem.W.Frag) (C : Addr) : Prop where
  ha : PySem.W.findIn K (.ref C) "__class__" = some (some (.builtin "object.__class__"))
  hn : PySem.W.specialIn K (.builtin "object.__class__") "__get__" = some (some (.builtin "getset_descriptor.__get__"))
  htk : PySem.W.takesIn K (.builtin "object.__class__") = some true
  hm : PySem.W.mroIn K C (.type "object") = some true
  kit : PySem.W.kitOne K (.ref C) (.ref C) = some true
def IAtoms (C : Addr) : Hp → List V → (Hp → V → Prop) → Prop := fun F vs P => ∃ v as, vs = [v] ∧ QV C as F v ∧ P = fun H v => Rp H v (.tuple (as.map atD))
theorem atoms_imp {C : Addr} : ∀ vs H Q E, spQ (IAtoms C) vs H Q E → spAtoms C vs H Q E := by
  rintro vs H Q E ⟨S, P, f, ⟨v, as, rfl, ⟨x, dx, p, rfl, hq⟩, rfl⟩, q⟩
  exact ⟨x, dx, p, as, rfl, hq.mono offS_same, q _ H (Same.refl _) hq.atoms⟩
theorem qv_ins {C : Addr} {as : List At} {F : Hp} {v : V} (h : QV C as F v) : ∃ a dx p o u, v = .ref a ∧ F a = some (.ins C dx (qf (.ref p) (.ref o) (.ref u))) := by
  obtain ⟨x, dx, p, rfl, hq⟩ := h
  obtain ⟨o, u, ns, h1, _⟩ := hq.obj
  exact ⟨x, dx, p, o, u, rfl, h1⟩
theorem qv_atoms {C : Addr} {as : List At} : ∀ F v, QV C as F v → IAtoms C F [v] (fun H v => Rp H v (.tuple (as.map atD))) ∧ ∃ a dx fs, v = .ref a ∧ F a = some (.ins C dx fs) := fun F v h => by
  obtain ⟨x, dx, p, o, u, e, h1⟩ := qv_ins h
  exact ⟨⟨v, as, rfl, h, rfl⟩, x, dx, _, e, h1⟩
def ICq (C : Addr) : Hp → List V → (Hp → V → Prop) → Prop := fun F vs P => ∃ v as, vs = [v] ∧ QV C as F v ∧ P = fun H v => Rp H v .none
abbrev s_cq : Stmt := top 42
abbrev s_qwl : Stmt := top 43
abbrev s_qadd : Stmt := inClass cQ 7
abbrev s_qor : Stmt := inClass cQ 8
abbrev s_turned : Stmt := inClass cQ 9
theorem sc_cq : FnScope ["thing"] ["thing"] (defScope s_cq) := ⟨rfl, rfl, rfl, by decide +kernel, rfl, by decide +kernel, by decide +kernel⟩
theorem sc_qwl : FnScope ["atoms"] ["atoms"] (defScope s_qwl) := ⟨rfl, rfl, rfl, by decide +kernel, rfl, by decide +kernel, by decide +kernel⟩
abbrev nAdd : List PySem.Str := ["self", "other", "step", "behind", "kind", "left", "right"]
theorem sc_qadd : FnScope nAdd ["self", "other"] (defScope s_qadd) := ⟨rfl, rfl, rfl, by decide +kernel, rfl, by decide +kernel, by decide +kernel⟩
theorem sc_qor : FnScope ["self", "other"] ["self", "other"] (defScope s_qor) := ⟨rfl, rfl, rfl, by decide +kernel, rfl, by decide +kernel, by decide +kernel⟩
theorem sc_turned : FnScope ["self", "atoms", "kind", "left", "right"] ["self"] (defScope s_turned) := ⟨rfl, rfl, rfl, by decide +kernel, rfl, by decide +kernel, by decide +kernel⟩
/-- the greatest variable -/
def mxq (as : List At) : Int := (sd (vars as)).getLastD 0
def shA (n : Int) (a : At) : At := ⟨a.k, a.l + n, a.r + n⟩
def addQ (as bs : List At) : List At := as ++ bs.map (shA (mxq as + 1))
def orQ (as bs : List At) : List At := as ++ bs
def trn (a : At) : At := ⟨a.k, a.r, a.l⟩
def ITurned (C : Addr) : Hp → List V → (Hp → V → Prop) → Prop := fun F vs P => ∃ v as, vs = [v] ∧ QV C as F v ∧ (∀ a ∈ as, Good a) ∧ 1 ≤ as.length ∧ as.length ≤ 4 ∧ P = QV C (as.map trn)
theorem turn_good {as : List At} (g : ∀ a ∈ as, Good a) : ∀ a ∈ as.map trn, Good a := fun a ha => by
  obtain ⟨b, hb, rfl⟩ := List.mem_map.mp ha
  have z := g b hb
  exact ⟨z.k, z.r0, z.r9, z.l0, z.l9⟩
theorem are_inv {bs : List At} (h : areAt (bs.map atD) = true) : 1 ≤ bs.length ∧ bs.length ≤ 4 ∧ ∀ a ∈ bs, Good a := by
  unfold areAt at h
  rw [Bool.and_eq_true, Bool.and_eq_true, decide_eq_true_iff, decide_eq_true_iff, List.length_map, List.all_eq_true] at h
  refine ⟨h.1.1, h.1.2, fun a ha => ?_⟩
  have z : (kindOk a.k && (decide (0 ≤ a.l) && decide (a.l ≤ 9) && (decide (0 ≤ a.r) && decide (a.r ≤ 9)))) = true := h.2 (atD a) (List.mem_map.mpr ⟨a, ha, rfl⟩)
  simp only [Bool.and_eq_true, decide_eq_true_eq] at z
  exact ⟨z.1, z.2.1.1, z.2.1.2, z.2.2.1, z.2.2.2⟩
theorem vars_ne {as : List At} (l1 : 1 ≤ as.length) : sd (vars as) ≠ [] := fun e => by
  cases as with
  | nil => simp at l1
  | cons a as =>
    have : a.l ∈ sd (vars (a :: as)) := sd_mem.mpr (by simp [vars])
    rw [e] at this
    cases this
section
variable {K : PySem.W.Frag} {σ : L2.St} {F : Hp} {ta tb te : TE} {C N : Addr} {as : List At} {E : XK} {ds : List PyData} {d : PyData}
theorem e_isiQ (cl : Cls K C) (ic : IsiC K C) (h : EvP ta σ F (QV C as)) (hc : EvP te σ F fun _ v => v = .ref C) : EvD (tCB (rIsi K) (tCons ta (tCons te tNil))) σ F (.bool true) := fun S H1 f s Q q =>
  h S H1 f s _ fun v H2 s2 p => hc S H2 (f.mono s2) (s.trans (offS_mono s2)) _ fun w H3 s3 ew => by
    subst ew
    obtain ⟨x, dx, pp, o, u, rfl, h1⟩ := qv_ins p
    exact ⟨_, _, _, _, true, rfl, .own C, .base (.ins (s3 _ _ (offS_same _ _ h1)) cl ic.ha ic.hn ic.htk ic.hm), ic.kit, q _ H3 (s2.trans s3) (.bl _)⟩
theorem ints_rpT {H : Hp} : ∀ ns : List Int, RpA H (ns.map V.int) (ns.map PyData.int)
  | [] => .nil
  | n :: ns => .cons (.int n) (ints_rpT ns)
theorem e_used (cl : Cls K C) (nU : NoAttr K C "used") (h : EvP ta σ F (QV C as)) : EvD (tFld K ta "used") σ F (.tuple ((sd (vars as)).map .int)) := fun S H1 f s Q q =>
  h S H1 f s _ fun v H2 s2 p => by
    obtain ⟨x, dx, pp, rfl, hq⟩ := p
    obtain ⟨o, u, ns, h1, h2, h3, h4, _⟩ := hq.obj
    have e : ns = sd (vars as) := up_eq h3 (sd_up _) fun k => (h4 k).trans sd_mem.symm
    subst e
    exact ⟨x, C, dx, _, _, rfl, offS_same _ _ h1, cl, nU, qf_used _ _ _, q _ H2 s2 (.tup h2 (ints_rpT _))⟩
/-- x[-1] of a tuple -/
theorem e_ixLast (ha : EvD ta σ F (.tuple ds)) (hb : EvD tb σ F (.int (-1))) (hd : ds.getLast? = some d) : EvD (tOp (rIxT K) ta tb) σ F d := e_op ha hb fun S H x y f rx ry Q q => by
  cases rx with
  | @tup a xs _ h1 r1 =>
    cases ry
    have l := r1.length
    have hne : ds ≠ [] := fun z => by rw [z] at hd; cases hd
    have lp : 0 < ds.length := List.length_pos_iff.mpr hne
    have hg : ds[ds.length - 1]? = some d := by rw [← List.getLast?_eq_getElem?]; exact hd
    have hx : xs[ds.length - 1]? = some (xs[ds.length - 1]'(by omega)) := List.getElem?_eq_getElem (by omega)
    obtain ⟨d2, e2, r2⟩ := r1.get hx
    rw [hg] at e2
    cases e2
    refine ⟨a, xs, -1, _, rfl, rfl, .inl (.inl (offS_same _ _ h1)), ?_, q _ _ (Same.refl _) r2⟩
    unfold atI ixN
    rw [if_neg (by decide)]
    by_cases c : -(xs.length : Int) ≤ -1
    · first
        | (rw [if_pos c]; show xs[_]? = _; rw [← hx]; congr 1; omega)
        | (simp only [c, if_true]; show xs[_]? = _; rw [← hx]; congr 1; omega)
        | (simp [c]; rw [← hx]; congr 1; omega)
    · omega
theorem a_starT {tas : TA} {es : List PyData} (h : EvD te σ F (.tuple es)) (hs : EvA tas σ F ds) : EvA (StX.tStar K te tas) σ F (es ++ ds) := fun S H1 f s Q q =>
  h S H1 f s _ fun v H2 s2 r => by
    obtain ⟨a, xs, rfl, ha, rx⟩ := rp_tup r
    exact ⟨a, xs, rfl, .inl (.inl (.inl ha)), hs S H2 (f.mono s2) (s.trans (offS_mono s2)) _ fun vs H3 s3 r3 => q _ H3 (s2.trans s3) ((rx.mono (offS_mono s3)).append r3)⟩
theorem a_starL {tas : TA} {es : List PyData} (h : EvD te σ F (.list es)) (hs : EvA tas σ F ds) : EvA (StX.tStar K te tas) σ F (es ++ ds) := fun S H1 f s Q q =>
  h S H1 f s _ fun v H2 s2 r => by
    obtain ⟨a, xs, rfl, ha, rx⟩ := rp_lst r
    exact ⟨a, xs, rfl, .inr (.inl (.inl ha)), hs S H2 (f.mono s2) (s.trans (offS_mono s2)) _ fun vs H3 s3 r3 => q _ H3 (s2.trans s3) ((rx.mono (offS_mono s3)).append r3)⟩
end
/-- the promise of question_within_limits -/
def spQwl (C NX : Addr) : Sp := fun vs H Q E => ∃ (S : Addr → Bool) (v : V) (bs : List At), vs = [v] ∧ Fr S H ∧ Rp (offS S H) v (.list (bs.map atD)) ∧ bs.length ≤ 1000 ∧ (areAt (bs.map atD) = false → ∀ H', Same H H' → E (.ref NX) none H') ∧
  (areAt (bs.map atD) = true → ∀ v H', Same H H' → QV C bs (offS S H') v → Q v H')
/-- the promise of an operator of two questions -/
def spQbin (C NX : Addr) (fn : List At → List At → List At) : Sp := fun vs H Q E => ∃ (S : Addr → Bool) (vq vo : V) (as bs : List At), vs = [vq, vo] ∧ Fr S H ∧ QV C as (offS S H) vq ∧ QV C bs (offS S H) vo ∧ 1 ≤ as.length ∧ as.length ≤ 4 ∧ bs.length ≤ 4 ∧
  (areAt ((fn as bs).map atD) = false → ∀ H', Same H H' → E (.ref NX) none H') ∧ (areAt ((fn as bs).map atD) = true → ∀ v H', Same H H' → QV C (fn as bs) (offS S H') v → Q v H')
theorem go_retC1 {σ : L2.St} {S : Addr → Bool} {H : Hp} {D : L2.Ends} {te : TE} {P : Hp → V → Prop} {sp : Sp} {E : XK} (f : Fr S H) (h : EvP te σ (offS S H) P) (k : ∀ v H', Same H H' → P (offS S H') v → sp [v] H' D.rt E) : tRet (tCall sp [] E (tCons te tNil)) D σ H := h S H f (Same.refl _) _ k
section
variable {P : Program} {w : World} {K : PySem.W.Frag} {mg : PySem.Str → Option Value} {base : Heap}
theorem ok_cq {f C N : Addr} {fd : FuncData} (F : FnP K "check_question" s_cq f fd) (T : Tx K mg) (TQ : QT K mg C N) (ic : IsiC K C) (gC : mg "Question" = some (.ref C)) : FnOk P w K mg base CX0 1 f fd ["thing"] (spQ (ICq C)) := by
  refine F.ok sc_cq (spQ_len (by rintro _ _ _ ⟨v, as, rfl, _⟩; rfl)) (fun cdv A outer s H vs Q E hr h => ?_)
  obtain ⟨S, P0, fr, ⟨v0, as, rfl, hq, rfl⟩, q⟩ := h
  refine ⟨_, PSs.nox (pss_one (ps_if (pt_not (pt_val (pe_callB (call_isi : CallR _ _ (rIsi K)) (by rfl) T.isi bIsi (pa_cons (pv 0) (pa_cons (pe_glob (v := .ref C) rfl gC rfl) pa_nil))))) pss_never pss_nil)), ?_⟩
  exact go_ifF fr (b_not (b_val (e_isiQ TQ.cl ic (e_varP (P := QV C as) rfl fun _ s => hq.mono s) (fun S H1 f s Q q => q _ H1 (Same.refl _) rfl)))) fun H1 s1 fr1 => q _ H1 s1 .non
theorem ok_qwl {f C N NX fI : Addr} {fd : FuncData} (F : FnP K "question_within_limits" s_qwl f fd) (M : Mk K C fI) (GI : FnR P w K mg base (L2.CX P w) 4 fI (spInitR C N)) (gC : mg "Question" = some (.ref C)) (XT1 : XT K mg "TooMuch" NX) (D1 : Fd P w K mg base "are_atoms" 3 ["things"] (spR RAre)) :
    FnOk P w K mg base (L2.CX P w) 6 f fd ["atoms"] (spQwl C NX) := by
  obtain ⟨f1, fd1, G1, b1, k1, m1⟩ := D1.ex
  refine F.ok sc_qwl (fun vs H Q E h => ?_) (fun cdv A outer s H vs Q E hr h => ?_)
  · obtain ⟨S, v, bs, rfl, _⟩ := h
    rfl
  obtain ⟨S, v0, bs, rfl, fr, r0, hz, kE, kQ⟩ := h
  refine ⟨_, pss_cons (ps_if (pt_not (pt_val (pe_call G1 (hr.mono (by decide)) rfl m1 k1 b1 .nil pass0 (pa_cons (pv 0) pa_nil))))
    (pss_one (ps_raise rfl (takes_of rfl rfl rfl rfl) (pmk_own PySem.F.excBase_ValueError XT1.xN XT1.gN XT1.kN (raises_own XT1.bN XT1.tN) rfl))) pss_nil) (pss_one (ps_ret (pe_glbStar M GI (hr.mono (by decide)) rfl gC passL (pv 0)))), ?_⟩
  refine go_ifS (b := !areAt (bs.map atD)) fr (b_not (b_val (e_call (a_cons (e_var rfl r0) a_nil) ⟨_, .inr rfl, by rw [List.length_map]; exact hz, rfl⟩))) (fun z H1 s1 f1 => kE (by simpa using z) H1 s1) fun z H1 s1 fr1 => ?_
  have bt : areAt (bs.map atD) = true := by simpa using z
  obtain ⟨l1, l4, g⟩ := are_inv bt
  exact go_ret (P := QV C bs) fr1 (e_glbStar (N := N) (e_var rfl (r0.mono (offS_mono (S := S) s1))) g l1 l4) fun v H2 s2 p2 => kQ bt v H2 (s1.trans s2) p2
theorem ok_qadd {f C N NX fT : Addr} {fd fdT : FuncData} (F : FnM K "__add__" "Question.__add__" s_qadd f fd) (TQ : QT K mg C N) (D1 : Fd P w K mg base "check_question" 1 ["thing"] (spQ (ICq C)))
    (GT : FnOk P w K mg base (L2.CX P w) 6 fT fdT ["atoms"] (spQwl C NX)) (bT : Binds K fdT ["atoms"] []) (kT : PySem.W.keepIn K (.ref fT) = true) (gT : mg "question_within_limits" = some (.ref fT)) :
    FnOk P w K mg base (L2.CX P w) 7 f fd ["self", "other"] (spQbin C NX addQ) := by
  obtain ⟨f1, fd1, G1, b1, k1, m1⟩ := D1.ex
  refine F.ok sc_qadd (fun vs H Q E h => ?_) (fun cdv A outer s H vs Q E hr h => ?_)
  · obtain ⟨S, vq, vo, as, bs, rfl, _⟩ := h
    rfl
  obtain ⟨S, vq, vo, as, bs, rfl, fr, qa, qb, l1, l4, lb, kE, kQ⟩ := h
  have ps := passes_call (X := cxOf (L2.CX P w) P w K mg base nAdd "Question.__add__" (defScope s_qadd) f cdv A outer s H E) (takes_of rfl rfl rfl rfl) (E := E) (fun _ _ _ _ h => h)
  refine ⟨_, pss_cons (ps_expr (pe_call G1 (hr.mono (by decide)) rfl m1 k1 b1 .nil pass0 (pa_cons (pv 1) pa_nil)))
    (pss_cons (ps_set (i := 2) sc_qadd.nd rfl (.inr rfl) (pe_op op_add (pe_ix (ix_tup : IxR _ (rIxT K)) (pe_fld (pv 0) rfl) (pe_un un_neg pe_int) (fun _ _ => rfl)) pe_int))
    (pss_cons (ps_setLc (i := 3) (own := [("kind", 4), ("left", 5), ("right", 6)]) (g := gTup K 3 (gCons (gName 4) (gCons (gName 5) (gCons (gName 6) gNil)))) (by rfl) sc_qadd.nd rfl rfl (sw_true rfl rfl rfl (by decide +kernel)) (pi_tup (pe_fld (pv 1) rfl))
      (blkOk_by (own := [("kind", 4), ("left", 5), ("right", 6)]) (N := nAdd) (sc := defScope s_qadd) (by decide +kernel))
      (fun _ _ _ _ _ => pg_tup (by rfl) (pgs_cons (pg_name (i := 4) sc_qadd.nd rfl (Or.inl rfl)) (pgs_cons (pg_name (i := 5) sc_qadd.nd rfl (Or.inl rfl)) (pgs_cons (pg_name (i := 6) sc_qadd.nd rfl (Or.inl rfl)) pgs_nil)))) (fun _ _ _ _ _ => pts_nil)
      (fun _ _ _ _ _ => pe_tup (pa_cons (pv 4) (pa_cons (pe_op op_add (pv 5) (pv 2)) (pa_cons (pe_op op_add (pv 6) (pv 2)) pa_nil)))))
    (pss_one (ps_ret (pe_call GT (hr.mono (by decide)) rfl gT kT bT .nil ps (pa_cons (pe_lst (StX.pa_star (pe_fld (pv 0) rfl) (StX.pa_star (pv 3) pa_nil))) pa_nil)))))), ?_⟩
  refine e_call1 (P := fun H v => Rp H v .none) (P0 := QV C bs) (e_varP rfl fun _ sm => qb.mono sm) (fun F v z => ⟨v, bs, rfl, z, rfl⟩) S H fr (Same.refl _) _ fun v1 H1 s1 p1 => ?_
  have fr1 := fr.mono s1
  have qa1 := qa.mono (offS_mono (S := S) s1)
  have qb1 := qb.mono (offS_mono (S := S) s1)
  have hl : ((sd (vars as)).map PyData.int).getLast? = some (.int (mxq as)) := by
    unfold mxq
    rw [List.getLast?_map, List.getLast?_eq_some_getLast (vars_ne l1), List.getLastD_eq_getLast?, List.getLast?_eq_some_getLast (vars_ne l1)]
    rfl
  refine go_setS (P := fun H v => Rp H v (.int (mxq as + 1))) fr1 (e_add (e_ixLast (K := K) (e_used TQ.cl TQ.nU (e_varP (P := QV C as) rfl fun _ sm => qa1.mono sm)) (e_neg e_int) hl) e_int) fun v2 H2 s2 fr2 r2 => ?_
  have qa2 := qa1.mono (offS_mono (S := S) s2)
  have qb2 := qb1.mono (offS_mono (S := S) s2)
  refine go_setS (P := fun H v => Rp H v (.list ((bs.map (shA (mxq as + 1))).map atD))) fr2 (eqD (e_lcT (enc := atD) (as := bs) (b := fun _ => true) (ev := fun a => atD (shA (mxq as + 1) a)) (e_given TQ.cl TQ.nG (e_varP (P := QV C bs) rfl fun _ sm => qb2.mono sm)) (by omega) fun a ha x F1 sF r => g_tup3 r fun w1 w2 w3 q1 q2 q3 => ⟨rfl, b_yes, fun _ => e_tup (a_cons (e_var rfl q1) (a_cons (e_add (e_var rfl q2) (e_var rfl (r2.mono sF))) (a_cons (e_add (e_var rfl q3) (e_var rfl (r2.mono sF))) a_nil)))⟩) (by rw [filter_yes, List.map_map]; rfl)) fun v3 H3 s3 fr3 r3 => ?_
  have qa3 := qa2.mono (offS_mono (S := S) s3)
  refine go_retC1 (P := fun H v => Rp H v (.list ((addQ as bs).map atD))) fr3 (eqD (e_lst (a_starT (K := K) (e_given TQ.cl TQ.nG (e_varP (P := QV C as) rfl fun _ sm => qa3.mono sm)) (a_starL (K := K) (e_var rfl r3) a_nil)) (by simp only [List.append_nil, List.length_append, List.length_map]; omega)) (by rw [List.append_nil, ← List.map_append]; rfl))
    fun v5 H5 s5 r5 => ⟨S, v5, addQ as bs, rfl, fr3.mono s5, r5, by unfold addQ; rw [List.length_append, List.length_map]; omega, fun z H6 s6 => kE z H6 (s1.trans (s2.trans (s3.trans (s5.trans s6)))), fun z v H6 s6 qv => kQ z v H6 (s1.trans (s2.trans (s3.trans (s5.trans s6)))) qv⟩
theorem ok_qor {f C N NX fT : Addr} {fd fdT : FuncData} (F : FnM K "__or__" "Question.__or__" s_qor f fd) (TQ : QT K mg C N) (D1 : Fd P w K mg base "check_question" 1 ["thing"] (spQ (ICq C)))
    (GT : FnOk P w K mg base (L2.CX P w) 6 fT fdT ["atoms"] (spQwl C NX)) (bT : Binds K fdT ["atoms"] []) (kT : PySem.W.keepIn K (.ref fT) = true) (gT : mg "question_within_limits" = some (.ref fT)) :
    FnOk P w K mg base (L2.CX P w) 7 f fd ["self", "other"] (spQbin C NX orQ) := by
  obtain ⟨f1, fd1, G1, b1, k1, m1⟩ := D1.ex
  refine F.ok sc_qor (fun vs H Q E h => ?_) (fun cdv A outer s H vs Q E hr h => ?_)
  · obtain ⟨S, vq, vo, as, bs, rfl, _⟩ := h
    rfl
  obtain ⟨S, vq, vo, as, bs, rfl, fr, qa, qb, l1, l4, lb, kE, kQ⟩ := h
  have ps := passes_call (X := cxOf (L2.CX P w) P w K mg base ["self", "other"] "Question.__or__" (defScope s_qor) f cdv A outer s H E) (takes_of rfl rfl rfl rfl) (E := E) (fun _ _ _ _ h => h)
  refine ⟨_, pss_cons (ps_expr (pe_call G1 (hr.mono (by decide)) rfl m1 k1 b1 .nil pass0 (pa_cons (pv 1) pa_nil)))
    (pss_one (ps_ret (pe_call GT (hr.mono (by decide)) rfl gT kT bT .nil ps (pa_cons (pe_lst (StX.pa_star (pe_fld (pv 0) rfl) (StX.pa_star (pe_fld (pv 1) rfl) pa_nil))) pa_nil)))), ?_⟩
  refine e_call1 (P := fun H v => Rp H v .none) (P0 := QV C bs) (e_varP rfl fun _ sm => qb.mono sm) (fun F v z => ⟨v, bs, rfl, z, rfl⟩) S H fr (Same.refl _) _ fun v1 H1 s1 p1 => ?_
  have fr1 := fr.mono s1
  have qa1 := qa.mono (offS_mono (S := S) s1)
  have qb1 := qb.mono (offS_mono (S := S) s1)
  refine go_retC1 (P := fun H v => Rp H v (.list ((orQ as bs).map atD))) fr1 (eqD (e_lst (a_starT (K := K) (e_given TQ.cl TQ.nG (e_varP (P := QV C as) rfl fun _ sm => qa1.mono sm)) (a_starT (K := K) (e_given TQ.cl TQ.nG (e_varP (P := QV C bs) rfl fun _ sm => qb1.mono sm)) a_nil)) (by simp only [List.append_nil, List.length_append, List.length_map]; omega)) (by rw [List.append_nil, ← List.map_append]; rfl))
    fun v5 H5 s5 r5 => ⟨S, v5, orQ as bs, rfl, fr1.mono s5, r5, by unfold orQ; rw [List.length_append]; omega, fun z H6 s6 => kE z H6 (s1.trans (s5.trans s6)), fun z v H6 s6 qv => kQ z v H6 (s1.trans (s5.trans s6)) qv⟩
theorem ok_turned {f C N fI : Addr} {fd : FuncData} (F : FnM K "turned" "Question.turned" s_turned f fd) (TQ : QT K mg C N) (M : Mk K C fI) (GI : FnR P w K mg base (L2.CX P w) 4 fI (spInitR C N)) (gC : mg "Question" = some (.ref C)) :
    FnOk P w K mg base CX0 6 f fd ["self"] (spQ (ITurned C)) := by
  refine F.ok sc_turned (spQ_len (by rintro _ _ _ ⟨v, as, rfl, _⟩; rfl)) (fun cdv A outer s H vs Q E hr h => ?_)
  obtain ⟨S, P0, fr, ⟨v0, as, rfl, hq, g, l1, l4, rfl⟩, q⟩ := h
  refine ⟨_, PSs.nox (pss_cons (ps_setLc (i := 1) (own := [("kind", 2), ("left", 3), ("right", 4)]) (g := gTup K 3 (gCons (gName 2) (gCons (gName 3) (gCons (gName 4) gNil)))) (by rfl) sc_turned.nd rfl rfl (sw_true rfl rfl rfl (by decide +kernel)) (pi_tup (pe_fld (pv 0) rfl))
      (blkOk_by (own := [("kind", 2), ("left", 3), ("right", 4)]) (N := ["self", "atoms", "kind", "left", "right"]) (sc := defScope s_turned) (by decide +kernel))
      (fun _ _ _ _ _ => pg_tup (by rfl) (pgs_cons (pg_name (i := 2) sc_turned.nd rfl (Or.inl rfl)) (pgs_cons (pg_name (i := 3) sc_turned.nd rfl (Or.inl rfl)) (pgs_cons (pg_name (i := 4) sc_turned.nd rfl (Or.inl rfl)) pgs_nil)))) (fun _ _ _ _ _ => pts_nil)
      (fun _ _ _ _ _ => pe_tup (pa_cons (pv 2) (pa_cons (pv 4) (pa_cons (pv 3) pa_nil)))))
    (pss_one (ps_ret (pe_glbStar M GI hr rfl gC passL (pv 1))))), ?_⟩
  refine go_setS (P := fun H v => Rp H v (.list ((as.map trn).map atD))) fr (eqD (e_lcT (enc := atD) (e_given TQ.cl TQ.nG (e_varP (P := QV C as) rfl fun _ s => hq.mono s)) (by omega) fun a ha x F1 sF r => g_tup3 r fun v1 v2 v3 q1 q2 q3 => ⟨rfl, b_yes, fun _ => e_tup (a_cons (e_var rfl q1) (a_cons (e_var rfl q3) (a_cons (e_var rfl q2) a_nil)))⟩) ?_) fun v1 H1 s1 fr1 r1 => ?_
  · rw [List.filter_eq_self.mpr fun _ _ => rfl, List.map_map]
    rfl
  · exact go_ret (P := QV C (as.map trn)) fr1 (e_glbStar (N := N) (e_var rfl r1) (turn_good g) (by rw [List.length_map]; exact l1) (by rw [List.length_map]; exact l4)) fun v H2 s2 p => q v H2 (s1.trans s2) p
end
end Q

set_option maxHeartbeats 4000000
namespace Ca
open PySem PySem.Spec PyProof.Rows L2 LamX
/-! ### what stays where tables of code objects grow -/
section
variable {F F' : Hp}
theorem ext_off {S : Addr → Bool} {H H' : Hp} (e : ExtN H H') : ExtN (offS S H) (offS S H') := fun b o h n => by
  have hb : S b = false := by
    cases q : S b with
    | false => rfl
    | true =>
      unfold offS at h
      rw [if_pos q] at h
      cases h
  rw [offS_at hb] at h ⊢
  exact e b o h n
theorem same_ext {H1 H2 H3 : Hp} (s : Same H1 H2) (e : ExtN H2 H3) : ExtN H1 H3 := (ExtN.of s).trans e
mutual
theorem Rp.ext (e : ExtN F F') : ∀ {d : PyData} {v : V}, Rp F v d → Rp F' v d
  | _, _, .non => .non
  | _, _, .bl b => .bl b
  | _, _, .int i => .int i
  | _, _, .str x => .str x
  | _, _, .lst h r => .lst (e _ _ h (fun _ z => nomatch z)) (RpA.ext e r)
  | _, _, .tup h r => .tup (e _ _ h (fun _ z => nomatch z)) (RpA.ext e r)
  | _, _, .dic h => .dic (e _ _ h (fun _ z => nomatch z))
theorem RpA.ext (e : ExtN F F') : ∀ {ds : List PyData} {vs : List V}, RpA F vs ds → RpA F' vs ds
  | _, _, .nil => .nil
  | _, _, .cons h r => .cons (Rp.ext e h) (RpA.ext e r)
end
end
/-! ### the law's own call, with tables -/
theorem law_callGT {P : Program} {w : World} {K : PySem.W.Frag} {mg mb : PySem.Str → Option Value} {k : Nat} {fa a : Addr} {ts : List (Addr × Addr)} {sp : Sp} {s₁ : Shared} {vs : List Value} {ns : List Int}
    (KX : K.In s₁.heap) (gns : s₁.heap.Ns mainGlobals mg) (bns : s₁.heap.Ns builtinsNs mb) (bb : ∀ x : PySem.Str, x ≠ "__name__" → mb x = bootBuiltins x) (lim : s₁.heap.NoLimit) (hgen : s₁.gens = #[])
    (empty : ∀ p ∈ ts, s₁.heap.get? p.2 = some { cls := .none, data := .fields #[] }) (out : ∀ p ∈ ts, K.lookup p.2 = none) (hd : ∀ p ∈ ts, PySem.W.codeHdIn K p.1 p.2 = true)
    (bmod : ∃ (bm : Addr) (ob : Obj), mg "__builtins__" = some (.ref bm) ∧ bm ≠ builtinsNs ∧ s₁.heap.get? bm = some ob ∧ ob.cls = .type "module" ∧ ob.dict = some builtinsNs ∧ ob.data = .plain)
    (ha : s₁.heap.get? a = some { cls := .type "list", data := .seq vs.toArray }) (hi : IntsAre vs ns) (hl : ns.length ≤ sizeLine) (hr : Room k callerA)
    (F : ∀ base : Heap, K.In base → base.Ns mainGlobals mg → (∀ p ∈ ts, TabB base mg p.1 p.2) → FnG P w K mg base CX0 k fa sp)
    (hsp : ∀ H : Hp, (∀ p ∈ ts, H p.2 = some (.tbl #[])) → SqL K H a (ns.map V.int) → sp [.ref a] H (fun v _ => v = .bl true) fun _ _ _ => False) :
    codeAny (model P w) callerA (.call (.ref fa) ⟨[.ref a], []⟩) (fun r s' => r = .ok (.ret (.bool true)) ∧ OldK s₁.heap s'.heap ∧ s'.os = s₁.os ∧ AllBare s'.gens) s₁ := by
  have rv := vals_ints hi
  have lv := hi.length
  have tab_of : ∀ b ∈ ts.map Prod.snd, s₁.heap.get? b = some { cls := .none, data := .fields #[] } := fun b hb => by
    obtain ⟨p, hp, rfl⟩ := List.mem_map.mp hb
    exact empty p hp
  have a_no : a ∉ ts.map Prod.snd := fun z => by
    have q := (tab_of a z).symm.trans ha
    cases congrArg Obj.data (Option.some.inj q)
  have main : ∀ H : Hp, (∀ b ∈ ts.map Prod.snd, H b = some (.tbl #[])) → (∀ b, H b ≠ none → b = a ∨ b ∈ ts.map Prod.snd) → (∀ u, H a = some u → ∃ o xs, u = .frz o (.lst xs)) → SqL K H a (ns.map V.int) → HOk P w H s₁.heap → (H a ≠ none → K.lookup a = none) →
      codeAny (model P w) callerA (.call (.ref fa) ⟨[.ref a], []⟩) (fun r s' => r = .ok (.ret (.bool true)) ∧ OldK s₁.heap s'.heap ∧ s'.os = s₁.os ∧ AllBare s'.gens) s₁ := by
    intro H tabs only frozen sq hok inK
    have seen : ∀ {b : Addr} {o : Obj}, s₁.heap.get? b = some o → H b = none ∨ o.data = .seq vs.toArray ∨ o.data = .fields #[] := fun {b o} e => by
      cases q : H b with
      | none => exact .inl rfl
      | some u =>
        rcases only b (by rw [q]; simp) with rfl | hb
        · cases ha.symm.trans e
          exact .inr (.inl rfl)
        · cases (tab_of b hb).symm.trans e
          exact .inr (.inr rfl)
    have ns_hid : ∀ {b : Addr} {m : PySem.Str → Option Value}, s₁.heap.Ns b m → (hidT s₁.heap H).Ns b m := fun {b m} ⟨o, es, ep, e, d, z⟩ => by
      rcases seen e with h | h | h
      · exact ⟨o, es, ep, hidT_get e h, d, z⟩
      · cases d.symm.trans h
      · cases d.symm.trans h
    have kHid : K.In (hidT s₁.heap H) := fun b o e => by
      refine hidT_get (KX b o e) ?_
      cases q : H b with
      | none => rfl
      | some u =>
        rcases only b (by rw [q]; simp) with rfl | hb
        · cases (inK (by rw [q]; simp)).symm.trans e
        · obtain ⟨p, hp, rfl⟩ := List.mem_map.mp hb
          cases (out p hp).symm.trans e
    have md : Mod K mg (hidT s₁.heap H) := ⟨kHid, ns_hid gns, ⟨mb, ns_hid bns, bb⟩, let ⟨mc, h1, h2⟩ := lim; ⟨mc, ns_hid h1, h2⟩⟩
    have env : Env0 P w K mg (hidT s₁.heap H) callerA [] s₁ H := ⟨rfl, md, fun b o e => of_hidT e, Nat.le_of_eq (hidT_size _ _), trivial,
      fun b hb => absurd (show b ∈ ([] : List Addr) from hb) (by simp), hok, .of_eq hgen⟩
    have tb : ∀ p ∈ ts, TabB (hidT s₁.heap H) mg p.1 p.2 := fun p hp => by
      obtain ⟨o, es, ep, eg, dg, _⟩ := id gns
      refine NdefX.tabB_of_K kHid (hd p hp) ?_ fun z => ?_
      · obtain ⟨bm, ob, g1, g2, g3, g4, g5, g6⟩ := bmod
        refine ⟨bm, ob, g1, g2, fun z => ?_, fun z => ?_, ?_, g4, g5, g6⟩
        · rw [z, eg] at g3
          cases g3
          cases dg.symm.trans g6
        · rw [z, empty p hp] at g3
          cases g3
          cases g6
        · rcases seen g3 with h | h | h
          · exact hidT_get g3 h
          · cases g6.symm.trans h
          · cases g6.symm.trans h
      · rw [z, empty p hp] at eg
        cases eg
        cases dg
    refine codeAny_mono (F _ kHid (ns_hid gns) tb callerA [] s₁ H [.ref a] [.ref a] _ _ rfl hr env (.cons rfl .nil) (hsp H (fun p hp => tabs _ (List.mem_map.mpr ⟨p, hp, rfl⟩)) sq)) fun r s' h => ?_
    match r, h with
    | .ok (.ret u), ⟨v, H', os, bare, un, hok', r', q⟩ =>
      obtain rfl : v = .bl true := q
      obtain rfl : u = Value.bool true := r'
      have still : ∀ b o, b ∉ ts.map Prod.snd → s₁.heap.get? b = some o → s'.heap.get? b = some o := fun b o nb e => by
        cases q : H b with
        | none => exact un.keep b o e q (fun z => absurd (show b ∈ ([] : List Addr) from z) (by simp)) (by simp)
        | some u =>
          rcases only b (by rw [q]; simp) with rfl | hb
          · obtain ⟨ob, xs, rfl⟩ := frozen u q
            obtain ⟨e1, _⟩ := hok _ _ q
            obtain ⟨e2, _⟩ := hok' _ _ (un.frzs _ ob _ q)
            cases e1.symm.trans e
            exact e2
          · exact absurd hb nb
      have grown : ∀ b ∈ ts.map Prod.snd, ∃ more : Array Value, s'.heap.get? b = some { cls := .none, data := .fields more } := fun b hb => by
        obtain ⟨more, z⟩ := un.tbls b #[] (tabs b hb)
        exact ⟨_, hok' b _ z⟩
      refine ⟨rfl, ⟨fun b o e => ?_, fun b o e => ?_⟩, os, bare⟩
      · by_cases hb : b ∈ ts.map Prod.snd
        · obtain ⟨more, g⟩ := grown b hb
          obtain ⟨p, hp, rfl⟩ := List.mem_map.mp hb
          cases (empty p hp).symm.trans e
          exact .inr (.inl ⟨((PySem.W.codeHd_of_K KX (hd p hp)).tab (empty p hp)).isCodeTable, rfl, #[], more, rfl, by rw [Array.empty_append]; exact g⟩)
        · exact .inl (still b o hb e)
      · by_cases hb : b ∈ ts.map Prod.snd
        · obtain ⟨more, g⟩ := grown b hb
          exact ⟨_, g⟩
        · exact ⟨o, still b o hb e⟩
  cases hk : K.lookup a with
  | some o =>
    have e := KX a o hk
    rw [ha] at e
    cases e
    refine main (fun b => if b ∈ ts.map Prod.snd then some (.tbl #[]) else none) (fun b hb => if_pos hb) (fun b z => ?_) (fun u z => ?_) (.inr ⟨_, vs.toArray, _, hk, rfl, rfl, rfl, ?_, by simpa using rv⟩) (fun b u z => ?_) fun z => absurd (if_neg a_no) z
    · by_cases hb : b ∈ ts.map Prod.snd
      · exact .inr hb
      · exact absurd (if_neg hb) z
    · cases (if_neg a_no).symm.trans z
    · rw [List.size_toArray, lv]
      exact hl
    · by_cases hb : b ∈ ts.map Prod.snd
      · cases (if_pos hb).symm.trans z
        exact tab_of b hb
      · cases (if_neg hb).symm.trans z
  | none =>
    let oa : Obj := { cls := .type "list", data := .seq vs.toArray }
    let H0 : Hp := fun b => if b = a then some (.frz oa (.lst (ns.map V.int))) else if b ∈ ts.map Prod.snd then some (.tbl #[]) else none
    have at_a : H0 a = some (.frz oa (.lst (ns.map V.int))) := if_pos rfl
    have at_t : ∀ b ∈ ts.map Prod.snd, H0 b = some (.tbl #[]) := fun b hb => (if_neg (show ¬ b = a from fun z => a_no (by rw [← z]; exact hb))).trans (if_pos hb)
    have at_o : ∀ b, b ≠ a → b ∉ ts.map Prod.snd → H0 b = none := fun b n1 n2 => (if_neg n1).trans (if_neg n2)
    refine main H0 at_t (fun b z => ?_) (fun u z => ?_) (.inl (.inr ⟨oa, at_a⟩)) (fun b u z => ?_) fun _ => hk
    · by_cases h1 : b = a
      · exact .inl h1
      · by_cases h2 : b ∈ ts.map Prod.snd
        · exact .inr h2
        · exact absurd (at_o b h1 h2) z
    · cases at_a.symm.trans z
      exact ⟨_, _, rfl⟩
    · by_cases h1 : b = a
      · subst h1
        cases at_a.symm.trans z
        refine ⟨ha, ?_, vs, _, rv, ha⟩
        rw [List.length_map]
        exact hl
      · by_cases h2 : b ∈ ts.map Prod.snd
        · cases (at_t b h2).symm.trans z
          exact tab_of b h2
        · cases (at_o b h1 h2).symm.trans z
end Ca

set_option maxHeartbeats 4000000
namespace Ca
open PySem PySem.Spec PyProof.Rows L2 LamX He
/-! ### the code object of a def, its table -/
def codeAt (K : PySem.W.Frag) (f : Addr) : Addr := match K.lookup f with
  | some ⟨_, _, .func fd, _⟩ => (match fd.code with
    | .ref c => c
    | _ => 0)
  | _ => 0
def isRefC (K : PySem.W.Frag) (f : Addr) : Bool := match K.lookup f with
  | some ⟨_, _, .func fd, _⟩ => (match fd.code with
    | .ref _ => true
    | _ => false)
  | _ => false
def tabAt (K : PySem.W.Frag) (c : Addr) : Addr := match K.lookup c with
  | some ⟨_, _, .fields vs, _⟩ => (match (vs[11]? : Option Value) with
    | some (.ref P) => P
    | _ => 0)
  | _ => 0
/-- a def that makes lambdas: its code object and its table -/
def ctD (K : PySem.W.Frag) (d : DfX) : Addr × Addr := (codeAt K (d.at_ K), tabAt K (codeAt K (d.at_ K)))
def tabsZ (g : Addr → Option Obj) (tf : List DfX) (K : PySem.W.Frag) : Bool := tf.all fun d => isRefC K (d.at_ K) && (PySem.W.codeHdIn K (ctD K d).1 (ctD K d).2 && (match g (ctD K d).2 with
  | some o => emptyTab o
  | none => false))
structure SaysZ (fs : List (PySem.W.Frag → Bool)) (fn tf : List DfX) (h : Heap) (K : PySem.W.Frag) : Prop where
  c : SaysX fs fn K
  code : ∀ d ∈ tf, isRefC K (d.at_ K) = true
  hd : ∀ d ∈ tf, PySem.W.codeHdIn K (ctD K d).1 (ctD K d).2 = true
  out : ∀ d ∈ tf, K.lookup (ctD K d).2 = none
  empty : ∀ d ∈ tf, h.get? (ctD K d).2 = some { cls := .none, data := .fields #[] }
abbrev AlZ : Type := AlX × Bool
def seeZ (n : Nat) (fs : List (PySem.W.Frag → Bool)) (fn tf : List DfX) (g : Addr → Option Obj) : AlZ :=
  (seeX fs fn (frT g (cStatics :: sysModules :: asD g n)), tabsZ g tf (frT g (cStatics :: sysModules :: asD g n)))
theorem saysZ_of {n : Nat} {fs : List (PySem.W.Frag → Bool)} {fn tf : List DfX} {h : Heap} (e : seeZ n fs fn tf h.get? = (dueX fn, true)) : SaysZ fs fn tf h (frT h.get? (cStatics :: sysModules :: asD h.get? n)) := by
  have e1 : SaysX fs fn (frT h.get? (cStatics :: sysModules :: asD h.get? n)) := congrArg Prod.fst e
  have e2 : tabsZ h.get? tf (frT h.get? (cStatics :: sysModules :: asD h.get? n)) = true := congrArg Prod.snd e
  generalize hK : frT h.get? (cStatics :: sysModules :: asD h.get? n) = K at e1 e2
  have each : ∀ d ∈ tf, isRefC K (d.at_ K) = true ∧ PySem.W.codeHdIn K (ctD K d).1 (ctD K d).2 = true ∧ ∃ o, h.get? (ctD K d).2 = some o ∧ emptyTab o = true := fun d hd => by
    obtain ⟨z1, z⟩ := ba (List.all_eq_true.mp e2 d hd)
    obtain ⟨z2, z3⟩ := ba z
    refine ⟨z1, z2, ?_⟩
    cases q : h.get? (ctD K d).2 with
    | none =>
      rw [q] at z3
      cases z3
    | some o =>
      rw [q] at z3
      exact ⟨o, rfl, z3⟩
  refine ⟨e1, fun d hd => (each d hd).1, fun d hd => (each d hd).2.1, fun d hd => ?_, fun d hd => ?_⟩
  · obtain ⟨_, _, o, q, z⟩ := each d hd
    rw [← hK] at q ⊢
    exact frT_none q z
  · obtain ⟨_, _, o, q, z⟩ := each d hd
    rw [q, emptyTab_eq z]
def hookZ (n : Nat) (fs : List (PySem.W.Frag → Bool)) (fn tf : List DfX) : PySem.W.Hook where
  α := AlZ
  obs := fun s => seeZ n fs fn tf s.heap.get?
  val := fun _ => (dueX fn, true)
  says := fun _ h => ∃ K : PySem.W.Frag, K.In h ∧ SaysZ fs fn tf h K
  of := fun _ _ e => ⟨_, frT_in, saysZ_of e⟩
  keeps := fun _ _ _ ⟨K, hK, c⟩ k => ⟨K, PySem.W.Frag.In.keeps hK k, ⟨c.c, c.code, c.hd, c.out, fun d hd => k _ _ (c.empty d hd)⟩⟩
theorem seeZ_eq {n : Nat} {fs : List (PySem.W.Frag → Bool)} {fn tf : List DfX} {g : Addr → Option Obj} {s : Shared} (h : ∀ a, g a = s.heap.get? a) : seeZ n fs fn tf g = (hookZ n fs fn tf).obs s := by
  obtain rfl : g = s.heap.get? := funext h
  rfl
/-! ### the end of a law row, with tables -/
theorem walk_ofGT {l : PySem.W.OpenLaw} {n k : Nat} {q : Program} {loose : List PySem.Str} {XP : (PySem.Str → Option Value) → Heap → Prop} {YP : World → Heap → Prop} {d : DefRec}
    (hn : l.most = some n) (hn2 : n ≤ sizeLine) (hdf : d.params.defaults = []) (hr : Room k callerA)
    (F : ∀ (w : World) (mg : PySem.Str → Option Value) (fa : Addr) (h : Heap), YP w h → h.Ns mainGlobals mg → mg d.name = some (.ref fa) →
      ∃ (K : PySem.W.Frag) (ts : List (Addr × Addr)) (sp : Sp), K.In h ∧ (∀ p ∈ ts, h.get? p.2 = some { cls := .none, data := .fields #[] }) ∧ (∀ p ∈ ts, K.lookup p.2 = none) ∧ (∀ p ∈ ts, PySem.W.codeHdIn K p.1 p.2 = true) ∧
        (∀ (H : Hp) (a : Addr) (ns : List Int), ns.length ≤ n → (∀ p ∈ ts, H p.2 = some (.tbl #[])) → SqL K H a (ns.map V.int) → sp [.ref a] H (fun v _ => v = .bl true) fun _ _ _ => False) ∧
        ∀ base : Heap, K.In base → base.Ns mainGlobals mg → (∀ p ∈ ts, TabB base mg p.1 p.2) → FnG l.prog w K mg base CX0 k fa sp) :
    PySem.W.WalkO q loose XP YP l.row.toRowW d [] (fun f vs => PySem.call f vs) := by
  refine Att.attach_call hn hdf fun w s₀ s₁ mg mb fa o pm cd doc a vs ns G Y ho hd hcd hmg hobj hints hlen hg => ?_
  obtain ⟨K, ts, sp, KX, t1, t2, t3, hsp, hF⟩ := F w mg fa _ Y G.T.g hmg
  exact law_callGT KX G.T.g G.T.b G.T.builtins G.T.nolimit hg t1 t2 t3 G.T.bmain hobj hints (Nat.le_trans hlen hn2) hr hF fun H hT hS => hsp H a ns hlen hT hS
/-! ### a def that knows its own code object -/
theorem fng_ofC {P : Program} {w : World} {K : PySem.W.Frag} {mg : PySem.Str → Option Value} {base : Heap} {CX : CXT} {k : Nat} {f : Addr} {fd : FuncData} {sp : Sp} {name qual : PySem.Str} {params : Arguments} {body : List Stmt} {scope : Scope} {N ps : List PySem.Str}
    (F : FunD K name qual params body scope [] [] f fd) (S : FnScope N ps scope) (rc : isRefC K f = true)
    (bd : ∀ (s : Shared) (us : List Value), us.length = ps.length → BindsTo s fd ⟨us, []⟩ (ps.zip us)) (len : ∀ vs H Q E, sp vs H Q E → vs.length = ps.length)
    (hbody : ∀ (A : Around) (outer : List Env) (s : Shared) (H : Hp) (vs : List V) (Q : VK) (E : XK), A.guards = some [] →
      Room k (A.deeper (envOfC qual scope s.heap.objs.size f (.ref (codeAt K f)))) → sp vs H Q E →
      ∃ t, PSs (cxOf CX P w K mg base N qual scope f (.ref (codeAt K f)) A outer s H E) body t ∧ t { nx := fun _ H' => Q .non H', rt := Q } (start N vs) H) :
    FnG P w K mg base CX (k + 1) f sp := by
  obtain ⟨oc, od, dV, kV, doc, pm, an, cdv, ct, osl, rfl, lk, hcd, _, _⟩ := F.ex
  have ec : cdv = .ref (codeAt K f) := by
    unfold isRefC at rc
    unfold codeAt
    rw [lk] at rc ⊢
    cases cdv with
    | ref c => rfl
    | _ => cases rc
  intro A outer s H us vs Q E hg hr e0 r hsp
  have l1 := len _ _ _ _ hsp
  have l2 : us.length = ps.length := by rw [← r.length]; exact l1
  refine StX.run_bnd (G := fun zs H2 => zs = vs ∧ H2 = H) lk hcd S hr e0 (fun A' Ex Q' h => ?_) fun s2 H2 zs ⟨e1, e2⟩ hr' => ?_
  · exact bd s us l2 _ _ _ _ (h s H vs us e0 (Un.kept fun _ _ e => e) rfl (fun _ _ z => z) r l1 ⟨rfl, rfl⟩)
  · subst e1 e2
    rw [ec] at hr' ⊢
    exact hbody A outer s2 _ _ Q E hg hr' hsp
end Ca

set_option maxHeartbeats 4000000
namespace Q
open PySem PySem.Spec PyProof.Rows L2 Ca LamX
/-! ### _law_said: the atoms that a deed makes, or the name of its exception -/
abbrev s_said : Stmt := top 57
theorem sc_said : FnScope ["_law_deed"] ["_law_deed"] (defScope s_said) := ⟨rfl, rfl, rfl, by decide +kernel, rfl, by decide +kernel, by decide +kernel⟩
def TSaid (K : PySem.W.Frag) (C NX : Addr) : (XK → Hp → VK → Prop) → Hp → VK → Prop := fun tl H Q =>
  tl (fun cls _ H' => PySem.W.exmOne K cls (.ref NX) = some true ∧ Q (.str "TooMuch") H') H fun v H1 => ∃ a dx fs, v = .ref a ∧ H1 a = some (.ins C dx fs) ∧ spQ (IAtoms C) [.ref a] H1 Q E0
theorem said_gives {X : Cx} {C pA fA g NX NE : Addr} {fdA : FuncData} {cdg : Value} {q : PySem.Str} (cl : Cls X.K C) (hA : PropOf X.K C "atoms" pA fA) (GA : FnOk X.prog X.w X.K X.mg X.base CX0 1 fA fdA ["self"] (spQ (IAtoms C))) (bA : Binds X.K fdA ["self"] [])
    (gX : X.mg "TooMuch" = some (.ref NX)) (gE : X.mg "CountError" = some (.ref NE)) (hr : ∀ s : Shared, Room 2 (X.A.deeper (envOfC "_law_said" (defScope s_said) s.heap.objs.size g cdg))) :
    GivesTo X ["_law_deed"] "_law_said" (defScope s_said) g cdg (defBody s_said) "_law_deed" q (TSaid X.K C NX) := by
  intro f c' s H Q tl act hc h
  refine ⟨_, pss_one (ps_try_many (X := (cxOf C8.CX0 X.prog X.w X.K X.mg X.base ["_law_deed"] "_law_said" (defScope s_said) g cdg X.A X.stack s H C8.E0).nox)
      (tb := fun W D σ H => ∃ Ech : XK, (∀ cls d σ' H', Ech cls d H' → W cls d σ' H') ∧ σ[0]? = some (some (.ref f)) ∧ H c' = some (CodeO c' q) ∧ tl Ech H fun v H1 => ∃ a dx fs, v = .ref a ∧ H1 a = some (.ins C dx fs) ∧ spQ (IAtoms C) [.ref a] H1 D.rt E0) (Wout := fun _ _ _ _ => False) rfl rfl L2.takes0
    (fun W pn xe tk _ => ?_)
    (.cons (c := .ref NX) (ts := fun _ _ _ => tRet (tC (.str "TooMuch"))) ⟨rfl, by decide, .inl gX⟩ (fun a oe cls d pn hz hf => pss_one (ps_ret pe_str)) (.cons (c := .ref NE) (ts := fun _ _ _ => tRet (tC (.str "another one"))) ⟨rfl, by decide, .inl gE⟩ (fun a oe cls d pn hz hf => pss_one (ps_ret pe_str)) .nil))), ?_⟩
  · refine ⟨fun pins s' σ H' D I h' => ?_⟩
    obtain ⟨Ech, hW, h1, h2, h3⟩ := h'
    exact PSs.run (t := tRet (tProp C (spQ (IAtoms C)) [] E0 fun σZ HZ Q => σZ[0]? = some (some (.ref f)) ∧ HZ c' = some (CodeO c' q) ∧ tl Ech HZ Q)) (pss_one (ps_ret (pe_prop (X := (cxOf C8.CX0 X.prog X.w X.K X.mg X.base ["_law_deed"] "_law_said" (defScope s_said) g cdg X.A X.stack s H C8.E0).tr pn xe) (act W pn xe Ech _ _ tk hW) cl hA GA (hr s) bA .nil pass0 rfl))) pins s' σ H' D I ⟨h1, h2, h3⟩
  · exact ⟨fun cls _ H' => PySem.W.exmOne X.K cls (.ref NX) = some true ∧ Q (.str "TooMuch") H', fun cls d σ' H' ⟨e1, e2⟩ => ⟨true, e1, fun _ a _ => e2, fun z => by cases z⟩, rfl, hc, h⟩
end Q

set_option maxHeartbeats 4000000
namespace Ca
open PySem PySem.Spec PyProof.Rows L2
/-! max(x), x a tuple of two ints; max(x), x a list of ints -/
def rMaxT2 (K : PySem.W.Frag) : List V → Hp → VK → Prop := fun xs H Q => ∃ a m n, xs = [.ref a] ∧ SqT K H a [.int m, .int n] ∧ Q (.int (max m n)) H
theorem maxOf2 (m n : Int) : PySem.W.maxOf m [n] = max m n := by
  show (if PySem.W.DatumOrd.lt m n = true then n else m) = max m n
  have lt : PySem.W.DatumOrd.lt m n = decide (m < n) := rfl
  rw [lt]
  by_cases c : m < n
  · rw [decide_eq_true c, if_pos rfl]
    omega
  · rw [decide_eq_false c, if_neg (by decide)]
    omega
theorem cr_maxT2 {X : Cx} {k : Nat} (hc : X.calm = true) (hr : Room k X.A) : CallR X (.builtin "max") (rMaxT2 X.K) := by
  intro pins s σ H xs us Q I r h
  obtain ⟨a, m, n, rfl, hs, q⟩ := h
  obtain ⟨its, rv, hl, _⟩ := I.tuple hs
  rw [Vals.ref1 r]
  have hu := hr.units
  refine PySem.W.max_tuple_datum (α := Int) (x := m) (xs := [n]) (I.ok.hd hc) hl (.of_ints (by simpa using (show Vals ([m, n].map V.int) its from rv).ints)) (by show X.A.units + 1 + 0 < cLine; omega) fun i v h' tk hi hv hk => ?_
  obtain ⟨as, rd⟩ := hv
  refine ⟨.int (max m n), H, I.kept hk, ?_, q⟩
  rw [maxOf2] at rd
  cases rd
  exact ⟨_, rfl⟩
section
variable {K : PySem.W.Frag} {σ : L2.St} {F : Hp} {ta : TE} {ds : List PyData}
theorem e_maxT2 {m n : Int} (h : EvD ta σ F (.tuple [.int m, .int n])) : EvD (tCB (rMaxT2 K) (tCons ta tNil)) σ F (.int (max m n)) := e_cb (a_cons h a_nil) fun S H vs f r Q q => by
  obtain ⟨v, rfl, rv⟩ := rpa1 r
  obtain ⟨a, xs, rfl, ha, rx⟩ := rp_tup rv
  obtain ⟨v1, v2, rfl, r1, r2⟩ := rpa2 rx
  cases r1
  cases r2
  exact ⟨a, m, n, rfl, .inl (.inl ha), q _ H (Same.refl _) (.int _)⟩
theorem e_maxL {ns : List Int} {m : Int} (h : EvD ta σ F (.list (ns.map .int))) (hm : m ∈ ns) (hg : ∀ y ∈ ns, y ≤ m) : EvD (tCB (rMax K) (tCons ta tNil)) σ F (.int m) := e_cb (a_cons h a_nil) fun S H vs f r Q q => by
  obtain ⟨v, rfl, rv⟩ := rpa1 r
  obtain ⟨a, xs, rfl, ha, rx⟩ := rp_lst rv
  have e : xs = ns.map V.int := by
    clear h hm hg ha q r rv
    induction ns generalizing xs with
    | nil => cases rx; rfl
    | cons n ns ih =>
      cases rx with
      | cons h r =>
        cases h
        rw [ih _ r]
        rfl
  subst e
  refine ⟨a, ns, rfl, .inl (.inl ha), List.length_pos_iff.mpr (fun z => by rw [z] at hm; cases hm), fun k hk hy => ?_⟩
  have e : k = m := Int.le_antisymm (hg k hk) (hy m hm)
  rw [e]
  exact q _ H (Same.refl _) (.int _)
end
end Ca

set_option maxHeartbeats 4000000
namespace Q
open PySem PySem.Spec PyProof.Rows L2 Ca
/-! ### _law_names, _law_due -/
section
variable {P : Program} {w : World} {K : PySem.W.Frag} {mg : PySem.Str → Option Value} {base : Heap}
theorem ok_lnames {f : Addr} {fd : FuncData} (F : FnP K "_law_names" s_lnames f fd) (T : Tx K mg) : FnOk P w K mg base CX0 1 f fd ["_law_atoms"] (spR RNames) := by
  refine F.ok sc_lnames (spR_len (by rintro _ _ ⟨as, rfl, _⟩; rfl)) (fun cdv A outer s H vs Q E hr h => ?_)
  obtain ⟨S, ds, d, fr, rA, ⟨as, rfl, hz, rfl⟩, q⟩ := h
  obtain ⟨v0, rfl, r0⟩ := rpa1 rA
  refine ⟨_, PSs.nox (pss_one (ps_ret (pe_lc (own := [("_law_name", 1)]) (g := gName 1) rfl sc_lnames.nd (pi_range1 rfl T.range (pa_cons pe_int pa_nil)) (blkOk_by (own := [("_law_name", 1)]) (N := ["_law_atoms", "_law_name", "_law_atom"]) (sc := defScope s_lnames) (by decide +kernel)) (fun _ _ _ _ _ => pg_name (i := 1) sc_lnames.nd rfl (Or.inr rfl)) (fun _ _ _ _ _ => (pts_one (pt_cmpR (op_neD hr.units : OpR _ _ (rNeD K)) (pe_lc (own := [("_law_atom", 2)]) (g := gName 2) rfl sc_lnames.nd (pi_list (pv 0) : PI _ _ _ (iList K _)) (blkOk_by (own := [("_law_atom", 2)]) (N := ["_law_atoms", "_law_name", "_law_atom"]) (sc := (relS (lcSc (retE ((defBody s_lnames).getD 0 (.Pass ⟨0, 0, 0, 0⟩)))) (defScope s_lnames))) (by decide +kernel)) (fun _ _ _ _ _ => pg_name (i := 2) sc_lnames.nd rfl (Or.inl rfl)) (fun _ _ _ _ _ => (pts_one (pt_cmpR (op_in_seq : OpR _ _ (rIn K false)) (pv 1) (pe_slice (sl_tupA : SlR _ (rSlA K)) (pv 2) (po_some pe_int) po_none) (by rfl)))) (fun _ _ _ _ _ => pe_int)) (pe_lst pa_nil) (nomark _)))) (fun _ _ _ _ _ => (pv 1))))), ?_⟩
  refine go_ret (P := fun H v => Rp H v _) fr (eqD (e_lcR (a_cons e_int a_nil) ?_ fun t5 ht6 x1 F2 sF3 r4 => g_name ⟨rfl, (b_test (e_neD (e_lcL (enc := atD) (e_var rfl (r0.mono sF3)) ?_ fun t11 ht12 x7 F8 sF9 r10 => g_name ⟨rfl, (b_test (e_inD (e_var rfl (r4.mono sF9)) (e_slT (e_var rfl r10) (o_some e_int) o_none) ?_)), fun _ => e_int⟩) (e_lst a_nil) ?_ ?_)), fun _ => (e_var rfl r4)⟩) ?_) q
  · decide
  · omega
  · intro d hd
    rw [show Ca.cutD [PyData.str t11.k, PyData.int t11.l, PyData.int t11.r] (some 1) none = [PyData.int t11.l, PyData.int t11.r] from cut_drop _ 1] at hd
    rcases List.mem_cons.mp hd with e | hd
    · exact ⟨_, e⟩
    · rcases List.mem_cons.mp hd with e | hd
      · exact ⟨_, e⟩
      · cases hd
  · refine (cq_lst (k := 0) fun d hd => ?_).ok
    obtain ⟨a, _, rfl⟩ := List.mem_map.mp hd
    exact cq_int _
  · exact (cq_lst (k := 0) fun d hd => by cases hd).ok
  · unfold nms10
    congr 2
    refine List.filter_congr fun n _ => ?_
    rw [eqv_nil, List.isEmpty_map]
    have e : ∀ t : At, (List.map Ca.intD (Ca.cutD [PyData.str t.k, PyData.int t.l, PyData.int t.r] (some 1) none)).contains (n : Int) = (((n : Int) == t.l) || ((n : Int) == t.r)) := fun t => by
      rw [show Ca.cutD [PyData.str t.k, PyData.int t.l, PyData.int t.r] (some 1) none = [PyData.int t.l, PyData.int t.r] from cut_drop _ 1]
      show [t.l, t.r].contains (n : Int) = _
      rw [List.contains_cons, List.contains_cons, List.contains_nil, Bool.or_false]
    rw [List.filter_congr fun t _ => e t]
    rw [Bool.eq_iff_iff]
    constructor
    · intro h
      have h2 : as.filter (fun t => ((n : Int) == t.l) || ((n : Int) == t.r)) ≠ [] := by
        intro z
        rw [z] at h
        cases h
      obtain ⟨a, ha⟩ := List.exists_mem_of_ne_nil _ h2
      rw [List.mem_filter] at ha
      exact List.any_eq_true.mpr ⟨a, ha.1, ha.2⟩
    · intro h
      obtain ⟨a, h1, h2⟩ := List.any_eq_true.mp h
      have m : a ∈ as.filter (fun t => ((n : Int) == t.l) || ((n : Int) == t.r)) := List.mem_filter.mpr ⟨h1, h2⟩
      cases e2 : as.filter (fun t => ((n : Int) == t.l) || ((n : Int) == t.r)) with
      | nil =>
        rw [e2] at m
        cases m
      | cons b bs => rfl
end
abbrev s_due : Stmt := top 58
theorem sc_due : FnScope ["_law_atoms", "_law_atom"] ["_law_atoms"] (defScope s_due) := ⟨rfl, rfl, rfl, by decide +kernel, rfl, by decide +kernel, by decide +kernel⟩
/-- an atom but for how great its variables are -/
structure Ge0 (a : At) : Prop where
  k : kindOk a.k = true
  l0 : 0 ≤ a.l
  r0 : 0 ≤ a.r
theorem Good.ge {a : At} (g : Good a) : Ge0 a := ⟨g.k, g.l0, g.r0⟩
def dueA (as : List At) : PyData := if areAt (as.map atD) then .tuple (as.map atD) else .str "TooMuch"
def RDue : List PyData → PyData → Prop := fun ds d => ∃ as : List At, ds = [.list (as.map atD)] ∧ 1 ≤ as.length ∧ as.length ≤ 30 ∧ (∀ a ∈ as, Ge0 a) ∧ d = dueA as
theorem max_mem : ∀ {ns : List Int}, ns ≠ [] → ∃ m ∈ ns, ∀ y ∈ ns, y ≤ m
  | [], h => absurd rfl h
  | [n], _ => ⟨n, .head _, fun y hy => by rw [List.mem_singleton.mp hy]; exact Int.le_refl _⟩
  | n :: k :: ns, _ => by
    obtain ⟨m, hm, hy⟩ := max_mem (ns := k :: ns) (by simp)
    by_cases c : n ≤ m
    · exact ⟨m, .tail _ hm, fun y h => by
        rcases List.mem_cons.mp h with z | z
        · rw [z]; exact c
        · exact hy y z⟩
    · exact ⟨n, .head _, fun y h => by
        rcases List.mem_cons.mp h with z | z
        · rw [z]; exact Int.le_refl _
        · have := hy y z
          omega⟩
theorem due_are {as : List At} {m : Int} (l1 : 1 ≤ as.length) (g : ∀ a ∈ as, Ge0 a) (hm : m ∈ as.map fun a => max a.l a.r) (hy : ∀ y ∈ as.map fun a => max a.l a.r, y ≤ m) :
    (decide ((4 : Int) < ((as.map atD).length : Nat)) || decide (9 < m)) = !areAt (as.map atD) := by
  cases e : areAt (as.map atD) with
  | true =>
    obtain ⟨_, l4, gd⟩ := are_inv e
    obtain ⟨a, ha, rfl⟩ := List.mem_map.mp hm
    have z := gd a ha
    have h1 := z.l9
    have h2 := z.r9
    rw [decide_eq_false (by rw [List.length_map]; omega), decide_eq_false (by omega)]
    rfl
  | false =>
    by_cases c1 : (4 : Int) < ((as.map atD).length : Nat)
    · rw [decide_eq_true c1]
      rfl
    · by_cases c2 : 9 < m
      · rw [decide_eq_true c2, Bool.or_true]
        rfl
      · exfalso
        rw [List.length_map] at c1
        rw [are_of (fun a ha => ?_) l1 (by omega)] at e
        · cases e
        · have q := hy _ (List.mem_map.mpr ⟨a, ha, rfl⟩)
          have z := g a ha
          exact ⟨z.k, z.l0, by omega, z.r0, by omega⟩
section
variable {P : Program} {w : World} {K : PySem.W.Frag} {mg : PySem.Str → Option Value} {base : Heap}
theorem ok_due {f : Addr} {fd : FuncData} (F : FnP K "_law_due" s_due f fd) (T : Tx K mg) : FnOk P w K mg base CX0 1 f fd ["_law_atoms"] (spR RDue) := by
  refine F.ok sc_due (spR_len (by rintro _ _ ⟨as, rfl, _⟩; rfl)) (fun cdv A outer s H vs Q E hr h => ?_)
  obtain ⟨S, ds, d, fr, rA, ⟨as, rfl, l1, hz, hg, rfl⟩, q⟩ := h
  obtain ⟨v0, rfl, r0⟩ := rpa1 rA
  refine ⟨_, PSs.nox (pss_cons (ps_if (PW.pt (pw_or (pt_cmpR op_gt (pe_callB (call_lenQ : CallR _ _ (rLenQ K)) (by rfl) T.len bLen (pa_cons (pv 0) pa_nil)) pe_int (nomark _))
    (pw_or1 (pt_cmpR op_gt (pe_callB (cr_max rfl : CallR _ _ (rMax K)) (by rfl) T.max bMax (pa_cons (pe_lc (own := [("_law_atom", 1)]) (g := gName 1) rfl sc_due.nd (pi_listQ (K := K) rfl (pv 0)) (blkOk_by (own := [("_law_atom", 1)]) (N := ["_law_atoms", "_law_atom"]) (sc := defScope s_due) (by decide +kernel)) (fun _ _ _ _ _ => pg_name (i := 1) sc_due.nd rfl (Or.inl rfl)) (fun _ _ _ _ _ => pts_nil)
      (fun _ _ _ _ _ => pe_callB (cr_maxT2 rfl hr : CallR _ _ (rMaxT2 K)) (by rfl) T.max bMax (pa_cons (pe_slice (sl_tupA : SlR _ (rSlA K)) (pv 1) (po_some pe_int) po_none) pa_nil))) pa_nil)) pe_int (nomark _)))))
    (pss_one (ps_ret pe_str)) pss_nil) (pss_one (ps_ret (pe_callTy (call_tupQ : CallR _ _ (rTupQ K)) (by rfl) T.tup bTup (pa_cons (pv 0) pa_nil))))), ?_⟩
  obtain ⟨m, hm, hy⟩ := max_mem (ns := as.map fun a => max a.l a.r) (fun z => by rw [List.map_eq_nil_iff.mp z] at l1; simp at l1)
  have eb := due_are l1 hg hm hy
  refine go_ifS (b := decide ((4 : Int) < ((as.map atD).length : Nat)) || decide (9 < m)) fr (b_or (b_test (e_cmp (e_lenL (e_var rfl r0)) e_int)) fun _ => b_test (e_cmp (e_maxL (K := K) (ns := as.map fun a => max a.l a.r) (eqD (e_lcL (K := K) (enc := atD) (b := fun _ => true) (ev := fun a => .int (max a.l a.r)) (e_var rfl r0) (by omega) fun a ha x F1 sF r => g_name ⟨rfl, b_yes, fun _ => e_maxT2 (K := K) (eqD (e_slT (e_var rfl r) (o_some (e_int (i := ((1 : Nat) : Int)))) o_none) (by rw [cut_drop]; rfl))⟩) (by rw [filter_yes, List.map_map]; rfl)) hm hy) e_int)) (fun z H1 s1 f1 => ?_) fun z H1 s1 f1 => ?_
  · rw [eb] at z
    refine q _ H1 s1 ?_
    unfold dueA
    rw [if_neg (by simpa using z)]
    exact .str _
  · rw [eb] at z
    refine go_ret (P := fun H v => Rp H v (.tuple (as.map atD))) f1 (e_tupOf (e_var rfl (r0.mono (offS_mono (S := S) s1)))) fun v H2 s2 r2 => q v H2 (s1.trans s2) ?_
    unfold dueA
    rw [if_pos (by simpa using z)]
    exact r2
end
end Q

set_option maxHeartbeats 4000000
namespace Q
open PySem PySem.Spec PyProof.Rows L2 Ca LamX
/-! ### what is known stays where tables grow -/
theorem QV.ext {F F' : Hp} {C : Addr} {as : List At} {v : V} (e : ExtN F F') (h : QV C as F v) : QV C as F' v := by
  obtain ⟨x, dx, p, rfl, q⟩ := h
  obtain ⟨o, u, ns, h1, h2, h3, h4, bs, e1, e2, e3, e4⟩ := q.obj
  exact ⟨x, dx, p, rfl, ⟨o, u, ns, e _ _ h1 (fun _ z => nomatch z), e _ _ h2 (fun _ z => nomatch z), h3, h4, bs, e1, e _ _ e2 (fun _ z => nomatch z), e _ _ e3 (fun _ z => nomatch z), fun b hb => Rp.ext e (e4 b hb)⟩⟩
/-- lists alone may change -/
def FrL (S : Addr → Bool) (H : Hp) : Prop := ∀ a, S a = true → ∃ xs, H a = some (.lst xs)
section
variable {S : Addr → Bool} {H H' : Hp} {p : Addr} {xs : List V}
theorem FrL.fr (f : FrL S H) : Fr S H := fun a ha => by
  obtain ⟨xs, h⟩ := f a ha
  exact ⟨_, h, trivial⟩
theorem FrL.ext (f : FrL S H) (e : ExtN H H') : FrL S H' := fun a ha => by
  obtain ⟨xs, h⟩ := f a ha
  exact ⟨xs, e _ _ h (fun _ z => nomatch z)⟩
theorem FrL.same (f : FrL S H) (e : Same H H') : FrL S H' := f.ext (.of e)
theorem FrL.add (f : FrL S H) (h : H p = some (.lst xs)) : FrL (addS S p) H := fun a ha => by
  by_cases z : a = p
  · rw [z]
    exact ⟨xs, h⟩
  · refine f a ?_
    unfold addS at ha
    simpa [z] using ha
theorem FrL.put (f : FrL S H) : FrL S (upd H p (.lst xs)) := fun a ha => by
  by_cases z : a = p
  · rw [z]
    exact ⟨xs, upd_same⟩
  · rw [upd_ne z]
    exact f a ha
end
/-- all but what stands at p and the tables is kept -/
def KE (p : Addr) (H H' : Hp) : Prop := ∀ b o, b ≠ p → H b = some o → (∀ ps, o ≠ .tbl ps) → H' b = some o
theorem KE.refl (p : Addr) (H : Hp) : KE p H H := fun _ _ _ h _ => h
theorem KE.trans {p : Addr} {H H1 H2 : Hp} (a : KE p H H1) (b : KE p H1 H2) : KE p H H2 := fun c o n h t => b c o n (a c o n h t) t
theorem KE.kp {p : Addr} {H H' : Hp} (k : Kp p H H') : KE p H H' := fun b o n h _ => k b o n h
theorem KE.ext {p : Addr} {H H' : Hp} (k : ExtN H H') : KE p H H' := fun b o n h t => k b o h t
theorem KE.same {p : Addr} {H H' : Hp} (k : Same H H') : KE p H H' := fun b o n h t => k b o h
theorem src_ext {H H' : Hp} {s : Addr} (hs : Src H s) (e : ExtN H H') : Src H' s := by
  obtain ⟨a, b, c, h⟩ := hs
  exact ⟨a, b, c, e _ _ h (fun _ z => nomatch z)⟩
theorem sql_ke {K : PySem.W.Frag} {H H' : Hp} {a p : Addr} {xs : List V} (h : SqL K H a xs) (n : H p = none) (k : KE p H H') : SqL K H' a xs := by
  rcases h with (h | ⟨o, h⟩) | h
  · exact .inl (.inl (k _ _ (ne_of_none h n) h (fun _ z => nomatch z)))
  · exact .inl (.inr ⟨o, k _ _ (ne_of_none h n) h (fun _ z => nomatch z)⟩)
  · exact .inr h
theorem tabs_kp {T : List (Addr × PySem.Str)} {H H' : Hp} {p : Addr} {xs : List V} (t : Tabs T H) (hp : H p = some (.lst xs)) (k : ∀ b o, b ≠ p → H b = some o → H' b = some o) : Tabs T H' := fun q hq => by
  obtain ⟨ps, h1, h2, h3⟩ := t q hq
  refine ⟨ps, k _ _ (ne_of h1 hp (fun z => nomatch z)) h1, h2, fun pos cv hc => ?_⟩
  obtain ⟨c, e1, e2⟩ := h3 pos cv hc
  exact ⟨c, e1, k _ _ (ne_of e2 hp (fun z => by unfold CodeO at z; cases z)) e2⟩
theorem QV.ty {K : PySem.W.Frag} {C : Addr} {as : List At} {F : Hp} {v : V} (cl : Cls K C) (ic : IsiC K C) (h : QV C as F v) : TyX K F v (.ref C) := by
  obtain ⟨x, dx, p, o, u, rfl, h1⟩ := qv_ins h
  exact .base (.ins h1 cl ic.ha ic.hn ic.htk ic.hm)
/-! ### told of a deed -/
/-- what an expression gives that makes code objects -/
def EvL (T : List (Addr × PySem.Str)) (te : TE) (σ : L2.St) (F : Hp) (P : Hp → V → Prop) : Prop := ∀ (S : Addr → Bool) (H1 : Hp), FrL S H1 → Tabs T H1 → ExtN F (offS S H1) → ∀ Q : VK, (∀ v H2, ExtN H1 H2 → Tabs T H2 → P (offS S H2) v → Q v H2) → te σ H1 Q
section
variable {K : PySem.W.Frag} {σ : L2.St} {F : Hp} {C NX : Addr} {as bs : List At} {T : List (Addr × PySem.Str)} {fn : List At → List At → List At} {i j : Nat} {v u : V}
theorem l_bin (cl : Cls K C) (ic : IsiC K C) (ex : PySem.W.exmOne K (.ref NX) (.ref NX) = some true) (hi : σ[i]? = some (some v)) (hj : σ[j]? = some (some u)) (hv : QV C as F v) (hu : QV C bs F u) (l1 : 1 ≤ as.length) (l4 : as.length ≤ 4) (lb : bs.length ≤ 4) :
    EvL T (tLam T (TSaid K C NX) fun E => tOp (rOwn K C (spQbin C NX fn) E) (tVar i) (tVar j)) σ F (fun H v => Rp H v (dueA (fn as bs))) := fun S H0 f0 t0 e0 Q q =>
  ⟨t0, fun H1 e1 t1 => by
    have hv1 := QV.ext (e0.trans (ext_off e1)) hv
    have hu1 := QV.ext (e0.trans (ext_off e1)) hu
    have f1 := (f0.ext e1).fr
    obtain ⟨x, dx, pp, o, w, ev, h1⟩ := qv_ins hv1
    refine ⟨_, hi, _, hj, x, dx, _, _, ev, offS_same _ _ h1, QV.ty cl ic (hu1.mono offS_same), .inl rfl, S, v, u, as, bs, rfl, f1, hv1, hu1, l1, l4, lb, fun z H' s' => ⟨ex, ?_⟩, fun z y H' s' qy => ?_⟩
    · refine q _ H' (e1.trans (.of s')) (t1.ext s') ?_
      unfold dueA
      rw [z]
      exact .str _
    · obtain ⟨x2, dx2, p2, o2, w2, e2, h2⟩ := qv_ins qy
      subst e2
      refine ⟨x2, dx2, _, rfl, offS_same _ _ h2, S, _, f1.mono s', ⟨_, fn as bs, rfl, qy, rfl⟩, fun y H'' s'' r => q y H'' (e1.trans (.of (s'.trans s''))) (t1.ext (s'.trans s'')) ?_⟩
      unfold dueA
      rw [z]
      exact r⟩
end
/-! ### the greatest variable -/
theorem last_ge : ∀ {l : List Int}, l.Pairwise (· < ·) → ∀ y ∈ l, y ≤ l.getLastD 0
  | [], _, y, h => by cases h
  | [n], _, y, h => by rw [List.mem_singleton.mp h]; exact Int.le_refl _
  | n :: m :: l, p, y, h => by
    obtain ⟨p1, p2⟩ := List.pairwise_cons.mp p
    have ih := last_ge p2
    have e : (n :: m :: l).getLastD 0 = (m :: l).getLastD 0 := rfl
    rw [e]
    rcases List.mem_cons.mp h with z | z
    · rw [z]
      exact Int.le_trans (Int.le_of_lt (p1 m (.head _))) (ih m (.head _))
    · exact ih y z
theorem mxq_mem {as : List At} (l1 : 1 ≤ as.length) : mxq as ∈ vars as := by
  refine sd_mem.mp ?_
  unfold mxq
  rw [List.getLastD_eq_getLast?, List.getLast?_eq_some_getLast (vars_ne l1)]
  exact List.getLast_mem _
theorem mxq_ge {as : List At} : ∀ y ∈ vars as, y ≤ mxq as := fun y hy => last_ge (sd_up _) y (sd_mem.mpr hy)
theorem mem_vars {as : List At} {y : Int} : y ∈ vars as ↔ ∃ a ∈ as, y = a.l ∨ y = a.r := by
  simp [vars]
theorem mem_nms {as : List At} {n : Nat} : n ∈ nms10 as ↔ n < 10 ∧ (n : Int) ∈ vars as := by
  rw [mem_vars]
  simp [nms10, List.mem_filter]
theorem nms_max {as : List At} (l1 : 1 ≤ as.length) (g : ∀ a ∈ as, Good a) : mxq as ∈ (nms10 as).map (fun n : Nat => (n : Int)) ∧ ∀ y ∈ (nms10 as).map (fun n : Nat => (n : Int)), y ≤ mxq as := by
  constructor
  · have hm := mxq_mem l1
    obtain ⟨a, ha, e⟩ := mem_vars.mp hm
    have z := g a ha
    have b : 0 ≤ mxq as ∧ mxq as ≤ 9 := by
      rcases e with e | e <;> rw [e]
      · exact ⟨z.l0, z.l9⟩
      · exact ⟨z.r0, z.r9⟩
    obtain ⟨n, en⟩ := Int.eq_ofNat_of_zero_le b.1
    refine List.mem_map.mpr ⟨n, mem_nms.mpr ⟨by omega, by rw [← en]; exact hm⟩, en.symm⟩
  · intro y hy
    obtain ⟨n, hn, rfl⟩ := List.mem_map.mp hy
    exact mxq_ge _ (mem_nms.mp hn).2
theorem mxq_0 {as : List At} (l1 : 1 ≤ as.length) (g : ∀ a ∈ as, Good a) : 0 ≤ mxq as := by
  obtain ⟨a, ha, e⟩ := mem_vars.mp (mxq_mem l1)
  have z := g a ha
  rcases e with e | e <;> rw [e]
  · exact z.l0
  · exact z.r0
theorem add_ge {as bs : List At} (l1 : 1 ≤ as.length) (g : ∀ a ∈ as, Good a) (h : ∀ a ∈ bs, Good a) : ∀ a ∈ addQ as bs, Ge0 a := fun a ha => by
  have m := mxq_0 l1 g
  rcases List.mem_append.mp ha with z | z
  · exact (g a z).ge
  · obtain ⟨b, hb, rfl⟩ := List.mem_map.mp z
    have q := h b hb
    have q1 := q.l0
    have q2 := q.r0
    exact ⟨q.k, show 0 ≤ b.l + (mxq as + 1) by omega, show 0 ≤ b.r + (mxq as + 1) by omega⟩
theorem or_ge {as bs : List At} (g : ∀ a ∈ as, Good a) (h : ∀ a ∈ bs, Good a) : ∀ a ∈ orQ as bs, Ge0 a := fun a ha => by
  rcases List.mem_append.mp ha with z | z
  · exact (g a z).ge
  · exact (h a z).ge
end Q

set_option maxHeartbeats 4000000
namespace Q
open PySem PySem.Spec PyProof.Rows L2 Ca LamX
theorem qv_turned {C : Addr} {as : List At} (g : ∀ a ∈ as, Good a) (l1 : 1 ≤ as.length) (l4 : as.length ≤ 4) : ∀ F v, QV C as F v → ITurned C F [v] (QV C (as.map trn)) ∧ ∃ a dx fs, v = .ref a ∧ F a = some (.ins C dx fs) ∧ fs.lookup ("turned" : PySem.Str) = none := fun F v h => by
  refine ⟨⟨v, as, rfl, h, g, l1, l4, rfl⟩, ?_⟩
  obtain ⟨x, dx, p, o, u, rfl, h1⟩ := qv_ins h
  exact ⟨x, dx, _, rfl, h1, qf_no _ _ _ (by decide +kernel) (by decide +kernel) (by decide +kernel)⟩
theorem fit_at {a : At} (g : Good a) : Fit (atD a) 1 100 := by
  refine (fit_tuple (k := 0) (n := 20) (m := 3) (fun d hd => ?_) (Nat.le_refl _)).mono (Nat.le_refl _) (by omega)
  have := g.l0
  have := g.l9
  have := g.r0
  have := g.r9
  rcases List.mem_cons.mp hd with z | hd
  · subst z
    exact (fit_str (ascii_kind g.k) (Nat.le_of_eq (kind_len g.k))).mono (Nat.le_refl _) (by omega)
  · rcases List.mem_cons.mp hd with z | hd
    · subst z
      exact fit_int (by omega)
    · rcases List.mem_cons.mp hd with z | hd
      · subst z
        exact fit_int (by omega)
      · cases hd
theorem fit_atT {as : List At} (g : ∀ a ∈ as, Good a) (l : as.length ≤ 4) : Fit (.tuple (as.map atD)) 2 1000 :=
  (fit_tuple (k := 1) (n := 100) (m := 4) (fun d hd => by
    obtain ⟨a, ha, rfl⟩ := List.mem_map.mp hd
    exact fit_at (g a ha)) (by rw [List.length_map]; exact l)).mono (by omega) (by omega)
theorem fit_due {as : List At} : Fit (dueA as) 2 1000 := by
  unfold dueA
  cases e : areAt (as.map atD) with
  | true =>
    obtain ⟨_, l4, g⟩ := are_inv e
    exact fit_atT g l4
  | false => exact (fit_str (m := 7) (ascii_ofs (by decide +kernel)) (by decide +kernel)).mono (by omega) (by omega)
theorem fit_few {ds : List PyData} (h : ∀ d ∈ ds, Fit d 2 1000) (l : ds.length ≤ 3) : Fit (.list ds) 50 1000000 := (fit_list h l).mono (by omega) (by omega)
/-- some atoms -/
def AtsP (m : Nat) : Hp → V → Prop := fun H v => ∃ as : List At, Rp H v (.list (as.map atD)) ∧ 1 ≤ as.length ∧ as.length ≤ m ∧ ∀ a ∈ as, Good a
theorem mon_ats {m : Nat} : Mon (AtsP m) := fun _ _ _ s ⟨as, r, h⟩ => ⟨as, r.mono s, h⟩
section
variable {K : PySem.W.Frag} {s p : Addr} {σ : L2.St} {F H : Hp} {te t1 t2 : TE} {tas : TA} {P1 P2 P : Hp → V → Prop} {E : XK} {S : Addr → Bool} {D : L2.Ends} {u : TS} {i j : Nat} {xs : List V} {ds : List PyData} {T : List (Addr × PySem.Str)}
theorem k_some {m : Nat} (hi : σ[i]? = some (some (.ref s))) (hm : EvK s te σ F (IntP 1 (m : Int))) (m4 : m ≤ 4) : EvK s (tCall spSome [] E (tCons (tVar i) (tCons te tNil))) σ F (AtsP m) := fun S H1 f hS hc sm Q q =>
  ⟨_, hi, hm S H1 f hS hc sm _ fun v H2 k2 c2 ⟨z, ev, z1, z2⟩ => by
    subst ev
    obtain ⟨n, rfl⟩ := Int.eq_ofNat_of_zero_le (show 0 ≤ z by omega)
    refine ⟨s, _, n, rfl, rfl, by omega, by omega, c2, fun fo xs as H3 f0 kp c3 hfo r3 l1 l4 g => q _ H3 (k2.trans kp) c3 ⟨as, .lst ?_ (ats_off ((k2.trans kp).fr c3 f) r3), l1, by omega, g⟩⟩
    rw [offS_at]
    · exact hfo
    · cases e : S fo with
      | false => rfl
      | true =>
        obtain ⟨o, h, _⟩ := (k2.fr c2 f) fo e
        rw [f0] at h
        cases h⟩
theorem go_parK (f : Fr S H) (hS : S s = true) (hc : Src H s) (h1 : EvK s t1 σ (offS S H) P1) (h2 : EvK s t2 σ (offS S H) P2) (m1 : Mon P1)
    (k : ∀ v w H', Kp s H H' → Src H' s → Fr S H' → P1 (offS S H') v → P2 (offS S H') w → u D ((σ.set i (some v)).set j (some w)) H') : tSeq (tPar i j (tCons t1 (tCons t2 tNil))) u D σ H :=
  h1 S H f hS hc (Same.refl _) _ fun v H2 k2 c2 p1 => h2 S H2 (k2.fr c2 f) hS c2 (k2.off hS) _ fun w H3 k3 c3 p2 => ⟨v, w, rfl, k v w H3 (k2.trans k3) c3 ((k2.trans k3).fr c3 f) (m1 _ _ _ (k3.off hS) p1) p2⟩
theorem go_tup2 (f : Fr S H) (h1 : EvP t1 σ (offS S H) P1) (h2 : EvP t2 σ (offS S H) P2) (m1 : Mon P1) (m2 : Mon P2)
    (k : ∀ v w H', Same H H' → Fr S H' → P1 (offS S H') v → P2 (offS S H') w → u D ((σ.set i (some v)).set j (some w)) H') : tSeq (tAsg (tTup (tCons t1 (tCons t2 tNil))) (gTup K 2 (gCons (gName i) (gCons (gName j) gNil)))) u D σ H :=
  h1 S H f (Same.refl _) _ fun v H2 s2 p1 => h2 S H2 (f.mono s2) (offS_mono s2) _ fun w H3 s3 p2 => ⟨by show 2 ≤ sizeLine; decide, fun a ha => ⟨a, _, rfl, .inl (.inl upd_same), rfl, _, _, rfl, _, _, rfl, rfl,
    k v w _ ((s2.trans s3).trans (same_new ha)) (f.mono ((s2.trans s3).trans (same_new ha))) (m1 _ _ _ (offS_mono (s3.trans (same_new ha))) p1) (m2 _ _ _ (offS_mono (same_new ha)) p2)⟩⟩
theorem go_lstL (f : FrL S H) (t : Tabs T H) (h : EvL T te σ (offS S H) P) (k : ∀ v a H', ExtN H H' → Tabs T H' → H' a = none → P (offS S H') v → u D (σ.set i (some (.ref a))) (upd H' a (.lst [v]))) : tSeq (tAsg (tLst (tCons te tNil)) (gName i)) u D σ H :=
  h S H f t (ExtN.refl _) _ fun v H' e' t' p => ⟨by show 1 ≤ sizeLine; decide, fun a ha => k v a H' e' t' ha p⟩
theorem go_appL (f : FrL S H) (t : Tabs T H) (hv : σ[i]? = some (some (.ref p))) (hp : H p = some (.lst xs)) (h : EvL T te σ (offS S H) P) (hz : xs.length ≤ 900)
    (k : ∀ y H', ExtN H H' → Tabs T H' → H' p = some (.lst xs) → P (offS S H') y → u D σ (upd H' p (.lst (xs ++ [y])))) : tSeq (tDrop (tBM K "list" rAppend (tVar i) (tCons te tNil))) u D σ H :=
  ⟨_, hv, .inl ⟨rfl, _, .inl (.inl hp)⟩, h S H f t (ExtN.refl _) _ fun v H' e' t' r => by
    have hp' := e' _ _ hp (fun _ z => nomatch z)
    exact ⟨p, xs, v, rfl, rfl, hp', small1000 (by omega), k v H' e' t' hp' r⟩⟩
theorem go_lstN (f : Fr S H) (h : EvA tas σ (offS S H) ds) (hl : ds.length ≤ 1000) (k : ∀ vs a H', Same H H' → H' a = none → RpA (offS S H') vs ds → u D (σ.set i (some (.ref a))) (upd H' a (.lst vs))) : tSeq (tAsg (tLst tas) (gName i)) u D σ H :=
  h S H f (Same.refl _) _ fun vs H' s' r => ⟨by rw [r.length]; exact Nat.le_of_lt (small1000 hl), fun a ha => k vs a H' s' ha r⟩
theorem go_appP (f : Fr S H) (hv : σ[i]? = some (some (.ref p))) (hp : H p = some (.lst xs)) (h : EvP te σ (offS S H) P) (hz : xs.length ≤ 900)
    (k : ∀ y H', Same H H' → H' p = some (.lst xs) → P (offS S H') y → u D σ (upd H' p (.lst (xs ++ [y])))) : tSeq (tDrop (tBM K "list" rAppend (tVar i) (tCons te tNil))) u D σ H :=
  ⟨_, hv, .inl ⟨rfl, _, .inl (.inl hp)⟩, h S H f (Same.refl _) _ fun v H' s r => ⟨p, xs, v, rfl, rfl, s _ _ hp, small1000 (by omega), k v H' s (s _ _ hp) r⟩⟩
theorem l_turn {C NX : Addr} {as : List At} {v : V} (hi : σ[i]? = some (some v)) (hv : QV C as F v) (g : ∀ a ∈ as, Good a) (l1 : 1 ≤ as.length) (l4 : as.length ≤ 4) :
    EvL T (tLam T (TSaid K C NX) fun E => tMeth C "turned" (spQ (ITurned C)) [] E (tVar i) tNil) σ F (fun H v => Rp H v (.tuple ((as.map trn).map atD))) := fun S H0 f0 t0 e0 Q q =>
  ⟨t0, fun H1 e1 t1 => by
    have hv1 := QV.ext (e0.trans (ext_off e1)) hv
    have f1 := (f0.ext e1).fr
    refine e_meth0 (P := QV C (as.map trn)) (e_varP (P := QV C as) hi fun _ s => hv1.mono s) (qv_turned g l1 l4) S H1 f1 (Same.refl _) _ fun y H' s' qy => ?_
    obtain ⟨x2, dx2, p2, o2, w2, e2, h2⟩ := qv_ins qy
    subst e2
    exact ⟨x2, dx2, _, rfl, offS_same _ _ h2, S, _, f1.mono s', ⟨_, _, rfl, qy, rfl⟩, fun y H'' s'' r => q y H'' (e1.trans (.of (s'.trans s''))) (t1.ext (s'.trans s'')) r⟩⟩
/-- a fresh list is put among those that change -/
theorem ext_add (h : H p = none) : ExtN (offS S H) (offS (addS S p) (upd H p (.lst xs))) := .of (addS_new (by
  cases e : S p with
  | false => rw [offS_at e]; exact h
  | true => unfold offS; rw [if_pos e]) (offS_mono (same_new h)))
theorem ext_app : ExtN (offS (addS S p) H) (offS (addS S p) (upd H p (.lst xs))) := .of addS_upd
theorem frl_off (f : FrL S H) (h : H p = none) : S p = false := by
  cases e : S p with
  | false => rfl
  | true =>
    obtain ⟨ys, z⟩ := f p e
    rw [h] at z
    cases z
theorem frl_drop (f : FrL (addS S p) H) : FrL S H := fun a ha => f a (by unfold addS; rw [ha]; rfl)
theorem FrL.new (f : FrL S H) (h : H p = none) : FrL (addS S p) (upd H p (.lst xs)) := FrL.add (f.same (same_new h)) upd_same
theorem tabs_upd {ys : List V} (t : Tabs T H) (h : H p = some (.lst ys)) : Tabs T (upd H p (.lst xs)) := tabs_kp t h fun b o n e => by rw [upd_ne n]; exact e
theorem tabs_new (t : Tabs T H) (h : H p = none) : Tabs T (upd H p (.lst xs)) := t.ext (same_new h)
theorem sql_ext {H' : Hp} {a : Addr} (h : SqL K H a xs) (k : ExtN H H') : SqL K H' a xs := by
  rcases h with (h | ⟨o, h⟩) | h
  · exact .inl (.inl (k _ _ h (fun _ z => nomatch z)))
  · exact .inl (.inr ⟨o, k _ _ h (fun _ z => nomatch z)⟩)
  · exact .inr h
theorem sql_off {a : Addr} (h : SqL K H a xs) (n : H p = none) {o : HO} : SqL K (offS (fun b => decide (b = p)) (upd H p o)) a xs := by
  have e : ∀ b v, H b = some v → offS (fun b => decide (b = p)) (upd H p o) b = some v := fun b v z => by
    have nb := ne_of_none z n
    rw [offS_at (decide_eq_false nb), upd_ne nb]
    exact z
  rcases h with (h | ⟨o, h⟩) | h
  · exact .inl (.inl (e _ _ h))
  · exact .inl (.inr ⟨o, e _ _ h⟩)
  · exact .inr h
end
theorem g_tup3c {K : PySem.W.Frag} {σ : L2.St} {F : Hp} {i j k : Nat} {x : V} {C : L2.St → Prop} {d1 d2 d3 : PyData} (σ' : V → V → V → L2.St) (he : ∀ v1 v2 v3, ((σ.set i (some v1)).set j (some v2)).set k (some v3) = σ' v1 v2 v3) (r : Rp F x (.tuple [d1, d2, d3])) (h : ∀ v1 v2 v3, Rp F v1 d1 → Rp F v2 d2 → Rp F v3 d3 → C (σ' v1 v2 v3)) :
    GtP (gTup K 3 (gCons (gName i) (gCons (gName j) (gCons (gName k) gNil)))) x σ F C := g_tup3 r fun v1 v2 v3 q1 q2 q3 => by
  rw [he]
  exact h v1 v2 v3 q1 q2 q3
/-- what a lap knows -/
structure Kn (K : PySem.W.Frag) (C a : Addr) (ns : List Int) (as bs : List At) (v4 v5 v6 v7 v9 : V) (F : Hp) : Prop where
  sc : SqL K F a (ns.map V.int)
  r4 : Rp F v4 (.list (as.map atD))
  r5 : Rp F v5 (.list (bs.map atD))
  q6 : QV C as F v6
  q7 : QV C bs F v7
  r9 : Rp F v9 (.list ((bs.map (shA (mxq as + 1))).map atD))
theorem Kn.ext {K : PySem.W.Frag} {C a : Addr} {ns : List Int} {as bs : List At} {v4 v5 v6 v7 v9 : V} {F F' : Hp} (k : Kn K C a ns as bs v4 v5 v6 v7 v9 F) (e : ExtN F F') : Kn K C a ns as bs v4 v5 v6 v7 v9 F' :=
  ⟨sql_ext k.sc e, Rp.ext e k.r4, Rp.ext e k.r5, QV.ext e k.q6, QV.ext e k.q7, Rp.ext e k.r9⟩
end Q

set_option maxHeartbeats 1500000
namespace Q
open PySem PySem.Spec PyProof.Rows L2 Ca LamX
/-! ### the law -/
abbrev s_law : Stmt := top 59
abbrev nLaw : List PySem.Str := ["_law_script", "_law_index", "_law_source_here", "_law_lap", "_law_atoms", "_law_others", "_law_one", "_law_other", "_law_more", "_law_behind", "_law_told", "_law_due_here", "_law_twice", "_law_kind", "_law_left", "_law_right"]
theorem sc_law : FnScope nLaw ["_law_script"] (defScope s_law) := ⟨rfl, rfl, rfl, by decide +kernel, rfl, by decide +kernel, by decide +kernel⟩
abbrev tb0 (K : PySem.W.Frag) (f : Addr) : Addr := tabAt K (codeAt K f)
abbrev ts0 (K : PySem.W.Frag) (f : Addr) : List (Addr × PySem.Str) := [(tb0 K f, (("law" : PySem.Str) ++ (".<locals>." : PySem.Str)) ++ ("<lambda>" : PySem.Str))]
def spLaw (K : PySem.W.Frag) (f : Addr) : Sp := fun vs H Q _ => ∃ (a : Addr) (ns : List Int), vs = [.ref a] ∧ SqL K H a (ns.map V.int) ∧ ns.length ≤ 63 ∧ H (tb0 K f) = some (.tbl #[]) ∧ ∀ H', Q (.bl true) H'
abbrev frP (p : Addr) : Addr → Bool := fun b => decide (b = p)
theorem frl_src {p : Addr} {H : Hp} (h : Src H p) : FrL (frP p) H := fun b hb => by
  rw [of_decide_eq_true hb]
  obtain ⟨a, b, c, e⟩ := h
  exact ⟨_, e⟩
theorem mem_ts {K : PySem.W.Frag} {f : Addr} {X : Cx} (h : X.env.qual = ("law" : PySem.Str) ++ (".<locals>." : PySem.Str)) : (tb0 K f, X.env.qual ++ ("<lambda>" : PySem.Str)) ∈ ts0 K f := by
  rw [h]
  exact .head _
theorem un_ts {K : PySem.W.Frag} {f : Addr} {X : Cx} (h : X.env.qual = ("law" : PySem.Str) ++ (".<locals>." : PySem.Str)) : ∀ p ∈ ts0 K f, p.1 = tb0 K f → p.2 = X.env.qual ++ ("<lambda>" : PySem.Str) := fun p hp _ => by
  rw [h, List.mem_singleton.mp hp]
theorem frP_self (p : Addr) : frP p p = true := decide_eq_true rfl
section
variable {P : Program} {w : World} {K : PySem.W.Frag} {mg : PySem.Str → Option Value} {base : Heap}
theorem ok_law {f C N NX NE pA fA fAdd fOr fTu fEq fS : Addr} {fd fdA fdAdd fdOr fdTu fdS : FuncData} (F : FnP K "law" s_law f fd) (rc : isRefC K f = true) (TB : TabB base mg (codeAt K f) (tb0 K f)) (T : Tx K mg) (TQ : QT K mg C N) (ic : IsiC K C)
    (DCe : Fd P w K mg base "_law_cell" 1 ["_law_script", "_law_index"] (spCell K)) (DSo : Fd P w K mg base "_law_source" 1 ["_law_cell_here"] spSource) (DDr : Fd P w K mg base "_law_draw" 1 ["_law_source_here", "_law_many"] spDraw) (DSm : Fd P w K mg base "_law_some" 3 ["_law_source_here", "_law_most"] spSome)
    (DQu : Fd P w K mg base "_law_question" 7 ["_law_atoms"] (spQ (ILq C))) (DNa : Fd P w K mg base "_law_names" 1 ["_law_atoms"] (spR RNames)) (DDu : Fd P w K mg base "_law_due" 1 ["_law_atoms"] (spR RDue))
    (FS : FnP K "_law_said" s_said fS fdS) (bS : Binds K fdS ["_law_deed"] []) (kS : PySem.W.keepIn K (.ref fS) = true) (gS : mg "_law_said" = some (.ref fS)) (gX : mg "TooMuch" = some (.ref NX)) (gE : mg "CountError" = some (.ref NE)) (ex : PySem.W.exmOne K (.ref NX) (.ref NX) = some true)
    (hA : PropOf K C "atoms" pA fA) (GA : FnOk P w K mg base CX0 1 fA fdA ["self"] (spQ (IAtoms C))) (bA : Binds K fdA ["self"] [])
    (oAdd : OwnOp K C fAdd .Add) (GAdd : FnOk P w K mg base (L2.CX P w) 7 fAdd fdAdd ["self", "other"] (spQbin C NX addQ)) (bAdd : Binds K fdAdd ["self", "other"] [])
    (oOr : OwnOp K C fOr .BitOr) (GOr : FnOk P w K mg base (L2.CX P w) 7 fOr fdOr ["self", "other"] (spQbin C NX orQ)) (bOr : Binds K fdOr ["self", "other"] [])
    (mT : Meth K C "turned" fTu) (GT : FnOk P w K mg base CX0 6 fTu fdTu ["self"] (spQ (ITurned C))) (bT : Binds K fdTu ["self"] [])
    (GEq : FnG P w K mg base CX0 1 fEq spEq) (kEq : PySem.W.keepIn K (.ref fEq) = true) (gEq : mg "_law_is_equal" = some (.ref fEq)) : FnG P w K mg base CX0 10 f (spLaw K f) := by
  obtain ⟨fCe, fdCe, GCe, bCe, kCe, gCe⟩ := DCe.ex
  obtain ⟨fSo, fdSo, GSo, bSo, kSo, gSo⟩ := DSo.ex
  obtain ⟨fDr, fdDr, GDr, bDr, kDr, gDr⟩ := DDr.ex
  obtain ⟨fSm, fdSm, GSm, bSm, kSm, gSm⟩ := DSm.ex
  obtain ⟨fQu, fdQu, GQu, bQu, kQu, gQu⟩ := DQu.ex
  obtain ⟨fNa, fdNa, GNa, bNa, kNa, gNa⟩ := DNa.ex
  obtain ⟨fDu, fdDu, GDu, bDu, kDu, gDu⟩ := DDu.ex
  obtain ⟨ocS, odS, dVS, kVS, docS, pmS, anS, cdS, ctS, oslS, rfl, lkS, hcS, _, _⟩ := FS.ex
  refine fng_ofC F sc_law rc (FunD.bindsA (ps := ["_law_script"]) F fun _ _ _ _ _ _ us hl => match us, hl with | [_], _ => rfl) (fun vs H Q E h => ?_) (fun A outer s0 H vs Q E hg hr h => ?_)
  · obtain ⟨a, ns, rfl, _⟩ := h
    rfl
  obtain ⟨a, ns, rfl, hS, h63, ht, q⟩ := h
  have hq : ((cxOf CX0 P w K mg base nLaw "law" (defScope s_law) f (.ref (codeAt K f)) A outer s0 H E).nox).env.qual = ("law" : PySem.Str) ++ (".<locals>." : PySem.Str) := rfl
  have hmT := mem_ts (K := K) (f := f) hq
  have huT := un_ts (K := K) (f := f) hq
  refine ⟨_, PSs.nox (pss_cons (ps_for PassesOwn.never rfl (pi_range1 rfl T.range (pa_cons (pe_callB (call_max2 rfl) (by rfl) T.max bMax (pa_cons pe_int (pa_cons (pe_callB (call_min2 rfl) (by rfl) T.min bMin (pa_cons (pe_callB call_len_seq (by rfl) T.len bLen (pa_cons (pv 0) pa_nil)) (pa_cons pe_int pa_nil))) pa_nil))) pa_nil)) (pg_name (i := 1) sc_law.nd rfl (.inl rfl))
    (pss_cons (ps_set (i := 2) sc_law.nd rfl (.inl rfl) (pe_call GSo (hr.mono (by decide)) rfl gSo kSo bSo .nil pass0 (pa_cons (pe_call GCe (hr.mono (by decide)) rfl gCe kCe bCe .nil pass0 (pa_cons (pv 0) (pa_cons (pv 1) pa_nil))) pa_nil)))
    (pss_one (ps_for PassesOwn.never rfl (pi_range1 rfl T.range (pa_cons pe_int pa_nil)) (pg_name (i := 3) sc_law.nd rfl (.inl rfl))
    (pss_cons (ps_par (i := 4) (j := 5) (by rfl) sc_law.nd rfl rfl (by decide) rfl rfl (pa_cons (pe_call GSm (hr.mono (by decide)) rfl gSm kSm bSm .nil pass0 (pa_cons (pv 2) (pa_cons pe_int pa_nil))) (pa_cons (pe_call GSm (hr.mono (by decide)) rfl gSm kSm bSm .nil pass0 (pa_cons (pv 2) (pa_cons (pe_op op_add pe_int (pe_call GDr (hr.mono (by decide)) rfl gDr kDr bDr .nil pass0 (pa_cons (pv 2) (pa_cons pe_int pa_nil)))) pa_nil))) pa_nil)) (by rfl))
    (pss_cons (ps_asg (pe_tup (pa_cons (pe_call GQu (hr.mono (by decide)) rfl gQu kQu bQu .nil pass0 (pa_cons (pv 4) pa_nil)) (pa_cons (pe_call GQu (hr.mono (by decide)) rfl gQu kQu bQu .nil pass0 (pa_cons (pv 5) pa_nil)) pa_nil))) (pg_tup (by rfl) (pgs_cons (pg_name (i := 6) sc_law.nd rfl (Or.inr rfl)) (pgs_cons (pg_name (i := 7) sc_law.nd rfl (Or.inr rfl)) pgs_nil))))
    (pss_cons (ps_set (i := 8) sc_law.nd rfl (.inr rfl) (pe_op op_add (pe_callB (cr_max rfl : CallR _ _ (rMax K)) (by rfl) T.max bMax (pa_cons (pe_call GNa (hr.mono (by decide)) rfl gNa kNa bNa .nil pass0 (pa_cons (pv 4) pa_nil)) pa_nil)) pe_int))
    (pss_cons (ps_setLc (i := 9) (own := [("_law_kind", 13), ("_law_left", 14), ("_law_right", 15)]) (g := gTup K 3 (gCons (gName 13) (gCons (gName 14) (gCons (gName 15) gNil)))) (by rfl) sc_law.nd rfl rfl (sw_true rfl rfl rfl (by decide +kernel)) (pi_listQ (K := K) rfl (pv 5)) (blkOk_by (own := [("_law_kind", 13), ("_law_left", 14), ("_law_right", 15)]) (N := nLaw) (sc := defScope s_law) (by decide +kernel)) (fun _ _ _ _ _ => pg_tup (by rfl) (pgs_cons (pg_name (i := 13) sc_law.nd rfl (Or.inl rfl)) (pgs_cons (pg_name (i := 14) sc_law.nd rfl (Or.inl rfl)) (pgs_cons (pg_name (i := 15) sc_law.nd rfl (Or.inl rfl)) pgs_nil)))) (fun _ _ _ _ _ => pts_nil) (fun _ _ _ _ _ => pe_tup (pa_cons (pv 13) (pa_cons (pe_op op_add (pv 14) (pv 8)) (pa_cons (pe_op op_add (pv 15) (pv 8)) pa_nil)))))
    (pss_cons (ps_set (i := 10) sc_law.nd rfl (.inl rfl) (pe_lst (pa_cons (pe_lamcall (t := fun E => tOp (rOwn K C (spQbin C NX addQ) E) (tVar 6) (tVar 7)) (k := 7) (c := codeAt K f) (P := tb0 K f) (T := ts0 K f) (TT := TSaid K C NX) rfl gS kS lkS hcS bS sc_said rfl (.inl rfl) (said_gives TQ.cl hA GA bA gX gE (fun s => (hr.mono (by decide)).deeper _)) TB (by rfl) hmT huT (hr.mono (by decide)) (lamS_by (sc := defScope s_law) (by decide +kernel)) (by rfl) (by intros; rfl) (fun A outer s H E f c' hr2 => pe_op (op_own oAdd GAdd bAdd hr2 (passes_call (takes_of rfl rfl rfl rfl) (fun _ _ _ _ h => h))) (pv 6) (pv 7))) pa_nil)))
    (pss_cons (ps_expr (pe_bm PySem.F.plainAttrs_list PySem.F.slot_list_append PySem.F.type_list_append mt_append (pv 10) (pa_cons (pe_lamcall (t := fun E => tOp (rOwn K C (spQbin C NX orQ) E) (tVar 6) (tVar 7)) (k := 7) (c := codeAt K f) (P := tb0 K f) (T := ts0 K f) (TT := TSaid K C NX) rfl gS kS lkS hcS bS sc_said rfl (.inl rfl) (said_gives TQ.cl hA GA bA gX gE (fun s => (hr.mono (by decide)).deeper _)) TB (by rfl) hmT huT (hr.mono (by decide)) (lamS_by (sc := defScope s_law) (by decide +kernel)) (by rfl) (by intros; rfl) (fun A outer s H E f c' hr2 => pe_op (op_own oOr GOr bOr hr2 (passes_call (takes_of rfl rfl rfl rfl) (fun _ _ _ _ h => h))) (pv 6) (pv 7))) pa_nil)))
    (pss_cons (ps_expr (pe_bm PySem.F.plainAttrs_list PySem.F.slot_list_append PySem.F.type_list_append mt_append (pv 10) (pa_cons (pe_lamcall (t := fun E => tMeth C "turned" (spQ (ITurned C)) [] E (tVar 6) tNil) (k := 7) (c := codeAt K f) (P := tb0 K f) (T := ts0 K f) (TT := TSaid K C NX) rfl gS kS lkS hcS bS sc_said rfl (.inl rfl) (said_gives TQ.cl hA GA bA gX gE (fun s => (hr.mono (by decide)).deeper _)) TB (by rfl) hmT huT (hr.mono (by decide)) (lamS_by (sc := defScope s_law) (by decide +kernel)) (by rfl) (by intros; rfl) (fun A outer s H E f c' hr2 => pe_meth0 (pv 6) TQ.cl mT GT (hr2.mono (by decide)) bT .nil pass0)) pa_nil)))
    (pss_cons (ps_set (i := 11) sc_law.nd rfl (.inl rfl) (pe_lst (pa_cons (pe_call GDu (hr.mono (by decide)) rfl gDu kDu bDu .nil pass0 (pa_cons (pe_op (op_cat : OpR _ _ rCat) (pv 4) (pv 9)) pa_nil)) (pa_cons (pe_call GDu (hr.mono (by decide)) rfl gDu kDu bDu .nil pass0 (pa_cons (pe_op (op_cat : OpR _ _ rCat) (pv 4) (pv 5)) pa_nil)) pa_nil))))
    (pss_cons (ps_expr (pe_bm PySem.F.plainAttrs_list PySem.F.slot_list_append PySem.F.type_list_append mt_append (pv 11) (pa_cons (pe_callTy (call_tupQ : CallR _ _ (rTupQ K)) (by rfl) T.tup bTup (pa_cons (pe_lc (own := [("_law_kind", 13), ("_law_left", 14), ("_law_right", 15)]) (g := gTup K 3 (gCons (gName 13) (gCons (gName 14) (gCons (gName 15) gNil)))) rfl sc_law.nd (pi_listQ (K := K) rfl (pv 4)) (blkOk_by (own := [("_law_kind", 13), ("_law_left", 14), ("_law_right", 15)]) (N := nLaw) (sc := defScope s_law) (by decide +kernel)) (fun _ _ _ _ _ => pg_tup (by rfl) (pgs_cons (pg_name (i := 13) sc_law.nd rfl (Or.inl rfl)) (pgs_cons (pg_name (i := 14) sc_law.nd rfl (Or.inl rfl)) (pgs_cons (pg_name (i := 15) sc_law.nd rfl (Or.inl rfl)) pgs_nil)))) (fun _ _ _ _ _ => pts_nil) (fun _ _ _ _ _ => pe_tup (pa_cons (pv 13) (pa_cons (pv 15) (pa_cons (pv 14) pa_nil))))) pa_nil)) pa_nil)))
    (pss_cons (ps_if (pt_not (pt_val (pe_callG GEq hg (hr.mono (by decide)) rfl gEq kEq pass0 (pa_cons (pv 10) (pa_cons (pv 11) pa_nil))))) (pss_one (ps_ret pe_bl)) pss_nil)
    (pss_cons (ps_set (i := 10) sc_law.nd rfl (.inl rfl) (pe_lst (pa_cons (pe_lamcall (t := fun E => tOp (rOwn K C (spQbin C NX addQ) E) (tVar 6) (tVar 6)) (k := 7) (c := codeAt K f) (P := tb0 K f) (T := ts0 K f) (TT := TSaid K C NX) rfl gS kS lkS hcS bS sc_said rfl (.inl rfl) (said_gives TQ.cl hA GA bA gX gE (fun s => (hr.mono (by decide)).deeper _)) TB (by rfl) hmT huT (hr.mono (by decide)) (lamS_by (sc := defScope s_law) (by decide +kernel)) (by rfl) (by intros; rfl) (fun A outer s H E f c' hr2 => pe_op (op_own oAdd GAdd bAdd hr2 (passes_call (takes_of rfl rfl rfl rfl) (fun _ _ _ _ h => h))) (pv 6) (pv 6))) pa_nil)))
    (pss_cons (ps_expr (pe_bm PySem.F.plainAttrs_list PySem.F.slot_list_append PySem.F.type_list_append mt_append (pv 10) (pa_cons (pe_lamcall (t := fun E => tOp (rOwn K C (spQbin C NX orQ) E) (tVar 6) (tVar 6)) (k := 7) (c := codeAt K f) (P := tb0 K f) (T := ts0 K f) (TT := TSaid K C NX) rfl gS kS lkS hcS bS sc_said rfl (.inl rfl) (said_gives TQ.cl hA GA bA gX gE (fun s => (hr.mono (by decide)).deeper _)) TB (by rfl) hmT huT (hr.mono (by decide)) (lamS_by (sc := defScope s_law) (by decide +kernel)) (by rfl) (by intros; rfl) (fun A outer s H E f c' hr2 => pe_op (op_own oOr GOr bOr hr2 (passes_call (takes_of rfl rfl rfl rfl) (fun _ _ _ _ h => h))) (pv 6) (pv 6))) pa_nil)))
    (pss_cons (ps_set (i := 12) sc_law.nd rfl (.inl rfl) (pe_op (op_cat : OpR _ _ rCat) (pv 4) (pe_lc (own := [("_law_kind", 13), ("_law_left", 14), ("_law_right", 15)]) (g := gTup K 3 (gCons (gName 13) (gCons (gName 14) (gCons (gName 15) gNil)))) rfl sc_law.nd (pi_listQ (K := K) rfl (pv 4)) (blkOk_by (own := [("_law_kind", 13), ("_law_left", 14), ("_law_right", 15)]) (N := nLaw) (sc := defScope s_law) (by decide +kernel)) (fun _ _ _ _ _ => pg_tup (by rfl) (pgs_cons (pg_name (i := 13) sc_law.nd rfl (Or.inl rfl)) (pgs_cons (pg_name (i := 14) sc_law.nd rfl (Or.inl rfl)) (pgs_cons (pg_name (i := 15) sc_law.nd rfl (Or.inl rfl)) pgs_nil)))) (fun _ _ _ _ _ => pts_nil) (fun _ _ _ _ _ => pe_tup (pa_cons (pv 13) (pa_cons (pe_op op_add (pv 14) (pv 8)) (pa_cons (pe_op op_add (pv 15) (pv 8)) pa_nil)))))))
    (pss_cons (ps_if (pt_not (pt_val (pe_callG GEq hg (hr.mono (by decide)) rfl gEq kEq pass0 (pa_cons (pv 10) (pa_cons (pe_lst (pa_cons (pe_call GDu (hr.mono (by decide)) rfl gDu kDu bDu .nil pass0 (pa_cons (pv 12) pa_nil)) (pa_cons (pe_call GDu (hr.mono (by decide)) rfl gDu kDu bDu .nil pass0 (pa_cons (pe_op (op_cat : OpR _ _ rCat) (pv 4) (pv 4)) pa_nil)) pa_nil))) pa_nil))))) (pss_one (ps_ret pe_bl)) pss_nil)
    (pss_one (ps_if (pt_not (pt_val (pe_callG GEq hg (hr.mono (by decide)) rfl gEq kEq pass0 (pa_cons (pe_lst (pa_cons (pe_prop (pv 6) TQ.cl hA GA (hr.mono (by decide)) bA .nil pass0 rfl) (pa_cons (pe_prop (pv 7) TQ.cl hA GA (hr.mono (by decide)) bA .nil pass0 rfl) pa_nil))) (pa_cons (pe_lst (pa_cons (pe_callTy (call_tupQ : CallR _ _ (rTupQ K)) (by rfl) T.tup bTup (pa_cons (pv 4) pa_nil)) (pa_cons (pe_callTy (call_tupQ : CallR _ _ (rTupQ K)) (by rfl) T.tup bTup (pa_cons (pv 5) pa_nil)) pa_nil))) pa_nil))))) (pss_one (ps_ret pe_bl)) pss_nil))))))))))))))))))))
    (pss_one (ps_ret pe_bl))), ?_⟩
  have tabs0 : Tabs (ts0 K f) H := fun p hp => by
    rw [List.mem_singleton.mp hp]
    exact TabS.nil ht
  clear hq hmT huT
  refine ⟨_, rfl, a, _, rfl, .inl hS, _, 2, rfl, 1, _, rfl, _, rfl, ?_, ?_, ?_⟩
  · split <;> split <;> omega
  · have l : (((ns.map V.int).length : Nat) : Int) ≤ 63 := by
      rw [List.length_map]
      omega
    split <;> split <;> omega
  generalize Int.toNat _ = nk
  refine for_range (lo := 0) (n := nk) (fun i σ H' => ∃ x1 x2 x3 x4 x5 x6 x7 x8 x9 x10 x11 x12 x13 x14 x15, σ = [some (V.ref a), x1, x2, x3, x4, x5, x6, x7, x8, x9, x10, x11, x12, x13, x14, x15] ∧ SqL K H' a (ns.map V.int) ∧ Tabs (ts0 K f) H') ⟨none, none, none, none, none, none, none, none, none, none, none, none, none, none, none, rfl, hS, tabs0⟩ ?_ ?_
  · rintro i σ H' hi ⟨x1, x2, x3, x4, x5, x6, x7, x8, x9, x10, x11, x12, x13, x14, x15, rfl, sH, tH⟩
    refine ⟨_, rfl, _, rfl, a, ns, _, rfl, by omega, sH, fun z => ⟨z, rfl, fun p c1 c2 c3 hp => ?_⟩⟩
    have sc1 : SqL K (offS (frP p) (upd H' p (.lst [.int c1, .int c2, .int c3]))) a (ns.map V.int) := sql_off sH hp
    have t1 : Tabs (ts0 K f) (upd H' p (.lst [.int c1, .int c2, .int c3])) := tabs_new tH hp
    have src1 : Src (upd H' p (.lst [.int c1, .int c2, .int c3])) p := ⟨c1, c2, c3, upd_same⟩
    generalize upd H' p (.lst [.int c1, .int c2, .int c3]) = H1 at sc1 t1 src1 ⊢
    refine ⟨6, rfl, by decide, by decide, for_range (lo := 0) (n := 6) (fun j σ H2 => ∃ x3 x4 x5 x6 x7 x8 x9 x10 x11 x12 x13 x14 x15, σ = [some (V.ref a), some (V.int (0 + (i : Int))), some (V.ref p), x3, x4, x5, x6, x7, x8, x9, x10, x11, x12, x13, x14, x15] ∧ SqL K (offS (frP p) H2) a (ns.map V.int) ∧ Tabs (ts0 K f) H2 ∧ Src H2 p)
      ⟨_, _, _, _, _, _, _, _, _, _, _, _, _, rfl, sc1, t1, src1⟩ ?_ ?_⟩
    · rintro j σ H2 hj ⟨x3, x4, x5, x6, x7, x8, x9, x10, x11, x12, x13, x14, x15, rfl, sc2, t2, src2⟩
      have hS : frP p p = true := frP_self p
      refine go_parK (s := p) (P1 := AtsP 3) (P2 := AtsP 3) (frl_src src2).fr hS src2 (k_some (m := 3) rfl (k_int (by decide) (by decide)) (by decide)) (k_some (m := 3) rfl ((k_add (k_int (lo := 1) (hi := 1) (by decide) (by decide)) (k_draw (m := 3) rfl e_int (by decide) (by decide))).weak fun H v ⟨z, e, z0, z1⟩ => ⟨z, e, by omega, by omega⟩) (by decide)) mon_ats fun v4 v5 H3 kp3 src3 fr3 ⟨as, r4, l1, l3, g⟩ ⟨bs, r5, m1, m3, h⟩ => ?_
      have fl3 := frl_src src3
      have sc3 := sql_ext sc2 (.of (kp3.off hS))
      have t3 : Tabs (ts0 K f) H3 := by
        obtain ⟨c1, c2, c3, e⟩ := src2
        exact tabs_kp t2 e kp3
      refine go_tup2 (K := K) (P1 := QV C as) (P2 := QV C bs) fr3 (e_call1 (P0 := fun H v => Rp H v (.list (as.map atD))) (e_var rfl r4) fun F v r => ⟨v, as, rfl, r, g, l1, by omega, rfl⟩) (e_call1 (P0 := fun H v => Rp H v (.list (bs.map atD))) (e_var rfl r5) fun F v r => ⟨v, bs, rfl, r, h, m1, by omega, rfl⟩) (fun F F' v s r => r.mono s) (fun F F' v s r => r.mono s) fun v6 v7 H4 s4 fr4 q6 q7 => ?_
      have nm := nms_max l1 g
      have r4a := r4.mono (offS_mono (S := frP p) s4)
      have r5a := r5.mono (offS_mono (S := frP p) s4)
      refine go_setS (P := fun H v => Rp H v (.int (mxq as + 1))) fr4 (e_add (e_maxL (K := K) (ns := (nms10 as).map fun n : Nat => (n : Int)) (eqD (e_call (a_cons (e_var rfl r4a) a_nil) ⟨as, rfl, by omega, rfl⟩) (by rw [List.map_map]; rfl)) nm.1 nm.2) e_int) fun v8 H5 s5 fr5 r8 => ?_
      obtain rfl : v8 = .int (mxq as + 1) := by
        cases r8
        rfl
      have r5b := r5a.mono (offS_mono (S := frP p) s5)
      refine go_setS (P := fun H v => Rp H v (.list ((bs.map (shA (mxq as + 1))).map atD))) fr5 (eqD (e_lcL (K := K) (enc := atD) (b := fun _ => true) (ev := fun a => atD (shA (mxq as + 1) a)) (e_var rfl r5b) (by omega) fun b hb x F1 sF r => g_tup3c (fun w1 w2 w3 => [some (V.ref a), some (V.int (0 + (i : Int))), some (V.ref p), some (V.int (0 + (j : Int))), some v4, some v5, some v6, some v7, some (V.int (mxq as + 1)), x9, x10, x11, x12, some w1, some w2, some w3]) (fun _ _ _ => rfl) r fun w1 w2 w3 q1 q2 q3 => ⟨rfl, b_yes, fun _ => e_tup (a_cons (e_var rfl q1) (a_cons (e_add (e_var rfl q2) (e_var rfl (.int _))) (a_cons (e_add (e_var rfl q3) (e_var rfl (.int _))) a_nil)))⟩) (by rw [filter_yes, List.map_map]; rfl)) fun v9 H6 s6 fr6 r9 => ?_
      have k6 : Kn K C a ns as bs v4 v5 v6 v7 v9 (offS (frP p) H6) := ⟨sql_ext sc3 (.of (offS_mono (s4.trans (s5.trans s6)))), r4a.mono (offS_mono (s5.trans s6)), r5b.mono (offS_mono s6), q6.mono (offS_mono (s5.trans s6)), q7.mono (offS_mono (s5.trans s6)), r9⟩
      have t6 : Tabs (ts0 K f) H6 := t3.ext (s4.trans (s5.trans s6))
      have fl6 : FrL (frP p) H6 := fl3.same (s4.trans (s5.trans s6))
      have c6 : Src H6 p := src_same src3 (s4.trans (s5.trans s6))
      clear r4 r5 r4a r5a r5b q6 q7 r9 sc3 sc2 t2 src2 t3 fl3 fr3 fr4 fr5 fr6 src3 kp3 sc1 t1 src1 sH tH
      refine go_lstL (P := fun H v => Rp H v (dueA (addQ as bs))) fl6 t6 (l_bin TQ.cl ic ex rfl rfl k6.q6 k6.q7 l1 (by omega) (by omega)) fun aw1 at0 aH7 ae7 at7 an7 ap7 => ?_
      have ak8 := k6.ext ((ext_off ae7).trans (ext_add (p := at0) (xs := [aw1]) an7))
      have aR8 : RpA (offS (addS (frP p) at0) (upd aH7 at0 (.lst [aw1]))) [aw1] [dueA (addQ as bs)] := .cons (Rp.ext (ext_add an7) ap7) .nil
      have afl8 : FrL (addS (frP p) at0) (upd aH7 at0 (.lst [aw1])) := (fl6.ext ae7).new an7
      have at8 := tabs_new (xs := [aw1]) at7 an7
      have aoff : frP p at0 = false := frl_off (fl6.ext ae7) an7
      have ane : at0 ≠ p := fun z => by
        rw [z, frP_self] at aoff
        cases aoff
      have ac8 : Src (upd aH7 at0 (.lst [aw1])) p := src_new (src_ext c6 ae7) an7
      have ah8 : upd aH7 at0 (.lst [aw1]) at0 = some (.lst [aw1]) := upd_same
      generalize upd aH7 at0 (.lst [aw1]) = aH8 at ac8 ak8 aR8 afl8 at8 ah8 ⊢
      refine go_appL (K := K) (P := fun H v => Rp H v (dueA (orQ as bs))) afl8 at8 rfl ah8 (l_bin TQ.cl ic ex rfl rfl ak8.q6 ak8.q7 l1 (by omega) (by omega)) (by simp) fun aw2 aH9 ae9 at9 ah9 ap9 => ?_
      have ak10 := ak8.ext ((ext_off ae9).trans (ext_app (xs := [aw1] ++ [aw2])))
      have aR10 := (RpA.ext ((ext_off ae9).trans (ext_app (xs := [aw1] ++ [aw2]))) aR8).append (.cons (Rp.ext (ext_app (xs := [aw1] ++ [aw2])) ap9) .nil)
      have afl10 : FrL (addS (frP p) at0) (upd aH9 at0 (.lst ([aw1] ++ [aw2]))) := (afl8.ext ae9).put
      have at10 := tabs_upd (xs := [aw1] ++ [aw2]) at9 ah9
      have ac10 : Src (upd aH9 at0 (.lst ([aw1] ++ [aw2]))) p := src_upd (src_ext ac8 ae9) ane
      have ah10 : upd aH9 at0 (.lst ([aw1] ++ [aw2])) at0 = some (.lst ([aw1] ++ [aw2])) := upd_same
      generalize upd aH9 at0 (.lst ([aw1] ++ [aw2])) = aH10 at ac10 ak10 aR10 afl10 at10 ah10 ⊢
      refine go_appL (K := K) (P := fun H v => Rp H v (.tuple ((as.map trn).map atD))) afl10 at10 rfl ah10 (l_turn rfl ak10.q6 g l1 (by omega)) (by simp) fun w3 H11 e11 t11 h11 p11 => ?_
      have k12 := ak10.ext ((ext_off e11).trans (ext_app (xs := ([aw1] ++ [aw2]) ++ [w3])))
      have R12 := (RpA.ext ((ext_off e11).trans (ext_app (xs := ([aw1] ++ [aw2]) ++ [w3]))) aR10).append (.cons (Rp.ext (ext_app (xs := ([aw1] ++ [aw2]) ++ [w3])) p11) .nil)
      have fl12 : FrL (addS (frP p) at0) (upd H11 at0 (.lst (([aw1] ++ [aw2]) ++ [w3]))) := (afl10.ext e11).put
      have t12 := tabs_upd (xs := ([aw1] ++ [aw2]) ++ [w3]) t11 h11
      have c12 : Src (upd H11 at0 (.lst (([aw1] ++ [aw2]) ++ [w3]))) p := src_upd (src_ext ac10 e11) ane
      have h12 : upd H11 at0 (.lst (([aw1] ++ [aw2]) ++ [w3])) at0 = some (.lst (([aw1] ++ [aw2]) ++ [w3])) := upd_same
      generalize upd H11 at0 (.lst (([aw1] ++ [aw2]) ++ [w3])) = H12 at c12 k12 R12 fl12 t12 h12 ⊢
      have lA : (addQ as bs).length = as.length + bs.length := by
        unfold addQ
        rw [List.length_append, List.length_map]
      have lO : (orQ as bs).length = as.length + bs.length := by
        unfold orQ
        rw [List.length_append]
      refine go_lstN (ds := [dueA (addQ as bs), dueA (orQ as bs)]) fl12.fr (a_cons (e_call (a_cons (eqD (e_cat (e_var rfl k12.r4) (e_var rfl k12.r9) (by simp only [List.length_map]; omega)) (by rw [← List.map_append]; rfl)) a_nil) ⟨addQ as bs, rfl, by omega, by omega, add_ge l1 g h, rfl⟩) (a_cons (e_call (a_cons (eqD (e_cat (e_var rfl k12.r4) (e_var rfl k12.r5) (by simp only [List.length_map]; omega)) (by rw [← List.map_append]; rfl)) a_nil) ⟨orQ as bs, rfl, by omega, by omega, or_ge g h, rfl⟩) a_nil)) (by simp) fun us d H13 s13 n13 rd => ?_
      have lu : us.length = 2 := rd.length
      have k14 := k12.ext ((ExtN.of (offS_mono s13)).trans (ext_add (p := d) (xs := us) n13))
      have R14 := RpA.ext ((ExtN.of (offS_mono s13)).trans (ext_add (p := d) (xs := us) n13)) R12
      have D14 := RpA.ext (ext_add (p := d) (xs := us) n13) rd
      have fl14 : FrL (addS (addS (frP p) at0) d) (upd H13 d (.lst us)) := (fl12.same s13).new n13
      have t14 := tabs_new (xs := us) (t12.ext s13) n13
      have c14 : Src (upd H13 d (.lst us)) p := src_new (src_same c12 s13) n13
      have offd : frP p d = false := frl_off (frl_drop (fl12.same s13)) n13
      have dne : d ≠ p := fun z => by
        rw [z, frP_self] at offd
        cases offd
      have nd : at0 ≠ d := ne_of_none (s13 _ _ h12) n13
      have h14 : upd H13 d (.lst us) at0 = some (.lst (([aw1] ++ [aw2]) ++ [w3])) := by
        rw [upd_ne nd]
        exact s13 _ _ h12
      have d14 : upd H13 d (.lst us) d = some (.lst us) := upd_same
      generalize upd H13 d (.lst us) = H14 at c14 k14 R14 D14 fl14 t14 h14 d14 ⊢
      refine go_appP (K := K) (P := fun H v => Rp H v (.tuple ((as.map trn).map atD))) fl14.fr rfl d14 (e_tupOf (eqD (e_lcL (K := K) (enc := atD) (b := fun _ => true) (ev := fun a => atD (trn a)) (e_var rfl k14.r4) (by omega) fun b hb x F1 sF r => g_tup3c (fun w1 w2 w3 => [some (V.ref a), some (V.int (0 + (i : Int))), some (V.ref p), some (V.int (0 + (j : Int))), some v4, some v5, some v6, some v7, some (V.int (mxq as + 1)), some v9, some (V.ref at0), some (V.ref d), x12, some w1, some w2, some w3]) (fun _ _ _ => rfl) r fun w1 w2 w3 q1 q2 q3 => ⟨rfl, b_yes, fun _ => e_tup (a_cons (e_var rfl q1) (a_cons (e_var rfl q3) (a_cons (e_var rfl q2) a_nil)))⟩) (by rw [filter_yes, List.map_map]; rfl))) (by omega) fun y H15 s15 h15 p15 => ?_
      have e16 : ExtN (offS (addS (addS (frP p) at0) d) H14) (offS (addS (addS (frP p) at0) d) (upd H15 d (.lst (us ++ [y])))) := (ExtN.of (offS_mono s15)).trans ext_app
      have k16 := k14.ext e16
      have R16 := RpA.ext e16 R14
      have D16 := (RpA.ext e16 D14).append (.cons (Rp.ext (ext_app (xs := us ++ [y])) p15) .nil)
      have fl16 : FrL (addS (addS (frP p) at0) d) (upd H15 d (.lst (us ++ [y]))) := (fl14.same s15).put
      have t16 := tabs_upd (xs := us ++ [y]) (t14.ext s15) h15
      have c16 : Src (upd H15 d (.lst (us ++ [y]))) p := src_upd (src_same c14 s15) dne
      have h16 : upd H15 d (.lst (us ++ [y])) at0 = some (.lst (([aw1] ++ [aw2]) ++ [w3])) := by
        rw [upd_ne nd]
        exact s15 _ _ h14
      have d16 : upd H15 d (.lst (us ++ [y])) d = some (.lst (us ++ [y])) := upd_same
      generalize upd H15 d (.lst (us ++ [y])) = H16 at c16 k16 R16 D16 fl16 t16 h16 d16 e16 ⊢
      have up : Same (offS (addS (addS (frP p) at0) d) H16) (offS (frP p) H16) := addS_off.trans addS_off
      have rT : Rp (offS (frP p) H16) (.ref at0) (.list [dueA (addQ as bs), dueA (orQ as bs), .tuple ((as.map trn).map atD)]) := .lst (by rw [offS_at aoff]; exact h16) (R16.mono up)
      have rD : Rp (offS (frP p) H16) (.ref d) (.list [dueA (addQ as bs), dueA (orQ as bs), .tuple ((as.map trn).map atD)]) := .lst (by rw [offS_at offd]; exact d16) (D16.mono up)
      have fl17 : FrL (frP p) H16 := frl_drop (frl_drop fl16)
      have ftT : Fit (.tuple ((as.map trn).map atD)) 2 1000 := fit_atT (turn_good g) (by rw [List.length_map]; omega)
      refine go_ifS (b := false) fl17.fr (b_not (b_val (e_eq (e_var rfl rT) (e_var rfl rD) (fit_few (fun x hx => ?_) (by simp))))) (fun z => by cases z) fun _ H17 s17 fr17 => ?_
      · rcases List.mem_cons.mp hx with e | hx
        · rw [e]; exact fit_due
        · rcases List.mem_cons.mp hx with e | hx
          · rw [e]; exact fit_due
          · rw [List.mem_singleton.mp hx]; exact ftT
      have k18 := k16.ext (.of (up.trans (offS_mono s17)))
      have t18 : Tabs (ts0 K f) H17 := t16.ext s17
      have c18 : Src H17 p := src_same c16 s17
      have fl18 : FrL (frP p) H17 := fl17.same s17
      refine go_lstL (P := fun H v => Rp H v (dueA (addQ as as))) fl18 t18 (l_bin TQ.cl ic ex rfl rfl k18.q6 k18.q6 l1 (by omega) (by omega)) fun bw1 bt bH7 be7 bt7 bn7 bp7 => ?_
      have bk8 := k18.ext ((ext_off be7).trans (ext_add (p := bt) (xs := [bw1]) bn7))
      have bR8 : RpA (offS (addS (frP p) bt) (upd bH7 bt (.lst [bw1]))) [bw1] [dueA (addQ as as)] := .cons (Rp.ext (ext_add bn7) bp7) .nil
      have bfl8 : FrL (addS (frP p) bt) (upd bH7 bt (.lst [bw1])) := (fl18.ext be7).new bn7
      have bt8 := tabs_new (xs := [bw1]) bt7 bn7
      have boff : frP p bt = false := frl_off (fl18.ext be7) bn7
      have bne : bt ≠ p := fun z => by
        rw [z, frP_self] at boff
        cases boff
      have bc8 : Src (upd bH7 bt (.lst [bw1])) p := src_new (src_ext c18 be7) bn7
      have bh8 : upd bH7 bt (.lst [bw1]) bt = some (.lst [bw1]) := upd_same
      generalize upd bH7 bt (.lst [bw1]) = bH8 at bc8 bk8 bR8 bfl8 bt8 bh8 ⊢
      refine go_appL (K := K) (P := fun H v => Rp H v (dueA (orQ as as))) bfl8 bt8 rfl bh8 (l_bin TQ.cl ic ex rfl rfl bk8.q6 bk8.q6 l1 (by omega) (by omega)) (by simp) fun bw2 bH9 be9 bt9 bh9 bp9 => ?_
      have bk10 := bk8.ext ((ext_off be9).trans (ext_app (xs := [bw1] ++ [bw2])))
      have bR10 := (RpA.ext ((ext_off be9).trans (ext_app (xs := [bw1] ++ [bw2]))) bR8).append (.cons (Rp.ext (ext_app (xs := [bw1] ++ [bw2])) bp9) .nil)
      have bfl10 : FrL (addS (frP p) bt) (upd bH9 bt (.lst ([bw1] ++ [bw2]))) := (bfl8.ext be9).put
      have bt10 := tabs_upd (xs := [bw1] ++ [bw2]) bt9 bh9
      have bc10 : Src (upd bH9 bt (.lst ([bw1] ++ [bw2]))) p := src_upd (src_ext bc8 be9) bne
      have bh10 : upd bH9 bt (.lst ([bw1] ++ [bw2])) bt = some (.lst ([bw1] ++ [bw2])) := upd_same
      generalize upd bH9 bt (.lst ([bw1] ++ [bw2])) = bH10 at bc10 bk10 bR10 bfl10 bt10 bh10 ⊢
      have lA2 : (addQ as as).length = as.length + as.length := by
        unfold addQ
        rw [List.length_append, List.length_map]
      have lO2 : (orQ as as).length = as.length + as.length := by
        unfold orQ
        rw [List.length_append]
      refine go_setS (P := fun H v => Rp H v (.list ((addQ as as).map atD))) bfl10.fr (eqD (e_cat (e_var rfl bk10.r4) (eqD (e := .list ((as.map (shA (mxq as + 1))).map atD)) (e_lcL (K := K) (enc := atD) (b := fun _ => true) (ev := fun a => atD (shA (mxq as + 1) a)) (e_var rfl bk10.r4) (by omega) fun b hb x F1 sF r => g_tup3c (fun w1 w2 w3 => [some (V.ref a), some (V.int (0 + (i : Int))), some (V.ref p), some (V.int (0 + (j : Int))), some v4, some v5, some v6, some v7, some (V.int (mxq as + 1)), some v9, some (V.ref bt), some (V.ref d), x12, some w1, some w2, some w3]) (fun _ _ _ => rfl) r fun w1 w2 w3 q1 q2 q3 => ⟨rfl, b_yes, fun _ => e_tup (a_cons (e_var rfl q1) (a_cons (e_add (e_var rfl q2) (e_var rfl (.int _))) (a_cons (e_add (e_var rfl q3) (e_var rfl (.int _))) a_nil)))⟩) (by rw [filter_yes, List.map_map]; rfl)) (by simp only [List.length_map]; omega)) (by rw [← List.map_append]; rfl)) fun v12 H21 s21 fr21 r12 => ?_
      have r12' := r12.mono (addS_off (S := frP p) (p := bt) (H := H21))
      have upb : Same (offS (addS (frP p) bt) bH10) (offS (frP p) H21) := addS_off.trans (offS_mono s21)
      have rT2 : Rp (offS (frP p) H21) (.ref bt) (.list [dueA (addQ as as), dueA (orQ as as)]) := .lst (by rw [offS_at boff]; exact s21 _ _ bh10) (bR10.mono upb)
      have k21 := bk10.ext (.of upb)
      have fl21 : FrL (frP p) H21 := frl_drop (bfl10.same s21)
      refine go_ifS (b := false) fl21.fr (b_not (b_val (e_eq (e_var rfl rT2) (e_lst (a_cons (e_call (a_cons (e_var rfl r12') a_nil) ⟨addQ as as, rfl, by omega, by omega, add_ge l1 g g, rfl⟩) (a_cons (e_call (a_cons (eqD (e_cat (e_var rfl k21.r4) (e_var rfl k21.r4) (by simp only [List.length_map]; omega)) (by rw [← List.map_append]; rfl)) a_nil) ⟨orQ as as, rfl, by omega, by omega, or_ge g g, rfl⟩) a_nil))) (fit_few (fun x hx => ?_) (by simp))))) (fun z => by cases z) fun _ H22 s22 fr22 => ?_
      · rcases List.mem_cons.mp hx with e | hx
        · rw [e]; exact fit_due
        · rw [List.mem_singleton.mp hx]; exact fit_due
      have k22 := k21.ext (.of (offS_mono s22))
      refine go_ifF fr22 (b_not (b_val (e_eq (d := .list [.tuple (as.map atD), .tuple (bs.map atD)]) (e_lst (a_cons (e_prop (e_varP (P := QV C as) rfl fun _ sm => k22.q6.mono sm) qv_atoms) (a_cons (e_prop (e_varP (P := QV C bs) rfl fun _ sm => k22.q7.mono sm) qv_atoms) a_nil))) (e_lst (a_cons (e_tupOf (e_var rfl k22.r4)) (a_cons (e_tupOf (e_var rfl k22.r5)) a_nil))) (fit_few (fun x hx => ?_) (by simp))))) fun H23 s23 fr23 => ?_
      · rcases List.mem_cons.mp hx with e | hx
        · rw [e]; exact fit_atT g (by omega)
        · rw [List.mem_singleton.mp hx]; exact fit_atT h (by omega)
      have fl23 : FrL (frP p) H23 := fl21.same (s22.trans s23)
      refine ⟨_, _, _, _, _, _, _, _, _, _, _, _, _, rfl, sql_ext k22.sc (.of (offS_mono s23)), bt10.ext (s21.trans (s22.trans s23)), ?_⟩
      exact src_same bc10 (s21.trans (s22.trans s23))
    · rintro σ H2 ⟨x3, x4, x5, x6, x7, x8, x9, x10, x11, x12, x13, x14, x15, rfl, sc2, t2, src2⟩
      exact ⟨_, _, _, _, _, _, _, _, _, _, _, _, _, _, _, rfl, sql_ext sc2 (.of offS_same), t2⟩
  · rintro σ H' ⟨x1, x2, x3, x4, x5, x6, x7, x8, x9, x10, x11, x12, x13, x14, x15, rfl, sH, tH⟩
    exact q H'
end
end Q

set_option maxHeartbeats 400000
namespace Q
open PySem PySem.Spec PyProof.Rows L2 He Ca
def isC1B (x : PySem.Str) (K : PySem.W.Frag) : Bool :=
  eqO (PySem.W.findIn K (.ref (ga K x)) "__class__") (some (some (.builtin "object.__class__"))) && (eqO (PySem.W.specialIn K (.builtin "object.__class__") "__get__") (some (some (.builtin "getset_descriptor.__get__"))) &&
    (decide (PySem.W.takesIn K (.builtin "object.__class__") = some true) && (decide (PySem.W.mroIn K (ga K x) (.type "object") = some true) && decide (PySem.W.kitOne K (.ref (ga K x)) (.ref (ga K x)) = some true))))
theorem isC1_ok {x : PySem.Str} {K : PySem.W.Frag} (h : isC1B x K = true) : IsiC K (ga K x) := by
  obtain ⟨h1, h⟩ := ba h
  obtain ⟨h2, h⟩ := ba h
  obtain ⟨h3, h⟩ := ba h
  obtain ⟨h4, h5⟩ := ba h
  exact ⟨eqO_ok h1, eqO_ok h2, of_decide_eq_true h3, of_decide_eq_true h4, of_decide_eq_true h5⟩
def exmB (x y : PySem.Str) (b : Bool) (K : PySem.W.Frag) : Bool := decide (PySem.W.exmOne K (.ref (ga K x)) (.ref (ga K y)) = some b)
theorem exm_ok {x y : PySem.Str} {b : Bool} {K : PySem.W.Frag} (h : exmB x y b K = true) : PySem.W.exmOne K (.ref (ga K x)) (.ref (ga K y)) = some b := of_decide_eq_true h
def opB (x : PySem.Str) (op : Operator) (K : PySem.W.Frag) : Bool :=
  PySem.W.selfFirst K (ga K x) && (eqO (PySem.W.findIn K (.ref (ga K x)) (PySem.dunder op.info.2)) (some (some (.ref (ma K (ga K x) (PySem.dunder op.info.2))))) && (PySem.W.isFn K (.ref (ma K (ga K x) (PySem.dunder op.info.2))) && (eqO (PySem.W.findIn K (.ref (ga K x)) (dunderR op.info.2)) (some none) &&
    tyN.all fun T => (PySem.W.findIn K (.type T) (PySem.dunder op.info.2)).isSome && ((PySem.W.findIn K (.type T) (dunderR op.info.2)).isSome && decide (PySem.W.subIn K (.type T) (.ref (ga K x)) = some false)))))
theorem op_ok {x : PySem.Str} {op : Operator} {K : PySem.W.Frag} (h : opB x op K = true) : OwnOp K (ga K x) (ma K (ga K x) (PySem.dunder op.info.2)) op := by
  obtain ⟨h1, h⟩ := ba h
  obtain ⟨h2, h⟩ := ba h
  obtain ⟨h3, h⟩ := ba h
  obtain ⟨h4, h5⟩ := ba h
  refine ⟨h1, eqO_ok h2, h3, eqO_ok h4, fun T hT => ?_⟩
  have z := List.all_eq_true.mp h5 T hT
  obtain ⟨z1, z⟩ := ba z
  obtain ⟨z2, z3⟩ := ba z
  exact ⟨Option.isSome_iff_exists.mp z1, Option.isSome_iff_exists.mp z2, of_decide_eq_true z3⟩
end Q

set_option maxHeartbeats 0
namespace Q
open PySem PySem.Spec PyProof.Rows L2 Ca
def fs1 : List (PySem.W.Frag → Bool) := [(fun K => (He.Fa.free "isinstance").ok K), (fun K => (He.Fa.free "int").ok K), (fun K => (He.Fa.free "bool").ok K), (fun K => (He.Fa.free "str").ok K), (fun K => (He.Fa.free "tuple").ok K), (fun K => (He.Fa.free "list").ok K), (fun K => (He.Fa.free "len").ok K), (fun K => (He.Fa.free "all").ok K), (fun K => (He.Fa.free "sorted").ok K), (fun K => (He.Fa.free "repr").ok K), (fun K => (He.Fa.free "max").ok K), (fun K => (He.Fa.free "min").ok K), (fun K => (He.Fa.free "range").ok K), (fun K => (He.Fa.glo "is_number").ok K), (fun K => (He.Fa.glo "is_triple").ok K), (fun K => (He.Fa.glo "are_atoms").ok K), (fun K => (He.Fa.glo "variables_of").ok K), (fun K => (He.Fa.glo "text_of_atoms").ok K), (fun K => (He.Fa.glo "number_of_word").ok K), (fun K => (He.Fa.glo "atom_of_word").ok K)]
def fs2 : List (PySem.W.Frag → Bool) := [(fun K => (He.Fa.glo "KINDS").ok K), (fun K => (He.Fa.glo "NoAtoms").ok K), (fun K => (He.Fa.glo "Question").ok K), (fun K => He.tupB K "KINDS" [.str "A", .str "B", .str "C"]), (fun K => (K.lookup sysModules).isSome), (fun K => (He.Fa.int "MOST_ATOMS" 4).ok K), (fun K => (He.Fa.int "MOST_VARIABLE" 9).ok K), (fun K => (He.Fa.exc "NoAtoms").ok K), (fun K => (He.Fa.cls "Question").ok K), (fun K => (He.Fa.noat "Question" "given").ok K), (fun K => (He.Fa.noat "Question" "ordered").ok K), (fun K => (He.Fa.noat "Question" "used").ok K), (fun K => (He.Fa.mkr "Question").ok K), (fun K => (He.Fa.int "LONGEST_NUMBER" 5).ok K), (fun K => crB "Question" K), (fun K => cmB "Question" "read" K), (fun K => (He.Fa.glo "_law_cell").ok K), (fun K => (He.Fa.glo "_law_source").ok K), (fun K => (He.Fa.glo "_law_draw").ok K), (fun K => (He.Fa.glo "_law_choose").ok K)]
def fs3 : List (PySem.W.Frag → Bool) := [(fun K => (He.Fa.glo "_law_is_equal").ok K), (fun K => (He.Fa.glo "law").ok K), (fun K => (He.Fa.glo "_law_some").ok K), (fun K => (He.Fa.glo "_law_words").ok K), (fun K => (He.Fa.glo "_law_question").ok K), (fun K => propB "Question" "atoms" K), (fun K => (He.Fa.exc "TooMuch").ok K), (fun K => (He.Fa.glo "TooMuch").ok K), (fun K => isC1B "Question" K), (fun K => (He.Fa.glo "check_question").ok K), (fun K => (He.Fa.glo "question_within_limits").ok K), (fun K => opB "Question" .Add K), (fun K => opB "Question" .BitOr K), (fun K => (He.Fa.meth "Question" "turned").ok K), (fun K => exmB "TooMuch" "TooMuch" true K), (fun K => (He.Fa.glo "_law_names").ok K), (fun K => (He.Fa.glo "_law_due").ok K), (fun K => (He.Fa.glo "_law_said").ok K), (fun K => (He.Fa.glo "CountError").ok K)]
def fs : List (PySem.W.Frag → Bool) := fs1 ++ fs2 ++ fs3
def df_num : DfX := ⟨fun K => He.ga K "is_number", "is_number", "is_number", s_is_number⟩
def df_tri : DfX := ⟨fun K => He.ga K "is_triple", "is_triple", "is_triple", s_is_triple⟩
def df_are : DfX := ⟨fun K => He.ga K "are_atoms", "are_atoms", "are_atoms", s_are_atoms⟩
def df_vars : DfX := ⟨fun K => He.ga K "variables_of", "variables_of", "variables_of", s_variables_of⟩
def df_text : DfX := ⟨fun K => He.ga K "text_of_atoms", "text_of_atoms", "text_of_atoms", s_text_of_atoms⟩
def df_now : DfX := ⟨fun K => He.ga K "number_of_word", "number_of_word", "number_of_word", s_now⟩
def df_aow : DfX := ⟨fun K => He.ga K "atom_of_word", "atom_of_word", "atom_of_word", s_aow⟩
def df_init : DfX := ⟨fun K => He.ma K (He.ga K "Question") "__init__", "__init__", "Question.__init__", s_init⟩
def df_read : DfX := ⟨fun K => cmG K "Question" "read", "read", "Question.read", s_read⟩
def df_cell : DfX := ⟨fun K => He.ga K "_law_cell", "_law_cell", "_law_cell", s_cell⟩
def df_source : DfX := ⟨fun K => He.ga K "_law_source", "_law_source", "_law_source", s_source⟩
def df_draw : DfX := ⟨fun K => He.ga K "_law_draw", "_law_draw", "_law_draw", s_draw⟩
def df_choose : DfX := ⟨fun K => He.ga K "_law_choose", "_law_choose", "_law_choose", s_choose⟩
def df_eq : DfX := ⟨fun K => He.ga K "_law_is_equal", "_law_is_equal", "_law_is_equal", s_eq⟩
def df_law : DfX := ⟨fun K => He.ga K "law", "law", "law", s_law⟩
def df_some : DfX := ⟨fun K => He.ga K "_law_some", "_law_some", "_law_some", s_some⟩
def df_lwords : DfX := ⟨fun K => He.ga K "_law_words", "_law_words", "_law_words", s_lwords⟩
def df_lq : DfX := ⟨fun K => He.ga K "_law_question", "_law_question", "_law_question", s_lq⟩
def df_qatoms : DfX := ⟨fun K => propG K (He.ma K (He.ga K "Question") "atoms"), "atoms", "Question.atoms", s_atoms⟩
def df_cq : DfX := ⟨fun K => He.ga K "check_question", "check_question", "check_question", s_cq⟩
def df_qwl : DfX := ⟨fun K => He.ga K "question_within_limits", "question_within_limits", "question_within_limits", s_qwl⟩
def df_qadd : DfX := ⟨fun K => He.ma K (He.ga K "Question") (PySem.dunder Operator.Add.info.2), "__add__", "Question.__add__", s_qadd⟩
def df_qor : DfX := ⟨fun K => He.ma K (He.ga K "Question") (PySem.dunder Operator.BitOr.info.2), "__or__", "Question.__or__", s_qor⟩
def df_turned : DfX := ⟨fun K => He.ma K (He.ga K "Question") "turned", "turned", "Question.turned", s_turned⟩
def df_lnames : DfX := ⟨fun K => He.ga K "_law_names", "_law_names", "_law_names", s_lnames⟩
def df_due : DfX := ⟨fun K => He.ga K "_law_due", "_law_due", "_law_due", s_due⟩
def df_said : DfX := ⟨fun K => He.ga K "_law_said", "_law_said", "_law_said", s_said⟩
def fn : List DfX := [df_num, df_tri, df_are, df_vars, df_text, df_now, df_aow, df_init, df_read, df_cell, df_source, df_draw, df_choose, df_eq, df_law, df_some, df_lwords, df_lq, df_qatoms, df_cq, df_qwl, df_qadd, df_qor, df_turned, df_lnames, df_due, df_said]
def nm1 : List PySem.Str := ["_wall", "KINDS", "LONGEST_NUMBER", "is_number", "is_triple", "number_of_word", "CountError", "NoRows", "NoKey", "NoText", "NoTable", "NoAtoms", "NoQuestion", "TooMuch", "MOST_ROWS", "MOST_VALUE", "MOST_OFTEN", "MOST_DIGIT", "DIGIT_BASE", "is_key", "is_row", "are_rows", "text_of_rows", "row_of_line", "greatest_value"]
def nm2 : List PySem.Str := ["summed_rows", "shifted_rows", "paired_rows", "Table", "check_table", "table_within_limits", "MOST_ATOMS", "MOST_VARIABLE", "are_atoms", "text_of_atoms", "atom_of_word", "variables_of", "Question", "check_question", "question_within_limits", "agrees", "choices", "count_of", "_law_cell", "_law_source", "_law_draw", "_law_choose", "_law_is_equal", "_law_some", "_law_words"]
def nm3 : List PySem.Str := ["_law_question", "_law_names", "_law_said", "_law_due"]
def nms : List PySem.Str := nm1 ++ nm2 ++ nm3
abbrev R : PySem.W.OpenRow := PySem.W.OpenLaw.row PySem.Challenge.rw_countalike_k62_questions_put_together
def tf : List DfX := [df_law]
abbrev hk : PySem.W.Hook := hookZ 7 fs fn tf
def ob (s : PySem.W.SharedT) : AlZ := seeZ 7 fs fn tf (HandSHeadRun.getT s)
theorem ob_eq (s : PySem.W.SharedT) : ob s = hk.obs s.abs := seeZ_eq (HandSHeadRun.getT_eq s)
theorem run (w : World) : HandSHeadRun.RunEq R (PySem.W.view R.prog [59]) hk ob 30000 nms w := by
  intro os
  kernel_rfl
theorem facts {P : Program} {w : World} {K : PySem.W.Frag} {h : Heap} {mg : PySem.Str → Option Value} {f : Addr} (X : K.In h) (G : h.Ns mainGlobals mg) (hfa : mg ("law" : PySem.Str) = some (.ref f)) (c : SaysX fs fn K) (rc : isRefC K (df_law.at_ K) = true) :
    ∀ base : Heap, K.In base → base.Ns mainGlobals mg → (∀ p ∈ [ctD K df_law], LamX.TabB base mg p.1 p.2) → FnG P w K mg base CX0 10 f (spLaw K f) := by
  intro base _ _ hT
  obtain ⟨fd_num, F_num⟩ := c.def_ 0 (d := df_num) rfl
  obtain ⟨fd_tri, F_tri⟩ := c.def_ 1 (d := df_tri) rfl
  obtain ⟨fd_are, F_are⟩ := c.def_ 2 (d := df_are) rfl
  obtain ⟨fd_vars, F_vars⟩ := c.def_ 3 (d := df_vars) rfl
  obtain ⟨fd_text, F_text⟩ := c.def_ 4 (d := df_text) rfl
  obtain ⟨fd_now, F_now⟩ := c.def_ 5 (d := df_now) rfl
  obtain ⟨fd_aow, F_aow⟩ := c.def_ 6 (d := df_aow) rfl
  obtain ⟨fd_init, F_init⟩ := c.def_ 7 (d := df_init) rfl
  obtain ⟨fd_read, F_read⟩ := c.def_ 8 (d := df_read) rfl
  obtain ⟨fd_cell, F_cell⟩ := c.def_ 9 (d := df_cell) rfl
  obtain ⟨fd_source, F_source⟩ := c.def_ 10 (d := df_source) rfl
  obtain ⟨fd_draw, F_draw⟩ := c.def_ 11 (d := df_draw) rfl
  obtain ⟨fd_choose, F_choose⟩ := c.def_ 12 (d := df_choose) rfl
  obtain ⟨fd_eq, F_eq⟩ := c.def_ 13 (d := df_eq) rfl
  obtain ⟨fd_law, F_law⟩ := c.def_ 14 (d := df_law) rfl
  obtain ⟨fd_some, F_some⟩ := c.def_ 15 (d := df_some) rfl
  obtain ⟨fd_lwords, F_lwords⟩ := c.def_ 16 (d := df_lwords) rfl
  obtain ⟨fd_lq, F_lq⟩ := c.def_ 17 (d := df_lq) rfl
  obtain ⟨fd_qatoms, F_qatoms⟩ := c.def_ 18 (d := df_qatoms) rfl
  obtain ⟨fd_cq, F_cq⟩ := c.def_ 19 (d := df_cq) rfl
  obtain ⟨fd_qwl, F_qwl⟩ := c.def_ 20 (d := df_qwl) rfl
  obtain ⟨fd_qadd, F_qadd⟩ := c.def_ 21 (d := df_qadd) rfl
  obtain ⟨fd_qor, F_qor⟩ := c.def_ 22 (d := df_qor) rfl
  obtain ⟨fd_turned, F_turned⟩ := c.def_ 23 (d := df_turned) rfl
  obtain ⟨fd_lnames, F_lnames⟩ := c.def_ 24 (d := df_lnames) rfl
  obtain ⟨fd_due, F_due⟩ := c.def_ 25 (d := df_due) rfl
  obtain ⟨fd_said, F_said⟩ := c.def_ 26 (d := df_said) rfl
  have e := hfa.symm.trans (He.glo_ok X G (c.fact 41 rfl))
  cases e
  have b_num : Binds K fd_num ["thing", "least", "most"] [] := F_num.bindsN fun _ _ _ _ _ _ us hl => match us, hl with | [_, _, _], _ => rfl
  have b_tri : Binds K fd_tri ["thing", "most"] [] := F_tri.bindsN fun _ _ _ _ _ _ us hl => match us, hl with | [_, _], _ => rfl
  have b_are : Binds K fd_are ["things"] [] := F_are.bindsN fun _ _ _ _ _ _ us hl => match us, hl with | [_], _ => rfl
  have b_vars : Binds K fd_vars ["atoms"] [] := F_vars.bindsN fun _ _ _ _ _ _ us hl => match us, hl with | [_], _ => rfl
  have b_text : Binds K fd_text ["atoms"] [] := F_text.bindsN fun _ _ _ _ _ _ us hl => match us, hl with | [_], _ => rfl
  have b_now : Binds K fd_now ["word"] [] := F_now.bindsN fun _ _ _ _ _ _ us hl => match us, hl with | [_], _ => rfl
  have b_aow : Binds K fd_aow ["word"] [] := F_aow.bindsN fun _ _ _ _ _ _ us hl => match us, hl with | [_], _ => rfl
  have b_read : Binds K fd_read ["cls", "text"] [] := F_read.bindsN fun _ _ _ _ _ _ us hl => match us, hl with | [_, _], _ => rfl
  have b_cell : Binds K fd_cell ["_law_script", "_law_index"] [] := F_cell.bindsN fun _ _ _ _ _ _ us hl => match us, hl with | [_, _], _ => rfl
  have b_source : Binds K fd_source ["_law_cell_here"] [] := F_source.bindsN fun _ _ _ _ _ _ us hl => match us, hl with | [_], _ => rfl
  have b_draw : Binds K fd_draw ["_law_source_here", "_law_many"] [] := F_draw.bindsN fun _ _ _ _ _ _ us hl => match us, hl with | [_, _], _ => rfl
  have b_choose : Binds K fd_choose ["_law_source_here", "_law_values"] [] := F_choose.bindsN fun _ _ _ _ _ _ us hl => match us, hl with | [_, _], _ => rfl
  have b_some : Binds K fd_some ["_law_source_here", "_law_most"] [] := F_some.bindsN fun _ _ _ _ _ _ us hl => match us, hl with | [_, _], _ => rfl
  have b_lwords : Binds K fd_lwords ["_law_atoms"] [] := F_lwords.bindsN fun _ _ _ _ _ _ us hl => match us, hl with | [_], _ => rfl
  have b_lq : Binds K fd_lq ["_law_atoms"] [] := F_lq.bindsN fun _ _ _ _ _ _ us hl => match us, hl with | [_], _ => rfl
  have b_qatoms : Binds K fd_qatoms ["self"] [] := F_qatoms.bindsN fun _ _ _ _ _ _ us hl => match us, hl with | [_], _ => rfl
  have b_cq : Binds K fd_cq ["thing"] [] := F_cq.bindsN fun _ _ _ _ _ _ us hl => match us, hl with | [_], _ => rfl
  have b_qwl : Binds K fd_qwl ["atoms"] [] := F_qwl.bindsN fun _ _ _ _ _ _ us hl => match us, hl with | [_], _ => rfl
  have b_qadd : Binds K fd_qadd ["self", "other"] [] := F_qadd.bindsN fun _ _ _ _ _ _ us hl => match us, hl with | [_, _], _ => rfl
  have b_qor : Binds K fd_qor ["self", "other"] [] := F_qor.bindsN fun _ _ _ _ _ _ us hl => match us, hl with | [_, _], _ => rfl
  have b_turned : Binds K fd_turned ["self"] [] := F_turned.bindsN fun _ _ _ _ _ _ us hl => match us, hl with | [_], _ => rfl
  have b_lnames : Binds K fd_lnames ["_law_atoms"] [] := F_lnames.bindsN fun _ _ _ _ _ _ us hl => match us, hl with | [_], _ => rfl
  have b_due : Binds K fd_due ["_law_atoms"] [] := F_due.bindsN fun _ _ _ _ _ _ us hl => match us, hl with | [_], _ => rfl
  have b_said : Binds K fd_said ["_law_deed"] [] := F_said.bindsN fun _ _ _ _ _ _ us hl => match us, hl with | [_], _ => rfl
  have sK : ∀ H : Hp, SqT K H (He.ga K "KINDS") [.str "A", .str "B", .str "C"] := fun H => He.tupB_ok (c.fact 23 rfl) H
  have T : Tx K mg := {
    isi := (He.free_ok X G (c.fact 0 rfl)), int := (He.free_ok X G (c.fact 1 rfl)), bool := (He.free_ok X G (c.fact 2 rfl)), str := (He.free_ok X G (c.fact 3 rfl)), tup := (He.free_ok X G (c.fact 4 rfl)), lst := (He.free_ok X G (c.fact 5 rfl)), len := (He.free_ok X G (c.fact 6 rfl)), all := (He.free_ok X G (c.fact 7 rfl)),
    sorted := (He.free_ok X G (c.fact 8 rfl)), repr := (He.free_ok X G (c.fact 9 rfl)), max := (He.free_ok X G (c.fact 10 rfl)), min := (He.free_ok X G (c.fact 11 rfl)), range := (He.free_ok X G (c.fact 12 rfl)),
    kinds := ⟨_, (He.glo_ok X G (c.fact 20 rfl)), sK⟩, mAtoms := (He.int_ok X G (c.fact 25 rfl)), mVar := (He.int_ok X G (c.fact 26 rfl)), sm := Option.isSome_iff_exists.mp (c.fact 24 rfl) }
  obtain ⟨x1, x2, x3, x4⟩ := He.exc_ok (c.fact 27 rfl)
  have TQ : QT K mg (He.ga K "Question") (He.ga K "NoAtoms") := {
    cl := He.cls_ok (c.fact 28 rfl), nG := He.noat_ok (c.fact 29 rfl), nO := He.noat_ok (c.fact 30 rfl), nU := He.noat_ok (c.fact 31 rfl),
    gN := (He.glo_ok X G (c.fact 21 rfl)), xN := x1, kN := x2, bN := x3, tN := x4 }
  have M := He.mkr_ok (c.fact 32 rfl)
  have G_tri := ok_tri (P := P) (w := w) (base := base) F_tri T F_num (He.glo_ok X G (c.fact 13 rfl))
  have G_are := ok_are (P := P) (w := w) (base := base) F_are T G_tri b_tri F_tri.kp (He.glo_ok X G (c.fact 14 rfl))
  have G_vars := ok_vars (P := P) (w := w) (mg := mg) (base := base) F_vars T
  have G_text := ok_text (P := P) (w := w) (mg := mg) (base := base) F_text T
  have G_init := ok_init (P := P) (w := w) (base := base) F_init T TQ G_are b_are F_are.kp (He.glo_ok X G (c.fact 15 rfl)) G_vars b_vars F_vars.kp (He.glo_ok X G (c.fact 16 rfl))
  have G_now := ok_now (P := P) (w := w) (mg := mg) (base := base) F_now T (He.int_ok X G (c.fact 33 rfl))
  have G_aow := ok_aow (P := P) (w := w) (base := base) F_aow G_now b_now F_now.kp (He.glo_ok X G (c.fact 18 rfl))
  have G_read := ok_read (P := P) (w := w) (base := base) F_read T M G_init G_aow b_aow F_aow.kp (He.glo_ok X G (c.fact 19 rfl)) G_are b_are F_are.kp (He.glo_ok X G (c.fact 15 rfl)) G_text b_text F_text.kp (He.glo_ok X G (c.fact 17 rfl))
  have cr := cr_ok (c.fact 34 rfl)
  have cm := cm_ok (c.fact 35 rfl)
  have G_cell := ok_cell (P := P) (w := w) (mg := mg) (base := base) F_cell T
  have G_source := ok_source (P := P) (w := w) (mg := mg) (base := base) F_source T
  have G_draw := ok_draw (P := P) (w := w) (mg := mg) (base := base) F_draw
  have G_choose := ok_choose (P := P) (w := w) (base := base) F_choose T G_draw b_draw F_draw.kp (He.glo_ok X G (c.fact 38 rfl))
  have G_eq := ok_eq (P := P) (w := w) (mg := mg) (base := base) F_eq T
  have G_chT := ok_chT (P := P) (w := w) (base := base) F_choose T G_draw b_draw F_draw.kp (He.glo_ok X G (c.fact 38 rfl))
  have G_chS := ok_chS (P := P) (w := w) (base := base) F_choose T G_draw b_draw F_draw.kp (He.glo_ok X G (c.fact 38 rfl))
  have G_some := ok_some (P := P) (w := w) (base := base) F_some T G_draw b_draw F_draw.kp (He.glo_ok X G (c.fact 38 rfl)) G_choose G_chT G_chS b_choose F_choose.kp (He.glo_ok X G (c.fact 39 rfl))
  have G_lwords := ok_lwords (P := P) (w := w) (mg := mg) (base := base) F_lwords T
  have GR : FnR P w K mg base CX0 6 _ (spQ (IRead (He.ga K "Question"))) := ((G_read.imp read_imp).raw b_read .nil).imp fun vs H Q E h => by rw [List.append_nil]; exact h
  have G_lq := ok_lq (P := P) (w := w) (base := base) F_lq (He.glo_ok X G (c.fact 22 rfl)) cr cm GR ⟨_, _, G_lwords, b_lwords, F_lwords.kp, (He.glo_ok X G (c.fact 43 rfl))⟩
  have G_qatoms := ok_atoms (P := P) (w := w) (base := base) F_qatoms TQ
  have hA := prop_ok (c.fact 45 rfl)
  obtain ⟨yT1, yT2, yT3, yT4⟩ := He.exc_ok (c.fact 46 rfl)
  have XxT : XT K mg "TooMuch" (He.ga K "TooMuch") := ⟨(He.glo_ok X G (c.fact 47 rfl)), yT1, yT2, yT3, yT4⟩
  have ic := isC1_ok (c.fact 48 rfl)
  have G_cq := ok_cq (P := P) (w := w) (base := base) F_cq T TQ ic (He.glo_ok X G (c.fact 22 rfl))
  have G_qwl := ok_qwl (P := P) (w := w) (base := base) F_qwl M G_init (He.glo_ok X G (c.fact 22 rfl)) XxT ⟨_, _, G_are.imp are_imp, b_are, F_are.kp, (He.glo_ok X G (c.fact 15 rfl))⟩
  have G_qadd := ok_qadd (P := P) (w := w) (base := base) F_qadd TQ ⟨_, _, G_cq, b_cq, F_cq.kp, (He.glo_ok X G (c.fact 49 rfl))⟩ G_qwl b_qwl F_qwl.kp (He.glo_ok X G (c.fact 50 rfl))
  have G_qor := ok_qor (P := P) (w := w) (base := base) F_qor TQ ⟨_, _, G_cq, b_cq, F_cq.kp, (He.glo_ok X G (c.fact 49 rfl))⟩ G_qwl b_qwl F_qwl.kp (He.glo_ok X G (c.fact 50 rfl))
  have G_turned := ok_turned (P := P) (w := w) (base := base) F_turned TQ M G_init (He.glo_ok X G (c.fact 22 rfl))
  have oA := op_ok (c.fact 51 rfl)
  have oO := op_ok (c.fact 52 rfl)
  have G_lnames := ok_lnames (P := P) (w := w) (mg := mg) (base := base) F_lnames T
  have G_due := ok_due (P := P) (w := w) (mg := mg) (base := base) F_due T
  exact ok_law F_law rc (hT _ (.head _)) T TQ ic ⟨_, _, G_cell, b_cell, F_cell.kp, (He.glo_ok X G (c.fact 36 rfl))⟩ ⟨_, _, G_source, b_source, F_source.kp, (He.glo_ok X G (c.fact 37 rfl))⟩ ⟨_, _, G_draw, b_draw, F_draw.kp, (He.glo_ok X G (c.fact 38 rfl))⟩ ⟨_, _, G_some, b_some, F_some.kp, (He.glo_ok X G (c.fact 42 rfl))⟩ ⟨_, _, G_lq, b_lq, F_lq.kp, (He.glo_ok X G (c.fact 44 rfl))⟩ ⟨_, _, G_lnames, b_lnames, F_lnames.kp, (He.glo_ok X G (c.fact 55 rfl))⟩ ⟨_, _, G_due, b_due, F_due.kp, (He.glo_ok X G (c.fact 56 rfl))⟩ F_said b_said F_said.kp (He.glo_ok X G (c.fact 57 rfl)) XxT.gN (He.glo_ok X G (c.fact 58 rfl)) (exm_ok (c.fact 54 rfl)) hA (G_qatoms.imp atoms_imp) b_qatoms oA G_qadd b_qadd oO G_qor b_qor (He.meth_ok (c.fact 53 rfl)) G_turned b_turned G_eq F_eq.kp (He.glo_ok X G (c.fact 40 rfl))
end Q
open PySem PySem.W PySem.Calls PyProof.Rows
theorem PySem.Challenge.cw_countalike_k62_questions_put_together_holds : PySem.Challenge.rw_countalike_k62_questions_put_together.Holds := by
  w_on; o_law
  refine HandSHeadRun.head_any (r := OpenLaw.row PySem.Challenge.rw_countalike_k62_questions_put_together) (q := view (OpenLaw.row PySem.Challenge.rw_countalike_k62_questions_put_together).prog [59]) (H := Q.hk) (ob := Q.ob) (M := 30000) (loose := Q.nms)
    (d := HandSHeadRun.topDef (OpenLaw.row PySem.Challenge.rw_countalike_k62_questions_put_together).prog 59) (kwd := []) Q.ob_eq
    (by kernel_rfl) (fun s => by kernel_rfl) Q.run (by kernel_rfl) (by kernel_rfl) (by kernel_rfl) (by rfl) (by first | assumption | decide +kernel) (by decide +kernel) ⟨rfl, rfl, rfl, rfl, rfl, by decide +kernel⟩ ?hw ?hc
  case hw => w_witness2
  case hc =>
    refine Ca.walk_ofGT (l := PySem.Challenge.rw_countalike_k62_questions_put_together) (n := 63) (k := 10) rfl (by decide) (by kernel_rfl) ⟨rfl, by decide, by decide⟩ ?F
    intro w mg fa h Y G hmg0
    obtain ⟨K, KX, c⟩ := Y
    have hmg : mg ("law" : PySem.Str) = some (.ref fa) := by
      have e : (HandSHeadRun.topDef (OpenLaw.row PySem.Challenge.rw_countalike_k62_questions_put_together).prog 59).name = ("law" : PySem.Str) := by kernel_rfl
      rw [← e]
      exact hmg0
    have e := hmg.symm.trans (He.glo_ok KX G (c.c.fact 41 rfl))
    cases e
    exact ⟨K, [Ca.ctD K Q.df_law], Q.spLaw K _, KX, fun p hp => by rw [List.mem_singleton.mp hp]; exact c.empty _ (.head _), fun p hp => by rw [List.mem_singleton.mp hp]; exact c.out _ (.head _), fun p hp => by rw [List.mem_singleton.mp hp]; exact c.hd _ (.head _),
      fun H a ns hl hT hS => ⟨a, ns, rfl, hS, hl, hT _ (.head _), fun _ => rfl⟩, Q.facts KX G hmg c.c (c.code _ (.head _))⟩

