import PyProof.Rows.All
import Wide.All
import OpenK.AllK
import Wide.FinOn
import PyProof.EqAt
import PyProof.EqKinds
import PyProof.TupleCall
import HandS.Base
import HandS.Call
import HandS.List
import HandS.Comp
import HandS.Set
import HandS.Strs
import HandS.SetBool
import HandS.Ends
import HandS.More
import HandS.Exc
import HandS.Star
import HandS.Defaults
import HandS.Words
import HandS.HeadEnd
import HandS.Dict
import HandS.IsInst
import KE.SortData
import PyProof.ReprRoads
import HandS.FStr
import HandS.Text
import HandS.StrMore
import HandS.Property
import HandS.ClsMeth
import HandS.Evl
import HandS.TryOnly
import HandS.TryMany
import HandS.ExcOwn
import HandS.WordsExc
import HandS.WordsList
import HandS.Wide
import HandS.TupAny
import HandS.Style
import HandS.Conv
import HandS.HeadHook1
import HandS.HeadHook2
import HandS.Flow
import PyProof.ReprLen
import HandS.Head0
import HandS.Head1
import HandS.Head2
import KE.KStateDown
import PySem.Challenge.RW_countalike_k09_what_is_no_question
set_option Elab.async false
set_option linter.all false
set_option maxRecDepth 100000
set_option maxHeartbeats 4000000
/-! a set comprehension of two clauses whose elements are ints -/
namespace Ca
open PySem PySem.Spec PyProof.Rows L2

abbrev sc2 (elt a0 b0 a1 b1 : Expr) (c0 c1 : List Expr) (scope : Scope) (pos : Pos) : Expr :=
  .SetComp elt [⟨a0, b0, c0, 0⟩, ⟨a1, b1, c1, 0⟩] scope pos
section
variable {prog : Program} {w : World} {A : Around} {R : Result → Shared → Prop} {s : Shared} {elt a0 b0 a1 b1 : Expr} {c0 c1 : List Expr}
  {scope : Scope} {pos : Pos} {it acc : Value} {env : Env}
abbrev Tst (M : Model) (A : Around) (env : Env) (cs : List Expr) (Q : Bool → Shared → Prop) (E : Value → Shared → Prop) (s : Shared) : Prop :=
  wpAny M A (forIn cs true fun c r => if r = true then do
      let ok ← isTrue c env (eval c env)
      pure (ForInStep.yield ok) else pure (ForInStep.yield r)) Q E s
theorem turn_outer : compTurn (sc2 elt a0 b0 a1 b1 c0 c1 scope pos) 0 it acc env = (do
      standAt b0.pos
      match ← pyNext it with
      | none => pure (.done .next)
      | some u =>
        letOwnedTupleGo a0 it u
        assign a0 env u
        let mut ok := true
        for c in c0 do
          if ok then ok ← isTrue c env (eval c env)
        if ok then
          let y ← eval b1 env
          standAt b1.pos
          let y ← foldedSetIterable b1 env y
          let _ ← runOwn (.compStart (sc2 elt a0 b0 a1 b1 c0 c1 scope pos) 1 (← holding [y] (pyIter y)) acc env) env
        again (.compLoop (sc2 elt a0 b0 a1 b1 c0 c1 scope pos) 0 it acc env)) := by rfl
theorem turn_inner : compTurn (sc2 elt a0 b0 a1 b1 c0 c1 scope pos) 1 it acc env = (do
      standAt b1.pos
      match ← pyNext it with
      | none => pure (.done .next)
      | some u =>
        letOwnedTupleGo a1 it u
        assign a1 env u
        let mut ok := true
        for c in c1 do
          if ok then ok ← isTrue c env (eval c env)
        if ok then
          (do let y ← eval elt env; standAt elt.pos; let _ ← call (.builtin "set.add") [acc, y])
        again (.compLoop (sc2 elt a0 b0 a1 b1 c0 c1 scope pos) 1 it acc env)) := by rfl
abbrev Nt (prog : Program) (w : World) (A : Around) (env : Env) (R : Result → Shared → Prop) : Value → Shared → Prop :=
  notedBy (model prog w) A env fun x s' => R (.error x) s'
theorem loop_outer (fs : ∀ x, foldedSetIterable b1 env x = pure x) (J : Nat → Shared → Prop)
    (turn : ∀ n s, J n s → wpAny (model prog w) A (pyNext it) (fun r s₁ => match r with
      | none => R (.ok .next) s₁
      | some u => wpAny (model prog w) A (letOwnedTupleGo a0 it u) (fun _ s₂ => wpAny (model prog w) A (assign a0 env u) (fun _ s₃ =>
          Tst (model prog w) A env c0 (fun ok s₄ => if ok = true then wpAny (model prog w) A (eval b1 env) (fun x s₅ =>
            wpAny (model prog w) A (pyIter x) (fun z s₆ => codeAny (model prog w) A (.compStart (sc2 elt a0 b0 a1 b1 c0 c1 scope pos) 1 z acc env)
              (fun r s' => match r with
                | .ok _ => ∃ m, m < n ∧ J m s'
                | .error _ => False) s₆) (Nt prog w A env R) s₅) (Nt prog w A env R) s₄
            else ∃ m, m < n ∧ J m s₄) (Nt prog w A env R) s₃) (Nt prog w A env R) s₂) (Nt prog w A env R) s₁) (Nt prog w A env R) s)
    (n : Nat) (h : J n s) : codeAny (model prog w) A (.compLoop (sc2 elt a0 b0 a1 b1 c0 c1 scope pos) 0 it acc env) R s := by
  refine codeAny_loop rfl J (fun n s hJ => ?_) n h
  show wpAny _ A ((compTurn (sc2 elt a0 b0 a1 b1 c0 c1 scope pos) 0 it acc env).onRaise (fun x => do noteFrame x env; theTreesLotGoes x)) _ _ s
  refine wpAny_noted ?_
  rw [turn_outer]
  refine wpAny_bind (wpAny_standAt (wpAny_bind (wpAny_mono (turn n s hJ) (fun r s₁ k₁ => ?_) fun _ _ z => z)))
  cases r with
  | none => exact wpAny_pure k₁
  | some u =>
    refine wpAny_bind (wpAny_mono k₁ (fun _ s₂ k₂ => ?_) fun _ _ z => z)
    refine wpAny_bind (wpAny_mono k₂ (fun _ s₃ k₃ => ?_) fun _ _ z => z)
    refine wpAny_bind (wpAny_mono k₃ (fun ok s₄ k₄ => ?_) fun _ _ z => z)
    cases ok with
    | false => exact wpAny_pure ⟨rfl, k₄⟩
    | true =>
      refine wpAny_bind (wpAny_mono k₄ (fun x s₅ k₅ => ?_) fun _ _ z => z)
      refine wpAny_bind (wpAny_standAt (wpAny_bind (wpAny_of_eq (fs x) (wpAny_bind (wpAny_holding (wpAny_mono k₅ (fun z s₆ k₆ => ?_) fun _ _ z => z))))))
      refine wpAny_bind (wpAny_runOwn ?_)
      rw [Around.mark_none]
      refine codeAny_mono k₆ fun r s' hr => ?_
      cases r with
      | error e => exact hr.elim
      | ok f => first | exact wpAny_pure ⟨rfl, hr⟩ | exact wpAny_bind (wpAny_pure (wpAny_pure ⟨rfl, hr⟩))
theorem loop_inner (J : Nat → Shared → Prop)
    (turn : ∀ n s, J n s → wpAny (model prog w) A (pyNext it) (fun r s₁ => match r with
      | none => R (.ok .next) s₁
      | some u => wpAny (model prog w) A (letOwnedTupleGo a1 it u) (fun _ s₂ => wpAny (model prog w) A (assign a1 env u) (fun _ s₃ =>
          Tst (model prog w) A env c1 (fun ok s₄ => if ok = true then wpAny (model prog w) A (eval elt env) (fun x s₅ =>
              wpAny (model prog w) A (call (.builtin "set.add") [acc, x]) (fun _ s₆ => ∃ m, m < n ∧ J m s₆) (Nt prog w A env R) s₅) (Nt prog w A env R) s₄
            else ∃ m, m < n ∧ J m s₄) (Nt prog w A env R) s₃) (Nt prog w A env R) s₂) (Nt prog w A env R) s₁) (Nt prog w A env R) s)
    (n : Nat) (h : J n s) : codeAny (model prog w) A (.compLoop (sc2 elt a0 b0 a1 b1 c0 c1 scope pos) 1 it acc env) R s := by
  refine codeAny_loop rfl J (fun n s hJ => ?_) n h
  show wpAny _ A ((compTurn (sc2 elt a0 b0 a1 b1 c0 c1 scope pos) 1 it acc env).onRaise (fun x => do noteFrame x env; theTreesLotGoes x)) _ _ s
  refine wpAny_noted ?_
  rw [turn_inner]
  refine wpAny_bind (wpAny_standAt (wpAny_bind (wpAny_mono (turn n s hJ) (fun r s₁ k₁ => ?_) fun _ _ z => z)))
  cases r with
  | none => exact wpAny_pure k₁
  | some u =>
    refine wpAny_bind (wpAny_mono k₁ (fun _ s₂ k₂ => ?_) fun _ _ z => z)
    refine wpAny_bind (wpAny_mono k₂ (fun _ s₃ k₃ => ?_) fun _ _ z => z)
    refine wpAny_bind (wpAny_mono k₃ (fun ok s₄ k₄ => ?_) fun _ _ z => z)
    cases ok with
    | false => exact wpAny_pure ⟨rfl, k₄⟩
    | true =>
      refine wpAny_bind (wpAny_bind (wpAny_mono k₄ (fun x s₅ k₅ => ?_) fun _ _ z => z))
      exact wpAny_bind (wpAny_standAt (wpAny_bind (wpAny_mono k₅ (fun _ s₆ k₆ => wpAny_pure (wpAny_pure ⟨rfl, k₆⟩)) fun _ _ z => z)))
theorem start_inner (h0 : codeAny (model prog w) A (.compLoop (sc2 elt a0 b0 a1 b1 c0 c1 scope pos) 1 it acc env) R s)
    (h : wpAny (model prog w) A (pyIter it) (fun z s' => codeAny (model prog w) A (.compLoop (sc2 elt a0 b0 a1 b1 c0 c1 scope pos) 1 z acc env) R s') (Nt prog w A env R) s) :
    codeAny (model prog w) A (.compStart (sc2 elt a0 b0 a1 b1 c0 c1 scope pos) 1 it acc env) R s := by
  refine codeAny_of_tree ?_
  show wpAny _ _ ((compStart (sc2 elt a0 b0 a1 b1 c0 c1 scope pos) 1 it acc env).onRaise (fun x => do noteFrame x env; standAt theWindowsPlace)) _ _ s
  refine wpAny_notedAt ?_
  unfold compStart
  show wpAny _ _ (ask >>= _) _ _ s
  refine wpAny_bind (wpAny_askSetting (wpAny_ite ?_))
  split
  · first | exact wpAny_bind (wpAny_pure (wpAny_pure (And.intro rfl h0))) | exact wpAny_pure (And.intro rfl h0)
  · refine wpAny_bind (wpAny_rule ?_)
    show wpAny _ _ (standAt b1.pos >>= _) _ _ s
    exact wpAny_bind (wpAny_standAt (wpAny_bind (wpAny_mono h (fun z s' k => wpAny_pure (And.intro rfl k)) fun _ _ x => x)))
end
end Ca

set_option maxHeartbeats 4000000
namespace Ca
open PySem PySem.Spec PyProof.Rows L2
/-- one more int in a set -/
def more (S : Int → Bool) (k : Int) : Int → Bool := fun j => S j || decide (j = k)
def cntS (S : Int → Bool) (n : Nat) (k : Int) : Nat := if S k = true then n else n + 1
section
variable {X : Cx}
/-- {elt for .. in .. for .. in ..}: D the new set of ints; vs all names of the block, us those of the second target -/
def tSc2 (w : World) (wi : TI) (g : TG) (tt : TT) (wj : TI) (g1 : TG) (tt1 : TT) (te : TE) (vs us : List Nat) : TE := fun σ H Q =>
  wi σ H fun J H1 => ∀ D, H1 D = none → ∃ W : Nat → Nat → Hp → Prop, (∃ m, W 0 m (upd H1 D (SetO w D (fun _ => false) 0))) ∧ ∀ i m H, W i m H →
    (J.stop i H ∧ Q (.ref D) H) ∨ (J.go i H ∧ ∃ Nx : Hp → Prop, (∀ H', Nx H' → ∃ m', m' < m ∧ W (i + 1) m' H') ∧
      ∀ x H', J.yld i H x H' → g x (wipe σ vs) H' fun σ2 H2 => wipe σ2 vs = wipe σ vs ∧ tt σ2 H2 fun b H3 =>
        if b = true then wj σ2 H3 fun J1 H4 => ∃ W1 : Nat → Nat → Hp → Prop, (∃ m, W1 0 m H4) ∧ ∀ j k H, W1 j k H →
          (J1.stop j H ∧ Nx H) ∨ (J1.go j H ∧ ∃ Nx1 : Hp → Prop, (∀ H', Nx1 H' → ∃ k', k' < k ∧ W1 (j + 1) k' H') ∧
            ∀ x H', J1.yld j H x H' → g1 x (wipe σ2 us) H' fun σ3 H5 => wipe σ3 us = wipe σ2 us ∧ tt1 σ3 H5 fun b H6 =>
              if b = true then te σ3 H6 fun y H7 => ∃ (k : Int) (S : Int → Bool) (n : Nat), y = .int k ∧ H7 D = some (SetO w D S n) ∧ n + 1 < scanBound ∧
                Nx1 (upd H7 D (SetO w D (more S k) (cntS S n k))) else Nx1 H6)
        else Nx H3)
/-- set.add of an int, as a raw call -/
theorem add_int {pins : List (Addr × Obj)} {σ : L2.St} {H : Hp} {s : Shared} {E : Value → Shared → Prop} {D : Addr} {S : Int → Bool} {n : Nat} {k : Int} {u : Value}
    {Q : Value → Shared → Prop} (I : Inv X pins σ H s) (hD : H D = some (SetO X.w D S n)) (room : n + 1 < scanBound) (ru : RelV (.int k) u)
    (h : ∀ s', Inv X pins σ (upd H D (SetO X.w D (more S k) (cntS S n k))) s' → Q .none s') : wpAny (model X.prog X.w) X.A (call (.builtin "set.add") [.ref D, u]) Q E s := by
  obtain ⟨tk, rfl⟩ := ru
  refine setR_add (setO_get I hD) room fun h' sb new => ?_
  have ex : ∃ u, h'.get? D = some u := by
    have ⟨o, _, _, _, ho, _⟩ := new
    exact ⟨o, ho⟩
  refine h _ (I.write (e := D) (t' := s.toks + 1) (by rw [hD]; trivial) (.inl rfl) (fun b u hb hu => ?_) ex (setO_new new))
  exact (sb.2 b hb).trans hu
abbrev eSet (w : World) : Obj := { cls := .type "set", dict := none, data := .set #[] 0 (.fresh 0 0 (!w.params.followText "set-order")) }
theorem pe_sc2 {elt a0 b0 a1 b1 : Expr} {c0 c1 : List Expr} {scope : Scope} {own : List (PySem.Str × Nat)} {us : List Nat} {pos : Pos} {wi wj : TI} {g g1 : TG} {tt tt1 : TT} {te : TE}
    (hc : X.calm = true) (hN : X.N.Nodup) (hi : PI X a0 b0 wi) (ok : BlkOk X.N X.env.scope scope own) (hv : ∀ i ∈ us, i ∈ own.map (·.2))
    (hg : ∀ (s : Shared) (H : Hp) (C : Addr) (cl : List (PySem.Str × Addr)) (fq : List Addr), PG (X.blk s H scope (compEnvC scope cl C X.env) fq) a0 g) (ht : ∀ (s : Shared) (H : Hp) (C : Addr) (cl : List (PySem.Str × Addr)) (fq : List Addr), PTs (X.blk s H scope (compEnvC scope cl C X.env) fq) c0 tt) (hj : ∀ (s : Shared) (H : Hp) (C : Addr) (cl : List (PySem.Str × Addr)) (fq : List Addr), PI (X.blk s H scope (compEnvC scope cl C X.env) fq) a1 b1 wj) (hg1 : ∀ (s : Shared) (H : Hp) (C : Addr) (cl : List (PySem.Str × Addr)) (fq : List Addr), PG (X.blk s H scope (compEnvC scope cl C X.env) fq) a1 g1)
    (ht1 : ∀ (s : Shared) (H : Hp) (C : Addr) (cl : List (PySem.Str × Addr)) (fq : List Addr), PTs (X.blk s H scope (compEnvC scope cl C X.env) fq) c1 tt1) (he : ∀ (s : Shared) (H : Hp) (C : Addr) (cl : List (PySem.Str × Addr)) (fq : List Addr), PE (X.blk s H scope (compEnvC scope cl C X.env) fq) elt te) (f0 : ∀ x, foldedSetIterable b0 X.env x = pure x := by intro _; rfl)
    (f1 : ∀ env x, foldedSetIterable b1 env x = pure x := by intro _ _; rfl) :
    PE X (sc2 elt a0 b0 a1 b1 c0 c1 scope pos) (tSc2 X.w wi g tt wj g1 tt1 te (own.map (·.2)) us) := by
  refine ⟨fun pins s σ H Q I h => ?_⟩
  rw [PpSet.eval_SetComp]
  have free : ∀ y ∈ scope.names, y.2 = .free → ∃ c, X.env.cells.lookup y.1 = some c := fun y hy e =>
    (ok.free y hy e).elim (fun k => I.ok.has _ (.inl k)) (fun k => I.ok.has _ (.inr k))
  refine wpAny_comprehension_free (use := none) rfl f0 (closure_ok free) ok.kind (fun y hy e => by rw [ok.uniq y hy, e]) ?_
  refine thn (hi.run pins s σ H _ I h) fun xv s1 hx => thn hx fun itv s2 h2 => ?_
  obtain ⟨it, fp, tn, J, H2, rfl, I2, T, st2, fpo, q⟩ := h2
  refine PpSet.newSet_ok (newEnv_comp ?_)
  generalize hD : s2.heap.objs.size = D
  obtain ⟨W, ⟨m0, w0⟩, turn⟩ := q D (I2.hok.fresh (Nat.le_of_eq hD))
  generalize hs3 : ({ s2 with heap := s2.heap.push (eSet X.w) } : Shared) = s3
  have e3 : s3.heap = s2.heap.push (eSet X.w) := by rw [← hs3]
  have I3 : Inv X pins σ (upd H2 D (SetO X.w D (fun _ => false) 0)) s3 := by
    subst hs3 hD
    exact I2.laid (t' := s2.toks) (fun b o e => Heap.get?_push_of_some _ e) (Nat.le_refl _) (setO_new (setR_fresh X.w))
  have low : ∀ b ∈ fp, b < s2.heap.objs.size := fun b hb =>
    let ⟨_, e, _⟩ := T.obj _ _ st2 b hb
    Heap.lt_size e
  have fpo3 : ∀ b ∈ fp, FpOk X pins (upd H2 D (SetO X.w D (fun _ => false) 0)) b ∧ b < s3.heap.objs.size := fun b hb => by
    have lt := low b hb
    refine ⟨⟨?_, (fpo b hb).2⟩, by rw [e3, Heap.size_push]; exact Nat.lt_succ_of_lt lt⟩
    rw [upd_ne (by subst hD; exact Nat.ne_of_lt lt)]
    exact (fpo b hb).1
  have st3 : tn 0 s3.heap := T.keep _ _ _ st2 fun b _ o e => by rw [e3]; exact Heap.get?_push_of_some _ e
  have I4 := block_start I3 ok hN fpo3
  generalize hcl : cellsFrom (s3.heap.objs.size + 1) scope.names (cloFrom X.env.cells scope.names []) = cl at I4 ⊢
  have qg := hg s3 (upd H2 D (SetO X.w D (fun _ => false) 0)) s3.heap.objs.size cl fp
  have qt := ht s3 (upd H2 D (SetO X.w D (fun _ => false) 0)) s3.heap.objs.size cl fp
  have qj := hj s3 (upd H2 D (SetO X.w D (fun _ => false) 0)) s3.heap.objs.size cl fp
  have qg1 := hg1 s3 (upd H2 D (SetO X.w D (fun _ => false) 0)) s3.heap.objs.size cl fp
  have qt1 := ht1 s3 (upd H2 D (SetO X.w D (fun _ => false) 0)) s3.heap.objs.size cl fp
  have qe := he s3 (upd H2 D (SetO X.w D (fun _ => false) 0)) s3.heap.objs.size cl fp
  have non3 : ∀ b ∈ fp, (upd H2 D (SetO X.w D (fun _ => false) 0)) b = none := fun b hb => (fpo3 b hb).1.1
  show codeAny _ _ (.compStart (sc2 elt a0 b0 a1 b1 c0 c1 scope pos) 0 (.ref it) (.ref D) (compEnvC scope cl s3.heap.objs.size X.env)) (compPost (model X.prog X.w) X.A X.xe none _ (.ref D) s3.heap.objs.size)
    { s3 with heap := pushCells (s3.heap.push { cls := .type "dict", data := .dict #[] }) scope.names }
  generalize hce : compEnvC scope cl s3.heap.objs.size X.env = ce at I4 qg qt qj qg1 qt1 qe ⊢
  have loc : ce.locals = s3.heap.objs.size := by subst hce; rfl
  generalize hH3 : upd H2 D (SetO X.w D (fun _ => false) 0) = H3 at I3 I4 qg qt qj qg1 qt1 qe w0 non3 fpo3
  generalize hs4 : ({ s3 with heap := pushCells (s3.heap.push { cls := .type "dict", data := .dict #[] }) scope.names } : Shared) = s4 at I4 ⊢
  have st4 : tn 0 s4.heap := T.keep _ _ _ st3 fun b _ o e => by
    subst hs4
    exact pushCells_keeps _ _ _ _ (Heap.get?_push_of_some _ e)
  let Y : Cx := X.blk s3 H3 scope ce fp
  have okFp : ∀ {σ' : L2.St} {H' : Hp} {s' : Shared}, Inv Y [] σ' H' s' → (∀ b ∈ fp, H' b = none) → ∀ b ∈ fp, FpOk Y [] H' b := fun {σ' H' s'} K hn b hb =>
    ⟨hn b hb, (K.ok.exf b hb).1, K.ok.exfs b hb, .inl hb, fun x c e => (K.ok.exf b hb).2 x c e,
      fun p hp => absurd (show p ∈ ([] : List (Addr × Obj)) ++ [] from hp) (by simp)⟩
  generalize hvs : own.map (·.2) = vs at turn hv I4
  have loop : codeAny (model X.prog X.w) X.A (.compLoop (sc2 elt a0 b0 a1 b1 c0 c1 scope pos) 0 (.ref it) (.ref D) ce)
      (compPost (model X.prog X.w) X.A X.xe none (EP X pins σ Q) (.ref D) s3.heap.objs.size) s4 := by
    refine loop_outer (f1 ce) (fun n s' => ∃ i H', Inv Y [] (wipe σ vs) H' s' ∧ tn i s'.heap ∧ (∀ b ∈ fp, H' b = none) ∧ W i n H') ?_ m0 ⟨0, H3, I4, st4, non3, w0⟩
    rintro n s5 ⟨i, H5, I5, st5, n5, w5⟩
    rcases turn i n H5 w5 with ⟨stop, fin⟩ | ⟨go, Nx, hNx, step⟩
    · refine thnF (T.done Y rfl rfl rfl hc i [] s5 _ H5 (fun _ _ => False) I5 (okFp I5 n5) st5 stop) fun r s6 ⟨hr, I6⟩ => ?_
      subst hr
      have I7 : Inv X pins σ H5 s6 := I3.call' (ch := fp) I6.os I6.base I6.hok I6.bare fun b hb =>
        ⟨(fpo3 b hb).1.2.2.2.1, (fpo3 b hb).1.2.1, (fpo3 b hb).1.2.2.2.2.1, (fpo3 b hb).1.2.2.2.2.2⟩
      have nC : H5 s3.heap.objs.size = none := by
        have z : H5 ce.locals = none := I6.free
        rwa [loc] at z
      obtain ⟨m, hm, _⟩ := I6.loc
      have hm : s6.heap.Ns ce.locals m := hm
      rw [loc] at hm
      obtain ⟨z0, z1, z2, z3, z4, z5⟩ := I3.fpOk (Nat.le_refl _) nC
      refine ⟨m, hm, fun h'' sb => ⟨.ref D, H5, I7.turned (t' := s6.toks) (fun b o hb e => ?_) z0 z1 z3 z4 z5, rfl, fin⟩⟩
      exact (sb.2 b hb).trans e
    · refine thnF (T.item Y rfl rfl rfl hc i [] s5 _ H5 (fun _ _ => False) I5 (okFp I5 n5) st5 go) fun r s6 ⟨u, hr, h6⟩ => ?_
      subst hr
      refine thnF h6 fun _ s7 ⟨x, H7, I7, r7, y7, st7, n7⟩ => ?_
      refine thnF (qg.run _ s7 _ H7 x u _ (I7.pinned (okFp I7 n7) (T.obj _ _ st7)) r7 (step x H7 y7)) fun _ s8 ⟨σ8, H8, I8, w8, q8⟩ => ?_
      refine thnF (qt.run _ s8 σ8 H8 _ I8 q8) fun b s9 ⟨H9, I9, q9⟩ => ?_
      have close : ∀ {τ : L2.St} {s' : Shared} {H' : Hp}, Inv Y ([] ++ pinsAt fp s7.heap) τ H' s' → (wipe σ vs).length = τ.length →
          (∀ (j : Nat) v, (wipe σ vs)[j]? = some (some v) → τ[j]? = some (some v)) → Nx H' →
          ∃ m, m < n ∧ ∃ i H', Inv Y [] (wipe σ vs) H' s' ∧ tn i s'.heap ∧ (∀ b ∈ fp, H' b = none) ∧ W i m H' := fun {τ s' H'} K hl hk nx => by
        obtain ⟨m', hm, w'⟩ := hNx H' nx
        have held : ∀ b ∈ fp, ∀ o, s7.heap.get? b = some o → s'.heap.get? b = some o ∧ H' b = none := fun b hb o e =>
          let z := K.pin (b, o) (List.mem_append_right _ (List.mem_append_right _ (mem_pinsAt hb e)))
          ⟨z.1, z.2.1⟩
        refine ⟨m', hm, i + 1, H', (K.unpinned (pins := [])).weak hl hk, T.keep _ _ _ st7 fun b hb o e => (held b hb o e).1, fun b hb => ?_, w'⟩
        obtain ⟨o, e, _⟩ := T.obj _ _ st7 b hb
        exact (held b hb o e).2
      have l8 : (wipe σ vs).length = σ8.length := by rw [← w8, wipe_length]
      have k8 : ∀ (j : Nat) v, (wipe σ vs)[j]? = some (some v) → σ8[j]? = some (some v) := fun j v e => by
        rw [← w8] at e
        exact (wipe_some e).1
      have k9 : ∀ (j : Nat) v, (wipe σ vs)[j]? = some (some v) → (wipe σ8 us)[j]? = some (some v) := fun j v e => by
        rw [← w8] at e
        obtain ⟨z1, z2⟩ := wipe_some e
        rw [wipe_out fun z => z2 (hv j z)]
        exact z1
      cases b with
      | false =>
        simp only [Bool.false_eq_true, if_false] at q9 ⊢
        exact close I9 l8 k8 q9
      | true =>
        simp only [if_true] at q9 ⊢
        refine thnF (qj.run _ s9 σ8 H9 _ I9 q9) fun xv s10 hx => thnF hx fun itv s11 h11 => ?_
        obtain ⟨it1, fq, tm, J1, H11, rfl, I11, T1, st11, fqo, W1, ⟨m1, w1⟩, turn1⟩ := h11
        have okFq : ∀ {H' : Hp}, (∀ b ∈ fq, H' b = none) → ∀ b ∈ fq, FpOk Y ([] ++ pinsAt fp s7.heap) H' b := fun hn b hb => ⟨hn b hb, (fqo b hb).2⟩
        have loop1 : codeAny (model X.prog X.w) X.A (.compLoop (sc2 elt a0 b0 a1 b1 c0 c1 scope pos) 1 (.ref it1) (.ref D) ce) (fun r s' => match r with
              | .ok _ => ∃ m, m < n ∧ ∃ i H', Inv Y [] (wipe σ vs) H' s' ∧ tn i s'.heap ∧ (∀ b ∈ fp, H' b = none) ∧ W i m H'
              | .error _ => False) s11 := by
          refine loop_inner (fun k s' => ∃ j H', Inv Y ([] ++ pinsAt fp s7.heap) (wipe σ8 us) H' s' ∧ tm j s'.heap ∧ (∀ b ∈ fq, H' b = none) ∧ W1 j k H') ?_ m1
            ⟨0, H11, I11.weak (wipe_length _ _) (fun j v e => (wipe_some e).1), st11, fun b hb => (fqo b hb).1, w1⟩
          rintro k s12 ⟨j, H12, I12, st12, n12, w12⟩
          rcases turn1 j k H12 w12 with ⟨stop1, nx1⟩ | ⟨go1, Nx1, hNx1, step1⟩
          · refine thnF (T1.done Y rfl rfl rfl hc j _ s12 (wipe σ8 us) H12 (fun _ _ => False) I12 (okFq n12) st12 stop1) fun r s13 ⟨hr, I13⟩ => ?_
            subst hr
            exact close I13 (l8.trans (wipe_length σ8 us).symm) k9 nx1
          · refine thnF (T1.item Y rfl rfl rfl hc j _ s12 (wipe σ8 us) H12 (fun _ _ => False) I12 (okFq n12) st12 go1) fun r s13 ⟨u1, hr, h13⟩ => ?_
            subst hr
            refine thnF h13 fun _ s14 ⟨x1, H14, I14, r14, y14, st14, n14⟩ => ?_
            refine thnF (qg1.run _ s14 (wipe σ8 us) H14 x1 u1 _ (I14.pinned (okFq n14) (T1.obj _ _ st14)) r14 (step1 x1 H14 y14)) fun _ s15 ⟨τ, H15, I15, w15, q15⟩ => ?_
            refine thnF (qt1.run _ s15 τ H15 _ I15 q15) fun b1 s16 ⟨H16, I16, q16⟩ => ?_
            have close1 : ∀ {s' : Shared} {H' : Hp}, Inv Y (([] ++ pinsAt fp s7.heap) ++ pinsAt fq s14.heap) τ H' s' → Nx1 H' →
                ∃ m, m < k ∧ ∃ j H', Inv Y ([] ++ pinsAt fp s7.heap) (wipe σ8 us) H' s' ∧ tm j s'.heap ∧ (∀ b ∈ fq, H' b = none) ∧ W1 j m H' := fun {s' H'} K nx => by
              obtain ⟨m', hm, w'⟩ := hNx1 H' nx
              have held : ∀ b ∈ fq, ∀ o, s14.heap.get? b = some o → s'.heap.get? b = some o ∧ H' b = none := fun b hb o e =>
                let z := K.pin (b, o) (List.mem_append_right _ (List.mem_append_right _ (mem_pinsAt hb e)))
                ⟨z.1, z.2.1⟩
              refine ⟨m', hm, j + 1, H', K.unpinned.weak (by rw [← w15, wipe_length]) (fun j v e => ?_), T1.keep _ _ _ st14 fun b hb o e => (held b hb o e).1, fun b hb => ?_, w'⟩
              · rw [← w15] at e
                exact (wipe_some e).1
              · obtain ⟨o, e, _⟩ := T1.obj _ _ st14 b hb
                exact (held b hb o e).2
            cases b1 with
            | false =>
              simp only [Bool.false_eq_true, if_false] at q16 ⊢
              exact close1 I16 q16
            | true =>
              simp only [if_true] at q16 ⊢
              refine thnF (qe.run _ s16 τ H16 _ I16 q16) fun z s17 ⟨yv, H17, I17, r17, k0, S0, n0, ey, d17, room, nx⟩ => ?_
              subst ey
              exact add_int (X := Y) I17 d17 room r17 fun s18 I18 => close1 I18 nx
        exact start_inner loop1 (T1.self X.A 0 _ _ _ st11 loop1)
  exact PpSet.codeAny_compStart_set loop (T.self X.A 0 _ _ _ st4 loop)
end
end Ca

set_option maxHeartbeats 4000000
/-! defs that are called where no repr is under way (the stack's guards are known to be none) -/
namespace Ca
open PySem PySem.Spec PyProof.Rows L2
def FnG (P : Program) (w : World) (K : PySem.W.Frag) (mg : PySem.Str → Option Value) (base : Heap) (CX : CXT) (k : Nat) (f : Addr) (sp : Sp) : Prop :=
  ∀ (A : Around) (outer : List Env) (s : Shared) (H : Hp) (us : List Value) (vs : List V) (Q : VK) (E : XK), A.guards = some [] → Room k A →
    Env0 P w K mg base A outer s H → Vals vs us → sp vs H Q E → codeAny (model P w) A (.call (.ref f) ⟨us, []⟩) (CR CX outer P w H s Q E) s
section
variable {P : Program} {w : World} {K : PySem.W.Frag} {mg : PySem.Str → Option Value} {base : Heap} {CX : CXT} {k : Nat} {f : Addr} {fd : FuncData} {sp : Sp}
  {name qual : PySem.Str} {params : Arguments} {body : List Stmt} {scope : Scope} {N ps : List PySem.Str}
theorem FnG.mono {j : Nat} (F : FnG P w K mg base CX j f sp) (h : j ≤ k) : FnG P w K mg base CX k f sp :=
  fun A outer s H us vs Q E hg hr => F A outer s H us vs Q E hg (hr.mono h)
theorem fng_of (F : FunD K name qual params body scope [] [] f fd) (S : FnScope N ps scope)
    (bd : ∀ (s : Shared) (us : List Value), us.length = ps.length → BindsTo s fd ⟨us, []⟩ (ps.zip us)) (len : ∀ vs H Q E, sp vs H Q E → vs.length = ps.length)
    (hbody : ∀ (cdv : Value) (A : Around) (outer : List Env) (s : Shared) (H : Hp) (vs : List V) (Q : VK) (E : XK), A.guards = some [] →
      Room k (A.deeper (envOfC qual scope s.heap.objs.size f cdv)) → sp vs H Q E →
      ∃ t, PSs (cxOf CX P w K mg base N qual scope f cdv A outer s H E) body t ∧ t { nx := fun _ H' => Q .non H', rt := Q } (start N vs) H) :
    FnG P w K mg base CX (k + 1) f sp := by
  obtain ⟨oc, od, dV, kV, doc, pm, an, cdv, ct, osl, rfl, lk, hcd, _, _⟩ := F.ex
  intro A outer s H us vs Q E hg hr e0 r hsp
  have l1 := len _ _ _ _ hsp
  have l2 : us.length = ps.length := by rw [← r.length]; exact l1
  refine StX.run_bnd (G := fun zs H2 => zs = vs ∧ H2 = H) lk hcd S hr e0 (fun A' Ex Q' h => ?_) fun s2 H2 zs ⟨e1, e2⟩ hr' => ?_
  · exact bd s us l2 _ _ _ _ (h s H vs us e0 (Un.kept fun _ _ e => e) rfl (fun _ _ z => z) r l1 ⟨rfl, rfl⟩)
  · subst e1 e2
    exact hbody cdv A outer s2 _ _ Q E hg hr' hsp
end
section
variable {X : Cx} {CX : CXT} {k : Nat} {f : Addr} {sp : Sp} {E : XK} {x : PySem.Str} {p pos : Pos} {e : Expr} {es : List Expr} {t : TA}
theorem run_fnG {pins : List (Addr × Obj)} {σ : L2.St} {H : Hp} {s : Shared} {Q : VK} {us : List Value} {vs : List V} (F : FnG X.prog X.w X.K X.mg X.base CX k f sp)
    (hg : X.A.guards = some []) (hr : Room k X.A) (hx : Passes CX X E) (I : Inv X pins σ H s) (r : Vals vs us) (h : sp vs H Q E) :
    wpAny (model X.prog X.w) X.A (call (.ref f) us) (EP X pins σ Q) X.xe s := by
  refine wpAny_call (codeAny_mono (F X.A X.stack s H us vs Q E hg hr I.env0 r h) fun r s' hq => ?_)
  cases r with
  | error e => exact hx pins σ H s e s' I hq
  | ok fl =>
    cases fl with
    | ret u => exact I.after hq
    | _ => exact False.elim hq
/-- f(e, ..) of such a def -/
theorem pe_callG (F : FnG X.prog X.w X.K X.mg X.base CX k f sp) (hg : X.A.guards = some []) (hr : Room k X.A) (hgl : Gl X x) (hm : X.mg x = some (.ref f)) (hk : PySem.W.keepIn X.K (.ref f) = true)
    (hx : Passes CX X E) (ha : PA X (e :: es) t) (hdb : (x == ("__debug__" : PySem.Str)) = false := by decide)
    (he : starEach (e :: es) X.env = (false, eval e X.env) :: starEach es X.env := by rfl) (hpl : (backTo pos (starEach es X.env)).any (·.1) = false := by rfl) :
    PE X (.Call (.Name x p) (e :: es) [] pos) (tCall sp [] E t) := by
  refine ⟨fun pins s σ H Q I h => wpAny_Call_Name_kw (ld_glob I hgl hm ?_ hdb)⟩
  refine PySem.W.callWith_K (h₀ := X.base) I.ok.mod.kin hk (thn (ha.run pos pins s σ H _ I h) fun us s1 ⟨vs, H1, I1, r, q⟩ => ⟨I1.kIn, ?_⟩) he hpl
  have q2 : sp (vs ++ []) H1 Q E := q
  rw [List.append_nil] at q2
  exact run_fnG F hg hr hx I1 r q2
end
/-! ### the law's own call -/
theorem law_callG {P : Program} {w : World} {K : PySem.W.Frag} {mg mb : PySem.Str → Option Value} {k : Nat} {fa a : Addr} {sp : Sp} {s₁ : Shared} {vs : List Value} {ns : List Int}
    (KX : K.In s₁.heap) (gns : s₁.heap.Ns mainGlobals mg) (bns : s₁.heap.Ns builtinsNs mb) (bb : ∀ x : PySem.Str, x ≠ "__name__" → mb x = bootBuiltins x) (lim : s₁.heap.NoLimit)
    (hgen : s₁.gens = #[]) (ha : s₁.heap.get? a = some { cls := .type "list", data := .seq vs.toArray }) (hi : IntsAre vs ns) (hl : ns.length ≤ sizeLine) (hr : Room k callerA)
    (F : ∀ base : Heap, K.In base → base.Ns mainGlobals mg → FnG P w K mg base CX0 k fa sp)
    (hsp : ∀ H : Hp, Only H → SqL K H a (ns.map V.int) → sp [.ref a] H (fun v _ => v = .bl true) fun _ _ _ => False) :
    codeAny (model P w) callerA (.call (.ref fa) ⟨[.ref a], []⟩) (fun r s' => r = .ok (.ret (.bool true)) ∧ OldK s₁.heap s'.heap ∧ s'.os = s₁.os ∧ AllBare s'.gens) s₁ := by
  have rv := vals_ints hi
  have lv := hi.length
  have main : ∀ H : Hp, Only H → SqL K H a (ns.map V.int) → HOk P w H s₁.heap → (∀ b, H b ≠ none → b = a) → (H a ≠ none → K.lookup a = none) →
      codeAny (model P w) callerA (.call (.ref fa) ⟨[.ref a], []⟩) (fun r s' => r = .ok (.ret (.bool true)) ∧ OldK s₁.heap s'.heap ∧ s'.os = s₁.os ∧ AllBare s'.gens) s₁ := by
    intro H only sq hok only_a inK
    have un_dict : ∀ {b : Addr} {o : Obj} {es : Array DictEntry} {ep : Nat}, s₁.heap.get? b = some o → o.data = .dict es ep → H b = none := fun {b o es ep} e d => by
      cases q : H b with
      | none => rfl
      | some u =>
        obtain rfl : b = a := only_a b (by rw [q]; simp)
        rw [ha] at e
        cases e
        cases (show Data.seq vs.toArray _ = Data.dict es ep from d)
    have ns_hid : ∀ {b : Addr} {m : PySem.Str → Option Value}, s₁.heap.Ns b m → (hidT s₁.heap H).Ns b m := fun {b m} ⟨o, es, ep, e, d, z⟩ =>
      ⟨o, es, ep, hidT_get e (un_dict e d), d, z⟩
    have kHid : K.In (hidT s₁.heap H) := fun b o e => by
      refine hidT_get (KX b o e) ?_
      cases q : H b with
      | none => rfl
      | some u =>
        obtain rfl : b = a := only_a b (by rw [q]; simp)
        rw [inK (by rw [q]; simp)] at e
        cases e
    have md : Mod K mg (hidT s₁.heap H) := ⟨kHid, ns_hid gns, ⟨mb, ns_hid bns, bb⟩, let ⟨mc, h1, h2⟩ := lim; ⟨mc, ns_hid h1, h2⟩⟩
    have env : Env0 P w K mg (hidT s₁.heap H) callerA [] s₁ H := ⟨rfl, md, fun b o e => of_hidT e, Nat.le_of_eq (hidT_size _ _), trivial,
      fun b hb => absurd (show b ∈ ([] : List Addr) from hb) (by simp), hok, .of_eq hgen⟩
    refine codeAny_mono (F _ kHid (ns_hid gns) callerA [] s₁ H [.ref a] [.ref a] _ _ rfl hr env (.cons rfl .nil) (hsp H only sq)) fun r s' h => ?_
    cases r with
    | error e => exact False.elim h
    | ok fl =>
      cases fl with
      | next => exact False.elim h
      | brk => exact False.elim h
      | cont => exact False.elim h
      | ret u =>
        obtain ⟨v, H', os, bare, un, hok', r', q⟩ := h
        obtain rfl : v = .bl true := q
        obtain rfl : u = Value.bool true := r'
        refine ⟨rfl, OldK.of_keep fun b o e => ?_, os, bare⟩
        cases q : H b with
        | none => exact un.keep b o e q (fun z => absurd (show b ∈ ([] : List Addr) from z) (by simp)) (by simp)
        | some u =>
          rcases only b with z | ⟨ob, xs, z⟩
          · rw [q] at z
            cases z
          · obtain ⟨e1, _⟩ := hok b _ z
            obtain ⟨e2, _⟩ := hok' b _ (un.frzs b ob _ z)
            rw [e] at e1
            cases e1
            exact e2
  cases hk : K.lookup a with
  | some o =>
    have e := KX a o hk
    rw [ha] at e
    cases e
    refine main (fun _ => none) (fun _ => .inl rfl) (.inr ⟨_, vs.toArray, _, hk, rfl, rfl, rfl, ?_, by simpa using rv⟩) (fun b u z => ?_) (fun b z => absurd rfl z) fun z => absurd rfl z
    · rw [List.size_toArray, lv]
      exact hl
    · cases (show (none : Option HO) = some u from z)
  | none =>
    let oa : Obj := { cls := .type "list", data := .seq vs.toArray }
    refine main (fun b => if b = a then some (.frz oa (.lst (ns.map V.int))) else none) (fun b => ?_) (.inl (.inr ⟨oa, if_pos rfl⟩)) (fun b u z => ?_) (fun b z => ?_) fun _ => hk
    · by_cases hb : b = a
      · exact .inr ⟨_, _, if_pos hb⟩
      · exact .inl (if_neg hb)
    · by_cases hb : b = a
      · cases (if_pos hb).symm.trans z
        subst hb
        refine ⟨ha, ?_, vs, _, rv, ha⟩
        rw [List.length_map]
        exact hl
      · cases (if_neg hb).symm.trans z
    · by_cases hb : b = a
      · exact hb
      · exact absurd (if_neg hb) z
theorem walk_ofG {l : PySem.W.OpenLaw} {n k : Nat} {q : Program} {loose : List PySem.Str} {XP : (PySem.Str → Option Value) → Heap → Prop} {YP : World → Heap → Prop} {d : DefRec}
    (hn : l.most = some n) (hn2 : n ≤ sizeLine) (hdf : d.params.defaults = []) (hr : Room k callerA)
    (F : ∀ (w : World) (mg : PySem.Str → Option Value) (fa : Addr) (h : Heap), YP w h → h.Ns mainGlobals mg → mg d.name = some (.ref fa) →
      ∃ (K : PySem.W.Frag) (sp : Sp), K.In h ∧ (∀ (H : Hp) (a : Addr) (ns : List Int), ns.length ≤ n → Only H → SqL K H a (ns.map V.int) →
          sp [.ref a] H (fun v _ => v = .bl true) fun _ _ _ => False) ∧ ∀ base : Heap, K.In base → base.Ns mainGlobals mg → FnG l.prog w K mg base CX0 k fa sp) :
    PySem.W.WalkO q loose XP YP l.row.toRowW d [] (fun f vs => PySem.call f vs) := by
  refine Att.attach_call hn hdf fun w s₀ s₁ mg mb fa o pm cd doc a vs ns G Y ho hd hcd hmg hobj hints hlen hg => ?_
  obtain ⟨K, sp, KX, hsp, hF⟩ := F w mg fa _ Y G.T.g hmg
  exact law_callG KX G.T.g G.T.b G.T.builtins G.T.nolimit hg hobj hints (Nat.le_trans hlen hn2) hr hF fun H hO hS => hsp H a ns hlen hO hS
end Ca

set_option maxHeartbeats 4000000
/-! values that read as data, and rules over them -/
namespace Ca
open PySem PySem.Spec PyProof.Rows L2
mutual
/-- v reads as d off the tracked objects -/
inductive Rp (H : Hp) : V → PyData → Prop
  | non : Rp H .non .none
  | bl (b : Bool) : Rp H (.bl b) (.bool b)
  | int (i : Int) : Rp H (.int i) (.int i)
  | str (x : PySem.Str) : Rp H (.str x) (.str x)
  | lst {a : Addr} {xs : List V} {ds : List PyData} (h : H a = some (.lst xs)) (r : RpA H xs ds) : Rp H (.ref a) (.list ds)
  | tup {a : Addr} {xs : List V} {ds : List PyData} (h : H a = some (.tup xs)) (r : RpA H xs ds) : Rp H (.ref a) (.tuple ds)
  | dic {a : Addr} (h : H a = some (.dK [])) : Rp H (.ref a) (.dict [])
inductive RpA (H : Hp) : List V → List PyData → Prop
  | nil : RpA H [] []
  | cons {v : V} {vs : List V} {d : PyData} {ds : List PyData} (h : Rp H v d) (r : RpA H vs ds) : RpA H (v :: vs) (d :: ds)
end
section
variable {H H' : Hp}
mutual
theorem Rp.mono (e : Same H H') : ∀ {d : PyData} {v : V}, Rp H v d → Rp H' v d
  | _, _, .non => .non
  | _, _, .bl b => .bl b
  | _, _, .int i => .int i
  | _, _, .str x => .str x
  | _, _, .lst h r => .lst (e _ _ h) (RpA.mono e r)
  | _, _, .tup h r => .tup (e _ _ h) (RpA.mono e r)
  | _, _, .dic h => .dic (e _ _ h)
theorem RpA.mono (e : Same H H') : ∀ {ds : List PyData} {vs : List V}, RpA H vs ds → RpA H' vs ds
  | _, _, .nil => .nil
  | _, _, .cons h r => .cons (Rp.mono e h) (RpA.mono e r)
end
theorem RpA.length : ∀ {vs : List V} {ds : List PyData}, RpA H vs ds → vs.length = ds.length
  | _, _, .nil => rfl
  | _, _, .cons _ r => by rw [List.length_cons, List.length_cons, r.length]
theorem RpA.get : ∀ {vs : List V} {ds : List PyData} {i : Nat} {v : V}, RpA H vs ds → vs[i]? = some v → ∃ d, ds[i]? = some d ∧ Rp H v d
  | _, _, _, _, .nil, e => by simp at e
  | _, _, 0, v, .cons h _, e => by
    cases (show some _ = some v from e)
    exact ⟨_, rfl, h⟩
  | _, _, i + 1, v, .cons _ r, e => by
    obtain ⟨d, h1, h2⟩ := RpA.get (i := i) r (by simpa using e)
    exact ⟨d, by simpa using h1, h2⟩
theorem RpA.at : ∀ {vs : List V} {ds : List PyData} {i : Nat} {d : PyData}, RpA H vs ds → ds[i]? = some d → ∃ v, vs[i]? = some v ∧ Rp H v d
  | _, _, _, _, .nil, e => by simp at e
  | _, _, 0, d, .cons h _, e => by
    cases (show some _ = some d from e)
    exact ⟨_, rfl, h⟩
  | _, _, i + 1, d, .cons _ r, e => by
    obtain ⟨v, h1, h2⟩ := RpA.at (i := i) r (by simpa using e)
    exact ⟨v, by simpa using h1, h2⟩
theorem RpA.append : ∀ {vs ws : List V} {ds es : List PyData}, RpA H vs ds → RpA H ws es → RpA H (vs ++ ws) (ds ++ es)
  | _, _, _, _, .nil, s => s
  | _, _, _, _, .cons h r, s => .cons h (RpA.append r s)
theorem RpA.take : ∀ {vs : List V} {ds : List PyData} (n : Nat), RpA H vs ds → RpA H (vs.take n) (ds.take n)
  | _, _, 0, _ => .nil
  | _, _, _ + 1, .nil => .nil
  | _, _, n + 1, .cons h r => .cons h (RpA.take n r)
theorem RpA.drop : ∀ {vs : List V} {ds : List PyData} (n : Nat), RpA H vs ds → RpA H (vs.drop n) (ds.drop n)
  | _, _, 0, r => r
  | _, _, _ + 1, .nil => .nil
  | _, _, n + 1, .cons _ r => RpA.drop n r
/-- the class that a datum has -/
def tyD : PyData → String
  | .none => "NoneType"
  | .bool _ => "bool"
  | .int _ => "int"
  | .str _ => "str"
  | .list _ => "list"
  | .tuple _ => "tuple"
  | .dict _ => "dict"
theorem Rp.ty {K : PySem.W.Frag} {v : V} {d : PyData} (h : Rp H v d) : TyX K H v (.type (tyD d)) := by
  cases h with
  | non => exact .base .non
  | bl b => exact .base (.bl b)
  | int i => exact .base (.int i)
  | str x => exact .base (.str x)
  | lst h r => exact .base (.lst h)
  | tup h r => exact .base (.tup h)
  | dic h => exact .base (.dK h)
theorem Rp.isI {v : V} {d : PyData} (h : Rp H v d) {i : Int} (e : d = .int i) : v = .int i := by
  subst e; cases h; rfl
theorem Rp.isS {v : V} {d : PyData} (h : Rp H v d) {x : PySem.Str} (e : d = .str x) : v = .str x := by
  subst e; cases h; rfl
theorem Rp.isB {v : V} {d : PyData} (h : Rp H v d) {b : Bool} (e : d = .bool b) : v = .bl b := by
  subst e; cases h; rfl
end
section
variable {X : Cx} {pins : List (Addr × Obj)} {σ : L2.St} {H : Hp} {s : Shared}
mutual
theorem Rp.reads (I : Inv X pins σ H s) (sm : ∃ o, X.K.lookup sysModules = some o) : ∀ (d : PyData) (v : V) (u : Value), Rp H v d → RelV v u → ∃ as, Reads s.heap u d as ∧ sysModules ∉ as
  | .none, _, _, h, r => by
    cases h
    cases r
    exact ⟨_, Reads.none, by simp⟩
  | .bool b, _, _, h, r => by
    cases h
    cases r
    exact ⟨_, Reads.bool b, by simp⟩
  | .int i, _, _, h, r => by
    cases h
    obtain ⟨t, rfl⟩ := r
    exact ⟨_, Reads.int i t, by simp⟩
  | .str x, _, _, h, r => by
    cases h
    obtain ⟨t, rfl⟩ := r
    exact ⟨_, Reads.str x t, by simp⟩
  | .list ds, _, _, h, r => by
    cases h with
    | @lst a xs _ h q =>
      cases r
      obtain ⟨_, its, n, rv, ho⟩ := (show ObjOk X.prog X.w H s.heap a (.lst xs) from I.hok a _ h)
      obtain ⟨as, hr, hn⟩ := Rp.readsA I sm ds _ its q rv
      refine ⟨_, Reads.list ho rfl rfl (by simpa using hr), fun z => ?_⟩
      rcases List.mem_cons.mp z with z | z
      · obtain ⟨o, e⟩ := sm
        rw [← z, (I.bs sysModules o (I.ok.mod.kin _ _ e)).2] at h
        cases h
      · exact hn z
  | .tuple ds, _, _, h, r => by
    cases h with
    | @tup a xs _ h q =>
      cases r
      obtain ⟨_, its, rv, o, ho, hc, n, hd⟩ := (show ObjOk X.prog X.w H s.heap a (.tup xs) from I.hok a _ h)
      obtain ⟨as, hr, hn⟩ := Rp.readsA I sm ds _ its q rv
      exact ⟨_, Reads.tuple ho hc hd (by simpa using hr), hn⟩
  | .dict kvs, _, _, h, r => by
    cases h with
    | @dic a h =>
      cases r
      obtain ⟨_, hs, vs, kv, o, es, ep, ho, hx, hd, _, hp, _⟩ := (show ObjOk X.prog X.w H s.heap a (.dK []) from I.hok a _ h)
      cases kv
      have ee : es.toList = [] := by
        generalize es.toList = l at hp
        cases l with
        | nil => rfl
        | cons e l => cases hp
      refine ⟨_, Reads.dict (kvs := []) ho hx.1 hd (by rw [ee]; exact .nil) (by rw [ee]; exact .nil), fun z => ?_⟩
      have z2 : sysModules = a := by simpa using z
      rw [z2] at hs
      simp at hs
theorem Rp.readsA (I : Inv X pins σ H s) (sm : ∃ o, X.K.lookup sysModules = some o) : ∀ (ds : List PyData) (vs : List V) (us : List Value), RpA H vs ds → Vals vs us → ∃ as, ReadsAll s.heap us ds as ∧ sysModules ∉ as
  | [], _, _, h, r => by
    cases h
    cases r
    exact ⟨_, .nil, by simp⟩
  | d :: ds, _, _, h, r => by
    cases h with
    | cons h1 h2 =>
      cases r with
      | cons r1 r2 =>
        obtain ⟨as, q1, n1⟩ := Rp.reads I sm d _ _ h1 r1
        obtain ⟨bs, q2, n2⟩ := Rp.readsA I sm ds _ _ h2 r2
        refine ⟨_, .cons q1 q2, fun z => ?_⟩
        rcases List.mem_append.mp z with z | z
        · exact n1 z
        · exact n2 z
end
end
end Ca

set_option maxHeartbeats 4000000
namespace Ca
open PySem PySem.Spec PyProof.Rows L2
mutual
theorem reads_lt {h : Heap} : ∀ {u : Value} {d : PyData} {as : List Addr}, Reads h u d as → ∀ {x : Addr}, x ∈ as → x < h.objs.size
  | _, _, _, .none, x, z => by simp at z
  | _, _, _, .bool _, x, z => by simp at z
  | _, _, _, .int _ _, x, z => by simp at z
  | _, _, _, .str _ _, x, z => by simp at z
  | _, _, _, .list ho _ _ r, x, z => by
    rcases List.mem_cons.mp z with z | z
    · rw [z]
      exact Heap.lt_size ho
    · exact readsA_lt r z
  | _, _, _, .tuple ho _ _ r, x, z => readsA_lt r z
  | _, _, _, .dict ho _ _ r1 r2, x, z => by
    rcases List.mem_append.mp z with z | z
    · rcases List.mem_cons.mp z with z | z
      · rw [z]
        exact Heap.lt_size ho
      · exact readsA_lt r1 z
    · exact readsA_lt r2 z
theorem readsA_lt {h : Heap} : ∀ {us : List Value} {ds : List PyData} {as : List Addr}, ReadsAll h us ds as → ∀ {x : Addr}, x ∈ as → x < h.objs.size
  | _, _, _, .nil, x, z => by simp at z
  | _, _, _, .cons r1 r2, x, z => by
    rcases List.mem_append.mp z with z | z
    · exact reads_lt r1 z
    · exact readsA_lt r2 z
end
section
variable {X : Cx}
/-- repr(x) of data -/
def rRepr : List V → Hp → VK → Prop := fun xs H Q => ∃ x d, xs = [x] ∧ Rp H x d ∧ d.showable = true ∧ d.depth ≤ 60 ∧ d.shown.length ≤ sizeLine ∧ Q (.str d.shown) H
theorem call_repr {k : Nat} (sm : ∃ o, X.K.lookup sysModules = some o) (hg : X.A.guards = some []) (hr : Room k X.A) : CallR X (.builtin "repr") rRepr := by
  intro pins s σ H xs us Q I r h
  obtain ⟨x, d, rfl, rp, hs, hdp, hz, q⟩ := h
  have hu : X.A.units + 64 < cLine := hr.units
  cases r with
  | @cons _ u _ _ r1 rt =>
    cases rt
    obtain ⟨as, rd, hn⟩ := Rp.reads I sm d x u rp r1
    have fin : ∀ (h' : Heap) (tk : Tok) (t2 : Nat), (∀ b o, s.heap.get? b = some o → h'.get? b = some o) → EP X pins σ Q (.str d.shown tk) { s with heap := h', toks := t2 } := fun h' tk t2 k =>
      ⟨.str d.shown, H, I.kept (t' := t2) k, ⟨tk, rfl⟩, q⟩
    cases rp with
    | non =>
      obtain rfl : u = Value.none := r1
      exact P.repr_of_none (fin _ _ _ fun _ _ e => e)
    | bl b =>
      obtain rfl : u = Value.bool b := r1
      exact P.repr_of_bool (fin _ _ _ fun _ _ e => e)
    | int i =>
      obtain ⟨t, rfl⟩ := (show ∃ t, u = Value.int i t from r1)
      refine P.repr_of_int ?_ (fin _ _ _ fun _ _ e => e)
      simpa [PyData.showable] using hs
    | str y =>
      obtain ⟨t, rfl⟩ := (show ∃ t, u = Value.str y t from r1)
      exact P.repr_of_str (fin _ _ _ fun _ _ e => e) hz
    | lst h q =>
      cases (show u = Value.ref _ from r1)
      exact repr_of_reads' rd hs (fun _ => hn) hg (by omega) (fun _ _ e => e) (fun h' u tk k => fin h' u tk k) hz
    | tup h q =>
      cases (show u = Value.ref _ from r1)
      exact repr_of_reads' rd hs (fun _ => hn) hg (by omega) (fun _ _ e => e) (fun h' u tk k => fin h' u tk k) hz
    | dic h =>
      cases (show u = Value.ref _ from r1)
      exact repr_of_reads' rd hs (fun _ => hn) hg (by omega) (fun _ _ e => e) (fun h' u tk k => fin h' u tk k) hz
/-- len(x) of an own instance -/
def rLenO (C : Addr) (sp : Sp) : List V → Hp → VK → Prop := fun xs H Q => ∃ a dx fs, xs = [.ref a] ∧ H a = some (.ins C dx fs) ∧
  sp [.ref a] H (fun v H' => ∃ n : Int, v = .int n ∧ 0 ≤ n ∧ n < 2 ^ 63 ∧ Q (.int n) H') E0
theorem call_lenO {C f : Addr} {k : Nat} {fd : FuncData} {sp : Sp} (hs : PySem.W.findIn X.K (.ref C) "__len__" = some (some (.ref f))) (hf : PySem.W.isFn X.K (.ref f) = true)
    (F : FnOk X.prog X.w X.K X.mg X.base CX0 k f fd ["self"] sp) (hb : Binds X.K fd ["self"] []) (hr : Room (k + 1) X.A) : CallR X (.builtin "len") (rLenO C sp) := by
  intro pins s σ H xs us Q I r h
  obtain ⟨a, dx, fs, rfl, ha, q⟩ := h
  cases r with
  | @cons _ u _ _ r1 rt =>
    cases rt
    cases (show u = Value.ref a from r1)
    obtain ⟨mA, O, _⟩ := ins_get I.hok ha
    obtain ⟨od, J, _⟩ := O.look
    obtain ⟨m, fr⟩ := I.fr
    refine PySem.W.len_K fr I.ok.mod.kin J hs hf ?_
    have r2 : Vals [V.ref a] [Value.ref a] := .cons rfl .nil
    refine wpAny_call (codeAny_mono (F.run X.A.in1 X.stack s H ⟨[.ref a], []⟩ [.ref a] [.ref a] _ E0 hr.in1 I.env0.in1 (hb s [.ref a] I.kIn (by simp)) r2 q) fun r s' hq => ?_)
    cases r with
    | error e => exact False.elim hq
    | ok fl =>
      cases fl with
      | ret u =>
        obtain ⟨v, H', J', rv, n, rfl, h0, h1, q2⟩ := I.after hq
        obtain ⟨t, rfl⟩ := rv
        exact ⟨⟨h0, h1⟩, .int n, H', J'.tok _, ⟨_, rfl⟩, q2⟩
      | _ => exact False.elim hq
/-- sorted(x), x a list or a tuple of alike data: bs the items with what they read as -/
def sortD (bs : List (V × PyData)) : List (V × PyData) := bs.mergeSort (PySem.W.dataLe false Prod.snd)
def rSortD : List V → Hp → VK → Prop := fun xs H Q => ∃ (a : Addr) (bs : List (V × PyData)), xs = [.ref a] ∧ (H a = some (.lst (bs.map Prod.fst)) ∨ H a = some (.tup (bs.map Prod.fst))) ∧
  (∀ b ∈ bs, Rp H b.1 b.2) ∧ PySem.W.AllAlike (bs.map Prod.snd) ∧ PySem.W.Sortable (bs.map Prod.snd) ∧ (∀ b ∈ bs, b.2.depth ≤ 60) ∧ bs.length ≤ sizeLine ∧
  ∀ p, H p = none → Q (.ref p) (upd H p (.lst ((sortD bs).map Prod.fst)))
theorem each_of : ∀ {bs : List (V × PyData)} {us : List Value}, Vals (bs.map Prod.fst) us → PySem.W.EachIs (fun (u : Value) (b : V × PyData) => RelV b.1 u) us bs
  | [], _, .nil => .nil
  | _ :: _, _, .cons r t => .cons r (each_of t)
theorem of_each : ∀ {bs : List (V × PyData)} {us : List Value}, PySem.W.EachIs (fun (u : Value) (b : V × PyData) => RelV b.1 u) us bs → Vals (bs.map Prod.fst) us
  | [], _, .nil => .nil
  | _ :: _, _, .cons r t => .cons r (of_each t)
theorem each_rd {pins : List (Addr × Obj)} {σ : L2.St} {H : Hp} {s : Shared} (I : Inv X pins σ H s) (sm : ∃ o, X.K.lookup sysModules = some o) {h' : Heap} {l : Addr} (hl : s.heap.objs.size ≤ l)
    (kp : ∀ b o, s.heap.get? b = some o → h'.get? b = some o) : ∀ {bs : List (V × PyData)} {us : List Value}, (∀ b ∈ bs, Rp H b.1 b.2) → Vals (bs.map Prod.fst) us →
    PySem.W.EachIs (fun (u : Value) (b : V × PyData) => ∃ as, Reads h' u b.2 as ∧ l ∉ as) us bs
  | [], _, _, .nil => .nil
  | b :: bs, _, h, .cons r t => by
    obtain ⟨as, rd, _⟩ := Rp.reads I sm b.2 b.1 _ (h b (.head _)) r
    refine .cons ⟨as, PyProof.Rows.Reads.keeps kp rd, fun z => ?_⟩ (each_rd I sm hl kp (fun c hc => h c (.tail _ hc)) t)
    exact absurd (reads_lt rd z) (Nat.not_lt.mpr hl)
theorem cr_sortD {k : Nat} (sm : ∃ o, X.K.lookup sysModules = some o) (hr : Room k X.A) : CallR X (.builtin "sorted") rSortD := by
  intro pins s σ H xs us Q I r h
  obtain ⟨a, bs, rfl, ha, hrp, hal, hso, hdp, hlen, q⟩ := h
  have hu : X.A.units + 64 < cLine := hr.units
  rw [Vals.ref1 r]
  obtain ⟨T, hT, its, o, n, rv, ho, hc, hd⟩ : ∃ T, (T = "list" ∨ T = "tuple") ∧ ∃ (its : List Value) (o : Obj) (n : Nat), Vals (bs.map Prod.fst) its ∧ s.heap.get? a = some o ∧ o.cls = .type T ∧ o.data = .seq its.toArray n := by
    rcases ha with ha | ha
    · obtain ⟨_, its, n, rv, ho⟩ := (show ObjOk X.prog X.w H s.heap a (.lst (bs.map Prod.fst)) from I.hok a _ ha)
      exact ⟨"list", .inl rfl, its, _, n, rv, ho, rfl, rfl⟩
    · obtain ⟨_, its, rv, o, ho, hc, n, hd⟩ := (show ObjOk X.prog X.w H s.heap a (.tup (bs.map Prod.fst)) from I.hok a _ ha)
      exact ⟨"tuple", .inr rfl, its, o, n, rv, ho, hc, hd⟩
  have li : its.length = bs.length := by rw [← rv.length, List.length_map]
  refine Calls.call_function_entry kind_sorted plain_sorted entry_sorted (args_sorted1 _) ?_
  unfold Builtin.«sorted»
  refine wpAny_bind (m := checkCount "sorted" 1 1 _) (wpAny_pure ?_)
  refine wpAny_bind (wpAny_collect_seq a hT ho hc hd (fun h1 k1 => ?_) (by rw [List.size_toArray, li]; exact hlen))
  refine wpAny_bind (wpAny_newList ?_ (by simpa [li] using hlen))
  have I1 : Inv X pins σ H { s with heap := h1 } := I.kept (t' := s.toks) k1
  have kp : ∀ b o, h1.get? b = some o → (h1.push (seqObj "list" its.toArray 0)).get? b = some o := fun b o e => Heap.get?_push_of_some _ e
  have hL : (h1.push (seqObj "list" its.toArray 0)).get? h1.objs.size = some (seqObj "list" its.toArray 0) := Heap.get?_push_size _ rfl
  have er := each_rd (l := h1.objs.size) I1 sm (Nat.le_refl _) kp hrp rv
  show wpAny (model X.prog X.w) X.A.in1 _ _ _ { s with heap := h1.push (seqObj "list" its.toArray 0) }
  refine wpAny_bind (wpAny_holding (PySem.W.list_sort_data (bs := bs) (enc := Prod.snd) (R := fun (u : Value) (b : V × PyData) => RelV b.1 u) (vs := its) (n := 0) hL (each_of rv) er hal hso hlen
    (fun b hb => ?_) fun out ho1 ho2 => wpAny_pure ⟨_, rfl, ?_⟩))
  · have z := hdp b hb
    show X.A.units + 1 + 1 + b.2.depth < cLine
    omega
  · have vo := of_each ho2
    have hn : H h1.objs.size = none := I1.hok.fresh (Nat.le_refl _)
    have old : ∀ b o, h1.get? b = some o → (sortedHeap (h1.push (seqObj "list" its.toArray 0)) h1.objs.size its out.toArray).get? b = some o := fun b o e => by
      have lt := Heap.lt_size e
      rw [sortedHeap_old (Nat.ne_of_lt lt) (by rw [size_push']; exact Nat.lt_succ_of_lt lt)]
      exact kp b o e
    obtain ⟨c, hat⟩ := sortedHeap_at (out := out.toArray) hL
    have lo : ((sortD bs).map Prod.fst).length ≤ sizeLine := by
      rw [List.length_map]
      unfold sortD
      rw [List.length_mergeSort]
      exact hlen
    exact ⟨.ref h1.objs.size, upd H h1.objs.size (.lst ((sortD bs).map Prod.fst)), I1.laid (t' := s.toks) old (Nat.le_refl _) ⟨lo, out, c, vo, hat⟩, rfl, q _ hn⟩
end
end Ca

set_option maxHeartbeats 4000000
namespace Ca
open PySem PySem.Spec PyProof.Rows L2
/-- the heap without what stands at D -/
def off (D : Addr) (H : Hp) : Hp := fun a => if a = D then none else H a
theorem off_ne {D a : Addr} {H : Hp} (h : a ≠ D) : off D H a = H a := if_neg h
theorem off_same {D : Addr} {H : Hp} : Same (off D H) H := fun b o e => by
  unfold off at e
  split at e
  · cases e
  · exact e
theorem off_mono {D : Addr} {H H' : Hp} (h : Same H H') : Same (off D H) (off D H') := fun b o e => by
  unfold off at e ⊢
  split at e
  · cases e
  · rename_i hb
    rw [if_neg hb]
    exact h b o e
theorem off_upd {D : Addr} {H : Hp} {o : HO} : off D (upd H D o) = off D H := by
  funext b
  unfold off
  split
  · rfl
  · rename_i hb
    exact upd_ne hb
theorem same_new {H : Hp} {D : Addr} {o : HO} (h : H D = none) : Same H (upd H D o) := fun b u e => by
  rw [upd_ne (ne_of_none e h)]
  exact e
theorem same_mut {H H' : Hp} {D : Addr} {o : HO} (s : Same H H') (h : H D = none) : Same H (upd H' D o) := fun b u e => by
  rw [upd_ne (ne_of_none e h)]
  exact s b u e
/-- what is kept of the items so far -/
abbrev keptD (F : PyData → Option PyData) (l : List PyData) : List PyData := l.filterMap F
theorem keptD_app (F : PyData → Option PyData) (a b : List PyData) : keptD F (a ++ b) = keptD F a ++ keptD F b := List.filterMap_append ..
theorem keptD_len (F : PyData → Option PyData) (l : List PyData) : (keptD F l).length ≤ l.length := List.length_filterMap_le ..
theorem keptD_map (f : PyData → PyData) (l : List PyData) : keptD (fun d => some (f d)) l = l.map f := by
  induction l with
  | nil => rfl
  | cons d l ih =>
    show List.filterMap _ (d :: l) = _
    rw [List.filterMap_cons]
    show f d :: List.filterMap _ l = _
    rw [show List.filterMap (fun d => some (f d)) l = l.map f from ih]
    rfl
theorem take_more {α : Type} : ∀ {l : List α} {i : Nat} {x : α}, l[i]? = some x → l.take (i + 1) = l.take i ++ [x]
  | [], i, x, h => by simp at h
  | a :: l, 0, x, h => by
    cases (show some a = some x from h)
    rfl
  | a :: l, i + 1, x, h => by
    have ih := take_more (l := l) (i := i) (x := x) (by simpa using h)
    show a :: l.take (i + 1) = (a :: l.take i) ++ [x]
    rw [ih]
    rfl
/-- one more item appended at D -/
def Ap (D : Addr) (Nx : Hp → Prop) (y : V) (H : Hp) : Prop := ∃ acc, H D = some (.lst acc) ∧ acc.length < sizeLine ∧ Nx (upd H D (.lst (acc ++ [y])))
/-- a turn of a comprehension: item x reads as d; what is appended reads as F d (nothing where F d is none) -/
abbrev LcTurn (σ : L2.St) (vs : List Nat) (g : TG) (tt : TT) (te : TE) (D : Addr) (H : Hp) (ds : List PyData) (F : PyData → Option PyData) : Prop :=
  ∀ (x : V) (d : PyData) (H' : Hp) (Nx : Hp → Prop), d ∈ ds → Same H H' → H' D ≠ none → Rp (off D H') x d →
    (∀ (y : V) (e : PyData) (H4 : Hp), F d = some e → Same H' H4 → Rp (off D H4) y e → Ap D Nx y H4) → (F d = none → ∀ H4, Same H' H4 → Nx H4) →
    g x (wipe σ vs) H' fun σ2 H2 => wipe σ2 vs = wipe σ vs ∧ tt σ2 H2 fun b H3 => if b = true then te σ2 H3 (Ap D Nx) else Nx H3
abbrev LcInv (H : Hp) (D : Addr) (ds : List PyData) (F : PyData → Option PyData) (i : Nat) (H' : Hp) : Prop :=
  Same H H' ∧ ∃ acc, H' D = some (.lst acc) ∧ RpA (off D H') acc (keptD F (ds.take i))
section
variable {K : PySem.W.Frag} {a D : Addr} {xs : List V} {ds : List PyData} {H : Hp} {σ : L2.St} {vs : List Nat} {g : TG} {tt : TT} {te : TE} {F : PyData → Option PyData} {Qd : Hp → Prop}
theorem lc_turn (hD : H D = none) (r : RpA H xs ds) (hz : ds.length ≤ 1000) (ht : LcTurn σ vs g tt te D H ds F) : ∀ i x H', xs[i]? = some x → LcInv H D ds F i H' →
    g x (wipe σ vs) H' fun σ2 H2 => wipe σ2 vs = wipe σ vs ∧ tt σ2 H2 fun b H3 => if b = true then te σ2 H3 fun y H4 => ∃ acc, H4 D = some (.lst acc) ∧ acc.length < sizeLine ∧
      LcInv H D ds F (i + 1) (upd H4 D (.lst (acc ++ [y]))) else LcInv H D ds F (i + 1) H3 := by
  intro i x H' hi ⟨s, acc, hacc, ra⟩
  obtain ⟨d, hd, rx⟩ := r.get hi
  have e1 : ds.take (i + 1) = ds.take i ++ [d] := take_more hd
  have kD : Same H (off D H') := fun b o e => by
    rw [off_ne (ne_of_none e hD)]
    exact s b o e
  refine ht x d H' (LcInv H D ds F (i + 1)) (List.mem_of_getElem? hd) s (by rw [hacc]; simp) (rx.mono kD) (fun y e H4 hF s4 ry => ?_) (fun hF H4 s4 => ?_)
  · refine ⟨acc, s4 _ _ hacc, ?_, ?_⟩
    · have l1 := ra.length
      have l2 := keptD_len F (ds.take i)
      have l3 : (ds.take i).length ≤ 1000 := by rw [List.length_take]; omega
      have : acc.length ≤ 1000 := by omega
      exact small1000 this
    · refine ⟨same_mut (s.trans s4) hD, _, upd_same, ?_⟩
      rw [off_upd, e1, keptD_app]
      have e2 : keptD F [d] = [e] := by simp [keptD, hF]
      rw [e2]
      exact (ra.mono (off_mono s4)).append (.cons ry .nil)
  · refine ⟨s.trans s4, acc, s4 _ _ hacc, ?_⟩
    have e2 : keptD F [d] = [] := by simp [keptD, hF]
    rw [e1, keptD_app, e2, List.append_nil]
    exact ra.mono (off_mono s4)
theorem lc_fin (r : RpA H xs ds) (hq : ∀ H' acc, Same H H' → H' D = some (.lst acc) → RpA (off D H') acc (keptD F ds) → Qd H') : ∀ H', LcInv H D ds F xs.length H' → Qd H' := by
  intro H' ⟨s, acc, h1, h2⟩
  rw [r.length, List.take_length] at h2
  exact hq H' acc s h1 h2
theorem lc_ini (hD : H D = none) : LcInv H D ds F 0 (upd H D (.lst [])) := ⟨same_new hD, [], upd_same, .nil⟩
/-- what a comprehension's reading asks behind its source -/
abbrev LcW (J : It) (σ : L2.St) (vs : List Nat) (g : TG) (tt : TT) (te : TE) (H1 : Hp) (D : Addr) (Qd : Hp → Prop) : Prop :=
  ∃ W : Nat → Nat → Hp → Prop, (∃ m, W 0 m (upd H1 D (.lst []))) ∧ ∀ i m H, W i m H → (J.stop i H ∧ Qd H) ∨ (J.go i H ∧ ∃ Nx : Hp → Prop,
    (∀ H', Nx H' → ∃ m', m' < m ∧ W (i + 1) m' H') ∧ ∀ x H', J.yld i H x H' → g x (wipe σ vs) H' fun σ2 H2 => wipe σ2 vs = wipe σ vs ∧ tt σ2 H2 fun b H3 =>
      if b = true then te σ2 H3 fun y H4 => ∃ acc, H4 D = some (.lst acc) ∧ acc.length < sizeLine ∧ Nx (upd H4 D (.lst (acc ++ [y]))) else Nx H3)
/-- over a tuple, a list -/
theorem lcT (hx : H a = some (.tup xs)) (r : RpA H xs ds) (hz : ds.length ≤ 1000) (hD : H D = none) (ht : LcTurn σ vs g tt te D H ds F)
    (hq : ∀ H' acc, Same H H' → H' D = some (.lst acc) → RpA (off D H') acc (keptD F ds) → Qd H') : LcW (Itt K a) σ vs g tt te H D Qd :=
  lc_tup (LcInv H D ds F) (lc_ini hD) (fun i H' _ p => .inl (.inl (p.1 _ _ hx))) (lc_turn hD r hz ht) (lc_fin r hq)
theorem lcL (hx : H a = some (.lst xs)) (r : RpA H xs ds) (hz : ds.length ≤ 1000) (hD : H D = none) (ht : LcTurn σ vs g tt te D H ds F)
    (hq : ∀ H' acc, Same H H' → H' D = some (.lst acc) → RpA (off D H') acc (keptD F ds) → Qd H') : LcW (Itl K a) σ vs g tt te H D Qd :=
  lc_list (LcInv H D ds F) (lc_ini hD) (fun i H' _ p => .inl (.inl (p.1 _ _ hx))) (lc_turn hD r hz ht) (lc_fin r hq)
end
end Ca

set_option maxHeartbeats 4000000
namespace Q
open PySem PySem.Spec PyProof.Rows L2 Ca
theorem bIsi : bootBuiltins "isinstance" = some (.builtin "isinstance") := by decide +kernel
theorem bInt : bootBuiltins "int" = some (.type "int") := by decide +kernel
theorem bBool : bootBuiltins "bool" = some (.type "bool") := by decide +kernel
theorem bStr : bootBuiltins "str" = some (.type "str") := by decide +kernel
theorem bTup : bootBuiltins "tuple" = some (.type "tuple") := by decide +kernel
theorem bLst : bootBuiltins "list" = some (.type "list") := by decide +kernel
theorem bLen : bootBuiltins "len" = some (.builtin "len") := by decide +kernel
theorem bAll : bootBuiltins "all" = some (.builtin "all") := by decide +kernel
theorem bSorted : bootBuiltins "sorted" = some (.builtin "sorted") := by decide +kernel
theorem bRepr : bootBuiltins "repr" = some (.builtin "repr") := by decide +kernel
theorem bMax : bootBuiltins "max" = some (.builtin "max") := by decide +kernel
theorem bMin : bootBuiltins "min" = some (.builtin "min") := by decide +kernel
/-! ### the text -/
def top (i : Nat) : Stmt := PySem.Challenge.pw_countalike_k09_what_is_no_question.main.body.getD i (.Pass ⟨0, 0, 0, 0⟩)
abbrev FnP (K : PySem.W.Frag) (x : PySem.Str) (st : Stmt) (f : Addr) (fd : FuncData) : Prop := FunD K x x (defArgs st) (defBody st) (defScope st) [] [] f fd
abbrev FnM (K : PySem.W.Frag) (x q : PySem.Str) (st : Stmt) (f : Addr) (fd : FuncData) : Prop := FunD K x q (defArgs st) (defBody st) (defScope st) [] [] f fd
/-- the built-in names that the text does not bind, the module's constants -/
structure Tx (K : PySem.W.Frag) (mg : PySem.Str → Option Value) : Prop where
  isi : mg "isinstance" = none
  int : mg "int" = none
  bool : mg "bool" = none
  str : mg "str" = none
  tup : mg "tuple" = none
  lst : mg "list" = none
  len : mg "len" = none
  all : mg "all" = none
  sorted : mg "sorted" = none
  repr : mg "repr" = none
  max : mg "max" = none
  min : mg "min" = none
  range : mg "range" = none
  kinds : ∃ a, mg "KINDS" = some (.ref a) ∧ ∀ H : Hp, SqT K H a [.str "A", .str "B", .str "C"]
  mAtoms : ∃ t, mg "MOST_ATOMS" = some (.int 4 t)
  mVar : ∃ t, mg "MOST_VARIABLE" = some (.int 9 t)
  sm : ∃ o, K.lookup sysModules = some o
/-! ### is_number -/
abbrev s_is_number : Stmt := top 4
def isNum (d : PyData) (lo hi : Int) : Bool := match d with
  | .int i => decide (lo ≤ i) && decide (i ≤ hi)
  | _ => false
def spNum : Sp := fun vs H Q _ => ∃ v d lo hi, vs = [v, .int lo, .int hi] ∧ Rp H v d ∧ Q (.bl (isNum d lo hi)) H
theorem sc_num : FnScope ["thing", "least", "most"] ["thing", "least", "most"] (defScope s_is_number) := ⟨rfl, rfl, rfl, by decide +kernel, rfl, by decide +kernel, by decide +kernel⟩
section
variable {P : Program} {w : World} {K : PySem.W.Frag} {mg : PySem.Str → Option Value} {base : Heap}
/-- isinstance(x, T) of data -/
def isInt : PyData → Bool
  | .int _ => true
  | .bool _ => true
  | _ => false
def isBool : PyData → Bool
  | .bool _ => true
  | _ => false
def isTup : PyData → Bool
  | .tuple _ => true
  | _ => false
def isStr : PyData → Bool
  | .str _ => true
  | _ => false
theorem kInt {K : PySem.W.Frag} : ∀ d : PyData, PySem.W.kitOne K (.type (tyD d)) (.type "int") = some (isInt d)
  | .none => kit_ty (show kitB "NoneType" "int" = some false by decide +kernel)
  | .bool _ => kit_ty (show kitB "bool" "int" = some true by decide +kernel)
  | .int _ => kit_ty (show kitB "int" "int" = some true by decide +kernel)
  | .str _ => kit_ty (show kitB "str" "int" = some false by decide +kernel)
  | .list _ => kit_ty (show kitB "list" "int" = some false by decide +kernel)
  | .tuple _ => kit_ty (show kitB "tuple" "int" = some false by decide +kernel)
  | .dict _ => kit_ty (show kitB "dict" "int" = some false by decide +kernel)
theorem kBool {K : PySem.W.Frag} : ∀ d : PyData, PySem.W.kitOne K (.type (tyD d)) (.type "bool") = some (isBool d)
  | .none => kit_ty (show kitB "NoneType" "bool" = some false by decide +kernel)
  | .bool _ => kit_ty (show kitB "bool" "bool" = some true by decide +kernel)
  | .int _ => kit_ty (show kitB "int" "bool" = some false by decide +kernel)
  | .str _ => kit_ty (show kitB "str" "bool" = some false by decide +kernel)
  | .list _ => kit_ty (show kitB "list" "bool" = some false by decide +kernel)
  | .tuple _ => kit_ty (show kitB "tuple" "bool" = some false by decide +kernel)
  | .dict _ => kit_ty (show kitB "dict" "bool" = some false by decide +kernel)
theorem kTup {K : PySem.W.Frag} : ∀ d : PyData, PySem.W.kitOne K (.type (tyD d)) (.type "tuple") = some (isTup d)
  | .none => kit_ty (show kitB "NoneType" "tuple" = some false by decide +kernel)
  | .bool _ => kit_ty (show kitB "bool" "tuple" = some false by decide +kernel)
  | .int _ => kit_ty (show kitB "int" "tuple" = some false by decide +kernel)
  | .str _ => kit_ty (show kitB "str" "tuple" = some false by decide +kernel)
  | .list _ => kit_ty (show kitB "list" "tuple" = some false by decide +kernel)
  | .tuple _ => kit_ty (show kitB "tuple" "tuple" = some true by decide +kernel)
  | .dict _ => kit_ty (show kitB "dict" "tuple" = some false by decide +kernel)
theorem kStr {K : PySem.W.Frag} : ∀ d : PyData, PySem.W.kitOne K (.type (tyD d)) (.type "str") = some (isStr d)
  | .none => kit_ty (show kitB "NoneType" "str" = some false by decide +kernel)
  | .bool _ => kit_ty (show kitB "bool" "str" = some false by decide +kernel)
  | .int _ => kit_ty (show kitB "int" "str" = some false by decide +kernel)
  | .str _ => kit_ty (show kitB "str" "str" = some true by decide +kernel)
  | .list _ => kit_ty (show kitB "list" "str" = some false by decide +kernel)
  | .tuple _ => kit_ty (show kitB "tuple" "str" = some false by decide +kernel)
  | .dict _ => kit_ty (show kitB "dict" "str" = some false by decide +kernel)
theorem ok_num {f : Addr} {fd : FuncData} (F : FnP K "is_number" s_is_number f fd) (T : Tx K mg) : FnOk P w K mg base CX0 1 f fd ["thing", "least", "most"] spNum := by
  refine F.ok sc_num (fun vs H Q E h => ?_) (fun cdv A outer s H vs Q E hr h => ?_)
  · obtain ⟨v, d, lo, hi, rfl, _⟩ := h
    rfl
  · obtain ⟨v, d, lo, hi, rfl, rp, q⟩ := h
    refine ⟨_, PSs.nox (pss_one (ps_ret (pe_and (pe_callB call_isi (by rfl) T.isi bIsi (pa_cons (pv 0) (pa_cons (pe_bltn (v := .ty "int") (by rfl) T.int bInt rfl) pa_nil)))
      (pe_and (pe_not (pe_callB call_isi (by rfl) T.isi bIsi (pa_cons (pv 0) (pa_cons (pe_bltn (v := .ty "bool") (by rfl) T.bool bBool rfl) pa_nil))))
        (pe_one (pe_chain op_le op_le (pv 1) (pv 0) (pv 2))))))), ?_⟩
    refine ⟨_, rfl, _, _, _, _, _, rfl, .ty _, rp.ty, kInt d, _, rfl, ?_⟩
    cases hi1 : isInt d with
    | false =>
      refine iteF ?_
      have e : isNum d lo hi = false := by cases d <;> first | rfl | cases hi1
      rw [e] at q
      exact q
    | true =>
      refine iteT ⟨_, rfl, _, _, _, _, _, rfl, .ty _, rp.ty, kBool d, _, rfl, _, rfl, ?_⟩
      cases hb1 : isBool d with
      | true =>
        have e : isNum d lo hi = false := by cases d <;> first | rfl | cases hb1
        rw [e] at q
        exact iteF q
      | false =>
        refine iteT ?_
        cases rp with
        | int i =>
          refine ⟨_, rfl, _, rfl, lo, i, rfl, rfl, decide (lo ≤ i), rfl, ?_⟩
          by_cases c : lo ≤ i
          · have e : isNum (.int i) lo hi = decide (i ≤ hi) := by simp [isNum, c]
            rw [e] at q
            rw [decide_eq_true c]
            exact iteT ⟨_, rfl, i, hi, rfl, rfl, q⟩
          · have e : isNum (.int i) lo hi = false := by simp [isNum, c]
            rw [e] at q
            rw [decide_eq_false c]
            exact iteF q
        | bl b => cases hb1
        | _ => cases hi1
end
end Q

set_option maxHeartbeats 4000000
namespace Q
open PySem PySem.Spec PyProof.Rows L2 Ca
/-! ### is_triple -/
abbrev s_is_triple : Stmt := top 5
def kindOk (k : PySem.Str) : Bool := inV (.str k) [.str "A", .str "B", .str "C"]
def isTri (d : PyData) (m : Int) : Bool := match d with
  | .tuple [.str k, l, r] => kindOk k && (isNum l 0 m && isNum r 0 m)
  | _ => false
theorem isTri_tup {ds : List PyData} {m : Int} (h : ds.length ≠ 3) : isTri (.tuple ds) m = false := by
  match ds, h with
  | [], _ => rfl
  | [a], _ => cases a <;> rfl
  | [a, b], _ => cases a <;> rfl
  | [a, b, c], h => exact absurd rfl h
  | a :: b :: c :: e :: r, _ => cases a <;> rfl
theorem isTri_not {d : PyData} {m : Int} (h : isTup d = false) : isTri d m = false := by
  cases d <;> first | rfl | cases h
theorem isTri_kind {k l r : PyData} {m : Int} (h : isStr k = false) : isTri (.tuple [k, l, r]) m = false := by
  cases k <;> first | rfl | cases h
def spTri : Sp := fun vs H Q _ => ∃ v d m, vs = [v, .int m] ∧ Rp H v d ∧ Q (.bl (isTri d m)) H
theorem sc_tri : FnScope ["thing", "most", "kind", "left", "right"] ["thing", "most"] (defScope s_is_triple) := ⟨rfl, rfl, rfl, by decide +kernel, rfl, by decide +kernel, by decide +kernel⟩
section
variable {P : Program} {w : World} {K : PySem.W.Frag} {mg : PySem.Str → Option Value} {base : Heap}
theorem ok_tri {f fN : Addr} {fd fdN : FuncData} (F : FnP K "is_triple" s_is_triple f fd) (T : Tx K mg) (FN : FnP K "is_number" s_is_number fN fdN) (gN : mg "is_number" = some (.ref fN)) :
    FnOk P w K mg base CX0 2 f fd ["thing", "most"] spTri := by
  have GN : FnOk P w K mg base CX0 1 fN fdN ["thing", "least", "most"] spNum := ok_num FN T
  have bN : Binds K fdN ["thing", "least", "most"] [] := FN.bindsN fun _ _ _ _ _ _ us hl => match us, hl with | [_, _, _], _ => rfl
  obtain ⟨aK, gK, sK⟩ := T.kinds
  refine F.ok sc_tri (fun vs H Q E h => ?_) (fun cdv A outer s H vs Q E hr h => ?_)
  · obtain ⟨v, d, m, rfl, _⟩ := h
    rfl
  · obtain ⟨v, d, m, rfl, rp, q⟩ := h
    refine ⟨_, PSs.nox (pss_cons (ps_if (PW.pt (pw_or (pt_not (pt_val (pe_callB call_isi (by rfl) T.isi bIsi (pa_cons (pv 0) (pa_cons (pe_bltn (v := .ty "tuple") (by rfl) T.tup bTup rfl) pa_nil)))))
        (pw_or1 (pt_cmpR op_ne (pe_callB call_len_seq (by rfl) T.len bLen (pa_cons (pv 0) pa_nil)) pe_int (nomark _))))) (pss_one (ps_ret pe_bl)) pss_nil)
      (pss_cons (ps_asg (pv 0) (pg_tup (by rfl) (pgs_cons (pg_name (i := 2) sc_tri.nd rfl (.inl rfl)) (pgs_cons (pg_name (i := 3) sc_tri.nd rfl (.inl rfl)) (pgs_cons (pg_name (i := 4) sc_tri.nd rfl (.inl rfl)) pgs_nil)))))
      (pss_cons (ps_if (PW.pt (pw_or (pt_not (pt_val (pe_callB call_isi (by rfl) T.isi bIsi (pa_cons (pv 2) (pa_cons (pe_bltn (v := .ty "str") (by rfl) T.str bStr rfl) pa_nil)))))
        (pw_or1 (pt_cmpR op_notIn_seq (pv 2) (pe_glob (v := .ref aK) rfl gK rfl) (by rfl))))) (pss_one (ps_ret pe_bl)) pss_nil)
      (pss_one (ps_ret (pe_and (pe_call GN hr rfl gN FN.kp bN .nil pass0 (pa_cons (pv 3) (pa_cons pe_int (pa_cons (pv 1) pa_nil))))
        (pe_one (pe_call GN hr rfl gN FN.kp bN .nil pass0 (pa_cons (pv 4) (pa_cons pe_int (pa_cons (pv 1) pa_nil)))))))))) ), ?_⟩
    refine ⟨_, rfl, _, _, _, _, _, rfl, .ty _, rp.ty, kTup d, _, rfl, ?_⟩
    cases hT : isTup d with
    | false =>
      rw [isTri_not hT] at q
      exact iteT (iteT q)
    | true =>
      refine iteF ?_
      cases rp with
      | @tup a xs ds h r =>
        refine ⟨_, rfl, a, xs, rfl, .inr (.inl (.inl h)), rfl, _, rfl, ?_⟩
        have hl := r.length
        by_cases h3 : ds.length = 3
        · have e3 : (!decide (V.int ((xs.length : Nat) : Int) = V.int 3)) = false := by
            rw [hl, h3]
            rfl
          rw [e3]
          refine iteF ?_
          match ds, h3 with
          | [dk, dl, dr], _ =>
            cases r with
            | @cons vk _ _ _ rk r =>
              cases r with
              | @cons vl _ _ _ rl r =>
                cases r with
                | @cons vr _ _ _ rr r =>
                  cases r
                  refine ⟨_, rfl, a, _, rfl, .inl (.inl h), rfl, vk, _, rfl, vl, _, rfl, vr, _, rfl, rfl, ?_⟩
                  refine ⟨_, rfl, _, _, _, _, _, rfl, .ty _, rk.ty, kStr dk, _, rfl, ?_⟩
                  cases hS : isStr dk with
                  | false =>
                    rw [isTri_kind hS] at q
                    exact iteT (iteT q)
                  | true =>
                    refine iteF ?_
                    cases rk with
                    | str k =>
                      refine ⟨_, rfl, aK, _, rfl, .inr (sK H), rfl, rfl, _, rfl, ?_⟩
                      show if (!kindOk k) = true then _ else _
                      cases hk : kindOk k with
                      | false =>
                        have e : isTri (.tuple [.str k, dl, dr]) m = false := by simp [isTri, hk]
                        rw [e] at q
                        exact iteT q
                      | true =>
                        refine iteF ?_
                        have e : isTri (.tuple [.str k, dl, dr]) m = (isNum dl 0 m && isNum dr 0 m) := by simp [isTri, hk]
                        rw [e] at q
                        refine ⟨_, rfl, _, rfl, vl, dl, 0, m, rfl, rl, _, rfl, ?_⟩
                        cases hn : isNum dl 0 m with
                        | false =>
                          rw [hn] at q
                          exact iteF q
                        | true =>
                          rw [hn] at q
                          exact iteT ⟨_, rfl, _, rfl, vr, dr, 0, m, rfl, rr, q⟩
                    | _ => cases hS
        · have e3 : (!decide (V.int ((xs.length : Nat) : Int) = V.int 3)) = true := by
            have z : ¬ V.int ((xs.length : Nat) : Int) = V.int 3 := fun z => by
              injection z with z
              omega
            rw [decide_eq_false z]
            rfl
          rw [e3]
          rw [isTri_tup h3] at q
          exact iteT q
      | _ => cases hT
end
end Q

set_option maxHeartbeats 4000000
namespace Q
open PySem PySem.Spec PyProof.Rows L2 Ca
/-! ### are_atoms -/
abbrev s_are_atoms : Stmt := top 37
def areAt (ds : List PyData) : Bool := decide (1 ≤ ds.length) && decide (ds.length ≤ 4) && ds.all fun d => isTri d 9
def spAre : Sp := fun vs H Q _ => ∃ v d ds, vs = [v] ∧ Rp H v d ∧ (d = .tuple ds ∨ d = .list ds) ∧ ds.length ≤ 1000 ∧ ∀ H', Same H H' → Q (.bl (areAt ds)) H'
theorem sc_are : FnScope ["things", "thing"] ["things"] (defScope s_are_atoms) := ⟨rfl, rfl, rfl, by decide +kernel, rfl, by decide +kernel, by decide +kernel⟩
theorem bools_of {H : Hp} {f : PyData → Bool} : ∀ {acc : List V} {ds : List PyData}, RpA H acc (ds.map fun d => .bool (f d)) → acc = (ds.map f).map V.bl
  | _, [], h => by
    cases h
    rfl
  | _, d :: ds, h => by
    cases h with
    | cons h1 h2 =>
      cases h1
      rw [bools_of h2]
      rfl
theorem all_id {f : PyData → Bool} (ds : List PyData) : (ds.map f).all id = ds.all f := by
  induction ds with
  | nil => rfl
  | cons d ds ih => simp [ih]
section
variable {P : Program} {w : World} {K : PySem.W.Frag} {mg : PySem.Str → Option Value} {base : Heap}
theorem ok_are {f fT : Addr} {fd fdT : FuncData} (F : FnP K "are_atoms" s_are_atoms f fd) (T : Tx K mg) (GT : FnOk P w K mg base CX0 2 fT fdT ["thing", "most"] spTri) (bT : Binds K fdT ["thing", "most"] [])
    (kT : PySem.W.keepIn K (.ref fT) = true) (gT : mg "is_triple" = some (.ref fT)) : FnOk P w K mg base CX0 3 f fd ["things"] spAre := by
  obtain ⟨t1, g1⟩ := T.mAtoms
  obtain ⟨t2, g2⟩ := T.mVar
  refine F.ok sc_are (fun vs H Q E h => ?_) (fun cdv A outer s H vs Q E hr h => ?_)
  · obtain ⟨v, d, ds, rfl, _⟩ := h
    rfl
  · obtain ⟨v, d, ds, rfl, rp, hd, hz, q⟩ := h
    have fin : ∀ {k : Bool} {H' : Hp}, Same H H' → k = areAt ds → Q (.bl k) H' := fun s e => by rw [e]; exact q _ s
    rcases hd with rfl | rfl
    · cases rp with
      | @tup a xs _ h r =>
        refine ⟨_, PSs.nox (pss_one (ps_ret (pe_and (pe_chain op_le op_le pe_int (pe_callB call_len_seq (by rfl) T.len bLen (pa_cons (pv 0) pa_nil)) (pe_glob (v := .int 4) rfl g1 ⟨t1, rfl⟩))
          (pe_one (pe_callB (cr_all rfl) (by rfl) T.all bAll (pa_cons (pe_lc (own := [("thing", 1)]) (g := gName 1) (tt := tYes) rfl sc_are.nd (pi_tup (pv 0))
            (blkOk_by (own := [("thing", 1)]) (N := ["things", "thing"]) (sc := defScope s_are_atoms) (by decide +kernel))
            (fun _ _ _ _ _ => pg_name (i := 1) sc_are.nd rfl (Or.inl rfl)) (fun _ _ _ _ _ => pts_nil)
            (fun _ _ _ _ _ => pe_call GT hr rfl gT kT bT .nil pass0 (pa_cons (pv 1) (pa_cons (pe_glob (v := .int 9) rfl g2 ⟨t2, rfl⟩) pa_nil)))) pa_nil)))))), ?_⟩
        have hl := r.length
        refine ⟨_, rfl, a, xs, rfl, .inr (.inl (.inl h)), 1, _, rfl, rfl, decide ((1 : Int) ≤ ((xs.length : Nat) : Int)), rfl, ?_⟩
        by_cases c1 : (1 : Int) ≤ ((xs.length : Nat) : Int)
        · rw [decide_eq_true c1]
          refine iteT ⟨_, 4, rfl, rfl, decide (((xs.length : Nat) : Int) ≤ 4), rfl, ?_⟩
          by_cases c2 : ((xs.length : Nat) : Int) ≤ 4
          · rw [decide_eq_true c2]
            refine iteT ⟨_, rfl, a, rfl, ⟨_, .inl (.inl h)⟩, fun D hD => lcT (F := fun d => some (.bool (isTri d 9))) h r hz hD (fun x d H' Nx _ s1 hn rx c _ => ⟨rfl, ?_⟩) fun H' acc s1 h1 h2 => ?_⟩
            · refine ⟨x, rfl, x, d, 9, rfl, rx.mono off_same, ?_⟩
              exact c _ _ H' rfl (Same.refl _) (.bl _)
            · rw [keptD_map] at h2
              have ea := bools_of h2
              subst ea
              refine ⟨D, _, rfl, .inl (.inl h1), fin s1 ?_⟩
              have k1 : decide (1 ≤ ds.length) = true := decide_eq_true (by omega)
              have k2 : decide (ds.length ≤ 4) = true := decide_eq_true (by omega)
              rw [all_id]
              simp [areAt, k1, k2]
          · rw [decide_eq_false c2]
            refine iteF (fin (Same.refl _) ?_)
            have k2 : decide (ds.length ≤ 4) = false := decide_eq_false (by omega)
            simp [areAt, k2]
        · rw [decide_eq_false c1]
          refine iteF ⟨_, rfl, iteF (fin (Same.refl _) ?_)⟩
          have k1 : decide (1 ≤ ds.length) = false := decide_eq_false (by omega)
          simp [areAt, k1]
    · cases rp with
      | @lst a xs _ h r =>
        refine ⟨_, PSs.nox (pss_one (ps_ret (pe_and (pe_chain op_le op_le pe_int (pe_callB call_len_seq (by rfl) T.len bLen (pa_cons (pv 0) pa_nil)) (pe_glob (v := .int 4) rfl g1 ⟨t1, rfl⟩))
          (pe_one (pe_callB (cr_all rfl) (by rfl) T.all bAll (pa_cons (pe_lc (own := [("thing", 1)]) (g := gName 1) (tt := tYes) rfl sc_are.nd (pi_list (pv 0))
            (blkOk_by (own := [("thing", 1)]) (N := ["things", "thing"]) (sc := defScope s_are_atoms) (by decide +kernel))
            (fun _ _ _ _ _ => pg_name (i := 1) sc_are.nd rfl (Or.inl rfl)) (fun _ _ _ _ _ => pts_nil)
            (fun _ _ _ _ _ => pe_call GT hr rfl gT kT bT .nil pass0 (pa_cons (pv 1) (pa_cons (pe_glob (v := .int 9) rfl g2 ⟨t2, rfl⟩) pa_nil)))) pa_nil)))))), ?_⟩
        have hl := r.length
        refine ⟨_, rfl, a, xs, rfl, .inl (.inl (.inl h)), 1, _, rfl, rfl, decide ((1 : Int) ≤ ((xs.length : Nat) : Int)), rfl, ?_⟩
        by_cases c1 : (1 : Int) ≤ ((xs.length : Nat) : Int)
        · rw [decide_eq_true c1]
          refine iteT ⟨_, 4, rfl, rfl, decide (((xs.length : Nat) : Int) ≤ 4), rfl, ?_⟩
          by_cases c2 : ((xs.length : Nat) : Int) ≤ 4
          · rw [decide_eq_true c2]
            refine iteT ⟨_, rfl, a, rfl, ⟨_, .inl (.inl h)⟩, fun D hD => lcL (F := fun d => some (.bool (isTri d 9))) h r hz hD (fun x d H' Nx _ s1 hn rx c _ => ⟨rfl, ?_⟩) fun H' acc s1 h1 h2 => ?_⟩
            · refine ⟨x, rfl, x, d, 9, rfl, rx.mono off_same, ?_⟩
              exact c _ _ H' rfl (Same.refl _) (.bl _)
            · rw [keptD_map] at h2
              have ea := bools_of h2
              subst ea
              refine ⟨D, _, rfl, .inl (.inl h1), fin s1 ?_⟩
              have k1 : decide (1 ≤ ds.length) = true := decide_eq_true (by omega)
              have k2 : decide (ds.length ≤ 4) = true := decide_eq_true (by omega)
              rw [all_id]
              simp [areAt, k1, k2]
          · rw [decide_eq_false c2]
            refine iteF (fin (Same.refl _) ?_)
            have k2 : decide (ds.length ≤ 4) = false := decide_eq_false (by omega)
            simp [areAt, k2]
        · rw [decide_eq_false c1]
          refine iteF ⟨_, rfl, iteF (fin (Same.refl _) ?_)⟩
          have k1 : decide (1 ≤ ds.length) = false := decide_eq_false (by omega)
          simp [areAt, k1]
end
end Q

set_option maxHeartbeats 4000000
namespace Q
open PySem PySem.Spec PyProof.Rows L2 Ca
/-! ### atoms, variables_of -/
structure At where
  k : PySem.Str
  l : Int
  r : Int
def atD (a : At) : PyData := .tuple [.str a.k, .int a.l, .int a.r]
def vars (as : List At) : List Int := as.flatMap fun a => [a.l, a.r]
theorem vars_app (a b : List At) : vars (a ++ b) = vars a ++ vars b := List.flatMap_append ..
abbrev s_variables_of : Stmt := top 40
def spVars : Sp := fun vs H Q _ => ∃ (v : V) (d : PyData) (as : List At), vs = [v] ∧ Rp H v d ∧ (d = .tuple (as.map atD) ∨ d = .list (as.map atD)) ∧ as.length ≤ 30 ∧
  ∀ (p : Addr) (ns : List Int) (H' : Hp), H p = none → Same H H' → H' p = some (.tup (ns.map V.int)) → ns.Pairwise (· < ·) → (∀ k : Int, k ∈ ns ↔ k ∈ vars as) → Q (.ref p) H'
theorem sc_vars : FnScope ["atoms", "kind", "left", "right", "variable"] ["atoms"] (defScope s_variables_of) := ⟨rfl, rfl, rfl, by decide +kernel, rfl, by decide +kernel, by decide +kernel⟩
/-- an atom as it stands in the heap -/
theorem at_of {H : Hp} {x : V} {a : At} (h : Rp H x (atD a)) : ∃ p, x = .ref p ∧ H p = some (.tup [.str a.k, .int a.l, .int a.r]) := by
  cases h with
  | @tup p xs _ h r =>
    cases r with
    | cons h1 r => cases r with
      | cons h2 r => cases r with
        | cons h3 r =>
          cases r
          cases h1
          cases h2
          cases h3
          exact ⟨p, rfl, h⟩
theorem bound_scan {n : Nat} (h : n ≤ 100) : n + 1 < scanBound := by
  unfold scanBound
  omega
/-- what the set holds behind i atoms and j variables more -/
def SetIs (w : World) (H : Hp) (D : Addr) (l : List Int) (m : Nat) : Prop := ∃ S n, H D = some (SetO w D S n) ∧ (∀ k : Int, S k = true ↔ k ∈ l) ∧ n ≤ m
theorem SetIs.add {w : World} {H : Hp} {D : Addr} {l : List Int} {m : Nat} {S : Int → Bool} {n : Nat} (k : Int) (hS : ∀ k : Int, S k = true ↔ k ∈ l) (hn : n ≤ m) :
    SetIs w (upd H D (SetO w D (more S k) (cntS S n k))) D (l ++ [k]) (m + 1) := by
  refine ⟨_, _, upd_same, fun j => ?_, ?_⟩
  · unfold more
    rw [Bool.or_eq_true, hS j, List.mem_append, List.mem_singleton, decide_eq_true_iff]
  · unfold cntS
    split <;> omega
section
variable {P : Program} {w : World} {K : PySem.W.Frag} {mg : PySem.Str → Option Value} {base : Heap}
theorem ok_vars {f : Addr} {fd : FuncData} (F : FnP K "variables_of" s_variables_of f fd) (T : Tx K mg) : FnOk P w K mg base CX0 1 f fd ["atoms"] spVars := by
  refine F.ok sc_vars (fun vs H Q E h => ?_) (fun cdv A outer s H vs Q E hr h => ?_)
  · obtain ⟨v, d, as, rfl, _⟩ := h
    rfl
  · obtain ⟨v, d, as, rfl, rp, hd, hz, q⟩ := h
    rcases hd with rfl | rfl
    · cases rp with
      | @tup a xs _ h r =>
        refine ⟨_, PSs.nox (pss_one (ps_ret (pe_callTy call_tuple_of (by rfl) T.tup bTup (pa_cons (pe_callB (cr_sortedSet rfl) (by rfl) T.sorted bSorted (pa_cons
          (pe_sc2 (own := [("kind", 1), ("left", 2), ("right", 3), ("variable", 4)]) (us := [4]) (g := gTup K 3 (gCons (gName 1) (gCons (gName 2) (gCons (gName 3) gNil)))) (tt := tYes) (wj := iTup K (tTup (tCons (tVar 2) (tCons (tVar 3) tNil)))) (g1 := gName 4) (tt1 := tYes) (te := tVar 4) rfl sc_vars.nd (pi_tup (pv 0))
            (blkOk_by (own := [("kind", 1), ("left", 2), ("right", 3), ("variable", 4)]) (N := ["atoms", "kind", "left", "right", "variable"]) (sc := defScope s_variables_of) (by decide +kernel)) (by decide)
            (fun _ _ _ _ _ => pg_tup (by rfl) (pgs_cons (pg_name (i := 1) sc_vars.nd rfl (Or.inl rfl)) (pgs_cons (pg_name (i := 2) sc_vars.nd rfl (Or.inl rfl)) (pgs_cons (pg_name (i := 3) sc_vars.nd rfl (Or.inl rfl)) pgs_nil))))
            (fun _ _ _ _ _ => pts_nil) (fun _ _ _ _ _ => pi_tup (pe_tup (pa_cons (pv 2) (pa_cons (pv 3) pa_nil)))) (fun _ _ _ _ _ => pg_name (i := 4) sc_vars.nd rfl (Or.inl rfl))
            (fun _ _ _ _ _ => pts_nil) (fun _ _ _ _ _ => pv 4)) pa_nil)) pa_nil)))), ?_⟩
        have hl := r.length
        rw [List.length_map] at hl
        refine ⟨_, rfl, a, rfl, ⟨_, .inl (.inl h)⟩, fun D hD => ?_⟩
        refine ⟨fun i m H' => m = xs.length - i ∧ i ≤ xs.length ∧ Same H H' ∧ SetIs w H' D (vars (as.take i)) (2 * i), ⟨xs.length, rfl, Nat.zero_le _, same_new hD, _, 0, upd_same, fun k => ?_, Nat.le_refl _⟩, ?_⟩
        · simp [vars]
        rintro i m H' ⟨rfl, hi, s1, S, n, hS, hm, hn⟩
        have sq := s1 _ _ h
        by_cases hlt : i < xs.length
        · refine .inr ⟨⟨xs, xs[i], .inl (.inl sq), by simp [hlt]⟩, fun H' => Same H H' ∧ SetIs w H' D (vars (as.take (i + 1))) (2 * (i + 1)), fun H' p' => ⟨xs.length - (i + 1), by omega, rfl, hlt, p'⟩, fun x H2 y => ?_⟩
          obtain ⟨rfl, y⟩ := y
          have hx := y xs (.inl (.inl sq))
          obtain ⟨d, hd, rx⟩ := r.get hx
          rw [List.getElem?_map] at hd
          obtain ⟨t, ht, rfl⟩ : ∃ t, as[i]? = some t ∧ atD t = d := by
            cases e : as[i]? with
            | none =>
              rw [e] at hd
              cases hd
            | some t =>
              rw [e] at hd
              exact ⟨t, rfl, Option.some.inj hd⟩
          obtain ⟨p, rfl, hp⟩ := at_of (rx.mono s1)
          have ev : vars (as.take (i + 1)) = vars (as.take i) ++ [t.l, t.r] := by
            rw [take_more ht, vars_app]
            rfl
          have i30 : i < 30 := by omega
          refine ⟨p, _, rfl, .inl (.inl hp), rfl, _, _, rfl, _, _, rfl, _, _, rfl, rfl, rfl, ?_⟩
          refine ⟨_, rfl, _, rfl, by show 2 ≤ sizeLine; decide, fun u hu => ⟨u, rfl, ⟨_, .inl (.inl upd_same)⟩, ?_⟩⟩
          have nDu : D ≠ u := ne_of_none hS hu
          refine ⟨fun j k H3 => k = 2 - j ∧ j ≤ 2 ∧ Same H H3 ∧ H3 u = some (.tup [.int t.l, .int t.r]) ∧ SetIs w H3 D (vars (as.take i) ++ [t.l, t.r].take j) (2 * i + j),
            ⟨2, rfl, by omega, fun b o e => ?_, upd_same, S, n, ?_, fun k => ?_, by omega⟩, ?_⟩
          · rw [upd_ne (ne_of_none (s1 b o e) hu)]
            exact s1 b o e
          · rw [upd_ne nDu]
            exact hS
          · rw [List.take_zero, List.append_nil]
            exact hm k
          rintro j k H3 ⟨rfl, hj, s3, hu3, S3, n3, hS3, hm3, hn3⟩
          by_cases hj2 : j < 2
          · refine .inr ⟨⟨_, [V.int t.l, V.int t.r][j], .inl (.inl hu3), by simp⟩, fun H3 => Same H H3 ∧ H3 u = some (.tup [.int t.l, .int t.r]) ∧ SetIs w H3 D (vars (as.take i) ++ [t.l, t.r].take (j + 1)) (2 * i + (j + 1)),
              fun H4 p4 => ⟨2 - (j + 1), by omega, rfl, by omega, p4⟩, fun x H4 y => ?_⟩
            obtain ⟨rfl, y⟩ := y
            have hx := y _ (.inl (.inl hu3))
            obtain ⟨z, hz1, rfl⟩ : ∃ z, [t.l, t.r][j]? = some z ∧ x = V.int z := by
              match j, hj2 with
              | 0, _ => exact ⟨t.l, rfl, (Option.some.inj hx).symm⟩
              | 1, _ => exact ⟨t.r, rfl, (Option.some.inj hx).symm⟩
            refine ⟨rfl, _, rfl, z, S3, n3, rfl, hS3, bound_scan (by omega), fun b o e => ?_, ?_, ?_⟩
            · rw [upd_ne (ne_of_none e hD)]
              exact s3 b o e
            · rw [upd_ne nDu.symm]
              exact hu3
            · have e4 := take_more hz1
              rw [e4, ← List.append_assoc]
              exact SetIs.add z hm3 hn3
          · have e2 : j = 2 := by omega
            subst e2
            refine .inl ⟨⟨_, .inl (.inl hu3), Nat.le_refl _⟩, s3, S3, n3, hS3, fun k => ?_, by omega⟩
            rw [ev]
            exact hm3 k
        · have e : i = xs.length := by omega
          subst e
          refine .inl ⟨⟨xs, .inl (.inl sq), Nat.le_refl _⟩, D, S, n, rfl, hS, by omega, fun ns u hs hk hln hu => ?_⟩
          refine ⟨u, _, rfl, .inl ⟨.inl (.inl upd_same), fun p hp => ?_⟩⟩
          have hp1 : H' p = none := by
            have z : p ≠ u := fun z => by
              rw [z, upd_same] at hp
              cases hp
            rw [upd_ne z] at hp
            exact hp
          refine q p ns _ (s1.free hp1) ((s1.trans (same_new hu)).trans (same_new hp)) upd_same hs fun k => ?_
          rw [hk k, hm k, hl, List.take_length]
    · cases rp with
      | @lst a xs _ h r =>
        refine ⟨_, PSs.nox (pss_one (ps_ret (pe_callTy call_tuple_of (by rfl) T.tup bTup (pa_cons (pe_callB (cr_sortedSet rfl) (by rfl) T.sorted bSorted (pa_cons
          (pe_sc2 (own := [("kind", 1), ("left", 2), ("right", 3), ("variable", 4)]) (us := [4]) (g := gTup K 3 (gCons (gName 1) (gCons (gName 2) (gCons (gName 3) gNil)))) (tt := tYes) (wj := iTup K (tTup (tCons (tVar 2) (tCons (tVar 3) tNil)))) (g1 := gName 4) (tt1 := tYes) (te := tVar 4) rfl sc_vars.nd (pi_list (pv 0))
            (blkOk_by (own := [("kind", 1), ("left", 2), ("right", 3), ("variable", 4)]) (N := ["atoms", "kind", "left", "right", "variable"]) (sc := defScope s_variables_of) (by decide +kernel)) (by decide)
            (fun _ _ _ _ _ => pg_tup (by rfl) (pgs_cons (pg_name (i := 1) sc_vars.nd rfl (Or.inl rfl)) (pgs_cons (pg_name (i := 2) sc_vars.nd rfl (Or.inl rfl)) (pgs_cons (pg_name (i := 3) sc_vars.nd rfl (Or.inl rfl)) pgs_nil))))
            (fun _ _ _ _ _ => pts_nil) (fun _ _ _ _ _ => pi_tup (pe_tup (pa_cons (pv 2) (pa_cons (pv 3) pa_nil)))) (fun _ _ _ _ _ => pg_name (i := 4) sc_vars.nd rfl (Or.inl rfl))
            (fun _ _ _ _ _ => pts_nil) (fun _ _ _ _ _ => pv 4)) pa_nil)) pa_nil)))), ?_⟩
        have hl := r.length
        rw [List.length_map] at hl
        refine ⟨_, rfl, a, rfl, ⟨_, .inl (.inl h)⟩, fun D hD => ?_⟩
        refine ⟨fun i m H' => m = xs.length - i ∧ i ≤ xs.length ∧ Same H H' ∧ SetIs w H' D (vars (as.take i)) (2 * i), ⟨xs.length, rfl, Nat.zero_le _, same_new hD, _, 0, upd_same, fun k => ?_, Nat.le_refl _⟩, ?_⟩
        · simp [vars]
        rintro i m H' ⟨rfl, hi, s1, S, n, hS, hm, hn⟩
        have sq := s1 _ _ h
        by_cases hlt : i < xs.length
        · refine .inr ⟨⟨xs, xs[i], .inl (.inl sq), by simp [hlt]⟩, fun H' => Same H H' ∧ SetIs w H' D (vars (as.take (i + 1))) (2 * (i + 1)), fun H' p' => ⟨xs.length - (i + 1), by omega, rfl, hlt, p'⟩, fun x H2 y => ?_⟩
          obtain ⟨rfl, y⟩ := y
          have hx := y xs (.inl (.inl sq))
          obtain ⟨d, hd, rx⟩ := r.get hx
          rw [List.getElem?_map] at hd
          obtain ⟨t, ht, rfl⟩ : ∃ t, as[i]? = some t ∧ atD t = d := by
            cases e : as[i]? with
            | none =>
              rw [e] at hd
              cases hd
            | some t =>
              rw [e] at hd
              exact ⟨t, rfl, Option.some.inj hd⟩
          obtain ⟨p, rfl, hp⟩ := at_of (rx.mono s1)
          have ev : vars (as.take (i + 1)) = vars (as.take i) ++ [t.l, t.r] := by
            rw [take_more ht, vars_app]
            rfl
          have i30 : i < 30 := by omega
          refine ⟨p, _, rfl, .inl (.inl hp), rfl, _, _, rfl, _, _, rfl, _, _, rfl, rfl, rfl, ?_⟩
          refine ⟨_, rfl, _, rfl, by show 2 ≤ sizeLine; decide, fun u hu => ⟨u, rfl, ⟨_, .inl (.inl upd_same)⟩, ?_⟩⟩
          have nDu : D ≠ u := ne_of_none hS hu
          refine ⟨fun j k H3 => k = 2 - j ∧ j ≤ 2 ∧ Same H H3 ∧ H3 u = some (.tup [.int t.l, .int t.r]) ∧ SetIs w H3 D (vars (as.take i) ++ [t.l, t.r].take j) (2 * i + j),
            ⟨2, rfl, by omega, fun b o e => ?_, upd_same, S, n, ?_, fun k => ?_, by omega⟩, ?_⟩
          · rw [upd_ne (ne_of_none (s1 b o e) hu)]
            exact s1 b o e
          · rw [upd_ne nDu]
            exact hS
          · rw [List.take_zero, List.append_nil]
            exact hm k
          rintro j k H3 ⟨rfl, hj, s3, hu3, S3, n3, hS3, hm3, hn3⟩
          by_cases hj2 : j < 2
          · refine .inr ⟨⟨_, [V.int t.l, V.int t.r][j], .inl (.inl hu3), by simp⟩, fun H3 => Same H H3 ∧ H3 u = some (.tup [.int t.l, .int t.r]) ∧ SetIs w H3 D (vars (as.take i) ++ [t.l, t.r].take (j + 1)) (2 * i + (j + 1)),
              fun H4 p4 => ⟨2 - (j + 1), by omega, rfl, by omega, p4⟩, fun x H4 y => ?_⟩
            obtain ⟨rfl, y⟩ := y
            have hx := y _ (.inl (.inl hu3))
            obtain ⟨z, hz1, rfl⟩ : ∃ z, [t.l, t.r][j]? = some z ∧ x = V.int z := by
              match j, hj2 with
              | 0, _ => exact ⟨t.l, rfl, (Option.some.inj hx).symm⟩
              | 1, _ => exact ⟨t.r, rfl, (Option.some.inj hx).symm⟩
            refine ⟨rfl, _, rfl, z, S3, n3, rfl, hS3, bound_scan (by omega), fun b o e => ?_, ?_, ?_⟩
            · rw [upd_ne (ne_of_none e hD)]
              exact s3 b o e
            · rw [upd_ne nDu.symm]
              exact hu3
            · have e4 := take_more hz1
              rw [e4, ← List.append_assoc]
              exact SetIs.add z hm3 hn3
          · have e2 : j = 2 := by omega
            subst e2
            refine .inl ⟨⟨_, .inl (.inl hu3), Nat.le_refl _⟩, s3, S3, n3, hS3, fun k => ?_, by omega⟩
            rw [ev]
            exact hm3 k
        · have e : i = xs.length := by omega
          subst e
          refine .inl ⟨⟨xs, .inl (.inl sq), Nat.le_refl _⟩, D, S, n, rfl, hS, by omega, fun ns u hs hk hln hu => ?_⟩
          refine ⟨u, _, rfl, .inl ⟨.inl (.inl upd_same), fun p hp => ?_⟩⟩
          have hp1 : H' p = none := by
            have z : p ≠ u := fun z => by
              rw [z, upd_same] at hp
              cases hp
            rw [upd_ne z] at hp
            exact hp
          refine q p ns _ (s1.free hp1) ((s1.trans (same_new hu)).trans (same_new hp)) upd_same hs fun k => ?_
          rw [hk k, hm k, hl, List.take_length]
end
end Q

set_option maxHeartbeats 4000000
namespace Q
open PySem PySem.Spec PyProof.Rows L2 Ca
/-! ### text_of_atoms -/
structure Good (a : At) : Prop where
  k : kindOk a.k = true
  l0 : 0 ≤ a.l
  l9 : a.l ≤ 9
  r0 : 0 ≤ a.r
  r9 : a.r ≤ 9
theorem kind_len {k : PySem.Str} (h : kindOk k = true) : k.length = 1 := by
  unfold kindOk inV at h
  rw [List.any_eq_true] at h
  obtain ⟨y, hy, e⟩ := h
  rcases List.mem_cons.mp hy with z | hy
  · subst z
    have e1 : PySem.Str.ofString "A" = k := by simpa [eqV] using e
    rw [← e1]
    decide +kernel
  · rcases List.mem_cons.mp hy with z | hy
    · subst z
      have e1 : PySem.Str.ofString "B" = k := by simpa [eqV] using e
      rw [← e1]
      decide +kernel
    · rcases List.mem_cons.mp hy with z | hy
      · subst z
        have e1 : PySem.Str.ofString "C" = k := by simpa [eqV] using e
        rw [← e1]
        decide +kernel
      · cases hy
theorem dig_len {i : Int} (h0 : 0 ≤ i) (h9 : i ≤ 9) : (PySem.Str.ofString (toString i)).length = 1 := by
  obtain ⟨n, rfl⟩ := Int.eq_ofNat_of_zero_le h0
  have h : ∀ n : Nat, n < 10 → (PySem.Str.ofString (toString ((n : Nat) : Int))).length = 1 := by decide +kernel
  exact h n (by omega)
theorem dig_log {i : Int} (h0 : 0 ≤ i) (h9 : i ≤ 9) : i.natAbs.log2 < 1920 := by
  obtain ⟨n, rfl⟩ := Int.eq_ofNat_of_zero_le h0
  have h : ∀ n : Nat, n < 10 → ((n : Int)).natAbs.log2 < 1920 := by decide +kernel
  exact h n (by omega)
theorem len_app (x y : PySem.Str) : (x ++ y).length = x.length + y.length := PySem.Str.length_append x y
def atT (a : At) : PySem.Str := a.k ++ PySem.Str.ofString (toString a.l) ++ PySem.Str.ofString (toString a.r)
theorem atT_len {a : At} (g : Good a) : (atT a).length = 3 := by
  unfold atT
  rw [len_app, len_app, kind_len g.k, dig_len g.l0 g.l9, dig_len g.r0 g.r9]
def txt (as : List At) : PySem.Str := Txt.join " " (as.map atT)
def atF (d : PyData) : Option PyData := match d with
  | .tuple [.str k, .int l, .int r] => some (.str (atT ⟨k, l, r⟩))
  | _ => none
theorem atF_map (as : List At) : (as.map atD).filterMap atF = as.map fun a => .str (atT a) := by
  induction as with
  | nil => rfl
  | cons a as ih =>
    rw [List.map_cons, List.filterMap_cons]
    show PyData.str (atT a) :: (as.map atD).filterMap atF = _
    rw [ih]
    rfl
theorem strs_of {H : Hp} {g : At → PySem.Str} : ∀ {acc : List V} {as : List At}, RpA H acc (as.map fun a => .str (g a)) → acc = (as.map g).map V.str
  | _, [], h => by
    cases h
    rfl
  | _, a :: as, h => by
    cases h with
    | cons h1 h2 =>
      cases h1
      rw [strs_of h2]
      rfl
theorem sum_len {as : List At} (h : ∀ a ∈ as, Good a) : ((as.map atT).map (·.length)).sum = 3 * as.length := by
  induction as with
  | nil => rfl
  | cons a as ih =>
    rw [List.map_cons, List.map_cons, List.sum_cons, ih fun b hb => h b (.tail _ hb), atT_len (h a (.head _)), List.length_cons]
    omega
def tJ3 : TE := fun σ H Q => tJs [tFmt (tVar 1), tFmt (tVar 2), tFmt (tVar 3)] PySem.Str.empty σ H fun out H1 => Q (.str out) H1
abbrev s_text_of_atoms : Stmt := top 38
def spText : Sp := fun vs H Q _ => ∃ (v : V) (d : PyData) (as : List At), vs = [v] ∧ Rp H v d ∧ (d = .tuple (as.map atD) ∨ d = .list (as.map atD)) ∧ as.length ≤ 30 ∧ (∀ a ∈ as, Good a) ∧
  ∀ H', Same H H' → Q (.str (txt as)) H'
theorem sc_text : FnScope ["atoms", "kind", "left", "right"] ["atoms"] (defScope s_text_of_atoms) := ⟨rfl, rfl, rfl, by decide +kernel, rfl, by decide +kernel, by decide +kernel⟩
section
variable {P : Program} {w : World} {K : PySem.W.Frag} {mg : PySem.Str → Option Value} {base : Heap}
theorem ok_text {f : Addr} {fd : FuncData} (F : FnP K "text_of_atoms" s_text_of_atoms f fd) (T : Tx K mg) : FnOk P w K mg base CX0 1 f fd ["atoms"] spText := by
  refine F.ok sc_text (fun vs H Q E h => ?_) (fun cdv A outer s H vs Q E hr h => ?_)
  · obtain ⟨v, d, as, rfl, _⟩ := h
    rfl
  · obtain ⟨v, d, as, rfl, rp, hd, hz, hg, q⟩ := h
    have small : ∀ n : Nat, n ≤ 1000 → n ≤ sizeLine := fun n h => Nat.le_of_lt (small1000 h)
    rcases hd with rfl | rfl
    · cases rp with
      | @tup a xs _ h r =>
        refine ⟨_, PSs.nox (pss_one (ps_ret (pe_join pe_str (pe_lc (own := [("kind", 1), ("left", 2), ("right", 3)]) (g := gTup K 3 (gCons (gName 1) (gCons (gName 2) (gCons (gName 3) gNil)))) (tt := tYes) rfl sc_text.nd (pi_tup (pv 0))
            (blkOk_by (own := [("kind", 1), ("left", 2), ("right", 3)]) (N := ["atoms", "kind", "left", "right"]) (sc := defScope s_text_of_atoms) (by decide +kernel))
            (fun _ _ _ _ _ => pg_tup (by rfl) (pgs_cons (pg_name (i := 1) sc_text.nd rfl (Or.inl rfl)) (pgs_cons (pg_name (i := 2) sc_text.nd rfl (Or.inl rfl)) (pgs_cons (pg_name (i := 3) sc_text.nd rfl (Or.inl rfl)) pgs_nil))))
            (fun _ _ _ _ _ => pts_nil) (fun _ _ _ _ _ => pe_joined (.cons (pe_fmt (pv 1)) (.cons (pe_fmt (pv 2)) (.cons (pe_fmt (pv 3)) .nil)))))))), ?_⟩
        refine ⟨⟨_, rfl⟩, _, rfl, a, rfl, ⟨_, .inl (.inl h)⟩, fun D hD => lcT (F := atF) (te := tJ3) h r (by rw [List.length_map]; omega) hD (fun x d H' Nx hm s1 hn rx c _ => ?_) fun H' acc s1 h1 h2 => ?_⟩
        · obtain ⟨t, ht, rfl⟩ := List.mem_map.mp hm
          have g := hg t ht
          obtain ⟨p, rfl, hp⟩ := at_of (rx.mono off_same)
          have kl := kind_len g.k
          have ll := dig_len g.l0 g.l9
          have rl := dig_len g.r0 g.r9
          refine ⟨p, _, rfl, .inl (.inl hp), rfl, _, _, rfl, _, _, rfl, _, _, rfl, rfl, rfl, ?_⟩
          refine ⟨_, rfl, .inl ⟨_, rfl, small _ (by omega), _, rfl, small _ (by rw [PySem.Str.empty_append]; omega), ?_⟩⟩
          refine ⟨_, rfl, .inr ⟨_, rfl, dig_log g.l0 g.l9, _, rfl, small _ (by rw [PySem.Str.empty_append, len_app]; omega), ?_⟩⟩
          refine ⟨_, rfl, .inr ⟨_, rfl, dig_log g.r0 g.r9, _, rfl, small _ (by rw [PySem.Str.empty_append, len_app, len_app]; omega), ?_⟩⟩
          rw [PySem.Str.empty_append]
          exact c _ _ H' rfl (Same.refl _) (.str _)
        · have h3 : RpA (off D H') acc (as.map fun a => .str (atT a)) := by
            rw [← atF_map]
            exact h2
          have ea := strs_of h3
          subst ea
          refine ⟨_, D, as.map atT, rfl, rfl, .inl (.inl (.inl h1)), ?_, q _ s1⟩
          rw [sum_len hg, List.length_map]
          have e1 : (PySem.Str.ofString " ").length = 1 := by decide +kernel
          rw [e1]
          omega
    · cases rp with
      | @lst a xs _ h r =>
        refine ⟨_, PSs.nox (pss_one (ps_ret (pe_join pe_str (pe_lc (own := [("kind", 1), ("left", 2), ("right", 3)]) (g := gTup K 3 (gCons (gName 1) (gCons (gName 2) (gCons (gName 3) gNil)))) (tt := tYes) rfl sc_text.nd (pi_list (pv 0))
            (blkOk_by (own := [("kind", 1), ("left", 2), ("right", 3)]) (N := ["atoms", "kind", "left", "right"]) (sc := defScope s_text_of_atoms) (by decide +kernel))
            (fun _ _ _ _ _ => pg_tup (by rfl) (pgs_cons (pg_name (i := 1) sc_text.nd rfl (Or.inl rfl)) (pgs_cons (pg_name (i := 2) sc_text.nd rfl (Or.inl rfl)) (pgs_cons (pg_name (i := 3) sc_text.nd rfl (Or.inl rfl)) pgs_nil))))
            (fun _ _ _ _ _ => pts_nil) (fun _ _ _ _ _ => pe_joined (.cons (pe_fmt (pv 1)) (.cons (pe_fmt (pv 2)) (.cons (pe_fmt (pv 3)) .nil)))))))), ?_⟩
        refine ⟨⟨_, rfl⟩, _, rfl, a, rfl, ⟨_, .inl (.inl h)⟩, fun D hD => lcL (F := atF) (te := tJ3) h r (by rw [List.length_map]; omega) hD (fun x d H' Nx hm s1 hn rx c _ => ?_) fun H' acc s1 h1 h2 => ?_⟩
        · obtain ⟨t, ht, rfl⟩ := List.mem_map.mp hm
          have g := hg t ht
          obtain ⟨p, rfl, hp⟩ := at_of (rx.mono off_same)
          have kl := kind_len g.k
          have ll := dig_len g.l0 g.l9
          have rl := dig_len g.r0 g.r9
          refine ⟨p, _, rfl, .inl (.inl hp), rfl, _, _, rfl, _, _, rfl, _, _, rfl, rfl, rfl, ?_⟩
          refine ⟨_, rfl, .inl ⟨_, rfl, small _ (by omega), _, rfl, small _ (by rw [PySem.Str.empty_append]; omega), ?_⟩⟩
          refine ⟨_, rfl, .inr ⟨_, rfl, dig_log g.l0 g.l9, _, rfl, small _ (by rw [PySem.Str.empty_append, len_app]; omega), ?_⟩⟩
          refine ⟨_, rfl, .inr ⟨_, rfl, dig_log g.r0 g.r9, _, rfl, small _ (by rw [PySem.Str.empty_append, len_app, len_app]; omega), ?_⟩⟩
          rw [PySem.Str.empty_append]
          exact c _ _ H' rfl (Same.refl _) (.str _)
        · have h3 : RpA (off D H') acc (as.map fun a => .str (atT a)) := by
            rw [← atF_map]
            exact h2
          have ea := strs_of h3
          subst ea
          refine ⟨_, D, as.map atT, rfl, rfl, .inl (.inl (.inl h1)), ?_, q _ s1⟩
          rw [sum_len hg, List.length_map]
          have e1 : (PySem.Str.ofString " ").length = 1 := by decide +kernel
          rw [e1]
          omega
end
end Q

set_option maxHeartbeats 4000000
namespace Q
open PySem PySem.Spec PyProof.Rows L2 Ca
/-! ### Question.__init__ -/
theorem num_int {d : PyData} {lo hi : Int} (h : isNum d lo hi = true) : ∃ i, d = .int i ∧ lo ≤ i ∧ i ≤ hi := by
  cases d with
  | int i =>
    have h2 : (decide (lo ≤ i) && decide (i ≤ hi)) = true := h
    rw [Bool.and_eq_true, decide_eq_true_iff, decide_eq_true_iff] at h2
    exact ⟨i, rfl, h2.1, h2.2⟩
  | _ => cases h
theorem tri_at {d : PyData} (h : isTri d 9 = true) : ∃ a : At, d = atD a ∧ Good a := by
  unfold isTri at h
  split at h
  · rename_i k l r
    rw [Bool.and_eq_true, Bool.and_eq_true] at h
    obtain ⟨h1, h2, h3⟩ := h
    obtain ⟨i, rfl, a1, a2⟩ := num_int h2
    obtain ⟨j, rfl, b1, b2⟩ := num_int h3
    exact ⟨⟨k, i, j⟩, rfl, h1, a1, a2, b1, b2⟩
  · cases h
theorem good_of : ∀ {ds : List PyData}, (∀ d ∈ ds, isTri d 9 = true) → ∃ as : List At, ds = as.map atD ∧ ∀ a ∈ as, Good a
  | [], _ => ⟨[], rfl, fun a h => by cases h⟩
  | d :: ds, h => by
    obtain ⟨a, rfl, g⟩ := tri_at (h d (.head _))
    obtain ⟨as, rfl, gs⟩ := good_of (ds := ds) fun e he => h e (.tail _ he)
    refine ⟨a :: as, rfl, fun b hb => ?_⟩
    rcases List.mem_cons.mp hb with z | z
    · rw [z]
      exact g
    · exact gs b z
theorem are_good {ds : List PyData} (h : areAt ds = true) : ∃ as : List At, ds = as.map atD ∧ (∀ a ∈ as, Good a) ∧ 1 ≤ as.length ∧ as.length ≤ 4 := by
  unfold areAt at h
  rw [Bool.and_eq_true, Bool.and_eq_true, decide_eq_true_iff, decide_eq_true_iff, List.all_eq_true] at h
  obtain ⟨⟨h1, h2⟩, h3⟩ := h
  obtain ⟨as, rfl, gs⟩ := good_of h3
  rw [List.length_map] at h1 h2
  exact ⟨as, rfl, gs, h1, h2⟩
theorem alike_at (a b : At) : PySem.W.alike (atD a) (atD b) = true := by simp [atD, PySem.W.alike, PySem.W.alikeAll]
theorem alike_all (as : List At) : PySem.W.AllAlike (as.map atD) := by
  intro d hd d' hd'
  obtain ⟨a, _, rfl⟩ := List.mem_map.mp hd
  obtain ⟨b, _, rfl⟩ := List.mem_map.mp hd'
  exact alike_at a b
theorem sortable_at (as : List At) : PySem.W.Sortable (as.map atD) := .inl fun d hd => by
  obtain ⟨a, _, rfl⟩ := List.mem_map.mp hd
  exact ⟨_, _, rfl⟩
theorem depth_at (a : At) : (atD a).depth ≤ 60 := by simp [atD, PyData.depth, PyData.depthAll]
theorem putF_le (f : PySem.Str) (v : V) : ∀ fs : List (PySem.Str × V), (putF f v fs).length ≤ fs.length + 1
  | [] => Nat.le_refl _
  | (g, u) :: fs => by
    have ih := putF_le f v fs
    unfold putF
    split
    · simp only [List.length_cons]; omega
    · simp only [List.length_cons]; omega
theorem putF_1 (f : PySem.Str) (v : V) : (putF f v []).length < 1000 := by
  have := putF_le f v []
  simp only [List.length_nil] at this
  omega
theorem putF_2 (f g : PySem.Str) (v u : V) : (putF f v (putF g u [])).length < 1000 := by
  have h1 := putF_le f v (putF g u [])
  have h2 := putF_le g u []
  simp only [List.length_nil] at h2
  omega
/-- the fields of a question -/
def qf (p o u : V) : List (PySem.Str × V) := putF "used" u (putF "ordered" o (putF "given" p []))
theorem s_go : ¬ (("given" : PySem.Str) = "ordered") := by decide +kernel
theorem s_gu : ¬ (("given" : PySem.Str) = "used") := by decide +kernel
theorem s_ou : ¬ (("ordered" : PySem.Str) = "used") := by decide +kernel
theorem qf_given (p o u : V) : (qf p o u).lookup ("given" : PySem.Str) = some p := by
  unfold qf
  rw [lookup_putF, if_neg s_gu, lookup_putF, if_neg s_go, lookup_putF, if_pos rfl]
theorem qf_ordered (p o u : V) : (qf p o u).lookup ("ordered" : PySem.Str) = some o := by
  unfold qf
  rw [lookup_putF, if_neg s_ou, lookup_putF, if_pos rfl]
theorem qf_used (p o u : V) : (qf p o u).lookup ("used" : PySem.Str) = some u := by
  unfold qf
  rw [lookup_putF, if_pos rfl]
theorem qf_no (p o u : V) {m : PySem.Str} (h1 : ¬ m = "given") (h2 : ¬ m = "ordered") (h3 : ¬ m = "used") : (qf p o u).lookup m = none := by
  unfold qf
  rw [lookup_putF, if_neg h3, lookup_putF, if_neg h2, lookup_putF, if_neg h1]
  rfl
/-- what the top has written of the class Question (at C) and of NoAtoms (at N) -/
structure QT (K : PySem.W.Frag) (mg : PySem.Str → Option Value) (C N : Addr) : Prop where
  cl : Cls K C
  nG : NoAttr K C "given"
  nO : NoAttr K C "ordered"
  nU : NoAttr K C "used"
  gN : mg "NoAtoms" = some (.ref N)
  xN : PySem.W.excIn K N [.type "ValueError", .type "Exception", .type "BaseException", .type "object"] "ValueError.__new__" = true
  kN : PySem.W.keepIn K (.ref N) = true
  bN : PySem.W.subIn K (.ref N) (.type "BaseException") = some true
  tN : PySem.W.typeIn K (.ref N) = some (.type "type")
abbrev cQ : Stmt := top 41
abbrev s_init : Stmt := inClass cQ 0
/-- a question at x whose atoms stand in the tuple at p -/
structure IsQ (H : Hp) (C x dx p : Addr) (as : List At) : Prop where
  obj : ∃ (o u : Addr) (ns : List Int), H x = some (.ins C dx (qf (.ref p) (.ref o) (.ref u))) ∧ H u = some (.tup (ns.map V.int)) ∧ ns.Pairwise (· < ·) ∧ (∀ k : Int, k ∈ ns ↔ k ∈ vars as) ∧
    ∃ bs : List (V × PyData), bs.map Prod.snd = as.map atD ∧ H p = some (.tup (bs.map Prod.fst)) ∧ H o = some (.tup ((sortD bs).map Prod.fst)) ∧ ∀ b ∈ bs, Rp H b.1 b.2
theorem rp_zip {H : Hp} : ∀ {xs : List V} {ds : List PyData}, RpA H xs ds → ∃ bs : List (V × PyData), bs.map Prod.fst = xs ∧ bs.map Prod.snd = ds ∧ ∀ b ∈ bs, Rp H b.1 b.2
  | _, _, .nil => ⟨[], rfl, rfl, fun b h => by cases h⟩
  | _, _, .cons (v := v) (d := d) h r => by
    obtain ⟨bs, e1, e2, e3⟩ := rp_zip r
    refine ⟨(v, d) :: bs, by rw [List.map_cons, e1], by rw [List.map_cons, e2], fun b hb => ?_⟩
    rcases List.mem_cons.mp hb with z | z
    · rw [z]
      exact h
    · exact e3 b z
theorem zip_rp {H : Hp} : ∀ {bs : List (V × PyData)}, (∀ b ∈ bs, Rp H b.1 b.2) → RpA H (bs.map Prod.fst) (bs.map Prod.snd)
  | [], _ => .nil
  | b :: bs, h => .cons (h b (.head _)) (zip_rp fun c hc => h c (.tail _ hc))
def spInit (C N : Addr) : Sp := fun vs H Q E => ∃ (x dx p : Addr) (ds : List PyData), vs = [.ref x, .ref p] ∧ H x = some (.ins C dx []) ∧ Rp H (.ref p) (.tuple ds) ∧ ds.length ≤ 30 ∧
  (areAt ds = false → ∀ H', Same H H' → E (.ref N) none H') ∧
  (∀ as : List At, ds = as.map atD → (∀ a ∈ as, Good a) → areAt ds = true → ∀ H', (∀ b o, b ≠ x → H b = some o → H' b = some o) → IsQ H' C x dx p as → Q .non H')
theorem sc_init : FnScope ["self", "atoms"] ["self", "atoms"] (defScope s_init) := ⟨rfl, rfl, rfl, by decide +kernel, rfl, by decide +kernel, by decide +kernel⟩
def spInitR (C N : Addr) : Sp := fun vs H Q E => ∃ ws rest : List V, vs = ws ++ rest ∧ ws.length = ["self"].length ∧ rest.length ≤ sizeLine ∧ ∀ p, H p = none → spInit C N (ws ++ [V.ref p]) (upd H p (.tup rest)) Q E
section
variable {P : Program} {w : World} {K : PySem.W.Frag} {mg : PySem.Str → Option Value} {base : Heap}
theorem ok_init {f C N fA fV : Addr} {fd fdA fdV : FuncData} (F : FnM K "__init__" "Question.__init__" s_init f fd) (T : Tx K mg) (TQ : QT K mg C N)
    (GA : FnOk P w K mg base CX0 3 fA fdA ["things"] spAre) (bA : Binds K fdA ["things"] []) (kA : PySem.W.keepIn K (.ref fA) = true) (gA : mg "are_atoms" = some (.ref fA))
    (GV : FnOk P w K mg base CX0 1 fV fdV ["atoms"] spVars) (bV : Binds K fdV ["atoms"] []) (kV : PySem.W.keepIn K (.ref fV) = true) (gV : mg "variables_of" = some (.ref fV)) :
    FnR P w K mg base (L2.CX P w) 4 f (spInitR C N) := by
  obtain ⟨oc, od, dV, kV', doc, pm, an, cdv, ct, osl, rfl, lk, hcd, hdfl, _⟩ := F.ex
  have ed : dV = .none := by
    rcases hdfl with ⟨_, e⟩ | ⟨h, _⟩
    · exact e
    · exact absurd rfl h
  subst ed
  refine StX.fn_star (ps := ["self"]) (pv := "atoms") lk hcd sc_init StX.cxUp (StX.bind_star1 (p1 := "self") (pv := "atoms") (B := fun us => bindArgs (PySem.W.fnOf "__init__" "Question.__init__" (defArgs s_init) (defBody s_init) (defScope s_init) .none kV' doc pm an cdv ct) ⟨us, []⟩) (fun a => by rfl) (fun a r rs => by rfl)) (fun A outer s H vs Q E hr h => ?_)
  obtain ⟨x, dx, p, ds, rfl, hx, rp, hz, kE, kQ⟩ := h
  have hr1 : Room 1 _ := hr.mono (by decide)
  refine ⟨_, pss_cons (ps_if (pt_not (pt_val (pe_call GA hr rfl gA kA bA .nil pass0 (pa_cons (pv 1) pa_nil))))
      (pss_one (ps_raise rfl (takes_of rfl rfl rfl rfl) (pmk_own PySem.F.excBase_ValueError TQ.xN TQ.gN TQ.kN (raises_own TQ.bN TQ.tN) rfl))) pss_nil)
    (pss_cons (ps_fld (pv 0) (pv 1) rfl)
    (pss_cons (ps_fld (pv 0) (pe_callTy call_tuple_of (by rfl) T.tup bTup (pa_cons (pe_callB (cr_sortD T.sm hr) (by rfl) T.sorted bSorted (pa_cons (pv 1) pa_nil)) pa_nil)) rfl)
    (pss_one (ps_fld (pv 0) (pe_call GV hr1 rfl gV kV bV .nil pass0 (pa_cons (pv 1) pa_nil)) rfl)))), ?_⟩
  refine ⟨_, rfl, _, _, ds, rfl, rp, .inl rfl, by omega, fun H1 s1 => ⟨_, rfl, ?_⟩⟩
  cases hA : areAt ds with
  | false => exact iteT (kE hA H1 s1)
  | true =>
    refine iteF ?_
    obtain ⟨as, rfl, gs, l1, l4⟩ := are_good hA
    cases rp with
    | @tup _ xs _ hp rx =>
      have hx1 := s1 _ _ hx
      have hp1 := s1 _ _ hp
      have nxp : x ≠ p := ne_of hx1 hp1 (by intro z; cases z)
      refine ⟨_, rfl, _, rfl, x, C, dx, [], rfl, hx1, TQ.cl, TQ.nG, by decide, ?_⟩
      obtain ⟨bs, e1, e2, e3⟩ := rp_zip (rx.mono s1)
      have keep : ∀ {H2 : Hp} {o : HO} {b : V × PyData}, Rp H2 b.1 b.2 → b ∈ bs → (∃ dx fs, H2 x = some (.ins C dx fs)) → Rp (upd H2 x o) b.1 b.2 := fun {H2 o b} rb hb hi => by
        have m : b.2 ∈ as.map atD := by
          rw [← e2]
          exact List.mem_map.mpr ⟨b, hb, rfl⟩
        obtain ⟨t, _, et⟩ := List.mem_map.mp m
        rw [← et] at rb ⊢
        obtain ⟨q, eq, hq⟩ := at_of rb
        rw [eq]
        obtain ⟨dx', fs', hi⟩ := hi
        have nqx : q ≠ x := ne_of hq hi (by intro z; cases z)
        exact .tup (by rw [upd_ne nqx]; exact hq) (.cons (.str _) (.cons (.int _) (.cons (.int _) .nil)))
      -- self.ordered = tuple(sorted(atoms))
      have hpx : (upd H1 x (.ins C dx (putF "given" (.ref p) []))) p = some (.tup (bs.map Prod.fst)) := by
        rw [upd_ne nxp.symm, e1]
        exact hp1
      refine ⟨_, rfl, p, bs, rfl, .inr hpx, fun b hb => keep (e3 b hb) hb ⟨_, _, hx1⟩, by rw [e2]; exact alike_all as, by rw [e2]; exact sortable_at as, fun b hb => ?_, ?_, fun l hl => ?_⟩
      · have m : b.2 ∈ as.map atD := by
          rw [← e2]
          exact List.mem_map.mpr ⟨b, hb, rfl⟩
        obtain ⟨t, _, et⟩ := List.mem_map.mp m
        rw [← et]
        exact depth_at t
      · have lb : bs.length = as.length := by
          have z := congrArg List.length e2
          rw [List.length_map, List.length_map] at z
          exact z
        rw [lb]
        exact Nat.le_trans l4 (by decide)
      refine ⟨l, _, rfl, .inl ⟨.inl (.inl upd_same), fun o ho => ?_⟩⟩
      have nol : o ≠ l := fun z => by
        rw [z, upd_same] at ho
        cases ho
      have hoo : (upd H1 x (.ins C dx (putF "given" (.ref p) []))) o = none := by
        rw [upd_ne nol] at ho
        exact ho
      have nxl : x ≠ l := fun z => by
        rw [← z, upd_same] at hl
        cases hl
      have nxo : x ≠ o := fun z => by
        rw [← z, upd_same] at hoo
        cases hoo
      have npl : p ≠ l := ne_of_none hpx hl
      have npo : p ≠ o := ne_of_none hpx hoo
      generalize hH2 : upd (upd (upd H1 x (.ins C dx (putF "given" (.ref p) []))) l (.lst ((sortD bs).map Prod.fst))) o (.tup ((sortD bs).map Prod.fst)) = H2
      have x2 : H2 x = some (.ins C dx (putF "given" (.ref p) [])) := by
        rw [← hH2, upd_ne nxo, upd_ne nxl, upd_same]
      have p2 : H2 p = some (.tup (bs.map Prod.fst)) := by
        rw [← hH2, upd_ne npo, upd_ne npl]
        exact hpx
      have o2 : H2 o = some (.tup ((sortD bs).map Prod.fst)) := by
        rw [← hH2, upd_same]
      have s12 : ∀ b ob, b ≠ x → H1 b = some ob → H2 b = some ob := fun b ob hb e => by
        have z : (upd H1 x (.ins C dx (putF "given" (.ref p) []))) b = some ob := by
          rw [upd_ne hb]
          exact e
        rw [← hH2, upd_ne (ne_of_none z hoo), upd_ne (ne_of_none z hl)]
        exact z
      have r2 : ∀ b ∈ bs, Rp H2 b.1 b.2 := fun b hb => by
        have z := keep (o := .ins C dx (putF "given" (.ref p) [])) (e3 b hb) hb ⟨_, _, hx1⟩
        rw [← hH2]
        exact (z.mono (same_new hl)).mono (same_new ho)
      refine ⟨_, rfl, x, C, dx, _, rfl, x2, TQ.cl, TQ.nO, putF_1 _ _, ?_⟩
      have nox : o ≠ x := nxo.symm
      -- self.used = variables_of(atoms)
      have rp3 : Rp (upd H2 x (.ins C dx (putF "ordered" (.ref o) (putF "given" (.ref p) [])))) (.ref p) (.tuple (as.map atD)) := by
        refine .tup (by rw [upd_ne nxp.symm]; exact p2) ?_
        rw [← e2]
        exact zip_rp fun b hb => keep (r2 b hb) hb ⟨_, _, x2⟩
      refine ⟨_, rfl, _, _, as, rfl, rp3, .inl rfl, by omega, fun u ns H4 hu s4 h4 hs hk => ?_⟩
      have x4 := s4 _ _ (upd_same (H := H2) (a := x) (o := .ins C dx (putF "ordered" (.ref o) (putF "given" (.ref p) []))))
      refine ⟨_, rfl, x, C, dx, _, rfl, x4, TQ.cl, TQ.nU, putF_2 _ _ _ _, ?_⟩
      have nux : u ≠ x := fun z => by
        rw [z, upd_same] at hu
        cases hu
      have r4 : ∀ b ∈ bs, Rp H4 b.1 b.2 := fun b hb => (keep (r2 b hb) hb ⟨_, _, x2⟩).mono s4
      refine kQ as rfl gs hA _ (fun b ob hb e => ?_) ⟨o, u, ns, upd_same, ?_, hs, hk, bs, e2, ?_, ?_, fun b hb => keep (r4 b hb) hb ⟨_, _, x4⟩⟩
      · rw [upd_ne hb]
        refine s4 b ob ?_
        rw [upd_ne hb]
        exact s12 b ob hb (s1 b ob e)
      · rw [upd_ne nux]
        exact h4
      · rw [upd_ne nxp.symm]
        exact s4 p _ (by rw [upd_ne nxp.symm]; exact p2)
      · rw [upd_ne nox]
        exact s4 o _ (by rw [upd_ne nox]; exact o2)
end
end Q

set_option maxHeartbeats 4000000
namespace Q
open PySem PySem.Spec PyProof.Rows L2 Ca
/-! ### Question.atoms, __len__, text -/
abbrev s_atoms : Stmt := inClass cQ 1
abbrev s_len : Stmt := inClass cQ 4
abbrev s_qtext : Stmt := inClass cQ 11
theorem IsQ.mono {H H' : Hp} {C x dx p : Addr} {as : List At} (s : Same H H') (h : IsQ H C x dx p as) : IsQ H' C x dx p as := by
  obtain ⟨o, u, ns, h1, h2, h3, h4, bs, e1, e2, e3, e4⟩ := h.obj
  exact ⟨o, u, ns, s _ _ h1, s _ _ h2, h3, h4, bs, e1, s _ _ e2, s _ _ e3, fun b hb => (e4 b hb).mono s⟩
theorem IsQ.atoms {H : Hp} {C x dx p : Addr} {as : List At} (h : IsQ H C x dx p as) : Rp H (.ref p) (.tuple (as.map atD)) := by
  obtain ⟨o, u, ns, h1, h2, h3, h4, bs, e1, e2, e3, e4⟩ := h.obj
  rw [← e1]
  exact .tup e2 (zip_rp e4)
theorem sc_atoms : FnScope ["self"] ["self"] (defScope s_atoms) := ⟨rfl, rfl, rfl, by decide +kernel, rfl, by decide +kernel, by decide +kernel⟩
theorem sc_len : FnScope ["self"] ["self"] (defScope s_len) := ⟨rfl, rfl, rfl, by decide +kernel, rfl, by decide +kernel, by decide +kernel⟩
theorem sc_qtext : FnScope ["self"] ["self"] (defScope s_qtext) := ⟨rfl, rfl, rfl, by decide +kernel, rfl, by decide +kernel, by decide +kernel⟩
def spAtoms (C : Addr) : Sp := fun vs H Q _ => ∃ (x dx p : Addr) (as : List At), vs = [.ref x] ∧ IsQ H C x dx p as ∧ Q (.ref p) H
def spLen (C : Addr) : Sp := fun vs H Q _ => ∃ (x dx p : Addr) (as : List At), vs = [.ref x] ∧ IsQ H C x dx p as ∧ Q (.int as.length) H
def spQText (C : Addr) : Sp := fun vs H Q _ => ∃ (x dx p : Addr) (as : List At), vs = [.ref x] ∧ IsQ H C x dx p as ∧ as.length ≤ 30 ∧ (∀ a ∈ as, Good a) ∧ ∀ H', Same H H' → Q (.str (txt as)) H'
section
variable {P : Program} {w : World} {K : PySem.W.Frag} {mg : PySem.Str → Option Value} {base : Heap}
theorem ok_atoms {f C N : Addr} {fd : FuncData} (F : FnM K "atoms" "Question.atoms" s_atoms f fd) (TQ : QT K mg C N) : FnOk P w K mg base CX0 1 f fd ["self"] (spAtoms C) := by
  refine F.ok sc_atoms (fun vs H Q E h => ?_) (fun cdv A outer s H vs Q E hr h => ?_)
  · obtain ⟨x, dx, p, as, rfl, _⟩ := h
    rfl
  · obtain ⟨x, dx, p, as, rfl, hq, q⟩ := h
    obtain ⟨o, u, ns, h1, _⟩ := hq.obj
    exact ⟨_, PSs.nox (pss_one (ps_ret (pe_fld (pv 0) rfl))), _, rfl, x, C, dx, _, _, rfl, h1, TQ.cl, TQ.nG, qf_given _ _ _, q⟩
theorem ok_len {f C N : Addr} {fd : FuncData} (F : FnM K "__len__" "Question.__len__" s_len f fd) (TQ : QT K mg C N) (T : Tx K mg) : FnOk P w K mg base CX0 1 f fd ["self"] (spLen C) := by
  refine F.ok sc_len (fun vs H Q E h => ?_) (fun cdv A outer s H vs Q E hr h => ?_)
  · obtain ⟨x, dx, p, as, rfl, _⟩ := h
    rfl
  · obtain ⟨x, dx, p, as, rfl, hq, q⟩ := h
    obtain ⟨o, u, ns, h1, _, _, _, bs, e1, e2, _⟩ := hq.obj
    refine ⟨_, PSs.nox (pss_one (ps_ret (pe_callB call_len_seq (by rfl) T.len bLen (pa_cons (pe_fld (pv 0) rfl) pa_nil)))), ?_⟩
    refine ⟨_, rfl, x, C, dx, _, _, rfl, h1, TQ.cl, TQ.nG, qf_given _ _ _, p, _, rfl, .inr (.inl (.inl e2)), ?_⟩
    have z : (bs.map Prod.fst).length = as.length := by
      have z := congrArg List.length e1
      rw [List.length_map, List.length_map] at z
      rw [List.length_map, z]
    rw [z]
    exact q
theorem ok_qtext {f C N fT : Addr} {fd fdT : FuncData} (F : FnM K "text" "Question.text" s_qtext f fd) (TQ : QT K mg C N) (GT : FnOk P w K mg base CX0 1 fT fdT ["atoms"] spText) (bT : Binds K fdT ["atoms"] [])
    (kT : PySem.W.keepIn K (.ref fT) = true) (gT : mg "text_of_atoms" = some (.ref fT)) : FnOk P w K mg base CX0 2 f fd ["self"] (spQText C) := by
  refine F.ok sc_qtext (fun vs H Q E h => ?_) (fun cdv A outer s H vs Q E hr h => ?_)
  · obtain ⟨x, dx, p, as, rfl, _⟩ := h
    rfl
  · obtain ⟨x, dx, p, as, rfl, hq, hz, hg, q⟩ := h
    obtain ⟨o, u, ns, h1, _⟩ := hq.obj
    refine ⟨_, PSs.nox (pss_one (ps_ret (pe_call GT hr rfl gT kT bT .nil pass0 (pa_cons (pe_fld (pv 0) rfl) pa_nil)))), ?_⟩
    exact ⟨_, rfl, x, C, dx, _, _, rfl, h1, TQ.cl, TQ.nG, qf_given _ _ _, _, _, as, rfl, hq.atoms, .inl rfl, hz, hg, q⟩
end
/-! ### making a question by a call -/
section
variable {X : Cx} {CX : CXT} {k : Nat} {f C : Addr} {sp : Sp} {E : XK} {x : PySem.Str} {p pos : Pos}
theorem pe_makeR0 (M : Mk X.K C f) (F : FnR X.prog X.w X.K X.mg X.base CX k f sp) (hr : Room (k + 1) X.A) (hg : Gl X x) (hm : X.mg x = some (.ref C)) (hx : Passes CX X E)
    (hdb : (x == ("__debug__" : PySem.Str)) = false := by decide) : PE X (.Call (.Name x p) [] [] pos) (StX.tMakeR C sp E tNil) :=
  ⟨fun pins s σ H Q I h => wpAny_Call_Name_kw (ld_glob I hg hm (PySem.W.callWith_K0 I.kIn M.kp (StX.run_makeR M F hr hx I .nil h)) hdb)⟩
/-- what is asked where Question(..) is called with the values vs, which read as ds -/
theorem make_q {N : Addr} {H : Hp} {vs : List V} {ds : List PyData} {Q : VK} {E : XK} (r : RpA H vs ds) (hz : ds.length ≤ 30)
    (kE : areAt ds = false → ∀ H', Same H H' → E (.ref N) none H')
    (kQ : ∀ as : List At, ds = as.map atD → (∀ a ∈ as, Good a) → areAt ds = true → ∀ x dx p H', H x = none → Same H H' → IsQ H' C x dx p as → Q (.ref x) H') :
    ∀ x dx, H x = none → H dx = none → dx ≠ x → spInitR C N (.ref x :: vs) (upd (upd H dx (.own x)) x (.ins C dx [])) (fun v H2 => v = .non ∧ Q (.ref x) H2) E := by
  intro x dx nx nd ne
  have l := r.length
  have sz : vs.length ≤ sizeLine := by
    rw [l]
    exact Nat.le_trans hz (by decide)
  have s0 : Same H (upd (upd H dx (.own x)) x (.ins C dx [])) := fun b o e => by
    rw [upd_ne (ne_of_none e nx), upd_ne (ne_of_none e nd)]
    exact e
  refine ⟨[.ref x], vs, rfl, rfl, sz, fun p hp => ?_⟩
  have npx : p ≠ x := fun z => by
    rw [z, upd_same] at hp
    cases hp
  have s1 : Same H (upd (upd (upd H dx (.own x)) x (.ins C dx [])) p (.tup vs)) := s0.trans (same_new hp)
  refine ⟨x, dx, p, ds, rfl, by rw [upd_ne npx.symm, upd_same], .tup upd_same (r.mono s1), hz, fun h H' s => kE h H' (s1.trans s), fun as e g h H' kp hq => ⟨rfl, kQ as e g h x dx p H' nx (fun b o eb => ?_) hq⟩⟩
  exact kp b o (ne_of_none eb nx) (s1 b o eb)
end
end Q

set_option maxHeartbeats 4000000
namespace Q
open PySem PySem.Spec PyProof.Rows L2 Ca
/-! ### _law_built -/
abbrev s_built : Stmt := top 56
def spBuilt (C N : Addr) : Sp := fun vs H Q E => ∃ (l : Addr) (xs : List V) (ds : List PyData), vs = [.ref l] ∧ H l = some (.lst xs) ∧ RpA H xs ds ∧ ds.length ≤ 5 ∧
  (areAt ds = false → ∀ H', Same H H' → E (.ref N) none H') ∧
  (∀ as : List At, ds = as.map atD → (∀ a ∈ as, Good a) → areAt ds = true → ∀ x dx p H', H x = none → Same H H' → IsQ H' C x dx p as → Q (.ref x) H')
theorem sc_built : FnScope ["_law_some"] ["_law_some"] (defScope s_built) := ⟨rfl, rfl, rfl, by decide +kernel, rfl, by decide +kernel, by decide +kernel⟩
section
variable {P : Program} {w : World} {K : PySem.W.Frag} {mg : PySem.Str → Option Value} {base : Heap}
theorem ok_built {f C N fI : Addr} {fd : FuncData} (F : FnP K "_law_built" s_built f fd) (T : Tx K mg) (M : Mk K C fI) (gQ : mg "Question" = some (.ref C))
    (GI : FnR P w K mg base (L2.CX P w) 4 fI (spInitR C N)) : FnOk P w K mg base (L2.CX P w) 6 f fd ["_law_some"] (spBuilt C N) := by
  refine F.ok sc_built (fun vs H Q E h => ?_) (fun cdv A outer s H vs Q E hr h => ?_)
  · obtain ⟨l, xs, ds, rfl, _⟩ := h
    rfl
  · obtain ⟨l, xs, ds, rfl, hl, r, hz, kE, kQ⟩ := h
    have ps := passes_call (X := cxOf (L2.CX P w) P w K mg base ["_law_some"] "_law_built" (defScope s_built) f cdv A outer s H E) (takes_of rfl rfl rfl rfl) (E := E) (fun _ _ _ _ h => h)
    have mk := make_q (C := C) (N := N) (Q := Q) (E := E) r (by omega) kE kQ
    refine ⟨_, (pss_cons (ps_if (pt_cmpR op_eq (pe_callB call_len_seq (by rfl) T.len bLen (pa_cons (pv 0) pa_nil)) pe_int (nomark _)) (pss_one (ps_ret (pe_makeR0 M GI hr rfl gQ ps))) pss_nil)
      (pss_cons (ps_if (pt_cmpR op_eq (pe_callB call_len_seq (by rfl) T.len bLen (pa_cons (pv 0) pa_nil)) pe_int (nomark _)) (pss_one (ps_ret (StX.pe_makeR M GI hr rfl gQ ps (pa_cons (pe_ix ix_list (pv 0) pe_int (fun _ _ => rfl)) pa_nil)))) pss_nil)
      (pss_cons (ps_if (pt_cmpR op_eq (pe_callB call_len_seq (by rfl) T.len bLen (pa_cons (pv 0) pa_nil)) pe_int (nomark _)) (pss_one (ps_ret (StX.pe_makeR M GI hr rfl gQ ps (pa_cons (pe_ix ix_list (pv 0) pe_int (fun _ _ => rfl)) (pa_cons (pe_ix ix_list (pv 0) pe_int (fun _ _ => rfl)) pa_nil))))) pss_nil)
      (pss_cons (ps_if (pt_cmpR op_eq (pe_callB call_len_seq (by rfl) T.len bLen (pa_cons (pv 0) pa_nil)) pe_int (nomark _)) (pss_one (ps_ret (StX.pe_makeR M GI hr rfl gQ ps (pa_cons (pe_ix ix_list (pv 0) pe_int (fun _ _ => rfl)) (pa_cons (pe_ix ix_list (pv 0) pe_int (fun _ _ => rfl)) (pa_cons (pe_ix ix_list (pv 0) pe_int (fun _ _ => rfl)) pa_nil)))))) pss_nil)
      (pss_cons (ps_if (pt_cmpR op_eq (pe_callB call_len_seq (by rfl) T.len bLen (pa_cons (pv 0) pa_nil)) pe_int (nomark _)) (pss_one (ps_ret (StX.pe_makeR M GI hr rfl gQ ps (pa_cons (pe_ix ix_list (pv 0) pe_int (fun _ _ => rfl)) (pa_cons (pe_ix ix_list (pv 0) pe_int (fun _ _ => rfl)) (pa_cons (pe_ix ix_list (pv 0) pe_int (fun _ _ => rfl)) (pa_cons (pe_ix ix_list (pv 0) pe_int (fun _ _ => rfl)) pa_nil))))))) pss_nil)
      (pss_one (ps_ret (StX.pe_makeR M GI hr rfl gQ ps (pa_cons (pe_ix ix_list (pv 0) pe_int (fun _ _ => rfl)) (pa_cons (pe_ix ix_list (pv 0) pe_int (fun _ _ => rfl)) (pa_cons (pe_ix ix_list (pv 0) pe_int (fun _ _ => rfl)) (pa_cons (pe_ix ix_list (pv 0) pe_int (fun _ _ => rfl)) (pa_cons (pe_ix ix_list (pv 0) pe_int (fun _ _ => rfl)) pa_nil))))))))))))), ?_⟩
    have hlen := r.length
    clear r kE kQ
    match xs, hlen, mk, hl with
    | [], hlen, mk, hl =>
      refine ⟨_, rfl, l, _, rfl, .inl (.inl (.inl hl)), rfl, _, rfl, iteT ?_⟩
      exact mk
    | [x0], hlen, mk, hl =>
      refine ⟨_, rfl, l, _, rfl, .inl (.inl (.inl hl)), rfl, _, rfl, iteF ?_⟩
      refine ⟨_, rfl, l, _, rfl, .inl (.inl (.inl hl)), rfl, _, rfl, iteT ?_⟩
      exact ⟨_, rfl, l, _, 0, x0, rfl, rfl, .inl (.inl hl), rfl, mk⟩
    | [x0, x1], hlen, mk, hl =>
      refine ⟨_, rfl, l, _, rfl, .inl (.inl (.inl hl)), rfl, _, rfl, iteF ?_⟩
      refine ⟨_, rfl, l, _, rfl, .inl (.inl (.inl hl)), rfl, _, rfl, iteF ?_⟩
      refine ⟨_, rfl, l, _, rfl, .inl (.inl (.inl hl)), rfl, _, rfl, iteT ?_⟩
      exact ⟨_, rfl, l, _, 0, x0, rfl, rfl, .inl (.inl hl), rfl, _, rfl, l, _, 1, x1, rfl, rfl, .inl (.inl hl), rfl, mk⟩
    | [x0, x1, x2], hlen, mk, hl =>
      refine ⟨_, rfl, l, _, rfl, .inl (.inl (.inl hl)), rfl, _, rfl, iteF ?_⟩
      refine ⟨_, rfl, l, _, rfl, .inl (.inl (.inl hl)), rfl, _, rfl, iteF ?_⟩
      refine ⟨_, rfl, l, _, rfl, .inl (.inl (.inl hl)), rfl, _, rfl, iteF ?_⟩
      refine ⟨_, rfl, l, _, rfl, .inl (.inl (.inl hl)), rfl, _, rfl, iteT ?_⟩
      exact ⟨_, rfl, l, _, 0, x0, rfl, rfl, .inl (.inl hl), rfl, _, rfl, l, _, 1, x1, rfl, rfl, .inl (.inl hl), rfl, _, rfl, l, _, 2, x2, rfl, rfl, .inl (.inl hl), rfl, mk⟩
    | [x0, x1, x2, x3], hlen, mk, hl =>
      refine ⟨_, rfl, l, _, rfl, .inl (.inl (.inl hl)), rfl, _, rfl, iteF ?_⟩
      refine ⟨_, rfl, l, _, rfl, .inl (.inl (.inl hl)), rfl, _, rfl, iteF ?_⟩
      refine ⟨_, rfl, l, _, rfl, .inl (.inl (.inl hl)), rfl, _, rfl, iteF ?_⟩
      refine ⟨_, rfl, l, _, rfl, .inl (.inl (.inl hl)), rfl, _, rfl, iteF ?_⟩
      refine ⟨_, rfl, l, _, rfl, .inl (.inl (.inl hl)), rfl, _, rfl, iteT ?_⟩
      exact ⟨_, rfl, l, _, 0, x0, rfl, rfl, .inl (.inl hl), rfl, _, rfl, l, _, 1, x1, rfl, rfl, .inl (.inl hl), rfl, _, rfl, l, _, 2, x2, rfl, rfl, .inl (.inl hl), rfl, _, rfl, l, _, 3, x3, rfl, rfl, .inl (.inl hl), rfl, mk⟩
    | [x0, x1, x2, x3, x4], hlen, mk, hl =>
      refine ⟨_, rfl, l, _, rfl, .inl (.inl (.inl hl)), rfl, _, rfl, iteF ?_⟩
      refine ⟨_, rfl, l, _, rfl, .inl (.inl (.inl hl)), rfl, _, rfl, iteF ?_⟩
      refine ⟨_, rfl, l, _, rfl, .inl (.inl (.inl hl)), rfl, _, rfl, iteF ?_⟩
      refine ⟨_, rfl, l, _, rfl, .inl (.inl (.inl hl)), rfl, _, rfl, iteF ?_⟩
      refine ⟨_, rfl, l, _, rfl, .inl (.inl (.inl hl)), rfl, _, rfl, iteF ?_⟩
      exact ⟨_, rfl, l, _, 0, x0, rfl, rfl, .inl (.inl hl), rfl, _, rfl, l, _, 1, x1, rfl, rfl, .inl (.inl hl), rfl, _, rfl, l, _, 2, x2, rfl, rfl, .inl (.inl hl), rfl, _, rfl, l, _, 3, x3, rfl, rfl, .inl (.inl hl), rfl, _, rfl, l, _, 4, x4, rfl, rfl, .inl (.inl hl), rfl, mk⟩
    | a :: b :: c :: d :: e :: g :: t, hlen, mk, hl =>
      simp only [List.length_cons] at hlen
      omega
end
end Q

set_option maxHeartbeats 4000000
namespace Q
open PySem PySem.Spec PyProof.Rows L2 Ca
/-! ### _law_asked -/
abbrev s_asked : Stmt := top 54
theorem sc_asked : FnScope ["_law_atoms", "_law_kind", "_law_left", "_law_right"] ["_law_atoms"] (defScope s_asked) := ⟨rfl, rfl, rfl, by decide +kernel, rfl, by decide +kernel, by decide +kernel⟩
def spAsked : Sp := fun vs H Q _ => ∃ (v : V) (as : List At), vs = [v] ∧ Rp H v (.list (as.map atD)) ∧ as.length ≤ 30 ∧ (∀ a ∈ as, Good a) ∧ ∀ H', Same H H' → Q (.str (txt as)) H'
section
variable {P : Program} {w : World} {K : PySem.W.Frag} {mg : PySem.Str → Option Value} {base : Heap}
theorem ok_asked {f : Addr} {fd : FuncData} (F : FnP K "_law_asked" s_asked f fd) (T : Tx K mg) : FnOk P w K mg base CX0 1 f fd ["_law_atoms"] spAsked := by
  refine F.ok sc_asked (fun vs H Q E h => ?_) (fun cdv A outer s H vs Q E hr h => ?_)
  · obtain ⟨v, as, rfl, _⟩ := h
    rfl
  · obtain ⟨v, as, rfl, rp, hz, hg, q⟩ := h
    have small : ∀ n : Nat, n ≤ 1000 → n ≤ sizeLine := fun n h => Nat.le_of_lt (small1000 h)
    cases rp with
    | @lst a xs _ h r =>
      refine ⟨_, PSs.nox (pss_one (ps_ret (pe_join pe_str (pe_lc (own := [("_law_kind", 1), ("_law_left", 2), ("_law_right", 3)]) (g := gTup K 3 (gCons (gName 1) (gCons (gName 2) (gCons (gName 3) gNil)))) (tt := tYes) rfl sc_asked.nd (pi_list (pv 0))
          (blkOk_by (own := [("_law_kind", 1), ("_law_left", 2), ("_law_right", 3)]) (N := ["_law_atoms", "_law_kind", "_law_left", "_law_right"]) (sc := defScope s_asked) (by decide +kernel))
          (fun _ _ _ _ _ => pg_tup (by rfl) (pgs_cons (pg_name (i := 1) sc_asked.nd rfl (Or.inl rfl)) (pgs_cons (pg_name (i := 2) sc_asked.nd rfl (Or.inl rfl)) (pgs_cons (pg_name (i := 3) sc_asked.nd rfl (Or.inl rfl)) pgs_nil))))
          (fun _ _ _ _ _ => pts_nil) (fun _ _ _ _ _ => pe_op op_add_str (pe_op op_add_str (pv 1) (pe_callTy call_str_int (by rfl) T.str bStr (pa_cons (pv 2) pa_nil)))
            (pe_callTy call_str_int (by rfl) T.str bStr (pa_cons (pv 3) pa_nil))))))), ?_⟩
      refine ⟨⟨_, rfl⟩, _, rfl, a, rfl, ⟨_, .inl (.inl h)⟩, fun D hD => lcL (F := atF) h r (by rw [List.length_map]; omega) hD (fun x d H' Nx hm s1 hn rx c _ => ?_) fun H' acc s1 h1 h2 => ?_⟩
      · obtain ⟨t, ht, rfl⟩ := List.mem_map.mp hm
        have g := hg t ht
        obtain ⟨p, rfl, hp⟩ := at_of (rx.mono off_same)
        have kl := kind_len g.k
        have ll := dig_len g.l0 g.l9
        have rl := dig_len g.r0 g.r9
        refine ⟨p, _, rfl, .inl (.inl hp), rfl, _, _, rfl, _, _, rfl, _, _, rfl, rfl, rfl, ?_⟩
        refine ⟨_, rfl, _, rfl, _, rfl, dig_log g.l0 g.l9, _, _, rfl, rfl, small _ (by omega), ?_⟩
        refine ⟨_, rfl, _, rfl, dig_log g.r0 g.r9, _, _, rfl, rfl, small _ (by rw [len_app]; omega), ?_⟩
        exact c _ _ H' rfl (Same.refl _) (.str _)
      · have h3 : RpA (off D H') acc (as.map fun a => .str (atT a)) := by
          rw [← atF_map]
          exact h2
        have ea := strs_of h3
        subst ea
        refine ⟨_, D, as.map atT, rfl, rfl, .inl (.inl (.inl h1)), ?_, q _ s1⟩
        rw [sum_len hg, List.length_map]
        have e1 : (PySem.Str.ofString " ").length = 1 := by decide +kernel
        rw [e1]
        omega
end
/-! ### _law_is_atom -/
abbrev s_isatom : Stmt := top 55
theorem sc_isatom : FnScope ["_law_thing", "_law_part"] ["_law_thing"] (defScope s_isatom) := ⟨rfl, rfl, rfl, by decide +kernel, rfl, by decide +kernel, by decide +kernel⟩
def spIsAtom : Sp := fun vs H Q _ => ∃ (v : V) (d : PyData), vs = [v] ∧ Rp H v d ∧ ∀ H', Same H H' → Q (.bl (isTri d 9)) H'
theorem num_nint {d : PyData} {lo hi : Int} (h : isInt d = false) : isNum d lo hi = false := by
  cases d <;> first | rfl | cases h
theorem num_bool {d : PyData} {lo hi : Int} (h : isBool d = true) : isNum d lo hi = false := by
  cases d <;> first | rfl | cases h
section
variable {P : Program} {w : World} {K : PySem.W.Frag} {mg : PySem.Str → Option Value} {base : Heap}
theorem ok_isatom {f : Addr} {fd : FuncData} (F : FnP K "_law_is_atom" s_isatom f fd) (T : Tx K mg) : FnOk P w K mg base CX0 1 f fd ["_law_thing"] spIsAtom := by
  refine F.ok sc_isatom (fun vs H Q E h => ?_) (fun cdv A outer s H vs Q E hr h => ?_)
  · obtain ⟨v, d, rfl, _⟩ := h
    rfl
  · obtain ⟨v, d, rfl, rp, q⟩ := h
    have fin : ∀ {k : Bool} {H' : Hp}, Same H H' → isTri d 9 = k → Q (.bl k) H' := fun s e => by rw [← e]; exact q _ s
    refine ⟨_, PSs.nox (pss_cons (ps_if (PW.pt (pw_or (pt_not (pt_val (pe_callB call_isi (by rfl) T.isi bIsi (pa_cons (pv 0) (pa_cons (pe_bltn (v := .ty "tuple") (by rfl) T.tup bTup rfl) pa_nil)))))
        (pw_or (pt_cmpR op_ne (pe_callB call_len_seq (by rfl) T.len bLen (pa_cons (pv 0) pa_nil)) pe_int (nomark _))
          (pw_or1 (pt_not (pt_val (pe_callB call_isi (by rfl) T.isi bIsi (pa_cons (pe_ix ix_tup (pv 0) pe_int (fun _ _ => rfl)) (pa_cons (pe_bltn (v := .ty "str") (by rfl) T.str bStr rfl) pa_nil))))))))) (pss_one (ps_ret pe_bl)) pss_nil)
      (pss_cons (ps_if (pt_cmpR op_notIn_seq (pe_ix ix_tup (pv 0) pe_int (fun _ _ => rfl)) (pe_lst (pa_cons pe_str (pa_cons pe_str (pa_cons pe_str pa_nil)))) (by rfl)) (pss_one (ps_ret pe_bl)) pss_nil)
      (pss_cons (ps_for PassesOwn.never rfl (pi_tup (pe_slice sl_tup (pv 0) (po_some pe_int) po_none)) (pg_name (i := 1) sc_isatom.nd rfl (.inl rfl))
        (pss_one (ps_if (PW.pt (pw_or (pt_not (pt_val (pe_callB call_isi (by rfl) T.isi bIsi (pa_cons (pv 1) (pa_cons (pe_bltn (v := .ty "int") (by rfl) T.int bInt rfl) pa_nil)))))
          (pw_or (pt_val (pe_callB call_isi (by rfl) T.isi bIsi (pa_cons (pv 1) (pa_cons (pe_bltn (v := .ty "bool") (by rfl) T.bool bBool rfl) pa_nil))))
            (pw_or1 (pt_not (pt_chain op_le op_le pe_int (pv 1) pe_int)))))) (pss_one (ps_ret pe_bl)) pss_nil)))
      (pss_one (ps_ret pe_bl))))), ?_⟩
    refine ⟨_, rfl, _, _, _, _, _, rfl, .ty _, rp.ty, kTup d, _, rfl, ?_⟩
    cases hT : isTup d with
    | false => exact iteT (iteT (fin (Same.refl _) (isTri_not hT)))
    | true =>
      refine iteF ?_
      cases rp with
      | @tup a xs ds h r =>
        refine ⟨_, rfl, a, xs, rfl, .inr (.inl (.inl h)), rfl, _, rfl, ?_⟩
        have hl := r.length
        by_cases h3 : ds.length = 3
        · have e3 : (!decide (V.int ((xs.length : Nat) : Int) = V.int 3)) = false := by
            rw [hl, h3]
            rfl
          rw [e3]
          refine iteF ?_
          match ds, h3 with
          | [dk, dl, dr], _ =>
            cases r with
            | @cons vk _ _ _ rk r =>
              cases r with
              | @cons vl _ _ _ rl r =>
                cases r with
                | @cons vr _ _ _ rr r =>
                  cases r
                  refine ⟨_, rfl, a, _, 0, vk, rfl, rfl, .inl (.inl h), rfl, _, _, _, _, _, rfl, .ty _, rk.ty, kStr dk, _, rfl, ?_⟩
                  cases hS : isStr dk with
                  | false => exact iteT (fin (Same.refl _) (isTri_kind hS))
                  | true =>
                    refine iteF ?_
                    cases rk with
                    | str k =>
                      refine ⟨_, rfl, a, _, 0, _, rfl, rfl, .inl (.inl h), rfl, by show 3 ≤ sizeLine; decide, fun p hp => ?_⟩
                      refine ⟨p, _, rfl, .inl (.inl (.inl upd_same)), rfl, rfl, _, rfl, ?_⟩
                      show if (!kindOk k) = true then _ else _
                      have s1 : Same H (upd H p (.lst [.str "A", .str "B", .str "C"])) := same_new hp
                      have h1 := s1 _ _ h
                      generalize upd H p (.lst [.str "A", .str "B", .str "C"]) = H1 at s1 h1 ⊢
                      cases hk : kindOk k with
                      | false => exact iteT (fin s1 (by simp [isTri, hk]))
                      | true =>
                        refine iteF ?_
                        have e : isTri (.tuple [.str k, dl, dr]) 9 = (isNum dl 0 9 && isNum dr 0 9) := by simp [isTri, hk]
                        refine ⟨_, rfl, 1, rfl, a, _, rfl, .inl (.inl h1), show ¬ (HT.sIx 3 0 (some 1) = 0 ∧ HT.sIx 3 3 none = 3) by decide, fun u hu => ?_⟩
                        have ec : cutV [V.str k, vl, vr] (some 1) none = [vl, vr] := rfl
                        rw [ec]
                        have s2 : Same H (upd H1 u (.tup [vl, vr])) := s1.trans (same_new hu)
                        refine ⟨u, rfl, ⟨_, .inl (.inl upd_same)⟩, for_tup (K := K) (a := u) (xs := [vl, vr]) (fun i σ H' => ∃ z, σ = [some (.ref a), z] ∧ Same H H' ∧ H' u = some (.tup [vl, vr]) ∧ (1 ≤ i → isNum dl 0 9 = true) ∧ (2 ≤ i → isNum dr 0 9 = true))
                          ⟨none, rfl, s2, upd_same, fun z => absurd z (by decide), fun z => absurd z (by decide)⟩ (fun i σ H' _ ⟨_, _, _, hu, _⟩ => .inl (.inl hu)) ?_ ?_⟩
                        · rintro i y σ H' hi ⟨z, rfl, s3, hu3, c1, c2⟩
                          obtain ⟨dy, ry, bad, good1, good2⟩ : ∃ dy, Rp H' y dy ∧ (isNum dy 0 9 = false → isTri (.tuple [.str k, dl, dr]) 9 = false) ∧ (isNum dy 0 9 = true → 1 ≤ i + 1 → isNum dl 0 9 = true) ∧ (isNum dy 0 9 = true → 2 ≤ i + 1 → isNum dr 0 9 = true) := by
                            match i, hi with
                            | 0, hi =>
                              cases (show some vl = some y from hi)
                              exact ⟨dl, rl.mono s3, fun z => by rw [e, z]; rfl, fun z _ => z, fun _ z => absurd z (by decide)⟩
                            | 1, hi =>
                              cases (show some vr = some y from hi)
                              exact ⟨dr, rr.mono s3, fun z => by rw [e, z, Bool.and_false], fun _ _ => c1 (by decide), fun z _ => z⟩
                            | n + 2, hi => cases (show none = some y from hi)
                          refine ⟨y, rfl, _, _, _, _, _, rfl, .ty _, ry.ty, kInt dy, _, rfl, ?_⟩
                          cases hI : isInt dy with
                          | false => exact iteT (iteT (fin s3 (bad (num_nint hI))))
                          | true =>
                            refine iteF ⟨y, rfl, _, _, _, _, _, rfl, .ty _, ry.ty, kBool dy, _, rfl, ?_⟩
                            cases hB : isBool dy with
                            | true => exact iteT (iteT (fin s3 (bad (num_bool hB))))
                            | false =>
                              refine iteF ?_
                              cases ry with
                              | int n =>
                                refine ⟨_, rfl, 0, n, rfl, rfl, decide ((0 : Int) ≤ n), rfl, ?_⟩
                                by_cases c3 : (0 : Int) ≤ n
                                · rw [decide_eq_true c3]
                                  refine iteT ⟨n, 9, rfl, rfl, decide (n ≤ 9), rfl, ?_⟩
                                  by_cases c4 : n ≤ 9
                                  · have nn : isNum (.int n) 0 9 = true := by simp [isNum, c3, c4]
                                    rw [decide_eq_true c4]
                                    exact iteF ⟨_, rfl, s3, hu3, good1 nn, good2 nn⟩
                                  · rw [decide_eq_false c4]
                                    exact iteT (fin s3 (bad (by simp [isNum, c4])))
                                · rw [decide_eq_false c3]
                                  refine iteF ⟨_, rfl, iteT (fin s3 (bad (by simp [isNum, c3])))⟩
                              | bl b => cases hB
                              | _ => cases hI
                        · rintro σ H' ⟨z, rfl, s3, hu3, c1, c2⟩
                          exact fin s3 (by rw [e, c1 (show 1 ≤ 2 by decide), c2 (show 2 ≤ 2 by decide)]; rfl)
                    | _ => cases hS
        · have e3 : (!decide (V.int ((xs.length : Nat) : Int) = V.int 3)) = true := by
            have z : ¬ V.int ((xs.length : Nat) : Int) = V.int 3 := fun z => by
              injection z with z
              omega
            rw [decide_eq_false z]
            rfl
          rw [e3]
          exact iteT (iteT (fin (Same.refl _) (isTri_tup h3)))
      | _ => cases hT
end
end Q

set_option maxHeartbeats 4000000
namespace Q
open PySem PySem.Spec PyProof.Rows L2 Ca
/-! ### what both sides say of some values -/
def atS (d : PyData) : Option PySem.Str := match d with
  | .tuple [.str k, .int l, .int r] => some (atT ⟨k, l, r⟩)
  | _ => none
def txtD (ds : List PyData) : PySem.Str := Txt.join " " (ds.filterMap atS)
theorem txtD_at (as : List At) : txtD (as.map atD) = txt as := by
  unfold txtD txt
  congr 1
  induction as with
  | nil => rfl
  | cons a as ih =>
    rw [List.map_cons, List.filterMap_cons]
    show atT a :: (as.map atD).filterMap atS = _
    rw [ih]
    rfl
def saidD (ds : List PyData) : PyData := if areAt ds = true then .list [.tuple ds, .int ds.length, .str (txtD ds)] else .str "atoms"
theorem said_yes {ds : List PyData} (h : areAt ds = true) : saidD ds = .list [.tuple ds, .int ds.length, .str (txtD ds)] := if_pos h
theorem said_no {ds : List PyData} (h : areAt ds = false) : saidD ds = .str "atoms" := if_neg (by rw [h]; simp)
def spSaid : Sp := fun vs H Q _ => ∃ (l : Addr) (xs : List V) (ds : List PyData), vs = [.ref l] ∧ H l = some (.lst xs) ∧ RpA H xs ds ∧ ds.length ≤ 5 ∧ ∀ v H', Same H H' → Rp H' v (saidD ds) → Q v H'
/-! ### _law_due -/
abbrev s_due : Stmt := top 58
theorem sc_due : FnScope ["_law_some", "_law_one"] ["_law_some"] (defScope s_due) := ⟨rfl, rfl, rfl, by decide +kernel, rfl, by decide +kernel, by decide +kernel⟩
section
variable {P : Program} {w : World} {K : PySem.W.Frag} {mg : PySem.Str → Option Value} {base : Heap}
theorem ok_due {f fA fQ : Addr} {fd fdA fdQ : FuncData} (F : FnP K "_law_due" s_due f fd) (T : Tx K mg)
    (GA : FnOk P w K mg base CX0 1 fA fdA ["_law_thing"] spIsAtom) (bA : Binds K fdA ["_law_thing"] []) (kA : PySem.W.keepIn K (.ref fA) = true) (gA : mg "_law_is_atom" = some (.ref fA))
    (GQ : FnOk P w K mg base CX0 1 fQ fdQ ["_law_atoms"] spAsked) (bQ : Binds K fdQ ["_law_atoms"] []) (kQ : PySem.W.keepIn K (.ref fQ) = true) (gQ : mg "_law_asked" = some (.ref fQ)) :
    FnOk P w K mg base CX0 2 f fd ["_law_some"] spSaid := by
  refine F.ok sc_due (fun vs H Q E h => ?_) (fun cdv A outer s H vs Q E hr h => ?_)
  · obtain ⟨l, xs, ds, rfl, _⟩ := h
    rfl
  · obtain ⟨l, xs, ds, rfl, hl, r, hz, q⟩ := h
    have no : ∀ {H' : Hp}, Same H H' → areAt ds = false → Q (.str "atoms") H' := fun s e => q _ _ s (by rw [said_no e]; exact .str _)
    refine ⟨_, PSs.nox (pss_cons (ps_if (PW.pt (pw_or (pt_not (pt_chain op_le op_le pe_int (pe_callB call_len_seq (by rfl) T.len bLen (pa_cons (pv 0) pa_nil)) pe_int))
        (pw_or1 (pt_not (pt_val (pe_callB (cr_all rfl) (by rfl) T.all bAll (pa_cons (pe_lc (own := [("_law_one", 1)]) (g := gName 1) (tt := tYes) rfl sc_due.nd (pi_list (pv 0))
            (blkOk_by (own := [("_law_one", 1)]) (N := ["_law_some", "_law_one"]) (sc := defScope s_due) (by decide +kernel))
            (fun _ _ _ _ _ => pg_name (i := 1) sc_due.nd rfl (Or.inl rfl)) (fun _ _ _ _ _ => pts_nil)
            (fun _ _ _ _ _ => pe_call GA hr rfl gA kA bA .nil pass0 (pa_cons (pv 1) pa_nil))) pa_nil))))))) (pss_one (ps_ret pe_str)) pss_nil)
      (pss_one (ps_ret (pe_lst (pa_cons (pe_callTy call_tuple_of (by rfl) T.tup bTup (pa_cons (pv 0) pa_nil)) (pa_cons (pe_callB call_len_seq (by rfl) T.len bLen (pa_cons (pv 0) pa_nil))
        (pa_cons (pe_call GQ hr rfl gQ kQ bQ .nil pass0 (pa_cons (pv 0) pa_nil)) pa_nil))))))), ?_⟩
    have hlen := r.length
    refine ⟨_, rfl, l, xs, rfl, .inl (.inl (.inl hl)), 1, _, rfl, rfl, decide ((1 : Int) ≤ ((xs.length : Nat) : Int)), rfl, ?_⟩
    by_cases c1 : (1 : Int) ≤ ((xs.length : Nat) : Int)
    · rw [decide_eq_true c1]
      refine iteT ⟨_, 4, rfl, rfl, decide (((xs.length : Nat) : Int) ≤ 4), rfl, ?_⟩
      have k1 : decide (1 ≤ ds.length) = true := decide_eq_true (by omega)
      by_cases c2 : ((xs.length : Nat) : Int) ≤ 4
      · have k2 : decide (ds.length ≤ 4) = true := decide_eq_true (by omega)
        have ea : areAt ds = ds.all fun d => isTri d 9 := by simp [areAt, k1, k2]
        rw [decide_eq_true c2]
        refine iteF ⟨_, rfl, l, rfl, ⟨_, .inl (.inl hl)⟩, fun D hD => lcL (F := fun d => some (.bool (isTri d 9))) hl r (by omega) hD (fun x d H' Nx _ s1 hn rx c _ => ⟨rfl, ?_⟩) fun H1 acc s1 h1 h2 => ?_⟩
        · exact ⟨x, rfl, x, d, rfl, rx.mono off_same, fun H2 s2 => c _ _ H2 rfl s2 (.bl _)⟩
        · rw [keptD_map] at h2
          have ex := bools_of h2
          subst ex
          refine ⟨D, _, rfl, .inl (.inl h1), _, rfl, ?_⟩
          rw [all_id, ← ea]
          cases hA : areAt ds with
          | false => exact iteT (no s1 hA)
          | true =>
            refine iteF ?_
            obtain ⟨as, rfl, gs, l1, l4⟩ := are_good hA
            have hl1 := s1 _ _ hl
            refine ⟨_, rfl, l, _, rfl, .inl ⟨.inl (.inl hl1), fun p hp => ?_⟩⟩
            have s2 : Same H (upd H1 p (.tup xs)) := s1.trans (same_new hp)
            refine ⟨_, rfl, l, xs, rfl, .inl (.inl (.inl (s2 _ _ hl))), ?_⟩
            refine ⟨_, rfl, _, as, rfl, .lst (s2 _ _ hl) (r.mono s2), by omega, gs, fun H3 s3 => ⟨by show 3 ≤ sizeLine; decide, fun t ht => ?_⟩⟩
            have s4 := s2.trans (s3.trans (same_new (o := .lst [V.ref p, V.int ((xs.length : Nat) : Int), V.str (txt as)]) ht))
            refine q _ _ s4 ?_
            rw [said_yes hA, txtD_at]
            refine .lst upd_same (.cons (.tup ?_ (r.mono s4)) (.cons ?_ (.cons (.str _) .nil)))
            · exact (s3.trans (same_new ht)) _ _ upd_same
            · rw [hlen]
              exact .int _
      · rw [decide_eq_false c2]
        refine iteT (iteT (no (Same.refl _) ?_))
        have k2 : decide (ds.length ≤ 4) = false := decide_eq_false (by omega)
        simp [areAt, k2]
    · rw [decide_eq_false c1]
      refine iteF ⟨_, rfl, iteT (iteT (no (Same.refl _) ?_))⟩
      have k1 : decide (1 ≤ ds.length) = false := decide_eq_false (by omega)
      simp [areAt, k1]
end
/-! ### _law_said -/
abbrev s_said : Stmt := top 57
theorem sc_said : FnScope ["_law_some", "_law_made"] ["_law_some"] (defScope s_said) := ⟨rfl, rfl, rfl, by decide +kernel, rfl, by decide +kernel, by decide +kernel⟩
section
variable {P : Program} {w : World} {K : PySem.W.Frag} {mg : PySem.Str → Option Value} {base : Heap}
theorem ok_said {f C N fB fA pA fL fX : Addr} {fd fdB fdA fdL fdX : FuncData} (F : FnP K "_law_said" s_said f fd) (T : Tx K mg) (TQ : QT K mg C N) (eN : PySem.W.exmOne K (.ref N) (.ref N) = some true)
    (GB : FnOk P w K mg base (L2.CX P w) 6 fB fdB ["_law_some"] (spBuilt C N)) (bB : Binds K fdB ["_law_some"] []) (kB : PySem.W.keepIn K (.ref fB) = true) (gB : mg "_law_built" = some (.ref fB))
    (GA : FnOk P w K mg base CX0 1 fA fdA ["self"] (spAtoms C)) (bA : Binds K fdA ["self"] []) (hA : PropOf K C "atoms" pA fA)
    (GL : FnOk P w K mg base CX0 1 fL fdL ["self"] (spLen C)) (bL : Binds K fdL ["self"] []) (hsL : PySem.W.findIn K (.ref C) "__len__" = some (some (.ref fL))) (hfL : PySem.W.isFn K (.ref fL) = true)
    (GX : FnOk P w K mg base CX0 2 fX fdX ["self"] (spQText C)) (bX : Binds K fdX ["self"] []) (mX : Meth K C "text" fX) :
    FnOk P w K mg base CX0 7 f fd ["_law_some"] spSaid := by
  refine F.ok sc_said (fun vs H Q E h => ?_) (fun cdv A outer s H vs Q E hr h => ?_)
  · obtain ⟨l, xs, ds, rfl, _⟩ := h
    rfl
  · obtain ⟨l, xs, ds, rfl, hl, r, hz, q⟩ := h
    have hr2 : Room 2 _ := hr.mono (by decide)
    refine ⟨_, PSs.nox (pss_cons (ps_try_only (tb := fun W => tAsg (tCallS (spBuilt C N) (WE W) (tCons (tVar 0) tNil)) (gName 1)) (ts := fun _ _ _ => tRet (tC (.str "atoms"))) (Wout := fun _ _ _ _ => False) rfl rfl ⟨rfl, by decide, .inl TQ.gN⟩ takes0
        (fun W pn xe tk _ => pss_one (ps_set (i := 1) sc_said.nd rfl (.inl rfl) (pe_callS GB hr rfl gB kB bB (fun σ => passAt tk σ) (pa_cons (pv 0) pa_nil))))
        (fun a oe cls d pn hz hf => pss_one (ps_ret pe_str)))
      (pss_one (ps_ret (pe_lst (pa_cons (pe_prop (pv 1) TQ.cl hA GA hr2 bA .nil pass0 rfl) (pa_cons (pe_callB (call_lenO hsL hfL GL bL hr2) (by rfl) T.len bLen (pa_cons (pv 1) pa_nil))
        (pa_cons (pe_meth0 (pv 1) TQ.cl mX GX hr2 bX .nil pass0) pa_nil))))))), ?_⟩
    refine ⟨_, rfl, l, xs, ds, rfl, hl, r, hz, fun hA H1 s1 => ⟨true, eN, fun _ a ha => ?_, fun z => nomatch z⟩, fun as e gs hA x dx p H1 nx s1 hq => ?_⟩
    · exact q _ _ s1 (by rw [said_no hA]; exact .str _)
    · subst e
      obtain ⟨o, u, ns, h1, _⟩ := id hq.obj
      have l4 : as.length ≤ 5 := by
        rw [List.length_map] at hz
        exact hz
      refine ⟨_, rfl, x, dx, _, rfl, h1, x, dx, p, as, rfl, hq, ?_⟩
      refine ⟨_, rfl, x, dx, _, rfl, h1, x, dx, p, as, rfl, hq, _, rfl, by omega, by omega, ?_⟩
      refine ⟨_, rfl, x, dx, _, rfl, h1, qf_no _ _ _ (by decide +kernel) (by decide +kernel) (by decide +kernel), x, dx, p, as, rfl, hq, by omega, gs, fun H2 s2 => ⟨by show 3 ≤ sizeLine; decide, fun t ht => ?_⟩⟩
      have s3 := s2.trans (same_new (o := .lst [V.ref p, V.int (as.length : Int), V.str (txt as)]) ht)
      refine q _ _ (s1.trans s3) ?_
      rw [said_yes hA, txtD_at, List.length_map]
      exact .lst upd_same (.cons (hq.atoms.mono s3) (.cons (.int _) (.cons (.str _) .nil)))
end
end Q

set_option maxHeartbeats 4000000
namespace Ca
open PySem PySem.Spec PyProof.Rows L2
/-- data that are short when shown -/
structure Fit (d : PyData) (k n : Nat) : Prop where
  sh : d.showable = true
  dp : d.depth ≤ k
  ln : d.shown.length ≤ n
theorem Fit.mono {d : PyData} {k n k' n' : Nat} (h : Fit d k n) (hk : k ≤ k') (hn : n ≤ n') : Fit d k' n' := ⟨h.sh, Nat.le_trans h.dp hk, Nat.le_trans h.ln hn⟩
theorem fit_none : Fit .none 0 10 := ⟨by simp [PyData.showable], by simp [PyData.depth], by simp only [PyData.shown]; decide +kernel⟩
theorem fit_bool (b : Bool) : Fit (.bool b) 0 10 := ⟨by simp [PyData.showable], by simp [PyData.depth], by simp only [PyData.shown]; cases b <;> decide +kernel⟩
theorem fit_int {i : Int} (h : i.natAbs < 10 ^ 14) : Fit (.int i) 0 20 := by
  refine ⟨?_, by simp [PyData.depth], ?_⟩
  · have h1 : i.natAbs.log2 < 1920 := by
      by_cases z : i.natAbs = 0
      · rw [z]
        decide
      · rw [Nat.log2_lt z]
        exact Nat.lt_of_lt_of_le h (by decide +kernel)
    simpa [PyData.showable] using h1
  · have h2 := int_text_length_le10 (a := i) (k := 14) (by decide) h
    simp only [PyData.shown]
    show (PySem.Str.ofString (toString i)).length ≤ 20
    rw [PySem.ofString_length]
    omega
theorem fit_str {x : PySem.Str} {m : Nat} (hx : ∀ c ∈ x.cps.toList, c < 16 ^ 8) (hl : x.length ≤ m) : Fit (.str x) 0 (10 * m + 2) := by
  refine ⟨by simp [PyData.showable], by simp [PyData.depth], ?_⟩
  have := StrLaws.reprText_len x hx
  simp only [PyData.shown]
  omega
theorem all_sh : ∀ {ds : List PyData} {k n : Nat}, (∀ d ∈ ds, Fit d k n) → PyData.showableAll ds = true ∧ PyData.depthAll ds ≤ k ∧ ((PyData.shownAll ds).map (·.length)).sum ≤ ds.length * n
  | [], _, _, _ => by simp [PyData.showableAll, PyData.depthAll, PyData.shownAll]
  | d :: ds, k, n, h => by
    obtain ⟨h1, h2, h3⟩ := all_sh (ds := ds) fun e he => h e (.tail _ he)
    have f := h d (.head _)
    refine ⟨by simp [PyData.showableAll, f.sh, h1], ?_, ?_⟩
    · simp only [PyData.depthAll]
      have := f.dp
      omega
    · simp only [PyData.shownAll, List.map_cons, List.sum_cons, List.length_cons]
      have := f.ln
      rw [Nat.add_mul]
      omega
theorem shownAll_len (ds : List PyData) : (PyData.shownAll ds).length = ds.length := by
  rw [shownAll_eq_map, List.length_map]
theorem fit_list {ds : List PyData} {k n m : Nat} (h : ∀ d ∈ ds, Fit d k n) (hl : ds.length ≤ m) : Fit (.list ds) (k + 1) (m * (n + 2) + 3) := by
  obtain ⟨h1, h2, h3⟩ := all_sh h
  refine ⟨by simpa [PyData.showable] using h1, by simp only [PyData.depth]; omega, ?_⟩
  simp only [PyData.shown]
  have h4 := listText_len_le (PyData.shownAll ds)
  rw [shownAll_len] at h4
  have h5 : ds.length * (n + 2) ≤ m * (n + 2) := Nat.mul_le_mul_right _ hl
  rw [Nat.mul_add] at h5
  omega
theorem fit_tuple {ds : List PyData} {k n m : Nat} (h : ∀ d ∈ ds, Fit d k n) (hl : ds.length ≤ m) : Fit (.tuple ds) (k + 1) (m * (n + 2) + 3) := by
  obtain ⟨h1, h2, h3⟩ := all_sh h
  refine ⟨by simpa [PyData.showable] using h1, by simp only [PyData.depth]; omega, ?_⟩
  simp only [PyData.shown]
  have h4 := tupleText_len_le (PyData.shownAll ds)
  rw [shownAll_len] at h4
  have h5 : ds.length * (n + 2) ≤ m * (n + 2) := Nat.mul_le_mul_right _ hl
  rw [Nat.mul_add] at h5
  omega
theorem fit_dict0 : Fit (.dict []) 1 10 := ⟨by simp [PyData.showable, PyData.showableKv], by simp [PyData.depth, PyData.depthKv], by simp only [PyData.shown, PyData.shownKv]; decide +kernel⟩
end Ca
namespace Q
open PySem PySem.Spec PyProof.Rows L2 Ca
def Ascii (x : PySem.Str) : Prop := ∀ c ∈ x.cps.toList, c < 16 ^ 8
theorem kind_is {k : PySem.Str} (h : kindOk k = true) : k = "A" ∨ k = "B" ∨ k = "C" := by
  unfold kindOk inV at h
  rw [List.any_eq_true] at h
  obtain ⟨y, hy, e⟩ := h
  rcases List.mem_cons.mp hy with z | hy
  · subst z
    exact .inl (by simpa [eqV] using (Eq.symm (by simpa [eqV] using e)))
  · rcases List.mem_cons.mp hy with z | hy
    · subst z
      exact .inr (.inl (by simpa [eqV] using (Eq.symm (by simpa [eqV] using e))))
    · rcases List.mem_cons.mp hy with z | hy
      · subst z
        exact .inr (.inr (by simpa [eqV] using (Eq.symm (by simpa [eqV] using e))))
      · cases hy
theorem ascii_ofs {x : PySem.Str} (h : x.cps.toList.all (fun c => decide (c < 16 ^ 8)) = true) : Ascii x := fun c hc => of_decide_eq_true (List.all_eq_true.mp h c hc)
theorem ascii_kind {k : PySem.Str} (h : kindOk k = true) : Ascii k := by
  rcases kind_is h with z | z | z <;> subst z <;> exact ascii_ofs (by decide +kernel)
theorem ascii_dig {i : Int} (h0 : 0 ≤ i) (h9 : i ≤ 9) : Ascii (PySem.Str.ofString (toString i)) := by
  obtain ⟨n, rfl⟩ := Int.eq_ofNat_of_zero_le h0
  have h : ∀ n : Nat, n < 10 → (PySem.Str.ofString (toString ((n : Nat) : Int))).cps.toList.all (fun c => decide (c < 16 ^ 8)) = true := by decide +kernel
  exact ascii_ofs (h n (by omega))
theorem ascii_app {x y : PySem.Str} (hx : Ascii x) (hy : Ascii y) : Ascii (x ++ y) := fun c hc => by
  have e : (x ++ y).cps.toList = x.cps.toList ++ y.cps.toList := TL.tl_append x y
  rw [e] at hc
  rcases List.mem_append.mp hc with z | z
  · exact hx c z
  · exact hy c z
theorem ascii_atT {a : At} (g : Good a) : Ascii (atT a) := ascii_app (ascii_app (ascii_kind g.k) (ascii_dig g.l0 g.l9)) (ascii_dig g.r0 g.r9)
theorem ascii_join {s : PySem.Str} (hs : Ascii s) : ∀ {l : List PySem.Str}, (∀ x ∈ l, Ascii x) → Ascii (PySem.Str.join s l)
  | [], _ => fun c hc => by
    have e : (PySem.Str.join s []).cps.toList = [] := TL.tl_join s []
    rw [e] at hc
    cases hc
  | [x], h => fun c hc => by
    have e : (PySem.Str.join s [x]).cps.toList = x.cps.toList := TL.tl_join s [x]
    rw [e] at hc
    exact h x (.head _) c hc
  | x :: y :: r, h => by
    have e : PySem.Str.join s (x :: y :: r) = x ++ s ++ PySem.Str.join s (y :: r) := rfl
    rw [e]
    exact ascii_app (ascii_app (h x (.head _)) hs) (ascii_join hs fun z hz => h z (.tail _ hz))
theorem ascii_txt {as : List At} (h : ∀ a ∈ as, Good a) : Ascii (txt as) := by
  unfold txt
  rw [TL.join_eq]
  refine ascii_join (s := " ") (ascii_ofs (by decide +kernel)) fun x hx => ?_
  obtain ⟨a, ha, rfl⟩ := List.mem_map.mp hx
  exact ascii_atT (h a ha)
theorem txt_len {as : List At} (h : ∀ a ∈ as, Good a) : (txt as).length ≤ 4 * as.length := by
  have z := StrLaws.join_length_le " " (as.map atT)
  rw [sum_len h, List.length_map] at z
  have e1 : (PySem.Str.ofString " ").length = 1 := by decide +kernel
  rw [e1] at z
  unfold txt
  rw [TL.join_eq]
  omega
theorem fit_at {a : At} (g : Good a) : Fit (atD a) 1 100 := by
  refine (fit_tuple (k := 0) (n := 20) (m := 3) (fun d hd => ?_) (Nat.le_refl _)).mono (Nat.le_refl _) (by omega)
  have := g.l0
  have := g.l9
  have := g.r0
  have := g.r9
  rcases List.mem_cons.mp hd with z | hd
  · subst z
    exact (fit_str (ascii_kind g.k) (Nat.le_of_eq (kind_len g.k))).mono (Nat.le_refl _) (by omega)
  · rcases List.mem_cons.mp hd with z | hd
    · subst z
      exact fit_int (by omega)
    · rcases List.mem_cons.mp hd with z | hd
      · subst z
        exact fit_int (by omega)
      · cases hd
/-- what is said of some data is short -/
theorem fit_said {ds : List PyData} {k n : Nat} (h : ∀ d ∈ ds, Fit d k n) (hl : ds.length ≤ 5) (hk : 1 ≤ k) : Fit (saidD ds) (k + 2) (3 * (5 * (n + 2) + 300) + 3) := by
  cases hA : areAt ds with
  | false =>
    rw [said_no hA]
    exact (fit_str (m := 5) (ascii_ofs (by decide +kernel)) (by decide +kernel)).mono (by omega) (by omega)
  | true =>
    rw [said_yes hA]
    obtain ⟨as, rfl, gs, l1, l4⟩ := are_good hA
    have l := txt_len gs
    rw [txtD_at]
    refine (fit_list (k := k + 1) (n := 5 * (n + 2) + 298) (m := 3) (fun d hd => ?_) (Nat.le_refl _)).mono (Nat.le_refl _) (by omega)
    rcases List.mem_cons.mp hd with z | hd
    · subst z
      exact (fit_tuple h hl).mono (Nat.le_refl _) (by omega)
    · rcases List.mem_cons.mp hd with z | hd
      · subst z
        exact (fit_int (i := ((as.map atD).length : Nat)) (by rw [List.length_map]; omega)).mono (by omega) (by omega)
      · rcases List.mem_cons.mp hd with z | hd
        · subst z
          exact (fit_str (m := 16) (ascii_txt gs) (by omega)).mono (by omega) (by omega)
        · cases hd
end Q

set_option maxHeartbeats 4000000
namespace Q
open PySem PySem.Spec PyProof.Rows L2 Ca
/-! ### the source of what is drawn -/
def Src (H : Hp) (s : Addr) : Prop := ∃ a b c : Int, H s = some (.lst [.int a, .int b, .int c])
/-- the source may have changed, nothing else -/
structure Stp (H H' : Hp) (s : Addr) : Prop where
  src : Src H' s
  same : ∀ b, b ≠ s → H' b = H b
theorem Stp.refl {H : Hp} {s : Addr} (h : Src H s) : Stp H H s := ⟨h, fun _ _ => rfl⟩
theorem Stp.trans {H H1 H2 : Hp} {s : Addr} (a : Stp H H1 s) (b : Stp H1 H2 s) : Stp H H2 s := ⟨b.src, fun x hx => (b.same x hx).trans (a.same x hx)⟩
theorem Stp.tup {H H' : Hp} {s t : Addr} {xs : List V} (h : Stp H H' s) (hs : Src H s) (ht : H t = some (.tup xs)) : H' t = some (.tup xs) := by
  obtain ⟨a, b, c, hs⟩ := hs
  rw [h.same t (ne_of ht hs (by intro z; cases z))]
  exact ht
theorem stp_upd {H : Hp} {s : Addr} {a b c : Int} : Stp H (upd H s (.lst [.int a, .int b, .int c])) s := ⟨⟨a, b, c, upd_same⟩, fun _ h => upd_ne h⟩
abbrev s_draw : Stmt := top 50
theorem sc_draw : FnScope ["_law_source_here", "_law_many", "_law_found", "_law_mixed"] ["_law_source_here", "_law_many"] (defScope s_draw) := ⟨rfl, rfl, rfl, by decide +kernel, rfl, by decide +kernel, by decide +kernel⟩
def spDraw : Sp := fun vs H Q _ => ∃ (s : Addr) (m : Int), vs = [.ref s, .int m] ∧ Src H s ∧ 0 < m ∧ m < 2 ^ 62 ∧ ∀ (z : Int) (H' : Hp), 0 ≤ z → z < m → Stp H H' s → Q (.int z) H'
theorem mod_bd (x : Int) {m : Int} (h0 : 0 < m) (h1 : m < 2 ^ 62) : -(2 ^ 64) < x % m ∧ x % m < 2 ^ 64 := by
  have a := Int.emod_nonneg x (show m ≠ 0 by omega)
  have b := Int.emod_lt_of_pos x h0
  omega
theorem cdw {i m : Int} (h0 : 0 < m) (h1 : m < 2 ^ 62) : CDivW i m := wide_div (b := 62) h0 (by omega) (by decide) (by decide)
section
variable {P : Program} {w : World} {K : PySem.W.Frag} {mg : PySem.Str → Option Value} {base : Heap}
theorem ok_draw {f : Addr} {fd : FuncData} (F : FnP K "_law_draw" s_draw f fd) : FnOk P w K mg base CX0 1 f fd ["_law_source_here", "_law_many"] spDraw := by
  refine F.ok sc_draw (fun vs H Q E h => ?_) (fun cdv A outer s H vs Q E hr h => ?_)
  · obtain ⟨s, m, rfl, _⟩ := h
    rfl
  · obtain ⟨s, m, rfl, ⟨a, b, c, hs⟩, m0, m1, q⟩ := h
    refine ⟨_, PSs.nox (pss_cons (ps_if (pt_cmpR op_gt (pe_ix ix_list (pv 0) pe_int (fun _ _ => rfl)) pe_int (nomark _))
        (pss_cons (ps_set (i := 2) sc_draw.nd rfl (.inl rfl) (pe_op op_mod (pe_ix ix_list (pv 0) pe_int (fun _ _ => rfl)) (pv 1)))
        (pss_cons (ps_asg (pe_op op_fdivW (pe_ix ix_list (pv 0) pe_int (fun _ _ => rfl)) (pv 1)) (pg_sub (pv 0) pe_int set_list))
        (pss_one (ps_ret (pv 2))))) pss_nil)
      (pss_cons (ps_asg (pe_op op_add (pe_ix ix_list (pv 0) pe_int (fun _ _ => rfl)) pe_int) (pg_sub (pv 0) pe_int set_list))
      (pss_cons (ps_asg (pe_op op_mod (pe_op op_add (pe_op op_add (pe_op op_mul (pe_ix ix_list (pv 0) pe_int (fun _ _ => rfl)) pe_int) (pe_op op_mul pe_int (pe_ix ix_list (pv 0) pe_int (fun _ _ => rfl)))) pe_int) pe_int) (pg_sub (pv 0) pe_int set_list))
      (pss_cons (ps_set (i := 3) sc_draw.nd rfl (.inl rfl) (pe_op op_mod (pe_op op_add (pe_op op_add (pe_op op_mul (pe_ix ix_list (pv 0) pe_int (fun _ _ => rfl)) (pe_ix ix_list (pv 0) pe_int (fun _ _ => rfl))) (pe_op op_mul pe_int (pe_ix ix_list (pv 0) pe_int (fun _ _ => rfl)))) pe_int) pe_int))
      (pss_cons (ps_set (i := 3) sc_draw.nd rfl (.inl rfl) (pe_op op_mod (pe_op op_add (pe_op op_mul (pv 3) (pv 3)) (pe_op op_mul pe_int (pv 3))) pe_int))
      (pss_one (ps_ret (pe_op op_mod (pe_op op_fdiv (pv 3) pe_int) (pv 1))))))))), ?_⟩
    refine ⟨_, rfl, s, _, 0, _, rfl, rfl, .inl (.inl hs), rfl, a, 0, rfl, rfl, _, rfl, ?_⟩
    by_cases c0 : (0 : Int) < a
    · rw [decide_eq_true c0]
      refine iteT ⟨_, rfl, s, _, 0, _, rfl, rfl, .inl (.inl hs), rfl, _, rfl, a, m, rfl, rfl, m0, ?_⟩
      refine ⟨_, rfl, s, _, 0, _, rfl, rfl, .inl (.inl hs), rfl, _, rfl, a, m, rfl, rfl, cdw m0 m1, ?_⟩
      refine ⟨_, rfl, s, _, 0, 0, rfl, rfl, hs, rfl, ?_⟩
      refine ⟨_, rfl, q _ _ (Int.emod_nonneg _ (by omega)) (Int.emod_lt_of_pos _ m0) ?_⟩
      exact stp_upd
    · rw [decide_eq_false c0]
      refine iteF ⟨_, rfl, s, _, 2, _, rfl, rfl, .inl (.inl hs), rfl, c, 1, rfl, rfl, ?_⟩
      refine ⟨_, rfl, s, _, 2, 2, rfl, rfl, hs, rfl, ?_⟩
      refine ⟨_, rfl, s, _, 1, _, rfl, rfl, .inl (.inl upd_same), rfl, b, 48271, rfl, rfl, .inr ⟨by decide, by decide⟩, ?_⟩
      refine ⟨_, rfl, s, _, 2, _, rfl, rfl, .inl (.inl upd_same), rfl, 1009, _, rfl, rfl, .inl ⟨by decide, by decide⟩, _, _, rfl, rfl, _, 7, rfl, rfl, _, 2147483647, rfl, rfl, show (0 : Int) < 2147483647 by decide, ?_⟩
      refine ⟨_, rfl, s, _, 1, 1, rfl, rfl, upd_same, rfl, ?_⟩
      refine ⟨_, rfl, s, _, 1, _, rfl, rfl, .inl (.inl upd_same), rfl, _, rfl, s, _, 1, _, rfl, rfl, .inl (.inl upd_same), rfl, _, _, rfl, rfl, .inl (mod_bd _ (by decide) (by decide)), ?_⟩
      refine ⟨_, rfl, s, _, 1, _, rfl, rfl, .inl (.inl upd_same), rfl, 69621, _, rfl, rfl, .inl ⟨by decide, by decide⟩, _, _, rfl, rfl, _, 11, rfl, rfl, _, 2147483629, rfl, rfl, show (0 : Int) < 2147483629 by decide, ?_⟩
      refine ⟨_, rfl, _, rfl, _, _, rfl, rfl, .inl (mod_bd _ (by decide) (by decide)), ?_⟩
      refine ⟨_, rfl, 40014, _, rfl, rfl, .inl ⟨by decide, by decide⟩, _, _, rfl, rfl, _, 2147483587, rfl, rfl, show (0 : Int) < 2147483587 by decide, ?_⟩
      refine ⟨_, rfl, _, 16, rfl, rfl, ⟨by decide, by decide⟩, _, rfl, _, m, rfl, rfl, m0, ?_⟩
      exact q _ _ (Int.emod_nonneg _ (by omega)) (Int.emod_lt_of_pos _ m0) (Stp.trans (H1 := upd H s (.lst [.int a, .int b, .int (c + 1)])) stp_upd stp_upd)
end
end Q

set_option maxHeartbeats 4000000
namespace Q
open PySem PySem.Spec PyProof.Rows L2 Ca
abbrev s_cell : Stmt := top 48
abbrev s_source : Stmt := top 49
abbrev s_choose : Stmt := top 51
theorem sc_cell : FnScope ["_law_script", "_law_index"] ["_law_script", "_law_index"] (defScope s_cell) := ⟨rfl, rfl, rfl, by decide +kernel, rfl, by decide +kernel, by decide +kernel⟩
theorem sc_source : FnScope ["_law_cell_here"] ["_law_cell_here"] (defScope s_source) := ⟨rfl, rfl, rfl, by decide +kernel, rfl, by decide +kernel, by decide +kernel⟩
theorem sc_choose : FnScope ["_law_source_here", "_law_values"] ["_law_source_here", "_law_values"] (defScope s_choose) := ⟨rfl, rfl, rfl, by decide +kernel, rfl, by decide +kernel, by decide +kernel⟩
def spCell (K : PySem.W.Frag) : Sp := fun vs H Q _ => ∃ (a : Addr) (ns : List Int) (z0 : Int), vs = [.ref a, .int z0] ∧ 0 ≤ z0 ∧ SqL K H a (ns.map V.int) ∧ ∀ z : Int, Q (.int z) H
def spSource : Sp := fun vs H Q _ => ∃ c : Int, vs = [.int c] ∧ ∀ (p : Addr) (x y z : Int), H p = none → Q (.ref p) (upd H p (.lst [.int x, .int y, .int z]))
def spChoose : Sp := fun vs H Q _ => ∃ (s l : Addr) (xs : List V), vs = [.ref s, .ref l] ∧ Src H s ∧ l ≠ s ∧ H l = some (.lst xs) ∧ 0 < xs.length ∧ xs.length ≤ 1000 ∧
  ∀ (i : Nat) (x : V) (H' : Hp), xs[i]? = some x → Stp H H' s → Q x H'
section
variable {P : Program} {w : World} {K : PySem.W.Frag} {mg : PySem.Str → Option Value} {base : Heap}
theorem ok_cell {f : Addr} {fd : FuncData} (F : FnP K "_law_cell" s_cell f fd) (T : Tx K mg) : FnOk P w K mg base CX0 1 f fd ["_law_script", "_law_index"] (spCell K) := by
  refine F.ok sc_cell (fun vs H Q E h => ?_) (fun cdv A outer s H vs Q E hr h => ?_)
  · obtain ⟨a, ns, i, rfl, _⟩ := h
    rfl
  · obtain ⟨a, ns, z0, rfl, hz, hs, q⟩ := h
    obtain ⟨i, rfl⟩ := Int.eq_ofNat_of_zero_le hz
    refine ⟨_, PSs.nox (pss_cons (ps_if (pt_cmpR op_lt (pv 1) (pe_callB call_len_seq (by rfl) T.len bLen (pa_cons (pv 0) pa_nil)) (nomark _)) (pss_one (ps_ret (pe_ix ix_list (pv 0) (pv 1) (fun _ _ => rfl)))) pss_nil)
      (pss_one (ps_ret pe_int))), ?_⟩
    refine ⟨_, rfl, _, rfl, a, _, rfl, .inl hs, _, _, rfl, rfl, _, rfl, ?_⟩
    by_cases c : (i : Int) < (((ns.map V.int).length : Nat) : Int)
    · rw [decide_eq_true c]
      have hi : i < ns.length := by
        rw [List.length_map] at c
        omega
      refine iteT ⟨_, rfl, _, rfl, a, _, i, .int ns[i], rfl, rfl, hs, L2.at_of rfl ?_, q _⟩
      rw [List.getElem?_map, List.getElem?_eq_getElem hi]
      rfl
    · rw [decide_eq_false c]
      exact iteF (q _)
theorem ok_source {f : Addr} {fd : FuncData} (F : FnP K "_law_source" s_source f fd) (T : Tx K mg) : FnOk P w K mg base CX0 1 f fd ["_law_cell_here"] spSource := by
  refine F.ok sc_source (fun vs H Q E h => ?_) (fun cdv A outer s H vs Q E hr h => ?_)
  · obtain ⟨c, rfl, _⟩ := h
    rfl
  · obtain ⟨c, rfl, q⟩ := h
    refine ⟨_, PSs.nox (pss_one (ps_ret (pe_lst (pa_cons (pe_callB (call_max2 rfl) (by rfl) T.max bMax (pa_cons pe_int (pa_cons (pe_op op_sub (pv 0) (pe_op op_pow pe_int pe_int)) pa_nil)))
      (pa_cons (pe_op op_add (pe_op op_mod (pv 0) pe_int) pe_int) (pa_cons pe_int pa_nil)))))), ?_⟩
    refine ⟨_, rfl, 10, 18, rfl, rfl, ⟨by decide, by decide, by decide⟩, _, _, rfl, rfl, _, _, rfl, ?_⟩
    refine ⟨_, rfl, _, 2147483629, rfl, rfl, show (0 : Int) < 2147483629 by decide, _, 1, rfl, rfl, by show 3 ≤ sizeLine; decide, fun p hp => q p _ _ _ hp⟩
theorem ok_choose {f fD : Addr} {fd fdD : FuncData} (F : FnP K "_law_choose" s_choose f fd) (T : Tx K mg) (GD : FnOk P w K mg base CX0 1 fD fdD ["_law_source_here", "_law_many"] spDraw)
    (bD : Binds K fdD ["_law_source_here", "_law_many"] []) (kD : PySem.W.keepIn K (.ref fD) = true) (gD : mg "_law_draw" = some (.ref fD)) : FnOk P w K mg base CX0 2 f fd ["_law_source_here", "_law_values"] spChoose := by
  refine F.ok sc_choose (fun vs H Q E h => ?_) (fun cdv A outer s H vs Q E hr h => ?_)
  · obtain ⟨s, l, xs, rfl, _⟩ := h
    rfl
  · obtain ⟨s, l, xs, rfl, hs, ne, hl, l0, l1, q⟩ := h
    refine ⟨_, PSs.nox (pss_one (ps_ret (pe_ix ix_list (pv 1) (pe_call GD hr rfl gD kD bD .nil pass0 (pa_cons (pv 0) (pa_cons (pe_callB call_len_seq (by rfl) T.len bLen (pa_cons (pv 1) pa_nil)) pa_nil))) (fun _ _ => rfl)))), ?_⟩
    refine ⟨_, rfl, _, rfl, _, rfl, l, xs, rfl, .inl (.inl (.inl hl)), s, _, rfl, hs, by omega, by omega, fun z H' z0 z1 st => ?_⟩
    obtain ⟨j, rfl⟩ := Int.eq_ofNat_of_zero_le z0
    have hj : j < xs.length := by omega
    refine ⟨l, xs, _, xs[j], rfl, rfl, .inl (.inl ?_), L2.at_of rfl (List.getElem?_eq_getElem hj), q j _ H' (List.getElem?_eq_getElem hj) st⟩
    rw [st.same l ne]
    exact hl
end
end Q

set_option maxHeartbeats 4000000
namespace Q
open PySem PySem.Spec PyProof.Rows L2 Ca
/-! ### _law_words -/
abbrev s_words : Stmt := top 53
abbrev nWords : List PySem.Str := ["_law_source_here", "_law_many", "_law_way", "_law_kinds", "_law_found", "_law_turn", "_law_left", "_law_right"]
theorem sc_words : FnScope nWords ["_law_source_here", "_law_many"] (defScope s_words) := ⟨rfl, rfl, rfl, by decide +kernel, rfl, by decide +kernel, by decide +kernel⟩
/-- all but what stands at s is kept -/
def Kp (s : Addr) (H H' : Hp) : Prop := ∀ b o, b ≠ s → H b = some o → H' b = some o
theorem Kp.refl (s : Addr) (H : Hp) : Kp s H H := fun _ _ _ e => e
theorem Kp.trans {s : Addr} {H H1 H2 : Hp} (a : Kp s H H1) (b : Kp s H1 H2) : Kp s H H2 := fun x o hx e => b x o hx (a x o hx e)
theorem Stp.kp {s : Addr} {H H' : Hp} (h : Stp H H' s) : Kp s H H' := fun b o hb e => by rw [h.same b hb]; exact e
theorem Kp.new {s : Addr} {H : Hp} {p : Addr} {o : HO} (h : H p = none) : Kp s H (upd H p o) := fun b u _ e => same_new h b u e
theorem src_new {H : Hp} {s p : Addr} {o : HO} (hs : Src H s) (h : H p = none) : Src (upd H p o) s := by
  obtain ⟨a, b, c, e⟩ := hs
  exact ⟨a, b, c, same_new h _ _ e⟩
theorem src_upd {H : Hp} {s p : Addr} {o : HO} (hs : Src H s) (h : p ≠ s) : Src (upd H p o) s := by
  obtain ⟨a, b, c, e⟩ := hs
  exact ⟨a, b, c, by rw [upd_ne h.symm]; exact e⟩
/-- atoms stand in tuples: they stay where tuples stay -/
theorem at_keep {H H' : Hp} (k : ∀ t ys, H t = some (.tup ys) → H' t = some (.tup ys)) {x : V} {a : At} (h : Rp H x (atD a)) : Rp H' x (atD a) := by
  obtain ⟨p, rfl, hp⟩ := at_of h
  exact .tup (k _ _ hp) (.cons (.str _) (.cons (.int _) (.cons (.int _) .nil)))
theorem ats_keep {H H' : Hp} (k : ∀ t ys, H t = some (.tup ys) → H' t = some (.tup ys)) : ∀ {as : List At} {xs : List V}, RpA H xs (as.map atD) → RpA H' xs (as.map atD)
  | [], _, h => by
    cases h
    exact .nil
  | a :: as, _, h => by
    cases h with
    | cons h1 h2 => exact .cons (at_keep k h1) (ats_keep k h2)
theorem tup_stp {s : Addr} {H H' : Hp} (hs : Src H s) (h : Stp H H' s) : ∀ t ys, H t = some (.tup ys) → H' t = some (.tup ys) := fun t ys e => h.tup hs e
theorem tup_new {p : Addr} {H : Hp} {o : HO} (h : H p = none) : ∀ t ys, H t = some (.tup ys) → (upd H p o) t = some (.tup ys) := fun t ys e => same_new h t _ e
theorem tup_lst {p : Addr} {H : Hp} {o : HO} {xs : List V} (h : H p = some (.lst xs)) : ∀ t ys, H t = some (.tup ys) → (upd H p o) t = some (.tup ys) := fun t ys e => by
  rw [upd_ne (ne_of e h (by intro z; cases z))]
  exact e
/-- the kinds to choose from -/
def Knd (H : Hp) (k : Addr) : Prop := ∃ ks : List PySem.Str, H k = some (.lst (ks.map V.str)) ∧ 0 < ks.length ∧ ks.length ≤ 3 ∧ ∀ x ∈ ks, kindOk x = true
theorem knd_ne {H : Hp} {k s : Addr} (h : Knd H k) (hs : Src H s) : k ≠ s := by
  obtain ⟨ks, e, l0, _⟩ := h
  obtain ⟨a, b, c, e2⟩ := hs
  refine ne_of e e2 fun z => ?_
  cases ks with
  | nil => cases l0
  | cons x ks => cases z
theorem knd_stp {H H' : Hp} {k s : Addr} (h : Knd H k) (hs : Src H s) (st : Stp H H' s) : Knd H' k := by
  have ne := knd_ne h hs
  obtain ⟨ks, e, z⟩ := h
  exact ⟨ks, by rw [st.same k ne]; exact e, z⟩
def spWords : Sp := fun vs H Q _ => ∃ (s : Addr) (zn : Int) (n : Nat), vs = [.ref s, .int zn] ∧ zn = (n : Int) ∧ n ≤ 5 ∧ Src H s ∧
  ∀ (fo : Addr) (xs : List V) (as : List At) (H' : Hp), H fo = none → Kp s H H' → Src H' s → H' fo = some (.lst xs) → RpA H' xs (as.map atD) → as.length = n → (∀ a ∈ as, Good a) → Q (.ref fo) H'
/-- between two turns -/
structure WInv (s k fo : Addr) (H0 : Hp) (i : Nat) (H : Hp) : Prop where
  kp : Kp s H0 H
  src : Src H s
  knd : Knd H k
  f0 : H0 fo = none
  nk : k ≠ fo
  ns : fo ≠ s
  at_ : ∃ (xs : List V) (as : List At), H fo = some (.lst xs) ∧ RpA H xs (as.map atD) ∧ as.length = i ∧ ∀ a ∈ as, Good a
theorem WInv.stp {s k fo : Addr} {H0 H H' : Hp} {i : Nat} (h : WInv s k fo H0 i H) (st : Stp H H' s) : WInv s k fo H0 i H' := by
  obtain ⟨xs, as, h1, h2, h3, h4⟩ := h.at_
  exact ⟨h.kp.trans st.kp, st.src, knd_stp h.knd h.src st, h.f0, h.nk, h.ns, xs, as, by rw [st.same fo h.ns]; exact h1, ats_keep (tup_stp h.src st) h2, h3, h4⟩
theorem rpA_last {H : Hp} : ∀ {as : List At} {xs : List V}, RpA H xs (as.map atD) → as ≠ [] → ∃ ys y la, xs = ys ++ [y] ∧ la ∈ as ∧ Rp H y (atD la)
  | [], _, _, h => absurd rfl h
  | [a], _, h, _ => by
    cases h with
    | @cons v vs _ _ h1 h2 =>
      cases h2
      exact ⟨[], v, a, rfl, .head _, h1⟩
  | a :: b :: as, _, h, _ => by
    cases h with
    | @cons v vs _ _ h1 h2 =>
      obtain ⟨ys, y, la, e, m, r⟩ := rpA_last (as := b :: as) h2 (by simp)
      exact ⟨v :: ys, y, la, by rw [e]; rfl, .tail _ m, r⟩
def dig (z : Int) : Prop := 0 ≤ z ∧ z ≤ 9
section
variable {P : Program} {w : World} {K : PySem.W.Frag} {mg : PySem.Str → Option Value} {base : Heap}
theorem ok_words {f fD fC : Addr} {fd fdD fdC : FuncData} (F : FnP K "_law_words" s_words f fd) (T : Tx K mg) (GD : FnOk P w K mg base CX0 1 fD fdD ["_law_source_here", "_law_many"] spDraw)
    (bD : Binds K fdD ["_law_source_here", "_law_many"] []) (kD : PySem.W.keepIn K (.ref fD) = true) (gD : mg "_law_draw" = some (.ref fD))
    (GC : FnOk P w K mg base CX0 2 fC fdC ["_law_source_here", "_law_values"] spChoose) (bC : Binds K fdC ["_law_source_here", "_law_values"] []) (kC : PySem.W.keepIn K (.ref fC) = true) (gC : mg "_law_choose" = some (.ref fC)) :
    FnOk P w K mg base CX0 3 f fd ["_law_source_here", "_law_many"] spWords := by
  refine F.ok sc_words (fun vs H Q E h => ?_) (fun cdv A outer s0 H vs Q E hr h => ?_)
  · obtain ⟨s, zn, n, rfl, _⟩ := h
    rfl
  · obtain ⟨s, zn, n, rfl, rfl, n5, hs, q⟩ := h
    have hr1 : Room 1 _ := hr.mono (by decide)
    refine ⟨_, PSs.nox (pss_cons (ps_par (i := 2) (j := 3) (by rfl) sc_words.nd rfl rfl (by decide) rfl rfl (pa_cons (pe_call GD hr1 rfl gD kD bD .nil pass0 (pa_cons (pv 0) (pa_cons pe_int pa_nil))) (pa_cons (pe_call GC hr rfl gC kC bC .nil pass0 (pa_cons (pv 0) (pa_cons (pe_lst (pa_cons (pe_lst (pa_cons pe_str pa_nil)) (pa_cons (pe_lst (pa_cons pe_str pa_nil)) (pa_cons (pe_lst (pa_cons pe_str (pa_cons pe_str pa_nil))) (pa_cons (pe_lst (pa_cons pe_str (pa_cons pe_str (pa_cons pe_str pa_nil)))) pa_nil))))) pa_nil))) pa_nil)) (by rfl))
      (pss_cons (ps_set (i := 4) sc_words.nd rfl (.inl rfl) (pe_lst pa_nil))
      (pss_cons (ps_for PassesOwn.never rfl (pi_range1 rfl T.range (pa_cons (pv 1) pa_nil)) (pg_name (i := 5) sc_words.nd rfl (.inl rfl)) (pss_cons (ps_par (i := 6) (j := 7) (by rfl) sc_words.nd rfl rfl (by decide) rfl rfl (pa_cons (pe_call GD hr1 rfl gD kD bD .nil pass0 (pa_cons (pv 0) (pa_cons pe_int pa_nil))) (pa_cons (pe_call GD hr1 rfl gD kD bD .nil pass0 (pa_cons (pv 0) (pa_cons pe_int pa_nil))) pa_nil)) (by rfl))
      (Evl.pss_cut (ps_if (pt_cmpR op_eq (pv 2) pe_int (nomark _)) (pss_one (ps_par (i := 6) (j := 7) (by rfl) sc_words.nd rfl rfl (by decide) rfl rfl (pa_cons (pe_call GD hr1 rfl gD kD bD .nil pass0 (pa_cons (pv 0) (pa_cons pe_int pa_nil))) (pa_cons (pe_call GD hr1 rfl gD kD bD .nil pass0 (pa_cons (pv 0) (pa_cons pe_int pa_nil))) pa_nil)) (by rfl))) pss_nil)
      (Evl.pss_cut (ps_if (pt_cmpR op_eq (pv 2) pe_int (nomark _)) (pss_one (ps_par (i := 6) (j := 7) (by rfl) sc_words.nd rfl rfl (by decide) rfl rfl (pa_cons (pv 5) (pa_cons (pe_op op_add (pv 5) pe_int) pa_nil)) (by rfl))) pss_nil)
      (Evl.pss_cut (ps_if (pt_cmpR op_eq (pv 2) pe_int (nomark _)) (pss_one (ps_par (i := 6) (j := 7) (by rfl) sc_words.nd rfl rfl (by decide) rfl rfl (pa_cons pe_int (pa_cons (pe_call GD hr1 rfl gD kD bD .nil pass0 (pa_cons (pv 0) (pa_cons pe_int pa_nil))) pa_nil)) (by rfl))) pss_nil)
      (Evl.pss_cut (ps_if (PW.pt (pw_and (pt_cmpR op_eq (pv 2) pe_int (nomark _)) (pw_and (pt_cmpR op_gt (pv 5) pe_int (nomark _)) (pw_and1 (pt_cmpR op_eq (pe_call GD hr1 rfl gD kD bD .nil pass0 (pa_cons (pv 0) (pa_cons pe_int pa_nil))) pe_int (nomark _)))))) (pss_one (ps_par (i := 6) (j := 7) (by rfl) sc_words.nd rfl rfl (by decide) rfl rfl (pa_cons (pe_ix ix_tup (pe_ix ix_list (pv 4) (pe_un un_neg pe_int) (fun _ _ => rfl)) pe_int (fun _ _ => rfl)) (pa_cons (pe_ix ix_tup (pe_ix ix_list (pv 4) (pe_un un_neg pe_int) (fun _ _ => rfl)) pe_int (fun _ _ => rfl)) pa_nil)) (by rfl))) pss_nil)
      (pss_one (ps_expr (pe_bm PySem.F.plainAttrs_list PySem.F.slot_list_append PySem.F.type_list_append mt_append (pv 4) (pa_cons (pe_tup (pa_cons (pe_call GC hr rfl gC kC bC .nil pass0 (pa_cons (pv 0) (pa_cons (pv 3) pa_nil))) (pa_cons (pv 6) (pa_cons (pv 7) pa_nil)))) pa_nil))))))))))
      (pss_one (ps_ret (pv 4)))))), ?_⟩
    refine ⟨_, rfl, s, 5, rfl, hs, by decide, by decide, fun way H1 w0 w5 st1 => ?_⟩
    refine ⟨_, rfl, by show 1 ≤ sizeLine; decide, fun p1 h1 => ⟨by show 1 ≤ sizeLine; decide, fun p2 h2 => ⟨by show 2 ≤ sizeLine; decide, fun p3 h3 => ⟨by show 3 ≤ sizeLine; decide, fun p4 h4 => ⟨by show 4 ≤ sizeLine; decide, fun p5 h5 => ?_⟩⟩⟩⟩⟩
    have m1 := same_new (o := HO.lst [V.str "A"]) h1
    have m2 := same_new (o := HO.lst [V.str "A"]) h2
    have m3 := same_new (o := HO.lst [V.str "A", V.str "B"]) h3
    have m4 := same_new (o := HO.lst [V.str "A", V.str "B", V.str "C"]) h4
    have m5 := same_new (o := HO.lst [V.ref p1, V.ref p2, V.ref p3, V.ref p4]) h5
    have srcE := src_new (o := HO.lst [V.ref p1, V.ref p2, V.ref p3, V.ref p4]) (src_new (o := HO.lst [V.str "A", V.str "B", V.str "C"]) (src_new (o := HO.lst [V.str "A", V.str "B"]) (src_new (o := HO.lst [V.str "A"]) (src_new (o := HO.lst [V.str "A"]) st1.src h1) h2) h3) h4) h5
    have k1 := m5 _ _ (m4 _ _ (m3 _ _ (m2 _ _ (upd_same (H := H1) (a := p1) (o := HO.lst [V.str "A"])))))
    have k2 := m5 _ _ (m4 _ _ (m3 _ _ (upd_same (a := p2) (o := HO.lst [V.str "A"]))))
    have k3 := m5 _ _ (m4 _ _ (upd_same (a := p3) (o := HO.lst [V.str "A", V.str "B"])))
    have k4 := m5 _ _ (upd_same (a := p4) (o := HO.lst [V.str "A", V.str "B", V.str "C"]))
    have kE : Same H1 _ := (((m1.trans m2).trans m3).trans m4).trans m5
    generalize hE : upd (upd (upd (upd (upd H1 p1 (HO.lst [V.str "A"])) p2 (HO.lst [V.str "A"])) p3 (HO.lst [V.str "A", V.str "B"])) p4 (HO.lst [V.str "A", V.str "B", V.str "C"])) p5 (HO.lst [V.ref p1, V.ref p2, V.ref p3, V.ref p4]) = He at srcE k1 k2 k3 k4 kE
    have k5 : He p5 = some (HO.lst [V.ref p1, V.ref p2, V.ref p3, V.ref p4]) := by rw [← hE]; exact upd_same
    have ne5 : p5 ≠ s := by
      obtain ⟨a, b, c, e⟩ := srcE
      exact ne_of k5 e (by intro z; cases z)
    refine ⟨s, p5, _, rfl, srcE, ne5, k5, by show 0 < 4; decide, by show 4 ≤ 1000; decide, fun j x H2 hx st2 => ?_⟩
    obtain ⟨kl, rfl, hk⟩ : ∃ kl, x = V.ref kl ∧ Knd He kl := by
      match j, hx with
      | 0, hx => exact ⟨p1, (Option.some.inj hx).symm, ["A"], k1, by decide, by decide, by decide +kernel⟩
      | 1, hx => exact ⟨p2, (Option.some.inj hx).symm, ["A"], k2, by decide, by decide, by decide +kernel⟩
      | 2, hx => exact ⟨p3, (Option.some.inj hx).symm, ["A", "B"], k3, by decide, by decide, by decide +kernel⟩
      | 3, hx => exact ⟨p4, (Option.some.inj hx).symm, ["A", "B", "C"], k4, by decide, by decide, by decide +kernel⟩
      | m + 4, hx => cases (show none = some x from hx)
    have kp2 : Kp s H H2 := (st1.kp.trans fun b o _ e => kE b o e).trans st2.kp
    have hk2 := knd_stp hk srcE st2
    refine ⟨_, _, rfl, Nat.zero_le _, fun fo hfo => ?_⟩
    have nfs : fo ≠ s := fun z => by
      obtain ⟨a, b, c, e⟩ := st2.src
      rw [z, e] at hfo
      cases hfo
    have f0 : H fo = none := by
      cases e : H fo with
      | none => rfl
      | some o =>
        rw [kp2 fo o nfs e] at hfo
        cases hfo
    have nkf : kl ≠ fo := by
      obtain ⟨ks, e, _⟩ := hk2
      exact ne_of_none e hfo
    have ini : WInv s kl fo H 0 (upd H2 fo (.lst [])) := by
      refine ⟨kp2.trans (Kp.new hfo), src_new st2.src hfo, ?_, f0, nkf, nfs, [], [], upd_same, .nil, rfl, fun a h => by cases h⟩
      obtain ⟨ks, e, z⟩ := hk2
      exact ⟨ks, same_new hfo _ _ e, z⟩
    refine ⟨_, rfl, (n : Int), rfl, by omega, by omega, for_range (lo := 0) (n := n) (fun i σ H' => ∃ t l r, σ = [some (V.ref s), some (V.int n), some (V.int way), some (V.ref kl), some (V.ref fo), t, l, r] ∧ WInv s kl fo H i H') ⟨none, none, none, rfl, ini⟩ ?_ ?_⟩
    · rintro i σ H' hi ⟨t, l, r, rfl, W⟩
      refine ⟨_, rfl, s, 10, rfl, W.src, by decide, by decide, fun a1 Ha a0 a9 sta => ⟨_, rfl, s, 10, rfl, sta.src, by decide, by decide, fun b1 Hb b0 b9 stb => ⟨_, _, rfl, ?_⟩⟩⟩
      have Wb := (W.stp sta).stp stb
      refine ⟨fun σ' Hx => ∃ a b : Int, σ' = [some (V.ref s), some (V.int n), some (V.int way), some (V.ref kl), some (V.ref fo), some (V.int (0 + (i : Int))), some (V.int a), some (V.int b)] ∧ dig a ∧ dig b ∧ WInv s kl fo H i Hx, ?_, ?_⟩
      · refine ⟨_, rfl, rfl, _, rfl, ite2 (fun _ => ?_) fun _ => ⟨a1, b1, rfl, ⟨a0, by omega⟩, ⟨b0, by omega⟩, Wb⟩⟩
        refine ⟨_, rfl, s, 2, rfl, Wb.src, by decide, by decide, fun a2 Hc c0 c2 stc => ⟨_, rfl, s, 2, rfl, stc.src, by decide, by decide, fun b2 Hd d0 d2 std => ⟨_, _, rfl, ?_⟩⟩⟩
        exact ⟨a2, b2, rfl, ⟨c0, by omega⟩, ⟨d0, by omega⟩, (Wb.stp stc).stp std⟩
      rintro σ' Hx ⟨a, b, rfl, da, db, Wx⟩
      refine ⟨fun σ' Hx => ∃ a b : Int, σ' = [some (V.ref s), some (V.int n), some (V.int way), some (V.ref kl), some (V.ref fo), some (V.int (0 + (i : Int))), some (V.int a), some (V.int b)] ∧ dig a ∧ dig b ∧ WInv s kl fo H i Hx, ?_, ?_⟩
      · refine ⟨_, rfl, rfl, _, rfl, ite2 (fun _ => ?_) fun _ => ⟨a, b, rfl, da, db, Wx⟩⟩
        exact ⟨_, rfl, _, rfl, _, 1, rfl, rfl, _, _, rfl, _, _, rfl, ⟨by omega, by omega⟩, ⟨by omega, by omega⟩, Wx⟩
      clear Wx da db
      rintro σ' Hx ⟨a, b, rfl, da, db, Wx⟩
      refine ⟨fun σ' Hx => ∃ a b : Int, σ' = [some (V.ref s), some (V.int n), some (V.int way), some (V.ref kl), some (V.ref fo), some (V.int (0 + (i : Int))), some (V.int a), some (V.int b)] ∧ dig a ∧ dig b ∧ WInv s kl fo H i Hx, ?_, ?_⟩
      · refine ⟨_, rfl, rfl, _, rfl, ite2 (fun _ => ?_) fun _ => ⟨a, b, rfl, da, db, Wx⟩⟩
        refine ⟨_, rfl, s, 4, rfl, Wx.src, by decide, by decide, fun b2 Hc c0 c4 stc => ⟨_, _, rfl, ?_⟩⟩
        exact ⟨0, b2, rfl, ⟨by decide, by decide⟩, ⟨c0, by omega⟩, Wx.stp stc⟩
      clear Wx da db
      rintro σ' Hx ⟨a, b, rfl, da, db, Wx⟩
      refine ⟨fun σ' Hx => ∃ a b : Int, σ' = [some (V.ref s), some (V.int n), some (V.int way), some (V.ref kl), some (V.ref fo), some (V.int (0 + (i : Int))), some (V.int a), some (V.int b)] ∧ dig a ∧ dig b ∧ WInv s kl fo H i Hx, ?_, ?_⟩
      · refine ⟨_, rfl, rfl, _, rfl, ite2 (fun _ => ?_) fun _ => iteF ⟨a, b, rfl, da, db, Wx⟩⟩
        refine ⟨_, rfl, _, 0, rfl, rfl, _, rfl, ite2 (fun hgt => ?_) fun _ => iteF ⟨a, b, rfl, da, db, Wx⟩⟩
        refine ⟨_, rfl, s, 2, rfl, Wx.src, by decide, by decide, fun z Hc c0 c2 stc => ⟨rfl, _, rfl, ite2 (fun _ => ?_) fun _ => ⟨a, b, rfl, da, db, Wx.stp stc⟩⟩⟩
        have Wc := Wx.stp stc
        obtain ⟨xs, as, g1, g2, g3, g4⟩ := Wc.at_
        have i0 : 0 < i := by
          have hg : (0 : Int) < 0 + (i : Int) := of_decide_eq_true hgt
          omega
        obtain ⟨ys, y, la, rfl, ml, ry⟩ := rpA_last g2 (by intro z; rw [z] at g3; simp at g3; omega)
        obtain ⟨p, rfl, hp⟩ := at_of ry
        have gl := g4 la ml
        refine ⟨_, rfl, 1, rfl, fo, _, -1, _, rfl, rfl, .inl (.inl g1), atI_last _ _, p, _, 1, _, rfl, rfl, .inl (.inl hp), rfl, ?_⟩
        refine ⟨_, rfl, 1, rfl, fo, _, -1, _, rfl, rfl, .inl (.inl g1), atI_last _ _, p, _, 2, _, rfl, rfl, .inl (.inl hp), rfl, _, _, rfl, ?_⟩
        exact ⟨la.l, la.r, rfl, ⟨gl.l0, gl.l9⟩, ⟨gl.r0, gl.r9⟩, Wc⟩
      clear Wx da db
      rintro σ' Hx ⟨a, b, rfl, da, db, Wx⟩
      obtain ⟨xs, as, g1, g2, g3, g4⟩ := Wx.at_
      obtain ⟨ks, hks, l0, l3, gk⟩ := id Wx.knd
      refine ⟨_, rfl, .inl ⟨rfl, _, .inl (.inl g1)⟩, ?_⟩
      refine ⟨_, rfl, _, rfl, s, kl, _, rfl, Wx.src, knd_ne Wx.knd Wx.src, hks, by rw [List.length_map]; exact l0, by rw [List.length_map]; omega, fun j x Hc hx stc => ?_⟩
      obtain ⟨kx, mk, rfl⟩ : ∃ kx ∈ ks, x = V.str kx := by
        rw [List.getElem?_map] at hx
        cases e : ks[j]? with
        | none =>
          rw [e] at hx
          cases hx
        | some kx =>
          rw [e] at hx
          exact ⟨kx, List.mem_of_getElem? e, (Option.some.inj hx).symm⟩
      refine ⟨_, rfl, _, rfl, by show 3 ≤ sizeLine; decide, fun t ht => ?_⟩
      have Wc := Wx.stp stc
      have h1 : Hc fo = some (.lst xs) := by
        rw [stc.same fo Wx.ns]
        exact g1
      have ntf : fo ≠ t := ne_of_none h1 ht
      have nts : t ≠ s := fun z => by
        obtain ⟨a, b, c, e⟩ := Wc.src
        rw [z, e] at ht
        cases ht
      have ntk : kl ≠ t := by
        obtain ⟨ks, e, _⟩ := Wc.knd
        exact ne_of_none e ht
      have lx := g2.length
      rw [List.length_map] at lx
      refine ⟨fo, xs, _, rfl, rfl, by rw [upd_ne ntf]; exact h1, small1000 (by omega), ?_⟩
      refine ⟨_, _, _, rfl, ⟨fun u o hu e => ?_, src_upd (src_new Wc.src ht) Wc.ns, ?_, Wc.f0, Wc.nk, Wc.ns, _, as ++ [⟨kx, a, b⟩], upd_same, ?_, ?_, ?_⟩⟩
      · have nuf : u ≠ fo := fun z => by
          rw [z, Wc.f0] at e
          cases e
        rw [upd_ne nuf]
        exact same_new ht _ _ (Wc.kp u o hu e)
      · obtain ⟨ks, e, z⟩ := Wc.knd
        exact ⟨ks, by rw [upd_ne Wc.nk, upd_ne ntk]; exact e, z⟩
      · have kt : ∀ u ys, Hx u = some (.tup ys) → (upd (upd Hc t (.tup [V.str kx, V.int a, V.int b])) fo (.lst (xs ++ [V.ref t]))) u = some (.tup ys) := fun u ys e => by
          have e1 := tup_stp Wx.src stc u ys e
          have e2 := same_new (o := .tup [V.str kx, V.int a, V.int b]) ht _ _ e1
          exact tup_lst (xs := xs) (by rw [upd_ne ntf]; exact h1) u ys e2
        rw [List.map_append]
        refine (ats_keep kt g2).append (.cons (.tup ?_ (.cons (.str _) (.cons (.int _) (.cons (.int _) .nil)))) .nil)
        rw [upd_ne ntf.symm, upd_same]
      · rw [List.length_append, g3]
        rfl
      · intro c hc
        rcases List.mem_append.mp hc with z | z
        · exact g4 c z
        · rw [List.mem_singleton.mp z]
          exact ⟨gk kx mk, da.1, da.2, db.1, db.2⟩
    · rintro σ H' ⟨t, l, r, rfl, W⟩
      obtain ⟨xs, as, g1, g2, g3, g4⟩ := W.at_
      exact ⟨_, rfl, q fo xs as H' W.f0 W.kp W.src g1 g2 g3 g4⟩
end
end Q

set_option maxHeartbeats 4000000
namespace Ca
open PySem PySem.Spec PyProof.Rows L2
/-- te evaluates to a value that reads as d, and what was tracked stays -/
def EvD (te : TE) (σ : L2.St) (H : Hp) (d : PyData) : Prop := ∀ H1, Same H H1 → ∀ Q : VK, (∀ v H2, Same H1 H2 → Rp H2 v d → Q v H2) → te σ H1 Q
def EvA (ta : TA) (σ : L2.St) (H : Hp) (ds : List PyData) : Prop := ∀ H1, Same H H1 → ∀ Q : List V → Hp → Prop, (∀ vs H2, Same H1 H2 → RpA H2 vs ds → Q vs H2) → ta σ H1 Q
section
variable {K : PySem.W.Frag} {σ : L2.St} {H : Hp} {ta tb te : TE} {tas : TA} {d e : PyData} {ds es : List PyData}
theorem ed_var {i : Nat} {v : V} (h : σ[i]? = some (some v)) (r : Rp H v d) : EvD (tVar i) σ H d := fun H1 s Q q => ⟨v, h, q v H1 (Same.refl _) (r.mono s)⟩
theorem ed_int {i : Int} : EvD (tC (.int i)) σ H (.int i) := fun H1 _ Q q => q _ H1 (Same.refl _) (.int i)
theorem ed_str {x : PySem.Str} : EvD (tC (.str x)) σ H (.str x) := fun H1 _ Q q => q _ H1 (Same.refl _) (.str x)
theorem ed_bl {b : Bool} : EvD (tC (.bl b)) σ H (.bool b) := fun H1 _ Q q => q _ H1 (Same.refl _) (.bl b)
theorem ed_non : EvD (tC .non) σ H .none := fun H1 _ Q q => q _ H1 (Same.refl _) .non
theorem ea_nil : EvA tNil σ H [] := fun H1 _ Q q => q _ H1 (Same.refl _) .nil
theorem ea_cons (h : EvD te σ H d) (hs : EvA tas σ H ds) : EvA (tCons te tas) σ H (d :: ds) := fun H1 s Q q =>
  h H1 s _ fun v H2 s2 r => hs H2 (s.trans s2) _ fun vs H3 s3 rs => q _ H3 (s2.trans s3) (.cons (r.mono s3) rs)
theorem ed_tup (h : EvA tas σ H ds) (hl : ds.length ≤ 1000) : EvD (tTup tas) σ H (.tuple ds) := fun H1 s Q q =>
  h H1 s _ fun vs H2 s2 r => ⟨by rw [r.length]; exact Nat.le_of_lt (small1000 hl), fun p hp => q _ _ (s2.trans (same_new hp)) (.tup upd_same (r.mono (same_new hp)))⟩
theorem ed_lst (h : EvA tas σ H ds) (hl : ds.length ≤ 1000) : EvD (tLst tas) σ H (.list ds) := fun H1 s Q q =>
  h H1 s _ fun vs H2 s2 r => ⟨by rw [r.length]; exact Nat.le_of_lt (small1000 hl), fun p hp => q _ _ (s2.trans (same_new hp)) (.lst upd_same (r.mono (same_new hp)))⟩
theorem ed_dic : EvD tDNewK σ H (.dict []) := fun H1 s Q q => fun p hp => q _ _ (same_new hp) (.dic upd_same)
theorem ed_neg {i : Int} : EvD (tUn (rU fun i => .int (-i)) (tC (.int i))) σ H (.int (-i)) := fun H1 s Q q => ⟨i, rfl, q _ H1 (Same.refl _) (.int _)⟩
/-- xs + ys, two lists -/
theorem ed_catL (ha : EvD ta σ H (.list ds)) (hb : EvD tb σ H (.list es)) (hl : ds.length + es.length ≤ 1000) : EvD (tOp rCat ta tb) σ H (.list (ds ++ es)) := fun H1 s Q q =>
  ha H1 s _ fun v H2 s2 r => hb H2 (s.trans s2) _ fun u H3 s3 t => by
    cases r.mono s3 with
    | @lst a xs _ h1 r1 =>
      cases t with
      | @lst b ys _ h2 r2 =>
        have l1 := r1.length
        have l2 := r2.length
        refine ⟨a, b, xs, ys, rfl, rfl, h1, h2, Nat.le_of_lt (small1000 (by omega)), fun p hp => q _ _ ((s2.trans s3).trans (same_new hp)) (.lst upd_same ((r1.append r2).mono (same_new hp)))⟩
end
end Ca

set_option maxHeartbeats 4000000
namespace Q
open PySem PySem.Spec PyProof.Rows L2 Ca
/-! ### _law_odd -/
abbrev s_odd : Stmt := top 59
theorem sc_odd : FnScope ["_law_atom", "_law_kind", "_law_left", "_law_right", "_law_found"] ["_law_atom"] (defScope s_odd) := ⟨rfl, rfl, rfl, by decide +kernel, rfl, by decide +kernel, by decide +kernel⟩
def odd1 (a : At) : List PyData := [.tuple [.str a.k, .int a.l], .tuple [.str a.k, .int a.l, .int a.r, .int 0], .list [.str a.k, .int a.l, .int a.r], .tuple [atD a], .tuple [.str a.k, .str (PySem.Str.ofString (toString a.l)), .int a.r], .tuple [.str "D", .int a.l, .int a.r], .str a.k, .int a.l]
def odd2 (a : At) : List PyData := [.tuple [.str a.k, .int 10, .int a.r], .tuple [.str a.k, .int a.l, .int (-1)], .tuple [.str a.k, .bool true, .int a.r], .tuple [.str a.k, .int a.l, .bool false]]
def odd3 (a : At) : List PyData := [.tuple [.none, .int a.l, .int a.r], .tuple [.str "a", .int a.l, .int a.r], .tuple [.str "AB", .int a.l, .int a.r], .tuple [.str "", .int a.l, .int a.r]]
def odd4 (a : At) : List PyData := [.tuple [.int a.l, .str a.k, .int a.r], .tuple [.str a.k, .none, .int a.r], .tuple [.str a.k, .int a.l, .int 10], .tuple [.str a.k, .list [.int a.l], .int a.r]]
def odd5 (a : At) : List PyData := [.tuple [.str a.k, .int a.l, .dict []], .tuple [.list [], .int a.l, .int a.r], .tuple [.str a.k, .tuple [.int a.l], .int a.r], .none, .tuple [], .dict [], .bool true]
def odd6 (a : At) : List PyData := [.str (txt [a]), .tuple [.str a.k, .int a.l, .int 1000000000000], .tuple [.str a.k, .int a.r, .int a.l], .list [atD a]]
def oddD (a : At) : List PyData := odd1 a ++ odd2 a ++ odd3 a ++ odd4 a ++ odd5 a ++ odd6 a
def spOdd : Sp := fun vs H Q _ => ∃ (v : V) (a : At), vs = [v] ∧ Rp H v (atD a) ∧ Good a ∧ ∀ v' H', Same H H' → Rp H' v' (.list (oddD a)) → Q v' H'
theorem s_setD {te : TE} {σ : L2.St} {H : Hp} {d : PyData} {D : Ends} {i : Nat} (h : EvD te σ H d) (k : ∀ v H1, Same H H1 → Rp H1 v d → D.nx (σ.set i (some v)) H1) : tAsg te (gName i) D σ H :=
  h H (Same.refl _) _ fun v H1 s r => k v H1 s r
theorem s_retD {te : TE} {σ : L2.St} {H : Hp} {d : PyData} {D : Ends} (h : EvD te σ H d) (k : ∀ v H1, Same H H1 → Rp H1 v d → D.rt v H1) : tRet te D σ H :=
  h H (Same.refl _) _ fun v H1 s r => k v H1 s r
section
variable {P : Program} {w : World} {K : PySem.W.Frag} {mg : PySem.Str → Option Value} {base : Heap}
theorem ok_odd {f fA : Addr} {fd fdA : FuncData} (F : FnP K "_law_odd" s_odd f fd) (T : Tx K mg) (GA : FnOk P w K mg base CX0 1 fA fdA ["_law_atoms"] spAsked) (bA : Binds K fdA ["_law_atoms"] [])
    (kA : PySem.W.keepIn K (.ref fA) = true) (gA : mg "_law_asked" = some (.ref fA)) : FnOk P w K mg base CX0 2 f fd ["_law_atom"] spOdd := by
  refine F.ok sc_odd (fun vs H Q E h => ?_) (fun cdv A outer s H vs Q E hr h => ?_)
  · obtain ⟨v, a, rfl, _⟩ := h
    rfl
  · obtain ⟨v, a, rfl, rp, g, q⟩ := h
    refine ⟨_, PSs.nox (pss_cons (ps_asg (pv 0) (pg_tup (by rfl) (pgs_cons (pg_name (i := 1) sc_odd.nd rfl (.inl rfl)) (pgs_cons (pg_name (i := 2) sc_odd.nd rfl (.inl rfl)) (pgs_cons (pg_name (i := 3) sc_odd.nd rfl (.inl rfl)) pgs_nil)))))
      (pss_cons (ps_set (i := 4) sc_odd.nd rfl (.inl rfl) (pe_lst (pa_cons (pe_tup (pa_cons (pv 1) (pa_cons (pv 2) pa_nil))) (pa_cons (pe_op op_catT (pv 0) (pe_tup (pa_cons pe_int pa_nil))) (pa_cons (pe_callTy call_list_of (by rfl) T.lst bLst (pa_cons (pv 0) pa_nil)) (pa_cons (pe_tup (pa_cons (pv 0) pa_nil)) (pa_cons (pe_tup (pa_cons (pv 1) (pa_cons (pe_callTy call_str_int (by rfl) T.str bStr (pa_cons (pv 2) pa_nil)) (pa_cons (pv 3) pa_nil)))) (pa_cons (pe_tup (pa_cons pe_str (pa_cons (pv 2) (pa_cons (pv 3) pa_nil)))) (pa_cons (pv 1) (pa_cons (pv 2) pa_nil))))))))))
      (pss_cons (ps_set (i := 4) sc_odd.nd rfl (.inl rfl) (pe_op op_cat (pv 4) (pe_lst (pa_cons (pe_tup (pa_cons (pv 1) (pa_cons pe_int (pa_cons (pv 3) pa_nil)))) (pa_cons (pe_tup (pa_cons (pv 1) (pa_cons (pv 2) (pa_cons (pe_un un_neg pe_int) pa_nil)))) (pa_cons (pe_tup (pa_cons (pv 1) (pa_cons pe_bl (pa_cons (pv 3) pa_nil)))) (pa_cons (pe_tup (pa_cons (pv 1) (pa_cons (pv 2) (pa_cons pe_bl pa_nil)))) pa_nil)))))))
      (pss_cons (ps_set (i := 4) sc_odd.nd rfl (.inl rfl) (pe_op op_cat (pv 4) (pe_lst (pa_cons (pe_tup (pa_cons pe_non (pa_cons (pv 2) (pa_cons (pv 3) pa_nil)))) (pa_cons (pe_tup (pa_cons pe_str (pa_cons (pv 2) (pa_cons (pv 3) pa_nil)))) (pa_cons (pe_tup (pa_cons pe_str (pa_cons (pv 2) (pa_cons (pv 3) pa_nil)))) (pa_cons (pe_tup (pa_cons pe_str (pa_cons (pv 2) (pa_cons (pv 3) pa_nil)))) pa_nil)))))))
      (pss_cons (ps_set (i := 4) sc_odd.nd rfl (.inl rfl) (pe_op op_cat (pv 4) (pe_lst (pa_cons (pe_tup (pa_cons (pv 2) (pa_cons (pv 1) (pa_cons (pv 3) pa_nil)))) (pa_cons (pe_tup (pa_cons (pv 1) (pa_cons pe_non (pa_cons (pv 3) pa_nil)))) (pa_cons (pe_tup (pa_cons (pv 1) (pa_cons (pv 2) (pa_cons pe_int pa_nil)))) (pa_cons (pe_tup (pa_cons (pv 1) (pa_cons (pe_lst (pa_cons (pv 2) pa_nil)) (pa_cons (pv 3) pa_nil)))) pa_nil)))))))
      (pss_cons (ps_set (i := 4) sc_odd.nd rfl (.inl rfl) (pe_op op_cat (pv 4) (pe_lst (pa_cons (pe_tup (pa_cons (pv 1) (pa_cons (pv 2) (pa_cons pe_dnewK pa_nil)))) (pa_cons (pe_tup (pa_cons (pe_lst pa_nil) (pa_cons (pv 2) (pa_cons (pv 3) pa_nil)))) (pa_cons (pe_tup (pa_cons (pv 1) (pa_cons (pe_tup (pa_cons (pv 2) pa_nil)) (pa_cons (pv 3) pa_nil)))) (pa_cons pe_non (pa_cons (pe_tup pa_nil) (pa_cons pe_dnewK (pa_cons pe_bl pa_nil))))))))))
      (pss_one (ps_ret (pe_op op_cat (pv 4) (pe_lst (pa_cons (pe_call GA hr rfl gA kA bA .nil pass0 (pa_cons (pe_lst (pa_cons (pv 0) pa_nil)) pa_nil)) (pa_cons (pe_tup (pa_cons (pv 1) (pa_cons (pv 2) (pa_cons (pe_op op_pow pe_int pe_int) pa_nil)))) (pa_cons (pe_tup (pa_cons (pv 1) (pa_cons (pv 3) (pa_cons (pv 2) pa_nil)))) (pa_cons (pe_lst (pa_cons (pv 0) pa_nil)) pa_nil)))))))))))))), ?_⟩
    obtain ⟨p, rfl, hp⟩ := at_of rp
    refine ⟨_, rfl, p, _, rfl, .inl (.inl hp), rfl, _, _, rfl, _, _, rfl, _, _, rfl, rfl, ?_⟩
    have va0 : ∀ {H1 : Hp}, Same H H1 → Rp H1 (.ref p) (atD a) := fun s => rp.mono s
    have G : ∀ {σ : L2.St} {H1 : Hp}, Same H H1 → σ[0]? = some (some (.ref p)) → σ[1]? = some (some (.str a.k)) → σ[2]? = some (some (.int a.l)) → σ[3]? = some (some (.int a.r)) →
        EvD (tVar 0) σ H1 (atD a) ∧ EvD (tVar 1) σ H1 (.str a.k) ∧ EvD (tVar 2) σ H1 (.int a.l) ∧ EvD (tVar 3) σ H1 (.int a.r) := fun s e0 e1 e2 e3 =>
      ⟨ed_var e0 (va0 s), ed_var e1 (.str _), ed_var e2 (.int _), ed_var e3 (.int _)⟩
    obtain ⟨va, vk, vl, vr⟩ := G (σ := [some (.ref p), some (.str a.k), some (.int a.l), some (.int a.r), none]) (Same.refl H) rfl rfl rfl rfl
    have ecat : EvD (tOp (rCatT K) (tVar 0) (tTup (tCons (tC (.int 0)) tNil))) [some (.ref p), some (.str a.k), some (.int a.l), some (.int a.r), none] H (.tuple [.str a.k, .int a.l, .int a.r, .int 0]) := fun H1 s Q q =>
      ⟨_, rfl, by show 1 ≤ sizeLine; decide, fun u hu => ⟨p, u, _, _, rfl, rfl, .inl (.inl (same_new hu _ _ (s _ _ hp))), .inl (.inl upd_same), by simp, by show 4 ≤ sizeLine; decide, (fun z => (by cases z)),
        fun _ t ht => q _ _ ((same_new hu).trans (same_new ht)) (.tup upd_same (.cons (.str _) (.cons (.int _) (.cons (.int _) (.cons (.int _) .nil)))))⟩⟩
    have elst : EvD (tCB (fun xs H Q => ∃ p ys, xs = [V.ref p] ∧ (SqL K H p ys ∨ SqT K H p ys) ∧ ∀ l, H l = none → Q (.ref l) (upd H l (.lst ys))) (tCons (tVar 0) tNil)) [some (.ref p), some (.str a.k), some (.int a.l), some (.int a.r), none] H (.list [.str a.k, .int a.l, .int a.r]) := fun H1 s Q q =>
      ⟨_, rfl, p, _, rfl, .inr (.inl (.inl (s _ _ hp))), fun t ht => q _ _ (same_new ht) (.lst upd_same (.cons (.str _) (.cons (.int _) (.cons (.int _) .nil))))⟩
    have estr : EvD (tCB (fun xs H Q => ∃ i : Int, xs = [V.int i] ∧ i.natAbs.log2 < 1920 ∧ Q (.str (toString i)) H) (tCons (tVar 2) tNil)) [some (.ref p), some (.str a.k), some (.int a.l), some (.int a.r), none] H (.str (PySem.Str.ofString (toString a.l))) := fun H1 s Q q =>
      ⟨_, rfl, a.l, rfl, dig_log g.l0 g.l9, q _ _ (Same.refl _) (.str _)⟩
    refine s_setD (d := .list (odd1 a)) (ed_lst (ea_cons (ed_tup (ea_cons vk (ea_cons vl ea_nil)) (by show 2 ≤ 1000; decide)) (ea_cons ecat (ea_cons elst (ea_cons (ed_tup (ea_cons va ea_nil) (by show 1 ≤ 1000; decide)) (ea_cons (ed_tup (ea_cons vk (ea_cons estr (ea_cons vr ea_nil))) (by show 3 ≤ 1000; decide)) (ea_cons (ed_tup (ea_cons ed_str (ea_cons vl (ea_cons vr ea_nil))) (by show 3 ≤ 1000; decide)) (ea_cons vk (ea_cons vl ea_nil)))))))) (by show 8 ≤ 1000; decide)) fun v1 H1 s1 r1 => ?_
    obtain ⟨va, vk, vl, vr⟩ := G (σ := [some (.ref p), some (.str a.k), some (.int a.l), some (.int a.r), some v1]) s1 rfl rfl rfl rfl
    refine s_setD (d := .list (odd1 a ++ odd2 a)) (ed_catL (ed_var rfl r1) (ed_lst (ea_cons (ed_tup (ea_cons vk (ea_cons ed_int (ea_cons vr ea_nil))) (by show 3 ≤ 1000; decide)) (ea_cons (ed_tup (ea_cons vk (ea_cons vl (ea_cons ed_neg ea_nil))) (by show 3 ≤ 1000; decide)) (ea_cons (ed_tup (ea_cons vk (ea_cons ed_bl (ea_cons vr ea_nil))) (by show 3 ≤ 1000; decide)) (ea_cons (ed_tup (ea_cons vk (ea_cons vl (ea_cons ed_bl ea_nil))) (by show 3 ≤ 1000; decide)) ea_nil)))) (by show 4 ≤ 1000; decide)) (by simp [odd1, odd2, odd3, odd4, odd5])) fun v2 H2 t2 r2 => ?_
    have s2 := s1.trans t2
    obtain ⟨va, vk, vl, vr⟩ := G (σ := [some (.ref p), some (.str a.k), some (.int a.l), some (.int a.r), some v2]) s2 rfl rfl rfl rfl
    refine s_setD (d := .list (odd1 a ++ odd2 a ++ odd3 a)) (ed_catL (ed_var rfl r2) (ed_lst (ea_cons (ed_tup (ea_cons ed_non (ea_cons vl (ea_cons vr ea_nil))) (by show 3 ≤ 1000; decide)) (ea_cons (ed_tup (ea_cons ed_str (ea_cons vl (ea_cons vr ea_nil))) (by show 3 ≤ 1000; decide)) (ea_cons (ed_tup (ea_cons ed_str (ea_cons vl (ea_cons vr ea_nil))) (by show 3 ≤ 1000; decide)) (ea_cons (ed_tup (ea_cons ed_str (ea_cons vl (ea_cons vr ea_nil))) (by show 3 ≤ 1000; decide)) ea_nil)))) (by show 4 ≤ 1000; decide)) (by simp [odd1, odd2, odd3, odd4, odd5])) fun v3 H3 t3 r3 => ?_
    have s3 := s2.trans t3
    obtain ⟨va, vk, vl, vr⟩ := G (σ := [some (.ref p), some (.str a.k), some (.int a.l), some (.int a.r), some v3]) s3 rfl rfl rfl rfl
    refine s_setD (d := .list (odd1 a ++ odd2 a ++ odd3 a ++ odd4 a)) (ed_catL (ed_var rfl r3) (ed_lst (ea_cons (ed_tup (ea_cons vl (ea_cons vk (ea_cons vr ea_nil))) (by show 3 ≤ 1000; decide)) (ea_cons (ed_tup (ea_cons vk (ea_cons ed_non (ea_cons vr ea_nil))) (by show 3 ≤ 1000; decide)) (ea_cons (ed_tup (ea_cons vk (ea_cons vl (ea_cons ed_int ea_nil))) (by show 3 ≤ 1000; decide)) (ea_cons (ed_tup (ea_cons vk (ea_cons (ed_lst (ea_cons vl ea_nil) (by show 1 ≤ 1000; decide)) (ea_cons vr ea_nil))) (by show 3 ≤ 1000; decide)) ea_nil)))) (by show 4 ≤ 1000; decide)) (by simp [odd1, odd2, odd3, odd4, odd5])) fun v4 H4 t4 r4 => ?_
    have s4 := s3.trans t4
    obtain ⟨va, vk, vl, vr⟩ := G (σ := [some (.ref p), some (.str a.k), some (.int a.l), some (.int a.r), some v4]) s4 rfl rfl rfl rfl
    refine s_setD (d := .list (odd1 a ++ odd2 a ++ odd3 a ++ odd4 a ++ odd5 a)) (ed_catL (ed_var rfl r4) (ed_lst (ea_cons (ed_tup (ea_cons vk (ea_cons vl (ea_cons ed_dic ea_nil))) (by show 3 ≤ 1000; decide)) (ea_cons (ed_tup (ea_cons (ed_lst ea_nil (by show 0 ≤ 1000; decide)) (ea_cons vl (ea_cons vr ea_nil))) (by show 3 ≤ 1000; decide)) (ea_cons (ed_tup (ea_cons vk (ea_cons (ed_tup (ea_cons vl ea_nil) (by show 1 ≤ 1000; decide)) (ea_cons vr ea_nil))) (by show 3 ≤ 1000; decide)) (ea_cons ed_non (ea_cons (ed_tup ea_nil (by show 0 ≤ 1000; decide)) (ea_cons ed_dic (ea_cons ed_bl ea_nil))))))) (by show 7 ≤ 1000; decide)) (by simp [odd1, odd2, odd3, odd4, odd5])) fun v5 H5 t5 r5 => ?_
    have s5 := s4.trans t5
    obtain ⟨va, vk, vl, vr⟩ := G (σ := [some (.ref p), some (.str a.k), some (.int a.l), some (.int a.r), some v5]) s5 rfl rfl rfl rfl
    have eask : EvD (tCall spAsked [] E0 (tCons (tLst (tCons (tVar 0) tNil)) tNil)) [some (.ref p), some (.str a.k), some (.int a.l), some (.int a.r), some v5] H5 (.str (txt [a])) := fun Hx s Q q =>
      ⟨_, rfl, by show 1 ≤ sizeLine; decide, fun u hu => ⟨_, [a], rfl, .lst upd_same (.cons ((va0 (s5.trans s)).mono (same_new hu)) .nil), (by show 1 ≤ 30; decide), fun b hb => by rw [List.mem_singleton.mp hb]; exact g, fun Hy sy => q _ _ ((same_new hu).trans sy) (.str _)⟩⟩
    have epow : EvD (tOp (rI CPow fun i j => .int (i ^ j.toNat)) (tC (.int 10)) (tC (.int 12))) [some (.ref p), some (.str a.k), some (.int a.l), some (.int a.r), some v5] H5 (.int 1000000000000) := fun Hx s Q q =>
      ⟨10, 12, rfl, rfl, ⟨by decide, by decide, by decide⟩, q _ _ (Same.refl _) (.int _)⟩
    refine s_retD (d := .list (odd1 a ++ odd2 a ++ odd3 a ++ odd4 a ++ odd5 a ++ odd6 a)) (ed_catL (ed_var rfl r5) (ed_lst (ea_cons eask (ea_cons (ed_tup (ea_cons vk (ea_cons vl (ea_cons epow ea_nil))) (by show 3 ≤ 1000; decide)) (ea_cons (ed_tup (ea_cons vk (ea_cons vr (ea_cons vl ea_nil))) (by show 3 ≤ 1000; decide)) (ea_cons (ed_lst (ea_cons va ea_nil) (by show 1 ≤ 1000; decide)) ea_nil)))) (by show 4 ≤ 1000; decide)) (by simp [odd1, odd2, odd3, odd4, odd5, odd6])) fun v6 H6 t6 r6 => ?_
    exact q v6 H6 (s5.trans t6) r6
end
end Q

set_option maxHeartbeats 4000000
namespace Ca
open PySem PySem.Spec PyProof.Rows L2
def isI3 : List PyData → Bool
  | [.int _, .int _, .int _] => true
  | _ => false
mutual
/-- no list of three ints within -/
def n3 : PyData → Bool
  | .list xs => !isI3 xs && n3A xs
  | .tuple xs => n3A xs
  | _ => true
def n3A : List PyData → Bool
  | [] => true
  | x :: xs => n3 x && n3A xs
end
theorem i3_of {H : Hp} {a b c : Int} {ds : List PyData} (r : RpA H [V.int a, V.int b, V.int c] ds) : isI3 ds = true := by
  cases r with
  | cons h1 r => cases r with
    | cons h2 r => cases r with
      | cons h3 r =>
        cases r
        cases h1
        cases h2
        cases h3
        rfl
section
variable {H : Hp} {s : Addr} {a b c : Int}
mutual
theorem Rp.off (hs : H s = some (.lst [.int a, .int b, .int c])) : ∀ {d : PyData} {v : V}, Rp H v d → n3 d = true → Rp (off s H) v d
  | _, _, .non, _ => .non
  | _, _, .bl b, _ => .bl b
  | _, _, .int i, _ => .int i
  | _, _, .str x, _ => .str x
  | _, _, .lst (a := p) (xs := xs) (ds := ds) h r, n => by
    have n2 : (!isI3 ds && n3A ds) = true := by simpa [n3] using n
    rw [Bool.and_eq_true] at n2
    refine .lst ?_ (RpA.off hs r n2.2)
    rw [off_ne]
    · exact h
    · intro e
      rw [e, hs] at h
      injection h with h
      injection h with h
      subst h
      rw [i3_of r] at n2
      cases n2.1
  | _, _, .tup (a := p) (xs := xs) (ds := ds) h r, n => by
    have n2 : n3A ds = true := by simpa [n3] using n
    refine .tup ?_ (RpA.off hs r n2)
    rw [off_ne]
    · exact h
    · intro e
      rw [e, hs] at h
      cases h
  | _, _, .dic (a := p) h, _ => by
    refine .dic ?_
    rw [off_ne]
    · exact h
    · intro e
      rw [e, hs] at h
      cases h
theorem RpA.off (hs : H s = some (.lst [.int a, .int b, .int c])) : ∀ {ds : List PyData} {vs : List V}, RpA H vs ds → n3A ds = true → RpA (off s H) vs ds
  | _, _, .nil, _ => .nil
  | _, _, .cons (d := d) (ds := ds) h r, n => by
    have n2 : n3 d = true ∧ n3A ds = true := by simpa [n3A] using n
    exact .cons (Rp.off hs h n2.1) (RpA.off hs r n2.2)
end
end
theorem fit_nil {k n : Nat} : ∀ d ∈ ([] : List PyData), Fit d k n := fun d h => by cases h
theorem fit_cons {d : PyData} {ds : List PyData} {k n : Nat} (h : Fit d k n) (r : ∀ e ∈ ds, Fit e k n) : ∀ e ∈ d :: ds, Fit e k n := fun e he => by
  rcases List.mem_cons.mp he with z | z
  · rw [z]
    exact h
  · exact r e z
theorem fit_app {ds es : List PyData} {k n : Nat} (h : ∀ e ∈ ds, Fit e k n) (r : ∀ e ∈ es, Fit e k n) : ∀ e ∈ ds ++ es, Fit e k n := fun e he => by
  rcases List.mem_append.mp he with z | z
  · exact h e z
  · exact r e z
end Ca
namespace Q
open PySem PySem.Spec PyProof.Rows L2 Ca
theorem fS {x : PySem.Str} (h : Ascii x) (hl : x.length ≤ 2) : Fit (.str x) 0 22 := (fit_str (m := 2) h hl).mono (Nat.le_refl _) (by decide)
theorem fI {i : Int} (h : i.natAbs < 10 ^ 14) : Fit (.int i) 0 20 := fit_int h
theorem fB {b : Bool} : Fit (.bool b) 0 10 := fit_bool b
theorem fN : Fit .none 0 10 := fit_none
theorem fit_odd1 {a : At} (g : Good a) : ∀ d ∈ odd1 a, Fit d 3 500 := by
  have := g.l0
  have := g.l9
  have := g.r0
  have := g.r9
  have fA := fit_at g
  have g1 : ∀ b ∈ [a], Good b := fun b hb => by rw [List.mem_singleton.mp hb]; exact g
  exact (fit_cons ((fit_tuple (k := 2) (n := 100) (m := 4) (fit_cons ((fS (ascii_kind g.k) (by rw [kind_len g.k]; decide)).mono (by decide) (by decide)) (fit_cons ((fI (by omega)).mono (by decide) (by decide)) fit_nil)) (by show 2 ≤ 4; decide)).mono (by decide) (by decide))
    (fit_cons ((fit_tuple (k := 2) (n := 100) (m := 4) (fit_cons ((fS (ascii_kind g.k) (by rw [kind_len g.k]; decide)).mono (by decide) (by decide)) (fit_cons ((fI (by omega)).mono (by decide) (by decide)) (fit_cons ((fI (by omega)).mono (by decide) (by decide)) (fit_cons ((fI (by decide)).mono (by decide) (by decide)) fit_nil)))) (by show 4 ≤ 4; decide)).mono (by decide) (by decide))
    (fit_cons ((fit_list (k := 2) (n := 100) (m := 4) (fit_cons ((fS (ascii_kind g.k) (by rw [kind_len g.k]; decide)).mono (by decide) (by decide)) (fit_cons ((fI (by omega)).mono (by decide) (by decide)) (fit_cons ((fI (by omega)).mono (by decide) (by decide)) fit_nil))) (by show 3 ≤ 4; decide)).mono (by decide) (by decide))
    (fit_cons ((fit_tuple (k := 2) (n := 100) (m := 4) (fit_cons (fA.mono (by decide) (by decide)) fit_nil) (by show 1 ≤ 4; decide)).mono (by decide) (by decide))
    (fit_cons ((fit_tuple (k := 2) (n := 100) (m := 4) (fit_cons ((fS (ascii_kind g.k) (by rw [kind_len g.k]; decide)).mono (by decide) (by decide)) (fit_cons ((fS (ascii_dig g.l0 g.l9) (by rw [dig_len g.l0 g.l9]; decide)).mono (by decide) (by decide)) (fit_cons ((fI (by omega)).mono (by decide) (by decide)) fit_nil))) (by show 3 ≤ 4; decide)).mono (by decide) (by decide))
    (fit_cons ((fit_tuple (k := 2) (n := 100) (m := 4) (fit_cons ((fS (ascii_ofs (by decide +kernel)) (by decide +kernel)).mono (by decide) (by decide)) (fit_cons ((fI (by omega)).mono (by decide) (by decide)) (fit_cons ((fI (by omega)).mono (by decide) (by decide)) fit_nil))) (by show 3 ≤ 4; decide)).mono (by decide) (by decide))
    (fit_cons ((fS (ascii_kind g.k) (by rw [kind_len g.k]; decide)).mono (by decide) (by decide))
    (fit_cons ((fI (by omega)).mono (by decide) (by decide))
    fit_nil))))))))
theorem fit_odd2 {a : At} (g : Good a) : ∀ d ∈ odd2 a, Fit d 3 500 := by
  have := g.l0
  have := g.l9
  have := g.r0
  have := g.r9
  have fA := fit_at g
  have g1 : ∀ b ∈ [a], Good b := fun b hb => by rw [List.mem_singleton.mp hb]; exact g
  exact (fit_cons ((fit_tuple (k := 2) (n := 100) (m := 4) (fit_cons ((fS (ascii_kind g.k) (by rw [kind_len g.k]; decide)).mono (by decide) (by decide)) (fit_cons ((fI (by decide)).mono (by decide) (by decide)) (fit_cons ((fI (by omega)).mono (by decide) (by decide)) fit_nil))) (by show 3 ≤ 4; decide)).mono (by decide) (by decide))
    (fit_cons ((fit_tuple (k := 2) (n := 100) (m := 4) (fit_cons ((fS (ascii_kind g.k) (by rw [kind_len g.k]; decide)).mono (by decide) (by decide)) (fit_cons ((fI (by omega)).mono (by decide) (by decide)) (fit_cons ((fI (by decide)).mono (by decide) (by decide)) fit_nil))) (by show 3 ≤ 4; decide)).mono (by decide) (by decide))
    (fit_cons ((fit_tuple (k := 2) (n := 100) (m := 4) (fit_cons ((fS (ascii_kind g.k) (by rw [kind_len g.k]; decide)).mono (by decide) (by decide)) (fit_cons (fB.mono (by decide) (by decide)) (fit_cons ((fI (by omega)).mono (by decide) (by decide)) fit_nil))) (by show 3 ≤ 4; decide)).mono (by decide) (by decide))
    (fit_cons ((fit_tuple (k := 2) (n := 100) (m := 4) (fit_cons ((fS (ascii_kind g.k) (by rw [kind_len g.k]; decide)).mono (by decide) (by decide)) (fit_cons ((fI (by omega)).mono (by decide) (by decide)) (fit_cons (fB.mono (by decide) (by decide)) fit_nil))) (by show 3 ≤ 4; decide)).mono (by decide) (by decide))
    fit_nil))))
theorem fit_odd3 {a : At} (g : Good a) : ∀ d ∈ odd3 a, Fit d 3 500 := by
  have := g.l0
  have := g.l9
  have := g.r0
  have := g.r9
  have fA := fit_at g
  have g1 : ∀ b ∈ [a], Good b := fun b hb => by rw [List.mem_singleton.mp hb]; exact g
  exact (fit_cons ((fit_tuple (k := 2) (n := 100) (m := 4) (fit_cons (fN.mono (by decide) (by decide)) (fit_cons ((fI (by omega)).mono (by decide) (by decide)) (fit_cons ((fI (by omega)).mono (by decide) (by decide)) fit_nil))) (by show 3 ≤ 4; decide)).mono (by decide) (by decide))
    (fit_cons ((fit_tuple (k := 2) (n := 100) (m := 4) (fit_cons ((fS (ascii_ofs (by decide +kernel)) (by decide +kernel)).mono (by decide) (by decide)) (fit_cons ((fI (by omega)).mono (by decide) (by decide)) (fit_cons ((fI (by omega)).mono (by decide) (by decide)) fit_nil))) (by show 3 ≤ 4; decide)).mono (by decide) (by decide))
    (fit_cons ((fit_tuple (k := 2) (n := 100) (m := 4) (fit_cons ((fS (ascii_ofs (by decide +kernel)) (by decide +kernel)).mono (by decide) (by decide)) (fit_cons ((fI (by omega)).mono (by decide) (by decide)) (fit_cons ((fI (by omega)).mono (by decide) (by decide)) fit_nil))) (by show 3 ≤ 4; decide)).mono (by decide) (by decide))
    (fit_cons ((fit_tuple (k := 2) (n := 100) (m := 4) (fit_cons ((fS (ascii_ofs (by decide +kernel)) (by decide +kernel)).mono (by decide) (by decide)) (fit_cons ((fI (by omega)).mono (by decide) (by decide)) (fit_cons ((fI (by omega)).mono (by decide) (by decide)) fit_nil))) (by show 3 ≤ 4; decide)).mono (by decide) (by decide))
    fit_nil))))
theorem fit_odd4 {a : At} (g : Good a) : ∀ d ∈ odd4 a, Fit d 3 500 := by
  have := g.l0
  have := g.l9
  have := g.r0
  have := g.r9
  have fA := fit_at g
  have g1 : ∀ b ∈ [a], Good b := fun b hb => by rw [List.mem_singleton.mp hb]; exact g
  exact (fit_cons ((fit_tuple (k := 2) (n := 100) (m := 4) (fit_cons ((fI (by omega)).mono (by decide) (by decide)) (fit_cons ((fS (ascii_kind g.k) (by rw [kind_len g.k]; decide)).mono (by decide) (by decide)) (fit_cons ((fI (by omega)).mono (by decide) (by decide)) fit_nil))) (by show 3 ≤ 4; decide)).mono (by decide) (by decide))
    (fit_cons ((fit_tuple (k := 2) (n := 100) (m := 4) (fit_cons ((fS (ascii_kind g.k) (by rw [kind_len g.k]; decide)).mono (by decide) (by decide)) (fit_cons (fN.mono (by decide) (by decide)) (fit_cons ((fI (by omega)).mono (by decide) (by decide)) fit_nil))) (by show 3 ≤ 4; decide)).mono (by decide) (by decide))
    (fit_cons ((fit_tuple (k := 2) (n := 100) (m := 4) (fit_cons ((fS (ascii_kind g.k) (by rw [kind_len g.k]; decide)).mono (by decide) (by decide)) (fit_cons ((fI (by omega)).mono (by decide) (by decide)) (fit_cons ((fI (by decide)).mono (by decide) (by decide)) fit_nil))) (by show 3 ≤ 4; decide)).mono (by decide) (by decide))
    (fit_cons ((fit_tuple (k := 2) (n := 100) (m := 4) (fit_cons ((fS (ascii_kind g.k) (by rw [kind_len g.k]; decide)).mono (by decide) (by decide)) (fit_cons ((fit_list (k := 1) (n := 40) (m := 1) (fit_cons ((fI (by omega)).mono (by decide) (by decide)) fit_nil) (by show 1 ≤ 1; decide)).mono (by decide) (by decide)) (fit_cons ((fI (by omega)).mono (by decide) (by decide)) fit_nil))) (by show 3 ≤ 4; decide)).mono (by decide) (by decide))
    fit_nil))))
theorem fit_odd5 {a : At} (g : Good a) : ∀ d ∈ odd5 a, Fit d 3 500 := by
  have := g.l0
  have := g.l9
  have := g.r0
  have := g.r9
  have fA := fit_at g
  have g1 : ∀ b ∈ [a], Good b := fun b hb => by rw [List.mem_singleton.mp hb]; exact g
  exact (fit_cons ((fit_tuple (k := 2) (n := 100) (m := 4) (fit_cons ((fS (ascii_kind g.k) (by rw [kind_len g.k]; decide)).mono (by decide) (by decide)) (fit_cons ((fI (by omega)).mono (by decide) (by decide)) (fit_cons (fit_dict0.mono (by decide) (by decide)) fit_nil))) (by show 3 ≤ 4; decide)).mono (by decide) (by decide))
    (fit_cons ((fit_tuple (k := 2) (n := 100) (m := 4) (fit_cons ((fit_list (k := 1) (n := 40) (m := 1) fit_nil (by show 0 ≤ 1; decide)).mono (by decide) (by decide)) (fit_cons ((fI (by omega)).mono (by decide) (by decide)) (fit_cons ((fI (by omega)).mono (by decide) (by decide)) fit_nil))) (by show 3 ≤ 4; decide)).mono (by decide) (by decide))
    (fit_cons ((fit_tuple (k := 2) (n := 100) (m := 4) (fit_cons ((fS (ascii_kind g.k) (by rw [kind_len g.k]; decide)).mono (by decide) (by decide)) (fit_cons ((fit_tuple (k := 1) (n := 40) (m := 1) (fit_cons ((fI (by omega)).mono (by decide) (by decide)) fit_nil) (by show 1 ≤ 1; decide)).mono (by decide) (by decide)) (fit_cons ((fI (by omega)).mono (by decide) (by decide)) fit_nil))) (by show 3 ≤ 4; decide)).mono (by decide) (by decide))
    (fit_cons (fN.mono (by decide) (by decide))
    (fit_cons ((fit_tuple (k := 2) (n := 100) (m := 4) fit_nil (by show 0 ≤ 4; decide)).mono (by decide) (by decide))
    (fit_cons (fit_dict0.mono (by decide) (by decide))
    (fit_cons (fB.mono (by decide) (by decide))
    fit_nil)))))))
theorem fit_odd6 {a : At} (g : Good a) : ∀ d ∈ odd6 a, Fit d 3 500 := by
  have := g.l0
  have := g.l9
  have := g.r0
  have := g.r9
  have fA := fit_at g
  have g1 : ∀ b ∈ [a], Good b := fun b hb => by rw [List.mem_singleton.mp hb]; exact g
  exact (fit_cons ((fit_str (m := 4) (ascii_txt g1) (txt_len g1)).mono (by decide) (by decide))
    (fit_cons ((fit_tuple (k := 2) (n := 100) (m := 4) (fit_cons ((fS (ascii_kind g.k) (by rw [kind_len g.k]; decide)).mono (by decide) (by decide)) (fit_cons ((fI (by omega)).mono (by decide) (by decide)) (fit_cons ((fI (by decide)).mono (by decide) (by decide)) fit_nil))) (by show 3 ≤ 4; decide)).mono (by decide) (by decide))
    (fit_cons ((fit_tuple (k := 2) (n := 100) (m := 4) (fit_cons ((fS (ascii_kind g.k) (by rw [kind_len g.k]; decide)).mono (by decide) (by decide)) (fit_cons ((fI (by omega)).mono (by decide) (by decide)) (fit_cons ((fI (by omega)).mono (by decide) (by decide)) fit_nil))) (by show 3 ≤ 4; decide)).mono (by decide) (by decide))
    (fit_cons ((fit_list (k := 2) (n := 100) (m := 4) (fit_cons (fA.mono (by decide) (by decide)) fit_nil) (by show 1 ≤ 4; decide)).mono (by decide) (by decide))
    fit_nil))))
theorem fit_odd {a : At} (g : Good a) : ∀ d ∈ oddD a, Fit d 3 500 := fit_app (fit_app (fit_app (fit_app (fit_app (fit_odd1 g) (fit_odd2 g)) (fit_odd3 g)) (fit_odd4 g)) (fit_odd5 g)) (fit_odd6 g)
theorem n3_odd (a : At) : n3 (.list (oddD a)) = true := by simp [oddD, odd1, odd2, odd3, odd4, odd5, odd6, n3, n3A, isI3, atD]
theorem len_odd (a : At) : (oddD a).length = 31 := by simp [oddD, odd1, odd2, odd3, odd4, odd5, odd6]
/-! ### _law_is_equal -/
abbrev s_eq : Stmt := top 52
theorem sc_eq : FnScope ["_law_actual", "_law_expected"] ["_law_actual", "_law_expected"] (defScope s_eq) := ⟨rfl, rfl, rfl, by decide +kernel, rfl, by decide +kernel, by decide +kernel⟩
def spEq : Sp := fun vs H Q _ => ∃ (v1 v2 : V) (d : PyData), vs = [v1, v2] ∧ Rp H v1 d ∧ Rp H v2 d ∧ Fit d 50 1000000 ∧ Q (.bl true) H
theorem big : 1000000 ≤ sizeLine := by decide
section
variable {P : Program} {w : World} {K : PySem.W.Frag} {mg : PySem.Str → Option Value} {base : Heap}
theorem ok_eq {f : Addr} {fd : FuncData} (F : FnP K "_law_is_equal" s_eq f fd) (T : Tx K mg) : FnG P w K mg base CX0 1 f spEq := by
  refine fng_of F sc_eq (FunD.bindsA (ps := ["_law_actual", "_law_expected"]) F fun _ _ _ _ _ _ us hl => match us, hl with | [_, _], _ => rfl) (fun vs H Q E h => ?_) (fun cdv A outer s H vs Q E hg hr h => ?_)
  · obtain ⟨v1, v2, d, rfl, _⟩ := h
    rfl
  · obtain ⟨v1, v2, d, rfl, r1, r2, ft, q⟩ := h
    refine ⟨_, PSs.nox (pss_one (ps_ret (pe_cmpR op_eq (pe_callB (call_repr T.sm hg hr) (by rfl) T.repr bRepr (pa_cons (pv 0) pa_nil)) (pe_callB (call_repr T.sm hg hr) (by rfl) T.repr bRepr (pa_cons (pv 1) pa_nil)) (nomark _)))), ?_⟩
    have dp : d.depth ≤ 60 := Nat.le_trans ft.dp (by decide)
    have ln : d.shown.length ≤ sizeLine := Nat.le_trans ft.ln big
    refine ⟨_, rfl, _, d, rfl, r1, ft.sh, dp, ln, _, rfl, _, d, rfl, r2, ft.sh, dp, ln, rfl, ?_⟩
    have e : decide (V.str d.shown = V.str d.shown) = true := decide_eq_true rfl
    show Q (V.bl (decide (V.str d.shown = V.str d.shown))) H
    rw [e]
    exact q
end
end Q

set_option maxHeartbeats 8000000
namespace Q
open PySem PySem.Spec PyProof.Rows L2 Ca
/-! ### law -/
abbrev s_law : Stmt := top 60
abbrev nLaw : List PySem.Str := ["_law_script", "_law_k", "_law_source_here", "_law_many", "_law_atoms", "_law_kept", "_law_at", "_law_some", "_law_turn", "_law_bent", "_law_odd_here"]
theorem sc_law : FnScope nLaw ["_law_script"] (defScope s_law) := ⟨rfl, rfl, rfl, by decide +kernel, rfl, by decide +kernel, by decide +kernel⟩
def spLaw (K : PySem.W.Frag) : Sp := fun vs H Q _ => ∃ (a : Addr) (ns : List Int), vs = [.ref a] ∧ SqL K H a (ns.map V.int) ∧ ns.length ≤ 63 ∧ ∀ H', Q (.bl true) H'
def cutD (ds : List PyData) (lo hi : Option Int) : List PyData := (ds.drop (HT.sIx ds.length 0 lo)).take (HT.sIx ds.length ds.length hi - HT.sIx ds.length 0 lo)
theorem rpA_cut {H : Hp} {xs : List V} {ds : List PyData} (r : RpA H xs ds) (lo hi : Option Int) : RpA H (cutV xs lo hi) (cutD ds lo hi) := by
  unfold cutV cutD
  rw [r.length]
  exact (r.drop _).take _
theorem cut_sub {ds : List PyData} {lo hi : Option Int} {d : PyData} (h : d ∈ cutD ds lo hi) : d ∈ ds := List.mem_of_mem_drop (List.mem_of_mem_take h)
theorem cut_len {ds : List PyData} {t : Nat} (h : t < ds.length) : (cutD ds none (some (t : Int))).length + 1 + (cutD ds (some ((t : Int) + 1)) none).length = ds.length := by
  unfold cutD
  have e : ((t : Int) + 1) = ((t + 1 : Nat) : Int) := by omega
  rw [e, HT.sIx_nat, HT.sIx_nat, HT.sIx_none, HT.sIx_none, List.length_take, List.length_drop, List.length_take, List.length_drop]
  omega
theorem same_kp {H H1 H2 : Hp} {s : Addr} (a : Same H H1) (h : H s = none) (k : Kp s H1 H2) : Same H H2 := fun b o e => k b o (ne_of_none e h) (a b o e)
theorem src_same {H H' : Hp} {s : Addr} (h : Src H s) (k : Same H H') : Src H' s := by
  obtain ⟨a, b, c, e⟩ := h
  exact ⟨a, b, c, k _ _ e⟩
theorem lst_ne {H : Hp} {fo p : Addr} {xs : List V} {as : List At} (h : H fo = some (.lst xs)) (r : RpA H xs (as.map atD)) (hs : Src H p) : fo ≠ p := by
  obtain ⟨a, b, c, e⟩ := hs
  refine ne_of h e fun z => ?_
  injection z with z
  subst z
  cases as with
  | nil => cases r
  | cons t as =>
    cases r with
    | cons h1 _ => cases h1
theorem off_stp {H H' : Hp} {s : Addr} (st : Stp H H' s) : off s H' = off s H := by
  funext b
  unfold off
  split
  · rfl
  · rename_i hb
    exact st.same b hb
theorem same_off {H : Hp} {s : Addr} : Same (off s H) H := off_same
theorem fit_ats {as : List At} (h : ∀ a ∈ as, Good a) : ∀ d ∈ as.map atD, Fit d 3 500 := fun d hd => by
  obtain ⟨a, ha, rfl⟩ := List.mem_map.mp hd
  exact (fit_at (h a ha)).mono (by decide) (by decide)
theorem fit_l {ds : List PyData} (h : ∀ d ∈ ds, Fit d 3 500) (hl : ds.length ≤ 5) : Fit (.list ds) 50 1000000 := (fit_list h hl).mono (by decide) (by decide)
theorem fit_s {ds : List PyData} (h : ∀ d ∈ ds, Fit d 3 500) (hl : ds.length ≤ 5) : Fit (saidD ds) 50 1000000 := (fit_said h hl (by decide)).mono (by decide) (by decide)
def aB : At := ⟨"B", 0, 1⟩
theorem good_B : Good aB := ⟨by decide +kernel, by decide, by decide, by decide, by decide⟩
section
variable {P : Program} {w : World} {K : PySem.W.Frag} {mg : PySem.Str → Option Value} {base : Heap}
theorem ok_law {f fCe fSo fWo fSa fDu fOd fCh fEq : Addr} {fd fdCe fdSo fdWo fdSa fdDu fdOd fdCh : FuncData} (F : FnP K "law" s_law f fd) (T : Tx K mg)
    (GCe : FnOk P w K mg base CX0 1 fCe fdCe ["_law_script", "_law_index"] (spCell K)) (bCe : Binds K fdCe ["_law_script", "_law_index"] []) (kCe : PySem.W.keepIn K (.ref fCe) = true) (gCe : mg "_law_cell" = some (.ref fCe))
    (GSo : FnOk P w K mg base CX0 1 fSo fdSo ["_law_cell_here"] spSource) (bSo : Binds K fdSo ["_law_cell_here"] []) (kSo : PySem.W.keepIn K (.ref fSo) = true) (gSo : mg "_law_source" = some (.ref fSo))
    (GWo : FnOk P w K mg base CX0 3 fWo fdWo ["_law_source_here", "_law_many"] spWords) (bWo : Binds K fdWo ["_law_source_here", "_law_many"] []) (kWo : PySem.W.keepIn K (.ref fWo) = true) (gWo : mg "_law_words" = some (.ref fWo))
    (GSa : FnOk P w K mg base CX0 7 fSa fdSa ["_law_some"] spSaid) (bSa : Binds K fdSa ["_law_some"] []) (kSa : PySem.W.keepIn K (.ref fSa) = true) (gSa : mg "_law_said" = some (.ref fSa))
    (GDu : FnOk P w K mg base CX0 2 fDu fdDu ["_law_some"] spSaid) (bDu : Binds K fdDu ["_law_some"] []) (kDu : PySem.W.keepIn K (.ref fDu) = true) (gDu : mg "_law_due" = some (.ref fDu))
    (GOd : FnOk P w K mg base CX0 2 fOd fdOd ["_law_atom"] spOdd) (bOd : Binds K fdOd ["_law_atom"] []) (kOd : PySem.W.keepIn K (.ref fOd) = true) (gOd : mg "_law_odd" = some (.ref fOd))
    (GCh : FnOk P w K mg base CX0 2 fCh fdCh ["_law_source_here", "_law_values"] spChoose) (bCh : Binds K fdCh ["_law_source_here", "_law_values"] []) (kCh : PySem.W.keepIn K (.ref fCh) = true) (gCh : mg "_law_choose" = some (.ref fCh))
    (GEq : FnG P w K mg base CX0 1 fEq spEq) (kEq : PySem.W.keepIn K (.ref fEq) = true) (gEq : mg "_law_is_equal" = some (.ref fEq)) : FnG P w K mg base CX0 8 f (spLaw K) := by
  refine fng_of F sc_law (FunD.bindsA (ps := ["_law_script"]) F fun _ _ _ _ _ _ us hl => match us, hl with | [_], _ => rfl) (fun vs H Q E h => ?_) (fun cdv A outer s0 H vs Q E hg hr h => ?_)
  · obtain ⟨a, ns, rfl, _⟩ := h
    rfl
  · obtain ⟨a, ns, rfl, hS, h63, q⟩ := h
    have hr1 : Room 1 _ := hr.mono (by decide)
    have hr2 : Room 2 _ := hr.mono (by decide)
    have hr3 : Room 3 _ := hr.mono (by decide)
    refine ⟨_, PSs.nox (pss_one (ps_try_thru0 (pss_cons (ps_for PassesOwn.never rfl (pi_range1 rfl T.range (pa_cons (pe_callB (call_max2 rfl) (by rfl) T.max bMax (pa_cons pe_int (pa_cons (pe_callB (call_min2 rfl) (by rfl) T.min bMin (pa_cons (pe_callB call_len_seq (by rfl) T.len bLen (pa_cons (pv 0) pa_nil)) (pa_cons pe_int pa_nil))) pa_nil))) pa_nil)) (pg_name (i := 1) sc_law.nd rfl (.inl rfl)) (pss_cons (ps_set (i := 2) sc_law.nd rfl (.inl rfl) (pe_call GSo hr1 rfl gSo kSo bSo .nil pass0 (pa_cons (pe_call GCe hr1 rfl gCe kCe bCe .nil pass0 (pa_cons (pv 0) (pa_cons (pv 1) pa_nil))) pa_nil)))
      (pss_cons (ps_for PassesOwn.never rfl (pi_range1 rfl T.range (pa_cons pe_int pa_nil)) (pg_name (i := 3) sc_law.nd rfl (.inl rfl)) (pss_cons (ps_set (i := 4) sc_law.nd rfl (.inl rfl) (pe_call GWo hr3 rfl gWo kWo bWo .nil pass0 (pa_cons (pv 2) (pa_cons (pv 3) pa_nil))))
      (pss_cons (ps_set (i := 5) sc_law.nd rfl (.inl rfl) (pe_callB (call_repr T.sm hg hr1) (by rfl) T.repr bRepr (pa_cons (pv 4) pa_nil)))
      (pss_cons (ps_if (PW.pt (pw_or (pt_not (pt_val (pe_callG GEq hg hr1 rfl gEq kEq pass0 (pa_cons (pe_call GSa hr rfl gSa kSa bSa .nil pass0 (pa_cons (pv 4) pa_nil)) (pa_cons (pe_call GDu hr2 rfl gDu kDu bDu .nil pass0 (pa_cons (pv 4) pa_nil)) pa_nil))))) (pw_or1 (pt_cmpR op_ne (pe_callB (call_repr T.sm hg hr1) (by rfl) T.repr bRepr (pa_cons (pv 4) pa_nil)) (pv 5) (nomark _))))) (pss_one (ps_ret pe_bl)) pss_nil)
      (pss_one (ps_for PassesOwn.never rfl (pi_range1 rfl T.range (pa_cons (pv 3) pa_nil)) (pg_name (i := 6) sc_law.nd rfl (.inl rfl)) (pss_cons (ps_set (i := 7) sc_law.nd rfl (.inl rfl) (pe_call GOd hr2 rfl gOd kOd bOd .nil pass0 (pa_cons (pe_ix ix_list (pv 4) (pv 6) (fun _ _ => rfl)) pa_nil)))
      (pss_one (ps_for PassesOwn.never rfl (pi_range1 rfl T.range (pa_cons pe_int pa_nil)) (pg_name (i := 8) sc_law.nd rfl (.inl rfl)) (pss_cons (ps_set (i := 9) sc_law.nd rfl (.inl rfl) (pe_op op_cat (pe_op op_cat (pe_slice sl_list (pv 4) po_none (po_some (pv 6))) (pe_lst (pa_cons (pe_call GCh hr2 rfl gCh kCh bCh .nil pass0 (pa_cons (pv 2) (pa_cons (pv 7) pa_nil))) pa_nil))) (pe_slice sl_list (pv 4) (po_some (pe_op op_add (pv 6) pe_int)) po_none)))
      (pss_cons (ps_set (i := 5) sc_law.nd rfl (.inl rfl) (pe_callB (call_repr T.sm hg hr1) (by rfl) T.repr bRepr (pa_cons (pv 9) pa_nil)))
      (pss_one (ps_if (PW.pt (pw_or (pt_not (pt_val (pe_callG GEq hg hr1 rfl gEq kEq pass0 (pa_cons (pe_call GSa hr rfl gSa kSa bSa .nil pass0 (pa_cons (pv 9) pa_nil)) (pa_cons (pe_call GDu hr2 rfl gDu kDu bDu .nil pass0 (pa_cons (pv 9) pa_nil)) pa_nil))))) (pw_or1 (pt_cmpR op_ne (pe_callB (call_repr T.sm hg hr1) (by rfl) T.repr bRepr (pa_cons (pv 9) pa_nil)) (pv 5) (nomark _))))) (pss_one (ps_ret pe_bl)) pss_nil)))))))))))))
      (pss_one (ps_for PassesOwn.never rfl (pi_list (pe_call GOd hr2 rfl gOd kOd bOd .nil pass0 (pa_cons (pe_tup (pa_cons pe_str (pa_cons pe_int (pa_cons pe_int pa_nil)))) pa_nil))) (pg_name (i := 10) sc_law.nd rfl (.inl rfl)) (pss_one (ps_if (pt_not (pt_val (pe_callG GEq hg hr1 rfl gEq kEq pass0 (pa_cons (pe_call GSa hr rfl gSa kSa bSa .nil pass0 (pa_cons (pe_lst (pa_cons (pv 10) pa_nil)) pa_nil)) (pa_cons (pe_call GDu hr2 rfl gDu kDu bDu .nil pass0 (pa_cons (pe_lst (pa_cons (pv 10) pa_nil)) pa_nil)) pa_nil))))) (pss_one (ps_ret pe_bl)) pss_nil)))))))
      (pss_one (ps_ret pe_bl))))), ?_⟩
    have sqS : ∀ {H' : Hp}, Same H H' → SqL K H' a (ns.map V.int) := fun s => s.seq hS
    refine ⟨_, rfl, a, _, rfl, .inl hS, _, 4, rfl, 1, _, rfl, _, rfl, ?_, ?_, ?_⟩
    · split <;> split <;> omega
    · have l : (((ns.map V.int).length : Nat) : Int) ≤ 63 := by
        rw [List.length_map]
        omega
      split <;> split <;> omega
    generalize Int.toNat _ = nk
    refine for_range (lo := 0) (n := nk) (fun i σ H' => ∃ x1 x2 x3 x4 x5 x6 x7 x8 x9 x10, σ = [some (V.ref a), x1, x2, x3, x4, x5, x6, x7, x8, x9, x10] ∧ Same H H') ⟨none, none, none, none, none, none, none, none, none, none, rfl, Same.refl H⟩ ?_ ?_
    · rintro i σ H' hi ⟨x1, x2, x3, x4, x5, x6, x7, x8, x9, x10, rfl, sH⟩
      refine ⟨_, rfl, _, rfl, a, ns, _, rfl, by omega, sqS sH, fun z => ⟨z, rfl, fun p c1 c2 c3 hp => ?_⟩⟩
      have p0 : H p = none := sH.free hp
      have s1 : Same H (upd H' p (.lst [.int c1, .int c2, .int c3])) := sH.trans (same_new hp)
      have src1 : Src (upd H' p (.lst [.int c1, .int c2, .int c3])) p := ⟨c1, c2, c3, upd_same⟩
      generalize upd H' p (.lst [.int c1, .int c2, .int c3]) = H1 at s1 src1 ⊢
      refine ⟨6, rfl, by decide, by decide, for_range (lo := 0) (n := 6) (fun j σ H2 => ∃ x3 x4 x5 x6 x7 x8 x9 x10, σ = [some (V.ref a), some (V.int (0 + (i : Int))), some (V.ref p), x3, x4, x5, x6, x7, x8, x9, x10] ∧ Same H H2 ∧ Src H2 p)
        ⟨_, _, _, _, _, _, _, _, rfl, s1, src1⟩ ?_ ?_⟩
      · rintro j σ H2 hj ⟨x3, x4, x5, x6, x7, x8, x9, x10, rfl, s2, src2⟩
        refine ⟨_, rfl, _, rfl, p, _, j, rfl, by omega, by omega, src2, fun fo xs as H3 f0 kp src3 hfo r3 len3 good3 => ?_⟩
        have s3 : Same H H3 := same_kp s2 p0 kp
        have ft := fit_ats good3
        have l5 : (as.map atD).length ≤ 5 := by
          rw [List.length_map]
          omega
        refine ⟨_, rfl, _, .list (as.map atD), rfl, .lst hfo r3, (fit_l ft l5).sh, Nat.le_trans (fit_l ft l5).dp (by decide), Nat.le_trans (fit_l ft l5).ln big, ?_⟩
        refine ⟨_, rfl, fo, xs, _, rfl, hfo, r3, l5, fun v1 Ha sa ra => ⟨_, rfl, fo, xs, _, rfl, sa _ _ hfo, r3.mono sa, l5, fun v2 Hb sb rb => ⟨v1, v2, _, rfl, ra.mono sb, rb, fit_s ft l5, _, rfl, ?_⟩⟩⟩
        have sab := sa.trans sb
        refine iteF ⟨_, rfl, _, .list (as.map atD), rfl, .lst (sab _ _ hfo) (r3.mono sab), (fit_l ft l5).sh, Nat.le_trans (fit_l ft l5).dp (by decide), Nat.le_trans (fit_l ft l5).ln big, _, rfl, rfl, _, rfl, iteNS rfl ?_⟩
        have lx : xs.length = as.length := by
          have z := r3.length
          rw [List.length_map] at z
          exact z
        refine ⟨_, rfl, _, rfl, by omega, by omega, for_range (lo := 0) (n := (0 + (j : Int)).toNat) (fun t σ H5 => ∃ x5 x6 x7 x8 x9 x10, σ = [some (V.ref a), some (V.int (0 + (i : Int))), some (V.ref p), some (V.int (0 + (j : Int))), some (V.ref fo), x5, x6, x7, x8, x9, x10] ∧
            Same H H5 ∧ Src H5 p ∧ H5 fo = some (.lst xs) ∧ RpA H5 xs (as.map atD)) ⟨_, _, _, _, _, _, rfl, s3.trans sab, src_same src3 sab, sab _ _ hfo, r3.mono sab⟩ ?_ ?_⟩
        · rintro t σ H5 ht ⟨x5, x6, x7, x8, x9, x10, rfl, s5, src5, fo5, r5⟩
          have ta : t < as.length := by omega
          have tx : t < xs.length := by omega
          have hx : xs[t]? = some xs[t] := List.getElem?_eq_getElem tx
          obtain ⟨d, hd, rx⟩ := r5.get hx
          have ed : d = atD as[t] := by
            rw [List.getElem?_map, List.getElem?_eq_getElem ta] at hd
            exact (Option.some.inj hd).symm
          subst ed
          have ga := good3 as[t] (List.getElem_mem ta)
          generalize as[t] = a1 at rx ga
          refine ⟨_, rfl, _, rfl, fo, xs, _, xs[t], rfl, rfl, .inl (.inl fo5), L2.at_of (by omega) hx, _, a1, rfl, rx, ga, fun v6 H6 s6 r6 => ?_⟩
          have src6 := src_same src5 s6
          cases r6 with
          | @lst sl ys _ hsl rys =>
            have o6 : Rp (off p H6) (.ref sl) (.list (oddD a1)) := by
              obtain ⟨c1, c2, c3, e⟩ := src6
              exact Rp.off e (.lst hsl rys) (n3_odd _)
            refine ⟨6, rfl, by decide, by decide, for_range (lo := 0) (n := 6) (fun u σ H7 => ∃ x5 x8 x9 x10, σ = [some (V.ref a), some (V.int (0 + (i : Int))), some (V.ref p), some (V.int (0 + (j : Int))), some (V.ref fo), x5, some (V.int (0 + (t : Int))), some (V.ref sl), x8, x9, x10] ∧
                Same H H7 ∧ Src H7 p ∧ H7 fo = some (.lst xs) ∧ RpA H7 xs (as.map atD) ∧ Rp (off p H7) (.ref sl) (.list (oddD a1))) ⟨_, _, _, _, rfl, s5.trans s6, src6, s6 _ _ fo5, r5.mono s6, o6⟩ ?_ ?_⟩
            · clear hsl rys o6 s6 src6
              rintro u σ H7 hu ⟨x5, x8, x9, x10, rfl, s7, src7, fo7, r7, o7⟩
              cases id o7 with
              | @lst _ ys _ hsl rys =>
                have nsl : sl ≠ p := fun e => by
                  rw [e] at hsl
                  simp [off] at hsl
                have hsl7 : H7 sl = some (.lst ys) := off_same _ _ hsl
                have ly := rys.length
                rw [len_odd] at ly
                refine ⟨_, rfl, _, rfl, _, rfl, fo, xs, rfl, .inl (.inl fo7), fun q1 hq1 => ?_⟩
                have m1 := same_new (o := .lst (cutV xs none (some (0 + (t : Int))))) hq1
                have e1 := upd_same (H := H7) (a := q1) (o := .lst (cutV xs none (some (0 + (t : Int)))))
                have nq1 : q1 ≠ p := fun e => by
                  obtain ⟨c1, c2, c3, z⟩ := src7
                  rw [e, z] at hq1
                  cases hq1
                generalize upd H7 q1 (.lst (cutV xs none (some (0 + (t : Int))))) = G1 at m1 e1 ⊢
                refine ⟨_, rfl, _, rfl, p, sl, ys, rfl, src_same src7 m1, nsl, m1 _ _ hsl7, by omega, by omega, fun jj y G2 hy st2 => ⟨by show 1 ≤ sizeLine; decide, fun q2 hq2 => ?_⟩⟩
                have e2 : G2 q1 = some (.lst (cutV xs none (some (0 + (t : Int))))) := by
                  rw [st2.same q1 nq1]
                  exact e1
                have fo2 : G2 fo = some (.lst xs) := by
                  rw [st2.same fo (lst_ne fo7 r7 src7)]
                  exact m1 _ _ fo7
                have r2 : RpA G2 xs (as.map atD) := ats_keep (tup_stp (src_same src7 m1) st2) (r7.mono m1)
                have of2 : Same (off p H7) (off p G2) := by
                  rw [off_stp st2]
                  exact off_mono m1
                obtain ⟨dy, hdy, ry⟩ := rys.get hy
                have my : dy ∈ oddD a1 := List.mem_of_getElem? hdy
                have ry2 : Rp (off p G2) y dy := ry.mono of2
                have sG2 : Same H G2 := same_kp (s7.trans m1) p0 st2.kp
                have l1 : (cutV xs none (some (0 + (t : Int)))).length ≤ 1000 := Nat.le_trans (cutV_length _ _ _) (by omega)
                have l2 : (cutV xs (some (0 + (t : Int) + 1)) none).length ≤ 100 := Nat.le_trans (cutV_length _ _ _) (by omega)
                have m3 := same_new (o := .lst [y]) hq2
                refine ⟨q1, q2, _, _, rfl, rfl, m3 _ _ e2, upd_same, Nat.le_of_lt (small1000 (by have := cutV_length xs none (some (0 + (t : Int))); simp only [List.length_cons, List.length_nil]; omega)), fun q3 hq3 => ?_⟩
                have m4 := same_new (o := .lst (cutV xs none (some (0 + (t : Int))) ++ [y])) hq3
                have e4 := upd_same (H := upd G2 q2 (.lst [y])) (a := q3) (o := .lst (cutV xs none (some (0 + (t : Int))) ++ [y]))
                have m34 := m3.trans m4
                generalize upd (upd G2 q2 (.lst [y])) q3 (.lst (cutV xs none (some (0 + (t : Int))) ++ [y])) = G4 at m34 e4 ⊢
                refine ⟨_, rfl, _, rfl, _, 1, rfl, rfl, _, rfl, fo, xs, rfl, .inl (.inl (m34 _ _ fo2)), fun q4 hq4 => ?_⟩
                have m5 := same_new (o := .lst (cutV xs (some (0 + (t : Int) + 1)) none)) hq4
                refine ⟨q3, q4, _, _, rfl, rfl, m5 _ _ e4, upd_same, Nat.le_of_lt (small1000 (by have := cutV_length xs none (some (0 + (t : Int))); simp only [List.length_append, List.length_cons, List.length_nil]; omega)), fun q5 hq5 => ?_⟩
                have m6 := same_new (o := .lst (cutV xs none (some (0 + (t : Int))) ++ [y] ++ cutV xs (some (0 + (t : Int) + 1)) none)) hq5
                have e6 := upd_same (H := upd G4 q4 (.lst (cutV xs (some (0 + (t : Int) + 1)) none))) (a := q5) (o := .lst (cutV xs none (some (0 + (t : Int))) ++ [y] ++ cutV xs (some (0 + (t : Int) + 1)) none))
                have m26 := m34.trans (m5.trans m6)
                generalize upd (upd G4 q4 (.lst (cutV xs (some (0 + (t : Int) + 1)) none))) q5 (.lst (cutV xs none (some (0 + (t : Int))) ++ [y] ++ cutV xs (some (0 + (t : Int) + 1)) none)) = G6 at m26 e6 ⊢
                have rbn : RpA G6 (cutV xs none (some (0 + (t : Int))) ++ [y] ++ cutV xs (some (0 + (t : Int) + 1)) none) (cutD (as.map atD) none (some (0 + (t : Int))) ++ [dy] ++ cutD (as.map atD) (some (0 + (t : Int) + 1)) none) :=
                  ((rpA_cut (r2.mono m26) _ _).append (.cons ((ry2.mono off_same).mono m26) .nil)).append (rpA_cut (r2.mono m26) _ _)
                have fb : ∀ d ∈ cutD (as.map atD) none (some (0 + (t : Int))) ++ [dy] ++ cutD (as.map atD) (some (0 + (t : Int) + 1)) none, Fit d 3 500 :=
                  fit_app (fit_app (fun d hd => ft d (cut_sub hd)) (fit_cons (fit_odd ga dy my) fit_nil)) (fun d hd => ft d (cut_sub hd))
                have lb : (cutD (as.map atD) none (some (0 + (t : Int))) ++ [dy] ++ cutD (as.map atD) (some (0 + (t : Int) + 1)) none).length ≤ 5 := by
                  have z := cut_len (ds := as.map atD) (t := t) (by rw [List.length_map]; exact ta)
                  rw [Int.zero_add, List.length_append, List.length_append, List.length_singleton]
                  omega
                generalize cutV xs none (some (0 + (t : Int))) ++ [y] ++ cutV xs (some (0 + (t : Int) + 1)) none = bx at e6 rbn ⊢
                generalize cutD (as.map atD) none (some (0 + (t : Int))) ++ [dy] ++ cutD (as.map atD) (some (0 + (t : Int) + 1)) none = bd at rbn fb lb
                refine ⟨_, rfl, _, .list bd, rfl, .lst e6 rbn, (fit_l fb lb).sh, Nat.le_trans (fit_l fb lb).dp (by decide), Nat.le_trans (fit_l fb lb).ln big, ?_⟩
                refine ⟨_, rfl, q5, bx, _, rfl, e6, rbn, lb, fun v1 Ha sa ra => ⟨_, rfl, q5, bx, _, rfl, sa _ _ e6, rbn.mono sa, lb, fun v2 Hb sb rb => ⟨v1, v2, _, rfl, ra.mono sb, rb, fit_s fb lb, _, rfl, ?_⟩⟩⟩
                have sab := sa.trans sb
                refine iteF ⟨_, rfl, _, .list bd, rfl, .lst (sab _ _ e6) (rbn.mono sab), (fit_l fb lb).sh, Nat.le_trans (fit_l fb lb).dp (by decide), Nat.le_trans (fit_l fb lb).ln big, _, rfl, rfl, _, rfl, iteNS rfl ?_⟩
                have mm := m26.trans sab
                exact ⟨_, _, _, _, rfl, sG2.trans mm, src_same st2.src mm, mm _ _ fo2, r2.mono mm, (o7.mono of2).mono (off_mono mm)⟩
            · rintro σ H7 ⟨x5, x8, x9, x10, rfl, s7, src7, fo7, r7, o7⟩
              exact ⟨_, _, _, _, _, _, rfl, s7, src7, fo7, r7⟩
        · rintro σ H5 ⟨x5, x6, x7, x8, x9, x10, rfl, s5, src5, fo5, r5⟩
          exact ⟨_, _, _, _, _, _, _, _, rfl, s5, src5⟩
      · rintro σ H2 ⟨x3, x4, x5, x6, x7, x8, x9, x10, rfl, s2, src2⟩
        refine ⟨by show 3 ≤ sizeLine; decide, fun q1 hq1 => ?_⟩
        have m1 := same_new (o := .tup [V.str "B", V.int 0, V.int 1]) hq1
        refine ⟨_, aB, rfl, .tup upd_same (.cons (.str _) (.cons (.int _) (.cons (.int _) .nil))), good_B, fun v3 H3 s3 r3 => ?_⟩
        cases r3 with
        | @lst sl ys _ hsl rys =>
          refine ⟨sl, rfl, ⟨_, .inl (.inl hsl)⟩, for_list (K := K) (a := sl) (xs := ys) (fun t σ H4 => ∃ x1 x2 x3 x4 x5 x6 x7 x8 x9 x10, σ = [some (V.ref a), x1, x2, x3, x4, x5, x6, x7, x8, x9, x10] ∧ Same H H4 ∧ Same H3 H4)
            ⟨_, _, _, _, _, _, _, _, _, _, rfl, (s2.trans m1).trans s3, Same.refl _⟩ (fun t σ H4 _ ⟨_, _, _, _, _, _, _, _, _, _, _, _, k⟩ => .inl (.inl (k _ _ hsl))) ?_ ?_⟩
          · rintro t y σ H4 hy ⟨x1, x2, x3, x4, x5, x6, x7, x8, x9, x10, rfl, s4, k4⟩
            obtain ⟨dy, hdy, ry⟩ := rys.get hy
            have fy : ∀ d ∈ [dy], Fit d 3 500 := fit_cons (fit_odd good_B dy (List.mem_of_getElem? hdy)) fit_nil
            have ry4 := ry.mono k4
            refine ⟨_, rfl, by show 1 ≤ sizeLine; decide, fun u1 hu1 => ?_⟩
            have n1 := same_new (o := .lst [y]) hu1
            refine ⟨u1, [y], [dy], rfl, upd_same, .cons (ry4.mono n1) .nil, show 1 ≤ 5 by decide, fun v1 Ha sa ra => ?_⟩
            refine ⟨_, rfl, by show 1 ≤ sizeLine; decide, fun u2 hu2 => ?_⟩
            have n2 := same_new (o := .lst [y]) hu2
            refine ⟨u2, [y], [dy], rfl, upd_same, .cons (((ry4.mono n1).mono sa).mono n2) .nil, show 1 ≤ 5 by decide, fun v2 Hb sb rb => ?_⟩
            refine ⟨v1, v2, _, rfl, (ra.mono n2).mono sb, rb, fit_s fy (show 1 ≤ 5 by decide), _, rfl, iteF ?_⟩
            have nn := n1.trans (sa.trans (n2.trans sb))
            exact ⟨_, _, _, _, _, _, _, _, _, _, rfl, s4.trans nn, k4.trans nn⟩
          · rintro σ H4 ⟨x1, x2, x3, x4, x5, x6, x7, x8, x9, x10, rfl, s4, k4⟩
            exact ⟨_, _, _, _, _, _, _, _, _, _, rfl, s4⟩
    · rintro σ H' ⟨x1, x2, x3, x4, x5, x6, x7, x8, x9, x10, rfl, sH⟩
      exact q H'
end
end Q

set_option maxHeartbeats 4000000
/-! what is read off the top: facts (as Bools of the written part) and defs (found by an address of one's own) -/
namespace Ca
open PySem PySem.Spec PyProof.Rows L2 He
structure DfX where
  at_ : PySem.W.Frag → Addr
  name : PySem.Str
  qual : PySem.Str
  st : Stmt
abbrev DfX.see (d : DfX) (K : PySem.W.Frag) : FnW := match K.lookup (d.at_ K) with
  | some ⟨_, _, .func fd, _⟩ => some (fd.name, fd.qualname, fd.params, fd.body, fd.scope, fd.globals, fd.closure, fd.builtins)
  | _ => none
def DfX.due (d : DfX) : FnW := some (d.name, d.qual, defArgs d.st, .stmts (defBody d.st), defScope d.st, mainGlobals, [], builtinsNs)
def DfX.ok (d : DfX) (K : PySem.W.Frag) : Bool := PySem.W.keepIn K (.ref (d.at_ K)) && (match K.lookup (d.at_ K) with
  | some ⟨_, _, .func fd, _⟩ => PySem.W.codeIn K fd.code d.qual && dflB K fd.defaults []
  | _ => false)
theorem DfX.fun_ {d : DfX} {K : PySem.W.Frag} (e : d.see K = d.due) (c : d.ok K = true) : ∃ fd, FunD K d.name d.qual (defArgs d.st) (defBody d.st) (defScope d.st) [] [] (d.at_ K) fd := by
  obtain ⟨kp, c⟩ := ba c
  unfold DfX.see at e
  cases q : K.lookup (d.at_ K) with
  | none =>
    rw [q] at c
    cases c
  | some o =>
    obtain ⟨oc, od, dt, sl⟩ := o
    rw [q] at c e
    cases dt with
    | func fd =>
      obtain ⟨y1, y2, y3, y4, y5, y6, y7, y8, y9, y10, y11, y12, y13, y14, y15⟩ := fd
      unfold DfX.due at e
      have e1 := Option.some.inj e
      simp only [Prod.mk.injEq] at e1
      obtain ⟨z1, z2, z3, z4, z5, z6, z7, z8⟩ := e1
      subst z1 z2 z3 z4 z5 z6 z7 z8
      obtain ⟨k1, k2⟩ := ba c
      exact ⟨_, ⟨oc, od, y8, y9, y10, y11, y12, y13, y14, sl, rfl, q, k1, dflB_ok k2, .inl rfl⟩, kp⟩
    | _ => cases c
abbrev AlX : Type := Bool × List FnW
def seeX (fs : List (PySem.W.Frag → Bool)) (fn : List DfX) (K : PySem.W.Frag) : AlX := (fs.all (fun f => f K) && fn.all (fun d => d.ok K), fn.map fun d => d.see K)
def dueX (fn : List DfX) : AlX := (true, fn.map DfX.due)
def SaysX (fs : List (PySem.W.Frag → Bool)) (fn : List DfX) (K : PySem.W.Frag) : Prop := seeX fs fn K = dueX fn
def seeG (n : Nat) (fs : List (PySem.W.Frag → Bool)) (fn : List DfX) (g : Addr → Option Obj) : AlX := seeX fs fn (frG g (sysModules :: asD g n))
def hookX (n : Nat) (fs : List (PySem.W.Frag → Bool)) (fn : List DfX) : PySem.W.Hook where
  α := AlX
  obs := fun s => seeG n fs fn s.heap.get?
  val := fun _ => dueX fn
  says := fun _ h => ∃ K : PySem.W.Frag, K.In h ∧ SaysX fs fn K
  of := fun _ _ e => ⟨_, frG_in, e⟩
  keeps := fun _ _ _ ⟨K, hK, c⟩ k => ⟨K, PySem.W.Frag.In.keeps hK k, c⟩
theorem seeG_eq {n : Nat} {fs : List (PySem.W.Frag → Bool)} {fn : List DfX} {g : Addr → Option Obj} {s : Shared} (h : ∀ a, g a = s.heap.get? a) : seeG n fs fn g = (hookX n fs fn).obs s := by
  obtain rfl : g = s.heap.get? := funext h
  rfl
section
variable {fs : List (PySem.W.Frag → Bool)} {fn : List DfX} {K : PySem.W.Frag}
theorem SaysX.fact (c : SaysX fs fn K) (i : Nat) {f : PySem.W.Frag → Bool} (h : fs[i]? = some f := by rfl) : f K = true := by
  have z := congrArg (fun y : AlX => y.1) c
  exact List.all_eq_true.mp (ba z).1 f (List.mem_of_getElem? h)
theorem SaysX.def_ (c : SaysX fs fn K) (i : Nat) {d : DfX} (h : fn[i]? = some d := by rfl) : ∃ fd, FunD K d.name d.qual (defArgs d.st) (defBody d.st) (defScope d.st) [] [] (d.at_ K) fd := by
  have z1 := congrArg (fun y : AlX => y.1) c
  have z2 : fn.map (fun d => d.see K) = fn.map DfX.due := congrArg (fun y : AlX => y.2) c
  have z3 : (fn.map fun d => d.see K)[i]? = (fn.map DfX.due)[i]? := by rw [z2]
  rw [List.getElem?_map, List.getElem?_map, h] at z3
  exact DfX.fun_ (Option.some.inj z3) (List.all_eq_true.mp (ba z1).2 d (List.mem_of_getElem? h))
end
/-- the getter of a property of a class -/
def propG (K : PySem.W.Frag) (p : Addr) : Addr := match PySem.W.recIn K p "property" with
  | some (.ref g :: _) => g
  | _ => 0
def propB (x m : PySem.Str) (K : PySem.W.Frag) : Bool :=
  eqO (PySem.W.findIn K (.ref (ga K x)) m) (some (some (.ref (ma K (ga K x) m)))) && (eqO (PySem.W.specialIn K (.ref (ma K (ga K x) m)) "__get__") (some (some (.builtin "property.__get__"))) &&
    (decide (PySem.W.takesIn K (.ref (ma K (ga K x) m)) = some true) && (match PySem.W.recIn K (ma K (ga K x) m) "property" with
      | some (.ref _ :: _) => true
      | _ => false)))
theorem prop_ok {x m : PySem.Str} {K : PySem.W.Frag} (h : propB x m K = true) : PropOf K (ga K x) m (ma K (ga K x) m) (propG K (ma K (ga K x) m)) := by
  obtain ⟨h1, h⟩ := ba h
  obtain ⟨h2, h⟩ := ba h
  obtain ⟨h3, h4⟩ := ba h
  refine ⟨eqO_ok h1, eqO_ok h2, of_decide_eq_true h3, ?_⟩
  unfold propG
  cases q : PySem.W.recIn K (ma K (ga K x) m) "property" with
  | none =>
    rw [q] at h4
    cases h4
  | some l =>
    rw [q] at h4
    cases l with
    | nil => cases h4
    | cons v l =>
      cases v with
      | ref g => exact ⟨l, rfl⟩
      | _ => cases h4
end Ca

set_option maxHeartbeats 0
namespace Q
open PySem PySem.Spec PyProof.Rows L2 Ca
def fs1 : List (PySem.W.Frag → Bool) := [(fun K => (He.Fa.free "isinstance").ok K), (fun K => (He.Fa.free "int").ok K), (fun K => (He.Fa.free "bool").ok K), (fun K => (He.Fa.free "str").ok K), (fun K => (He.Fa.free "tuple").ok K), (fun K => (He.Fa.free "list").ok K), (fun K => (He.Fa.free "len").ok K), (fun K => (He.Fa.free "all").ok K), (fun K => (He.Fa.free "sorted").ok K), (fun K => (He.Fa.free "repr").ok K), (fun K => (He.Fa.free "max").ok K), (fun K => (He.Fa.free "min").ok K), (fun K => (He.Fa.free "range").ok K), (fun K => (He.Fa.glo "KINDS").ok K), (fun K => (He.Fa.glo "NoAtoms").ok K), (fun K => (He.Fa.glo "Question").ok K), (fun K => (He.Fa.glo "law").ok K)]
def fs2 : List (PySem.W.Frag → Bool) := [(fun K => (He.Fa.glo "is_number").ok K), (fun K => (He.Fa.glo "is_triple").ok K), (fun K => (He.Fa.glo "are_atoms").ok K), (fun K => (He.Fa.glo "variables_of").ok K), (fun K => (He.Fa.glo "text_of_atoms").ok K), (fun K => (He.Fa.glo "_law_cell").ok K), (fun K => (He.Fa.glo "_law_source").ok K), (fun K => (He.Fa.glo "_law_draw").ok K), (fun K => (He.Fa.glo "_law_choose").ok K), (fun K => (He.Fa.glo "_law_is_equal").ok K), (fun K => (He.Fa.glo "_law_words").ok K), (fun K => (He.Fa.glo "_law_asked").ok K), (fun K => (He.Fa.glo "_law_is_atom").ok K), (fun K => (He.Fa.glo "_law_built").ok K), (fun K => (He.Fa.glo "_law_said").ok K), (fun K => (He.Fa.glo "_law_due").ok K), (fun K => (He.Fa.glo "_law_odd").ok K)]
def fs3 : List (PySem.W.Frag → Bool) := [(fun K => He.tupB K "KINDS" [.str "A", .str "B", .str "C"]), (fun K => (He.Fa.int "MOST_ATOMS" 4).ok K), (fun K => (He.Fa.int "MOST_VARIABLE" 9).ok K), (fun K => (K.lookup sysModules).isSome), (fun K => (He.Fa.cls "Question").ok K), (fun K => (He.Fa.noat "Question" "given").ok K), (fun K => (He.Fa.noat "Question" "ordered").ok K), (fun K => (He.Fa.noat "Question" "used").ok K), (fun K => (He.Fa.exc "NoAtoms").ok K), (fun K => (He.Fa.exm "NoAtoms" "NoAtoms" true).ok K), (fun K => (He.Fa.mkr "Question").ok K), (fun K => propB "Question" "atoms" K), (fun K => (He.Fa.meth "Question" "__len__").ok K), (fun K => (He.Fa.meth "Question" "text").ok K)]
def fs : List (PySem.W.Frag → Bool) := fs1 ++ fs2 ++ fs3
def df_num : DfX := ⟨fun K => He.ga K "is_number", "is_number", "is_number", s_is_number⟩
def df_tri : DfX := ⟨fun K => He.ga K "is_triple", "is_triple", "is_triple", s_is_triple⟩
def df_are : DfX := ⟨fun K => He.ga K "are_atoms", "are_atoms", "are_atoms", s_are_atoms⟩
def df_vars : DfX := ⟨fun K => He.ga K "variables_of", "variables_of", "variables_of", s_variables_of⟩
def df_text : DfX := ⟨fun K => He.ga K "text_of_atoms", "text_of_atoms", "text_of_atoms", s_text_of_atoms⟩
def df_cell : DfX := ⟨fun K => He.ga K "_law_cell", "_law_cell", "_law_cell", s_cell⟩
def df_source : DfX := ⟨fun K => He.ga K "_law_source", "_law_source", "_law_source", s_source⟩
def df_draw : DfX := ⟨fun K => He.ga K "_law_draw", "_law_draw", "_law_draw", s_draw⟩
def df_choose : DfX := ⟨fun K => He.ga K "_law_choose", "_law_choose", "_law_choose", s_choose⟩
def df_eq : DfX := ⟨fun K => He.ga K "_law_is_equal", "_law_is_equal", "_law_is_equal", s_eq⟩
def df_words : DfX := ⟨fun K => He.ga K "_law_words", "_law_words", "_law_words", s_words⟩
def df_asked : DfX := ⟨fun K => He.ga K "_law_asked", "_law_asked", "_law_asked", s_asked⟩
def df_isatom : DfX := ⟨fun K => He.ga K "_law_is_atom", "_law_is_atom", "_law_is_atom", s_isatom⟩
def df_built : DfX := ⟨fun K => He.ga K "_law_built", "_law_built", "_law_built", s_built⟩
def df_said : DfX := ⟨fun K => He.ga K "_law_said", "_law_said", "_law_said", s_said⟩
def df_due : DfX := ⟨fun K => He.ga K "_law_due", "_law_due", "_law_due", s_due⟩
def df_odd : DfX := ⟨fun K => He.ga K "_law_odd", "_law_odd", "_law_odd", s_odd⟩
def df_law : DfX := ⟨fun K => He.ga K "law", "law", "law", s_law⟩
def df_init : DfX := ⟨fun K => He.ma K (He.ga K "Question") "__init__", "__init__", "Question.__init__", s_init⟩
def df_len : DfX := ⟨fun K => He.ma K (He.ga K "Question") "__len__", "__len__", "Question.__len__", s_len⟩
def df_qtext : DfX := ⟨fun K => He.ma K (He.ga K "Question") "text", "text", "Question.text", s_qtext⟩
def df_atoms : DfX := ⟨fun K => propG K (He.ma K (He.ga K "Question") "atoms"), "atoms", "Question.atoms", s_atoms⟩
def fn : List DfX := [df_num, df_tri, df_are, df_vars, df_text, df_cell, df_source, df_draw, df_choose, df_eq, df_words, df_asked, df_isatom, df_built, df_said, df_due, df_odd, df_law, df_init, df_len, df_qtext, df_atoms]
def nm1 : List PySem.Str := ["_wall", "KINDS", "LONGEST_NUMBER", "is_number", "is_triple", "number_of_word", "CountError", "NoRows", "NoKey", "NoText", "NoTable", "NoAtoms", "NoQuestion", "TooMuch", "MOST_ROWS", "MOST_VALUE", "MOST_OFTEN", "MOST_DIGIT", "DIGIT_BASE", "is_key", "is_row", "are_rows", "text_of_rows", "row_of_line", "greatest_value"]
def nm2 : List PySem.Str := ["summed_rows", "shifted_rows", "paired_rows", "Table", "check_table", "table_within_limits", "MOST_ATOMS", "MOST_VARIABLE", "are_atoms", "text_of_atoms", "atom_of_word", "variables_of", "Question", "check_question", "question_within_limits", "agrees", "choices", "count_of", "_law_cell", "_law_source", "_law_draw", "_law_choose", "_law_is_equal", "_law_words", "_law_asked"]
def nm3 : List PySem.Str := ["_law_is_atom", "_law_built", "_law_said", "_law_due", "_law_odd"]
def nms : List PySem.Str := nm1 ++ nm2 ++ nm3
abbrev R : PySem.W.OpenRow := PySem.W.OpenLaw.row PySem.Challenge.rw_countalike_k09_what_is_no_question
abbrev hk : PySem.W.Hook := hookX 7 fs fn
def ob (s : PySem.W.SharedT) : AlX := seeG 7 fs fn (HandSHeadRun.getT s)
theorem ob_eq (s : PySem.W.SharedT) : ob s = hk.obs s.abs := seeG_eq (HandSHeadRun.getT_eq s)
theorem run (w : World) : HandSHeadRun.RunEq R (PySem.W.view R.prog [60]) hk ob 30000 nms w := by
  intro os
  kernel_rfl
theorem facts {P : Program} {w : World} {K : PySem.W.Frag} {h : Heap} {mg : PySem.Str → Option Value} {f : Addr} (X : K.In h) (G : h.Ns mainGlobals mg) (hfa : mg ("law" : PySem.Str) = some (.ref f)) (c : SaysX fs fn K) :
    ∀ base : Heap, K.In base → base.Ns mainGlobals mg → FnG P w K mg base CX0 8 f (spLaw K) := by
  intro base _ _
  obtain ⟨fd_num, F_num⟩ := c.def_ 0 (d := df_num) rfl
  obtain ⟨fd_tri, F_tri⟩ := c.def_ 1 (d := df_tri) rfl
  obtain ⟨fd_are, F_are⟩ := c.def_ 2 (d := df_are) rfl
  obtain ⟨fd_vars, F_vars⟩ := c.def_ 3 (d := df_vars) rfl
  obtain ⟨fd_text, F_text⟩ := c.def_ 4 (d := df_text) rfl
  obtain ⟨fd_cell, F_cell⟩ := c.def_ 5 (d := df_cell) rfl
  obtain ⟨fd_source, F_source⟩ := c.def_ 6 (d := df_source) rfl
  obtain ⟨fd_draw, F_draw⟩ := c.def_ 7 (d := df_draw) rfl
  obtain ⟨fd_choose, F_choose⟩ := c.def_ 8 (d := df_choose) rfl
  obtain ⟨fd_eq, F_eq⟩ := c.def_ 9 (d := df_eq) rfl
  obtain ⟨fd_words, F_words⟩ := c.def_ 10 (d := df_words) rfl
  obtain ⟨fd_asked, F_asked⟩ := c.def_ 11 (d := df_asked) rfl
  obtain ⟨fd_isatom, F_isatom⟩ := c.def_ 12 (d := df_isatom) rfl
  obtain ⟨fd_built, F_built⟩ := c.def_ 13 (d := df_built) rfl
  obtain ⟨fd_said, F_said⟩ := c.def_ 14 (d := df_said) rfl
  obtain ⟨fd_due, F_due⟩ := c.def_ 15 (d := df_due) rfl
  obtain ⟨fd_odd, F_odd⟩ := c.def_ 16 (d := df_odd) rfl
  obtain ⟨fd_law, F_law⟩ := c.def_ 17 (d := df_law) rfl
  obtain ⟨fd_init, F_init⟩ := c.def_ 18 (d := df_init) rfl
  obtain ⟨fd_len, F_len⟩ := c.def_ 19 (d := df_len) rfl
  obtain ⟨fd_qtext, F_qtext⟩ := c.def_ 20 (d := df_qtext) rfl
  obtain ⟨fd_atoms, F_atoms⟩ := c.def_ 21 (d := df_atoms) rfl
  have e := hfa.symm.trans (He.glo_ok X G (c.fact 16 rfl))
  cases e
  have sK : ∀ H : Hp, SqT K H (He.ga K "KINDS") [.str "A", .str "B", .str "C"] := fun H => He.tupB_ok (c.fact 34 rfl) H
  have T : Tx K mg := {
    isi := (He.free_ok X G (c.fact 0 rfl)), int := (He.free_ok X G (c.fact 1 rfl)), bool := (He.free_ok X G (c.fact 2 rfl)), str := (He.free_ok X G (c.fact 3 rfl)), tup := (He.free_ok X G (c.fact 4 rfl)), lst := (He.free_ok X G (c.fact 5 rfl)), len := (He.free_ok X G (c.fact 6 rfl)), all := (He.free_ok X G (c.fact 7 rfl)),
    sorted := (He.free_ok X G (c.fact 8 rfl)), repr := (He.free_ok X G (c.fact 9 rfl)), max := (He.free_ok X G (c.fact 10 rfl)), min := (He.free_ok X G (c.fact 11 rfl)), range := (He.free_ok X G (c.fact 12 rfl)),
    kinds := ⟨_, (He.glo_ok X G (c.fact 13 rfl)), sK⟩, mAtoms := He.int_ok X G (c.fact 35 rfl), mVar := He.int_ok X G (c.fact 36 rfl), sm := Option.isSome_iff_exists.mp (c.fact 37 rfl) }
  obtain ⟨x1, x2, x3, x4⟩ := He.exc_ok (c.fact 42 rfl)
  have TQ : QT K mg (He.ga K "Question") (He.ga K "NoAtoms") := {
    cl := He.cls_ok (c.fact 38 rfl), nG := He.noat_ok (c.fact 39 rfl), nO := He.noat_ok (c.fact 40 rfl), nU := He.noat_ok (c.fact 41 rfl),
    gN := (He.glo_ok X G (c.fact 14 rfl)), xN := x1, kN := x2, bN := x3, tN := x4 }
  have M := He.mkr_ok (c.fact 44 rfl)
  have mL := He.meth_ok (c.fact 46 rfl)
  have mX := He.meth_ok (c.fact 47 rfl)
  have b_tri : Binds K fd_tri ["thing", "most"] [] := F_tri.bindsN fun _ _ _ _ _ _ us hl => match us, hl with | [_, _], _ => rfl
  have b_are : Binds K fd_are ["things"] [] := F_are.bindsN fun _ _ _ _ _ _ us hl => match us, hl with | [_], _ => rfl
  have b_vars : Binds K fd_vars ["atoms"] [] := F_vars.bindsN fun _ _ _ _ _ _ us hl => match us, hl with | [_], _ => rfl
  have b_text : Binds K fd_text ["atoms"] [] := F_text.bindsN fun _ _ _ _ _ _ us hl => match us, hl with | [_], _ => rfl
  have b_cell : Binds K fd_cell ["_law_script", "_law_index"] [] := F_cell.bindsN fun _ _ _ _ _ _ us hl => match us, hl with | [_, _], _ => rfl
  have b_source : Binds K fd_source ["_law_cell_here"] [] := F_source.bindsN fun _ _ _ _ _ _ us hl => match us, hl with | [_], _ => rfl
  have b_draw : Binds K fd_draw ["_law_source_here", "_law_many"] [] := F_draw.bindsN fun _ _ _ _ _ _ us hl => match us, hl with | [_, _], _ => rfl
  have b_choose : Binds K fd_choose ["_law_source_here", "_law_values"] [] := F_choose.bindsN fun _ _ _ _ _ _ us hl => match us, hl with | [_, _], _ => rfl
  have b_words : Binds K fd_words ["_law_source_here", "_law_many"] [] := F_words.bindsN fun _ _ _ _ _ _ us hl => match us, hl with | [_, _], _ => rfl
  have b_asked : Binds K fd_asked ["_law_atoms"] [] := F_asked.bindsN fun _ _ _ _ _ _ us hl => match us, hl with | [_], _ => rfl
  have b_isatom : Binds K fd_isatom ["_law_thing"] [] := F_isatom.bindsN fun _ _ _ _ _ _ us hl => match us, hl with | [_], _ => rfl
  have b_built : Binds K fd_built ["_law_some"] [] := F_built.bindsN fun _ _ _ _ _ _ us hl => match us, hl with | [_], _ => rfl
  have b_said : Binds K fd_said ["_law_some"] [] := F_said.bindsN fun _ _ _ _ _ _ us hl => match us, hl with | [_], _ => rfl
  have b_due : Binds K fd_due ["_law_some"] [] := F_due.bindsN fun _ _ _ _ _ _ us hl => match us, hl with | [_], _ => rfl
  have b_odd : Binds K fd_odd ["_law_atom"] [] := F_odd.bindsN fun _ _ _ _ _ _ us hl => match us, hl with | [_], _ => rfl
  have b_len : Binds K fd_len ["self"] [] := F_len.bindsN fun _ _ _ _ _ _ us hl => match us, hl with | [_], _ => rfl
  have b_qtext : Binds K fd_qtext ["self"] [] := F_qtext.bindsN fun _ _ _ _ _ _ us hl => match us, hl with | [_], _ => rfl
  have b_atoms : Binds K fd_atoms ["self"] [] := F_atoms.bindsN fun _ _ _ _ _ _ us hl => match us, hl with | [_], _ => rfl
  have G_tri := ok_tri (P := P) (w := w) (base := base) F_tri T F_num (He.glo_ok X G (c.fact 17 rfl))
  have G_are := ok_are (P := P) (w := w) (base := base) F_are T G_tri b_tri F_tri.kp (He.glo_ok X G (c.fact 18 rfl))
  have G_vars := ok_vars (P := P) (w := w) (mg := mg) (base := base) F_vars T
  have G_text := ok_text (P := P) (w := w) (mg := mg) (base := base) F_text T
  have G_init := ok_init (P := P) (w := w) (base := base) F_init T TQ G_are b_are F_are.kp (He.glo_ok X G (c.fact 19 rfl)) G_vars b_vars F_vars.kp (He.glo_ok X G (c.fact 20 rfl))
  have G_atoms := ok_atoms (P := P) (w := w) (base := base) F_atoms TQ
  have G_len := ok_len (P := P) (w := w) (base := base) F_len TQ T
  have G_qtext := ok_qtext (P := P) (w := w) (base := base) F_qtext TQ G_text b_text F_text.kp (He.glo_ok X G (c.fact 21 rfl))
  have G_built := ok_built (P := P) (w := w) (base := base) F_built T M (He.glo_ok X G (c.fact 15 rfl)) G_init
  have G_asked := ok_asked (P := P) (w := w) (mg := mg) (base := base) F_asked T
  have G_isatom := ok_isatom (P := P) (w := w) (mg := mg) (base := base) F_isatom T
  have G_due := ok_due (P := P) (w := w) (base := base) F_due T G_isatom b_isatom F_isatom.kp (He.glo_ok X G (c.fact 29 rfl)) G_asked b_asked F_asked.kp (He.glo_ok X G (c.fact 28 rfl))
  have G_said := ok_said (P := P) (w := w) (base := base) F_said T TQ (He.exm_ok (c.fact 43 rfl)) G_built b_built F_built.kp (He.glo_ok X G (c.fact 30 rfl)) G_atoms b_atoms (prop_ok (c.fact 45 rfl)) G_len b_len mL.at_ mL.fn G_qtext b_qtext mX
  have G_draw := ok_draw (P := P) (w := w) (mg := mg) (base := base) F_draw
  have G_choose := ok_choose (P := P) (w := w) (base := base) F_choose T G_draw b_draw F_draw.kp (He.glo_ok X G (c.fact 24 rfl))
  have G_words := ok_words (P := P) (w := w) (base := base) F_words T G_draw b_draw F_draw.kp (He.glo_ok X G (c.fact 24 rfl)) G_choose b_choose F_choose.kp (He.glo_ok X G (c.fact 25 rfl))
  have G_odd := ok_odd (P := P) (w := w) (base := base) F_odd T G_asked b_asked F_asked.kp (He.glo_ok X G (c.fact 28 rfl))
  have G_cell := ok_cell (P := P) (w := w) (mg := mg) (base := base) F_cell T
  have G_source := ok_source (P := P) (w := w) (mg := mg) (base := base) F_source T
  have G_eq := ok_eq (P := P) (w := w) (mg := mg) (base := base) F_eq T
  exact ok_law F_law T G_cell b_cell F_cell.kp (He.glo_ok X G (c.fact 22 rfl)) G_source b_source F_source.kp (He.glo_ok X G (c.fact 23 rfl)) G_words b_words F_words.kp (He.glo_ok X G (c.fact 27 rfl)) G_said b_said F_said.kp (He.glo_ok X G (c.fact 31 rfl))
    G_due b_due F_due.kp (He.glo_ok X G (c.fact 32 rfl)) G_odd b_odd F_odd.kp (He.glo_ok X G (c.fact 33 rfl)) G_choose b_choose F_choose.kp (He.glo_ok X G (c.fact 25 rfl)) G_eq F_eq.kp (He.glo_ok X G (c.fact 26 rfl))
end Q
open PySem PySem.W PySem.Calls PyProof.Rows
theorem PySem.Challenge.cw_countalike_k09_what_is_no_question_holds : PySem.Challenge.rw_countalike_k09_what_is_no_question.Holds := by
  w_on; o_law
  refine HandSHeadRun.head_any (r := OpenLaw.row PySem.Challenge.rw_countalike_k09_what_is_no_question) (q := view (OpenLaw.row PySem.Challenge.rw_countalike_k09_what_is_no_question).prog [60]) (H := Q.hk) (ob := Q.ob) (M := 30000) (loose := Q.nms)
    (d := HandSHeadRun.topDef (OpenLaw.row PySem.Challenge.rw_countalike_k09_what_is_no_question).prog 60) (kwd := []) Q.ob_eq
    (by kernel_rfl) (fun s => by kernel_rfl) Q.run (by kernel_rfl) (by kernel_rfl) (by kernel_rfl) (by rfl) (by first | assumption | decide +kernel) (by decide +kernel) ⟨rfl, rfl, rfl, rfl, rfl, by decide +kernel⟩ ?hw ?hc
  case hw => w_witness2
  case hc =>
    refine Ca.walk_ofG (l := PySem.Challenge.rw_countalike_k09_what_is_no_question) (n := 63) (k := 8) rfl (by decide) (by kernel_rfl) ⟨rfl, by decide, by decide⟩ ?F
    intro w mg fa h Y G hmg0
    obtain ⟨K, KX, c⟩ := Y
    have hmg : mg ("law" : PySem.Str) = some (.ref fa) := by
      have e : (HandSHeadRun.topDef (OpenLaw.row PySem.Challenge.rw_countalike_k09_what_is_no_question).prog 60).name = ("law" : PySem.Str) := by kernel_rfl
      rw [← e]
      exact hmg0
    exact ⟨K, Q.spLaw K, KX, fun H a ns hl _ hS => ⟨a, ns, rfl, hS, hl, fun _ => rfl⟩, Q.facts KX G hmg c⟩

