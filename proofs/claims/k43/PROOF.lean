import PyProof.Rows.All
import Wide.All
import OpenK.AllK
import Wide.FinOn
import PyProof.EqAt
import PyProof.EqKinds
import PyProof.TupleCall
import HandS.Base
import HandS.Call
import HandS.List
import HandS.Comp
import HandS.Set
import HandS.Strs
import HandS.SetBool
import HandS.Ends
import HandS.More
import HandS.Exc
import HandS.Star
import HandS.Defaults
import HandS.Words
import HandS.HeadEnd
import HandS.Dict
import HandS.IsInst
import KE.SortData
import PyProof.ReprRoads
import HandS.TupAny
import HandS.WordsList
import HandS.Text
import HandS.FStr
import HandS.Iter
import HandS.StrMore
import HandS.Property
import HandS.ClsMeth
import HandS.Evl
import HandS.TryOnly
import HandS.TryMany
import HandS.ExcOwn
import HandS.WordsExc
import HandS.Wide
import HandS.Style
import HandS.Conv
import HandS.HeadHook1
import HandS.HeadHook2
import HandS.Flow
import HandS.CallLocal
import PyProof.ReprLen
import HandS.Head0
import HandS.Head1
import HandS.Head2
import KE.KStateDown
import KE.DataMinMax
import HandS.SetKeys
import HandS.WordsDict
import PyProof.Rows.RowBridgeK
import HandS.SetFor
import PySem.Challenge.RW_countalike_k43_normal_forms
set_option Elab.async false
set_option linter.all false
set_option maxRecDepth 100000
set_option maxHeartbeats 4000000
/-! a set comprehension of two clauses whose elements are ints -/
namespace Ca
open PySem PySem.Spec PyProof.Rows L2

abbrev sc2 (elt a0 b0 a1 b1 : Expr) (c0 c1 : List Expr) (scope : Scope) (pos : Pos) : Expr :=
  .SetComp elt [⟨a0, b0, c0, 0⟩, ⟨a1, b1, c1, 0⟩] scope pos
section
variable {prog : Program} {w : World} {A : Around} {R : Result → Shared → Prop} {s : Shared} {elt a0 b0 a1 b1 : Expr} {c0 c1 : List Expr}
  {scope : Scope} {pos : Pos} {it acc : Value} {env : Env}
abbrev Tst (M : Model) (A : Around) (env : Env) (cs : List Expr) (Q : Bool → Shared → Prop) (E : Value → Shared → Prop) (s : Shared) : Prop :=
  wpAny M A (forIn cs true fun c r => if r = true then do
      let ok ← isTrue c env (eval c env)
      pure (ForInStep.yield ok) else pure (ForInStep.yield r)) Q E s
theorem turn_outer : compTurn (sc2 elt a0 b0 a1 b1 c0 c1 scope pos) 0 it acc env = (do
      standAt b0.pos
      match ← pyNext it with
      | none => pure (.done .next)
      | some u =>
        letOwnedTupleGo a0 it u
        assign a0 env u
        let mut ok := true
        for c in c0 do
          if ok then ok ← isTrue c env (eval c env)
        if ok then
          let y ← eval b1 env
          standAt b1.pos
          let y ← foldedSetIterable b1 env y
          let _ ← runOwn (.compStart (sc2 elt a0 b0 a1 b1 c0 c1 scope pos) 1 (← holding [y] (pyIter y)) acc env) env
        again (.compLoop (sc2 elt a0 b0 a1 b1 c0 c1 scope pos) 0 it acc env)) := by rfl
theorem turn_inner : compTurn (sc2 elt a0 b0 a1 b1 c0 c1 scope pos) 1 it acc env = (do
      standAt b1.pos
      match ← pyNext it with
      | none => pure (.done .next)
      | some u =>
        letOwnedTupleGo a1 it u
        assign a1 env u
        let mut ok := true
        for c in c1 do
          if ok then ok ← isTrue c env (eval c env)
        if ok then
          (do let y ← eval elt env; standAt elt.pos; let _ ← call (.builtin "set.add") [acc, y])
        again (.compLoop (sc2 elt a0 b0 a1 b1 c0 c1 scope pos) 1 it acc env)) := by rfl
abbrev Nt (prog : Program) (w : World) (A : Around) (env : Env) (R : Result → Shared → Prop) : Value → Shared → Prop :=
  notedBy (model prog w) A env fun x s' => R (.error x) s'
theorem loop_outer (fs : ∀ x, foldedSetIterable b1 env x = pure x) (J : Nat → Shared → Prop)
    (turn : ∀ n s, J n s → wpAny (model prog w) A (pyNext it) (fun r s₁ => match r with
      | none => R (.ok .next) s₁
      | some u => wpAny (model prog w) A (letOwnedTupleGo a0 it u) (fun _ s₂ => wpAny (model prog w) A (assign a0 env u) (fun _ s₃ =>
          Tst (model prog w) A env c0 (fun ok s₄ => if ok = true then wpAny (model prog w) A (eval b1 env) (fun x s₅ =>
            wpAny (model prog w) A (pyIter x) (fun z s₆ => codeAny (model prog w) A (.compStart (sc2 elt a0 b0 a1 b1 c0 c1 scope pos) 1 z acc env)
              (fun r s' => match r with
                | .ok _ => ∃ m, m < n ∧ J m s'
                | .error _ => False) s₆) (Nt prog w A env R) s₅) (Nt prog w A env R) s₄
            else ∃ m, m < n ∧ J m s₄) (Nt prog w A env R) s₃) (Nt prog w A env R) s₂) (Nt prog w A env R) s₁) (Nt prog w A env R) s)
    (n : Nat) (h : J n s) : codeAny (model prog w) A (.compLoop (sc2 elt a0 b0 a1 b1 c0 c1 scope pos) 0 it acc env) R s := by
  refine codeAny_loop rfl J (fun n s hJ => ?_) n h
  show wpAny _ A ((compTurn (sc2 elt a0 b0 a1 b1 c0 c1 scope pos) 0 it acc env).onRaise (fun x => do noteFrame x env; theTreesLotGoes x)) _ _ s
  refine wpAny_noted ?_
  rw [turn_outer]
  refine wpAny_bind (wpAny_standAt (wpAny_bind (wpAny_mono (turn n s hJ) (fun r s₁ k₁ => ?_) fun _ _ z => z)))
  cases r with
  | none => exact wpAny_pure k₁
  | some u =>
    refine wpAny_bind (wpAny_mono k₁ (fun _ s₂ k₂ => ?_) fun _ _ z => z)
    refine wpAny_bind (wpAny_mono k₂ (fun _ s₃ k₃ => ?_) fun _ _ z => z)
    refine wpAny_bind (wpAny_mono k₃ (fun ok s₄ k₄ => ?_) fun _ _ z => z)
    cases ok with
    | false => exact wpAny_pure ⟨rfl, k₄⟩
    | true =>
      refine wpAny_bind (wpAny_mono k₄ (fun x s₅ k₅ => ?_) fun _ _ z => z)
      refine wpAny_bind (wpAny_standAt (wpAny_bind (wpAny_of_eq (fs x) (wpAny_bind (wpAny_holding (wpAny_mono k₅ (fun z s₆ k₆ => ?_) fun _ _ z => z))))))
      refine wpAny_bind (wpAny_runOwn ?_)
      rw [Around.mark_none]
      refine codeAny_mono k₆ fun r s' hr => ?_
      cases r with
      | error e => exact hr.elim
      | ok f => first | exact wpAny_pure ⟨rfl, hr⟩ | exact wpAny_bind (wpAny_pure (wpAny_pure ⟨rfl, hr⟩))
theorem loop_inner (J : Nat → Shared → Prop)
    (turn : ∀ n s, J n s → wpAny (model prog w) A (pyNext it) (fun r s₁ => match r with
      | none => R (.ok .next) s₁
      | some u => wpAny (model prog w) A (letOwnedTupleGo a1 it u) (fun _ s₂ => wpAny (model prog w) A (assign a1 env u) (fun _ s₃ =>
          Tst (model prog w) A env c1 (fun ok s₄ => if ok = true then wpAny (model prog w) A (eval elt env) (fun x s₅ =>
              wpAny (model prog w) A (call (.builtin "set.add") [acc, x]) (fun _ s₆ => ∃ m, m < n ∧ J m s₆) (Nt prog w A env R) s₅) (Nt prog w A env R) s₄
            else ∃ m, m < n ∧ J m s₄) (Nt prog w A env R) s₃) (Nt prog w A env R) s₂) (Nt prog w A env R) s₁) (Nt prog w A env R) s)
    (n : Nat) (h : J n s) : codeAny (model prog w) A (.compLoop (sc2 elt a0 b0 a1 b1 c0 c1 scope pos) 1 it acc env) R s := by
  refine codeAny_loop rfl J (fun n s hJ => ?_) n h
  show wpAny _ A ((compTurn (sc2 elt a0 b0 a1 b1 c0 c1 scope pos) 1 it acc env).onRaise (fun x => do noteFrame x env; theTreesLotGoes x)) _ _ s
  refine wpAny_noted ?_
  rw [turn_inner]
  refine wpAny_bind (wpAny_standAt (wpAny_bind (wpAny_mono (turn n s hJ) (fun r s₁ k₁ => ?_) fun _ _ z => z)))
  cases r with
  | none => exact wpAny_pure k₁
  | some u =>
    refine wpAny_bind (wpAny_mono k₁ (fun _ s₂ k₂ => ?_) fun _ _ z => z)
    refine wpAny_bind (wpAny_mono k₂ (fun _ s₃ k₃ => ?_) fun _ _ z => z)
    refine wpAny_bind (wpAny_mono k₃ (fun ok s₄ k₄ => ?_) fun _ _ z => z)
    cases ok with
    | false => exact wpAny_pure ⟨rfl, k₄⟩
    | true =>
      refine wpAny_bind (wpAny_bind (wpAny_mono k₄ (fun x s₅ k₅ => ?_) fun _ _ z => z))
      exact wpAny_bind (wpAny_standAt (wpAny_bind (wpAny_mono k₅ (fun _ s₆ k₆ => wpAny_pure (wpAny_pure ⟨rfl, k₆⟩)) fun _ _ z => z)))
theorem start_inner (h0 : codeAny (model prog w) A (.compLoop (sc2 elt a0 b0 a1 b1 c0 c1 scope pos) 1 it acc env) R s)
    (h : wpAny (model prog w) A (pyIter it) (fun z s' => codeAny (model prog w) A (.compLoop (sc2 elt a0 b0 a1 b1 c0 c1 scope pos) 1 z acc env) R s') (Nt prog w A env R) s) :
    codeAny (model prog w) A (.compStart (sc2 elt a0 b0 a1 b1 c0 c1 scope pos) 1 it acc env) R s := by
  refine codeAny_of_tree ?_
  show wpAny _ _ ((compStart (sc2 elt a0 b0 a1 b1 c0 c1 scope pos) 1 it acc env).onRaise (fun x => do noteFrame x env; standAt theWindowsPlace)) _ _ s
  refine wpAny_notedAt ?_
  unfold compStart
  show wpAny _ _ (ask >>= _) _ _ s
  refine wpAny_bind (wpAny_askSetting (wpAny_ite ?_))
  split
  · first | exact wpAny_bind (wpAny_pure (wpAny_pure (And.intro rfl h0))) | exact wpAny_pure (And.intro rfl h0)
  · refine wpAny_bind (wpAny_rule ?_)
    show wpAny _ _ (standAt b1.pos >>= _) _ _ s
    exact wpAny_bind (wpAny_standAt (wpAny_bind (wpAny_mono h (fun z s' k => wpAny_pure (And.intro rfl k)) fun _ _ x => x)))
end
end Ca

set_option maxHeartbeats 4000000
namespace Ca
open PySem PySem.Spec PyProof.Rows L2
/-- one more int in a set -/
def more (S : Int → Bool) (k : Int) : Int → Bool := fun j => S j || decide (j = k)
def cntS (S : Int → Bool) (n : Nat) (k : Int) : Nat := if S k = true then n else n + 1
section
variable {X : Cx}
/-- {elt for .. in .. for .. in ..}: D the new set of ints; vs all names of the block, us those of the second target -/
def tSc2 (w : World) (wi : TI) (g : TG) (tt : TT) (wj : TI) (g1 : TG) (tt1 : TT) (te : TE) (vs us : List Nat) : TE := fun σ H Q =>
  wi σ H fun J H1 => ∀ D, H1 D = none → ∃ W : Nat → Nat → Hp → Prop, (∃ m, W 0 m (upd H1 D (SetO w D (fun _ => false) 0))) ∧ ∀ i m H, W i m H →
    (J.stop i H ∧ Q (.ref D) H) ∨ (J.go i H ∧ ∃ Nx : Hp → Prop, (∀ H', Nx H' → ∃ m', m' < m ∧ W (i + 1) m' H') ∧
      ∀ x H', J.yld i H x H' → g x (wipe σ vs) H' fun σ2 H2 => wipe σ2 vs = wipe σ vs ∧ tt σ2 H2 fun b H3 =>
        if b = true then wj σ2 H3 fun J1 H4 => ∃ W1 : Nat → Nat → Hp → Prop, (∃ m, W1 0 m H4) ∧ ∀ j k H, W1 j k H →
          (J1.stop j H ∧ Nx H) ∨ (J1.go j H ∧ ∃ Nx1 : Hp → Prop, (∀ H', Nx1 H' → ∃ k', k' < k ∧ W1 (j + 1) k' H') ∧
            ∀ x H', J1.yld j H x H' → g1 x (wipe σ2 us) H' fun σ3 H5 => wipe σ3 us = wipe σ2 us ∧ tt1 σ3 H5 fun b H6 =>
              if b = true then te σ3 H6 fun y H7 => ∃ (k : Int) (S : Int → Bool) (n : Nat), y = .int k ∧ H7 D = some (SetO w D S n) ∧ n + 1 < scanBound ∧
                Nx1 (upd H7 D (SetO w D (more S k) (cntS S n k))) else Nx1 H6)
        else Nx H3)
/-- set.add of an int, as a raw call -/
theorem add_int {pins : List (Addr × Obj)} {σ : L2.St} {H : Hp} {s : Shared} {E : Value → Shared → Prop} {D : Addr} {S : Int → Bool} {n : Nat} {k : Int} {u : Value}
    {Q : Value → Shared → Prop} (I : Inv X pins σ H s) (hD : H D = some (SetO X.w D S n)) (room : n + 1 < scanBound) (ru : RelV (.int k) u)
    (h : ∀ s', Inv X pins σ (upd H D (SetO X.w D (more S k) (cntS S n k))) s' → Q .none s') : wpAny (model X.prog X.w) X.A (call (.builtin "set.add") [.ref D, u]) Q E s := by
  obtain ⟨tk, rfl⟩ := ru
  refine setR_add (setO_get I hD) room fun h' sb new => ?_
  have ex : ∃ u, h'.get? D = some u := by
    have ⟨o, _, _, _, ho, _⟩ := new
    exact ⟨o, ho⟩
  refine h _ (I.write (e := D) (t' := s.toks + 1) (by rw [hD]; trivial) (.inl rfl) (fun b u hb hu => ?_) ex (setO_new new))
  exact (sb.2 b hb).trans hu
abbrev eSet (w : World) : Obj := { cls := .type "set", dict := none, data := .set #[] 0 (.fresh 0 0 (!w.params.followText "set-order")) }
theorem pe_sc2 {elt a0 b0 a1 b1 : Expr} {c0 c1 : List Expr} {scope : Scope} {own : List (PySem.Str × Nat)} {us : List Nat} {pos : Pos} {wi wj : TI} {g g1 : TG} {tt tt1 : TT} {te : TE}
    (hc : X.calm = true) (hN : X.N.Nodup) (hi : PI X a0 b0 wi) (ok : BlkOk X.N X.env.scope scope own) (hv : ∀ i ∈ us, i ∈ own.map (·.2))
    (hg : ∀ (s : Shared) (H : Hp) (C : Addr) (cl : List (PySem.Str × Addr)) (fq : List Addr), PG (X.blk s H scope (compEnvC scope cl C X.env) fq) a0 g) (ht : ∀ (s : Shared) (H : Hp) (C : Addr) (cl : List (PySem.Str × Addr)) (fq : List Addr), PTs (X.blk s H scope (compEnvC scope cl C X.env) fq) c0 tt) (hj : ∀ (s : Shared) (H : Hp) (C : Addr) (cl : List (PySem.Str × Addr)) (fq : List Addr), PI (X.blk s H scope (compEnvC scope cl C X.env) fq) a1 b1 wj) (hg1 : ∀ (s : Shared) (H : Hp) (C : Addr) (cl : List (PySem.Str × Addr)) (fq : List Addr), PG (X.blk s H scope (compEnvC scope cl C X.env) fq) a1 g1)
    (ht1 : ∀ (s : Shared) (H : Hp) (C : Addr) (cl : List (PySem.Str × Addr)) (fq : List Addr), PTs (X.blk s H scope (compEnvC scope cl C X.env) fq) c1 tt1) (he : ∀ (s : Shared) (H : Hp) (C : Addr) (cl : List (PySem.Str × Addr)) (fq : List Addr), PE (X.blk s H scope (compEnvC scope cl C X.env) fq) elt te) (f0 : ∀ x, foldedSetIterable b0 X.env x = pure x := by intro _; rfl)
    (f1 : ∀ env x, foldedSetIterable b1 env x = pure x := by intro _ _; rfl) :
    PE X (sc2 elt a0 b0 a1 b1 c0 c1 scope pos) (tSc2 X.w wi g tt wj g1 tt1 te (own.map (·.2)) us) := by
  refine ⟨fun pins s σ H Q I h => ?_⟩
  rw [PpSet.eval_SetComp]
  have free : ∀ y ∈ scope.names, y.2 = .free → ∃ c, X.env.cells.lookup y.1 = some c := fun y hy e =>
    (ok.free y hy e).elim (fun k => I.ok.has _ (.inl k)) (fun k => I.ok.has _ (.inr k))
  refine wpAny_comprehension_free (use := none) rfl f0 (closure_ok free) ok.kind (fun y hy e => by rw [ok.uniq y hy, e]) ?_
  refine thn (hi.run pins s σ H _ I h) fun xv s1 hx => thn hx fun itv s2 h2 => ?_
  obtain ⟨it, fp, tn, J, H2, rfl, I2, T, st2, fpo, q⟩ := h2
  refine PpSet.newSet_ok (newEnv_comp ?_)
  generalize hD : s2.heap.objs.size = D
  obtain ⟨W, ⟨m0, w0⟩, turn⟩ := q D (I2.hok.fresh (Nat.le_of_eq hD))
  generalize hs3 : ({ s2 with heap := s2.heap.push (eSet X.w) } : Shared) = s3
  have e3 : s3.heap = s2.heap.push (eSet X.w) := by rw [← hs3]
  have I3 : Inv X pins σ (upd H2 D (SetO X.w D (fun _ => false) 0)) s3 := by
    subst hs3 hD
    exact I2.laid (t' := s2.toks) (fun b o e => Heap.get?_push_of_some _ e) (Nat.le_refl _) (setO_new (setR_fresh X.w))
  have low : ∀ b ∈ fp, b < s2.heap.objs.size := fun b hb =>
    let ⟨_, e, _⟩ := T.obj _ _ st2 b hb
    Heap.lt_size e
  have fpo3 : ∀ b ∈ fp, FpOk X pins (upd H2 D (SetO X.w D (fun _ => false) 0)) b ∧ b < s3.heap.objs.size := fun b hb => by
    have lt := low b hb
    refine ⟨⟨?_, (fpo b hb).2⟩, by rw [e3, Heap.size_push]; exact Nat.lt_succ_of_lt lt⟩
    rw [upd_ne (by subst hD; exact Nat.ne_of_lt lt)]
    exact (fpo b hb).1
  have st3 : tn 0 s3.heap := T.keep _ _ _ st2 fun b _ o e => by rw [e3]; exact Heap.get?_push_of_some _ e
  have I4 := block_start I3 ok hN fpo3
  generalize hcl : cellsFrom (s3.heap.objs.size + 1) scope.names (cloFrom X.env.cells scope.names []) = cl at I4 ⊢
  have qg := hg s3 (upd H2 D (SetO X.w D (fun _ => false) 0)) s3.heap.objs.size cl fp
  have qt := ht s3 (upd H2 D (SetO X.w D (fun _ => false) 0)) s3.heap.objs.size cl fp
  have qj := hj s3 (upd H2 D (SetO X.w D (fun _ => false) 0)) s3.heap.objs.size cl fp
  have qg1 := hg1 s3 (upd H2 D (SetO X.w D (fun _ => false) 0)) s3.heap.objs.size cl fp
  have qt1 := ht1 s3 (upd H2 D (SetO X.w D (fun _ => false) 0)) s3.heap.objs.size cl fp
  have qe := he s3 (upd H2 D (SetO X.w D (fun _ => false) 0)) s3.heap.objs.size cl fp
  have non3 : ∀ b ∈ fp, (upd H2 D (SetO X.w D (fun _ => false) 0)) b = none := fun b hb => (fpo3 b hb).1.1
  show codeAny _ _ (.compStart (sc2 elt a0 b0 a1 b1 c0 c1 scope pos) 0 (.ref it) (.ref D) (compEnvC scope cl s3.heap.objs.size X.env)) (compPost (model X.prog X.w) X.A X.xe none _ (.ref D) s3.heap.objs.size)
    { s3 with heap := pushCells (s3.heap.push { cls := .type "dict", data := .dict #[] }) scope.names }
  generalize hce : compEnvC scope cl s3.heap.objs.size X.env = ce at I4 qg qt qj qg1 qt1 qe ⊢
  have loc : ce.locals = s3.heap.objs.size := by subst hce; rfl
  generalize hH3 : upd H2 D (SetO X.w D (fun _ => false) 0) = H3 at I3 I4 qg qt qj qg1 qt1 qe w0 non3 fpo3
  generalize hs4 : ({ s3 with heap := pushCells (s3.heap.push { cls := .type "dict", data := .dict #[] }) scope.names } : Shared) = s4 at I4 ⊢
  have st4 : tn 0 s4.heap := T.keep _ _ _ st3 fun b _ o e => by
    subst hs4
    exact pushCells_keeps _ _ _ _ (Heap.get?_push_of_some _ e)
  let Y : Cx := X.blk s3 H3 scope ce fp
  have okFp : ∀ {σ' : L2.St} {H' : Hp} {s' : Shared}, Inv Y [] σ' H' s' → (∀ b ∈ fp, H' b = none) → ∀ b ∈ fp, FpOk Y [] H' b := fun {σ' H' s'} K hn b hb =>
    ⟨hn b hb, (K.ok.exf b hb).1, K.ok.exfs b hb, .inl hb, fun x c e => (K.ok.exf b hb).2 x c e,
      fun p hp => absurd (show p ∈ ([] : List (Addr × Obj)) ++ [] from hp) (by simp)⟩
  generalize hvs : own.map (·.2) = vs at turn hv I4
  have loop : codeAny (model X.prog X.w) X.A (.compLoop (sc2 elt a0 b0 a1 b1 c0 c1 scope pos) 0 (.ref it) (.ref D) ce)
      (compPost (model X.prog X.w) X.A X.xe none (EP X pins σ Q) (.ref D) s3.heap.objs.size) s4 := by
    refine loop_outer (f1 ce) (fun n s' => ∃ i H', Inv Y [] (wipe σ vs) H' s' ∧ tn i s'.heap ∧ (∀ b ∈ fp, H' b = none) ∧ W i n H') ?_ m0 ⟨0, H3, I4, st4, non3, w0⟩
    rintro n s5 ⟨i, H5, I5, st5, n5, w5⟩
    rcases turn i n H5 w5 with ⟨stop, fin⟩ | ⟨go, Nx, hNx, step⟩
    · refine thnF (T.done Y rfl rfl rfl hc i [] s5 _ H5 (fun _ _ => False) I5 (okFp I5 n5) st5 stop) fun r s6 ⟨hr, I6⟩ => ?_
      subst hr
      have I7 : Inv X pins σ H5 s6 := I3.call' (ch := fp) I6.os I6.base I6.hok I6.bare fun b hb =>
        ⟨(fpo3 b hb).1.2.2.2.1, (fpo3 b hb).1.2.1, (fpo3 b hb).1.2.2.2.2.1, (fpo3 b hb).1.2.2.2.2.2⟩
      have nC : H5 s3.heap.objs.size = none := by
        have z : H5 ce.locals = none := I6.free
        rwa [loc] at z
      obtain ⟨m, hm, _⟩ := I6.loc
      have hm : s6.heap.Ns ce.locals m := hm
      rw [loc] at hm
      obtain ⟨z0, z1, z2, z3, z4, z5⟩ := I3.fpOk (Nat.le_refl _) nC
      refine ⟨m, hm, fun h'' sb => ⟨.ref D, H5, I7.turned (t' := s6.toks) (fun b o hb e => ?_) z0 z1 z3 z4 z5, rfl, fin⟩⟩
      exact (sb.2 b hb).trans e
    · refine thnF (T.item Y rfl rfl rfl hc i [] s5 _ H5 (fun _ _ => False) I5 (okFp I5 n5) st5 go) fun r s6 ⟨u, hr, h6⟩ => ?_
      subst hr
      refine thnF h6 fun _ s7 ⟨x, H7, I7, r7, y7, st7, n7⟩ => ?_
      refine thnF (qg.run _ s7 _ H7 x u _ (I7.pinned (okFp I7 n7) (T.obj _ _ st7)) r7 (step x H7 y7)) fun _ s8 ⟨σ8, H8, I8, w8, q8⟩ => ?_
      refine thnF (qt.run _ s8 σ8 H8 _ I8 q8) fun b s9 ⟨H9, I9, q9⟩ => ?_
      have close : ∀ {τ : L2.St} {s' : Shared} {H' : Hp}, Inv Y ([] ++ pinsAt fp s7.heap) τ H' s' → (wipe σ vs).length = τ.length →
          (∀ (j : Nat) v, (wipe σ vs)[j]? = some (some v) → τ[j]? = some (some v)) → Nx H' →
          ∃ m, m < n ∧ ∃ i H', Inv Y [] (wipe σ vs) H' s' ∧ tn i s'.heap ∧ (∀ b ∈ fp, H' b = none) ∧ W i m H' := fun {τ s' H'} K hl hk nx => by
        obtain ⟨m', hm, w'⟩ := hNx H' nx
        have held : ∀ b ∈ fp, ∀ o, s7.heap.get? b = some o → s'.heap.get? b = some o ∧ H' b = none := fun b hb o e =>
          let z := K.pin (b, o) (List.mem_append_right _ (List.mem_append_right _ (mem_pinsAt hb e)))
          ⟨z.1, z.2.1⟩
        refine ⟨m', hm, i + 1, H', (K.unpinned (pins := [])).weak hl hk, T.keep _ _ _ st7 fun b hb o e => (held b hb o e).1, fun b hb => ?_, w'⟩
        obtain ⟨o, e, _⟩ := T.obj _ _ st7 b hb
        exact (held b hb o e).2
      have l8 : (wipe σ vs).length = σ8.length := by rw [← w8, wipe_length]
      have k8 : ∀ (j : Nat) v, (wipe σ vs)[j]? = some (some v) → σ8[j]? = some (some v) := fun j v e => by
        rw [← w8] at e
        exact (wipe_some e).1
      have k9 : ∀ (j : Nat) v, (wipe σ vs)[j]? = some (some v) → (wipe σ8 us)[j]? = some (some v) := fun j v e => by
        rw [← w8] at e
        obtain ⟨z1, z2⟩ := wipe_some e
        rw [wipe_out fun z => z2 (hv j z)]
        exact z1
      cases b with
      | false =>
        simp only [Bool.false_eq_true, if_false] at q9 ⊢
        exact close I9 l8 k8 q9
      | true =>
        simp only [if_true] at q9 ⊢
        refine thnF (qj.run _ s9 σ8 H9 _ I9 q9) fun xv s10 hx => thnF hx fun itv s11 h11 => ?_
        obtain ⟨it1, fq, tm, J1, H11, rfl, I11, T1, st11, fqo, W1, ⟨m1, w1⟩, turn1⟩ := h11
        have okFq : ∀ {H' : Hp}, (∀ b ∈ fq, H' b = none) → ∀ b ∈ fq, FpOk Y ([] ++ pinsAt fp s7.heap) H' b := fun hn b hb => ⟨hn b hb, (fqo b hb).2⟩
        have loop1 : codeAny (model X.prog X.w) X.A (.compLoop (sc2 elt a0 b0 a1 b1 c0 c1 scope pos) 1 (.ref it1) (.ref D) ce) (fun r s' => match r with
              | .ok _ => ∃ m, m < n ∧ ∃ i H', Inv Y [] (wipe σ vs) H' s' ∧ tn i s'.heap ∧ (∀ b ∈ fp, H' b = none) ∧ W i m H'
              | .error _ => False) s11 := by
          refine loop_inner (fun k s' => ∃ j H', Inv Y ([] ++ pinsAt fp s7.heap) (wipe σ8 us) H' s' ∧ tm j s'.heap ∧ (∀ b ∈ fq, H' b = none) ∧ W1 j k H') ?_ m1
            ⟨0, H11, I11.weak (wipe_length _ _) (fun j v e => (wipe_some e).1), st11, fun b hb => (fqo b hb).1, w1⟩
          rintro k s12 ⟨j, H12, I12, st12, n12, w12⟩
          rcases turn1 j k H12 w12 with ⟨stop1, nx1⟩ | ⟨go1, Nx1, hNx1, step1⟩
          · refine thnF (T1.done Y rfl rfl rfl hc j _ s12 (wipe σ8 us) H12 (fun _ _ => False) I12 (okFq n12) st12 stop1) fun r s13 ⟨hr, I13⟩ => ?_
            subst hr
            exact close I13 (l8.trans (wipe_length σ8 us).symm) k9 nx1
          · refine thnF (T1.item Y rfl rfl rfl hc j _ s12 (wipe σ8 us) H12 (fun _ _ => False) I12 (okFq n12) st12 go1) fun r s13 ⟨u1, hr, h13⟩ => ?_
            subst hr
            refine thnF h13 fun _ s14 ⟨x1, H14, I14, r14, y14, st14, n14⟩ => ?_
            refine thnF (qg1.run _ s14 (wipe σ8 us) H14 x1 u1 _ (I14.pinned (okFq n14) (T1.obj _ _ st14)) r14 (step1 x1 H14 y14)) fun _ s15 ⟨τ, H15, I15, w15, q15⟩ => ?_
            refine thnF (qt1.run _ s15 τ H15 _ I15 q15) fun b1 s16 ⟨H16, I16, q16⟩ => ?_
            have close1 : ∀ {s' : Shared} {H' : Hp}, Inv Y (([] ++ pinsAt fp s7.heap) ++ pinsAt fq s14.heap) τ H' s' → Nx1 H' →
                ∃ m, m < k ∧ ∃ j H', Inv Y ([] ++ pinsAt fp s7.heap) (wipe σ8 us) H' s' ∧ tm j s'.heap ∧ (∀ b ∈ fq, H' b = none) ∧ W1 j m H' := fun {s' H'} K nx => by
              obtain ⟨m', hm, w'⟩ := hNx1 H' nx
              have held : ∀ b ∈ fq, ∀ o, s14.heap.get? b = some o → s'.heap.get? b = some o ∧ H' b = none := fun b hb o e =>
                let z := K.pin (b, o) (List.mem_append_right _ (List.mem_append_right _ (mem_pinsAt hb e)))
                ⟨z.1, z.2.1⟩
              refine ⟨m', hm, j + 1, H', K.unpinned.weak (by rw [← w15, wipe_length]) (fun j v e => ?_), T1.keep _ _ _ st14 fun b hb o e => (held b hb o e).1, fun b hb => ?_, w'⟩
              · rw [← w15] at e
                exact (wipe_some e).1
              · obtain ⟨o, e, _⟩ := T1.obj _ _ st14 b hb
                exact (held b hb o e).2
            cases b1 with
            | false =>
              simp only [Bool.false_eq_true, if_false] at q16 ⊢
              exact close1 I16 q16
            | true =>
              simp only [if_true] at q16 ⊢
              refine thnF (qe.run _ s16 τ H16 _ I16 q16) fun z s17 ⟨yv, H17, I17, r17, k0, S0, n0, ey, d17, room, nx⟩ => ?_
              subst ey
              exact add_int (X := Y) I17 d17 room r17 fun s18 I18 => close1 I18 nx
        exact start_inner loop1 (T1.self X.A 0 _ _ _ st11 loop1)
  exact PpSet.codeAny_compStart_set loop (T.self X.A 0 _ _ _ st4 loop)
end
end Ca

set_option maxHeartbeats 4000000
/-! defs that are called where no repr is under way (the stack's guards are known to be none) -/
namespace Ca
open PySem PySem.Spec PyProof.Rows L2
def FnG (P : Program) (w : World) (K : PySem.W.Frag) (mg : PySem.Str → Option Value) (base : Heap) (CX : CXT) (k : Nat) (f : Addr) (sp : Sp) : Prop :=
  ∀ (A : Around) (outer : List Env) (s : Shared) (H : Hp) (us : List Value) (vs : List V) (Q : VK) (E : XK), A.guards = some [] → Room k A →
    Env0 P w K mg base A outer s H → Vals vs us → sp vs H Q E → codeAny (model P w) A (.call (.ref f) ⟨us, []⟩) (CR CX outer P w H s Q E) s
section
variable {P : Program} {w : World} {K : PySem.W.Frag} {mg : PySem.Str → Option Value} {base : Heap} {CX : CXT} {k : Nat} {f : Addr} {fd : FuncData} {sp : Sp}
  {name qual : PySem.Str} {params : Arguments} {body : List Stmt} {scope : Scope} {N ps : List PySem.Str}
theorem FnG.mono {j : Nat} (F : FnG P w K mg base CX j f sp) (h : j ≤ k) : FnG P w K mg base CX k f sp :=
  fun A outer s H us vs Q E hg hr => F A outer s H us vs Q E hg (hr.mono h)
theorem fng_of (F : FunD K name qual params body scope [] [] f fd) (S : FnScope N ps scope)
    (bd : ∀ (s : Shared) (us : List Value), us.length = ps.length → BindsTo s fd ⟨us, []⟩ (ps.zip us)) (len : ∀ vs H Q E, sp vs H Q E → vs.length = ps.length)
    (hbody : ∀ (cdv : Value) (A : Around) (outer : List Env) (s : Shared) (H : Hp) (vs : List V) (Q : VK) (E : XK), A.guards = some [] →
      Room k (A.deeper (envOfC qual scope s.heap.objs.size f cdv)) → sp vs H Q E →
      ∃ t, PSs (cxOf CX P w K mg base N qual scope f cdv A outer s H E) body t ∧ t { nx := fun _ H' => Q .non H', rt := Q } (start N vs) H) :
    FnG P w K mg base CX (k + 1) f sp := by
  obtain ⟨oc, od, dV, kV, doc, pm, an, cdv, ct, osl, rfl, lk, hcd, _, _⟩ := F.ex
  intro A outer s H us vs Q E hg hr e0 r hsp
  have l1 := len _ _ _ _ hsp
  have l2 : us.length = ps.length := by rw [← r.length]; exact l1
  refine StX.run_bnd (G := fun zs H2 => zs = vs ∧ H2 = H) lk hcd S hr e0 (fun A' Ex Q' h => ?_) fun s2 H2 zs ⟨e1, e2⟩ hr' => ?_
  · exact bd s us l2 _ _ _ _ (h s H vs us e0 (Un.kept fun _ _ e => e) rfl (fun _ _ z => z) r l1 ⟨rfl, rfl⟩)
  · subst e1 e2
    exact hbody cdv A outer s2 _ _ Q E hg hr' hsp
end
section
variable {X : Cx} {CX : CXT} {k : Nat} {f : Addr} {sp : Sp} {E : XK} {x : PySem.Str} {p pos : Pos} {e : Expr} {es : List Expr} {t : TA}
theorem run_fnG {pins : List (Addr × Obj)} {σ : L2.St} {H : Hp} {s : Shared} {Q : VK} {us : List Value} {vs : List V} (F : FnG X.prog X.w X.K X.mg X.base CX k f sp)
    (hg : X.A.guards = some []) (hr : Room k X.A) (hx : Passes CX X E) (I : Inv X pins σ H s) (r : Vals vs us) (h : sp vs H Q E) :
    wpAny (model X.prog X.w) X.A (call (.ref f) us) (EP X pins σ Q) X.xe s := by
  refine wpAny_call (codeAny_mono (F X.A X.stack s H us vs Q E hg hr I.env0 r h) fun r s' hq => ?_)
  cases r with
  | error e => exact hx pins σ H s e s' I hq
  | ok fl =>
    cases fl with
    | ret u => exact I.after hq
    | _ => exact False.elim hq
/-- f(e, ..) of such a def -/
theorem pe_callG (F : FnG X.prog X.w X.K X.mg X.base CX k f sp) (hg : X.A.guards = some []) (hr : Room k X.A) (hgl : Gl X x) (hm : X.mg x = some (.ref f)) (hk : PySem.W.keepIn X.K (.ref f) = true)
    (hx : Passes CX X E) (ha : PA X (e :: es) t) (hdb : (x == ("__debug__" : PySem.Str)) = false := by decide)
    (he : starEach (e :: es) X.env = (false, eval e X.env) :: starEach es X.env := by rfl) (hpl : (backTo pos (starEach es X.env)).any (·.1) = false := by rfl) :
    PE X (.Call (.Name x p) (e :: es) [] pos) (tCall sp [] E t) := by
  refine ⟨fun pins s σ H Q I h => wpAny_Call_Name_kw (ld_glob I hgl hm ?_ hdb)⟩
  refine PySem.W.callWith_K (h₀ := X.base) I.ok.mod.kin hk (thn (ha.run pos pins s σ H _ I h) fun us s1 ⟨vs, H1, I1, r, q⟩ => ⟨I1.kIn, ?_⟩) he hpl
  have q2 : sp (vs ++ []) H1 Q E := q
  rw [List.append_nil] at q2
  exact run_fnG F hg hr hx I1 r q2
end
/-! ### the law's own call -/
theorem law_callG {P : Program} {w : World} {K : PySem.W.Frag} {mg mb : PySem.Str → Option Value} {k : Nat} {fa a : Addr} {sp : Sp} {s₁ : Shared} {vs : List Value} {ns : List Int}
    (KX : K.In s₁.heap) (gns : s₁.heap.Ns mainGlobals mg) (bns : s₁.heap.Ns builtinsNs mb) (bb : ∀ x : PySem.Str, x ≠ "__name__" → mb x = bootBuiltins x) (lim : s₁.heap.NoLimit)
    (hgen : s₁.gens = #[]) (ha : s₁.heap.get? a = some { cls := .type "list", data := .seq vs.toArray }) (hi : IntsAre vs ns) (hl : ns.length ≤ sizeLine) (hr : Room k callerA)
    (F : ∀ base : Heap, K.In base → base.Ns mainGlobals mg → FnG P w K mg base CX0 k fa sp)
    (hsp : ∀ H : Hp, Only H → SqL K H a (ns.map V.int) → sp [.ref a] H (fun v _ => v = .bl true) fun _ _ _ => False) :
    codeAny (model P w) callerA (.call (.ref fa) ⟨[.ref a], []⟩) (fun r s' => r = .ok (.ret (.bool true)) ∧ OldK s₁.heap s'.heap ∧ s'.os = s₁.os ∧ AllBare s'.gens) s₁ := by
  have rv := vals_ints hi
  have lv := hi.length
  have main : ∀ H : Hp, Only H → SqL K H a (ns.map V.int) → HOk P w H s₁.heap → (∀ b, H b ≠ none → b = a) → (H a ≠ none → K.lookup a = none) →
      codeAny (model P w) callerA (.call (.ref fa) ⟨[.ref a], []⟩) (fun r s' => r = .ok (.ret (.bool true)) ∧ OldK s₁.heap s'.heap ∧ s'.os = s₁.os ∧ AllBare s'.gens) s₁ := by
    intro H only sq hok only_a inK
    have un_dict : ∀ {b : Addr} {o : Obj} {es : Array DictEntry} {ep : Nat}, s₁.heap.get? b = some o → o.data = .dict es ep → H b = none := fun {b o es ep} e d => by
      cases q : H b with
      | none => rfl
      | some u =>
        obtain rfl : b = a := only_a b (by rw [q]; simp)
        rw [ha] at e
        cases e
        cases (show Data.seq vs.toArray _ = Data.dict es ep from d)
    have ns_hid : ∀ {b : Addr} {m : PySem.Str → Option Value}, s₁.heap.Ns b m → (hidT s₁.heap H).Ns b m := fun {b m} ⟨o, es, ep, e, d, z⟩ =>
      ⟨o, es, ep, hidT_get e (un_dict e d), d, z⟩
    have kHid : K.In (hidT s₁.heap H) := fun b o e => by
      refine hidT_get (KX b o e) ?_
      cases q : H b with
      | none => rfl
      | some u =>
        obtain rfl : b = a := only_a b (by rw [q]; simp)
        rw [inK (by rw [q]; simp)] at e
        cases e
    have md : Mod K mg (hidT s₁.heap H) := ⟨kHid, ns_hid gns, ⟨mb, ns_hid bns, bb⟩, let ⟨mc, h1, h2⟩ := lim; ⟨mc, ns_hid h1, h2⟩⟩
    have env : Env0 P w K mg (hidT s₁.heap H) callerA [] s₁ H := ⟨rfl, md, fun b o e => of_hidT e, Nat.le_of_eq (hidT_size _ _), trivial,
      fun b hb => absurd (show b ∈ ([] : List Addr) from hb) (by simp), hok, .of_eq hgen⟩
    refine codeAny_mono (F _ kHid (ns_hid gns) callerA [] s₁ H [.ref a] [.ref a] _ _ rfl hr env (.cons rfl .nil) (hsp H only sq)) fun r s' h => ?_
    cases r with
    | error e => exact False.elim h
    | ok fl =>
      cases fl with
      | next => exact False.elim h
      | brk => exact False.elim h
      | cont => exact False.elim h
      | ret u =>
        obtain ⟨v, H', os, bare, un, hok', r', q⟩ := h
        obtain rfl : v = .bl true := q
        obtain rfl : u = Value.bool true := r'
        refine ⟨rfl, OldK.of_keep fun b o e => ?_, os, bare⟩
        cases q : H b with
        | none => exact un.keep b o e q (fun z => absurd (show b ∈ ([] : List Addr) from z) (by simp)) (by simp)
        | some u =>
          rcases only b with z | ⟨ob, xs, z⟩
          · rw [q] at z
            cases z
          · obtain ⟨e1, _⟩ := hok b _ z
            obtain ⟨e2, _⟩ := hok' b _ (un.frzs b ob _ z)
            rw [e] at e1
            cases e1
            exact e2
  cases hk : K.lookup a with
  | some o =>
    have e := KX a o hk
    rw [ha] at e
    cases e
    refine main (fun _ => none) (fun _ => .inl rfl) (.inr ⟨_, vs.toArray, _, hk, rfl, rfl, rfl, ?_, by simpa using rv⟩) (fun b u z => ?_) (fun b z => absurd rfl z) fun z => absurd rfl z
    · rw [List.size_toArray, lv]
      exact hl
    · cases (show (none : Option HO) = some u from z)
  | none =>
    let oa : Obj := { cls := .type "list", data := .seq vs.toArray }
    refine main (fun b => if b = a then some (.frz oa (.lst (ns.map V.int))) else none) (fun b => ?_) (.inl (.inr ⟨oa, if_pos rfl⟩)) (fun b u z => ?_) (fun b z => ?_) fun _ => hk
    · by_cases hb : b = a
      · exact .inr ⟨_, _, if_pos hb⟩
      · exact .inl (if_neg hb)
    · by_cases hb : b = a
      · cases (if_pos hb).symm.trans z
        subst hb
        refine ⟨ha, ?_, vs, _, rv, ha⟩
        rw [List.length_map]
        exact hl
      · cases (if_neg hb).symm.trans z
    · by_cases hb : b = a
      · exact hb
      · exact absurd (if_neg hb) z
theorem walk_ofG {l : PySem.W.OpenLaw} {n k : Nat} {q : Program} {loose : List PySem.Str} {XP : (PySem.Str → Option Value) → Heap → Prop} {YP : World → Heap → Prop} {d : DefRec}
    (hn : l.most = some n) (hn2 : n ≤ sizeLine) (hdf : d.params.defaults = []) (hr : Room k callerA)
    (F : ∀ (w : World) (mg : PySem.Str → Option Value) (fa : Addr) (h : Heap), YP w h → h.Ns mainGlobals mg → mg d.name = some (.ref fa) →
      ∃ (K : PySem.W.Frag) (sp : Sp), K.In h ∧ (∀ (H : Hp) (a : Addr) (ns : List Int), ns.length ≤ n → Only H → SqL K H a (ns.map V.int) →
          sp [.ref a] H (fun v _ => v = .bl true) fun _ _ _ => False) ∧ ∀ base : Heap, K.In base → base.Ns mainGlobals mg → FnG l.prog w K mg base CX0 k fa sp) :
    PySem.W.WalkO q loose XP YP l.row.toRowW d [] (fun f vs => PySem.call f vs) := by
  refine Att.attach_call hn hdf fun w s₀ s₁ mg mb fa o pm cd doc a vs ns G Y ho hd hcd hmg hobj hints hlen hg => ?_
  obtain ⟨K, sp, KX, hsp, hF⟩ := F w mg fa _ Y G.T.g hmg
  exact law_callG KX G.T.g G.T.b G.T.builtins G.T.nolimit hg hobj hints (Nat.le_trans hlen hn2) hr hF fun H hO hS => hsp H a ns hlen hO hS
end Ca

set_option maxHeartbeats 4000000
/-! values that read as data, and rules over them -/
namespace Ca
open PySem PySem.Spec PyProof.Rows L2
mutual
/-- v reads as d off the tracked objects -/
inductive Rp (H : Hp) : V → PyData → Prop
  | non : Rp H .non .none
  | bl (b : Bool) : Rp H (.bl b) (.bool b)
  | int (i : Int) : Rp H (.int i) (.int i)
  | str (x : PySem.Str) : Rp H (.str x) (.str x)
  | lst {a : Addr} {xs : List V} {ds : List PyData} (h : H a = some (.lst xs)) (r : RpA H xs ds) : Rp H (.ref a) (.list ds)
  | tup {a : Addr} {xs : List V} {ds : List PyData} (h : H a = some (.tup xs)) (r : RpA H xs ds) : Rp H (.ref a) (.tuple ds)
  | dic {a : Addr} (h : H a = some (.dK [])) : Rp H (.ref a) (.dict [])
inductive RpA (H : Hp) : List V → List PyData → Prop
  | nil : RpA H [] []
  | cons {v : V} {vs : List V} {d : PyData} {ds : List PyData} (h : Rp H v d) (r : RpA H vs ds) : RpA H (v :: vs) (d :: ds)
end
section
variable {H H' : Hp}
mutual
theorem Rp.mono (e : Same H H') : ∀ {d : PyData} {v : V}, Rp H v d → Rp H' v d
  | _, _, .non => .non
  | _, _, .bl b => .bl b
  | _, _, .int i => .int i
  | _, _, .str x => .str x
  | _, _, .lst h r => .lst (e _ _ h) (RpA.mono e r)
  | _, _, .tup h r => .tup (e _ _ h) (RpA.mono e r)
  | _, _, .dic h => .dic (e _ _ h)
theorem RpA.mono (e : Same H H') : ∀ {ds : List PyData} {vs : List V}, RpA H vs ds → RpA H' vs ds
  | _, _, .nil => .nil
  | _, _, .cons h r => .cons (Rp.mono e h) (RpA.mono e r)
end
theorem RpA.length : ∀ {vs : List V} {ds : List PyData}, RpA H vs ds → vs.length = ds.length
  | _, _, .nil => rfl
  | _, _, .cons _ r => by rw [List.length_cons, List.length_cons, r.length]
theorem RpA.get : ∀ {vs : List V} {ds : List PyData} {i : Nat} {v : V}, RpA H vs ds → vs[i]? = some v → ∃ d, ds[i]? = some d ∧ Rp H v d
  | _, _, _, _, .nil, e => by simp at e
  | _, _, 0, v, .cons h _, e => by
    cases (show some _ = some v from e)
    exact ⟨_, rfl, h⟩
  | _, _, i + 1, v, .cons _ r, e => by
    obtain ⟨d, h1, h2⟩ := RpA.get (i := i) r (by simpa using e)
    exact ⟨d, by simpa using h1, h2⟩
theorem RpA.at : ∀ {vs : List V} {ds : List PyData} {i : Nat} {d : PyData}, RpA H vs ds → ds[i]? = some d → ∃ v, vs[i]? = some v ∧ Rp H v d
  | _, _, _, _, .nil, e => by simp at e
  | _, _, 0, d, .cons h _, e => by
    cases (show some _ = some d from e)
    exact ⟨_, rfl, h⟩
  | _, _, i + 1, d, .cons _ r, e => by
    obtain ⟨v, h1, h2⟩ := RpA.at (i := i) r (by simpa using e)
    exact ⟨v, by simpa using h1, h2⟩
theorem RpA.append : ∀ {vs ws : List V} {ds es : List PyData}, RpA H vs ds → RpA H ws es → RpA H (vs ++ ws) (ds ++ es)
  | _, _, _, _, .nil, s => s
  | _, _, _, _, .cons h r, s => .cons h (RpA.append r s)
theorem RpA.take : ∀ {vs : List V} {ds : List PyData} (n : Nat), RpA H vs ds → RpA H (vs.take n) (ds.take n)
  | _, _, 0, _ => .nil
  | _, _, _ + 1, .nil => .nil
  | _, _, n + 1, .cons h r => .cons h (RpA.take n r)
theorem RpA.drop : ∀ {vs : List V} {ds : List PyData} (n : Nat), RpA H vs ds → RpA H (vs.drop n) (ds.drop n)
  | _, _, 0, r => r
  | _, _, _ + 1, .nil => .nil
  | _, _, n + 1, .cons _ r => RpA.drop n r
/-- the class that a datum has -/
def tyD : PyData → String
  | .none => "NoneType"
  | .bool _ => "bool"
  | .int _ => "int"
  | .str _ => "str"
  | .list _ => "list"
  | .tuple _ => "tuple"
  | .dict _ => "dict"
theorem Rp.ty {K : PySem.W.Frag} {v : V} {d : PyData} (h : Rp H v d) : TyX K H v (.type (tyD d)) := by
  cases h with
  | non => exact .base .non
  | bl b => exact .base (.bl b)
  | int i => exact .base (.int i)
  | str x => exact .base (.str x)
  | lst h r => exact .base (.lst h)
  | tup h r => exact .base (.tup h)
  | dic h => exact .base (.dK h)
theorem Rp.isI {v : V} {d : PyData} (h : Rp H v d) {i : Int} (e : d = .int i) : v = .int i := by
  subst e; cases h; rfl
theorem Rp.isS {v : V} {d : PyData} (h : Rp H v d) {x : PySem.Str} (e : d = .str x) : v = .str x := by
  subst e; cases h; rfl
theorem Rp.isB {v : V} {d : PyData} (h : Rp H v d) {b : Bool} (e : d = .bool b) : v = .bl b := by
  subst e; cases h; rfl
end
section
variable {X : Cx} {pins : List (Addr × Obj)} {σ : L2.St} {H : Hp} {s : Shared}
mutual
theorem Rp.reads (I : Inv X pins σ H s) (sm : ∃ o, X.K.lookup sysModules = some o) : ∀ (d : PyData) (v : V) (u : Value), Rp H v d → RelV v u → ∃ as, Reads s.heap u d as ∧ sysModules ∉ as
  | .none, _, _, h, r => by
    cases h
    cases r
    exact ⟨_, Reads.none, by simp⟩
  | .bool b, _, _, h, r => by
    cases h
    cases r
    exact ⟨_, Reads.bool b, by simp⟩
  | .int i, _, _, h, r => by
    cases h
    obtain ⟨t, rfl⟩ := r
    exact ⟨_, Reads.int i t, by simp⟩
  | .str x, _, _, h, r => by
    cases h
    obtain ⟨t, rfl⟩ := r
    exact ⟨_, Reads.str x t, by simp⟩
  | .list ds, _, _, h, r => by
    cases h with
    | @lst a xs _ h q =>
      cases r
      obtain ⟨_, its, n, rv, ho⟩ := (show ObjOk X.prog X.w H s.heap a (.lst xs) from I.hok a _ h)
      obtain ⟨as, hr, hn⟩ := Rp.readsA I sm ds _ its q rv
      refine ⟨_, Reads.list ho rfl rfl (by simpa using hr), fun z => ?_⟩
      rcases List.mem_cons.mp z with z | z
      · obtain ⟨o, e⟩ := sm
        rw [← z, (I.bs sysModules o (I.ok.mod.kin _ _ e)).2] at h
        cases h
      · exact hn z
  | .tuple ds, _, _, h, r => by
    cases h with
    | @tup a xs _ h q =>
      cases r
      obtain ⟨_, its, rv, o, ho, hc, n, hd⟩ := (show ObjOk X.prog X.w H s.heap a (.tup xs) from I.hok a _ h)
      obtain ⟨as, hr, hn⟩ := Rp.readsA I sm ds _ its q rv
      exact ⟨_, Reads.tuple ho hc hd (by simpa using hr), hn⟩
  | .dict kvs, _, _, h, r => by
    cases h with
    | @dic a h =>
      cases r
      obtain ⟨_, hs, vs, kv, o, es, ep, ho, hx, hd, _, hp, _⟩ := (show ObjOk X.prog X.w H s.heap a (.dK []) from I.hok a _ h)
      cases kv
      have ee : es.toList = [] := by
        generalize es.toList = l at hp
        cases l with
        | nil => rfl
        | cons e l => cases hp
      refine ⟨_, Reads.dict (kvs := []) ho hx.1 hd (by rw [ee]; exact .nil) (by rw [ee]; exact .nil), fun z => ?_⟩
      have z2 : sysModules = a := by simpa using z
      rw [z2] at hs
      simp at hs
theorem Rp.readsA (I : Inv X pins σ H s) (sm : ∃ o, X.K.lookup sysModules = some o) : ∀ (ds : List PyData) (vs : List V) (us : List Value), RpA H vs ds → Vals vs us → ∃ as, ReadsAll s.heap us ds as ∧ sysModules ∉ as
  | [], _, _, h, r => by
    cases h
    cases r
    exact ⟨_, .nil, by simp⟩
  | d :: ds, _, _, h, r => by
    cases h with
    | cons h1 h2 =>
      cases r with
      | cons r1 r2 =>
        obtain ⟨as, q1, n1⟩ := Rp.reads I sm d _ _ h1 r1
        obtain ⟨bs, q2, n2⟩ := Rp.readsA I sm ds _ _ h2 r2
        refine ⟨_, .cons q1 q2, fun z => ?_⟩
        rcases List.mem_append.mp z with z | z
        · exact n1 z
        · exact n2 z
end
end
end Ca

set_option maxHeartbeats 4000000
namespace Ca
open PySem PySem.Spec PyProof.Rows L2
mutual
theorem reads_lt {h : Heap} : ∀ {u : Value} {d : PyData} {as : List Addr}, Reads h u d as → ∀ {x : Addr}, x ∈ as → x < h.objs.size
  | _, _, _, .none, x, z => by simp at z
  | _, _, _, .bool _, x, z => by simp at z
  | _, _, _, .int _ _, x, z => by simp at z
  | _, _, _, .str _ _, x, z => by simp at z
  | _, _, _, .list ho _ _ r, x, z => by
    rcases List.mem_cons.mp z with z | z
    · rw [z]
      exact Heap.lt_size ho
    · exact readsA_lt r z
  | _, _, _, .tuple ho _ _ r, x, z => readsA_lt r z
  | _, _, _, .dict ho _ _ r1 r2, x, z => by
    rcases List.mem_append.mp z with z | z
    · rcases List.mem_cons.mp z with z | z
      · rw [z]
        exact Heap.lt_size ho
      · exact readsA_lt r1 z
    · exact readsA_lt r2 z
theorem readsA_lt {h : Heap} : ∀ {us : List Value} {ds : List PyData} {as : List Addr}, ReadsAll h us ds as → ∀ {x : Addr}, x ∈ as → x < h.objs.size
  | _, _, _, .nil, x, z => by simp at z
  | _, _, _, .cons r1 r2, x, z => by
    rcases List.mem_append.mp z with z | z
    · exact reads_lt r1 z
    · exact readsA_lt r2 z
end
section
variable {X : Cx}
/-- repr(x) of data -/
def rRepr : List V → Hp → VK → Prop := fun xs H Q => ∃ x d, xs = [x] ∧ Rp H x d ∧ d.showable = true ∧ d.depth ≤ 60 ∧ d.shown.length ≤ sizeLine ∧ Q (.str d.shown) H
theorem call_repr {k : Nat} (sm : ∃ o, X.K.lookup sysModules = some o) (hg : X.A.guards = some []) (hr : Room k X.A) : CallR X (.builtin "repr") rRepr := by
  intro pins s σ H xs us Q I r h
  obtain ⟨x, d, rfl, rp, hs, hdp, hz, q⟩ := h
  have hu : X.A.units + 64 < cLine := hr.units
  cases r with
  | @cons _ u _ _ r1 rt =>
    cases rt
    obtain ⟨as, rd, hn⟩ := Rp.reads I sm d x u rp r1
    have fin : ∀ (h' : Heap) (tk : Tok) (t2 : Nat), (∀ b o, s.heap.get? b = some o → h'.get? b = some o) → EP X pins σ Q (.str d.shown tk) { s with heap := h', toks := t2 } := fun h' tk t2 k =>
      ⟨.str d.shown, H, I.kept (t' := t2) k, ⟨tk, rfl⟩, q⟩
    cases rp with
    | non =>
      obtain rfl : u = Value.none := r1
      exact P.repr_of_none (fin _ _ _ fun _ _ e => e)
    | bl b =>
      obtain rfl : u = Value.bool b := r1
      exact P.repr_of_bool (fin _ _ _ fun _ _ e => e)
    | int i =>
      obtain ⟨t, rfl⟩ := (show ∃ t, u = Value.int i t from r1)
      refine P.repr_of_int ?_ (fin _ _ _ fun _ _ e => e)
      simpa [PyData.showable] using hs
    | str y =>
      obtain ⟨t, rfl⟩ := (show ∃ t, u = Value.str y t from r1)
      exact P.repr_of_str (fin _ _ _ fun _ _ e => e) hz
    | lst h q =>
      cases (show u = Value.ref _ from r1)
      exact repr_of_reads' rd hs (fun _ => hn) hg (by omega) (fun _ _ e => e) (fun h' u tk k => fin h' u tk k) hz
    | tup h q =>
      cases (show u = Value.ref _ from r1)
      exact repr_of_reads' rd hs (fun _ => hn) hg (by omega) (fun _ _ e => e) (fun h' u tk k => fin h' u tk k) hz
    | dic h =>
      cases (show u = Value.ref _ from r1)
      exact repr_of_reads' rd hs (fun _ => hn) hg (by omega) (fun _ _ e => e) (fun h' u tk k => fin h' u tk k) hz
/-- len(x) of an own instance -/
def rLenO (C : Addr) (sp : Sp) : List V → Hp → VK → Prop := fun xs H Q => ∃ a dx fs, xs = [.ref a] ∧ H a = some (.ins C dx fs) ∧
  sp [.ref a] H (fun v H' => ∃ n : Int, v = .int n ∧ 0 ≤ n ∧ n < 2 ^ 63 ∧ Q (.int n) H') E0
theorem call_lenO {C f : Addr} {k : Nat} {fd : FuncData} {sp : Sp} (hs : PySem.W.findIn X.K (.ref C) "__len__" = some (some (.ref f))) (hf : PySem.W.isFn X.K (.ref f) = true)
    (F : FnOk X.prog X.w X.K X.mg X.base CX0 k f fd ["self"] sp) (hb : Binds X.K fd ["self"] []) (hr : Room (k + 1) X.A) : CallR X (.builtin "len") (rLenO C sp) := by
  intro pins s σ H xs us Q I r h
  obtain ⟨a, dx, fs, rfl, ha, q⟩ := h
  cases r with
  | @cons _ u _ _ r1 rt =>
    cases rt
    cases (show u = Value.ref a from r1)
    obtain ⟨mA, O, _⟩ := ins_get I.hok ha
    obtain ⟨od, J, _⟩ := O.look
    obtain ⟨m, fr⟩ := I.fr
    refine PySem.W.len_K fr I.ok.mod.kin J hs hf ?_
    have r2 : Vals [V.ref a] [Value.ref a] := .cons rfl .nil
    refine wpAny_call (codeAny_mono (F.run X.A.in1 X.stack s H ⟨[.ref a], []⟩ [.ref a] [.ref a] _ E0 hr.in1 I.env0.in1 (hb s [.ref a] I.kIn (by simp)) r2 q) fun r s' hq => ?_)
    cases r with
    | error e => exact False.elim hq
    | ok fl =>
      cases fl with
      | ret u =>
        obtain ⟨v, H', J', rv, n, rfl, h0, h1, q2⟩ := I.after hq
        obtain ⟨t, rfl⟩ := rv
        exact ⟨⟨h0, h1⟩, .int n, H', J'.tok _, ⟨_, rfl⟩, q2⟩
      | _ => exact False.elim hq
/-- sorted(x), x a list or a tuple of alike data: bs the items with what they read as -/
def sortD (bs : List (V × PyData)) : List (V × PyData) := bs.mergeSort (PySem.W.dataLe false Prod.snd)
def rSortD : List V → Hp → VK → Prop := fun xs H Q => ∃ (a : Addr) (bs : List (V × PyData)), xs = [.ref a] ∧ (H a = some (.lst (bs.map Prod.fst)) ∨ H a = some (.tup (bs.map Prod.fst))) ∧
  (∀ b ∈ bs, Rp H b.1 b.2) ∧ PySem.W.AllAlike (bs.map Prod.snd) ∧ PySem.W.Sortable (bs.map Prod.snd) ∧ (∀ b ∈ bs, b.2.depth ≤ 60) ∧ bs.length ≤ sizeLine ∧
  ∀ p, H p = none → Q (.ref p) (upd H p (.lst ((sortD bs).map Prod.fst)))
theorem each_of : ∀ {bs : List (V × PyData)} {us : List Value}, Vals (bs.map Prod.fst) us → PySem.W.EachIs (fun (u : Value) (b : V × PyData) => RelV b.1 u) us bs
  | [], _, .nil => .nil
  | _ :: _, _, .cons r t => .cons r (each_of t)
theorem of_each : ∀ {bs : List (V × PyData)} {us : List Value}, PySem.W.EachIs (fun (u : Value) (b : V × PyData) => RelV b.1 u) us bs → Vals (bs.map Prod.fst) us
  | [], _, .nil => .nil
  | _ :: _, _, .cons r t => .cons r (of_each t)
theorem each_rd {pins : List (Addr × Obj)} {σ : L2.St} {H : Hp} {s : Shared} (I : Inv X pins σ H s) (sm : ∃ o, X.K.lookup sysModules = some o) {h' : Heap} {l : Addr} (hl : s.heap.objs.size ≤ l)
    (kp : ∀ b o, s.heap.get? b = some o → h'.get? b = some o) : ∀ {bs : List (V × PyData)} {us : List Value}, (∀ b ∈ bs, Rp H b.1 b.2) → Vals (bs.map Prod.fst) us →
    PySem.W.EachIs (fun (u : Value) (b : V × PyData) => ∃ as, Reads h' u b.2 as ∧ l ∉ as) us bs
  | [], _, _, .nil => .nil
  | b :: bs, _, h, .cons r t => by
    obtain ⟨as, rd, _⟩ := Rp.reads I sm b.2 b.1 _ (h b (.head _)) r
    refine .cons ⟨as, PyProof.Rows.Reads.keeps kp rd, fun z => ?_⟩ (each_rd I sm hl kp (fun c hc => h c (.tail _ hc)) t)
    exact absurd (reads_lt rd z) (Nat.not_lt.mpr hl)
theorem cr_sortD {k : Nat} (sm : ∃ o, X.K.lookup sysModules = some o) (hr : Room k X.A) : CallR X (.builtin "sorted") rSortD := by
  intro pins s σ H xs us Q I r h
  obtain ⟨a, bs, rfl, ha, hrp, hal, hso, hdp, hlen, q⟩ := h
  have hu : X.A.units + 64 < cLine := hr.units
  rw [Vals.ref1 r]
  obtain ⟨T, hT, its, o, n, rv, ho, hc, hd⟩ : ∃ T, (T = "list" ∨ T = "tuple") ∧ ∃ (its : List Value) (o : Obj) (n : Nat), Vals (bs.map Prod.fst) its ∧ s.heap.get? a = some o ∧ o.cls = .type T ∧ o.data = .seq its.toArray n := by
    rcases ha with ha | ha
    · obtain ⟨_, its, n, rv, ho⟩ := (show ObjOk X.prog X.w H s.heap a (.lst (bs.map Prod.fst)) from I.hok a _ ha)
      exact ⟨"list", .inl rfl, its, _, n, rv, ho, rfl, rfl⟩
    · obtain ⟨_, its, rv, o, ho, hc, n, hd⟩ := (show ObjOk X.prog X.w H s.heap a (.tup (bs.map Prod.fst)) from I.hok a _ ha)
      exact ⟨"tuple", .inr rfl, its, o, n, rv, ho, hc, hd⟩
  have li : its.length = bs.length := by rw [← rv.length, List.length_map]
  refine Calls.call_function_entry kind_sorted plain_sorted entry_sorted (args_sorted1 _) ?_
  unfold Builtin.«sorted»
  refine wpAny_bind (m := checkCount "sorted" 1 1 _) (wpAny_pure ?_)
  refine wpAny_bind (wpAny_collect_seq a hT ho hc hd (fun h1 k1 => ?_) (by rw [List.size_toArray, li]; exact hlen))
  refine wpAny_bind (wpAny_newList ?_ (by simpa [li] using hlen))
  have I1 : Inv X pins σ H { s with heap := h1 } := I.kept (t' := s.toks) k1
  have kp : ∀ b o, h1.get? b = some o → (h1.push (seqObj "list" its.toArray 0)).get? b = some o := fun b o e => Heap.get?_push_of_some _ e
  have hL : (h1.push (seqObj "list" its.toArray 0)).get? h1.objs.size = some (seqObj "list" its.toArray 0) := Heap.get?_push_size _ rfl
  have er := each_rd (l := h1.objs.size) I1 sm (Nat.le_refl _) kp hrp rv
  show wpAny (model X.prog X.w) X.A.in1 _ _ _ { s with heap := h1.push (seqObj "list" its.toArray 0) }
  refine wpAny_bind (wpAny_holding (PySem.W.list_sort_data (bs := bs) (enc := Prod.snd) (R := fun (u : Value) (b : V × PyData) => RelV b.1 u) (vs := its) (n := 0) hL (each_of rv) er hal hso hlen
    (fun b hb => ?_) fun out ho1 ho2 => wpAny_pure ⟨_, rfl, ?_⟩))
  · have z := hdp b hb
    show X.A.units + 1 + 1 + b.2.depth < cLine
    omega
  · have vo := of_each ho2
    have hn : H h1.objs.size = none := I1.hok.fresh (Nat.le_refl _)
    have old : ∀ b o, h1.get? b = some o → (sortedHeap (h1.push (seqObj "list" its.toArray 0)) h1.objs.size its out.toArray).get? b = some o := fun b o e => by
      have lt := Heap.lt_size e
      rw [sortedHeap_old (Nat.ne_of_lt lt) (by rw [size_push']; exact Nat.lt_succ_of_lt lt)]
      exact kp b o e
    obtain ⟨c, hat⟩ := sortedHeap_at (out := out.toArray) hL
    have lo : ((sortD bs).map Prod.fst).length ≤ sizeLine := by
      rw [List.length_map]
      unfold sortD
      rw [List.length_mergeSort]
      exact hlen
    exact ⟨.ref h1.objs.size, upd H h1.objs.size (.lst ((sortD bs).map Prod.fst)), I1.laid (t' := s.toks) old (Nat.le_refl _) ⟨lo, out, c, vo, hat⟩, rfl, q _ hn⟩
end
end Ca

set_option maxHeartbeats 4000000
namespace Ca
open PySem PySem.Spec PyProof.Rows L2
/-- the heap without what stands at D -/
def off (D : Addr) (H : Hp) : Hp := fun a => if a = D then none else H a
theorem off_ne {D a : Addr} {H : Hp} (h : a ≠ D) : off D H a = H a := if_neg h
theorem off_same {D : Addr} {H : Hp} : Same (off D H) H := fun b o e => by
  unfold off at e
  split at e
  · cases e
  · exact e
theorem off_mono {D : Addr} {H H' : Hp} (h : Same H H') : Same (off D H) (off D H') := fun b o e => by
  unfold off at e ⊢
  split at e
  · cases e
  · rename_i hb
    rw [if_neg hb]
    exact h b o e
theorem off_upd {D : Addr} {H : Hp} {o : HO} : off D (upd H D o) = off D H := by
  funext b
  unfold off
  split
  · rfl
  · rename_i hb
    exact upd_ne hb
theorem same_new {H : Hp} {D : Addr} {o : HO} (h : H D = none) : Same H (upd H D o) := fun b u e => by
  rw [upd_ne (ne_of_none e h)]
  exact e
theorem same_mut {H H' : Hp} {D : Addr} {o : HO} (s : Same H H') (h : H D = none) : Same H (upd H' D o) := fun b u e => by
  rw [upd_ne (ne_of_none e h)]
  exact s b u e
/-- what is kept of the items so far -/
abbrev keptD (F : PyData → Option PyData) (l : List PyData) : List PyData := l.filterMap F
theorem keptD_app (F : PyData → Option PyData) (a b : List PyData) : keptD F (a ++ b) = keptD F a ++ keptD F b := List.filterMap_append ..
theorem keptD_len (F : PyData → Option PyData) (l : List PyData) : (keptD F l).length ≤ l.length := List.length_filterMap_le ..
theorem keptD_map (f : PyData → PyData) (l : List PyData) : keptD (fun d => some (f d)) l = l.map f := by
  induction l with
  | nil => rfl
  | cons d l ih =>
    show List.filterMap _ (d :: l) = _
    rw [List.filterMap_cons]
    show f d :: List.filterMap _ l = _
    rw [show List.filterMap (fun d => some (f d)) l = l.map f from ih]
    rfl
theorem take_more {α : Type} : ∀ {l : List α} {i : Nat} {x : α}, l[i]? = some x → l.take (i + 1) = l.take i ++ [x]
  | [], i, x, h => by simp at h
  | a :: l, 0, x, h => by
    cases (show some a = some x from h)
    rfl
  | a :: l, i + 1, x, h => by
    have ih := take_more (l := l) (i := i) (x := x) (by simpa using h)
    show a :: l.take (i + 1) = (a :: l.take i) ++ [x]
    rw [ih]
    rfl
/-- one more item appended at D -/
def Ap (D : Addr) (Nx : Hp → Prop) (y : V) (H : Hp) : Prop := ∃ acc, H D = some (.lst acc) ∧ acc.length < sizeLine ∧ Nx (upd H D (.lst (acc ++ [y])))
/-- a turn of a comprehension: item x reads as d; what is appended reads as F d (nothing where F d is none) -/
abbrev LcTurn (σ : L2.St) (vs : List Nat) (g : TG) (tt : TT) (te : TE) (D : Addr) (H : Hp) (ds : List PyData) (F : PyData → Option PyData) : Prop :=
  ∀ (x : V) (d : PyData) (H' : Hp) (Nx : Hp → Prop), d ∈ ds → Same H H' → H' D ≠ none → Rp (off D H') x d →
    (∀ (y : V) (e : PyData) (H4 : Hp), F d = some e → Same H' H4 → Rp (off D H4) y e → Ap D Nx y H4) → (F d = none → ∀ H4, Same H' H4 → Nx H4) →
    g x (wipe σ vs) H' fun σ2 H2 => wipe σ2 vs = wipe σ vs ∧ tt σ2 H2 fun b H3 => if b = true then te σ2 H3 (Ap D Nx) else Nx H3
abbrev LcInv (H : Hp) (D : Addr) (ds : List PyData) (F : PyData → Option PyData) (i : Nat) (H' : Hp) : Prop :=
  Same H H' ∧ ∃ acc, H' D = some (.lst acc) ∧ RpA (off D H') acc (keptD F (ds.take i))
section
variable {K : PySem.W.Frag} {a D : Addr} {xs : List V} {ds : List PyData} {H : Hp} {σ : L2.St} {vs : List Nat} {g : TG} {tt : TT} {te : TE} {F : PyData → Option PyData} {Qd : Hp → Prop}
theorem lc_turn (hD : H D = none) (r : RpA H xs ds) (hz : ds.length ≤ 1000) (ht : LcTurn σ vs g tt te D H ds F) : ∀ i x H', xs[i]? = some x → LcInv H D ds F i H' →
    g x (wipe σ vs) H' fun σ2 H2 => wipe σ2 vs = wipe σ vs ∧ tt σ2 H2 fun b H3 => if b = true then te σ2 H3 fun y H4 => ∃ acc, H4 D = some (.lst acc) ∧ acc.length < sizeLine ∧
      LcInv H D ds F (i + 1) (upd H4 D (.lst (acc ++ [y]))) else LcInv H D ds F (i + 1) H3 := by
  intro i x H' hi ⟨s, acc, hacc, ra⟩
  obtain ⟨d, hd, rx⟩ := r.get hi
  have e1 : ds.take (i + 1) = ds.take i ++ [d] := take_more hd
  have kD : Same H (off D H') := fun b o e => by
    rw [off_ne (ne_of_none e hD)]
    exact s b o e
  refine ht x d H' (LcInv H D ds F (i + 1)) (List.mem_of_getElem? hd) s (by rw [hacc]; simp) (rx.mono kD) (fun y e H4 hF s4 ry => ?_) (fun hF H4 s4 => ?_)
  · refine ⟨acc, s4 _ _ hacc, ?_, ?_⟩
    · have l1 := ra.length
      have l2 := keptD_len F (ds.take i)
      have l3 : (ds.take i).length ≤ 1000 := by rw [List.length_take]; omega
      have : acc.length ≤ 1000 := by omega
      exact small1000 this
    · refine ⟨same_mut (s.trans s4) hD, _, upd_same, ?_⟩
      rw [off_upd, e1, keptD_app]
      have e2 : keptD F [d] = [e] := by simp [keptD, hF]
      rw [e2]
      exact (ra.mono (off_mono s4)).append (.cons ry .nil)
  · refine ⟨s.trans s4, acc, s4 _ _ hacc, ?_⟩
    have e2 : keptD F [d] = [] := by simp [keptD, hF]
    rw [e1, keptD_app, e2, List.append_nil]
    exact ra.mono (off_mono s4)
theorem lc_fin (r : RpA H xs ds) (hq : ∀ H' acc, Same H H' → H' D = some (.lst acc) → RpA (off D H') acc (keptD F ds) → Qd H') : ∀ H', LcInv H D ds F xs.length H' → Qd H' := by
  intro H' ⟨s, acc, h1, h2⟩
  rw [r.length, List.take_length] at h2
  exact hq H' acc s h1 h2
theorem lc_ini (hD : H D = none) : LcInv H D ds F 0 (upd H D (.lst [])) := ⟨same_new hD, [], upd_same, .nil⟩
/-- what a comprehension's reading asks behind its source -/
abbrev LcW (J : It) (σ : L2.St) (vs : List Nat) (g : TG) (tt : TT) (te : TE) (H1 : Hp) (D : Addr) (Qd : Hp → Prop) : Prop :=
  ∃ W : Nat → Nat → Hp → Prop, (∃ m, W 0 m (upd H1 D (.lst []))) ∧ ∀ i m H, W i m H → (J.stop i H ∧ Qd H) ∨ (J.go i H ∧ ∃ Nx : Hp → Prop,
    (∀ H', Nx H' → ∃ m', m' < m ∧ W (i + 1) m' H') ∧ ∀ x H', J.yld i H x H' → g x (wipe σ vs) H' fun σ2 H2 => wipe σ2 vs = wipe σ vs ∧ tt σ2 H2 fun b H3 =>
      if b = true then te σ2 H3 fun y H4 => ∃ acc, H4 D = some (.lst acc) ∧ acc.length < sizeLine ∧ Nx (upd H4 D (.lst (acc ++ [y]))) else Nx H3)
/-- over a tuple, a list -/
theorem lcT (hx : H a = some (.tup xs)) (r : RpA H xs ds) (hz : ds.length ≤ 1000) (hD : H D = none) (ht : LcTurn σ vs g tt te D H ds F)
    (hq : ∀ H' acc, Same H H' → H' D = some (.lst acc) → RpA (off D H') acc (keptD F ds) → Qd H') : LcW (Itt K a) σ vs g tt te H D Qd :=
  lc_tup (LcInv H D ds F) (lc_ini hD) (fun i H' _ p => .inl (.inl (p.1 _ _ hx))) (lc_turn hD r hz ht) (lc_fin r hq)
theorem lcL (hx : H a = some (.lst xs)) (r : RpA H xs ds) (hz : ds.length ≤ 1000) (hD : H D = none) (ht : LcTurn σ vs g tt te D H ds F)
    (hq : ∀ H' acc, Same H H' → H' D = some (.lst acc) → RpA (off D H') acc (keptD F ds) → Qd H') : LcW (Itl K a) σ vs g tt te H D Qd :=
  lc_list (LcInv H D ds F) (lc_ini hD) (fun i H' _ p => .inl (.inl (p.1 _ _ hx))) (lc_turn hD r hz ht) (lc_fin r hq)
end
end Ca

set_option maxHeartbeats 4000000
namespace Ca
open PySem PySem.Spec PyProof.Rows L2
/-! what an expression gives, in data; S: what may change under way (lists, dicts, sets being made), nothing of which is read as data -/
def offS (S : Addr → Bool) (H : Hp) : Hp := fun a => if S a = true then none else H a
def MutO : HO → Prop
  | .tup _ => False
  | .ins _ _ _ => False
  | _ => True
def Fr (S : Addr → Bool) (H : Hp) : Prop := ∀ a, S a = true → ∃ o, H a = some o ∧ MutO o
section
variable {S : Addr → Bool} {H H' : Hp} {p : Addr} {o : HO}
theorem Fr.mono (f : Fr S H) (s : Same H H') : Fr S H' := fun a h => let ⟨o, e, m⟩ := f a h; ⟨o, s _ _ e, m⟩
theorem offS_mono (s : Same H H') : Same (offS S H) (offS S H') := fun b o e => by
  unfold offS at e ⊢
  split at e
  · cases e
  · rename_i hb
    rw [if_neg hb]
    exact s b o e
theorem offS_same : Same (offS S H) H := fun b o e => by
  unfold offS at e
  split at e
  · cases e
  · exact e
theorem offS_at (h : S p = false) : offS S H p = H p := by
  unfold offS
  rw [h]
  rfl
theorem Fr.new (f : Fr S H) (h : H p = none) : S p = false := by
  cases e : S p with
  | false => rfl
  | true =>
    obtain ⟨o, e2, _⟩ := f p e
    rw [h] at e2
    cases e2
theorem Fr.imm (f : Fr S H) (h : H p = some o) (hm : ¬ MutO o) : S p = false := by
  cases e : S p with
  | false => rfl
  | true =>
    obtain ⟨o', e2, m⟩ := f p e
    rw [h] at e2
    cases e2
    exact absurd m hm
theorem offS_new (f : Fr S H) (h : H p = none) : offS S (upd H p o) p = some o := by
  rw [offS_at (f.new h), upd_same]
theorem fr0 : Fr (fun _ => false) H := fun a h => by cases h
theorem off0 : offS (fun _ => false) H = H := rfl
def addS (S : Addr → Bool) (D : Addr) : Addr → Bool := fun a => S a || decide (a = D)
theorem Fr.add (f : Fr S H) (h : H p = some o) (m : MutO o) : Fr (addS S p) H := fun a ha => by
  unfold addS at ha
  rw [Bool.or_eq_true] at ha
  rcases ha with z | z
  · exact f a z
  · rw [of_decide_eq_true z]
    exact ⟨o, h, m⟩
theorem addS_off : Same (offS (addS S p) H) (offS S H) := fun b o e => by
  unfold offS at e ⊢
  split at e
  · cases e
  · rename_i hb
    have : ¬ S b = true := fun z => hb (by unfold addS; rw [z]; rfl)
    rw [if_neg this]
    exact e
theorem addS_new (h : (offS S H) p = none) (s : Same (offS S H) (offS S H')) : Same (offS S H) (offS (addS S p) H') := fun b o e => by
  have e2 := s b o e
  have nb : b ≠ p := fun z => by rw [z, h] at e; cases e
  unfold offS at e2 ⊢
  split at e2
  · cases e2
  · rename_i hb
    have : ¬ addS S p b = true := fun z => by
      unfold addS at z
      rw [Bool.or_eq_true] at z
      rcases z with z | z
      · exact hb z
      · exact nb (of_decide_eq_true z)
    rw [if_neg this]
    exact e2
theorem addS_upd : Same (offS (addS S p) H) (offS (addS S p) (upd H p o)) := fun b u e => by
  unfold offS at e ⊢
  split at e
  · cases e
  · rename_i hb
    rw [if_neg hb]
    have nb : b ≠ p := fun z => hb (by unfold addS; rw [z]; simp)
    rw [upd_ne nb]
    exact e
end
def EvP (te : TE) (σ : L2.St) (F : Hp) (P : Hp → V → Prop) : Prop := ∀ (S : Addr → Bool) (H1 : Hp), Fr S H1 → Same F (offS S H1) → ∀ Q : VK, (∀ v H2, Same H1 H2 → P (offS S H2) v → Q v H2) → te σ H1 Q
abbrev EvD (te : TE) (σ : L2.St) (F : Hp) (d : PyData) : Prop := EvP te σ F fun H v => Rp H v d
def EvA (ta : TA) (σ : L2.St) (F : Hp) (ds : List PyData) : Prop := ∀ (S : Addr → Bool) (H1 : Hp), Fr S H1 → Same F (offS S H1) → ∀ Q : List V → Hp → Prop, (∀ vs H2, Same H1 H2 → RpA (offS S H2) vs ds → Q vs H2) → ta σ H1 Q
def EvB (tt : TT) (σ : L2.St) (F : Hp) (b : Bool) : Prop := ∀ (S : Addr → Bool) (H1 : Hp), Fr S H1 → Same F (offS S H1) → ∀ Q : Bool → Hp → Prop, (∀ H2, Same H1 H2 → Q b H2) → tt σ H1 Q
def EvO (tl : TO) (σ : L2.St) (F : Hp) (o : Option Int) : Prop := ∀ (S : Addr → Bool) (H1 : Hp), Fr S H1 → Same F (offS S H1) → ∀ Q : Option Int → Hp → Prop, (∀ H2, Same H1 H2 → Q o H2) → tl σ H1 Q
section
variable {K : PySem.W.Frag} {σ : L2.St} {F : Hp} {ta tb tc te : TE} {tas : TA} {tt tu : TT} {d e : PyData} {ds es : List PyData} {P P2 : Hp → V → Prop}
theorem EvP.weak (h : EvP te σ F P) (hw : ∀ H v, P H v → P2 H v) : EvP te σ F P2 := fun S H1 f s Q q => h S H1 f s Q fun v H2 s2 p => q v H2 s2 (hw _ _ p)
theorem EvP.at {F2 : Hp} (h : EvP te σ F P) (s : Same F F2) : EvP te σ F2 P := fun S H1 f s1 Q q => h S H1 f (s.trans s1) Q q
theorem EvB.at {F2 : Hp} {b : Bool} (h : EvB tt σ F b) (s : Same F F2) : EvB tt σ F2 b := fun S H1 f s1 Q q => h S H1 f (s.trans s1) Q q
/-! names and constants -/
theorem e_varP {i : Nat} {v : V} (h : σ[i]? = some (some v)) (r : ∀ H, Same F H → P H v) : EvP (tVar i) σ F P := fun S H1 f s Q q => ⟨v, h, q v H1 (Same.refl _) (r _ s)⟩
theorem e_var {i : Nat} {v : V} (h : σ[i]? = some (some v)) (r : Rp F v d) : EvD (tVar i) σ F d := e_varP h fun _ s => r.mono s
theorem e_int {i : Int} : EvD (tC (.int i)) σ F (.int i) := fun S H1 _ _ Q q => q _ H1 (Same.refl _) (.int i)
theorem e_str {x : PySem.Str} : EvD (tC (.str x)) σ F (.str x) := fun S H1 _ _ Q q => q _ H1 (Same.refl _) (.str x)
theorem e_bl {b : Bool} : EvD (tC (.bl b)) σ F (.bool b) := fun S H1 _ _ Q q => q _ H1 (Same.refl _) (.bl b)
theorem e_non : EvD (tC .non) σ F .none := fun S H1 _ _ Q q => q _ H1 (Same.refl _) .non
theorem a_nil : EvA tNil σ F [] := fun S H1 _ _ Q q => q _ H1 (Same.refl _) .nil
theorem a_cons (h : EvD te σ F d) (hs : EvA tas σ F ds) : EvA (tCons te tas) σ F (d :: ds) := fun S H1 f s Q q =>
  h S H1 f s _ fun v H2 s2 r => hs S H2 (f.mono s2) (s.trans (offS_mono s2)) _ fun vs H3 s3 rs => q _ H3 (s2.trans s3) (.cons (r.mono (offS_mono s3)) rs)
theorem e_tup (h : EvA tas σ F ds) (hl : ds.length ≤ 1000 := by first | decide | (simp only [List.length_cons, List.length_nil]; omega)) : EvD (tTup tas) σ F (.tuple ds) := fun S H1 f s Q q =>
  h S H1 f s _ fun vs H2 s2 r => ⟨by rw [r.length]; exact Nat.le_of_lt (small1000 hl), fun p hp => q _ _ (s2.trans (same_new hp)) (.tup (offS_new (f.mono s2) hp) (r.mono (offS_mono (same_new hp))))⟩
theorem e_lst (h : EvA tas σ F ds) (hl : ds.length ≤ 1000 := by first | decide | (simp only [List.length_cons, List.length_nil]; omega)) : EvD (tLst tas) σ F (.list ds) := fun S H1 f s Q q =>
  h S H1 f s _ fun vs H2 s2 r => ⟨by rw [r.length]; exact Nat.le_of_lt (small1000 hl), fun p hp => q _ _ (s2.trans (same_new hp)) (.lst (offS_new (f.mono s2) hp) (r.mono (offS_mono (same_new hp))))⟩
theorem e_dic : EvD tDNewK σ F (.dict []) := fun S H1 f s Q q => fun p hp => q _ _ (same_new hp) (.dic (offS_new f hp))
/-! operators -/
theorem e_op {r : R2} (ha : EvD ta σ F d) (hb : EvD tb σ F e)
    (hr : ∀ (S : Addr → Bool) (H : Hp) (x y : V), Fr S H → Rp (offS S H) x d → Rp (offS S H) y e → ∀ Q : VK, (∀ v H2, Same H H2 → P (offS S H2) v → Q v H2) → r x y H Q) : EvP (tOp r ta tb) σ F P := fun S H1 f s Q q =>
  ha S H1 f s _ fun x H2 s2 r2 => hb S H2 (f.mono s2) (s.trans (offS_mono s2)) _ fun y H3 s3 r3 =>
    hr S H3 x y (f.mono (s2.trans s3)) (r2.mono (offS_mono s3)) r3 Q fun v H4 s4 p => q v H4 ((s2.trans s3).trans s4) p
theorem e_un {r : V → Hp → VK → Prop} (ha : EvD ta σ F d)
    (hr : ∀ (S : Addr → Bool) (H : Hp) (x : V), Fr S H → Rp (offS S H) x d → ∀ Q : VK, (∀ v H2, Same H H2 → P (offS S H2) v → Q v H2) → r x H Q) : EvP (tUn r ta) σ F P := fun S H1 f s Q q =>
  ha S H1 f s _ fun x H2 s2 r2 => hr S H2 x (f.mono s2) r2 Q fun v H4 s4 p => q v H4 (s2.trans s4) p
theorem e_neg {i : Int} (ha : EvD ta σ F (.int i)) : EvD (tUn (rU fun i => .int (-i)) ta) σ F (.int (-i)) := e_un ha fun S H x f r Q q => by
  cases r
  exact ⟨i, rfl, q _ H (Same.refl _) (.int _)⟩
theorem e_add {i j : Int} (ha : EvD ta σ F (.int i)) (hb : EvD tb σ F (.int j)) : EvD (tOp (rI0 fun i j => .int (i + j)) ta tb) σ F (.int (i + j)) := e_op ha hb fun S H x y f rx ry Q q => by
  cases rx; cases ry
  exact ⟨i, j, rfl, rfl, q _ H (Same.refl _) (.int _)⟩
theorem e_sub {i j : Int} (ha : EvD ta σ F (.int i)) (hb : EvD tb σ F (.int j)) : EvD (tOp (rI0 fun i j => .int (i - j)) ta tb) σ F (.int (i - j)) := e_op ha hb fun S H x y f rx ry Q q => by
  cases rx; cases ry
  exact ⟨i, j, rfl, rfl, q _ H (Same.refl _) (.int _)⟩
theorem e_mul {i j : Int} (ha : EvD ta σ F (.int i)) (hb : EvD tb σ F (.int j)) (h : CMul i j) : EvD (tOp (rI CMul fun i j => .int (i * j)) ta tb) σ F (.int (i * j)) := e_op ha hb fun S H x y f rx ry Q q => by
  cases rx; cases ry
  exact ⟨i, j, rfl, rfl, h, q _ H (Same.refl _) (.int _)⟩
theorem e_cmp {g : Int → Int → Bool} {i j : Int} (ha : EvD ta σ F (.int i)) (hb : EvD tb σ F (.int j)) : EvD (tOp (rI0 fun i j => .bl (g i j)) ta tb) σ F (.bool (g i j)) := e_op ha hb fun S H x y f rx ry Q q => by
  cases rx; cases ry
  exact ⟨i, j, rfl, rfl, q _ H (Same.refl _) (.bl _)⟩
theorem e_eqI {i j : Int} (ha : EvD ta σ F (.int i)) (hb : EvD tb σ F (.int j)) : EvD (tOp rEq ta tb) σ F (.bool (decide (i = j))) := e_op ha hb fun S H x y f rx ry Q q => by
  cases rx; cases ry
  refine ⟨rfl, q _ H (Same.refl _) ?_⟩
  have e : decide (V.int i = V.int j) = decide (i = j) := by simp
  rw [e]
  exact .bl _
theorem e_neI {i j : Int} (ha : EvD ta σ F (.int i)) (hb : EvD tb σ F (.int j)) : EvD (tOp rNe ta tb) σ F (.bool (!decide (i = j))) := e_op ha hb fun S H x y f rx ry Q q => by
  cases rx; cases ry
  refine ⟨rfl, q _ H (Same.refl _) ?_⟩
  have e : decide (V.int i = V.int j) = decide (i = j) := by simp
  rw [e]
  exact .bl _
theorem e_eqS {i j : PySem.Str} (ha : EvD ta σ F (.str i)) (hb : EvD tb σ F (.str j)) : EvD (tOp rEq ta tb) σ F (.bool (decide (i = j))) := e_op ha hb fun S H x y f rx ry Q q => by
  cases rx; cases ry
  refine ⟨rfl, q _ H (Same.refl _) ?_⟩
  have e : decide (V.str i = V.str j) = decide (i = j) := by simp
  rw [e]
  exact .bl _
theorem e_neS {i j : PySem.Str} (ha : EvD ta σ F (.str i)) (hb : EvD tb σ F (.str j)) : EvD (tOp rNe ta tb) σ F (.bool (!decide (i = j))) := e_op ha hb fun S H x y f rx ry Q q => by
  cases rx; cases ry
  refine ⟨rfl, q _ H (Same.refl _) ?_⟩
  have e : decide (V.str i = V.str j) = decide (i = j) := by simp
  rw [e]
  exact .bl _
theorem e_addS {x y : PySem.Str} (ha : EvD ta σ F (.str x)) (hb : EvD tb σ F (.str y)) (hl : x.length + y.length ≤ 1000) :
    EvD (tOp (fun x y H Q => ∃ i j, x = .str i ∧ y = .str j ∧ i.length + j.length ≤ sizeLine ∧ Q (.str (i ++ j)) H) ta tb) σ F (.str (x ++ y)) := e_op ha hb fun S H u v f rx ry Q q => by
  cases rx; cases ry
  exact ⟨x, y, rfl, rfl, Nat.le_of_lt (small1000 hl), q _ H (Same.refl _) (.str _)⟩
theorem rp_lst {S : Addr → Bool} {H : Hp} {v : V} (r : Rp (offS S H) v (.list ds)) : ∃ a xs, v = .ref a ∧ H a = some (.lst xs) ∧ RpA (offS S H) xs ds := by
  cases r with
  | lst h q => exact ⟨_, _, rfl, offS_same _ _ h, q⟩
theorem rp_tup {S : Addr → Bool} {H : Hp} {v : V} (r : Rp (offS S H) v (.tuple ds)) : ∃ a xs, v = .ref a ∧ H a = some (.tup xs) ∧ RpA (offS S H) xs ds := by
  cases r with
  | tup h q => exact ⟨_, _, rfl, offS_same _ _ h, q⟩
theorem e_cat (ha : EvD ta σ F (.list ds)) (hb : EvD tb σ F (.list es)) (hl : ds.length + es.length ≤ 1000) : EvD (tOp rCat ta tb) σ F (.list (ds ++ es)) := e_op ha hb fun S H x y f rx ry Q q => by
  obtain ⟨a, xs, rfl, h1, r1⟩ := rp_lst rx
  obtain ⟨b, ys, rfl, h2, r2⟩ := rp_lst ry
  have l1 := r1.length
  have l2 := r2.length
  exact ⟨a, b, xs, ys, rfl, rfl, h1, h2, Nat.le_of_lt (small1000 (by omega)), fun p hp => q _ _ (same_new hp) (.lst (offS_new f hp) ((r1.append r2).mono (offS_mono (same_new hp))))⟩
theorem e_catT (ha : EvD ta σ F (.tuple ds)) (hb : EvD tb σ F (.tuple es)) (hl : ds.length + es.length ≤ 1000) : EvD (tOp (rCatA K) ta tb) σ F (.tuple (ds ++ es)) := e_op ha hb fun S H x y f rx ry Q q => by
  obtain ⟨a, xs, rfl, h1, r1⟩ := rp_tup rx
  obtain ⟨b, ys, rfl, h2, r2⟩ := rp_tup ry
  have l1 := r1.length
  have l2 := r2.length
  refine ⟨a, b, xs, ys, rfl, rfl, .inl (.inl h1), .inl (.inl h2), Nat.le_of_lt (small1000 (by omega)), fun z => ?_, fun z1 z2 => ?_, fun _ _ p hp => q _ _ (same_new hp) (.tup (offS_new f hp) ((r1.append r2).mono (offS_mono (same_new hp))))⟩
  · subst z
    have : ds = [] := List.eq_nil_of_length_eq_zero (by simpa using l1.symm)
    subst this
    exact q _ H (Same.refl _) ry
  · subst z2
    have : es = [] := List.eq_nil_of_length_eq_zero (by simpa using l2.symm)
    subst this
    rw [List.append_nil] at q
    exact q _ H (Same.refl _) rx
theorem rpa_rep {H : Hp} {xs : List V} (r : RpA H xs ds) : ∀ n : Nat, RpA H (List.replicate n xs).flatten (List.replicate n ds).flatten
  | 0 => .nil
  | n + 1 => by
    rw [List.replicate_succ, List.replicate_succ, List.flatten_cons, List.flatten_cons]
    exact r.append (rpa_rep r n)
theorem e_rep {k : Nat} (ha : EvD ta σ F (.list ds)) (hb : EvD tb σ F (.int (k : Int))) (hl : ds.length * k ≤ 1000) (hk : k < 2 ^ 62) : EvD (tOp rRep ta tb) σ F (.list (List.replicate k ds).flatten) := e_op ha hb fun S H x y f rx ry Q q => by
  obtain ⟨a, xs, rfl, h1, r1⟩ := rp_lst rx
  cases ry
  have l1 := r1.length
  refine ⟨a, _, xs, rfl, rfl, h1, by omega, by omega, ?_, fun p hp => q _ _ (same_new hp) (.lst (offS_new f hp) ((rpa_rep r1 k).mono (offS_mono (same_new hp))))⟩
  rw [l1]
  exact Nat.le_of_lt (small1000 hl)
theorem atI_of {xs : List V} {i : Int} {n : Nat} {x : V} (h : i = (n : Int)) (hx : xs[n]? = some x) : atI xs i = some x := L2.at_of h hx
theorem e_ixL {i : Int} {n : Nat} (ha : EvD ta σ F (.list ds)) (hb : EvD tb σ F (.int i)) (hi : i = (n : Int)) (hd : ds[n]? = some d) : EvD (tOp (rIxL K) ta tb) σ F d := e_op ha hb fun S H x y f rx ry Q q => by
  obtain ⟨a, xs, rfl, h1, r1⟩ := rp_lst rx
  cases ry
  obtain ⟨v, hv, rv⟩ := r1.at hd
  exact ⟨a, xs, i, v, rfl, rfl, .inl (.inl h1), atI_of hi hv, q _ H (Same.refl _) rv⟩
theorem e_ixT {i : Int} {n : Nat} (ha : EvD ta σ F (.tuple ds)) (hb : EvD tb σ F (.int i)) (hi : i = (n : Int)) (hd : ds[n]? = some d) : EvD (tOp (rIxT K) ta tb) σ F d := e_op ha hb fun S H x y f rx ry Q q => by
  obtain ⟨a, xs, rfl, h1, r1⟩ := rp_tup rx
  cases ry
  obtain ⟨v, hv, rv⟩ := r1.at hd
  exact ⟨a, xs, i, v, rfl, rfl, .inl (.inl h1), atI_of hi hv, q _ H (Same.refl _) rv⟩
/-! slices -/
theorem o_none : EvO tNoPart σ F none := fun S H1 f s Q q => q H1 (Same.refl _)
theorem o_some {i : Int} (h : EvD te σ F (.int i)) : EvO (tPart te) σ F (some i) := fun S H1 f s Q q => h S H1 f s _ fun v H2 s2 r => by
  cases r
  exact ⟨i, rfl, q H2 s2⟩
theorem e_sl {r : V → Option Int → Option Int → Hp → VK → Prop} {tl th : TO} {lo hi : Option Int} (ha : EvD ta σ F d) (hl : EvO tl σ F lo) (hh : EvO th σ F hi)
    (hr : ∀ (S : Addr → Bool) (H : Hp) (x : V), Fr S H → Rp (offS S H) x d → ∀ Q : VK, (∀ v H2, Same H H2 → P (offS S H2) v → Q v H2) → r x lo hi H Q) : EvP (tSl r ta tl th) σ F P := fun S H1 f s Q q =>
  ha S H1 f s _ fun x H2 s2 r2 => hl S H2 (f.mono s2) (s.trans (offS_mono s2)) _ fun H3 s3 => hh S H3 (f.mono (s2.trans s3)) (s.trans (offS_mono (s2.trans s3))) _ fun H4 s4 =>
    hr S H4 x (f.mono ((s2.trans s3).trans s4)) (r2.mono (offS_mono (s3.trans s4))) Q fun v H5 s5 p => q v H5 (((s2.trans s3).trans s4).trans s5) p
def cutD (ds : List PyData) (lo hi : Option Int) : List PyData := (ds.drop (HT.sIx ds.length 0 lo)).take (HT.sIx ds.length ds.length hi - HT.sIx ds.length 0 lo)
theorem rpa_cut {H : Hp} {xs : List V} {lo hi : Option Int} (r : RpA H xs ds) : RpA H (cutV xs lo hi) (cutD ds lo hi) := by
  unfold cutV cutD
  rw [r.length]
  exact (r.drop _).take _
theorem e_slL {tl th : TO} {lo hi : Option Int} (ha : EvD ta σ F (.list ds)) (hl : EvO tl σ F lo) (hh : EvO th σ F hi) : EvD (tSl (rSlL K) ta tl th) σ F (.list (cutD ds lo hi)) := e_sl ha hl hh fun S H x f rx Q q => by
  obtain ⟨a, xs, rfl, h1, r1⟩ := rp_lst rx
  exact ⟨a, xs, rfl, .inl (.inl h1), fun p hp => q _ _ (same_new hp) (.lst (offS_new f hp) ((rpa_cut r1).mono (offS_mono (same_new hp))))⟩
theorem e_slT {tl th : TO} {lo hi : Option Int} (ha : EvD ta σ F (.tuple ds)) (hl : EvO tl σ F lo) (hh : EvO th σ F hi) : EvD (tSl (rSlA K) ta tl th) σ F (.tuple (cutD ds lo hi)) := e_sl ha hl hh fun S H x f rx Q q => by
  obtain ⟨a, xs, rfl, h1, r1⟩ := rp_tup rx
  refine ⟨a, xs, rfl, .inl (.inl h1), fun z => ?_, fun _ p hp => q _ _ (same_new hp) (.tup (offS_new f hp) ((rpa_cut r1).mono (offS_mono (same_new hp))))⟩
  have e : cutD ds lo hi = ds := by
    unfold cutD
    rw [r1.length] at z
    rw [z.1, z.2]
    simp
  rw [e] at q
  exact q _ H (Same.refl _) rx
/-! bools, tests -/
theorem b_val {b : Bool} (h : EvD te σ F (.bool b)) : EvB (tB te) σ F b := fun S H1 f s Q q => h S H1 f s _ fun v H2 s2 r => by
  cases r
  exact ⟨b, rfl, q H2 s2⟩
theorem b_test {b : Bool} (h : EvD te σ F (.bool b)) : EvB (tTest te) σ F b := fun S H1 f s Q q => h S H1 f s _ fun v H2 s2 r => by
  cases r
  exact ⟨b, rfl, q H2 s2⟩
theorem b_yes : EvB tYes σ F true := fun S H1 f s Q q => q H1 (Same.refl _)
theorem b_not {b : Bool} (h : EvB tt σ F b) : EvB (tNot tt) σ F (!b) := fun S H1 f s Q q => h S H1 f s _ fun H2 s2 => q H2 s2
theorem b_and {a b : Bool} (h : EvB tt σ F a) (h2 : a = true → EvB tu σ F b) : EvB (tAnd tt tu) σ F (a && b) := fun S H1 f s Q q => h S H1 f s _ fun H2 s2 => by
  cases a with
  | true => exact h2 rfl S H2 (f.mono s2) (s.trans (offS_mono s2)) _ fun H3 s3 => q H3 (s2.trans s3)
  | false => exact q H2 s2
theorem b_or {a b : Bool} (h : EvB tt σ F a) (h2 : a = false → EvB tu σ F b) : EvB (tOr tt tu) σ F (a || b) := fun S H1 f s Q q => h S H1 f s _ fun H2 s2 => by
  cases a with
  | false => exact h2 rfl S H2 (f.mono s2) (s.trans (offS_mono s2)) _ fun H3 s3 => q H3 (s2.trans s3)
  | true => exact q H2 s2
theorem e_and {a b : Bool} (h : EvD ta σ F (.bool a)) (h2 : a = true → EvD tb σ F (.bool b)) : EvD (tAndV ta tb) σ F (.bool (a && b)) := fun S H1 f s Q q => h S H1 f s _ fun v H2 s2 r => by
  cases r
  refine ⟨a, rfl, ?_⟩
  cases a with
  | true => exact h2 rfl S H2 (f.mono s2) (s.trans (offS_mono s2)) _ fun v H3 s3 r3 => q v H3 (s2.trans s3) r3
  | false => exact q _ H2 s2 (.bl _)
theorem e_or {a b : Bool} (h : EvD ta σ F (.bool a)) (h2 : a = false → EvD tb σ F (.bool b)) : EvD (tOrV ta tb) σ F (.bool (a || b)) := fun S H1 f s Q q => h S H1 f s _ fun v H2 s2 r => by
  cases r
  refine ⟨a, rfl, ?_⟩
  cases a with
  | false => exact h2 rfl S H2 (f.mono s2) (s.trans (offS_mono s2)) _ fun v H3 s3 r3 => q v H3 (s2.trans s3) r3
  | true => exact q _ H2 s2 (.bl _)
theorem e_not {a : Bool} (h : EvD ta σ F (.bool a)) : EvD (tNotV ta) σ F (.bool (!a)) := fun S H1 f s Q q => h S H1 f s _ fun v H2 s2 r => by
  cases r
  exact ⟨a, rfl, q _ H2 s2 (.bl _)⟩
theorem e_ifP {b : Bool} (h : EvB tt σ F b) (h1 : b = true → EvP ta σ F P) (h2 : b = false → EvP tb σ F P) : EvP (tIf tt ta tb) σ F P := fun S H1 f s Q q => h S H1 f s _ fun H2 s2 => by
  cases b with
  | true => exact h1 rfl S H2 (f.mono s2) (s.trans (offS_mono s2)) _ fun v H3 s3 r3 => q v H3 (s2.trans s3) r3
  | false => exact h2 rfl S H2 (f.mono s2) (s.trans (offS_mono s2)) _ fun v H3 s3 r3 => q v H3 (s2.trans s3) r3
/-! membership -/
theorem ints_flat (ns : List Int) : (ns.map V.int).all flatV = true := by
  induction ns with
  | nil => rfl
  | cons n ns ih => rw [List.map_cons, List.all_cons, ih]; rfl
theorem inV_ints (n : Int) (ns : List Int) : inV (.int n) (ns.map V.int) = ns.contains n := by
  unfold inV
  induction ns with
  | nil => rfl
  | cons m ns ih =>
    rw [List.map_cons, List.any_cons, ih, List.contains_cons]
    have e : eqV (.int m) (.int n) = (n == m) := by
      have e1 : eqV (.int m) (.int n) = (m == n) := by simp [eqV]
      rw [e1]
      exact Bool.eq_iff_iff.mpr ⟨fun z => beq_iff_eq.mpr (beq_iff_eq.mp z).symm, fun z => beq_iff_eq.mpr (beq_iff_eq.mp z).symm⟩
    rw [e]
theorem ints_rp {H : Hp} : ∀ {xs : List V} {ns : List Int}, RpA H xs (ns.map PyData.int) → xs = ns.map V.int
  | _, [], r => by cases r; rfl
  | _, n :: ns, r => by
    cases r with
    | cons h q =>
      cases h
      rw [ints_rp q]
      rfl
theorem rp_ints {H : Hp} : ∀ ns : List Int, RpA H (ns.map V.int) (ns.map PyData.int)
  | [] => .nil
  | n :: ns => .cons (.int n) (rp_ints ns)
theorem e_inT {n : Int} {ns : List Int} (ha : EvD ta σ F (.int n)) (hb : EvD tb σ F (.tuple (ns.map .int))) : EvD (tOp (rIn K false) ta tb) σ F (.bool (ns.contains n)) := e_op ha hb fun S H x y f rx ry Q q => by
  cases rx
  obtain ⟨a, xs, rfl, h1, r1⟩ := rp_tup ry
  rw [ints_rp r1] at h1
  refine ⟨a, _, rfl, .inr (.inl (.inl h1)), rfl, ints_flat ns, q _ H (Same.refl _) ?_⟩
  show Rp (offS S H) (.bl (inV (.int n) (ns.map V.int))) _
  rw [inV_ints]
  exact .bl _
theorem e_inL {n : Int} {ns : List Int} (ha : EvD ta σ F (.int n)) (hb : EvD tb σ F (.list (ns.map .int))) : EvD (tOp (rIn K false) ta tb) σ F (.bool (ns.contains n)) := e_op ha hb fun S H x y f rx ry Q q => by
  cases rx
  obtain ⟨a, xs, rfl, h1, r1⟩ := rp_lst ry
  rw [ints_rp r1] at h1
  refine ⟨a, _, rfl, .inl (.inl (.inl h1)), rfl, ints_flat ns, q _ H (Same.refl _) ?_⟩
  show Rp (offS S H) (.bl (inV (.int n) (ns.map V.int))) _
  rw [inV_ints]
  exact .bl _
/-! calls of built-ins and of defs -/
theorem e_cb {r : List V → Hp → VK → Prop} (h : EvA tas σ F ds)
    (hr : ∀ (S : Addr → Bool) (H : Hp) (vs : List V), Fr S H → RpA (offS S H) vs ds → ∀ Q : VK, (∀ v H2, Same H H2 → P (offS S H2) v → Q v H2) → r vs H Q) : EvP (tCB r tas) σ F P := fun S H1 f s Q q =>
  h S H1 f s _ fun vs H2 s2 r2 => hr S H2 vs (f.mono s2) r2 Q fun v H4 s4 p => q v H4 (s2.trans s4) p
theorem rpa1 {H : Hp} {vs : List V} (r : RpA H vs [d]) : ∃ v, vs = [v] ∧ Rp H v d := by
  cases r with
  | cons h q =>
    cases q
    exact ⟨_, rfl, h⟩
theorem rpa2 {H : Hp} {vs : List V} {d1 d2 : PyData} (r : RpA H vs [d1, d2]) : ∃ v1 v2, vs = [v1, v2] ∧ Rp H v1 d1 ∧ Rp H v2 d2 := by
  cases r with
  | cons h q =>
    obtain ⟨v, rfl, h2⟩ := rpa1 q
    exact ⟨_, _, rfl, h, h2⟩
theorem rpa3 {H : Hp} {vs : List V} {d1 d2 d3 : PyData} (r : RpA H vs [d1, d2, d3]) : ∃ v1 v2 v3, vs = [v1, v2, v3] ∧ Rp H v1 d1 ∧ Rp H v2 d2 ∧ Rp H v3 d3 := by
  cases r with
  | cons h q =>
    obtain ⟨v, w, rfl, h2, h3⟩ := rpa2 q
    exact ⟨_, _, _, rfl, h, h2, h3⟩
theorem rpa4 {H : Hp} {vs : List V} {d1 d2 d3 d4 : PyData} (r : RpA H vs [d1, d2, d3, d4]) : ∃ v1 v2 v3 v4, vs = [v1, v2, v3, v4] ∧ Rp H v1 d1 ∧ Rp H v2 d2 ∧ Rp H v3 d3 ∧ Rp H v4 d4 := by
  cases r with
  | cons h q =>
    obtain ⟨v, w, u, rfl, h2, h3, h4⟩ := rpa3 q
    exact ⟨_, _, _, _, rfl, h, h2, h3, h4⟩
def rLenQ (K : PySem.W.Frag) : List V → Hp → VK → Prop := fun xs H Q => ∃ p ys, xs = [.ref p] ∧ (SqL K H p ys ∨ SqT K H p ys) ∧ Q (.int ys.length) H
theorem call_lenQ {X : Cx} : CallR X (.builtin "len") (rLenQ X.K) := call_len_seq
def rTupQ (K : PySem.W.Frag) : List V → Hp → VK → Prop := fun xs H Q => ∃ p ys, xs = [.ref p] ∧ ((SqL K H p ys ∧ ∀ l, H l = none → Q (.ref l) (upd H l (.tup ys))) ∨ (SqT K H p ys ∧ Q (.ref p) H))
theorem call_tupQ {X : Cx} : CallR X (.type "tuple") (rTupQ X.K) := call_tuple_of
def rLstQ (K : PySem.W.Frag) : List V → Hp → VK → Prop := fun xs H Q => ∃ p ys, xs = [.ref p] ∧ (SqL K H p ys ∨ SqT K H p ys) ∧ ∀ l, H l = none → Q (.ref l) (upd H l (.lst ys))
theorem call_lstQ {X : Cx} : CallR X (.type "list") (rLstQ X.K) := call_list_of
def rJoinQ (K : PySem.W.Frag) : V → List V → Hp → VK → Prop := fun x xs H Q => ∃ a p, ∃ ys : List PySem.Str, x = .str a ∧ xs = [.ref p] ∧ (SqL K H p (ys.map V.str) ∨ SqT K H p (ys.map V.str)) ∧ (ys.map (·.length)).sum + ys.length * a.length ≤ 16777216 ∧ Q (.str (Txt.join a ys)) H
theorem e_lenL (h : EvD ta σ F (.list ds)) : EvD (tCB (rLenQ K) (tCons ta tNil)) σ F (.int ds.length) := e_cb (a_cons h a_nil) fun S H vs f r Q q => by
  obtain ⟨v, rfl, r1⟩ := rpa1 r
  obtain ⟨a, xs, rfl, h1, r2⟩ := rp_lst r1
  refine ⟨a, xs, rfl, .inl (.inl (.inl h1)), q _ H (Same.refl _) ?_⟩
  rw [r2.length]
  exact .int _
theorem e_lenT (h : EvD ta σ F (.tuple ds)) : EvD (tCB (rLenQ K) (tCons ta tNil)) σ F (.int ds.length) := e_cb (a_cons h a_nil) fun S H vs f r Q q => by
  obtain ⟨v, rfl, r1⟩ := rpa1 r
  obtain ⟨a, xs, rfl, h1, r2⟩ := rp_tup r1
  refine ⟨a, xs, rfl, .inr (.inl (.inl h1)), q _ H (Same.refl _) ?_⟩
  rw [r2.length]
  exact .int _
theorem bools_rp {H : Hp} : ∀ {xs : List V} {bs : List Bool}, RpA H xs (bs.map PyData.bool) → xs = bs.map V.bl
  | _, [], r => by cases r; rfl
  | _, n :: ns, r => by
    cases r with
    | cons h q =>
      cases h
      rw [bools_rp q]
      rfl
theorem strs_rp {H : Hp} : ∀ {xs : List V} {bs : List PySem.Str}, RpA H xs (bs.map PyData.str) → xs = bs.map V.str
  | _, [], r => by cases r; rfl
  | _, n :: ns, r => by
    cases r with
    | cons h q =>
      cases h
      rw [strs_rp q]
      rfl
def truD : PyData → Bool
  | .bool b => b
  | _ => false
def intD : PyData → Int
  | .int i => i
  | _ => 0
def strD : PyData → PySem.Str
  | .str x => x
  | _ => PySem.Str.ofString ""
theorem of_bools : ∀ {ds : List PyData}, (∀ d ∈ ds, ∃ b, d = .bool b) → ds = (ds.map truD).map .bool
  | [], _ => rfl
  | d :: ds, h => by
    obtain ⟨b, rfl⟩ := h d (.head _)
    rw [List.map_cons, List.map_cons, ← of_bools fun e he => h e (.tail _ he)]
    rfl
theorem of_ints : ∀ {ds : List PyData}, (∀ d ∈ ds, ∃ i, d = .int i) → ds = (ds.map intD).map .int
  | [], _ => rfl
  | d :: ds, h => by
    obtain ⟨b, rfl⟩ := h d (.head _)
    rw [List.map_cons, List.map_cons, ← of_ints fun e he => h e (.tail _ he)]
    rfl
theorem of_strs : ∀ {ds : List PyData}, (∀ d ∈ ds, ∃ x, d = .str x) → ds = (ds.map strD).map .str
  | [], _ => rfl
  | d :: ds, h => by
    obtain ⟨b, rfl⟩ := h d (.head _)
    rw [List.map_cons, List.map_cons, ← of_strs fun e he => h e (.tail _ he)]
    rfl
theorem eqD (h : EvD te σ F d) (he : d = e) : EvD te σ F e := he ▸ h
theorem e_all (h : EvD ta σ F (.list ds)) (hb : ∀ d ∈ ds, ∃ b, d = .bool b) : EvD (tCB (rAll K) (tCons ta tNil)) σ F (.bool (ds.all truD)) := e_cb (a_cons h a_nil) fun S H vs f r Q q => by
  obtain ⟨v, rfl, r1⟩ := rpa1 r
  obtain ⟨a, xs, rfl, h1, r2⟩ := rp_lst r1
  rw [of_bools hb] at r2
  rw [bools_rp r2] at h1
  refine ⟨a, _, rfl, .inl (.inl h1), q _ H (Same.refl _) ?_⟩
  rw [List.all_map]
  exact .bl _
theorem e_any (h : EvD ta σ F (.list ds)) (hb : ∀ d ∈ ds, ∃ b, d = .bool b) : EvD (tCB (rAny K) (tCons ta tNil)) σ F (.bool (ds.any truD)) := e_cb (a_cons h a_nil) fun S H vs f r Q q => by
  obtain ⟨v, rfl, r1⟩ := rpa1 r
  obtain ⟨a, xs, rfl, h1, r2⟩ := rp_lst r1
  rw [of_bools hb] at r2
  rw [bools_rp r2] at h1
  refine ⟨a, _, rfl, .inl (.inl h1), q _ H (Same.refl _) ?_⟩
  rw [List.any_map]
  exact .bl _
theorem e_sum (h : EvD ta σ F (.list ds)) (hb : ∀ d ∈ ds, ∃ i, d = .int i) : EvD (tCB (rSum K) (tCons ta tNil)) σ F (.int (ds.map intD).sum) := e_cb (a_cons h a_nil) fun S H vs f r Q q => by
  obtain ⟨v, rfl, r1⟩ := rpa1 r
  obtain ⟨a, xs, rfl, h1, r2⟩ := rp_lst r1
  rw [of_ints hb] at r2
  rw [ints_rp r2] at h1
  exact ⟨a, _, rfl, .inl (.inl h1), q _ H (Same.refl _) (.int _)⟩
theorem e_inD {n : Int} (ha : EvD ta σ F (.int n)) (hb : EvD tb σ F (.tuple ds)) (hi : ∀ d ∈ ds, ∃ i, d = .int i) : EvD (tOp (rIn K false) ta tb) σ F (.bool ((ds.map intD).contains n)) := e_inT ha (eqD hb (by rw [← of_ints hi]))
theorem e_inDL {n : Int} (ha : EvD ta σ F (.int n)) (hb : EvD tb σ F (.list ds)) (hi : ∀ d ∈ ds, ∃ i, d = .int i) : EvD (tOp (rIn K false) ta tb) σ F (.bool ((ds.map intD).contains n)) := e_inL ha (eqD hb (by rw [← of_ints hi]))
theorem e_tupOf (h : EvD ta σ F (.list ds)) : EvD (tCB (rTupQ K) (tCons ta tNil)) σ F (.tuple ds) := e_cb (a_cons h a_nil) fun S H vs f r Q q => by
  obtain ⟨v, rfl, r1⟩ := rpa1 r
  obtain ⟨a, xs, rfl, h1, r2⟩ := rp_lst r1
  exact ⟨a, xs, rfl, .inl ⟨.inl (.inl h1), fun p hp => q _ _ (same_new hp) (.tup (offS_new f hp) (r2.mono (offS_mono (same_new hp))))⟩⟩
theorem e_strI {i : Int} (h : EvD ta σ F (.int i)) (hl : i.natAbs.log2 < 1920) : EvD (tCB (fun xs H Q => ∃ i, xs = [.int i] ∧ i.natAbs.log2 < 1920 ∧ Q (.str (toString i)) H) (tCons ta tNil)) σ F (.str (PySem.Str.ofString (toString i))) := e_cb (a_cons h a_nil) fun S H vs f r Q q => by
  obtain ⟨v, rfl, r1⟩ := rpa1 r
  cases r1
  exact ⟨i, rfl, hl, q _ H (Same.refl _) (.str _)⟩
/-- the promise of a def over data: R its arguments and its answer -/
def spR (R : List PyData → PyData → Prop) : Sp := fun vs H Q _ => ∃ (S : Addr → Bool) (ds : List PyData) (d : PyData), Fr S H ∧ RpA (offS S H) vs ds ∧ R ds d ∧ ∀ v H', Same H H' → Rp (offS S H') v d → Q v H'
theorem spR_len {R : List PyData → PyData → Prop} {n : Nat} (h : ∀ ds d, R ds d → ds.length = n) : ∀ vs H Q E, spR R vs H Q E → vs.length = n := fun vs H Q E ⟨S, ds, d, f, r, hr, _⟩ => by
  rw [r.length]
  exact h ds d hr
theorem e_call {R : List PyData → PyData → Prop} {E : XK} (h : EvA tas σ F ds) (hR : R ds d) : EvD (tCall (spR R) [] E tas) σ F d := fun S H1 f s Q q =>
  h S H1 f s _ fun vs H2 s2 r2 => ⟨S, ds, d, f.mono s2, by rw [List.append_nil]; exact r2, hR, fun v H3 s3 r3 => q v H3 (s2.trans s3) r3⟩
/-! comprehensions -/
def GtP (g : TG) (x : V) (σ : L2.St) (F : Hp) (C : L2.St → Prop) : Prop := ∀ (S : Addr → Bool) (H1 : Hp), Fr S H1 → Same F (offS S H1) → ∀ Q : L2.St → Hp → Prop, (∀ σ2, C σ2 → Q σ2 H1) → g x σ H1 Q
theorem g_name {i : Nat} {x : V} {C : L2.St → Prop} (h : C (σ.set i (some x))) : GtP (gName i) x σ F C := fun S H1 f s Q q => q _ h
theorem g_tup2 {i j : Nat} {x : V} {C : L2.St → Prop} {d1 d2 : PyData} (r : Rp F x (.tuple [d1, d2])) (h : ∀ v1 v2, Rp F v1 d1 → Rp F v2 d2 → C ((σ.set i (some v1)).set j (some v2))) :
    GtP (gTup K 2 (gCons (gName i) (gCons (gName j) gNil))) x σ F C := fun S H1 f s Q q => by
  cases r with
  | tup h1 r1 =>
    obtain ⟨v1, v2, rfl, r1, r2⟩ := rpa2 r1
    exact ⟨_, _, rfl, .inl (.inl (offS_same _ _ (s _ _ h1))), rfl, _, _, rfl, _, _, rfl, rfl, q _ (h v1 v2 r1 r2)⟩
theorem g_tup3 {i j k : Nat} {x : V} {C : L2.St → Prop} {d1 d2 d3 : PyData} (r : Rp F x (.tuple [d1, d2, d3])) (h : ∀ v1 v2 v3, Rp F v1 d1 → Rp F v2 d2 → Rp F v3 d3 → C (((σ.set i (some v1)).set j (some v2)).set k (some v3))) :
    GtP (gTup K 3 (gCons (gName i) (gCons (gName j) (gCons (gName k) gNil)))) x σ F C := fun S H1 f s Q q => by
  cases r with
  | tup h1 r1 =>
    obtain ⟨v1, v2, v3, rfl, r1, r2, r3⟩ := rpa3 r1
    exact ⟨_, _, rfl, .inl (.inl (offS_same _ _ (s _ _ h1))), rfl, _, _, rfl, _, _, rfl, _, _, rfl, rfl, q _ (h v1 v2 v3 r1 r2 r3)⟩
theorem g_tup4 {i j k l : Nat} {x : V} {C : L2.St → Prop} {d1 d2 d3 d4 : PyData} (r : Rp F x (.tuple [d1, d2, d3, d4])) (h : ∀ v1 v2 v3 v4, Rp F v1 d1 → Rp F v2 d2 → Rp F v3 d3 → Rp F v4 d4 → C ((((σ.set i (some v1)).set j (some v2)).set k (some v3)).set l (some v4))) :
    GtP (gTup K 4 (gCons (gName i) (gCons (gName j) (gCons (gName k) (gCons (gName l) gNil))))) x σ F C := fun S H1 f s Q q => by
  cases r with
  | tup h1 r1 =>
    obtain ⟨v1, v2, v3, v4, rfl, r1, r2, r3, r4⟩ := rpa4 r1
    exact ⟨_, _, rfl, .inl (.inl (offS_same _ _ (s _ _ h1))), rfl, _, _, rfl, _, _, rfl, _, _, rfl, _, _, rfl, rfl, q _ (h v1 v2 v3 v4 r1 r2 r3 r4)⟩
/-- a turn of a comprehension over what reads as d -/
abbrev Turn (g : TG) (tt : TT) (te : TE) (σ : L2.St) (vs : List Nat) (F : Hp) (d : PyData) (b : Bool) (e : PyData) : Prop :=
  ∀ x F1, Same F F1 → Rp F1 x d → GtP g x (wipe σ vs) F1 fun σ2 => wipe σ2 vs = wipe σ vs ∧ EvB tt σ2 F1 b ∧ (b = true → EvD te σ2 F1 e)
section
variable {α : Type} {enc : α → PyData} {as : List α} {b : α → Bool} {ev : α → PyData} {g : TG} {vs : List Nat}
abbrev LInv (S : Addr → Bool) (H0 : Hp) (D : Addr) (as : List α) (b : α → Bool) (ev : α → PyData) (i : Nat) (H' : Hp) : Prop :=
  Same H0 H' ∧ ∃ acc, H' D = some (.lst acc) ∧ RpA (offS (addS S D) H') acc (((as.take i).filter b).map ev)
theorem l_turn {S : Addr → Bool} {H0 : Hp} {D : Addr} {a : α} {i : Nat} {H' : Hp} {x : V} (fr : Fr S H0) (sF : Same F (offS S H0)) (hD : H0 D = none) (hz : as.length ≤ 1000) (hi : as[i]? = some a) (rx : Rp (offS S H0) x (enc a))
    (ht : Turn g tt te σ vs F (enc a) (b a) (ev a)) (inv : LInv S H0 D as b ev i H') :
    g x (wipe σ vs) H' fun σ2 H2 => wipe σ2 vs = wipe σ vs ∧ tt σ2 H2 fun c H3 => if c = true then te σ2 H3 fun y H4 => ∃ acc, H4 D = some (.lst acc) ∧ acc.length < sizeLine ∧
      LInv S H0 D as b ev (i + 1) (upd H4 D (.lst (acc ++ [y]))) else LInv S H0 D as b ev (i + 1) H3 := by
  obtain ⟨s, acc, hacc, ra⟩ := inv
  have f1 : Fr (addS S D) H' := (fr.mono s).add hacc trivial
  have hDo : offS S H0 D = none := by
    unfold offS
    split
    · rfl
    · exact hD
  have s1 : Same (offS S H0) (offS (addS S D) H') := addS_new hDo (offS_mono s)
  have e1 : as.take (i + 1) = as.take i ++ [a] := take_more hi
  refine ht x (offS (addS S D) H') (sF.trans s1) (rx.mono s1) (addS S D) H' f1 (Same.refl _) _ fun σ2 ⟨w, hb, he⟩ => ⟨w, hb (addS S D) H' f1 (Same.refl _) _ fun H3 s3 => ?_⟩
  cases hb2 : b a with
  | false =>
    refine ⟨s.trans s3, acc, s3 _ _ hacc, ?_⟩
    rw [e1, List.filter_append, List.map_append]
    have : [a].filter b = [] := by simp [hb2]
    rw [this, List.map_nil, List.append_nil]
    exact ra.mono (offS_mono s3)
  | true =>
    refine he hb2 (addS S D) H3 (f1.mono s3) (offS_mono s3) _ fun y H4 s4 r4 => ⟨acc, (s3.trans s4) _ _ hacc, ?_, same_mut (s.trans (s3.trans s4)) hD, _, upd_same, ?_⟩
    · have l1 := ra.length
      rw [List.length_map] at l1
      have l2 := List.length_filter_le b (as.take i)
      have l3 : (as.take i).length ≤ 1000 := by rw [List.length_take]; omega
      exact small1000 (by omega)
    · rw [e1, List.filter_append, List.map_append]
      have : [a].filter b = [a] := by simp [hb2]
      rw [this]
      exact ((ra.mono (offS_mono (s3.trans s4))).mono addS_upd).append (.cons (r4.mono addS_upd) .nil)
theorem l_fin {S : Addr → Bool} {H0 : Hp} {D : Addr} {H' : Hp} {n : Nat} (fr : Fr S H0) (hD : H0 D = none) (hn : n = as.length) (inv : LInv S H0 D as b ev n H') : Rp (offS S H') (.ref D) (.list ((as.filter b).map ev)) := by
  obtain ⟨s, acc, hacc, ra⟩ := inv
  rw [hn, List.take_length] at ra
  exact .lst (by rw [offS_at (fr.new hD)]; exact hacc) (ra.mono addS_off)
theorem l_get {H : Hp} {xs : List V} {i : Nat} {x : V} (r : RpA H xs (as.map enc)) (hx : xs[i]? = some x) : ∃ a, as[i]? = some a ∧ Rp H x (enc a) := by
  obtain ⟨d, hd, rx⟩ := r.get hx
  rw [List.getElem?_map] at hd
  cases ha : as[i]? with
  | none => rw [ha] at hd; cases hd
  | some a =>
    rw [ha] at hd
    cases hd
    exact ⟨a, rfl, rx⟩
theorem e_lcL {tl : TE} (hl : EvD tl σ F (.list (as.map enc))) (hz : as.length ≤ 1000) (ht : ∀ a ∈ as, Turn g tt te σ vs F (enc a) (b a) (ev a)) :
    EvD (tLc (iList K tl) g tt te vs) σ F (.list ((as.filter b).map ev)) := fun S H1 f s Q q => hl S H1 f s _ fun v H2 s2 r => by
  obtain ⟨a, xs, rfl, h1, r1⟩ := rp_lst r
  refine ⟨a, rfl, ⟨xs, .inl (.inl h1)⟩, fun D hD => ?_⟩
  have f2 := f.mono s2
  have sF := s.trans (offS_mono (S := S) s2)
  refine lc_list (LInv S H2 D as b ev) ⟨same_new hD, [], upd_same, .nil⟩ (fun i H' _ p => .inl (.inl (p.1 _ _ h1))) (fun i x H' hx inv => ?_) fun H' inv => q _ _ (s2.trans inv.1) (l_fin f2 hD (by rw [r1.length, List.length_map]) inv)
  obtain ⟨t, ht1, rx⟩ := l_get r1 hx
  exact l_turn f2 sF hD hz ht1 rx (ht t (List.mem_of_getElem? ht1)) inv
theorem e_lcT {tl : TE} (hl : EvD tl σ F (.tuple (as.map enc))) (hz : as.length ≤ 1000) (ht : ∀ a ∈ as, Turn g tt te σ vs F (enc a) (b a) (ev a)) :
    EvD (tLc (iTup K tl) g tt te vs) σ F (.list ((as.filter b).map ev)) := fun S H1 f s Q q => hl S H1 f s _ fun v H2 s2 r => by
  obtain ⟨a, xs, rfl, h1, r1⟩ := rp_tup r
  refine ⟨a, rfl, ⟨xs, .inl (.inl h1)⟩, fun D hD => ?_⟩
  have f2 := f.mono s2
  have sF := s.trans (offS_mono (S := S) s2)
  refine lc_tup (LInv S H2 D as b ev) ⟨same_new hD, [], upd_same, .nil⟩ (fun i H' _ p => .inl (.inl (p.1 _ _ h1))) (fun i x H' hx inv => ?_) fun H' inv => q _ _ (s2.trans inv.1) (l_fin f2 hD (by rw [r1.length, List.length_map]) inv)
  obtain ⟨t, ht1, rx⟩ := l_get r1 hx
  exact l_turn f2 sF hD hz ht1 rx (ht t (List.mem_of_getElem? ht1)) inv
end
/-- over range(n) -/
theorem e_lcR {ta : TA} {n : Nat} {b : Nat → Bool} {ev : Nat → PyData} {g : TG} {vs : List Nat} (hl : EvA ta σ F [.int (n : Int)]) (hz : n ≤ 1000) (ht : ∀ a, a < n → Turn g tt te σ vs F (.int (a : Int)) (b a) (ev a)) :
    EvD (tLc (iRng1 ta) g tt te vs) σ F (.list (((List.range n).filter b).map ev)) := fun S H1 f s Q q => hl S H1 f s _ fun v H2 s2 r => by
  obtain ⟨v1, rfl, r1⟩ := rpa1 r
  cases r1
  refine ⟨_, rfl, by omega, by omega, fun D hD => ?_⟩
  have f2 := f.mono s2
  have sF := s.trans (offS_mono (S := S) s2)
  have en : ((n : Nat) : Int).toNat = n := by omega
  refine lc_range (lo := 0) (n := ((n : Nat) : Int).toNat) (LInv S H2 D (List.range n) b ev) ⟨same_new hD, [], upd_same, .nil⟩ (fun i H' hi inv => ?_) fun H' inv => q _ _ (s2.trans inv.1) (l_fin f2 hD (by rw [en, List.length_range]) inv)
  have hi2 : i < n := by omega
  have e0 : (0 : Int) + (i : Int) = (i : Int) := by omega
  rw [e0]
  exact l_turn (as := List.range n) (enc := fun a : Nat => PyData.int (a : Int)) f2 sF hD (by rw [List.length_range]; exact hz) (List.getElem?_range hi2) (.int _) (ht i hi2) inv
/-! statements -/
variable {S : Addr → Bool} {H : Hp} {D : L2.Ends} {t u : TS}
theorem go_seq (h : t { D with nx := u D } σ H) : tSeq t u D σ H := h
theorem go_ret (f : Fr S H) (h : EvP te σ (offS S H) P) (k : ∀ v H', Same H H' → P (offS S H') v → D.rt v H') : tRet te D σ H := h S H f (Same.refl _) _ k
theorem go_set {i : Nat} (f : Fr S H) (h : EvP te σ (offS S H) P) (k : ∀ v H', Same H H' → Fr S H' → P (offS S H') v → D.nx (σ.set i (some v)) H') : tAsg te (gName i) D σ H := h S H f (Same.refl _) _ fun v H' s p => k v H' s (f.mono s) p
theorem go_if {b : Bool} (f : Fr S H) (h : EvB tt σ (offS S H) b) (k1 : b = true → ∀ H', Same H H' → Fr S H' → t D σ H') (k2 : b = false → ∀ H', Same H H' → Fr S H' → u D σ H') : tIfS tt t u D σ H := h S H f (Same.refl _) _ fun H' s => by
  cases b with
  | true => exact k1 rfl H' s (f.mono s)
  | false => exact k2 rfl H' s (f.mono s)
theorem go_ifT (f : Fr S H) (h : EvB tt σ (offS S H) true) (k1 : ∀ H', Same H H' → Fr S H' → t D σ H') : tIfS tt t u D σ H := go_if f h (fun _ => k1) fun z => by cases z
theorem go_ifF (f : Fr S H) (h : EvB tt σ (offS S H) false) (k1 : ∀ H', Same H H' → Fr S H' → u D σ H') : tIfS tt t u D σ H := go_if f h (fun z => by cases z) fun _ => k1
end
end Ca

set_option maxHeartbeats 4000000
namespace Ca
open PySem PySem.Spec PyProof.Rows L2
theorem cut_take (ds : List PyData) (k : Nat) : cutD ds none (some (k : Int)) = ds.take k := by
  unfold cutD
  rw [HT.sIx_none, HT.sIx_nat, Nat.sub_zero, List.drop_zero]
  rcases Nat.le_total k ds.length with h | h
  · rw [Nat.min_eq_left h]
  · rw [Nat.min_eq_right h, List.take_of_length_le (Nat.le_refl _), List.take_of_length_le h]
theorem cut_drop (ds : List PyData) (k : Nat) : cutD ds (some (k : Int)) none = ds.drop k := by
  unfold cutD
  rw [HT.sIx_none, HT.sIx_nat]
  rcases Nat.le_total k ds.length with h | h
  · rw [Nat.min_eq_left h, List.take_of_length_le (by rw [List.length_drop]; exact Nat.le_refl _)]
  · rw [Nat.min_eq_right h, List.drop_of_length_le (Nat.le_refl _), List.drop_of_length_le h, List.take_nil]
section
variable {K : PySem.W.Frag} {σ : L2.St} {ta tb tc te : TE} {tas : TA} {tt tu : TT} {d e : PyData} {ds es : List PyData} {P P2 : Hp → V → Prop}
variable {S : Addr → Bool} {H : Hp} {D : L2.Ends} {t u : TS} {g : TG}
theorem go_forR {n : Nat} (fr : Fr S H) (h : EvA tas σ (offS S H) [.int (n : Int)]) (hz : n < 2 ^ 62) (k : ∀ H1, Same H H1 → Fr S H1 → ∃ Pv : Nat → L2.St → Hp → Prop, Pv 0 σ H1 ∧
    (∀ i σ' H', i < n → Pv i σ' H' → g (.int (i : Int)) σ' H' fun σ2 H2 => t { D with nx := Pv (i + 1), ct := Pv (i + 1), bk := D.nx } σ2 H2) ∧ (∀ σ' H', Pv n σ' H' → D.nx σ' H')) : tFor (iRng1 tas) g t D σ H :=
  h S H fr (Same.refl _) _ fun vs H1 s1 r => by
    obtain ⟨v1, rfl, r1⟩ := rpa1 r
    cases r1
    obtain ⟨Pv, p0, ps, pd⟩ := k H1 s1 (fr.mono s1)
    have en : ((n : Nat) : Int).toNat = n := by omega
    refine ⟨_, rfl, by omega, by omega, for_range (lo := 0) (n := ((n : Nat) : Int).toNat) Pv p0 (fun i σ' H' hi p => ?_) fun σ' H' p => pd σ' H' ?_⟩
    · have e0 : (0 : Int) + (i : Int) = (i : Int) := by omega
      rw [e0]
      exact ps i σ' H' (by omega) p
    · rw [en] at p
      exact p
section
variable {α : Type} {enc : α → PyData} {as : List α}
theorem go_forL {tl : TE} (fr : Fr S H) (h : EvD tl σ (offS S H) (.list (as.map enc))) (k : ∀ H1, Same H H1 → Fr S H1 → ∃ Pv : Nat → L2.St → Hp → Prop, Pv 0 σ H1 ∧
    (∀ i σ' H', Pv i σ' H' → Fr S H' ∧ Same (offS S H1) (offS S H')) ∧
    (∀ i a x σ' H', as[i]? = some a → Rp (offS S H') x (enc a) → Pv i σ' H' → g x σ' H' fun σ2 H2 => t { D with nx := Pv (i + 1), ct := Pv (i + 1), bk := D.nx } σ2 H2) ∧
    (∀ σ' H', Pv as.length σ' H' → D.nx σ' H')) : tFor (iList K tl) g t D σ H :=
  h S H fr (Same.refl _) _ fun v H1 s1 r => by
    obtain ⟨Pv, p0, pk, ps, pd⟩ := k H1 s1 (fr.mono s1)
    cases r with
    | @lst a xs _ h1 r1 =>
      have hl : xs.length = as.length := by rw [r1.length, List.length_map]
      refine ⟨a, rfl, ⟨xs, .inl (.inl (offS_same _ _ h1))⟩, for_list (xs := xs) Pv p0 (fun i σ' H' _ p => .inl (.inl (offS_same _ _ ((pk i σ' H' p).2 _ _ h1)))) (fun i x σ' H' hx p => ?_) fun σ' H' p => pd σ' H' (by rw [hl] at p; exact p)⟩
      obtain ⟨t1, ht1, rx⟩ := l_get r1 hx
      exact ps i t1 x σ' H' ht1 (rx.mono (pk i σ' H' p).2) p
theorem go_forT {tl : TE} (fr : Fr S H) (h : EvD tl σ (offS S H) (.tuple (as.map enc))) (k : ∀ H1, Same H H1 → Fr S H1 → ∃ Pv : Nat → L2.St → Hp → Prop, Pv 0 σ H1 ∧
    (∀ i σ' H', Pv i σ' H' → Fr S H' ∧ Same (offS S H1) (offS S H')) ∧
    (∀ i a x σ' H', as[i]? = some a → Rp (offS S H') x (enc a) → Pv i σ' H' → g x σ' H' fun σ2 H2 => t { D with nx := Pv (i + 1), ct := Pv (i + 1), bk := D.nx } σ2 H2) ∧
    (∀ σ' H', Pv as.length σ' H' → D.nx σ' H')) : tFor (iTup K tl) g t D σ H :=
  h S H fr (Same.refl _) _ fun v H1 s1 r => by
    obtain ⟨Pv, p0, pk, ps, pd⟩ := k H1 s1 (fr.mono s1)
    cases r with
    | @tup a xs _ h1 r1 =>
      have hl : xs.length = as.length := by rw [r1.length, List.length_map]
      refine ⟨a, rfl, ⟨xs, .inl (.inl (offS_same _ _ h1))⟩, for_tup (xs := xs) Pv p0 (fun i σ' H' _ p => .inl (.inl (offS_same _ _ ((pk i σ' H' p).2 _ _ h1)))) (fun i x σ' H' hx p => ?_) fun σ' H' p => pd σ' H' (by rw [hl] at p; exact p)⟩
      obtain ⟨t1, ht1, rx⟩ := l_get r1 hx
      exact ps i t1 x σ' H' ht1 (rx.mono (pk i σ' H' p).2) p
end
theorem go_setS {i : Nat} (f : Fr S H) (h : EvP te σ (offS S H) P) (k : ∀ v H', Same H H' → Fr S H' → P (offS S H') v → u D (σ.set i (some v)) H') : tSeq (tAsg te (gName i)) u D σ H := go_set (D := { D with nx := u D }) f h k
theorem go_forRS {n : Nat} (fr : Fr S H) (h : EvA tas σ (offS S H) [.int (n : Int)]) (hz : n < 2 ^ 62) (k : ∀ H1, Same H H1 → Fr S H1 → ∃ Pv : Nat → L2.St → Hp → Prop, Pv 0 σ H1 ∧
    (∀ i σ' H', i < n → Pv i σ' H' → g (.int (i : Int)) σ' H' fun σ2 H2 => t { D with nx := Pv (i + 1), ct := Pv (i + 1), bk := u D } σ2 H2) ∧ (∀ σ' H', Pv n σ' H' → u D σ' H')) : tSeq (tFor (iRng1 tas) g t) u D σ H := go_forR (D := { D with nx := u D }) fr h hz k
section
variable {α : Type} {enc : α → PyData} {as : List α}
theorem go_forLS {tl : TE} (fr : Fr S H) (h : EvD tl σ (offS S H) (.list (as.map enc))) (k : ∀ H1, Same H H1 → Fr S H1 → ∃ Pv : Nat → L2.St → Hp → Prop, Pv 0 σ H1 ∧
    (∀ i σ' H', Pv i σ' H' → Fr S H' ∧ Same (offS S H1) (offS S H')) ∧
    (∀ i a x σ' H', as[i]? = some a → Rp (offS S H') x (enc a) → Pv i σ' H' → g x σ' H' fun σ2 H2 => t { D with nx := Pv (i + 1), ct := Pv (i + 1), bk := u D } σ2 H2) ∧
    (∀ σ' H', Pv as.length σ' H' → u D σ' H')) : tSeq (tFor (iList K tl) g t) u D σ H := go_forL (D := { D with nx := u D }) fr h k
end
theorem go_ifS {b : Bool} {t1 t2 : TS} (f : Fr S H) (h : EvB tt σ (offS S H) b) (k1 : b = true → ∀ H', Same H H' → Fr S H' → t1 { D with nx := u D } σ H') (k2 : b = false → ∀ H', Same H H' → Fr S H' → t2 { D with nx := u D } σ H') : tSeq (tIfS tt t1 t2) u D σ H := go_if (D := { D with nx := u D }) f h k1 k2
/-! data compared -/
mutual
def nd : PyData → Bool
  | .list ds => ndA ds
  | .tuple ds => ndA ds
  | .dict _ => false
  | _ => true
def ndA : List PyData → Bool
  | [] => true
  | d :: ds => nd d && ndA ds
end
mutual
theorem Rp.dp {H : Hp} : ∀ {d : PyData} {v : V}, nd d = true → Rp H v d → Dp K H v d
  | _, _, _, .non => .non
  | _, _, _, .bl b => .bl b
  | _, _, _, .int i => .int i
  | _, _, _, .str x => .str x
  | _, _, h, .lst h1 r => .lst (.inl (.inl h1)) (RpA.dp (by simpa [nd] using h) r)
  | _, _, h, .tup h1 r => .tup (.inl (.inl h1)) (RpA.dp (by simpa [nd] using h) r)
  | _, _, h, .dic h1 => by simp [nd] at h
theorem RpA.dp {H : Hp} : ∀ {ds : List PyData} {vs : List V}, ndA ds = true → RpA H vs ds → DpAll K H vs ds
  | _, _, _, .nil => .nil
  | _, _, h, .cons h1 r => by
    have h2 := h
    simp only [ndA, Bool.and_eq_true] at h2
    exact .cons (Rp.dp h2.1 h1) (RpA.dp h2.2 r)
end
def eqOk (d : PyData) : Bool := nd d && SeqAt.shaped d
theorem e_eqD {F : Hp} (ha : EvD ta σ F d) (hb : EvD tb σ F e) (h1 : eqOk d = true) (h2 : eqOk e = true) : EvD (tOp (rEqD K) ta tb) σ F (.bool (PyData.eqv d e)) := e_op ha hb fun S H x y f rx ry Q q => by
  unfold eqOk at h1 h2
  rw [Bool.and_eq_true] at h1 h2
  exact ⟨d, e, Rp.dp h1.1 (rx.mono offS_same), Rp.dp h2.1 (ry.mono offS_same), h1.2, h2.2, q _ H (Same.refl _) (.bl _)⟩
theorem e_neD {F : Hp} (ha : EvD ta σ F d) (hb : EvD tb σ F e) (h1 : eqOk d = true) (h2 : eqOk e = true) : EvD (tOp (rNeD K) ta tb) σ F (.bool (!PyData.eqv d e)) := e_op ha hb fun S H x y f rx ry Q q => by
  unfold eqOk at h1 h2
  rw [Bool.and_eq_true] at h1 h2
  exact ⟨d, e, Rp.dp h1.1 (rx.mono offS_same), Rp.dp h2.1 (ry.mono offS_same), h1.2, h2.2, q _ H (Same.refl _) (.bl _)⟩
/-! texts -/
theorem e_joinL {F : Hp} {x : PySem.Str} (ha : EvD ta σ F (.str x)) (hb : EvD tb σ F (.list ds)) (hs : ∀ d ∈ ds, ∃ y, d = .str y) (hl : ((ds.map strD).map (·.length)).sum + (ds.map strD).length * x.length ≤ 16777216) :
    EvD (tM1 (rJoinQ K) ta tb) σ F (.str (Txt.join x (ds.map strD))) := fun S H1 f s Q q =>
  ha S H1 f s _ fun v H2 s2 r2 => by
    cases r2
    refine ⟨⟨_, rfl⟩, hb S H2 (f.mono s2) (s.trans (offS_mono s2)) _ fun w H3 s3 r3 => ?_⟩
    obtain ⟨a, xs, rfl, h1, r1⟩ := rp_lst r3
    rw [of_strs hs] at r1
    rw [strs_rp r1] at h1
    exact ⟨x, a, _, rfl, rfl, .inl (.inl (.inl h1)), hl, q _ H3 (s2.trans s3) (.str _)⟩
end
end Ca

set_option maxHeartbeats 4000000
namespace Ca
open PySem PySem.Spec PyProof.Rows L2
section
variable {X : Cx} {K : PySem.W.Frag} {tg e o : Expr} {t to te : TE} {apos pos : Pos}
theorem pi_listQ (hK : X.K = K) (h : PE X e t) : PI X tg e (iList K t) := hK ▸ pi_list h
theorem pi_tupQ (hK : X.K = K) (h : PE X e t) : PI X tg e (iTup K t) := hK ▸ pi_tup h
theorem pe_joinQ (hK : X.K = K) (ho : PE X o to) (he : PE X e te) (hs : starEach [e] X.env = [(false, eval e X.env)] := by rfl) (hbase : attributeBase o "join" X.env (eval o X.env) = eval o X.env := by rfl) (hline : (apos.endLine == pos.line) = true := by rfl) :
    PE X (.Call (.Attribute o "join" apos) [e] [] pos) (tM1 (rJoinQ K) to te) := hK ▸ pe_join ho he hs hbase hline
end
/-! data that may be compared -/
structure Cq (k : Nat) (d : PyData) : Prop where
  n : nd d = true
  c : d.canLay0 = true
  p : d.depth ≤ k
theorem Cq.ok {k : Nat} {d : PyData} (h : Cq k d) (hk : k ≤ 64 := by decide) : eqOk d = true := by
  unfold eqOk SeqAt.shaped
  rw [h.n, h.c, decide_eq_true (Nat.le_trans h.p hk)]
  rfl
theorem Cq.mono {k m : Nat} {d : PyData} (h : Cq k d) (hk : k ≤ m) : Cq m d := ⟨h.n, h.c, Nat.le_trans h.p hk⟩
theorem cq_all {k : Nat} : ∀ {ds : List PyData}, (∀ d ∈ ds, Cq k d) → ndA ds = true ∧ PyData.canLayAll0 ds = true ∧ PyData.depthAll ds ≤ k
  | [], _ => ⟨rfl, rfl, Nat.zero_le _⟩
  | d :: ds, h => by
    obtain ⟨h1, h2, h3⟩ := cq_all fun e he => h e (.tail _ he)
    have z := h d (.head _)
    refine ⟨?_, ?_, ?_⟩
    · unfold ndA
      rw [z.n, h1]
      rfl
    · unfold PyData.canLayAll0
      rw [z.c, h2]
      rfl
    · unfold PyData.depthAll
      exact Nat.max_le.mpr ⟨z.p, h3⟩
theorem cq_lst {k : Nat} {ds : List PyData} (h : ∀ d ∈ ds, Cq k d) : Cq (k + 1) (.list ds) := by
  obtain ⟨h1, h2, h3⟩ := cq_all h
  refine ⟨by unfold nd; exact h1, by unfold PyData.canLay0; exact h2, by unfold PyData.depth; omega⟩
theorem cq_tup {k : Nat} {ds : List PyData} (h : ∀ d ∈ ds, Cq k d) : Cq (k + 1) (.tuple ds) := by
  obtain ⟨h1, h2, h3⟩ := cq_all h
  refine ⟨by unfold nd; exact h1, by unfold PyData.canLay0; exact h2, by unfold PyData.depth; omega⟩
theorem cq_int {k : Nat} (i : Int) : Cq k (.int i) := ⟨by simp [nd], by simp [PyData.canLay0], by simp [PyData.depth]⟩
theorem cq_bool {k : Nat} (b : Bool) : Cq k (.bool b) := ⟨by simp [nd], by simp [PyData.canLay0], by simp [PyData.depth]⟩
theorem cq_none {k : Nat} : Cq k .none := ⟨by simp [nd], by simp [PyData.canLay0], by simp [PyData.depth]⟩
theorem eqv_nil (ds : List PyData) : PyData.eqv (.list ds) (.list []) = ds.isEmpty := by
  cases ds with
  | nil => simp [PyData.eqv, PyData.eqvAll]
  | cons d ds => simp [PyData.eqv, PyData.eqvAll]
section
variable {K : PySem.W.Frag} {S : Addr → Bool} {H : Hp} {σ : L2.St} {x : V} {Q : L2.St → Hp → Prop} {i j k l : Nat} {d1 d2 d3 d4 : PyData}
theorem gg_tup2 (f : Fr S H) (r : Rp (offS S H) x (.tuple [d1, d2])) (h : ∀ v1 v2, Rp (offS S H) v1 d1 → Rp (offS S H) v2 d2 → Q ((σ.set i (some v1)).set j (some v2)) H) :
    gTup K 2 (gCons (gName i) (gCons (gName j) gNil)) x σ H Q := g_tup2 (C := fun σ2 => Q σ2 H) r h S H f (Same.refl _) Q fun _ c => c
theorem gg_tup3 (f : Fr S H) (r : Rp (offS S H) x (.tuple [d1, d2, d3])) (h : ∀ v1 v2 v3, Rp (offS S H) v1 d1 → Rp (offS S H) v2 d2 → Rp (offS S H) v3 d3 → Q (((σ.set i (some v1)).set j (some v2)).set k (some v3)) H) :
    gTup K 3 (gCons (gName i) (gCons (gName j) (gCons (gName k) gNil))) x σ H Q := g_tup3 (C := fun σ2 => Q σ2 H) r h S H f (Same.refl _) Q fun _ c => c
theorem gg_tup4 (f : Fr S H) (r : Rp (offS S H) x (.tuple [d1, d2, d3, d4])) (h : ∀ v1 v2 v3 v4, Rp (offS S H) v1 d1 → Rp (offS S H) v2 d2 → Rp (offS S H) v3 d3 → Rp (offS S H) v4 d4 → Q ((((σ.set i (some v1)).set j (some v2)).set k (some v3)).set l (some v4)) H) :
    gTup K 4 (gCons (gName i) (gCons (gName j) (gCons (gName k) (gCons (gName l) gNil)))) x σ H Q := g_tup4 (C := fun σ2 => Q σ2 H) r h S H f (Same.refl _) Q fun _ c => c
end
theorem filter_yes {α : Type} (as : List α) : as.filter (fun _ => true) = as := List.filter_eq_self.mpr fun _ _ => rfl
end Ca

set_option maxHeartbeats 4000000
namespace Ca
open PySem PySem.Spec PyProof.Rows L2
/-- J goes over what reads as es, at the facts F -/
def Iter (J : It) (F : Hp) (es : List PyData) : Prop := ∀ (S : Addr → Bool) (H : Hp) (i : Nat), Fr S H → Same F (offS S H) →
  (i < es.length → J.go i H ∧ ∀ x H', J.yld i H x H' → Same H H' ∧ ∃ d, es[i]? = some d ∧ Rp (offS S H') x d) ∧ (es.length ≤ i → J.stop i H)
/-- what is gone over reads as es -/
def ItP (wi : TI) (σ : L2.St) (F : Hp) (es : List PyData) : Prop := ∀ (S : Addr → Bool) (H1 : Hp), Fr S H1 → Same F (offS S H1) → ∀ R : It → Hp → Prop, (∀ J H2, Same H1 H2 → Iter J (offS S H2) es → R J H2) → wi σ H1 R
section
variable {K : PySem.W.Frag} {σ : L2.St} {F : Hp} {ta te tl : TE} {tas : TA} {tt tt1 : TT} {ds es : List PyData}
theorem it_list (h : EvD tl σ F (.list ds)) : ItP (iList K tl) σ F ds := fun S H1 f s R r => h S H1 f s _ fun v H2 s2 rv => by
  cases rv with
  | @lst a xs _ ha rx =>
    refine ⟨a, rfl, ⟨xs, .inl (.inl (offS_same _ _ ha))⟩, r _ H2 s2 fun S' H' i f' s' => ⟨fun hi => ?_, fun hi => ⟨xs, .inl (.inl (offS_same _ _ (s' _ _ ha))), by rw [rx.length]; exact hi⟩⟩⟩
    have q := offS_same _ _ (s' _ _ ha)
    have hx : i < xs.length := by rw [rx.length]; exact hi
    refine ⟨⟨xs, xs[i], .inl (.inl q), by simp [hx]⟩, fun x H'' y => ?_⟩
    obtain ⟨rfl, y⟩ := y
    obtain ⟨d, hd, rd⟩ := rx.get (y xs (.inl (.inl q)))
    exact ⟨Same.refl _, d, hd, rd.mono s'⟩
theorem it_tup (h : EvD tl σ F (.tuple ds)) : ItP (iTup K tl) σ F ds := fun S H1 f s R r => h S H1 f s _ fun v H2 s2 rv => by
  cases rv with
  | @tup a xs _ ha rx =>
    refine ⟨a, rfl, ⟨xs, .inl (.inl (offS_same _ _ ha))⟩, r _ H2 s2 fun S' H' i f' s' => ⟨fun hi => ?_, fun hi => ⟨xs, .inl (.inl (offS_same _ _ (s' _ _ ha))), by rw [rx.length]; exact hi⟩⟩⟩
    have q := offS_same _ _ (s' _ _ ha)
    have hx : i < xs.length := by rw [rx.length]; exact hi
    refine ⟨⟨xs, xs[i], .inl (.inl q), by simp [hx]⟩, fun x H'' y => ?_⟩
    obtain ⟨rfl, y⟩ := y
    obtain ⟨d, hd, rd⟩ := rx.get (y xs (.inl (.inl q)))
    exact ⟨Same.refl _, d, hd, rd.mono s'⟩
theorem it_rng {n : Nat} (h : EvA tas σ F [.int (n : Int)]) (hz : n < 2 ^ 62) : ItP (iRng1 tas) σ F ((List.range n).map fun i : Nat => .int (i : Int)) := fun S H1 f s R r => h S H1 f s _ fun vs H2 s2 rv => by
  obtain ⟨v1, rfl, r1⟩ := rpa1 rv
  cases r1
  have en : ((n : Nat) : Int).toNat = n := by omega
  refine ⟨_, rfl, by omega, by omega, r _ H2 s2 fun S' H' i f' s' => ⟨fun hi => ?_, fun hi => ?_⟩⟩
  · rw [List.length_map, List.length_range] at hi
    refine ⟨?_, fun x H'' y => ?_⟩
    · show i < ((n : Nat) : Int).toNat
      omega
    · obtain ⟨rfl, rfl⟩ := y
      refine ⟨Same.refl _, .int (i : Int), ?_, ?_⟩
      · rw [List.getElem?_map, List.getElem?_range hi]
        rfl
      · have e0 : (0 : Int) + (i : Int) = (i : Int) := by omega
        rw [e0]
        exact .int _
  · rw [List.length_map, List.length_range] at hi
    show ((n : Nat) : Int).toNat ≤ i
    omega
section
variable {α β : Type} {enc : α → PyData} {as : List α} {b : α → Bool} {ev : α → PyData} {g g1 : TG} {vs us : List Nat} {wi wj : TI}
/-- one for -/
theorem e_lcG (hi : ItP wi σ F (as.map enc)) (hz : as.length ≤ 1000) (ht : ∀ a ∈ as, Turn g tt te σ vs F (enc a) (b a) (ev a)) :
    EvD (tLc wi g tt te vs) σ F (.list ((as.filter b).map ev)) := fun S H1 f s Q q => hi S H1 f s _ fun J H2 s2 it D hD => by
  have f2 := f.mono s2
  have sF := s.trans (offS_mono (S := S) s2)
  refine ⟨fun i m H' => m = as.length - i ∧ i ≤ as.length ∧ LInv S H2 D as b ev i H', ⟨as.length, by simp, Nat.zero_le _, same_new hD, [], upd_same, .nil⟩, ?_⟩
  rintro i m H' ⟨rfl, hi, inv⟩
  have f3 : Fr S H' := f2.mono inv.1
  have jt := it S H' i f3 (offS_mono inv.1)
  rw [List.length_map] at jt
  by_cases hlt : i < as.length
  · obtain ⟨go, yl⟩ := jt.1 hlt
    refine .inr ⟨go, LInv S H2 D as b ev (i + 1), fun H'' p' => ⟨as.length - (i + 1), by omega, rfl, hlt, p'⟩, fun x H'' y => ?_⟩
    have ha : as[i]? = some as[i] := List.getElem?_eq_getElem hlt
    -- read the item off the list's own place
    obtain ⟨s3, acc, hacc, ra⟩ := inv
    have f4 : Fr (addS S D) H' := f3.add hacc trivial
    have hDo : offS S H2 D = none := by
      unfold offS
      split
      · rfl
      · exact hD
    have s1 : Same (offS S H2) (offS (addS S D) H') := addS_new hDo (offS_mono s3)
    have jt2 := it (addS S D) H' i f4 s1
    rw [List.length_map] at jt2
    obtain ⟨s5, d, hd, rx⟩ := (jt2.1 hlt).2 x H'' y
    rw [List.getElem?_map, ha] at hd
    cases hd
    have f5 := f4.mono s5
    have e1 : as.take (i + 1) = as.take i ++ [as[i]] := take_more ha
    refine ht as[i] (List.getElem_mem hlt) x (offS (addS S D) H'') ((sF.trans s1).trans (offS_mono s5)) rx (addS S D) H'' f5 (Same.refl _) _ fun σ2 ⟨w, hb, he⟩ => ⟨w, hb (addS S D) H'' f5 (Same.refl _) _ fun H3 s6 => ?_⟩
    have hacc3 := (s5.trans s6) _ _ hacc
    cases hb2 : b as[i] with
    | false =>
      refine ⟨s3.trans (s5.trans s6), acc, hacc3, ?_⟩
      rw [e1, List.filter_append, List.map_append]
      have : [as[i]].filter b = [] := by simp [hb2]
      rw [this, List.map_nil, List.append_nil]
      exact ra.mono (offS_mono (s5.trans s6))
    | true =>
      refine he hb2 (addS S D) H3 (f5.mono s6) (offS_mono s6) _ fun y H4 s7 r4 => ⟨acc, s7 _ _ hacc3, ?_, same_mut (s3.trans (s5.trans (s6.trans s7))) hD, _, upd_same, ?_⟩
      · have l1 := ra.length
        rw [List.length_map] at l1
        have l2 := List.length_filter_le b (as.take i)
        have l3 : (as.take i).length ≤ 1000 := by rw [List.length_take]; omega
        exact small1000 (by omega)
      · rw [e1, List.filter_append, List.map_append]
        have : [as[i]].filter b = [as[i]] := by simp [hb2]
        rw [this]
        exact ((ra.mono (offS_mono (s5.trans (s6.trans s7)))).mono addS_upd).append (.cons (r4.mono addS_upd) .nil)
  · exact .inl ⟨jt.2 (by omega), q _ _ (s2.trans inv.1) (l_fin f2 hD (by omega) inv)⟩
theorem go_forTS {S : Addr → Bool} {H : Hp} {D : L2.Ends} {t u : TS} {tl : TE} (fr : Fr S H) (h : EvD tl σ (offS S H) (.tuple (as.map enc))) (k : ∀ H1, Same H H1 → Fr S H1 → ∃ Pv : Nat → L2.St → Hp → Prop, Pv 0 σ H1 ∧
    (∀ i σ' H', Pv i σ' H' → Fr S H' ∧ Same (offS S H1) (offS S H')) ∧
    (∀ i a x σ' H', as[i]? = some a → Rp (offS S H') x (enc a) → Pv i σ' H' → g x σ' H' fun σ2 H2 => t { D with nx := Pv (i + 1), ct := Pv (i + 1), bk := u D } σ2 H2) ∧
    (∀ σ' H', Pv as.length σ' H' → u D σ' H')) : tSeq (tFor (iTup K tl) g t) u D σ H := go_forT (D := { D with nx := u D }) fr h k
/-- what is made so far -/
abbrev AccIs (S : Addr → Bool) (H0 : Hp) (D : Addr) (l : List PyData) (H' : Hp) : Prop := Same H0 H' ∧ ∃ acc, H' D = some (.lst acc) ∧ RpA (offS (addS S D) H') acc l
/-- two fors: the second one's items by the first one's -/
theorem e_lc2G {bs : α → List β} {enc1 : β → PyData} {c : α → β → Bool} {ev2 : α → β → PyData} (hi : ItP wi σ F (as.map enc)) (hz : (as.flatMap fun a => ((bs a).filter (c a)).map (ev2 a)).length ≤ 1000)
    (ht : ∀ a ∈ as, ∀ x F1, Same F F1 → Rp F1 x (enc a) → GtP g x (wipe σ vs) F1 fun σ2 => wipe σ2 vs = wipe σ vs ∧ EvB tt σ2 F1 true ∧ ItP wj σ2 F1 ((bs a).map enc1) ∧
      ∀ e ∈ bs a, ∀ y F2, Same F1 F2 → Rp F2 y (enc1 e) → GtP g1 y (wipe σ2 us) F2 fun σ3 => wipe σ3 us = wipe σ2 us ∧ EvB tt1 σ3 F2 (c a e) ∧ (c a e = true → EvD te σ3 F2 (ev2 a e))) :
    EvD (tLc2 wi g tt wj g1 tt1 te vs us) σ F (.list (as.flatMap fun a => ((bs a).filter (c a)).map (ev2 a))) := fun S H1 f s Q q => hi S H1 f s _ fun J H2 s2 it D hD => by
  have f2 := f.mono s2
  have sF := s.trans (offS_mono (S := S) s2)
  have hDo : offS S H2 D = none := by
    unfold offS
    split
    · rfl
    · exact hD
  have small : ∀ {l l2 : List PyData} {acc : List V} {H : Hp}, RpA H acc l → l.length < (l ++ l2).length → (l ++ l2).length ≤ 1000 → acc.length < sizeLine := fun {l l2 acc H} r h1 h2 => by
    have := r.length
    exact small1000 (by omega)
  let G : α → List PyData := fun a => ((bs a).filter (c a)).map (ev2 a)
  refine ⟨fun i m H' => m = as.length - i ∧ i ≤ as.length ∧ AccIs S H2 D ((as.take i).flatMap G) H', ⟨as.length, by simp, Nat.zero_le _, same_new hD, [], upd_same, .nil⟩, ?_⟩
  rintro i m H' ⟨rfl, hi, inv⟩
  have f3 : Fr S H' := f2.mono inv.1
  have jt := it S H' i f3 (offS_mono inv.1)
  rw [List.length_map] at jt
  by_cases hlt : i < as.length
  · obtain ⟨go, yl⟩ := jt.1 hlt
    refine .inr ⟨go, AccIs S H2 D ((as.take (i + 1)).flatMap G), fun H'' p' => ⟨as.length - (i + 1), by omega, rfl, hlt, p'⟩, fun x H'' y => ?_⟩
    have ha : as[i]? = some as[i] := List.getElem?_eq_getElem hlt
    obtain ⟨s3, acc, hacc, ra⟩ := inv
    have f4 : Fr (addS S D) H' := f3.add hacc trivial
    have s1 : Same (offS S H2) (offS (addS S D) H') := addS_new hDo (offS_mono s3)
    have jt2 := it (addS S D) H' i f4 s1
    rw [List.length_map] at jt2
    obtain ⟨s5, d, hd, rx⟩ := (jt2.1 hlt).2 x H'' y
    rw [List.getElem?_map, ha] at hd
    cases hd
    generalize hA : as[i] = a at rx
    have ham : a ∈ as := by rw [← hA]; exact List.getElem_mem hlt
    have f5 := f4.mono s5
    have e1 : (as.take (i + 1)).flatMap G = (as.take i).flatMap G ++ G a := by
      rw [take_more ha, List.flatMap_append, hA]
      simp
    have whole : ((as.take i).flatMap G ++ G a).length ≤ 1000 := by
      refine Nat.le_trans ?_ hz
      rw [← e1]
      have e2 : as = as.take (i + 1) ++ as.drop (i + 1) := (List.take_append_drop _ _).symm
      conv => rhs; rw [e2]
      rw [List.flatMap_append, List.length_append]
      exact Nat.le_add_right _ _
    refine ht a ham x (offS (addS S D) H'') ((sF.trans s1).trans (offS_mono s5)) rx (addS S D) H'' f5 (Same.refl _) _ fun σ2 ⟨w, hb, hj, he⟩ => ⟨w, hb (addS S D) H'' f5 (Same.refl _) _ fun H3 s6 => ?_⟩
    refine hj (addS S D) H3 (f5.mono s6) (offS_mono s6) _ fun J1 H4 s7 it1 => ?_
    have hacc4 := (s5.trans (s6.trans s7)) _ _ hacc
    have ra4 := ra.mono (offS_mono (S := addS S D) (s5.trans (s6.trans s7)))
    have f6 : Fr (addS S D) H4 := f5.mono (s6.trans s7)
    refine ⟨fun j k H' => k = (bs a).length - j ∧ j ≤ (bs a).length ∧ Same H2 H' ∧ Same (offS (addS S D) H4) (offS (addS S D) H') ∧ ∃ acc, H' D = some (.lst acc) ∧ RpA (offS (addS S D) H') acc ((as.take i).flatMap G ++ (((bs a).take j).filter (c a)).map (ev2 a)),
      ⟨(bs a).length, by simp, Nat.zero_le _, s3.trans (s5.trans (s6.trans s7)), Same.refl _, acc, hacc4, by simpa using ra4⟩, ?_⟩
    rintro j k H7 ⟨rfl, hj2, s8, s9, acc2, hacc2, ra2⟩
    have f7 : Fr (addS S D) H7 := (f2.mono s8).add hacc2 trivial
    have jt3 := it1 (addS S D) H7 j f7 s9
    rw [List.length_map] at jt3
    by_cases hjl : j < (bs a).length
    · obtain ⟨go1, yl1⟩ := jt3.1 hjl
      have hbj : (bs a)[j]? = some (bs a)[j] := List.getElem?_eq_getElem hjl
      refine .inr ⟨go1, fun H' => Same H2 H' ∧ Same (offS (addS S D) H4) (offS (addS S D) H') ∧ ∃ acc, H' D = some (.lst acc) ∧ RpA (offS (addS S D) H') acc ((as.take i).flatMap G ++ (((bs a).take (j + 1)).filter (c a)).map (ev2 a)), fun H'' p' => ⟨(bs a).length - (j + 1), by omega, rfl, hjl, p'⟩, fun y H8 yy => ?_⟩
      obtain ⟨s10, d, hd, ry⟩ := yl1 y H8 yy
      rw [List.getElem?_map, hbj] at hd
      cases hd
      have f8 := f7.mono s10
      have e3 : (bs a).take (j + 1) = (bs a).take j ++ [(bs a)[j]] := take_more hbj
      refine he _ (List.getElem_mem hjl) y (offS (addS S D) H8) ((offS_mono (s6.trans s7)).trans (s9.trans (offS_mono s10))) ry (addS S D) H8 f8 (Same.refl _) _ fun σ3 ⟨w3, hb3, he3⟩ => ⟨w3, hb3 (addS S D) H8 f8 (Same.refl _) _ fun H9 s11 => ?_⟩
      have hacc9 := (s10.trans s11) _ _ hacc2
      have ra9 := ra2.mono (offS_mono (S := addS S D) (s10.trans s11))
      have sn : Same (offS (addS S D) H4) (offS (addS S D) H9) := s9.trans (offS_mono (s10.trans s11))
      cases hc : c a (bs a)[j] with
      | false =>
        refine ⟨s8.trans (s10.trans s11), sn, acc2, hacc9, ?_⟩
        rw [e3, List.filter_append]
        have : [(bs a)[j]].filter (c a) = [] := by simp [hc]
        rw [this, List.append_nil]
        exact ra9
      | true =>
        have grow : (((bs a).take (j + 1)).filter (c a)).map (ev2 a) = (((bs a).take j).filter (c a)).map (ev2 a) ++ [ev2 a (bs a)[j]] := by
          rw [e3, List.filter_append, List.map_append]
          have : [(bs a)[j]].filter (c a) = [(bs a)[j]] := by simp [hc]
          rw [this]
          rfl
        refine he3 hc (addS S D) H9 (f8.mono s11) (offS_mono s11) _ fun y H10 s12 r10 => ⟨acc2, s12 _ _ hacc9, ?_, same_mut (s8.trans (s10.trans (s11.trans s12))) hD, (sn.trans (offS_mono s12)).trans addS_upd, _, upd_same, ?_⟩
        · have l1 := ra2.length
          have l2 : ((((bs a).take j).filter (c a)).map (ev2 a)).length ≤ (G a).length := by
            show _ ≤ (((bs a).filter (c a)).map (ev2 a)).length
            rw [List.length_map, List.length_map]
            have e4 : bs a = (bs a).take j ++ (bs a).drop j := (List.take_append_drop _ _).symm
            conv => rhs; rw [e4]
            rw [List.filter_append, List.length_append]
            omega
          rw [List.length_append] at l1 whole
          exact small1000 (by omega)
        · rw [grow, ← List.append_assoc]
          exact ((ra9.mono (offS_mono s12)).mono addS_upd).append (.cons (r10.mono addS_upd) .nil)
    · refine .inl ⟨jt3.2 (by omega), s8, acc2, hacc2, ?_⟩
      have ej : j = (bs a).length := by omega
      rw [ej, List.take_length] at ra2
      rw [e1]
      exact ra2
  · refine .inl ⟨jt.2 (by omega), q _ _ (s2.trans inv.1) ?_⟩
    obtain ⟨s3, acc, hacc, ra⟩ := inv
    have ei : i = as.length := by omega
    rw [ei, List.take_length] at ra
    exact .lst (by rw [offS_at (f2.new hD)]; exact hacc) (ra.mono addS_off)
end
end
end Ca

set_option maxHeartbeats 4000000
namespace Ca
open PySem PySem.Spec PyProof.Rows L2
def enD : Nat → List PyData → List PyData
  | _, [] => []
  | n, d :: ds => .tuple [.int (n : Int), d] :: enD (n + 1) ds
theorem enD_len : ∀ (ds : List PyData) (n : Nat), (enD n ds).length = ds.length
  | [], _ => rfl
  | d :: ds, n => by
    show (enD (n + 1) ds).length + 1 = _
    rw [enD_len ds, List.length_cons]
theorem enD_get : ∀ (ds : List PyData) (n i : Nat) {d : PyData}, ds[i]? = some d → (enD n ds)[i]? = some (.tuple [.int ((n + i : Nat) : Int), d])
  | [], _, _, _, h => by simp at h
  | e :: ds, n, 0, d, h => by
    cases (show some e = some d from h)
    rfl
  | e :: ds, n, i + 1, d, h => by
    have := enD_get ds (n + 1) i (d := d) (by simpa using h)
    show (enD (n + 1) ds)[i]? = _
    rw [this]
    congr 4
    omega
section
variable {K : PySem.W.Frag} {σ : L2.St} {F : Hp} {ta te tl : TE} {tas : TA} {ds : List PyData}
theorem it_enum (h : EvA tas σ F [.list ds]) : ItP (iEnum K tas) σ F (enD 0 ds) := fun S H1 f s R r => h S H1 f s _ fun vs H2 s2 rv => by
  obtain ⟨v1, rfl, r1⟩ := rpa1 rv
  cases r1 with
  | @lst a xs _ ha rx =>
    refine ⟨a, xs, rfl, .inl (.inl (offS_same _ _ ha)), r _ H2 s2 fun S' H' i f' s' => ⟨fun hi => ?_, fun hi => ⟨xs, .inl (.inl (offS_same _ _ (s' _ _ ha))), by rw [rx.length]; rw [enD_len] at hi; exact hi⟩⟩⟩
    rw [enD_len] at hi
    have q := offS_same _ _ (s' _ _ ha)
    have hx : i < xs.length := by rw [rx.length]; exact hi
    refine ⟨⟨xs, xs[i], .inl (.inl q), by simp [hx]⟩, fun x H'' y => ?_⟩
    obtain ⟨T, x1, rfl, hT, rfl, y⟩ := y
    obtain ⟨d, hd, rd⟩ := rx.get (y xs (.inl (.inl q)))
    have := enD_get ds 0 i hd
    rw [Nat.zero_add] at this
    refine ⟨same_new hT, _, this, .tup ?_ (.cons (.int _) (.cons ((rd.mono s').mono (offS_mono (same_new hT))) .nil))⟩
    rw [offS_at (f'.new hT), upd_same]
section
variable {α : Type} {enc : α → PyData} {as : List α} {g : TG} {S : Addr → Bool} {H : Hp} {D : L2.Ends} {t u : TS} {wi : TI}
theorem go_forG (fr : Fr S H) (h : ItP wi σ (offS S H) (as.map enc)) (k : ∀ H1, Same H H1 → Fr S H1 → ∃ Pv : Nat → L2.St → Hp → Prop, Pv 0 σ H1 ∧
    (∀ i σ' H', Pv i σ' H' → Fr S H' ∧ Same (offS S H1) (offS S H')) ∧
    (∀ i a x σ' H' H'', as[i]? = some a → Pv i σ' H' → Same H' H'' → Rp (offS S H'') x (enc a) → g x σ' H'' fun σ2 H2 => t { D with nx := Pv (i + 1), ct := Pv (i + 1), bk := D.nx } σ2 H2) ∧
    (∀ σ' H', Pv as.length σ' H' → D.nx σ' H')) : tFor wi g t D σ H := h S H fr (Same.refl _) _ fun J H1 s1 it => by
  obtain ⟨Pv, p0, pk, ps, pd⟩ := k H1 s1 (fr.mono s1)
  refine ⟨fun i m σ' H' => m = as.length - i ∧ i ≤ as.length ∧ Pv i σ' H', ⟨as.length, by simp, Nat.zero_le _, p0⟩, ?_⟩
  rintro i m σ' H' ⟨rfl, hi, p⟩
  obtain ⟨f', s'⟩ := pk i σ' H' p
  have jt := it S H' i f' s'
  rw [List.length_map] at jt
  by_cases hlt : i < as.length
  · obtain ⟨go, yl⟩ := jt.1 hlt
    refine .inr ⟨go, Pv (i + 1), fun σ2 H2 p' => ⟨as.length - (i + 1), by omega, rfl, hlt, p'⟩, fun x H'' y => ?_⟩
    obtain ⟨s2, d, hd, rx⟩ := yl x H'' y
    have ha : as[i]? = some as[i] := List.getElem?_eq_getElem hlt
    rw [List.getElem?_map, ha] at hd
    cases hd
    exact ps i as[i] x σ' H' H'' ha p s2 rx
  · have e : i = as.length := by omega
    subst e
    exact .inl ⟨jt.2 (Nat.le_refl _), pd σ' H' p⟩
theorem go_forGS (fr : Fr S H) (h : ItP wi σ (offS S H) (as.map enc)) (k : ∀ H1, Same H H1 → Fr S H1 → ∃ Pv : Nat → L2.St → Hp → Prop, Pv 0 σ H1 ∧
    (∀ i σ' H', Pv i σ' H' → Fr S H' ∧ Same (offS S H1) (offS S H')) ∧
    (∀ i a x σ' H' H'', as[i]? = some a → Pv i σ' H' → Same H' H'' → Rp (offS S H'') x (enc a) → g x σ' H'' fun σ2 H2 => t { D with nx := Pv (i + 1), ct := Pv (i + 1), bk := u D } σ2 H2) ∧
    (∀ σ' H', Pv as.length σ' H' → u D σ' H')) : tSeq (tFor wi g t) u D σ H := go_forG (D := { D with nx := u D }) fr h k
end
/-! sorted of data -/
def srtD (ds : List PyData) : List PyData := ds.mergeSort (PySem.W.dataLe false id)
theorem zipV {H : Hp} : ∀ {xs : List V} {ds : List PyData}, RpA H xs ds → ∃ bs : List (V × PyData), bs.map Prod.fst = xs ∧ bs.map Prod.snd = ds ∧ ∀ b ∈ bs, Rp H b.1 b.2
  | _, _, .nil => ⟨[], rfl, rfl, fun b h => by cases h⟩
  | _, _, .cons (v := v) (d := d) h r => by
    obtain ⟨bs, e1, e2, e3⟩ := zipV r
    refine ⟨(v, d) :: bs, by rw [List.map_cons, e1], by rw [List.map_cons, e2], fun b hb => ?_⟩
    rcases List.mem_cons.mp hb with z | z
    · rw [z]
      exact h
    · exact e3 b z
theorem unzipV {H : Hp} : ∀ {bs : List (V × PyData)}, (∀ b ∈ bs, Rp H b.1 b.2) → RpA H (bs.map Prod.fst) (bs.map Prod.snd)
  | [], _ => .nil
  | b :: bs, h => .cons (h b (.head _)) (unzipV fun c hc => h c (.tail _ hc))
theorem srt_snd (bs : List (V × PyData)) : (sortD bs).map Prod.snd = srtD (bs.map Prod.snd) := PySem.W.sort_maps Prod.snd fun a _ b _ => rfl
theorem e_sortD (h : EvD ta σ F (.list ds)) (hal : PySem.W.AllAlike ds) (hso : PySem.W.Sortable ds) (hdp : ∀ d ∈ ds, d.depth ≤ 60) (hl : ds.length ≤ 1000) : EvD (tCB rSortD (tCons ta tNil)) σ F (.list (srtD ds)) := fun S H1 f s Q q =>
  h S H1 f s _ fun v H2 s2 r => by
    cases r with
    | @lst a xs _ ha rx =>
      obtain ⟨bs, rfl, rfl, rb⟩ := zipV rx
      rw [List.length_map] at hl
      refine ⟨a, bs, rfl, .inl (offS_same _ _ ha), fun b hb => (rb b hb).mono offS_same, hal, hso, fun b hb => hdp _ (List.mem_map.mpr ⟨b, hb, rfl⟩), Nat.le_of_lt (small1000 hl), fun p hp => q _ _ (s2.trans (same_new hp)) (.lst (offS_new (f.mono s2) hp) ?_)⟩
      rw [← srt_snd]
      refine RpA.mono (offS_mono (same_new hp)) (unzipV fun b hb => rb b ?_)
      unfold sortD at hb
      exact (List.mem_mergeSort.mp hb)
theorem srt_head {ds : List PyData} {d : PyData} {es : List PyData} (h : srtD ds = d :: es) : d ∈ ds ∧ ∀ e ∈ ds, PySem.W.dataLt e d = false := by
  have tot : PySem.W.TotalLe (PySem.W.dataLe false (id : PyData → PyData)) := PySem.W.sortLe_total _ _ _
  have pw := PySem.W.sort_pairwise tot ds
  have mem : ∀ e, e ∈ srtD ds ↔ e ∈ ds := fun e => List.mem_mergeSort
  refine ⟨(mem d).mp (by rw [h]; exact .head _), fun e he => ?_⟩
  have pw2 : (srtD ds).Pairwise (fun a b => PySem.W.dataLe false id a b = true) := pw
  rw [h, List.pairwise_cons] at pw2
  have le : PySem.W.dataLe false id d e = true := by
    rcases List.mem_cons.mp (by rw [← h]; exact (mem e).mpr he : e ∈ d :: es) with z | z
    · rw [z]
      exact tot.refl d
    · exact pw2.1 e z
  have : (!PySem.W.dataLt e d) = true := le
  simpa using this
end
end Ca

set_option maxHeartbeats 4000000
namespace Q
open PySem PySem.Spec PyProof.Rows L2 Ca
theorem bIsi : bootBuiltins "isinstance" = some (.builtin "isinstance") := by decide +kernel
theorem bInt : bootBuiltins "int" = some (.type "int") := by decide +kernel
theorem bBool : bootBuiltins "bool" = some (.type "bool") := by decide +kernel
theorem bStr : bootBuiltins "str" = some (.type "str") := by decide +kernel
theorem bTup : bootBuiltins "tuple" = some (.type "tuple") := by decide +kernel
theorem bLst : bootBuiltins "list" = some (.type "list") := by decide +kernel
theorem bLen : bootBuiltins "len" = some (.builtin "len") := by decide +kernel
theorem bAll : bootBuiltins "all" = some (.builtin "all") := by decide +kernel
theorem bSorted : bootBuiltins "sorted" = some (.builtin "sorted") := by decide +kernel
theorem bRepr : bootBuiltins "repr" = some (.builtin "repr") := by decide +kernel
theorem bMax : bootBuiltins "max" = some (.builtin "max") := by decide +kernel
theorem bMin : bootBuiltins "min" = some (.builtin "min") := by decide +kernel
/-! ### the text -/
def top (i : Nat) : Stmt := PySem.Challenge.pw_countalike_k43_normal_forms.main.body.getD i (.Pass ⟨0, 0, 0, 0⟩)
abbrev FnP (K : PySem.W.Frag) (x : PySem.Str) (st : Stmt) (f : Addr) (fd : FuncData) : Prop := FunD K x x (defArgs st) (defBody st) (defScope st) [] [] f fd
abbrev FnM (K : PySem.W.Frag) (x q : PySem.Str) (st : Stmt) (f : Addr) (fd : FuncData) : Prop := FunD K x q (defArgs st) (defBody st) (defScope st) [] [] f fd
/-- the built-in names that the text does not bind, the module's constants -/
structure Tx (K : PySem.W.Frag) (mg : PySem.Str → Option Value) : Prop where
  isi : mg "isinstance" = none
  int : mg "int" = none
  bool : mg "bool" = none
  str : mg "str" = none
  tup : mg "tuple" = none
  lst : mg "list" = none
  len : mg "len" = none
  all : mg "all" = none
  sorted : mg "sorted" = none
  repr : mg "repr" = none
  max : mg "max" = none
  min : mg "min" = none
  range : mg "range" = none
  kinds : ∃ a, mg "KINDS" = some (.ref a) ∧ ∀ H : Hp, SqT K H a [.str "A", .str "B", .str "C"]
  mAtoms : ∃ t, mg "MOST_ATOMS" = some (.int 4 t)
  mVar : ∃ t, mg "MOST_VARIABLE" = some (.int 9 t)
  sm : ∃ o, K.lookup sysModules = some o
/-! ### is_number -/
abbrev s_is_number : Stmt := top 4
def isNum (d : PyData) (lo hi : Int) : Bool := match d with
  | .int i => decide (lo ≤ i) && decide (i ≤ hi)
  | _ => false
def spNum : Sp := fun vs H Q _ => ∃ v d lo hi, vs = [v, .int lo, .int hi] ∧ Rp H v d ∧ Q (.bl (isNum d lo hi)) H
theorem sc_num : FnScope ["thing", "least", "most"] ["thing", "least", "most"] (defScope s_is_number) := ⟨rfl, rfl, rfl, by decide +kernel, rfl, by decide +kernel, by decide +kernel⟩
section
variable {P : Program} {w : World} {K : PySem.W.Frag} {mg : PySem.Str → Option Value} {base : Heap}
/-- isinstance(x, T) of data -/
def isInt : PyData → Bool
  | .int _ => true
  | .bool _ => true
  | _ => false
def isBool : PyData → Bool
  | .bool _ => true
  | _ => false
def isTup : PyData → Bool
  | .tuple _ => true
  | _ => false
def isStr : PyData → Bool
  | .str _ => true
  | _ => false
theorem kInt {K : PySem.W.Frag} : ∀ d : PyData, PySem.W.kitOne K (.type (tyD d)) (.type "int") = some (isInt d)
  | .none => kit_ty (show kitB "NoneType" "int" = some false by decide +kernel)
  | .bool _ => kit_ty (show kitB "bool" "int" = some true by decide +kernel)
  | .int _ => kit_ty (show kitB "int" "int" = some true by decide +kernel)
  | .str _ => kit_ty (show kitB "str" "int" = some false by decide +kernel)
  | .list _ => kit_ty (show kitB "list" "int" = some false by decide +kernel)
  | .tuple _ => kit_ty (show kitB "tuple" "int" = some false by decide +kernel)
  | .dict _ => kit_ty (show kitB "dict" "int" = some false by decide +kernel)
theorem kBool {K : PySem.W.Frag} : ∀ d : PyData, PySem.W.kitOne K (.type (tyD d)) (.type "bool") = some (isBool d)
  | .none => kit_ty (show kitB "NoneType" "bool" = some false by decide +kernel)
  | .bool _ => kit_ty (show kitB "bool" "bool" = some true by decide +kernel)
  | .int _ => kit_ty (show kitB "int" "bool" = some false by decide +kernel)
  | .str _ => kit_ty (show kitB "str" "bool" = some false by decide +kernel)
  | .list _ => kit_ty (show kitB "list" "bool" = some false by decide +kernel)
  | .tuple _ => kit_ty (show kitB "tuple" "bool" = some false by decide +kernel)
  | .dict _ => kit_ty (show kitB "dict" "bool" = some false by decide +kernel)
theorem kTup {K : PySem.W.Frag} : ∀ d : PyData, PySem.W.kitOne K (.type (tyD d)) (.type "tuple") = some (isTup d)
  | .none => kit_ty (show kitB "NoneType" "tuple" = some false by decide +kernel)
  | .bool _ => kit_ty (show kitB "bool" "tuple" = some false by decide +kernel)
  | .int _ => kit_ty (show kitB "int" "tuple" = some false by decide +kernel)
  | .str _ => kit_ty (show kitB "str" "tuple" = some false by decide +kernel)
  | .list _ => kit_ty (show kitB "list" "tuple" = some false by decide +kernel)
  | .tuple _ => kit_ty (show kitB "tuple" "tuple" = some true by decide +kernel)
  | .dict _ => kit_ty (show kitB "dict" "tuple" = some false by decide +kernel)
theorem kStr {K : PySem.W.Frag} : ∀ d : PyData, PySem.W.kitOne K (.type (tyD d)) (.type "str") = some (isStr d)
  | .none => kit_ty (show kitB "NoneType" "str" = some false by decide +kernel)
  | .bool _ => kit_ty (show kitB "bool" "str" = some false by decide +kernel)
  | .int _ => kit_ty (show kitB "int" "str" = some false by decide +kernel)
  | .str _ => kit_ty (show kitB "str" "str" = some true by decide +kernel)
  | .list _ => kit_ty (show kitB "list" "str" = some false by decide +kernel)
  | .tuple _ => kit_ty (show kitB "tuple" "str" = some false by decide +kernel)
  | .dict _ => kit_ty (show kitB "dict" "str" = some false by decide +kernel)
theorem ok_num {f : Addr} {fd : FuncData} (F : FnP K "is_number" s_is_number f fd) (T : Tx K mg) : FnOk P w K mg base CX0 1 f fd ["thing", "least", "most"] spNum := by
  refine F.ok sc_num (fun vs H Q E h => ?_) (fun cdv A outer s H vs Q E hr h => ?_)
  · obtain ⟨v, d, lo, hi, rfl, _⟩ := h
    rfl
  · obtain ⟨v, d, lo, hi, rfl, rp, q⟩ := h
    refine ⟨_, PSs.nox (pss_one (ps_ret (pe_and (pe_callB call_isi (by rfl) T.isi bIsi (pa_cons (pv 0) (pa_cons (pe_bltn (v := .ty "int") (by rfl) T.int bInt rfl) pa_nil)))
      (pe_and (pe_not (pe_callB call_isi (by rfl) T.isi bIsi (pa_cons (pv 0) (pa_cons (pe_bltn (v := .ty "bool") (by rfl) T.bool bBool rfl) pa_nil))))
        (pe_one (pe_chain op_le op_le (pv 1) (pv 0) (pv 2))))))), ?_⟩
    refine ⟨_, rfl, _, _, _, _, _, rfl, .ty _, rp.ty, kInt d, _, rfl, ?_⟩
    cases hi1 : isInt d with
    | false =>
      refine iteF ?_
      have e : isNum d lo hi = false := by cases d <;> first | rfl | cases hi1
      rw [e] at q
      exact q
    | true =>
      refine iteT ⟨_, rfl, _, _, _, _, _, rfl, .ty _, rp.ty, kBool d, _, rfl, _, rfl, ?_⟩
      cases hb1 : isBool d with
      | true =>
        have e : isNum d lo hi = false := by cases d <;> first | rfl | cases hb1
        rw [e] at q
        exact iteF q
      | false =>
        refine iteT ?_
        cases rp with
        | int i =>
          refine ⟨_, rfl, _, rfl, lo, i, rfl, rfl, decide (lo ≤ i), rfl, ?_⟩
          by_cases c : lo ≤ i
          · have e : isNum (.int i) lo hi = decide (i ≤ hi) := by simp [isNum, c]
            rw [e] at q
            rw [decide_eq_true c]
            exact iteT ⟨_, rfl, i, hi, rfl, rfl, q⟩
          · have e : isNum (.int i) lo hi = false := by simp [isNum, c]
            rw [e] at q
            rw [decide_eq_false c]
            exact iteF q
        | bl b => cases hb1
        | _ => cases hi1
end
end Q

set_option maxHeartbeats 4000000
namespace Q
open PySem PySem.Spec PyProof.Rows L2 Ca
/-! ### is_triple -/
abbrev s_is_triple : Stmt := top 5
def kindOk (k : PySem.Str) : Bool := inV (.str k) [.str "A", .str "B", .str "C"]
def isTri (d : PyData) (m : Int) : Bool := match d with
  | .tuple [.str k, l, r] => kindOk k && (isNum l 0 m && isNum r 0 m)
  | _ => false
theorem isTri_tup {ds : List PyData} {m : Int} (h : ds.length ≠ 3) : isTri (.tuple ds) m = false := by
  match ds, h with
  | [], _ => rfl
  | [a], _ => cases a <;> rfl
  | [a, b], _ => cases a <;> rfl
  | [a, b, c], h => exact absurd rfl h
  | a :: b :: c :: e :: r, _ => cases a <;> rfl
theorem isTri_not {d : PyData} {m : Int} (h : isTup d = false) : isTri d m = false := by
  cases d <;> first | rfl | cases h
theorem isTri_kind {k l r : PyData} {m : Int} (h : isStr k = false) : isTri (.tuple [k, l, r]) m = false := by
  cases k <;> first | rfl | cases h
def spTri : Sp := fun vs H Q _ => ∃ v d m, vs = [v, .int m] ∧ Rp H v d ∧ Q (.bl (isTri d m)) H
theorem sc_tri : FnScope ["thing", "most", "kind", "left", "right"] ["thing", "most"] (defScope s_is_triple) := ⟨rfl, rfl, rfl, by decide +kernel, rfl, by decide +kernel, by decide +kernel⟩
section
variable {P : Program} {w : World} {K : PySem.W.Frag} {mg : PySem.Str → Option Value} {base : Heap}
theorem ok_tri {f fN : Addr} {fd fdN : FuncData} (F : FnP K "is_triple" s_is_triple f fd) (T : Tx K mg) (FN : FnP K "is_number" s_is_number fN fdN) (gN : mg "is_number" = some (.ref fN)) :
    FnOk P w K mg base CX0 2 f fd ["thing", "most"] spTri := by
  have GN : FnOk P w K mg base CX0 1 fN fdN ["thing", "least", "most"] spNum := ok_num FN T
  have bN : Binds K fdN ["thing", "least", "most"] [] := FN.bindsN fun _ _ _ _ _ _ us hl => match us, hl with | [_, _, _], _ => rfl
  obtain ⟨aK, gK, sK⟩ := T.kinds
  refine F.ok sc_tri (fun vs H Q E h => ?_) (fun cdv A outer s H vs Q E hr h => ?_)
  · obtain ⟨v, d, m, rfl, _⟩ := h
    rfl
  · obtain ⟨v, d, m, rfl, rp, q⟩ := h
    refine ⟨_, PSs.nox (pss_cons (ps_if (PW.pt (pw_or (pt_not (pt_val (pe_callB call_isi (by rfl) T.isi bIsi (pa_cons (pv 0) (pa_cons (pe_bltn (v := .ty "tuple") (by rfl) T.tup bTup rfl) pa_nil)))))
        (pw_or1 (pt_cmpR op_ne (pe_callB call_len_seq (by rfl) T.len bLen (pa_cons (pv 0) pa_nil)) pe_int (nomark _))))) (pss_one (ps_ret pe_bl)) pss_nil)
      (pss_cons (ps_asg (pv 0) (pg_tup (by rfl) (pgs_cons (pg_name (i := 2) sc_tri.nd rfl (.inl rfl)) (pgs_cons (pg_name (i := 3) sc_tri.nd rfl (.inl rfl)) (pgs_cons (pg_name (i := 4) sc_tri.nd rfl (.inl rfl)) pgs_nil)))))
      (pss_cons (ps_if (PW.pt (pw_or (pt_not (pt_val (pe_callB call_isi (by rfl) T.isi bIsi (pa_cons (pv 2) (pa_cons (pe_bltn (v := .ty "str") (by rfl) T.str bStr rfl) pa_nil)))))
        (pw_or1 (pt_cmpR op_notIn_seq (pv 2) (pe_glob (v := .ref aK) rfl gK rfl) (by rfl))))) (pss_one (ps_ret pe_bl)) pss_nil)
      (pss_one (ps_ret (pe_and (pe_call GN hr rfl gN FN.kp bN .nil pass0 (pa_cons (pv 3) (pa_cons pe_int (pa_cons (pv 1) pa_nil))))
        (pe_one (pe_call GN hr rfl gN FN.kp bN .nil pass0 (pa_cons (pv 4) (pa_cons pe_int (pa_cons (pv 1) pa_nil)))))))))) ), ?_⟩
    refine ⟨_, rfl, _, _, _, _, _, rfl, .ty _, rp.ty, kTup d, _, rfl, ?_⟩
    cases hT : isTup d with
    | false =>
      rw [isTri_not hT] at q
      exact iteT (iteT q)
    | true =>
      refine iteF ?_
      cases rp with
      | @tup a xs ds h r =>
        refine ⟨_, rfl, a, xs, rfl, .inr (.inl (.inl h)), rfl, _, rfl, ?_⟩
        have hl := r.length
        by_cases h3 : ds.length = 3
        · have e3 : (!decide (V.int ((xs.length : Nat) : Int) = V.int 3)) = false := by
            rw [hl, h3]
            rfl
          rw [e3]
          refine iteF ?_
          match ds, h3 with
          | [dk, dl, dr], _ =>
            cases r with
            | @cons vk _ _ _ rk r =>
              cases r with
              | @cons vl _ _ _ rl r =>
                cases r with
                | @cons vr _ _ _ rr r =>
                  cases r
                  refine ⟨_, rfl, a, _, rfl, .inl (.inl h), rfl, vk, _, rfl, vl, _, rfl, vr, _, rfl, rfl, ?_⟩
                  refine ⟨_, rfl, _, _, _, _, _, rfl, .ty _, rk.ty, kStr dk, _, rfl, ?_⟩
                  cases hS : isStr dk with
                  | false =>
                    rw [isTri_kind hS] at q
                    exact iteT (iteT q)
                  | true =>
                    refine iteF ?_
                    cases rk with
                    | str k =>
                      refine ⟨_, rfl, aK, _, rfl, .inr (sK H), rfl, rfl, _, rfl, ?_⟩
                      show if (!kindOk k) = true then _ else _
                      cases hk : kindOk k with
                      | false =>
                        have e : isTri (.tuple [.str k, dl, dr]) m = false := by simp [isTri, hk]
                        rw [e] at q
                        exact iteT q
                      | true =>
                        refine iteF ?_
                        have e : isTri (.tuple [.str k, dl, dr]) m = (isNum dl 0 m && isNum dr 0 m) := by simp [isTri, hk]
                        rw [e] at q
                        refine ⟨_, rfl, _, rfl, vl, dl, 0, m, rfl, rl, _, rfl, ?_⟩
                        cases hn : isNum dl 0 m with
                        | false =>
                          rw [hn] at q
                          exact iteF q
                        | true =>
                          rw [hn] at q
                          exact iteT ⟨_, rfl, _, rfl, vr, dr, 0, m, rfl, rr, q⟩
                    | _ => cases hS
        · have e3 : (!decide (V.int ((xs.length : Nat) : Int) = V.int 3)) = true := by
            have z : ¬ V.int ((xs.length : Nat) : Int) = V.int 3 := fun z => by
              injection z with z
              omega
            rw [decide_eq_false z]
            rfl
          rw [e3]
          rw [isTri_tup h3] at q
          exact iteT q
      | _ => cases hT
end
end Q

set_option maxHeartbeats 4000000
namespace Q
open PySem PySem.Spec PyProof.Rows L2 Ca
/-! ### are_atoms -/
abbrev s_are_atoms : Stmt := top 37
def areAt (ds : List PyData) : Bool := decide (1 ≤ ds.length) && decide (ds.length ≤ 4) && ds.all fun d => isTri d 9
def spAre : Sp := fun vs H Q _ => ∃ v d ds, vs = [v] ∧ Rp H v d ∧ (d = .tuple ds ∨ d = .list ds) ∧ ds.length ≤ 1000 ∧ ∀ H', Same H H' → Q (.bl (areAt ds)) H'
theorem sc_are : FnScope ["things", "thing"] ["things"] (defScope s_are_atoms) := ⟨rfl, rfl, rfl, by decide +kernel, rfl, by decide +kernel, by decide +kernel⟩
theorem bools_of {H : Hp} {f : PyData → Bool} : ∀ {acc : List V} {ds : List PyData}, RpA H acc (ds.map fun d => .bool (f d)) → acc = (ds.map f).map V.bl
  | _, [], h => by
    cases h
    rfl
  | _, d :: ds, h => by
    cases h with
    | cons h1 h2 =>
      cases h1
      rw [bools_of h2]
      rfl
theorem all_id {f : PyData → Bool} (ds : List PyData) : (ds.map f).all id = ds.all f := by
  induction ds with
  | nil => rfl
  | cons d ds ih => simp [ih]
section
variable {P : Program} {w : World} {K : PySem.W.Frag} {mg : PySem.Str → Option Value} {base : Heap}
theorem ok_are {f fT : Addr} {fd fdT : FuncData} (F : FnP K "are_atoms" s_are_atoms f fd) (T : Tx K mg) (GT : FnOk P w K mg base CX0 2 fT fdT ["thing", "most"] spTri) (bT : Binds K fdT ["thing", "most"] [])
    (kT : PySem.W.keepIn K (.ref fT) = true) (gT : mg "is_triple" = some (.ref fT)) : FnOk P w K mg base CX0 3 f fd ["things"] spAre := by
  obtain ⟨t1, g1⟩ := T.mAtoms
  obtain ⟨t2, g2⟩ := T.mVar
  refine F.ok sc_are (fun vs H Q E h => ?_) (fun cdv A outer s H vs Q E hr h => ?_)
  · obtain ⟨v, d, ds, rfl, _⟩ := h
    rfl
  · obtain ⟨v, d, ds, rfl, rp, hd, hz, q⟩ := h
    have fin : ∀ {k : Bool} {H' : Hp}, Same H H' → k = areAt ds → Q (.bl k) H' := fun s e => by rw [e]; exact q _ s
    rcases hd with rfl | rfl
    · cases rp with
      | @tup a xs _ h r =>
        refine ⟨_, PSs.nox (pss_one (ps_ret (pe_and (pe_chain op_le op_le pe_int (pe_callB call_len_seq (by rfl) T.len bLen (pa_cons (pv 0) pa_nil)) (pe_glob (v := .int 4) rfl g1 ⟨t1, rfl⟩))
          (pe_one (pe_callB (cr_all rfl) (by rfl) T.all bAll (pa_cons (pe_lc (own := [("thing", 1)]) (g := gName 1) (tt := tYes) rfl sc_are.nd (pi_tup (pv 0))
            (blkOk_by (own := [("thing", 1)]) (N := ["things", "thing"]) (sc := defScope s_are_atoms) (by decide +kernel))
            (fun _ _ _ _ _ => pg_name (i := 1) sc_are.nd rfl (Or.inl rfl)) (fun _ _ _ _ _ => pts_nil)
            (fun _ _ _ _ _ => pe_call GT hr rfl gT kT bT .nil pass0 (pa_cons (pv 1) (pa_cons (pe_glob (v := .int 9) rfl g2 ⟨t2, rfl⟩) pa_nil)))) pa_nil)))))), ?_⟩
        have hl := r.length
        refine ⟨_, rfl, a, xs, rfl, .inr (.inl (.inl h)), 1, _, rfl, rfl, decide ((1 : Int) ≤ ((xs.length : Nat) : Int)), rfl, ?_⟩
        by_cases c1 : (1 : Int) ≤ ((xs.length : Nat) : Int)
        · rw [decide_eq_true c1]
          refine iteT ⟨_, 4, rfl, rfl, decide (((xs.length : Nat) : Int) ≤ 4), rfl, ?_⟩
          by_cases c2 : ((xs.length : Nat) : Int) ≤ 4
          · rw [decide_eq_true c2]
            refine iteT ⟨_, rfl, a, rfl, ⟨_, .inl (.inl h)⟩, fun D hD => lcT (F := fun d => some (.bool (isTri d 9))) h r hz hD (fun x d H' Nx _ s1 hn rx c _ => ⟨rfl, ?_⟩) fun H' acc s1 h1 h2 => ?_⟩
            · refine ⟨x, rfl, x, d, 9, rfl, rx.mono off_same, ?_⟩
              exact c _ _ H' rfl (Same.refl _) (.bl _)
            · rw [keptD_map] at h2
              have ea := bools_of h2
              subst ea
              refine ⟨D, _, rfl, .inl (.inl h1), fin s1 ?_⟩
              have k1 : decide (1 ≤ ds.length) = true := decide_eq_true (by omega)
              have k2 : decide (ds.length ≤ 4) = true := decide_eq_true (by omega)
              rw [all_id]
              simp [areAt, k1, k2]
          · rw [decide_eq_false c2]
            refine iteF (fin (Same.refl _) ?_)
            have k2 : decide (ds.length ≤ 4) = false := decide_eq_false (by omega)
            simp [areAt, k2]
        · rw [decide_eq_false c1]
          refine iteF ⟨_, rfl, iteF (fin (Same.refl _) ?_)⟩
          have k1 : decide (1 ≤ ds.length) = false := decide_eq_false (by omega)
          simp [areAt, k1]
    · cases rp with
      | @lst a xs _ h r =>
        refine ⟨_, PSs.nox (pss_one (ps_ret (pe_and (pe_chain op_le op_le pe_int (pe_callB call_len_seq (by rfl) T.len bLen (pa_cons (pv 0) pa_nil)) (pe_glob (v := .int 4) rfl g1 ⟨t1, rfl⟩))
          (pe_one (pe_callB (cr_all rfl) (by rfl) T.all bAll (pa_cons (pe_lc (own := [("thing", 1)]) (g := gName 1) (tt := tYes) rfl sc_are.nd (pi_list (pv 0))
            (blkOk_by (own := [("thing", 1)]) (N := ["things", "thing"]) (sc := defScope s_are_atoms) (by decide +kernel))
            (fun _ _ _ _ _ => pg_name (i := 1) sc_are.nd rfl (Or.inl rfl)) (fun _ _ _ _ _ => pts_nil)
            (fun _ _ _ _ _ => pe_call GT hr rfl gT kT bT .nil pass0 (pa_cons (pv 1) (pa_cons (pe_glob (v := .int 9) rfl g2 ⟨t2, rfl⟩) pa_nil)))) pa_nil)))))), ?_⟩
        have hl := r.length
        refine ⟨_, rfl, a, xs, rfl, .inl (.inl (.inl h)), 1, _, rfl, rfl, decide ((1 : Int) ≤ ((xs.length : Nat) : Int)), rfl, ?_⟩
        by_cases c1 : (1 : Int) ≤ ((xs.length : Nat) : Int)
        · rw [decide_eq_true c1]
          refine iteT ⟨_, 4, rfl, rfl, decide (((xs.length : Nat) : Int) ≤ 4), rfl, ?_⟩
          by_cases c2 : ((xs.length : Nat) : Int) ≤ 4
          · rw [decide_eq_true c2]
            refine iteT ⟨_, rfl, a, rfl, ⟨_, .inl (.inl h)⟩, fun D hD => lcL (F := fun d => some (.bool (isTri d 9))) h r hz hD (fun x d H' Nx _ s1 hn rx c _ => ⟨rfl, ?_⟩) fun H' acc s1 h1 h2 => ?_⟩
            · refine ⟨x, rfl, x, d, 9, rfl, rx.mono off_same, ?_⟩
              exact c _ _ H' rfl (Same.refl _) (.bl _)
            · rw [keptD_map] at h2
              have ea := bools_of h2
              subst ea
              refine ⟨D, _, rfl, .inl (.inl h1), fin s1 ?_⟩
              have k1 : decide (1 ≤ ds.length) = true := decide_eq_true (by omega)
              have k2 : decide (ds.length ≤ 4) = true := decide_eq_true (by omega)
              rw [all_id]
              simp [areAt, k1, k2]
          · rw [decide_eq_false c2]
            refine iteF (fin (Same.refl _) ?_)
            have k2 : decide (ds.length ≤ 4) = false := decide_eq_false (by omega)
            simp [areAt, k2]
        · rw [decide_eq_false c1]
          refine iteF ⟨_, rfl, iteF (fin (Same.refl _) ?_)⟩
          have k1 : decide (1 ≤ ds.length) = false := decide_eq_false (by omega)
          simp [areAt, k1]
end
end Q

set_option maxHeartbeats 4000000
namespace Q
open PySem PySem.Spec PyProof.Rows L2 Ca
/-! ### atoms, variables_of -/
structure At where
  k : PySem.Str
  l : Int
  r : Int
def atD (a : At) : PyData := .tuple [.str a.k, .int a.l, .int a.r]
def vars (as : List At) : List Int := as.flatMap fun a => [a.l, a.r]
theorem vars_app (a b : List At) : vars (a ++ b) = vars a ++ vars b := List.flatMap_append ..
abbrev s_variables_of : Stmt := top 40
def spVars : Sp := fun vs H Q _ => ∃ (v : V) (d : PyData) (as : List At), vs = [v] ∧ Rp H v d ∧ (d = .tuple (as.map atD) ∨ d = .list (as.map atD)) ∧ as.length ≤ 30 ∧
  ∀ (p : Addr) (ns : List Int) (H' : Hp), H p = none → Same H H' → H' p = some (.tup (ns.map V.int)) → ns.Pairwise (· < ·) → (∀ k : Int, k ∈ ns ↔ k ∈ vars as) → Q (.ref p) H'
theorem sc_vars : FnScope ["atoms", "kind", "left", "right", "variable"] ["atoms"] (defScope s_variables_of) := ⟨rfl, rfl, rfl, by decide +kernel, rfl, by decide +kernel, by decide +kernel⟩
/-- an atom as it stands in the heap -/
theorem at_of {H : Hp} {x : V} {a : At} (h : Rp H x (atD a)) : ∃ p, x = .ref p ∧ H p = some (.tup [.str a.k, .int a.l, .int a.r]) := by
  cases h with
  | @tup p xs _ h r =>
    cases r with
    | cons h1 r => cases r with
      | cons h2 r => cases r with
        | cons h3 r =>
          cases r
          cases h1
          cases h2
          cases h3
          exact ⟨p, rfl, h⟩
theorem bound_scan {n : Nat} (h : n ≤ 100) : n + 1 < scanBound := by
  unfold scanBound
  omega
/-- what the set holds behind i atoms and j variables more -/
def SetIs (w : World) (H : Hp) (D : Addr) (l : List Int) (m : Nat) : Prop := ∃ S n, H D = some (SetO w D S n) ∧ (∀ k : Int, S k = true ↔ k ∈ l) ∧ n ≤ m
theorem SetIs.add {w : World} {H : Hp} {D : Addr} {l : List Int} {m : Nat} {S : Int → Bool} {n : Nat} (k : Int) (hS : ∀ k : Int, S k = true ↔ k ∈ l) (hn : n ≤ m) :
    SetIs w (upd H D (SetO w D (more S k) (cntS S n k))) D (l ++ [k]) (m + 1) := by
  refine ⟨_, _, upd_same, fun j => ?_, ?_⟩
  · unfold more
    rw [Bool.or_eq_true, hS j, List.mem_append, List.mem_singleton, decide_eq_true_iff]
  · unfold cntS
    split <;> omega
section
variable {P : Program} {w : World} {K : PySem.W.Frag} {mg : PySem.Str → Option Value} {base : Heap}
theorem ok_vars {f : Addr} {fd : FuncData} (F : FnP K "variables_of" s_variables_of f fd) (T : Tx K mg) : FnOk P w K mg base CX0 1 f fd ["atoms"] spVars := by
  refine F.ok sc_vars (fun vs H Q E h => ?_) (fun cdv A outer s H vs Q E hr h => ?_)
  · obtain ⟨v, d, as, rfl, _⟩ := h
    rfl
  · obtain ⟨v, d, as, rfl, rp, hd, hz, q⟩ := h
    rcases hd with rfl | rfl
    · cases rp with
      | @tup a xs _ h r =>
        refine ⟨_, PSs.nox (pss_one (ps_ret (pe_callTy call_tuple_of (by rfl) T.tup bTup (pa_cons (pe_callB (cr_sortedSet rfl) (by rfl) T.sorted bSorted (pa_cons
          (pe_sc2 (own := [("kind", 1), ("left", 2), ("right", 3), ("variable", 4)]) (us := [4]) (g := gTup K 3 (gCons (gName 1) (gCons (gName 2) (gCons (gName 3) gNil)))) (tt := tYes) (wj := iTup K (tTup (tCons (tVar 2) (tCons (tVar 3) tNil)))) (g1 := gName 4) (tt1 := tYes) (te := tVar 4) rfl sc_vars.nd (pi_tup (pv 0))
            (blkOk_by (own := [("kind", 1), ("left", 2), ("right", 3), ("variable", 4)]) (N := ["atoms", "kind", "left", "right", "variable"]) (sc := defScope s_variables_of) (by decide +kernel)) (by decide)
            (fun _ _ _ _ _ => pg_tup (by rfl) (pgs_cons (pg_name (i := 1) sc_vars.nd rfl (Or.inl rfl)) (pgs_cons (pg_name (i := 2) sc_vars.nd rfl (Or.inl rfl)) (pgs_cons (pg_name (i := 3) sc_vars.nd rfl (Or.inl rfl)) pgs_nil))))
            (fun _ _ _ _ _ => pts_nil) (fun _ _ _ _ _ => pi_tup (pe_tup (pa_cons (pv 2) (pa_cons (pv 3) pa_nil)))) (fun _ _ _ _ _ => pg_name (i := 4) sc_vars.nd rfl (Or.inl rfl))
            (fun _ _ _ _ _ => pts_nil) (fun _ _ _ _ _ => pv 4)) pa_nil)) pa_nil)))), ?_⟩
        have hl := r.length
        rw [List.length_map] at hl
        refine ⟨_, rfl, a, rfl, ⟨_, .inl (.inl h)⟩, fun D hD => ?_⟩
        refine ⟨fun i m H' => m = xs.length - i ∧ i ≤ xs.length ∧ Same H H' ∧ SetIs w H' D (vars (as.take i)) (2 * i), ⟨xs.length, rfl, Nat.zero_le _, same_new hD, _, 0, upd_same, fun k => ?_, Nat.le_refl _⟩, ?_⟩
        · simp [vars]
        rintro i m H' ⟨rfl, hi, s1, S, n, hS, hm, hn⟩
        have sq := s1 _ _ h
        by_cases hlt : i < xs.length
        · refine .inr ⟨⟨xs, xs[i], .inl (.inl sq), by simp [hlt]⟩, fun H' => Same H H' ∧ SetIs w H' D (vars (as.take (i + 1))) (2 * (i + 1)), fun H' p' => ⟨xs.length - (i + 1), by omega, rfl, hlt, p'⟩, fun x H2 y => ?_⟩
          obtain ⟨rfl, y⟩ := y
          have hx := y xs (.inl (.inl sq))
          obtain ⟨d, hd, rx⟩ := r.get hx
          rw [List.getElem?_map] at hd
          obtain ⟨t, ht, rfl⟩ : ∃ t, as[i]? = some t ∧ atD t = d := by
            cases e : as[i]? with
            | none =>
              rw [e] at hd
              cases hd
            | some t =>
              rw [e] at hd
              exact ⟨t, rfl, Option.some.inj hd⟩
          obtain ⟨p, rfl, hp⟩ := at_of (rx.mono s1)
          have ev : vars (as.take (i + 1)) = vars (as.take i) ++ [t.l, t.r] := by
            rw [take_more ht, vars_app]
            rfl
          have i30 : i < 30 := by omega
          refine ⟨p, _, rfl, .inl (.inl hp), rfl, _, _, rfl, _, _, rfl, _, _, rfl, rfl, rfl, ?_⟩
          refine ⟨_, rfl, _, rfl, by show 2 ≤ sizeLine; decide, fun u hu => ⟨u, rfl, ⟨_, .inl (.inl upd_same)⟩, ?_⟩⟩
          have nDu : D ≠ u := ne_of_none hS hu
          refine ⟨fun j k H3 => k = 2 - j ∧ j ≤ 2 ∧ Same H H3 ∧ H3 u = some (.tup [.int t.l, .int t.r]) ∧ SetIs w H3 D (vars (as.take i) ++ [t.l, t.r].take j) (2 * i + j),
            ⟨2, rfl, by omega, fun b o e => ?_, upd_same, S, n, ?_, fun k => ?_, by omega⟩, ?_⟩
          · rw [upd_ne (ne_of_none (s1 b o e) hu)]
            exact s1 b o e
          · rw [upd_ne nDu]
            exact hS
          · rw [List.take_zero, List.append_nil]
            exact hm k
          rintro j k H3 ⟨rfl, hj, s3, hu3, S3, n3, hS3, hm3, hn3⟩
          by_cases hj2 : j < 2
          · refine .inr ⟨⟨_, [V.int t.l, V.int t.r][j], .inl (.inl hu3), by simp⟩, fun H3 => Same H H3 ∧ H3 u = some (.tup [.int t.l, .int t.r]) ∧ SetIs w H3 D (vars (as.take i) ++ [t.l, t.r].take (j + 1)) (2 * i + (j + 1)),
              fun H4 p4 => ⟨2 - (j + 1), by omega, rfl, by omega, p4⟩, fun x H4 y => ?_⟩
            obtain ⟨rfl, y⟩ := y
            have hx := y _ (.inl (.inl hu3))
            obtain ⟨z, hz1, rfl⟩ : ∃ z, [t.l, t.r][j]? = some z ∧ x = V.int z := by
              match j, hj2 with
              | 0, _ => exact ⟨t.l, rfl, (Option.some.inj hx).symm⟩
              | 1, _ => exact ⟨t.r, rfl, (Option.some.inj hx).symm⟩
            refine ⟨rfl, _, rfl, z, S3, n3, rfl, hS3, bound_scan (by omega), fun b o e => ?_, ?_, ?_⟩
            · rw [upd_ne (ne_of_none e hD)]
              exact s3 b o e
            · rw [upd_ne nDu.symm]
              exact hu3
            · have e4 := take_more hz1
              rw [e4, ← List.append_assoc]
              exact SetIs.add z hm3 hn3
          · have e2 : j = 2 := by omega
            subst e2
            refine .inl ⟨⟨_, .inl (.inl hu3), Nat.le_refl _⟩, s3, S3, n3, hS3, fun k => ?_, by omega⟩
            rw [ev]
            exact hm3 k
        · have e : i = xs.length := by omega
          subst e
          refine .inl ⟨⟨xs, .inl (.inl sq), Nat.le_refl _⟩, D, S, n, rfl, hS, by omega, fun ns u hs hk hln hu => ?_⟩
          refine ⟨u, _, rfl, .inl ⟨.inl (.inl upd_same), fun p hp => ?_⟩⟩
          have hp1 : H' p = none := by
            have z : p ≠ u := fun z => by
              rw [z, upd_same] at hp
              cases hp
            rw [upd_ne z] at hp
            exact hp
          refine q p ns _ (s1.free hp1) ((s1.trans (same_new hu)).trans (same_new hp)) upd_same hs fun k => ?_
          rw [hk k, hm k, hl, List.take_length]
    · cases rp with
      | @lst a xs _ h r =>
        refine ⟨_, PSs.nox (pss_one (ps_ret (pe_callTy call_tuple_of (by rfl) T.tup bTup (pa_cons (pe_callB (cr_sortedSet rfl) (by rfl) T.sorted bSorted (pa_cons
          (pe_sc2 (own := [("kind", 1), ("left", 2), ("right", 3), ("variable", 4)]) (us := [4]) (g := gTup K 3 (gCons (gName 1) (gCons (gName 2) (gCons (gName 3) gNil)))) (tt := tYes) (wj := iTup K (tTup (tCons (tVar 2) (tCons (tVar 3) tNil)))) (g1 := gName 4) (tt1 := tYes) (te := tVar 4) rfl sc_vars.nd (pi_list (pv 0))
            (blkOk_by (own := [("kind", 1), ("left", 2), ("right", 3), ("variable", 4)]) (N := ["atoms", "kind", "left", "right", "variable"]) (sc := defScope s_variables_of) (by decide +kernel)) (by decide)
            (fun _ _ _ _ _ => pg_tup (by rfl) (pgs_cons (pg_name (i := 1) sc_vars.nd rfl (Or.inl rfl)) (pgs_cons (pg_name (i := 2) sc_vars.nd rfl (Or.inl rfl)) (pgs_cons (pg_name (i := 3) sc_vars.nd rfl (Or.inl rfl)) pgs_nil))))
            (fun _ _ _ _ _ => pts_nil) (fun _ _ _ _ _ => pi_tup (pe_tup (pa_cons (pv 2) (pa_cons (pv 3) pa_nil)))) (fun _ _ _ _ _ => pg_name (i := 4) sc_vars.nd rfl (Or.inl rfl))
            (fun _ _ _ _ _ => pts_nil) (fun _ _ _ _ _ => pv 4)) pa_nil)) pa_nil)))), ?_⟩
        have hl := r.length
        rw [List.length_map] at hl
        refine ⟨_, rfl, a, rfl, ⟨_, .inl (.inl h)⟩, fun D hD => ?_⟩
        refine ⟨fun i m H' => m = xs.length - i ∧ i ≤ xs.length ∧ Same H H' ∧ SetIs w H' D (vars (as.take i)) (2 * i), ⟨xs.length, rfl, Nat.zero_le _, same_new hD, _, 0, upd_same, fun k => ?_, Nat.le_refl _⟩, ?_⟩
        · simp [vars]
        rintro i m H' ⟨rfl, hi, s1, S, n, hS, hm, hn⟩
        have sq := s1 _ _ h
        by_cases hlt : i < xs.length
        · refine .inr ⟨⟨xs, xs[i], .inl (.inl sq), by simp [hlt]⟩, fun H' => Same H H' ∧ SetIs w H' D (vars (as.take (i + 1))) (2 * (i + 1)), fun H' p' => ⟨xs.length - (i + 1), by omega, rfl, hlt, p'⟩, fun x H2 y => ?_⟩
          obtain ⟨rfl, y⟩ := y
          have hx := y xs (.inl (.inl sq))
          obtain ⟨d, hd, rx⟩ := r.get hx
          rw [List.getElem?_map] at hd
          obtain ⟨t, ht, rfl⟩ : ∃ t, as[i]? = some t ∧ atD t = d := by
            cases e : as[i]? with
            | none =>
              rw [e] at hd
              cases hd
            | some t =>
              rw [e] at hd
              exact ⟨t, rfl, Option.some.inj hd⟩
          obtain ⟨p, rfl, hp⟩ := at_of (rx.mono s1)
          have ev : vars (as.take (i + 1)) = vars (as.take i) ++ [t.l, t.r] := by
            rw [take_more ht, vars_app]
            rfl
          have i30 : i < 30 := by omega
          refine ⟨p, _, rfl, .inl (.inl hp), rfl, _, _, rfl, _, _, rfl, _, _, rfl, rfl, rfl, ?_⟩
          refine ⟨_, rfl, _, rfl, by show 2 ≤ sizeLine; decide, fun u hu => ⟨u, rfl, ⟨_, .inl (.inl upd_same)⟩, ?_⟩⟩
          have nDu : D ≠ u := ne_of_none hS hu
          refine ⟨fun j k H3 => k = 2 - j ∧ j ≤ 2 ∧ Same H H3 ∧ H3 u = some (.tup [.int t.l, .int t.r]) ∧ SetIs w H3 D (vars (as.take i) ++ [t.l, t.r].take j) (2 * i + j),
            ⟨2, rfl, by omega, fun b o e => ?_, upd_same, S, n, ?_, fun k => ?_, by omega⟩, ?_⟩
          · rw [upd_ne (ne_of_none (s1 b o e) hu)]
            exact s1 b o e
          · rw [upd_ne nDu]
            exact hS
          · rw [List.take_zero, List.append_nil]
            exact hm k
          rintro j k H3 ⟨rfl, hj, s3, hu3, S3, n3, hS3, hm3, hn3⟩
          by_cases hj2 : j < 2
          · refine .inr ⟨⟨_, [V.int t.l, V.int t.r][j], .inl (.inl hu3), by simp⟩, fun H3 => Same H H3 ∧ H3 u = some (.tup [.int t.l, .int t.r]) ∧ SetIs w H3 D (vars (as.take i) ++ [t.l, t.r].take (j + 1)) (2 * i + (j + 1)),
              fun H4 p4 => ⟨2 - (j + 1), by omega, rfl, by omega, p4⟩, fun x H4 y => ?_⟩
            obtain ⟨rfl, y⟩ := y
            have hx := y _ (.inl (.inl hu3))
            obtain ⟨z, hz1, rfl⟩ : ∃ z, [t.l, t.r][j]? = some z ∧ x = V.int z := by
              match j, hj2 with
              | 0, _ => exact ⟨t.l, rfl, (Option.some.inj hx).symm⟩
              | 1, _ => exact ⟨t.r, rfl, (Option.some.inj hx).symm⟩
            refine ⟨rfl, _, rfl, z, S3, n3, rfl, hS3, bound_scan (by omega), fun b o e => ?_, ?_, ?_⟩
            · rw [upd_ne (ne_of_none e hD)]
              exact s3 b o e
            · rw [upd_ne nDu.symm]
              exact hu3
            · have e4 := take_more hz1
              rw [e4, ← List.append_assoc]
              exact SetIs.add z hm3 hn3
          · have e2 : j = 2 := by omega
            subst e2
            refine .inl ⟨⟨_, .inl (.inl hu3), Nat.le_refl _⟩, s3, S3, n3, hS3, fun k => ?_, by omega⟩
            rw [ev]
            exact hm3 k
        · have e : i = xs.length := by omega
          subst e
          refine .inl ⟨⟨xs, .inl (.inl sq), Nat.le_refl _⟩, D, S, n, rfl, hS, by omega, fun ns u hs hk hln hu => ?_⟩
          refine ⟨u, _, rfl, .inl ⟨.inl (.inl upd_same), fun p hp => ?_⟩⟩
          have hp1 : H' p = none := by
            have z : p ≠ u := fun z => by
              rw [z, upd_same] at hp
              cases hp
            rw [upd_ne z] at hp
            exact hp
          refine q p ns _ (s1.free hp1) ((s1.trans (same_new hu)).trans (same_new hp)) upd_same hs fun k => ?_
          rw [hk k, hm k, hl, List.take_length]
end
end Q

set_option maxHeartbeats 4000000
namespace Q
open PySem PySem.Spec PyProof.Rows L2 Ca
/-! ### text_of_atoms -/
structure Good (a : At) : Prop where
  k : kindOk a.k = true
  l0 : 0 ≤ a.l
  l9 : a.l ≤ 9
  r0 : 0 ≤ a.r
  r9 : a.r ≤ 9
theorem kind_len {k : PySem.Str} (h : kindOk k = true) : k.length = 1 := by
  unfold kindOk inV at h
  rw [List.any_eq_true] at h
  obtain ⟨y, hy, e⟩ := h
  rcases List.mem_cons.mp hy with z | hy
  · subst z
    have e1 : PySem.Str.ofString "A" = k := by simpa [eqV] using e
    rw [← e1]
    decide +kernel
  · rcases List.mem_cons.mp hy with z | hy
    · subst z
      have e1 : PySem.Str.ofString "B" = k := by simpa [eqV] using e
      rw [← e1]
      decide +kernel
    · rcases List.mem_cons.mp hy with z | hy
      · subst z
        have e1 : PySem.Str.ofString "C" = k := by simpa [eqV] using e
        rw [← e1]
        decide +kernel
      · cases hy
theorem dig_len {i : Int} (h0 : 0 ≤ i) (h9 : i ≤ 9) : (PySem.Str.ofString (toString i)).length = 1 := by
  obtain ⟨n, rfl⟩ := Int.eq_ofNat_of_zero_le h0
  have h : ∀ n : Nat, n < 10 → (PySem.Str.ofString (toString ((n : Nat) : Int))).length = 1 := by decide +kernel
  exact h n (by omega)
theorem dig_log {i : Int} (h0 : 0 ≤ i) (h9 : i ≤ 9) : i.natAbs.log2 < 1920 := by
  obtain ⟨n, rfl⟩ := Int.eq_ofNat_of_zero_le h0
  have h : ∀ n : Nat, n < 10 → ((n : Int)).natAbs.log2 < 1920 := by decide +kernel
  exact h n (by omega)
theorem len_app (x y : PySem.Str) : (x ++ y).length = x.length + y.length := PySem.Str.length_append x y
def atT (a : At) : PySem.Str := a.k ++ PySem.Str.ofString (toString a.l) ++ PySem.Str.ofString (toString a.r)
theorem atT_len {a : At} (g : Good a) : (atT a).length = 3 := by
  unfold atT
  rw [len_app, len_app, kind_len g.k, dig_len g.l0 g.l9, dig_len g.r0 g.r9]
def txt (as : List At) : PySem.Str := Txt.join " " (as.map atT)
def atF (d : PyData) : Option PyData := match d with
  | .tuple [.str k, .int l, .int r] => some (.str (atT ⟨k, l, r⟩))
  | _ => none
theorem atF_map (as : List At) : (as.map atD).filterMap atF = as.map fun a => .str (atT a) := by
  induction as with
  | nil => rfl
  | cons a as ih =>
    rw [List.map_cons, List.filterMap_cons]
    show PyData.str (atT a) :: (as.map atD).filterMap atF = _
    rw [ih]
    rfl
theorem strs_of {H : Hp} {g : At → PySem.Str} : ∀ {acc : List V} {as : List At}, RpA H acc (as.map fun a => .str (g a)) → acc = (as.map g).map V.str
  | _, [], h => by
    cases h
    rfl
  | _, a :: as, h => by
    cases h with
    | cons h1 h2 =>
      cases h1
      rw [strs_of h2]
      rfl
theorem sum_len {as : List At} (h : ∀ a ∈ as, Good a) : ((as.map atT).map (·.length)).sum = 3 * as.length := by
  induction as with
  | nil => rfl
  | cons a as ih =>
    rw [List.map_cons, List.map_cons, List.sum_cons, ih fun b hb => h b (.tail _ hb), atT_len (h a (.head _)), List.length_cons]
    omega
def tJ3 : TE := fun σ H Q => tJs [tFmt (tVar 1), tFmt (tVar 2), tFmt (tVar 3)] PySem.Str.empty σ H fun out H1 => Q (.str out) H1
abbrev s_text_of_atoms : Stmt := top 38
def spText : Sp := fun vs H Q _ => ∃ (v : V) (d : PyData) (as : List At), vs = [v] ∧ Rp H v d ∧ (d = .tuple (as.map atD) ∨ d = .list (as.map atD)) ∧ as.length ≤ 30 ∧ (∀ a ∈ as, Good a) ∧
  ∀ H', Same H H' → Q (.str (txt as)) H'
theorem sc_text : FnScope ["atoms", "kind", "left", "right"] ["atoms"] (defScope s_text_of_atoms) := ⟨rfl, rfl, rfl, by decide +kernel, rfl, by decide +kernel, by decide +kernel⟩
section
variable {P : Program} {w : World} {K : PySem.W.Frag} {mg : PySem.Str → Option Value} {base : Heap}
theorem ok_text {f : Addr} {fd : FuncData} (F : FnP K "text_of_atoms" s_text_of_atoms f fd) (T : Tx K mg) : FnOk P w K mg base CX0 1 f fd ["atoms"] spText := by
  refine F.ok sc_text (fun vs H Q E h => ?_) (fun cdv A outer s H vs Q E hr h => ?_)
  · obtain ⟨v, d, as, rfl, _⟩ := h
    rfl
  · obtain ⟨v, d, as, rfl, rp, hd, hz, hg, q⟩ := h
    have small : ∀ n : Nat, n ≤ 1000 → n ≤ sizeLine := fun n h => Nat.le_of_lt (small1000 h)
    rcases hd with rfl | rfl
    · cases rp with
      | @tup a xs _ h r =>
        refine ⟨_, PSs.nox (pss_one (ps_ret (pe_join pe_str (pe_lc (own := [("kind", 1), ("left", 2), ("right", 3)]) (g := gTup K 3 (gCons (gName 1) (gCons (gName 2) (gCons (gName 3) gNil)))) (tt := tYes) rfl sc_text.nd (pi_tup (pv 0))
            (blkOk_by (own := [("kind", 1), ("left", 2), ("right", 3)]) (N := ["atoms", "kind", "left", "right"]) (sc := defScope s_text_of_atoms) (by decide +kernel))
            (fun _ _ _ _ _ => pg_tup (by rfl) (pgs_cons (pg_name (i := 1) sc_text.nd rfl (Or.inl rfl)) (pgs_cons (pg_name (i := 2) sc_text.nd rfl (Or.inl rfl)) (pgs_cons (pg_name (i := 3) sc_text.nd rfl (Or.inl rfl)) pgs_nil))))
            (fun _ _ _ _ _ => pts_nil) (fun _ _ _ _ _ => pe_joined (.cons (pe_fmt (pv 1)) (.cons (pe_fmt (pv 2)) (.cons (pe_fmt (pv 3)) .nil)))))))), ?_⟩
        refine ⟨⟨_, rfl⟩, _, rfl, a, rfl, ⟨_, .inl (.inl h)⟩, fun D hD => lcT (F := atF) (te := tJ3) h r (by rw [List.length_map]; omega) hD (fun x d H' Nx hm s1 hn rx c _ => ?_) fun H' acc s1 h1 h2 => ?_⟩
        · obtain ⟨t, ht, rfl⟩ := List.mem_map.mp hm
          have g := hg t ht
          obtain ⟨p, rfl, hp⟩ := at_of (rx.mono off_same)
          have kl := kind_len g.k
          have ll := dig_len g.l0 g.l9
          have rl := dig_len g.r0 g.r9
          refine ⟨p, _, rfl, .inl (.inl hp), rfl, _, _, rfl, _, _, rfl, _, _, rfl, rfl, rfl, ?_⟩
          refine ⟨_, rfl, .inl ⟨_, rfl, small _ (by omega), _, rfl, small _ (by rw [PySem.Str.empty_append]; omega), ?_⟩⟩
          refine ⟨_, rfl, .inr ⟨_, rfl, dig_log g.l0 g.l9, _, rfl, small _ (by rw [PySem.Str.empty_append, len_app]; omega), ?_⟩⟩
          refine ⟨_, rfl, .inr ⟨_, rfl, dig_log g.r0 g.r9, _, rfl, small _ (by rw [PySem.Str.empty_append, len_app, len_app]; omega), ?_⟩⟩
          rw [PySem.Str.empty_append]
          exact c _ _ H' rfl (Same.refl _) (.str _)
        · have h3 : RpA (off D H') acc (as.map fun a => .str (atT a)) := by
            rw [← atF_map]
            exact h2
          have ea := strs_of h3
          subst ea
          refine ⟨_, D, as.map atT, rfl, rfl, .inl (.inl (.inl h1)), ?_, q _ s1⟩
          rw [sum_len hg, List.length_map]
          have e1 : (PySem.Str.ofString " ").length = 1 := by decide +kernel
          rw [e1]
          omega
    · cases rp with
      | @lst a xs _ h r =>
        refine ⟨_, PSs.nox (pss_one (ps_ret (pe_join pe_str (pe_lc (own := [("kind", 1), ("left", 2), ("right", 3)]) (g := gTup K 3 (gCons (gName 1) (gCons (gName 2) (gCons (gName 3) gNil)))) (tt := tYes) rfl sc_text.nd (pi_list (pv 0))
            (blkOk_by (own := [("kind", 1), ("left", 2), ("right", 3)]) (N := ["atoms", "kind", "left", "right"]) (sc := defScope s_text_of_atoms) (by decide +kernel))
            (fun _ _ _ _ _ => pg_tup (by rfl) (pgs_cons (pg_name (i := 1) sc_text.nd rfl (Or.inl rfl)) (pgs_cons (pg_name (i := 2) sc_text.nd rfl (Or.inl rfl)) (pgs_cons (pg_name (i := 3) sc_text.nd rfl (Or.inl rfl)) pgs_nil))))
            (fun _ _ _ _ _ => pts_nil) (fun _ _ _ _ _ => pe_joined (.cons (pe_fmt (pv 1)) (.cons (pe_fmt (pv 2)) (.cons (pe_fmt (pv 3)) .nil)))))))), ?_⟩
        refine ⟨⟨_, rfl⟩, _, rfl, a, rfl, ⟨_, .inl (.inl h)⟩, fun D hD => lcL (F := atF) (te := tJ3) h r (by rw [List.length_map]; omega) hD (fun x d H' Nx hm s1 hn rx c _ => ?_) fun H' acc s1 h1 h2 => ?_⟩
        · obtain ⟨t, ht, rfl⟩ := List.mem_map.mp hm
          have g := hg t ht
          obtain ⟨p, rfl, hp⟩ := at_of (rx.mono off_same)
          have kl := kind_len g.k
          have ll := dig_len g.l0 g.l9
          have rl := dig_len g.r0 g.r9
          refine ⟨p, _, rfl, .inl (.inl hp), rfl, _, _, rfl, _, _, rfl, _, _, rfl, rfl, rfl, ?_⟩
          refine ⟨_, rfl, .inl ⟨_, rfl, small _ (by omega), _, rfl, small _ (by rw [PySem.Str.empty_append]; omega), ?_⟩⟩
          refine ⟨_, rfl, .inr ⟨_, rfl, dig_log g.l0 g.l9, _, rfl, small _ (by rw [PySem.Str.empty_append, len_app]; omega), ?_⟩⟩
          refine ⟨_, rfl, .inr ⟨_, rfl, dig_log g.r0 g.r9, _, rfl, small _ (by rw [PySem.Str.empty_append, len_app, len_app]; omega), ?_⟩⟩
          rw [PySem.Str.empty_append]
          exact c _ _ H' rfl (Same.refl _) (.str _)
        · have h3 : RpA (off D H') acc (as.map fun a => .str (atT a)) := by
            rw [← atF_map]
            exact h2
          have ea := strs_of h3
          subst ea
          refine ⟨_, D, as.map atT, rfl, rfl, .inl (.inl (.inl h1)), ?_, q _ s1⟩
          rw [sum_len hg, List.length_map]
          have e1 : (PySem.Str.ofString " ").length = 1 := by decide +kernel
          rw [e1]
          omega
end
end Q

set_option maxHeartbeats 4000000
namespace Q
open PySem PySem.Spec PyProof.Rows L2 Ca
/-! ### Question.__init__ -/
theorem num_int {d : PyData} {lo hi : Int} (h : isNum d lo hi = true) : ∃ i, d = .int i ∧ lo ≤ i ∧ i ≤ hi := by
  cases d with
  | int i =>
    have h2 : (decide (lo ≤ i) && decide (i ≤ hi)) = true := h
    rw [Bool.and_eq_true, decide_eq_true_iff, decide_eq_true_iff] at h2
    exact ⟨i, rfl, h2.1, h2.2⟩
  | _ => cases h
theorem tri_at {d : PyData} (h : isTri d 9 = true) : ∃ a : At, d = atD a ∧ Good a := by
  unfold isTri at h
  split at h
  · rename_i k l r
    rw [Bool.and_eq_true, Bool.and_eq_true] at h
    obtain ⟨h1, h2, h3⟩ := h
    obtain ⟨i, rfl, a1, a2⟩ := num_int h2
    obtain ⟨j, rfl, b1, b2⟩ := num_int h3
    exact ⟨⟨k, i, j⟩, rfl, h1, a1, a2, b1, b2⟩
  · cases h
theorem good_of : ∀ {ds : List PyData}, (∀ d ∈ ds, isTri d 9 = true) → ∃ as : List At, ds = as.map atD ∧ ∀ a ∈ as, Good a
  | [], _ => ⟨[], rfl, fun a h => by cases h⟩
  | d :: ds, h => by
    obtain ⟨a, rfl, g⟩ := tri_at (h d (.head _))
    obtain ⟨as, rfl, gs⟩ := good_of (ds := ds) fun e he => h e (.tail _ he)
    refine ⟨a :: as, rfl, fun b hb => ?_⟩
    rcases List.mem_cons.mp hb with z | z
    · rw [z]
      exact g
    · exact gs b z
theorem are_good {ds : List PyData} (h : areAt ds = true) : ∃ as : List At, ds = as.map atD ∧ (∀ a ∈ as, Good a) ∧ 1 ≤ as.length ∧ as.length ≤ 4 := by
  unfold areAt at h
  rw [Bool.and_eq_true, Bool.and_eq_true, decide_eq_true_iff, decide_eq_true_iff, List.all_eq_true] at h
  obtain ⟨⟨h1, h2⟩, h3⟩ := h
  obtain ⟨as, rfl, gs⟩ := good_of h3
  rw [List.length_map] at h1 h2
  exact ⟨as, rfl, gs, h1, h2⟩
theorem alike_at (a b : At) : PySem.W.alike (atD a) (atD b) = true := by simp [atD, PySem.W.alike, PySem.W.alikeAll]
theorem alike_all (as : List At) : PySem.W.AllAlike (as.map atD) := by
  intro d hd d' hd'
  obtain ⟨a, _, rfl⟩ := List.mem_map.mp hd
  obtain ⟨b, _, rfl⟩ := List.mem_map.mp hd'
  exact alike_at a b
theorem sortable_at (as : List At) : PySem.W.Sortable (as.map atD) := .inl fun d hd => by
  obtain ⟨a, _, rfl⟩ := List.mem_map.mp hd
  exact ⟨_, _, rfl⟩
theorem depth_at (a : At) : (atD a).depth ≤ 60 := by simp [atD, PyData.depth, PyData.depthAll]
theorem putF_le (f : PySem.Str) (v : V) : ∀ fs : List (PySem.Str × V), (putF f v fs).length ≤ fs.length + 1
  | [] => Nat.le_refl _
  | (g, u) :: fs => by
    have ih := putF_le f v fs
    unfold putF
    split
    · simp only [List.length_cons]; omega
    · simp only [List.length_cons]; omega
theorem putF_1 (f : PySem.Str) (v : V) : (putF f v []).length < 1000 := by
  have := putF_le f v []
  simp only [List.length_nil] at this
  omega
theorem putF_2 (f g : PySem.Str) (v u : V) : (putF f v (putF g u [])).length < 1000 := by
  have h1 := putF_le f v (putF g u [])
  have h2 := putF_le g u []
  simp only [List.length_nil] at h2
  omega
/-- the fields of a question -/
def qf (p o u : V) : List (PySem.Str × V) := putF "used" u (putF "ordered" o (putF "given" p []))
theorem s_go : ¬ (("given" : PySem.Str) = "ordered") := by decide +kernel
theorem s_gu : ¬ (("given" : PySem.Str) = "used") := by decide +kernel
theorem s_ou : ¬ (("ordered" : PySem.Str) = "used") := by decide +kernel
theorem qf_given (p o u : V) : (qf p o u).lookup ("given" : PySem.Str) = some p := by
  unfold qf
  rw [lookup_putF, if_neg s_gu, lookup_putF, if_neg s_go, lookup_putF, if_pos rfl]
theorem qf_ordered (p o u : V) : (qf p o u).lookup ("ordered" : PySem.Str) = some o := by
  unfold qf
  rw [lookup_putF, if_neg s_ou, lookup_putF, if_pos rfl]
theorem qf_used (p o u : V) : (qf p o u).lookup ("used" : PySem.Str) = some u := by
  unfold qf
  rw [lookup_putF, if_pos rfl]
theorem qf_no (p o u : V) {m : PySem.Str} (h1 : ¬ m = "given") (h2 : ¬ m = "ordered") (h3 : ¬ m = "used") : (qf p o u).lookup m = none := by
  unfold qf
  rw [lookup_putF, if_neg h3, lookup_putF, if_neg h2, lookup_putF, if_neg h1]
  rfl
/-- what the top has written of the class Question (at C) and of NoAtoms (at N) -/
structure QT (K : PySem.W.Frag) (mg : PySem.Str → Option Value) (C N : Addr) : Prop where
  cl : Cls K C
  nG : NoAttr K C "given"
  nO : NoAttr K C "ordered"
  nU : NoAttr K C "used"
  gN : mg "NoAtoms" = some (.ref N)
  xN : PySem.W.excIn K N [.type "ValueError", .type "Exception", .type "BaseException", .type "object"] "ValueError.__new__" = true
  kN : PySem.W.keepIn K (.ref N) = true
  bN : PySem.W.subIn K (.ref N) (.type "BaseException") = some true
  tN : PySem.W.typeIn K (.ref N) = some (.type "type")
abbrev cQ : Stmt := top 41
abbrev s_init : Stmt := inClass cQ 0
/-- a question at x whose atoms stand in the tuple at p -/
structure IsQ (H : Hp) (C x dx p : Addr) (as : List At) : Prop where
  obj : ∃ (o u : Addr) (ns : List Int), H x = some (.ins C dx (qf (.ref p) (.ref o) (.ref u))) ∧ H u = some (.tup (ns.map V.int)) ∧ ns.Pairwise (· < ·) ∧ (∀ k : Int, k ∈ ns ↔ k ∈ vars as) ∧
    ∃ bs : List (V × PyData), bs.map Prod.snd = as.map atD ∧ H p = some (.tup (bs.map Prod.fst)) ∧ H o = some (.tup ((sortD bs).map Prod.fst)) ∧ ∀ b ∈ bs, Rp H b.1 b.2
theorem rp_zip {H : Hp} : ∀ {xs : List V} {ds : List PyData}, RpA H xs ds → ∃ bs : List (V × PyData), bs.map Prod.fst = xs ∧ bs.map Prod.snd = ds ∧ ∀ b ∈ bs, Rp H b.1 b.2
  | _, _, .nil => ⟨[], rfl, rfl, fun b h => by cases h⟩
  | _, _, .cons (v := v) (d := d) h r => by
    obtain ⟨bs, e1, e2, e3⟩ := rp_zip r
    refine ⟨(v, d) :: bs, by rw [List.map_cons, e1], by rw [List.map_cons, e2], fun b hb => ?_⟩
    rcases List.mem_cons.mp hb with z | z
    · rw [z]
      exact h
    · exact e3 b z
theorem zip_rp {H : Hp} : ∀ {bs : List (V × PyData)}, (∀ b ∈ bs, Rp H b.1 b.2) → RpA H (bs.map Prod.fst) (bs.map Prod.snd)
  | [], _ => .nil
  | b :: bs, h => .cons (h b (.head _)) (zip_rp fun c hc => h c (.tail _ hc))
def spInit (C N : Addr) : Sp := fun vs H Q E => ∃ (x dx p : Addr) (ds : List PyData), vs = [.ref x, .ref p] ∧ H x = some (.ins C dx []) ∧ Rp H (.ref p) (.tuple ds) ∧ ds.length ≤ 30 ∧
  (areAt ds = false → ∀ H', Same H H' → E (.ref N) none H') ∧
  (∀ as : List At, ds = as.map atD → (∀ a ∈ as, Good a) → areAt ds = true → ∀ H', (∀ b o, b ≠ x → H b = some o → H' b = some o) → IsQ H' C x dx p as → Q .non H')
theorem sc_init : FnScope ["self", "atoms"] ["self", "atoms"] (defScope s_init) := ⟨rfl, rfl, rfl, by decide +kernel, rfl, by decide +kernel, by decide +kernel⟩
def spInitR (C N : Addr) : Sp := fun vs H Q E => ∃ ws rest : List V, vs = ws ++ rest ∧ ws.length = ["self"].length ∧ rest.length ≤ sizeLine ∧ ∀ p, H p = none → spInit C N (ws ++ [V.ref p]) (upd H p (.tup rest)) Q E
section
variable {P : Program} {w : World} {K : PySem.W.Frag} {mg : PySem.Str → Option Value} {base : Heap}
theorem ok_init {f C N fA fV : Addr} {fd fdA fdV : FuncData} (F : FnM K "__init__" "Question.__init__" s_init f fd) (T : Tx K mg) (TQ : QT K mg C N)
    (GA : FnOk P w K mg base CX0 3 fA fdA ["things"] spAre) (bA : Binds K fdA ["things"] []) (kA : PySem.W.keepIn K (.ref fA) = true) (gA : mg "are_atoms" = some (.ref fA))
    (GV : FnOk P w K mg base CX0 1 fV fdV ["atoms"] spVars) (bV : Binds K fdV ["atoms"] []) (kV : PySem.W.keepIn K (.ref fV) = true) (gV : mg "variables_of" = some (.ref fV)) :
    FnR P w K mg base (L2.CX P w) 4 f (spInitR C N) := by
  obtain ⟨oc, od, dV, kV', doc, pm, an, cdv, ct, osl, rfl, lk, hcd, hdfl, _⟩ := F.ex
  have ed : dV = .none := by
    rcases hdfl with ⟨_, e⟩ | ⟨h, _⟩
    · exact e
    · exact absurd rfl h
  subst ed
  refine StX.fn_star (ps := ["self"]) (pv := "atoms") lk hcd sc_init StX.cxUp (StX.bind_star1 (p1 := "self") (pv := "atoms") (B := fun us => bindArgs (PySem.W.fnOf "__init__" "Question.__init__" (defArgs s_init) (defBody s_init) (defScope s_init) .none kV' doc pm an cdv ct) ⟨us, []⟩) (fun a => by rfl) (fun a r rs => by rfl)) (fun A outer s H vs Q E hr h => ?_)
  obtain ⟨x, dx, p, ds, rfl, hx, rp, hz, kE, kQ⟩ := h
  have hr1 : Room 1 _ := hr.mono (by decide)
  refine ⟨_, pss_cons (ps_if (pt_not (pt_val (pe_call GA hr rfl gA kA bA .nil pass0 (pa_cons (pv 1) pa_nil))))
      (pss_one (ps_raise rfl (takes_of rfl rfl rfl rfl) (pmk_own PySem.F.excBase_ValueError TQ.xN TQ.gN TQ.kN (raises_own TQ.bN TQ.tN) rfl))) pss_nil)
    (pss_cons (ps_fld (pv 0) (pv 1) rfl)
    (pss_cons (ps_fld (pv 0) (pe_callTy call_tuple_of (by rfl) T.tup bTup (pa_cons (pe_callB (cr_sortD T.sm hr) (by rfl) T.sorted bSorted (pa_cons (pv 1) pa_nil)) pa_nil)) rfl)
    (pss_one (ps_fld (pv 0) (pe_call GV hr1 rfl gV kV bV .nil pass0 (pa_cons (pv 1) pa_nil)) rfl)))), ?_⟩
  refine ⟨_, rfl, _, _, ds, rfl, rp, .inl rfl, by omega, fun H1 s1 => ⟨_, rfl, ?_⟩⟩
  cases hA : areAt ds with
  | false => exact iteT (kE hA H1 s1)
  | true =>
    refine iteF ?_
    obtain ⟨as, rfl, gs, l1, l4⟩ := are_good hA
    cases rp with
    | @tup _ xs _ hp rx =>
      have hx1 := s1 _ _ hx
      have hp1 := s1 _ _ hp
      have nxp : x ≠ p := ne_of hx1 hp1 (by intro z; cases z)
      refine ⟨_, rfl, _, rfl, x, C, dx, [], rfl, hx1, TQ.cl, TQ.nG, by decide, ?_⟩
      obtain ⟨bs, e1, e2, e3⟩ := rp_zip (rx.mono s1)
      have keep : ∀ {H2 : Hp} {o : HO} {b : V × PyData}, Rp H2 b.1 b.2 → b ∈ bs → (∃ dx fs, H2 x = some (.ins C dx fs)) → Rp (upd H2 x o) b.1 b.2 := fun {H2 o b} rb hb hi => by
        have m : b.2 ∈ as.map atD := by
          rw [← e2]
          exact List.mem_map.mpr ⟨b, hb, rfl⟩
        obtain ⟨t, _, et⟩ := List.mem_map.mp m
        rw [← et] at rb ⊢
        obtain ⟨q, eq, hq⟩ := at_of rb
        rw [eq]
        obtain ⟨dx', fs', hi⟩ := hi
        have nqx : q ≠ x := ne_of hq hi (by intro z; cases z)
        exact .tup (by rw [upd_ne nqx]; exact hq) (.cons (.str _) (.cons (.int _) (.cons (.int _) .nil)))
      -- self.ordered = tuple(sorted(atoms))
      have hpx : (upd H1 x (.ins C dx (putF "given" (.ref p) []))) p = some (.tup (bs.map Prod.fst)) := by
        rw [upd_ne nxp.symm, e1]
        exact hp1
      refine ⟨_, rfl, p, bs, rfl, .inr hpx, fun b hb => keep (e3 b hb) hb ⟨_, _, hx1⟩, by rw [e2]; exact alike_all as, by rw [e2]; exact sortable_at as, fun b hb => ?_, ?_, fun l hl => ?_⟩
      · have m : b.2 ∈ as.map atD := by
          rw [← e2]
          exact List.mem_map.mpr ⟨b, hb, rfl⟩
        obtain ⟨t, _, et⟩ := List.mem_map.mp m
        rw [← et]
        exact depth_at t
      · have lb : bs.length = as.length := by
          have z := congrArg List.length e2
          rw [List.length_map, List.length_map] at z
          exact z
        rw [lb]
        exact Nat.le_trans l4 (by decide)
      refine ⟨l, _, rfl, .inl ⟨.inl (.inl upd_same), fun o ho => ?_⟩⟩
      have nol : o ≠ l := fun z => by
        rw [z, upd_same] at ho
        cases ho
      have hoo : (upd H1 x (.ins C dx (putF "given" (.ref p) []))) o = none := by
        rw [upd_ne nol] at ho
        exact ho
      have nxl : x ≠ l := fun z => by
        rw [← z, upd_same] at hl
        cases hl
      have nxo : x ≠ o := fun z => by
        rw [← z, upd_same] at hoo
        cases hoo
      have npl : p ≠ l := ne_of_none hpx hl
      have npo : p ≠ o := ne_of_none hpx hoo
      generalize hH2 : upd (upd (upd H1 x (.ins C dx (putF "given" (.ref p) []))) l (.lst ((sortD bs).map Prod.fst))) o (.tup ((sortD bs).map Prod.fst)) = H2
      have x2 : H2 x = some (.ins C dx (putF "given" (.ref p) [])) := by
        rw [← hH2, upd_ne nxo, upd_ne nxl, upd_same]
      have p2 : H2 p = some (.tup (bs.map Prod.fst)) := by
        rw [← hH2, upd_ne npo, upd_ne npl]
        exact hpx
      have o2 : H2 o = some (.tup ((sortD bs).map Prod.fst)) := by
        rw [← hH2, upd_same]
      have s12 : ∀ b ob, b ≠ x → H1 b = some ob → H2 b = some ob := fun b ob hb e => by
        have z : (upd H1 x (.ins C dx (putF "given" (.ref p) []))) b = some ob := by
          rw [upd_ne hb]
          exact e
        rw [← hH2, upd_ne (ne_of_none z hoo), upd_ne (ne_of_none z hl)]
        exact z
      have r2 : ∀ b ∈ bs, Rp H2 b.1 b.2 := fun b hb => by
        have z := keep (o := .ins C dx (putF "given" (.ref p) [])) (e3 b hb) hb ⟨_, _, hx1⟩
        rw [← hH2]
        exact (z.mono (same_new hl)).mono (same_new ho)
      refine ⟨_, rfl, x, C, dx, _, rfl, x2, TQ.cl, TQ.nO, putF_1 _ _, ?_⟩
      have nox : o ≠ x := nxo.symm
      -- self.used = variables_of(atoms)
      have rp3 : Rp (upd H2 x (.ins C dx (putF "ordered" (.ref o) (putF "given" (.ref p) [])))) (.ref p) (.tuple (as.map atD)) := by
        refine .tup (by rw [upd_ne nxp.symm]; exact p2) ?_
        rw [← e2]
        exact zip_rp fun b hb => keep (r2 b hb) hb ⟨_, _, x2⟩
      refine ⟨_, rfl, _, _, as, rfl, rp3, .inl rfl, by omega, fun u ns H4 hu s4 h4 hs hk => ?_⟩
      have x4 := s4 _ _ (upd_same (H := H2) (a := x) (o := .ins C dx (putF "ordered" (.ref o) (putF "given" (.ref p) []))))
      refine ⟨_, rfl, x, C, dx, _, rfl, x4, TQ.cl, TQ.nU, putF_2 _ _ _ _, ?_⟩
      have nux : u ≠ x := fun z => by
        rw [z, upd_same] at hu
        cases hu
      have r4 : ∀ b ∈ bs, Rp H4 b.1 b.2 := fun b hb => (keep (r2 b hb) hb ⟨_, _, x2⟩).mono s4
      refine kQ as rfl gs hA _ (fun b ob hb e => ?_) ⟨o, u, ns, upd_same, ?_, hs, hk, bs, e2, ?_, ?_, fun b hb => keep (r4 b hb) hb ⟨_, _, x4⟩⟩
      · rw [upd_ne hb]
        refine s4 b ob ?_
        rw [upd_ne hb]
        exact s12 b ob hb (s1 b ob e)
      · rw [upd_ne nux]
        exact h4
      · rw [upd_ne nxp.symm]
        exact s4 p _ (by rw [upd_ne nxp.symm]; exact p2)
      · rw [upd_ne nox]
        exact s4 o _ (by rw [upd_ne nox]; exact o2)
end
end Q

set_option maxHeartbeats 4000000
namespace Q
open PySem PySem.Spec PyProof.Rows L2 Ca
/-! ### Question.atoms, __len__, text -/
abbrev s_atoms : Stmt := inClass cQ 1
abbrev s_len : Stmt := inClass cQ 4
abbrev s_qtext : Stmt := inClass cQ 11
theorem IsQ.mono {H H' : Hp} {C x dx p : Addr} {as : List At} (s : Same H H') (h : IsQ H C x dx p as) : IsQ H' C x dx p as := by
  obtain ⟨o, u, ns, h1, h2, h3, h4, bs, e1, e2, e3, e4⟩ := h.obj
  exact ⟨o, u, ns, s _ _ h1, s _ _ h2, h3, h4, bs, e1, s _ _ e2, s _ _ e3, fun b hb => (e4 b hb).mono s⟩
theorem IsQ.atoms {H : Hp} {C x dx p : Addr} {as : List At} (h : IsQ H C x dx p as) : Rp H (.ref p) (.tuple (as.map atD)) := by
  obtain ⟨o, u, ns, h1, h2, h3, h4, bs, e1, e2, e3, e4⟩ := h.obj
  rw [← e1]
  exact .tup e2 (zip_rp e4)
theorem sc_atoms : FnScope ["self"] ["self"] (defScope s_atoms) := ⟨rfl, rfl, rfl, by decide +kernel, rfl, by decide +kernel, by decide +kernel⟩
theorem sc_len : FnScope ["self"] ["self"] (defScope s_len) := ⟨rfl, rfl, rfl, by decide +kernel, rfl, by decide +kernel, by decide +kernel⟩
theorem sc_qtext : FnScope ["self"] ["self"] (defScope s_qtext) := ⟨rfl, rfl, rfl, by decide +kernel, rfl, by decide +kernel, by decide +kernel⟩
def spAtoms (C : Addr) : Sp := fun vs H Q _ => ∃ (x dx p : Addr) (as : List At), vs = [.ref x] ∧ IsQ H C x dx p as ∧ Q (.ref p) H
def spLen (C : Addr) : Sp := fun vs H Q _ => ∃ (x dx p : Addr) (as : List At), vs = [.ref x] ∧ IsQ H C x dx p as ∧ Q (.int as.length) H
def spQText (C : Addr) : Sp := fun vs H Q _ => ∃ (x dx p : Addr) (as : List At), vs = [.ref x] ∧ IsQ H C x dx p as ∧ as.length ≤ 30 ∧ (∀ a ∈ as, Good a) ∧ ∀ H', Same H H' → Q (.str (txt as)) H'
section
variable {P : Program} {w : World} {K : PySem.W.Frag} {mg : PySem.Str → Option Value} {base : Heap}
theorem ok_atoms {f C N : Addr} {fd : FuncData} (F : FnM K "atoms" "Question.atoms" s_atoms f fd) (TQ : QT K mg C N) : FnOk P w K mg base CX0 1 f fd ["self"] (spAtoms C) := by
  refine F.ok sc_atoms (fun vs H Q E h => ?_) (fun cdv A outer s H vs Q E hr h => ?_)
  · obtain ⟨x, dx, p, as, rfl, _⟩ := h
    rfl
  · obtain ⟨x, dx, p, as, rfl, hq, q⟩ := h
    obtain ⟨o, u, ns, h1, _⟩ := hq.obj
    exact ⟨_, PSs.nox (pss_one (ps_ret (pe_fld (pv 0) rfl))), _, rfl, x, C, dx, _, _, rfl, h1, TQ.cl, TQ.nG, qf_given _ _ _, q⟩
theorem ok_len {f C N : Addr} {fd : FuncData} (F : FnM K "__len__" "Question.__len__" s_len f fd) (TQ : QT K mg C N) (T : Tx K mg) : FnOk P w K mg base CX0 1 f fd ["self"] (spLen C) := by
  refine F.ok sc_len (fun vs H Q E h => ?_) (fun cdv A outer s H vs Q E hr h => ?_)
  · obtain ⟨x, dx, p, as, rfl, _⟩ := h
    rfl
  · obtain ⟨x, dx, p, as, rfl, hq, q⟩ := h
    obtain ⟨o, u, ns, h1, _, _, _, bs, e1, e2, _⟩ := hq.obj
    refine ⟨_, PSs.nox (pss_one (ps_ret (pe_callB call_len_seq (by rfl) T.len bLen (pa_cons (pe_fld (pv 0) rfl) pa_nil)))), ?_⟩
    refine ⟨_, rfl, x, C, dx, _, _, rfl, h1, TQ.cl, TQ.nG, qf_given _ _ _, p, _, rfl, .inr (.inl (.inl e2)), ?_⟩
    have z : (bs.map Prod.fst).length = as.length := by
      have z := congrArg List.length e1
      rw [List.length_map, List.length_map] at z
      rw [List.length_map, z]
    rw [z]
    exact q
theorem ok_qtext {f C N fT : Addr} {fd fdT : FuncData} (F : FnM K "text" "Question.text" s_qtext f fd) (TQ : QT K mg C N) (GT : FnOk P w K mg base CX0 1 fT fdT ["atoms"] spText) (bT : Binds K fdT ["atoms"] [])
    (kT : PySem.W.keepIn K (.ref fT) = true) (gT : mg "text_of_atoms" = some (.ref fT)) : FnOk P w K mg base CX0 2 f fd ["self"] (spQText C) := by
  refine F.ok sc_qtext (fun vs H Q E h => ?_) (fun cdv A outer s H vs Q E hr h => ?_)
  · obtain ⟨x, dx, p, as, rfl, _⟩ := h
    rfl
  · obtain ⟨x, dx, p, as, rfl, hq, hz, hg, q⟩ := h
    obtain ⟨o, u, ns, h1, _⟩ := hq.obj
    refine ⟨_, PSs.nox (pss_one (ps_ret (pe_call GT hr rfl gT kT bT .nil pass0 (pa_cons (pe_fld (pv 0) rfl) pa_nil)))), ?_⟩
    exact ⟨_, rfl, x, C, dx, _, _, rfl, h1, TQ.cl, TQ.nG, qf_given _ _ _, _, _, as, rfl, hq.atoms, .inl rfl, hz, hg, q⟩
end
/-! ### making a question by a call -/
section
variable {X : Cx} {CX : CXT} {k : Nat} {f C : Addr} {sp : Sp} {E : XK} {x : PySem.Str} {p pos : Pos}
theorem pe_makeR0 (M : Mk X.K C f) (F : FnR X.prog X.w X.K X.mg X.base CX k f sp) (hr : Room (k + 1) X.A) (hg : Gl X x) (hm : X.mg x = some (.ref C)) (hx : Passes CX X E)
    (hdb : (x == ("__debug__" : PySem.Str)) = false := by decide) : PE X (.Call (.Name x p) [] [] pos) (StX.tMakeR C sp E tNil) :=
  ⟨fun pins s σ H Q I h => wpAny_Call_Name_kw (ld_glob I hg hm (PySem.W.callWith_K0 I.kIn M.kp (StX.run_makeR M F hr hx I .nil h)) hdb)⟩
/-- what is asked where Question(..) is called with the values vs, which read as ds -/
theorem make_q {N : Addr} {H : Hp} {vs : List V} {ds : List PyData} {Q : VK} {E : XK} (r : RpA H vs ds) (hz : ds.length ≤ 30)
    (kE : areAt ds = false → ∀ H', Same H H' → E (.ref N) none H')
    (kQ : ∀ as : List At, ds = as.map atD → (∀ a ∈ as, Good a) → areAt ds = true → ∀ x dx p H', H x = none → Same H H' → IsQ H' C x dx p as → Q (.ref x) H') :
    ∀ x dx, H x = none → H dx = none → dx ≠ x → spInitR C N (.ref x :: vs) (upd (upd H dx (.own x)) x (.ins C dx [])) (fun v H2 => v = .non ∧ Q (.ref x) H2) E := by
  intro x dx nx nd ne
  have l := r.length
  have sz : vs.length ≤ sizeLine := by
    rw [l]
    exact Nat.le_trans hz (by decide)
  have s0 : Same H (upd (upd H dx (.own x)) x (.ins C dx [])) := fun b o e => by
    rw [upd_ne (ne_of_none e nx), upd_ne (ne_of_none e nd)]
    exact e
  refine ⟨[.ref x], vs, rfl, rfl, sz, fun p hp => ?_⟩
  have npx : p ≠ x := fun z => by
    rw [z, upd_same] at hp
    cases hp
  have s1 : Same H (upd (upd (upd H dx (.own x)) x (.ins C dx [])) p (.tup vs)) := s0.trans (same_new hp)
  refine ⟨x, dx, p, ds, rfl, by rw [upd_ne npx.symm, upd_same], .tup upd_same (r.mono s1), hz, fun h H' s => kE h H' (s1.trans s), fun as e g h H' kp hq => ⟨rfl, kQ as e g h x dx p H' nx (fun b o eb => ?_) hq⟩⟩
  exact kp b o (ne_of_none eb nx) (s1 b o eb)
end
end Q

set_option maxHeartbeats 4000000
namespace Q
open PySem PySem.Spec PyProof.Rows L2 Ca
/-! ### a star call of a class that a name holds -/
section
variable {X : Cx} {CX : CXT} {k i : Nat} {f C : Addr} {sp : Sp} {E : XK} {x : PySem.Str} {e : Expr} {te : TE} {p sq pos : Pos}
/-- cls(*e), the i-th slot holds the class at C -/
def tClsStar (K : PySem.W.Frag) (C : Addr) (i : Nat) (sp : Sp) (E : XK) (te : TE) : TE := fun σ H Q => σ[i]? = some (some (.ref C)) ∧ te σ H fun y H1 => ∃ a xs, y = V.ref a ∧ (SqT K H1 a xs ∨ SqL K H1 a xs) ∧
  ∀ x dx, H1 x = none → H1 dx = none → dx ≠ x → sp (V.ref x :: xs) (upd (upd H1 dx (.own x)) x (.ins C dx [])) (fun v H2 => v = .non ∧ Q (.ref x) H2) E
theorem pe_clsStar (M : Mk X.K C f) (F : FnR X.prog X.w X.K X.mg X.base CX k f sp) (hr : Room (k + 1) X.A) (hN : X.N[i]? = some x) (hv : Vis X.env.scope x) (hx : Passes CX X E) (he : PE X e te)
    (hdb : (x == ("__debug__" : PySem.Str)) = false := by decide) (hcd : (x == ("__classdict__" : PySem.Str)) = false := by decide) (hst : starEach [.Starred e sq] X.env = [(true, eval e X.env)] := by rfl) :
    PE X (.Call (.Name x p) [.Starred e sq] [] pos) (tClsStar X.K C i sp E te) := by
  refine ⟨fun pins s σ H Q I h => ?_⟩
  obtain ⟨h0, h⟩ := h
  refine wpAny_Call_Name_kw (thn ((pe_var (pos := p) hN hv hdb hcd).run pins s σ H (fun v H1 => v = .ref C ∧ H1 = H) I ⟨.ref C, h0, rfl, rfl⟩) fun u s1 ⟨v, H1, I1, r1, e1, e2⟩ => ?_)
  subst e1 e2
  obtain rfl : u = Value.ref C := r1
  refine PySem.W.callWith_S (h₀ := X.base) I1.ok.mod.kin M.kp (thn (he.run pins s1 σ _ _ I1 h) fun v s2 ⟨y, H2, I2, ry, a, xs, ey, hxs, q⟩ => ?_) hst
  subst ey
  obtain rfl : v = Value.ref a := ry
  exact StX.star_any I2 hxs fun us s3 I3 rv => ⟨I3.kIn, StX.run_makeR M F hr hx I3 rv q⟩
/-- C(*e), C a class of the module -/
def tGlbStar (K : PySem.W.Frag) (C : Addr) (sp : Sp) (E : XK) (te : TE) : TE := fun σ H Q => te σ H fun y H1 => ∃ a xs, y = V.ref a ∧ (SqT K H1 a xs ∨ SqL K H1 a xs) ∧
  ∀ x dx, H1 x = none → H1 dx = none → dx ≠ x → sp (V.ref x :: xs) (upd (upd H1 dx (.own x)) x (.ins C dx [])) (fun v H2 => v = .non ∧ Q (.ref x) H2) E
theorem pe_glbStar (M : Mk X.K C f) (F : FnR X.prog X.w X.K X.mg X.base CX k f sp) (hr : Room (k + 1) X.A) (hg : Gl X x) (hm : X.mg x = some (.ref C)) (hx : Passes CX X E) (he : PE X e te)
    (hdb : (x == ("__debug__" : PySem.Str)) = false := by decide) (hst : starEach [.Starred e sq] X.env = [(true, eval e X.env)] := by rfl) :
    PE X (.Call (.Name x p) [.Starred e sq] [] pos) (tGlbStar X.K C sp E te) := by
  refine ⟨fun pins s σ H Q I h => wpAny_Call_Name_kw (ld_glob I hg hm ?_ hdb)⟩
  refine PySem.W.callWith_S (h₀ := X.base) I.ok.mod.kin M.kp (thn (he.run pins s σ _ _ I h) fun v s2 ⟨y, H2, I2, ry, a, xs, ey, hxs, q⟩ => ?_) hst
  subst ey
  obtain rfl : v = Value.ref a := ry
  exact StX.star_any I2 hxs fun us s3 I3 rv => ⟨I3.kIn, StX.run_makeR M F hr hx I3 rv q⟩
end
/-! ### number_of_word, atom_of_word: of what text() writes -/
abbrev s_now : Stmt := top 6
abbrev s_aow : Stmt := top 39
abbrev s_read : Stmt := inClass cQ 12
theorem sc_now : FnScope ["word"] ["word"] (defScope s_now) := ⟨rfl, rfl, rfl, by decide +kernel, rfl, by decide +kernel, by decide +kernel⟩
theorem sc_aow : FnScope ["word"] ["word"] (defScope s_aow) := ⟨rfl, rfl, rfl, by decide +kernel, rfl, by decide +kernel, by decide +kernel⟩
theorem sc_read : FnScope ["cls", "text", "atoms", "word"] ["cls", "text"] (defScope s_read) := ⟨rfl, rfl, rfl, by decide +kernel, rfl, by decide +kernel, by decide +kernel⟩
abbrev dg (i : Int) : PySem.Str := PySem.Str.ofString (toString i)
def spNow : Sp := fun vs H Q _ => ∃ i : Int, vs = [.str (dg i)] ∧ 0 ≤ i ∧ i ≤ 9 ∧ Q (.int i) H
def spAow : Sp := fun vs H Q _ => ∃ a : At, vs = [.str (atT a)] ∧ Good a ∧ ∀ p, H p = none → Q (.ref p) (upd H p (.tup [.str a.k, .int a.l, .int a.r]))
theorem dg_facts {i : Int} (h0 : 0 ≤ i) (h9 : i ≤ 9) : (dg i).length = 1 ∧ Txt.isascii (dg i) = true ∧ Txt.isdigit (dg i) = true ∧ PySem.intText? (dg i) = some i := by
  obtain ⟨n, rfl⟩ := Int.eq_ofNat_of_zero_le h0
  have h1 : ∀ n : Nat, n < 10 → (dg ((n : Nat) : Int)).length = 1 ∧ Txt.isascii (dg ((n : Nat) : Int)) = true ∧ Txt.isdigit (dg ((n : Nat) : Int)) = true := by decide +kernel
  have h2 : (TL.numL n).length ≤ 4300 := by
    have e : (TL.numL n).length = (dg ((n : Nat) : Int)).length := by
      rw [← TL.tl_num]
      exact Array.length_toList
    rw [e, (h1 n (by omega)).1]
    decide
  exact ⟨(h1 n (by omega)).1, (h1 n (by omega)).2.1, (h1 n (by omega)).2.2, TL.int_num h2⟩
theorem list1 {x : PySem.Str} (h : x.length = 1) : ∃ c, x.cps.toList = [c] := by
  have e : x.cps.toList.length = 1 := by
    rw [Array.length_toList]
    exact h
  match x.cps.toList, e with
  | [c], _ => exact ⟨c, rfl⟩
theorem cut3 {x y z : PySem.Str} (hx : x.length = 1) (hy : y.length = 1) (hz : z.length = 1) :
    cutS (x ++ y ++ z) none (some 1) = x ∧ cutS (x ++ y ++ z) (some 1) (some 2) = y ∧ cutS (x ++ y ++ z) (some 2) none = z := by
  obtain ⟨a, ha⟩ := list1 hx
  obtain ⟨b, hb⟩ := list1 hy
  obtain ⟨c, hc⟩ := list1 hz
  have l : (x ++ y ++ z).length = 3 := by rw [len_app, len_app, hx, hy, hz]
  have e : (x ++ y ++ z).cps.toList = [a, b, c] := by
    have e1 : (x ++ y ++ z).cps.toList = (x ++ y).cps.toList ++ z.cps.toList := TL.tl_append _ _
    have e2 : (x ++ y).cps.toList = x.cps.toList ++ y.cps.toList := TL.tl_append _ _
    rw [e1, e2, ha, hb, hc]
    rfl
  have back : ∀ (w : PySem.Str) (d : Nat), w.cps.toList = [d] → (⟨[d].toArray⟩ : PySem.Str) = w := fun w d h => by
    cases w with
    | mk cs =>
      have h2 : cs.toList = [d] := h
      rw [← h2]
  refine ⟨?_, ?_, ?_⟩
  · unfold cutS
    rw [l, e]
    exact back x a ha
  · unfold cutS
    rw [l, e]
    exact back y b hb
  · unfold cutS
    rw [l, e]
    exact back z c hc
section
variable {P : Program} {w : World} {K : PySem.W.Frag} {mg : PySem.Str → Option Value} {base : Heap}
theorem ok_now {f : Addr} {fd : FuncData} (F : FnP K "number_of_word" s_now f fd) (T : Tx K mg) (hL : ∃ t, mg "LONGEST_NUMBER" = some (.int 5 t)) : FnOk P w K mg base CX0 1 f fd ["word"] spNow := by
  obtain ⟨tL, gL⟩ := hL
  refine F.ok sc_now (fun vs H Q E h => ?_) (fun cdv A outer s H vs Q E hr h => ?_)
  · obtain ⟨i, rfl, _⟩ := h
    rfl
  · obtain ⟨i, rfl, h0, h9, q⟩ := h
    obtain ⟨l, a1, a2, a3⟩ := dg_facts h0 h9
    refine ⟨_, PSs.nox (pss_cons (ps_if (PW.pt (pw_or (pt_cmpR op_gt (pe_callB call_len_str (by rfl) T.len bLen (pa_cons (pv 0) pa_nil)) (pe_glob (v := .int 5) rfl gL ⟨tL, rfl⟩) (nomark _)) (pw_or (pt_not (pt_val (pe_m0 PySem.F.slot_str_isascii PySem.F.type_str_isascii mt_isascii (pv 0)))) (pw_or1 (pt_not (pt_val (pe_m0 PySem.F.slot_str_isdigit PySem.F.type_str_isdigit mt_isdigit (pv 0)))))))) (pss_one (ps_ret (pe_un un_neg pe_int))) pss_nil)
      (pss_one (ps_ret (pe_callTy call_int_str (by rfl) T.int bInt (pa_cons (pv 0) pa_nil))))), ?_⟩
    refine ⟨_, rfl, _, rfl, by rw [l]; decide, _, 5, rfl, rfl, _, rfl, ?_⟩
    have e : decide ((5 : Int) < ((dg i).length : Nat)) = false := by
      rw [l]
      rfl
    rw [e]
    refine iteF ⟨_, rfl, ⟨_, rfl⟩, _, rfl, rfl, trivial, _, rfl, ?_⟩
    rw [a1]
    refine iteF ⟨_, rfl, ⟨_, rfl⟩, _, rfl, rfl, trivial, _, rfl, ?_⟩
    rw [a2]
    exact iteF ⟨_, rfl, _, i, rfl, a3, by rw [l]; decide, q⟩
theorem ok_aow {f fN : Addr} {fd fdN : FuncData} (F : FnP K "atom_of_word" s_aow f fd) (GN : FnOk P w K mg base CX0 1 fN fdN ["word"] spNow) (bN : Binds K fdN ["word"] []) (kN : PySem.W.keepIn K (.ref fN) = true)
    (gN : mg "number_of_word" = some (.ref fN)) : FnOk P w K mg base CX0 2 f fd ["word"] spAow := by
  refine F.ok sc_aow (fun vs H Q E h => ?_) (fun cdv A outer s H vs Q E hr h => ?_)
  · obtain ⟨a, rfl, _⟩ := h
    rfl
  · obtain ⟨a, rfl, g, q⟩ := h
    have hr1 : Room 1 _ := hr
    refine ⟨_, PSs.nox (pss_one (ps_ret (pe_tup (pa_cons (pe_slice sl_str (pv 0) po_none (po_some pe_int)) (pa_cons (pe_call GN hr1 rfl gN kN bN .nil pass0 (pa_cons (pe_slice sl_str (pv 0) (po_some pe_int) (po_some pe_int)) pa_nil)) (pa_cons (pe_call GN hr1 rfl gN kN bN .nil pass0 (pa_cons (pe_slice sl_str (pv 0) (po_some pe_int) po_none) pa_nil)) pa_nil)))))), ?_⟩
    obtain ⟨c1, c2, c3⟩ := cut3 (kind_len g.k) (dig_len g.l0 g.l9) (dig_len g.r0 g.r9)
    have sz : (atT a).length ≤ sizeLine := by
      rw [atT_len g]
      decide
    refine ⟨_, rfl, 1, rfl, _, rfl, sz, ?_⟩
    refine ⟨_, rfl, 1, rfl, 2, rfl, _, rfl, sz, a.l, by rw [show cutS (atT a) (some 1) (some 2) = dg a.l from c2]; rfl, g.l0, g.l9, ?_⟩
    refine ⟨_, rfl, 2, rfl, _, rfl, sz, a.r, by rw [show cutS (atT a) (some 2) none = dg a.r from c3]; rfl, g.r0, g.r9, ?_⟩
    refine ⟨by show 3 ≤ sizeLine; decide, fun p hp => ?_⟩
    rw [show cutS (atT a) none (some 1) = a.k from c1]
    exact q p hp
/-! ### Question.read, of what text() writes -/
def decW (d : PyData) : Option PyData := match d with
  | .str w => some (.tuple [.str (cutS w none (some 1)), .int ((PySem.intText? (cutS w (some 1) (some 2))).getD 0), .int ((PySem.intText? (cutS w (some 2) none)).getD 0)])
  | _ => none
theorem decW_at {a : At} (g : Good a) : decW (.str (atT a)) = some (atD a) := by
  obtain ⟨c1, c2, c3⟩ := cut3 (kind_len g.k) (dig_len g.l0 g.l9) (dig_len g.r0 g.r9)
  unfold decW
  show some (PyData.tuple [.str (cutS (atT a) none (some 1)), .int ((PySem.intText? (cutS (atT a) (some 1) (some 2))).getD 0), .int ((PySem.intText? (cutS (atT a) (some 2) none)).getD 0)]) = _
  rw [show cutS (atT a) none (some 1) = a.k from c1, show cutS (atT a) (some 1) (some 2) = dg a.l from c2, show cutS (atT a) (some 2) none = dg a.r from c3, (dg_facts g.l0 g.l9).2.2.2, (dg_facts g.r0 g.r9).2.2.2]
  rfl
theorem decW_map {as : List At} (h : ∀ a ∈ as, Good a) : ((as.map atT).map PyData.str).filterMap decW = as.map atD := by
  induction as with
  | nil => rfl
  | cons a as ih =>
    rw [List.map_cons, List.map_cons, List.filterMap_cons, decW_at (h a (.head _)), ih fun b hb => h b (.tail _ hb)]
    rfl
theorem no_space {a : At} (g : Good a) : (32 : Nat) ∉ (atT a).cps.toList := by
  have d : ∀ n : Nat, n < 10 → (32 : Nat) ∉ (dg ((n : Nat) : Int)).cps.toList := by decide +kernel
  have dd : ∀ {i : Int}, 0 ≤ i → i ≤ 9 → (32 : Nat) ∉ (dg i).cps.toList := fun {i} h0 h9 => by
    obtain ⟨n, rfl⟩ := Int.eq_ofNat_of_zero_le h0
    exact d n (by omega)
  have e1 : (atT a).cps.toList = (a.k ++ dg a.l).cps.toList ++ (dg a.r).cps.toList := TL.tl_append _ _
  have e2 : (a.k ++ dg a.l).cps.toList = a.k.cps.toList ++ (dg a.l).cps.toList := TL.tl_append _ _
  rw [e1, e2]
  intro z
  rcases List.mem_append.mp z with z | z
  · rcases List.mem_append.mp z with z | z
    · have k := g.k
      unfold kindOk inV at k
      rw [List.any_eq_true] at k
      obtain ⟨y, hy, e⟩ := k
      have hk : a.k = "A" ∨ a.k = "B" ∨ a.k = "C" := by
        rcases List.mem_cons.mp hy with q | hy
        · subst q
          exact .inl (Eq.symm (by simpa [eqV] using e))
        · rcases List.mem_cons.mp hy with q | hy
          · subst q
            exact .inr (.inl (Eq.symm (by simpa [eqV] using e)))
          · rcases List.mem_cons.mp hy with q | hy
            · subst q
              exact .inr (.inr (Eq.symm (by simpa [eqV] using e)))
            · cases hy
      rcases hk with q | q | q <;> rw [q] at z <;> revert z <;> decide +kernel
    · exact dd g.l0 g.l9 z
  · exact dd g.r0 g.r9 z
theorem split_txt {as : List At} (h : ∀ a ∈ as, Good a) (hn : as ≠ []) : Txt.split (txt as) " " = as.map atT := by
  unfold txt
  refine TL.split_join (y := " ") (s := 32) (S := []) (by decide +kernel) (by decide +kernel) (fun e => hn (List.map_eq_nil_iff.mp e)) fun p hp => ?_
  obtain ⟨a, ha, rfl⟩ := List.mem_map.mp hp
  exact no_space (h a ha)
theorem are_of {as : List At} (h : ∀ a ∈ as, Good a) (l1 : 1 ≤ as.length) (l4 : as.length ≤ 4) : areAt (as.map atD) = true := by
  unfold areAt
  rw [Bool.and_eq_true, Bool.and_eq_true, decide_eq_true_iff, decide_eq_true_iff, List.length_map, List.all_eq_true]
  refine ⟨⟨l1, l4⟩, fun d hd => ?_⟩
  obtain ⟨a, ha, rfl⟩ := List.mem_map.mp hd
  have g := h a ha
  show (kindOk a.k && (decide (0 ≤ a.l) && decide (a.l ≤ 9) && (decide (0 ≤ a.r) && decide (a.r ≤ 9)))) = true
  rw [g.k, decide_eq_true g.l0, decide_eq_true g.l9, decide_eq_true g.r0, decide_eq_true g.r9]
  rfl
theorem txt_len2 {as : List At} (h : ∀ a ∈ as, Good a) : (txt as).length ≤ 4 * as.length := by
  have z := StrLaws.join_length_le " " (as.map atT)
  rw [sum_len h, List.length_map] at z
  have e1 : (PySem.Str.ofString " ").length = 1 := by decide +kernel
  rw [e1] at z
  unfold txt
  rw [TL.join_eq]
  omega
theorem rpa_strs {H : Hp} : ∀ ws : List PySem.Str, RpA H (ws.map V.str) (ws.map PyData.str)
  | [] => .nil
  | x :: ws => .cons (.str _) (rpa_strs ws)
theorem atD_inj : ∀ {bs as : List At}, bs.map atD = as.map atD → bs = as
  | [], [], _ => rfl
  | [], _ :: _, h => by cases h
  | _ :: _, [], h => by cases h
  | ⟨k, l, r⟩ :: bs, ⟨k', l', r'⟩ :: as, h => by
    rw [List.map_cons, List.map_cons, List.cons.injEq] at h
    obtain ⟨h1, h2⟩ := h
    have h3 : PyData.tuple [.str k, .int l, .int r] = PyData.tuple [.str k', .int l', .int r'] := h1
    injection h3 with h3
    simp only [List.cons.injEq, PyData.str.injEq, PyData.int.injEq] at h3
    obtain ⟨rfl, rfl, rfl, _⟩ := h3
    rw [atD_inj h2]
def spRead (C : Addr) : Sp := fun vs H Q _ => ∃ as : List At, vs = [.ref C, .str (txt as)] ∧ (∀ a ∈ as, Good a) ∧ 1 ≤ as.length ∧ as.length ≤ 4 ∧ ∀ x dx p H', H x = none → Same H H' → IsQ H' C x dx p as → Q (.ref x) H'
theorem ok_read {f C N fI fA fR fX : Addr} {fd fdA fdR fdX : FuncData} (F : FnM K "read" "Question.read" s_read f fd) (T : Tx K mg) (M : Mk K C fI) (GI : FnR P w K mg base (L2.CX P w) 4 fI (spInitR C N))
    (GA : FnOk P w K mg base CX0 2 fA fdA ["word"] spAow) (bA : Binds K fdA ["word"] []) (kA : PySem.W.keepIn K (.ref fA) = true) (gA : mg "atom_of_word" = some (.ref fA))
    (GR : FnOk P w K mg base CX0 3 fR fdR ["things"] spAre) (bR : Binds K fdR ["things"] []) (kR : PySem.W.keepIn K (.ref fR) = true) (gR : mg "are_atoms" = some (.ref fR))
    (GX : FnOk P w K mg base CX0 1 fX fdX ["atoms"] spText) (bX : Binds K fdX ["atoms"] []) (kX : PySem.W.keepIn K (.ref fX) = true) (gX : mg "text_of_atoms" = some (.ref fX)) :
    FnOk P w K mg base CX0 6 f fd ["cls", "text"] (spRead C) := by
  refine F.ok sc_read (fun vs H Q E h => ?_) (fun cdv A outer s H vs Q E hr h => ?_)
  · obtain ⟨as, rfl, _⟩ := h
    rfl
  · obtain ⟨as, rfl, gs, l1, l4, q⟩ := h
    have hr1 : Room 1 _ := hr.mono (by decide)
    have hr2 : Room 2 _ := hr.mono (by decide)
    have hr3 : Room 3 _ := hr.mono (by decide)
    refine ⟨_, PSs.nox (pss_cons (ps_if (pt_not (pt_val (pe_callB call_isi (by rfl) T.isi bIsi (pa_cons (pv 1) (pa_cons (pe_bltn (v := .ty "str") (by rfl) T.str bStr rfl) pa_nil))))) pss_never pss_nil)
      (pss_cons (ps_setLc (i := 2) (own := [("word", 3)]) (g := gName 3) (tt := tYes) (by rfl) sc_read.nd rfl rfl (sw_true rfl rfl rfl (by decide +kernel)) (pi_list (pe_split (pv 1) pe_str))
        (blkOk_by (own := [("word", 3)]) (N := ["cls", "text", "atoms", "word"]) (sc := defScope s_read) (by decide +kernel))
        (fun _ _ _ _ _ => pg_name (i := 3) sc_read.nd rfl (Or.inl rfl)) (fun _ _ _ _ _ => pts_nil) (fun _ _ _ _ _ => (pe_call GA hr2 rfl gA kA bA .nil pass0 (pa_cons (pv 3) pa_nil))))
      (pss_cons (ps_if (PW.pt (pw_or (pt_not (pt_val (pe_call GR hr3 rfl gR kR bR .nil pass0 (pa_cons (pv 2) pa_nil)))) (pw_or1 (pt_cmpR op_ne (pe_call GX hr1 rfl gX kX bX .nil pass0 (pa_cons (pv 2) pa_nil)) (pv 1) (nomark _))))) pss_never pss_nil)
      (pss_one (ps_ret (pe_clsStar (i := 0) M GI hr rfl (Or.inl rfl) passL (pv 2))))))), ?_⟩
    have tl := txt_len2 gs
    refine ⟨_, rfl, _, _, _, _, true, rfl, .ty _, .base (.str _), kit_ty (show kitB "str" "str" = some true by decide +kernel), _, rfl, iteF ?_⟩
    refine ⟨_, rfl, ⟨_, rfl⟩, _, _, rfl, rfl, by decide +kernel, Nat.le_trans (show (txt as).length + 2 ≤ 1000 by omega) (by decide), fun u hu => ?_⟩
    rw [split_txt gs (by intro z; rw [z] at l1; simp at l1)]
    refine ⟨u, rfl, ⟨_, .inl (.inl upd_same)⟩, fun D hD => ?_⟩
    have r0 : RpA (upd H u (.lst ((as.map atT).map V.str))) ((as.map atT).map V.str) ((as.map atT).map PyData.str) := rpa_strs _
    have s0 : Same H (upd H u (.lst ((as.map atT).map V.str))) := same_new hu
    refine lcL (F := decW) upd_same r0 (by rw [List.length_map, List.length_map]; omega) hD (fun x d H' Nx hm s1 hn rx c _ => ⟨rfl, ?_⟩) fun H1 acc s1 h1 h2 => ?_
    · obtain ⟨x1, hx1, rfl⟩ := List.mem_map.mp hm
      obtain ⟨a, ha, rfl⟩ := List.mem_map.mp hx1
      have ex := rx.isS rfl
      subst ex
      refine ⟨_, rfl, a, rfl, gs a ha, fun p hp => c _ _ _ (decW_at (gs a ha)) (same_new hp) (.tup ?_ (.cons (.str _) (.cons (.int _) (.cons (.int _) .nil))))⟩
      rw [off_ne (fun e => hn (by rw [← e]; exact hp)), upd_same]
    · rw [show keptD decW ((as.map atT).map PyData.str) = as.map atD from decW_map gs] at h2
      have s2 := s0.trans s1
      have rD : Rp H1 (.ref D) (.list (as.map atD)) := .lst h1 (h2.mono off_same)
      refine ⟨_, rfl, _, _, _, rfl, rD, .inr rfl, by rw [List.length_map]; omega, fun H2 s3 => ?_⟩
      rw [are_of gs l1 l4]
      refine ⟨_, rfl, iteF ⟨_, rfl, _, _, as, rfl, rD.mono s3, .inr rfl, by omega, gs, fun H3 s4 => ⟨_, rfl, rfl, _, rfl, iteNS rfl ?_⟩⟩⟩
      refine ⟨rfl, _, rfl, D, acc, rfl, .inr (.inl (.inl ((s3.trans s4) _ _ h1))), ?_⟩
      refine make_q (N := N) ((h2.mono off_same).mono (s3.trans s4)) (by rw [List.length_map]; omega) (fun z => ?_) fun bs e gb hA x dx p H' nx sx hq => ?_
      · rw [are_of gs l1 l4] at z
        cases z
      · have eb : bs = as := by
          first | exact atD_inj e | exact atD_inj e.symm
        subst eb
        exact q x dx p H' ((s2.trans (s3.trans s4)).free nx) ((s2.trans (s3.trans s4)).trans sx) hq
end
end Q

set_option maxHeartbeats 4000000
namespace Ca
open PySem PySem.Spec PyProof.Rows L2
/-- a def of the module under its name -/
structure Fd (P : Program) (w : World) (K : PySem.W.Frag) (mg : PySem.Str → Option Value) (base : Heap) (x : PySem.Str) (k : Nat) (ps : List PySem.Str) (sp : Sp) : Prop where
  ex : ∃ f fd, FnOk P w K mg base CX0 k f fd ps sp ∧ Binds K fd ps [] ∧ PySem.W.keepIn K (.ref f) = true ∧ mg x = some (.ref f)
/-- ascending, each once -/
def ins1 (n : Int) : List Int → List Int
  | [] => [n]
  | m :: l => if n < m then n :: m :: l else if n = m then m :: l else m :: ins1 n l
def sd (l : List Int) : List Int := l.foldr ins1 []
theorem ins1_mem {n k : Int} : ∀ {l : List Int}, k ∈ ins1 n l ↔ k = n ∨ k ∈ l
  | [] => by simp [ins1]
  | m :: l => by
    unfold ins1
    split
    · simp
    · split
      · rename_i h
        subst h
        simp
      · rw [List.mem_cons, ins1_mem (l := l), List.mem_cons]
        constructor
        · rintro (h | h | h)
          · exact .inr (.inl h)
          · exact .inl h
          · exact .inr (.inr h)
        · rintro (h | h | h)
          · exact .inr (.inl h)
          · exact .inl h
          · exact .inr (.inr h)
theorem sd_mem {k : Int} : ∀ {l : List Int}, k ∈ sd l ↔ k ∈ l
  | [] => by simp [sd]
  | n :: l => by
    show k ∈ ins1 n (sd l) ↔ _
    rw [ins1_mem, sd_mem (l := l), List.mem_cons]
theorem ins1_up {n : Int} : ∀ {l : List Int}, l.Pairwise (· < ·) → (ins1 n l).Pairwise (· < ·)
  | [], _ => by simp [ins1]
  | m :: l, h => by
    rw [List.pairwise_cons] at h
    unfold ins1
    split
    · rename_i c
      rw [List.pairwise_cons]
      refine ⟨fun k hk => ?_, List.pairwise_cons.mpr h⟩
      rcases List.mem_cons.mp hk with e | e
      · rw [e]; exact c
      · exact Int.lt_trans c (h.1 k e)
    · split
      · exact List.pairwise_cons.mpr h
      · rename_i c1 c2
        rw [List.pairwise_cons]
        refine ⟨fun k hk => ?_, ins1_up h.2⟩
        rcases ins1_mem.mp hk with e | e
        · rw [e]; omega
        · exact h.1 k e
theorem sd_up : ∀ l : List Int, (sd l).Pairwise (· < ·)
  | [] => .nil
  | n :: l => ins1_up (sd_up l)
theorem up_eq : ∀ {a b : List Int}, a.Pairwise (· < ·) → b.Pairwise (· < ·) → (∀ k, k ∈ a ↔ k ∈ b) → a = b
  | [], [], _, _, _ => rfl
  | [], m :: b, _, _, h => absurd ((h m).mpr (.head _)) (by simp)
  | n :: a, [], _, _, h => absurd ((h n).mp (.head _)) (by simp)
  | n :: a, m :: b, ha, hb, h => by
    rw [List.pairwise_cons] at ha hb
    have e : n = m := by
      rcases List.mem_cons.mp ((h n).mp (.head _)) with z | z
      · exact z
      · rcases List.mem_cons.mp ((h m).mpr (.head _)) with y | y
        · exact y.symm
        · have := ha.1 m y
          have := hb.1 n z
          omega
    subst e
    rw [up_eq ha.2 hb.2 fun k => ?_]
    constructor
    · intro hk
      rcases List.mem_cons.mp ((h k).mp (.tail _ hk)) with z | z
      · have := ha.1 k hk
        omega
      · exact z
    · intro hk
      rcases List.mem_cons.mp ((h k).mpr (.tail _ hk)) with z | z
      · have := hb.1 k hk
        omega
      · exact z
end Ca
namespace Q
open PySem PySem.Spec PyProof.Rows L2 Ca
/-! what is proved already, as promises over data -/
theorem ats_off {S : Addr → Bool} {H : Hp} (f : Fr S H) {as : List At} {xs : List V} (r : RpA H xs (as.map atD)) : RpA (offS S H) xs (as.map atD) :=
  by
  induction as generalizing xs with
  | nil => cases r; exact .nil
  | cons a as ih =>
    cases r with
    | cons h q =>
      obtain ⟨p, rfl, hp⟩ := at_of h
      exact .cons (.tup (by rw [offS_at (f.imm hp (by simp [MutO]))]; exact hp) (.cons (.str _) (.cons (.int _) (.cons (.int _) .nil)))) (ih q)
def RVars : List PyData → PyData → Prop := fun ds d => ∃ as : List At, (ds = [.tuple (as.map atD)] ∨ ds = [.list (as.map atD)]) ∧ as.length ≤ 30 ∧ d = .tuple ((sd (vars as)).map .int)
def RText : List PyData → PyData → Prop := fun ds d => ∃ as : List At, (ds = [.tuple (as.map atD)] ∨ ds = [.list (as.map atD)]) ∧ as.length ≤ 30 ∧ (∀ a ∈ as, Good a) ∧ d = .str (txt as)
def RAre : List PyData → PyData → Prop := fun ds d => ∃ es : List PyData, (ds = [.tuple es] ∨ ds = [.list es]) ∧ es.length ≤ 1000 ∧ d = .bool (areAt es)
section
variable {P : Program} {w : World} {K : PySem.W.Frag} {mg : PySem.Str → Option Value} {base : Heap}
theorem vars_imp : ∀ vs H Q E, spR RVars vs H Q E → spVars vs H Q E := by
  rintro vs H Q E ⟨S, ds, d, f, r, ⟨as, hd, hl, rfl⟩, q⟩
  have key : ∀ d0, ds = [d0] → (d0 = .tuple (as.map atD) ∨ d0 = .list (as.map atD)) → spVars vs H Q E := by
    intro d0 e h0
    subst e
    obtain ⟨v, rfl, rv⟩ := rpa1 r
    refine ⟨v, d0, as, rfl, rv.mono offS_same, h0, hl, fun p ns H' hp s h1 up hm => ?_⟩
    have e : ns = sd (vars as) := up_eq up (sd_up _) fun k => by rw [hm k, sd_mem]
    subst e
    exact q _ H' s (.tup (by rw [offS_at (f.new hp)]; exact h1) (rp_ints _))
  rcases hd with e | e
  · exact key _ e (.inl rfl)
  · exact key _ e (.inr rfl)
theorem text_imp : ∀ vs H Q E, spR RText vs H Q E → spText vs H Q E := by
  rintro vs H Q E ⟨S, ds, d, f, r, ⟨as, hd, hl, hg, rfl⟩, q⟩
  rcases hd with e | e
  all_goals
    subst e
    obtain ⟨v, rfl, rv⟩ := rpa1 r
    exact ⟨v, _, as, rfl, rv.mono offS_same, by first | exact .inl rfl | exact .inr rfl, hl, hg, fun H' s => q _ H' s (.str _)⟩
theorem are_imp : ∀ vs H Q E, spR RAre vs H Q E → spAre vs H Q E := by
  rintro vs H Q E ⟨S, ds, d, f, r, ⟨es, hd, hl, rfl⟩, q⟩
  rcases hd with e | e
  all_goals
    subst e
    obtain ⟨v, rfl, rv⟩ := rpa1 r
    exact ⟨v, _, es, rfl, rv.mono offS_same, by first | exact .inl rfl | exact .inr rfl, hl, fun H' s => q _ H' s (.bl _)⟩
end
end Q

set_option maxHeartbeats 4000000
namespace Q
open PySem PySem.Spec PyProof.Rows L2 Ca
/-! questions as values -/
def QV (C : Addr) (as : List At) (F : Hp) (v : V) : Prop := ∃ x dx p, v = .ref x ∧ IsQ F C x dx p as
theorem QV.mono {H H' : Hp} {C : Addr} {as : List At} {v : V} (s : Same H H') (h : QV C as H v) : QV C as H' v := by
  obtain ⟨x, dx, p, e, q⟩ := h
  exact ⟨x, dx, p, e, q.mono s⟩
theorem rp_at_off {S : Addr → Bool} {H : Hp} (f : Fr S H) {a : At} {v : V} (r : Rp H v (atD a)) : Rp (offS S H) v (atD a) := by
  obtain ⟨p, rfl, hp⟩ := at_of r
  exact .tup (by rw [offS_at (f.imm hp (by simp [MutO]))]; exact hp) (.cons (.str _) (.cons (.int _) (.cons (.int _) .nil)))
theorem IsQ.off {S : Addr → Bool} {H : Hp} {C x dx p : Addr} {as : List At} (f : Fr S H) (h : IsQ H C x dx p as) : IsQ (offS S H) C x dx p as := by
  obtain ⟨o, u, ns, h1, h2, h3, h4, bs, e1, e2, e3, e4⟩ := h.obj
  refine ⟨o, u, ns, ?_, ?_, h3, h4, bs, e1, ?_, ?_, fun b hb => ?_⟩
  · rw [offS_at (f.imm h1 (by simp [MutO]))]; exact h1
  · rw [offS_at (f.imm h2 (by simp [MutO]))]; exact h2
  · rw [offS_at (f.imm e2 (by simp [MutO]))]; exact e2
  · rw [offS_at (f.imm e3 (by simp [MutO]))]; exact e3
  · have m : b.2 ∈ as.map atD := by
      rw [← e1]
      exact List.mem_map.mpr ⟨b, hb, rfl⟩
    obtain ⟨a, _, ea⟩ := List.mem_map.mp m
    have r := e4 b hb
    rw [← ea] at r ⊢
    exact rp_at_off f r
theorem QV.off {S : Addr → Bool} {H : Hp} {C : Addr} {as : List At} {v : V} (f : Fr S H) (h : QV C as H v) : QV C as (offS S H) v := by
  obtain ⟨x, dx, p, e, q⟩ := h
  exact ⟨x, dx, p, e, q.off f⟩
/-- the promise of a def: I what its arguments are and what is true of its answer -/
def spQ (I : Hp → List V → (Hp → V → Prop) → Prop) : Sp := fun vs H Q _ => ∃ (S : Addr → Bool) (P : Hp → V → Prop), Fr S H ∧ I (offS S H) vs P ∧ ∀ v H', Same H H' → P (offS S H') v → Q v H'
theorem spQ_len {I : Hp → List V → (Hp → V → Prop) → Prop} {n : Nat} (h : ∀ F vs P, I F vs P → vs.length = n) : ∀ vs H Q E, spQ I vs H Q E → vs.length = n := fun vs H Q E ⟨S, P, f, i, _⟩ => h _ _ _ i
section
variable {K : PySem.W.Frag} {mg : PySem.Str → Option Value} {σ : L2.St} {F : Hp} {ta tb te : TE} {tas : TA} {C N : Addr} {as : List At} {P P0 : Hp → V → Prop} {E : XK} {I : Hp → List V → (Hp → V → Prop) → Prop}
theorem e_prop (h : EvP ta σ F P0) (hi : ∀ F v, P0 F v → I F [v] P ∧ ∃ a dx fs, v = .ref a ∧ F a = some (.ins C dx fs)) : EvP (tProp C (spQ I) [] E ta) σ F P := fun S H1 f s Q q =>
  h S H1 f s _ fun v H2 s2 p => by
    obtain ⟨i, a, dx, fs, rfl, ha⟩ := hi _ v p
    exact ⟨a, dx, fs, rfl, offS_same _ _ ha, S, P, f.mono s2, i, fun v H3 s3 p3 => q v H3 (s2.trans s3) p3⟩
theorem e_meth0 {m : PySem.Str} (h : EvP ta σ F P0) (hi : ∀ F v, P0 F v → I F [v] P ∧ ∃ a dx fs, v = .ref a ∧ F a = some (.ins C dx fs) ∧ fs.lookup m = none) : EvP (tMeth C m (spQ I) [] E ta tNil) σ F P := fun S H1 f s Q q =>
  h S H1 f s _ fun v H2 s2 p => by
    obtain ⟨i, a, dx, fs, rfl, ha, hm⟩ := hi _ v p
    exact ⟨a, dx, fs, rfl, offS_same _ _ ha, hm, S, P, f.mono s2, i, fun v H3 s3 p3 => q v H3 (s2.trans s3) p3⟩
theorem e_call1 (h : EvP ta σ F P0) (hi : ∀ F v, P0 F v → I F [v] P) : EvP (tCall (spQ I) [] E (tCons ta tNil)) σ F P := fun S H1 f s Q q =>
  h S H1 f s _ fun v H2 s2 p => ⟨S, P, f.mono s2, hi _ v p, fun v H3 s3 p3 => q v H3 (s2.trans s3) p3⟩
/-- the class's own attributes -/
theorem e_given (cl : Cls K C) (nG : NoAttr K C "given") (h : EvP ta σ F (QV C as)) : EvD (tFld K ta "given") σ F (.tuple (as.map atD)) := fun S H1 f s Q q =>
  h S H1 f s _ fun v H2 s2 p => by
    obtain ⟨x, dx, p, rfl, hq⟩ := p
    obtain ⟨o, u, ns, h1, _⟩ := hq.obj
    exact ⟨x, C, dx, _, _, rfl, offS_same _ _ h1, cl, nG, qf_given _ _ _, q _ H2 s2 hq.atoms⟩
/-- Question(*x), x a list of atoms -/
theorem e_glbStar (h : EvD te σ F (.list (as.map atD))) (g : ∀ a ∈ as, Good a) (l1 : 1 ≤ as.length) (l4 : as.length ≤ 4) : EvP (tGlbStar K C (spInitR C N) E te) σ F (QV C as) := fun S H1 f s Q q =>
  h S H1 f s _ fun v H2 s2 r => by
    obtain ⟨a, xs, rfl, ha, rx⟩ := rp_lst r
    refine ⟨a, xs, rfl, .inr (.inl (.inl ha)), make_q (N := N) (rx.mono offS_same) (by rw [List.length_map]; omega) (fun z => ?_) fun bs e gb hA x dx p H' nx sx hq => ?_⟩
    · rw [are_of g l1 l4] at z
      cases z
    · have eb : bs = as := by
        first | exact atD_inj e | exact atD_inj e.symm
      subst eb
      exact q _ H' (s2.trans sx) ⟨x, dx, p, rfl, hq.off ((f.mono s2).mono sx)⟩
end
def IRead (C : Addr) : Hp → List V → (Hp → V → Prop) → Prop := fun F vs P => ∃ as, vs = [.ref C, .str (txt as)] ∧ (∀ a ∈ as, Good a) ∧ 1 ≤ as.length ∧ as.length ≤ 4 ∧ P = QV C as
theorem read_imp {C : Addr} : ∀ vs H Q E, spQ (IRead C) vs H Q E → spRead C vs H Q E := by
  rintro vs H Q E ⟨S, P, f, ⟨as, rfl, g, l1, l4, rfl⟩, q⟩
  exact ⟨as, rfl, g, l1, l4, fun x dx p H' hx s hq => q _ H' s ⟨x, dx, p, rfl, hq.off (f.mono s)⟩⟩
end Q

set_option maxHeartbeats 4000000
namespace Ca
open PySem PySem.Spec PyProof.Rows L2
/-- data that are short when shown -/
structure Fit (d : PyData) (k n : Nat) : Prop where
  sh : d.showable = true
  dp : d.depth ≤ k
  ln : d.shown.length ≤ n
theorem Fit.mono {d : PyData} {k n k' n' : Nat} (h : Fit d k n) (hk : k ≤ k') (hn : n ≤ n') : Fit d k' n' := ⟨h.sh, Nat.le_trans h.dp hk, Nat.le_trans h.ln hn⟩
theorem fit_none : Fit .none 0 10 := ⟨by simp [PyData.showable], by simp [PyData.depth], by simp only [PyData.shown]; decide +kernel⟩
theorem fit_bool (b : Bool) : Fit (.bool b) 0 10 := ⟨by simp [PyData.showable], by simp [PyData.depth], by simp only [PyData.shown]; cases b <;> decide +kernel⟩
theorem fit_int {i : Int} (h : i.natAbs < 10 ^ 14) : Fit (.int i) 0 20 := by
  refine ⟨?_, by simp [PyData.depth], ?_⟩
  · have h1 : i.natAbs.log2 < 1920 := by
      by_cases z : i.natAbs = 0
      · rw [z]
        decide
      · rw [Nat.log2_lt z]
        exact Nat.lt_of_lt_of_le h (by decide +kernel)
    simpa [PyData.showable] using h1
  · have h2 := int_text_length_le10 (a := i) (k := 14) (by decide) h
    simp only [PyData.shown]
    show (PySem.Str.ofString (toString i)).length ≤ 20
    rw [PySem.ofString_length]
    omega
theorem fit_str {x : PySem.Str} {m : Nat} (hx : ∀ c ∈ x.cps.toList, c < 16 ^ 8) (hl : x.length ≤ m) : Fit (.str x) 0 (10 * m + 2) := by
  refine ⟨by simp [PyData.showable], by simp [PyData.depth], ?_⟩
  have := StrLaws.reprText_len x hx
  simp only [PyData.shown]
  omega
theorem all_sh : ∀ {ds : List PyData} {k n : Nat}, (∀ d ∈ ds, Fit d k n) → PyData.showableAll ds = true ∧ PyData.depthAll ds ≤ k ∧ ((PyData.shownAll ds).map (·.length)).sum ≤ ds.length * n
  | [], _, _, _ => by simp [PyData.showableAll, PyData.depthAll, PyData.shownAll]
  | d :: ds, k, n, h => by
    obtain ⟨h1, h2, h3⟩ := all_sh (ds := ds) fun e he => h e (.tail _ he)
    have f := h d (.head _)
    refine ⟨by simp [PyData.showableAll, f.sh, h1], ?_, ?_⟩
    · simp only [PyData.depthAll]
      have := f.dp
      omega
    · simp only [PyData.shownAll, List.map_cons, List.sum_cons, List.length_cons]
      have := f.ln
      rw [Nat.add_mul]
      omega
theorem shownAll_len (ds : List PyData) : (PyData.shownAll ds).length = ds.length := by
  rw [shownAll_eq_map, List.length_map]
theorem fit_list {ds : List PyData} {k n m : Nat} (h : ∀ d ∈ ds, Fit d k n) (hl : ds.length ≤ m) : Fit (.list ds) (k + 1) (m * (n + 2) + 3) := by
  obtain ⟨h1, h2, h3⟩ := all_sh h
  refine ⟨by simpa [PyData.showable] using h1, by simp only [PyData.depth]; omega, ?_⟩
  simp only [PyData.shown]
  have h4 := listText_len_le (PyData.shownAll ds)
  rw [shownAll_len] at h4
  have h5 : ds.length * (n + 2) ≤ m * (n + 2) := Nat.mul_le_mul_right _ hl
  rw [Nat.mul_add] at h5
  omega
theorem fit_tuple {ds : List PyData} {k n m : Nat} (h : ∀ d ∈ ds, Fit d k n) (hl : ds.length ≤ m) : Fit (.tuple ds) (k + 1) (m * (n + 2) + 3) := by
  obtain ⟨h1, h2, h3⟩ := all_sh h
  refine ⟨by simpa [PyData.showable] using h1, by simp only [PyData.depth]; omega, ?_⟩
  simp only [PyData.shown]
  have h4 := tupleText_len_le (PyData.shownAll ds)
  rw [shownAll_len] at h4
  have h5 : ds.length * (n + 2) ≤ m * (n + 2) := Nat.mul_le_mul_right _ hl
  rw [Nat.mul_add] at h5
  omega
theorem fit_dict0 : Fit (.dict []) 1 10 := ⟨by simp [PyData.showable, PyData.showableKv], by simp [PyData.depth, PyData.depthKv], by simp only [PyData.shown, PyData.shownKv]; decide +kernel⟩
end Ca
namespace Q
open PySem PySem.Spec PyProof.Rows L2 Ca
def Ascii (x : PySem.Str) : Prop := ∀ c ∈ x.cps.toList, c < 16 ^ 8
theorem kind_is {k : PySem.Str} (h : kindOk k = true) : k = "A" ∨ k = "B" ∨ k = "C" := by
  unfold kindOk inV at h
  rw [List.any_eq_true] at h
  obtain ⟨y, hy, e⟩ := h
  rcases List.mem_cons.mp hy with z | hy
  · subst z
    exact .inl (by simpa [eqV] using (Eq.symm (by simpa [eqV] using e)))
  · rcases List.mem_cons.mp hy with z | hy
    · subst z
      exact .inr (.inl (by simpa [eqV] using (Eq.symm (by simpa [eqV] using e))))
    · rcases List.mem_cons.mp hy with z | hy
      · subst z
        exact .inr (.inr (by simpa [eqV] using (Eq.symm (by simpa [eqV] using e))))
      · cases hy
theorem ascii_ofs {x : PySem.Str} (h : x.cps.toList.all (fun c => decide (c < 16 ^ 8)) = true) : Ascii x := fun c hc => of_decide_eq_true (List.all_eq_true.mp h c hc)
theorem ascii_kind {k : PySem.Str} (h : kindOk k = true) : Ascii k := by
  rcases kind_is h with z | z | z <;> subst z <;> exact ascii_ofs (by decide +kernel)
theorem ascii_dig {i : Int} (h0 : 0 ≤ i) (h9 : i ≤ 9) : Ascii (PySem.Str.ofString (toString i)) := by
  obtain ⟨n, rfl⟩ := Int.eq_ofNat_of_zero_le h0
  have h : ∀ n : Nat, n < 10 → (PySem.Str.ofString (toString ((n : Nat) : Int))).cps.toList.all (fun c => decide (c < 16 ^ 8)) = true := by decide +kernel
  exact ascii_ofs (h n (by omega))
theorem ascii_app {x y : PySem.Str} (hx : Ascii x) (hy : Ascii y) : Ascii (x ++ y) := fun c hc => by
  have e : (x ++ y).cps.toList = x.cps.toList ++ y.cps.toList := TL.tl_append x y
  rw [e] at hc
  rcases List.mem_append.mp hc with z | z
  · exact hx c z
  · exact hy c z
theorem ascii_atT {a : At} (g : Good a) : Ascii (atT a) := ascii_app (ascii_app (ascii_kind g.k) (ascii_dig g.l0 g.l9)) (ascii_dig g.r0 g.r9)
theorem ascii_join {s : PySem.Str} (hs : Ascii s) : ∀ {l : List PySem.Str}, (∀ x ∈ l, Ascii x) → Ascii (PySem.Str.join s l)
  | [], _ => fun c hc => by
    have e : (PySem.Str.join s []).cps.toList = [] := TL.tl_join s []
    rw [e] at hc
    cases hc
  | [x], h => fun c hc => by
    have e : (PySem.Str.join s [x]).cps.toList = x.cps.toList := TL.tl_join s [x]
    rw [e] at hc
    exact h x (.head _) c hc
  | x :: y :: r, h => by
    have e : PySem.Str.join s (x :: y :: r) = x ++ s ++ PySem.Str.join s (y :: r) := rfl
    rw [e]
    exact ascii_app (ascii_app (h x (.head _)) hs) (ascii_join hs fun z hz => h z (.tail _ hz))
theorem ascii_txt {as : List At} (h : ∀ a ∈ as, Good a) : Ascii (txt as) := by
  unfold txt
  rw [TL.join_eq]
  refine ascii_join (s := " ") (ascii_ofs (by decide +kernel)) fun x hx => ?_
  obtain ⟨a, ha, rfl⟩ := List.mem_map.mp hx
  exact ascii_atT (h a ha)
theorem txt_len {as : List At} (h : ∀ a ∈ as, Good a) : (txt as).length ≤ 4 * as.length := by
  have z := StrLaws.join_length_le " " (as.map atT)
  rw [sum_len h, List.length_map] at z
  have e1 : (PySem.Str.ofString " ").length = 1 := by decide +kernel
  rw [e1] at z
  unfold txt
  rw [TL.join_eq]
  omega
theorem fit_at {a : At} (g : Good a) : Fit (atD a) 1 100 := by
  refine (fit_tuple (k := 0) (n := 20) (m := 3) (fun d hd => ?_) (Nat.le_refl _)).mono (Nat.le_refl _) (by omega)
  have := g.l0
  have := g.l9
  have := g.r0
  have := g.r9
  rcases List.mem_cons.mp hd with z | hd
  · subst z
    exact (fit_str (ascii_kind g.k) (Nat.le_of_eq (kind_len g.k))).mono (Nat.le_refl _) (by omega)
  · rcases List.mem_cons.mp hd with z | hd
    · subst z
      exact fit_int (by omega)
    · rcases List.mem_cons.mp hd with z | hd
      · subst z
        exact fit_int (by omega)
      · cases hd
end Q

set_option maxHeartbeats 4000000
/-! what is read off the top: facts (as Bools of the written part) and defs (found by an address of one's own) -/
namespace Ca
open PySem PySem.Spec PyProof.Rows L2 He
structure DfX where
  at_ : PySem.W.Frag → Addr
  name : PySem.Str
  qual : PySem.Str
  st : Stmt
abbrev DfX.see (d : DfX) (K : PySem.W.Frag) : FnW := match K.lookup (d.at_ K) with
  | some ⟨_, _, .func fd, _⟩ => some (fd.name, fd.qualname, fd.params, fd.body, fd.scope, fd.globals, fd.closure, fd.builtins)
  | _ => none
def DfX.due (d : DfX) : FnW := some (d.name, d.qual, defArgs d.st, .stmts (defBody d.st), defScope d.st, mainGlobals, [], builtinsNs)
def DfX.ok (d : DfX) (K : PySem.W.Frag) : Bool := PySem.W.keepIn K (.ref (d.at_ K)) && (match K.lookup (d.at_ K) with
  | some ⟨_, _, .func fd, _⟩ => PySem.W.codeIn K fd.code d.qual && dflB K fd.defaults []
  | _ => false)
theorem DfX.fun_ {d : DfX} {K : PySem.W.Frag} (e : d.see K = d.due) (c : d.ok K = true) : ∃ fd, FunD K d.name d.qual (defArgs d.st) (defBody d.st) (defScope d.st) [] [] (d.at_ K) fd := by
  obtain ⟨kp, c⟩ := ba c
  unfold DfX.see at e
  cases q : K.lookup (d.at_ K) with
  | none =>
    rw [q] at c
    cases c
  | some o =>
    obtain ⟨oc, od, dt, sl⟩ := o
    rw [q] at c e
    cases dt with
    | func fd =>
      obtain ⟨y1, y2, y3, y4, y5, y6, y7, y8, y9, y10, y11, y12, y13, y14, y15⟩ := fd
      unfold DfX.due at e
      have e1 := Option.some.inj e
      simp only [Prod.mk.injEq] at e1
      obtain ⟨z1, z2, z3, z4, z5, z6, z7, z8⟩ := e1
      subst z1 z2 z3 z4 z5 z6 z7 z8
      obtain ⟨k1, k2⟩ := ba c
      exact ⟨_, ⟨oc, od, y8, y9, y10, y11, y12, y13, y14, sl, rfl, q, k1, dflB_ok k2, .inl rfl⟩, kp⟩
    | _ => cases c
abbrev AlX : Type := Bool × List FnW
def seeX (fs : List (PySem.W.Frag → Bool)) (fn : List DfX) (K : PySem.W.Frag) : AlX := (fs.all (fun f => f K) && fn.all (fun d => d.ok K), fn.map fun d => d.see K)
def dueX (fn : List DfX) : AlX := (true, fn.map DfX.due)
def SaysX (fs : List (PySem.W.Frag → Bool)) (fn : List DfX) (K : PySem.W.Frag) : Prop := seeX fs fn K = dueX fn
def seeG (n : Nat) (fs : List (PySem.W.Frag → Bool)) (fn : List DfX) (g : Addr → Option Obj) : AlX := seeX fs fn (frG g (sysModules :: asD g n))
def hookX (n : Nat) (fs : List (PySem.W.Frag → Bool)) (fn : List DfX) : PySem.W.Hook where
  α := AlX
  obs := fun s => seeG n fs fn s.heap.get?
  val := fun _ => dueX fn
  says := fun _ h => ∃ K : PySem.W.Frag, K.In h ∧ SaysX fs fn K
  of := fun _ _ e => ⟨_, frG_in, e⟩
  keeps := fun _ _ _ ⟨K, hK, c⟩ k => ⟨K, PySem.W.Frag.In.keeps hK k, c⟩
theorem seeG_eq {n : Nat} {fs : List (PySem.W.Frag → Bool)} {fn : List DfX} {g : Addr → Option Obj} {s : Shared} (h : ∀ a, g a = s.heap.get? a) : seeG n fs fn g = (hookX n fs fn).obs s := by
  obtain rfl : g = s.heap.get? := funext h
  rfl
section
variable {fs : List (PySem.W.Frag → Bool)} {fn : List DfX} {K : PySem.W.Frag}
theorem SaysX.fact (c : SaysX fs fn K) (i : Nat) {f : PySem.W.Frag → Bool} (h : fs[i]? = some f := by rfl) : f K = true := by
  have z := congrArg (fun y : AlX => y.1) c
  exact List.all_eq_true.mp (ba z).1 f (List.mem_of_getElem? h)
theorem SaysX.def_ (c : SaysX fs fn K) (i : Nat) {d : DfX} (h : fn[i]? = some d := by rfl) : ∃ fd, FunD K d.name d.qual (defArgs d.st) (defBody d.st) (defScope d.st) [] [] (d.at_ K) fd := by
  have z1 := congrArg (fun y : AlX => y.1) c
  have z2 : fn.map (fun d => d.see K) = fn.map DfX.due := congrArg (fun y : AlX => y.2) c
  have z3 : (fn.map fun d => d.see K)[i]? = (fn.map DfX.due)[i]? := by rw [z2]
  rw [List.getElem?_map, List.getElem?_map, h] at z3
  exact DfX.fun_ (Option.some.inj z3) (List.all_eq_true.mp (ba z1).2 d (List.mem_of_getElem? h))
end
/-- the getter of a property of a class -/
def propG (K : PySem.W.Frag) (p : Addr) : Addr := match PySem.W.recIn K p "property" with
  | some (.ref g :: _) => g
  | _ => 0
def propB (x m : PySem.Str) (K : PySem.W.Frag) : Bool :=
  eqO (PySem.W.findIn K (.ref (ga K x)) m) (some (some (.ref (ma K (ga K x) m)))) && (eqO (PySem.W.specialIn K (.ref (ma K (ga K x) m)) "__get__") (some (some (.builtin "property.__get__"))) &&
    (decide (PySem.W.takesIn K (.ref (ma K (ga K x) m)) = some true) && (match PySem.W.recIn K (ma K (ga K x) m) "property" with
      | some (.ref _ :: _) => true
      | _ => false)))
theorem prop_ok {x m : PySem.Str} {K : PySem.W.Frag} (h : propB x m K = true) : PropOf K (ga K x) m (ma K (ga K x) m) (propG K (ma K (ga K x) m)) := by
  obtain ⟨h1, h⟩ := ba h
  obtain ⟨h2, h⟩ := ba h
  obtain ⟨h3, h4⟩ := ba h
  refine ⟨eqO_ok h1, eqO_ok h2, of_decide_eq_true h3, ?_⟩
  unfold propG
  cases q : PySem.W.recIn K (ma K (ga K x) m) "property" with
  | none =>
    rw [q] at h4
    cases h4
  | some l =>
    rw [q] at h4
    cases l with
    | nil => cases h4
    | cons v l =>
      cases v with
      | ref g => exact ⟨l, rfl⟩
      | _ => cases h4
end Ca

set_option maxHeartbeats 4000000
namespace Ca
open PySem PySem.Spec PyProof.Rows L2 He
/-- a class read by its name, its classmethods -/
def cmP (K : PySem.W.Frag) (x m : PySem.Str) : Addr := match PySem.W.findCls K (.ref (ga K x)) (.type "type") m with
  | some (.get _ (.ref p) _ _) => p
  | _ => 0
def cmG (K : PySem.W.Frag) (x m : PySem.Str) : Addr := match PySem.W.recIn K (cmP K x m) "classmethod" with
  | some (.ref g :: _) => g
  | _ => 0
def cmB (x m : PySem.Str) (K : PySem.W.Frag) : Bool :=
  (match PySem.W.findCls K (.ref (ga K x)) (.type "type") m with
    | some (.get (.builtin s) (.ref _) .none (.ref c)) => decide (s = "classmethod.__get__") && decide (c = ga K x)
    | _ => false) && ((match PySem.W.recIn K (cmP K x m) "classmethod" with
    | some (.ref _ :: _) => true
    | _ => false) && PySem.W.fnIn K (cmG K x m))
theorem cm_ok {x m : PySem.Str} {K : PySem.W.Frag} (h : cmB x m K = true) : ClX.CMet K (ga K x) (.type "type") m (cmP K x m) (cmG K x m) := by
  unfold cmB at h
  obtain ⟨h1, h⟩ := ba h
  obtain ⟨h2, h3⟩ := ba h
  refine ⟨?_, ?_, h3⟩
  · have e : ∃ p, PySem.W.findCls K (.ref (ga K x)) (.type "type") m = some (.get (.builtin "classmethod.__get__") (.ref p) .none (.ref (ga K x))) ∧ cmP K x m = p := by
      unfold cmP
      split at h1
      · rename_i s p c q
        obtain ⟨a1, a2⟩ := ba h1
        have a1 := of_decide_eq_true a1
        have a2 := of_decide_eq_true a2
        subst a1 a2
        exact ⟨p, q, by rw [q]⟩
      · cases h1
    obtain ⟨p, e1, e2⟩ := e
    rw [e2]
    exact e1
  · unfold cmG
    split at h2
    · rename_i g l q
      exact ⟨l, by rw [q]⟩
    · cases h2
def crB (x : PySem.Str) (K : PySem.W.Frag) : Bool := PySem.W.readsIn K (ga K x) (.type "type") && eqO (PySem.W.specialIn K (.ref (ga K x)) "__getattribute__") (some (some (.builtin "type.__getattribute__")))
theorem cr_ok {x : PySem.Str} {K : PySem.W.Frag} (h : crB x K = true) : ClX.CRead K (ga K x) (.type "type") := by
  obtain ⟨h1, h2⟩ := ba h
  exact ⟨h1, eqO_ok h2⟩
def seeY (n : Nat) (fs : List (PySem.W.Frag → Bool)) (fn : List DfX) (g : Addr → Option Obj) : AlX := seeX fs fn (frG g (cStatics :: sysModules :: asD g n))
def hookY (n : Nat) (fs : List (PySem.W.Frag → Bool)) (fn : List DfX) : PySem.W.Hook where
  α := AlX
  obs := fun s => seeY n fs fn s.heap.get?
  val := fun _ => dueX fn
  says := fun _ h => ∃ K : PySem.W.Frag, K.In h ∧ SaysX fs fn K
  of := fun _ _ e => ⟨_, frG_in, e⟩
  keeps := fun _ _ _ ⟨K, hK, c⟩ k => ⟨K, PySem.W.Frag.In.keeps hK k, c⟩
theorem seeY_eq {n : Nat} {fs : List (PySem.W.Frag → Bool)} {fn : List DfX} {g : Addr → Option Obj} {s : Shared} (h : ∀ a, g a = s.heap.get? a) : seeY n fs fn g = (hookY n fs fn).obs s := by
  obtain rfl : g = s.heap.get? := funext h
  rfl
end Ca

namespace Q
/-! numbering, orders: mathematics -/
def fo : List Int → List Int → List Int
  | acc, [] => acc
  | acc, x :: l => if acc.contains x then fo acc l else fo (acc ++ [x]) l
theorem fo_app : ∀ (l m acc : List Int), fo acc (l ++ m) = fo (fo acc l) m
  | [], m, acc => rfl
  | x :: l, m, acc => by
    show (if acc.contains x then fo acc (l ++ m) else fo (acc ++ [x]) (l ++ m)) = fo (if acc.contains x then fo acc l else fo (acc ++ [x]) l) m
    split
    · exact fo_app l m acc
    · exact fo_app l m _
theorem fo_pre : ∀ (l acc : List Int), ∃ t, fo acc l = acc ++ t
  | [], acc => ⟨[], by simp [fo]⟩
  | x :: l, acc => by
    unfold fo
    split
    · exact fo_pre l acc
    · obtain ⟨t, e⟩ := fo_pre l (acc ++ [x])
      exact ⟨x :: t, by rw [e]; simp⟩
theorem fo_mem : ∀ (l acc : List Int) (k : Int), k ∈ fo acc l ↔ k ∈ acc ∨ k ∈ l
  | [], acc, k => by simp [fo]
  | x :: l, acc, k => by
    unfold fo
    split
    · rename_i h
      rw [fo_mem l acc k, List.mem_cons]
      constructor
      · rintro (z | z)
        · exact .inl z
        · exact .inr (.inr z)
      · rintro (z | z | z)
        · exact .inl z
        · subst z
          exact .inl (List.contains_iff_mem.mp h)
        · exact .inr z
    · rw [fo_mem l _ k, List.mem_append, List.mem_singleton, List.mem_cons]
      constructor
      · rintro ((z | z) | z)
        · exact .inl z
        · exact .inr (.inl z)
        · exact .inr (.inr z)
      · rintro (z | z | z)
        · exact .inl (.inl z)
        · exact .inl (.inr z)
        · exact .inr z
theorem fo_len : ∀ (l acc : List Int), (fo acc l).length ≤ acc.length + l.length
  | [], acc => by simp [fo]
  | x :: l, acc => by
    unfold fo
    split
    · have := fo_len l acc
      simp only [List.length_cons]
      omega
    · have := fo_len l (acc ++ [x])
      simp only [List.length_append, List.length_cons, List.length_nil] at this ⊢
      omega
theorem fo_map (f : Int → Int) : ∀ (l acc : List Int), (∀ x ∈ acc ++ l, ∀ y ∈ acc ++ l, f x = f y → x = y) → fo (acc.map f) (l.map f) = (fo acc l).map f
  | [], acc, _ => rfl
  | x :: l, acc, h => by
    have e : (acc.map f).contains (f x) = acc.contains x := by
      rw [Bool.eq_iff_iff, List.contains_iff_mem, List.contains_iff_mem, List.mem_map]
      constructor
      · rintro ⟨y, hy, ey⟩
        have := h y (by simp [hy]) x (by simp) ey
        rw [← this]
        exact hy
      · intro z
        exact ⟨x, z, rfl⟩
    show (if (acc.map f).contains (f x) then fo (acc.map f) (l.map f) else fo (acc.map f ++ [f x]) (l.map f)) = (if acc.contains x then fo acc l else fo (acc ++ [x]) l).map f
    rw [e]
    split
    · refine fo_map f l acc fun a ha b hb => h a ?_ b ?_
      · rcases List.mem_append.mp ha with z | z
        · exact List.mem_append_left _ z
        · exact List.mem_append_right _ (.tail _ z)
      · rcases List.mem_append.mp hb with z | z
        · exact List.mem_append_left _ z
        · exact List.mem_append_right _ (.tail _ z)
    · have := fo_map f l (acc ++ [x]) (by simpa using h)
      rw [List.map_append] at this
      exact this
def idx (kn : List Int) (x : Int) : Int := ((kn.idxOf x : Nat) : Int)
theorem idx_app {kn : List Int} {x : Int} (h : x ∈ kn) (t : List Int) : idx (kn ++ t) x = idx kn x := by
  unfold idx
  rw [List.idxOf_append, if_pos h]
theorem idx_map (f : Int → Int) : ∀ (kn : List Int) (x : Int), (∀ y ∈ kn, f y = f x → y = x) → idx (kn.map f) (f x) = idx kn x
  | [], x, _ => rfl
  | y :: kn, x, h => by
    have ih := idx_map f kn x fun z hz => h z (.tail _ hz)
    unfold idx at ih ⊢
    rw [List.map_cons, List.idxOf_cons, List.idxOf_cons]
    have e : (f y == f x) = (y == x) := by
      rw [Bool.eq_iff_iff, beq_iff_eq, beq_iff_eq]
      exact ⟨h y (.head _), fun z => by rw [z]⟩
    rw [e]
    cases hb : (y == x) with
    | true => rfl
    | false =>
      simp only [cond_false]
      have : (List.map f kn).idxOf (f x) = kn.idxOf x := by omega
      rw [this]
def numA (kn : List Int) (a : At) : At := ⟨a.k, idx kn a.l, idx kn a.r⟩
def num (as : List At) : List At := as.map (numA (fo [] (vars as)))
/-- numbered as they come -/
def cnt1 : List Int → List At → List At
  | _, [] => []
  | kn, a :: as => numA (fo kn [a.l, a.r]) a :: cnt1 (fo kn [a.l, a.r]) as
theorem cnt1_eq : ∀ (as : List At) (kn : List Int), cnt1 kn as = as.map (numA (fo kn (vars as)))
  | [], kn => rfl
  | a :: as, kn => by
    have ev : vars (a :: as) = [a.l, a.r] ++ vars as := rfl
    rw [List.map_cons, ev, fo_app]
    show numA (fo kn [a.l, a.r]) a :: cnt1 (fo kn [a.l, a.r]) as = _
    rw [cnt1_eq as (fo kn [a.l, a.r])]
    congr 1
    obtain ⟨t, e⟩ := fo_pre (vars as) (fo kn [a.l, a.r])
    rw [e]
    unfold numA
    rw [idx_app ((fo_mem _ _ _).mpr (.inr (by simp))), idx_app ((fo_mem _ _ _).mpr (.inr (by simp)))]
theorem cnt1_num (as : List At) : cnt1 [] as = num as := cnt1_eq as []
theorem mem_vars {as : List At} {k : Int} : k ∈ vars as ↔ ∃ a ∈ as, k = a.l ∨ k = a.r := by
  unfold vars
  rw [List.mem_flatMap]
  simp
theorem idx_bd {kn : List Int} {x : Int} (h : x ∈ kn) : 0 ≤ idx kn x ∧ idx kn x < kn.length := by
  unfold idx
  have := List.idxOf_lt_length_of_mem h
  omega
def rnm (f : Int → Int) (a : At) : At := ⟨a.k, f a.l, f a.r⟩
theorem vars_rnm (f : Int → Int) : ∀ as : List At, vars (as.map (rnm f)) = (vars as).map f
  | [] => rfl
  | a :: as => by
    show [f a.l, f a.r] ++ vars (as.map (rnm f)) = ([a.l, a.r] ++ vars as).map f
    rw [vars_rnm f as, List.map_append]
    rfl
theorem num_rnm (f : Int → Int) (as : List At) (h : ∀ x ∈ vars as, ∀ y ∈ vars as, f x = f y → x = y) : num (as.map (rnm f)) = num as := by
  unfold num
  rw [vars_rnm, List.map_map]
  have e : fo [] ((vars as).map f) = (fo [] (vars as)).map f := fo_map f (vars as) [] (by simpa using h)
  rw [e]
  refine List.map_congr_left fun a ha => ?_
  have hl : a.l ∈ vars as := mem_vars.mpr ⟨a, ha, .inl rfl⟩
  have hr : a.r ∈ vars as := mem_vars.mpr ⟨a, ha, .inr rfl⟩
  show (⟨a.k, idx _ (f a.l), idx _ (f a.r)⟩ : At) = ⟨a.k, idx _ a.l, idx _ a.r⟩
  rw [idx_map f _ a.l fun y hy z => h y (by simpa using (fo_mem _ _ _).mp hy) a.l hl z, idx_map f _ a.r fun y hy z => h y (by simpa using (fo_mem _ _ _).mp hy) a.r hr z]
/-! orders -/
section
variable {α : Type}
def insAll (a : α) (ps : List (List α)) : List (List α) := ps.flatMap fun o => (List.range (o.length + 1)).map fun i => o.take i ++ [a] ++ o.drop i
def ords : List (List α) → List α → List (List α)
  | ps, [] => ps
  | ps, a :: as => ords (insAll a ps) as
theorem ords_snoc : ∀ (as : List α) (ps : List (List α)) (a : α), ords ps (as ++ [a]) = insAll a (ords ps as)
  | [], ps, a => rfl
  | b :: as, ps, a => ords_snoc as (insAll b ps) a
theorem mem_insAll {a : α} {ps : List (List α)} {p : List α} : p ∈ insAll a ps ↔ ∃ s t, s ++ t ∈ ps ∧ p = s ++ a :: t := by
  unfold insAll
  rw [List.mem_flatMap]
  constructor
  · rintro ⟨o, ho, h⟩
    obtain ⟨i, hi, rfl⟩ := List.mem_map.mp h
    exact ⟨o.take i, o.drop i, by rw [List.take_append_drop]; exact ho, by simp⟩
  · rintro ⟨s, t, h, rfl⟩
    refine ⟨s ++ t, h, List.mem_map.mpr ⟨s.length, List.mem_range.mpr (by simp; omega), ?_⟩⟩
    simp
theorem ords_mem : ∀ (n : Nat) (as : List α), as.length = n → ∀ p, p ∈ ords [[]] as ↔ p.Perm as
  | 0, as, h, p => by
    have : as = [] := List.eq_nil_of_length_eq_zero h
    subst this
    simp [ords, List.perm_nil]
  | n + 1, as, h, p => by
    have hne : as ≠ [] := fun z => by rw [z] at h; cases h
    obtain ⟨bs, b, rfl⟩ : ∃ bs b, as = bs ++ [b] := ⟨as.dropLast, as.getLast hne, (List.dropLast_concat_getLast hne).symm⟩
    have hb : bs.length = n := by simpa using h
    rw [ords_snoc, mem_insAll]
    constructor
    · rintro ⟨s, t, hs, rfl⟩
      have := (ords_mem n bs hb _).mp hs
      exact (List.perm_middle.trans (this.cons b)).trans (List.perm_append_singleton b bs).symm
    · intro hp
      have hm : b ∈ p := hp.symm.subset (by simp)
      obtain ⟨s, t, rfl⟩ := List.append_of_mem hm
      refine ⟨s, t, (ords_mem n bs hb _).mpr ?_, rfl⟩
      have h1 : (b :: (s ++ t)).Perm (b :: bs) := List.perm_middle.symm.trans (hp.trans (List.perm_append_singleton b bs))
      exact (List.perm_cons b).mp h1
theorem ords_len : ∀ (as : List α) (ps : List (List α)) (k : Nat), (∀ p ∈ ps, p.length = k) → (∀ p ∈ ords ps as, p.length = k + as.length)
  | [], ps, k, h => by simpa [ords] using h
  | a :: as, ps, k, h => by
    intro p hp
    have := ords_len as (insAll a ps) (k + 1) (fun q hq => by
      obtain ⟨s, t, hs, rfl⟩ := mem_insAll.mp hq
      have := h _ hs
      simp only [List.length_append, List.length_cons] at this ⊢
      omega) p hp
    simp only [List.length_cons]
    omega
end
end Q
namespace Q
section
variable {α : Type}
/-- the orders as the law finds them -/
def ord2 : Nat → List α → List (List α)
  | 0, _ => [[]]
  | n + 1, as => (List.range as.length).flatMap fun i => match as[i]? with
    | some a => (ord2 n (as.take i ++ as.drop (i + 1))).map (a :: ·)
    | none => []
theorem ord2_mem : ∀ (n : Nat) (as : List α), as.length = n → ∀ p, p ∈ ord2 n as ↔ p.Perm as
  | 0, as, h, p => by
    have : as = [] := List.eq_nil_of_length_eq_zero h
    subst this
    simp [ord2, List.perm_nil]
  | n + 1, as, h, p => by
    unfold ord2
    rw [List.mem_flatMap]
    have hl : ∀ i, i < as.length → (as.take i ++ as.drop (i + 1)).length = n := fun i hi => by
      rw [List.length_append, List.length_take, List.length_drop]
      omega
    have hs : ∀ i (hi : i < as.length), as = as.take i ++ as[i] :: as.drop (i + 1) := fun i hi => by
      rw [← List.drop_eq_getElem_cons hi, List.take_append_drop]
    constructor
    · rintro ⟨i, hi, hp⟩
      have hi := List.mem_range.mp hi
      rw [List.getElem?_eq_getElem hi] at hp
      obtain ⟨q, hq, rfl⟩ := List.mem_map.mp hp
      have := (ord2_mem n _ (hl i hi) q).mp hq
      have h2 : as.Perm (as[i] :: (as.take i ++ as.drop (i + 1))) := by
        conv => lhs; rw [hs i hi]
        exact List.perm_middle
      exact (this.cons _).trans h2.symm
    · intro hp
      cases p with
      | nil =>
        have := hp.length_eq
        rw [h] at this
        cases this
      | cons x q =>
        have hm : x ∈ as := hp.subset (.head _)
        obtain ⟨i, hi, e⟩ := List.getElem_of_mem hm
        refine ⟨i, List.mem_range.mpr hi, ?_⟩
        rw [List.getElem?_eq_getElem hi]
        refine List.mem_map.mpr ⟨q, (ord2_mem n _ (hl i hi) q).mpr ?_, by rw [e]⟩
        have h2 : as.Perm (x :: (as.take i ++ as.drop (i + 1))) := by
          conv => lhs; rw [hs i hi]
          rw [e]
          exact List.perm_middle
        exact (List.perm_cons x).mp (hp.trans h2)
theorem flatMap_len {β : Type} {f : α → List β} {c : Nat} : ∀ {l : List α}, (∀ x ∈ l, (f x).length ≤ c) → (l.flatMap f).length ≤ l.length * c
  | [], _ => by simp
  | x :: l, h => by
    have h1 := h x (.head _)
    have h2 := flatMap_len (l := l) fun y hy => h y (.tail _ hy)
    rw [List.flatMap_cons, List.length_append, List.length_cons, Nat.add_mul]
    omega
end
end Q

set_option maxHeartbeats 4000000
namespace Q
open PySem PySem.Spec PyProof.Rows L2 Ca
abbrev lD (as : List At) : PyData := .tuple (as.map atD)
theorem str_ext {x y : PySem.Str} (h : x.cps.toList = y.cps.toList) : x = y := by
  cases x; cases y
  simp only at h
  rw [Array.toList_inj.mp h]
theorem toks_inj : ∀ {as bs : List At}, PySem.W.keyToksAll (as.map atD) = PySem.W.keyToksAll (bs.map atD) → as = bs
  | [], [], _ => rfl
  | [], b :: bs, h => by
    simp [PySem.W.keyToksAll] at h
  | a :: as, [], h => by
    simp [PySem.W.keyToksAll] at h
  | a :: as, b :: bs, h => by
    obtain ⟨k, l, r⟩ := a
    obtain ⟨k', l', r'⟩ := b
    simp only [List.map_cons, PySem.W.keyToksAll, atD, PySem.W.keyToks, List.cons_append, List.nil_append, List.cons.injEq, Sum.inl.injEq, Sum.inr.injEq, true_and] at h
    obtain ⟨h1, h2, h3, h4⟩ := h
    rw [str_ext h1, h2, h3, toks_inj h4]
/-- m is the least of the data of these -/
def Least (l : List (List At)) (m : List At) : Prop := m ∈ l ∧ ∀ p ∈ l, PySem.W.dataLt (lD p) (lD m) = false
theorem least_one {l l' : List (List At)} {m m' : List At} (h : Least l m) (h' : Least l' m') (hl : ∀ p, p ∈ l ↔ p ∈ l') : m = m' := by
  have a := h.2 m' ((hl m').mpr h'.1)
  have b := h'.2 m ((hl m).mp h.1)
  have e := PyProof.Rows.lex_total (O := itemOrd) _ _ a b
  have e2 : PySem.W.keyToksAll (m'.map atD) = PySem.W.keyToksAll (m.map atD) := e
  exact (toks_inj e2).symm
theorem minD_least : ∀ (ps : List (List At)) (p : List At), ∃ m, PySem.W.minD (lD p) (ps.map lD) = lD m ∧ Least (p :: ps) m
  | [], p => ⟨p, rfl, .head _, fun q hq => by
      rcases List.mem_cons.mp hq with e | e
      · rw [e]; exact PyProof.Rows.lex_irrefl _
      · cases e⟩
  | q :: ps, p => by
    show ∃ m, (ps.map lD).foldl (fun a y => if PySem.W.dataLt y a then y else a) (if PySem.W.dataLt (lD q) (lD p) then lD q else lD p) = lD m ∧ _
    cases h : PySem.W.dataLt (lD q) (lD p) with
    | true =>
      obtain ⟨m, e, l1, l2⟩ := minD_least ps q
      refine ⟨m, e, .tail _ l1, fun r hr => ?_⟩
      rcases List.mem_cons.mp hr with z | z
      · subst z
        have lq := l2 q (.head _)
        cases hh : PySem.W.dataLt (lD r) (lD m) with
        | false => rfl
        | true =>
          have := PyProof.Rows.lex_trans (O := itemOrd) _ _ _ h hh
          have lq2 : PyProof.Rows.lexLt itemOrd (PySem.W.keyToks (lD q)) (PySem.W.keyToks (lD m)) = false := lq
          rw [lq2] at this
          cases this
      · exact l2 r z
    | false =>
      obtain ⟨m, e, l1, l2⟩ := minD_least ps p
      refine ⟨m, e, ?_, fun r hr => ?_⟩
      · rcases List.mem_cons.mp l1 with z | z
        · rw [z]; exact .head _
        · exact .tail _ (.tail _ z)
      · rcases List.mem_cons.mp hr with z | z
        · rw [z]; exact l2 p (.head _)
        · rcases List.mem_cons.mp z with y | y
          · subst y
            have lp := l2 p (.head _)
            cases hh : PySem.W.dataLt (lD r) (lD m) with
            | false => rfl
            | true =>
              rcases PyProof.Rows.lex_negTrans (O := itemOrd) _ (PySem.W.keyToks (lD p)) _ hh with c1 | c1
              · have h2 : PyProof.Rows.lexLt itemOrd (PySem.W.keyToks (lD r)) (PySem.W.keyToks (lD p)) = false := h
                rw [h2] at c1
                cases c1
              · have lp2 : PyProof.Rows.lexLt itemOrd (PySem.W.keyToks (lD p)) (PySem.W.keyToks (lD m)) = false := lp
                rw [lp2] at c1
                cases c1
          · exact l2 r (.tail _ y)
end Q

set_option maxHeartbeats 4000000
namespace Q
open PySem PySem.Spec PyProof.Rows L2 Ca
/-! ### all_orders -/
abbrev s_ao : Stmt := top 48
abbrev s_nu : Stmt := top 49
abbrev s_no : Stmt := top 50
abbrev s_cq : Stmt := top 42
theorem sc_ao : FnScope ["atoms", "found", "atom", "order", "at"] ["atoms"] (defScope s_ao) := ⟨rfl, rfl, rfl, by decide +kernel, rfl, by decide +kernel, by decide +kernel⟩
def RAo : List PyData → PyData → Prop := fun ds d => ∃ as : List At, ds = [.tuple (as.map atD)] ∧ as.length ≤ 4 ∧ d = .list ((ords [[]] as).map lD)
theorem ords_count : ∀ {as : List At}, as.length ≤ 4 → (ords [[]] as).length ≤ 24
  | [], _ => by decide
  | [a], _ => Nat.le_of_ble_eq_true rfl
  | [a, b], _ => Nat.le_of_ble_eq_true rfl
  | [a, b, c], _ => Nat.le_of_ble_eq_true rfl
  | [a, b, c, d], _ => Nat.le_of_ble_eq_true rfl
  | _ :: _ :: _ :: _ :: _ :: _, h => by simp at h
theorem ords_small {as p : List At} (h : p ∈ ords [[]] as) : p.length = as.length := by
  have := ords_len as [[]] 0 (by simp) p h
  omega
section
variable {P : Program} {w : World} {K : PySem.W.Frag} {mg : PySem.Str → Option Value} {base : Heap}
theorem ok_ao {f : Addr} {fd : FuncData} (F : FnP K "all_orders" s_ao f fd) (T : Tx K mg) : FnOk P w K mg base CX0 1 f fd ["atoms"] (spR RAo) := by
  refine F.ok sc_ao (spR_len (by rintro _ _ ⟨as, rfl, _⟩; rfl)) (fun cdv A outer s H vs Q E hr h => ?_)
  obtain ⟨S, ds, d, fr, rArgs, ⟨as, rfl, hz, rfl⟩, q⟩ := h
  obtain ⟨v0, rfl, rA0⟩ := rpa1 rArgs
  refine ⟨_, PSs.nox (pss_cons (ps_set (i := 1) sc_ao.nd rfl (.inl rfl) (pe_lst (pa_cons (pe_tup pa_nil) pa_nil)))
    (pss_cons (ps_for PassesOwn.never rfl (pi_tupQ (K := K) rfl (pv 0)) (pg_name (i := 2) sc_ao.nd rfl (.inr rfl)) (pss_one
      (ps_setLc2 (i := 1) (own := [("order", 3), ("at", 4)]) (vs1 := [4]) (g := gName 3) (g1 := gName 4) (by rfl) sc_ao.nd rfl rfl (sw_true rfl rfl rfl (by decide +kernel)) (pi_listQ (K := K) rfl (pv 1))
        (blkOk_by (own := [("order", 3), ("at", 4)]) (N := ["atoms", "found", "atom", "order", "at"]) (sc := defScope s_ao) (by decide +kernel)) (by decide)
        (fun _ _ _ _ _ => pg_name (i := 3) sc_ao.nd rfl (Or.inl rfl)) (fun _ _ _ _ _ => pts_nil) (fun _ _ _ _ _ => pi_range1 rfl T.range (pa_cons (pe_op op_add (pe_callB (call_lenQ : CallR _ _ (rLenQ K)) (by rfl) T.len bLen (pa_cons (pv 3) pa_nil)) pe_int) pa_nil)) (fun _ _ _ _ _ => pg_name (i := 4) sc_ao.nd rfl (Or.inl rfl)) (fun _ _ _ _ _ => pts_nil)
        (fun _ _ _ _ _ => (pe_op (op_catA : OpR _ _ (rCatA K)) (pe_op (op_catA : OpR _ _ (rCatA K)) (pe_slice (sl_tupA : SlR _ (rSlA K)) (pv 3) po_none (po_some (pv 4))) (pe_tup (pa_cons (pv 2) pa_nil))) (pe_slice (sl_tupA : SlR _ (rSlA K)) (pv 3) (po_some (pv 4)) po_none))))))
    (pss_one (ps_ret (pv 1))))), ?_⟩
  refine go_setS (P := fun H v => Rp H v (.list ((ords [[]] (as.take 0)).map lD))) fr (eqD (e_lst (a_cons (e_tup a_nil) a_nil)) rfl) fun vF0 H1 s1 fr1 rF0 => ?_
  have rA1 := rA0.mono (offS_mono (S := S) s1)
  refine go_forTS (enc := atD) (as := as) fr1 (e_var rfl rA1) fun H2 s2 fr2 => ⟨fun i σ H' => ∃ vF x2 x3 x4, σ = [some v0, some vF, x2, x3, x4] ∧ Fr S H' ∧ Same H2 H' ∧ Rp (offS S H') vF (.list ((ords [[]] (as.take i)).map lD)),
    ⟨vF0, none, none, none, rfl, fr2, Same.refl _, rF0.mono (offS_mono s2)⟩, ?_, ?_, ?_⟩
  · rintro i σ H' ⟨vF, x2, x3, x4, rfl, f', s', _⟩
    exact ⟨f', offS_mono s'⟩
  · rintro i a x σ H3 hi ra ⟨vF, x2, x3, x4, rfl, fr3, s3, rF⟩
    have li : i < as.length := (List.getElem?_eq_some_iff.mp hi).1
    have e1 : ords [[]] (as.take (i + 1)) = insAll a (ords [[]] (as.take i)) := by rw [take_more hi, ords_snoc]
    have lt : (as.take (i + 1)).length ≤ 4 := by rw [List.length_take]; omega
    refine go_set (P := fun H v => Rp H v (.list ((ords [[]] (as.take (i + 1))).map lD))) fr3 (eqD (e_lc2G (enc := lD) (as := ords [[]] (as.take i)) (bs := fun o => List.range (o.length + 1)) (enc1 := fun n : Nat => PyData.int (n : Int)) (c := fun _ _ => true) (ev2 := fun o n => lD (o.take n ++ [a] ++ o.drop n)) (it_list (e_var rfl rF)) ?_
      fun o ho y F1 sF1 rO => g_name ⟨rfl, b_yes, it_rng (n := o.length + 1) (a_cons (eqD (e_add (e_lenT (e_var rfl rO)) e_int) ?_) a_nil) ?_, fun n hn z F2 sF2 rI => g_name ⟨rfl, b_yes, fun _ => ?_⟩⟩) ?_) fun v4 H4 s4 fr4 r4 => ⟨v4, _, _, _, rfl, fr4, s3.trans s4, r4⟩
    · have z := ords_count lt
      rw [e1] at z
      have e2 : ((ords [[]] (as.take i)).flatMap fun o => ((List.range (o.length + 1)).filter fun _ => true).map fun n => lD (o.take n ++ [a] ++ o.drop n)) = (insAll a (ords [[]] (as.take i))).map lD := by
        unfold insAll
        rw [List.map_flatMap]
        congr 1
        funext o
        rw [filter_yes, List.map_map]
        rfl
      rw [e2, List.length_map]
      omega
    · rw [List.length_map]
      rfl
    · have := ords_small ho
      rw [List.length_take] at this
      omega
    · have lo := ords_small ho
      rw [List.length_take] at lo
      have rO := rO.mono sF2
      have rA := (ra.mono sF1).mono sF2
      refine eqD (e_catT (e_catT (e_slT (e_var rfl rO) o_none (o_some (e_var rfl rI))) (e_tup (a_cons (e_var rfl rA) a_nil)) ?_) (e_slT (e_var rfl rO) (o_some (e_var rfl rI)) o_none) ?_) ?_
      · rw [show Ca.cutD (o.map atD) none (some (n : Int)) = (o.map atD).take n from cut_take _ n]
        simp only [List.length_take, List.length_map, List.length_cons, List.length_nil]
        omega
      · rw [show Ca.cutD (o.map atD) none (some (n : Int)) = (o.map atD).take n from cut_take _ n, show Ca.cutD (o.map atD) (some (n : Int)) none = (o.map atD).drop n from cut_drop _ n]
        simp only [List.length_append, List.length_take, List.length_drop, List.length_map, List.length_cons, List.length_nil]
        omega
      · rw [show Ca.cutD (o.map atD) none (some (n : Int)) = (o.map atD).take n from cut_take _ n, show Ca.cutD (o.map atD) (some (n : Int)) none = (o.map atD).drop n from cut_drop _ n]
        simp only [lD, List.map_append, List.map_take, List.map_drop, List.map_cons, List.map_nil]
    · rw [e1]
      unfold insAll
      rw [List.map_flatMap]
      congr 2
      funext o
      rw [filter_yes, List.map_map]
      rfl
  · rintro σ H3 ⟨vF, x2, x3, x4, rfl, fr3, s3, rF⟩
    rw [List.take_length] at rF
    exact go_ret (P := fun H v => Rp H v (.list ((ords [[]] as).map lD))) fr3 (e_var rfl rF) fun v H4 s4 r4 => q v H4 (s1.trans (s2.trans (s3.trans s4))) r4
end
end Q

set_option maxHeartbeats 4000000
namespace Ca
open PySem PySem.Spec PyProof.Rows L2
/-! min of a list of data; a dict's item; isinstance of an own class -/
def rMinD (K : PySem.W.Frag) : List V → Hp → VK → Prop := fun vs H Q => ∃ (a : Addr) (xs : List V) (d : PyData) (ds : List PyData), vs = [.ref a] ∧ H a = some (.lst xs) ∧ RpA H xs (d :: ds) ∧ PySem.W.AlikeAll (d :: ds) ∧ PyData.depthAll (d :: ds) ≤ 60 ∧
  ∀ (i : Nat) (v : V), xs[i]? = some v → (d :: ds)[i]? = some (PySem.W.minD d ds) → Q v H
theorem vals_get : ∀ {ys : List V} {its : List Value} {i : Nat} {v : Value}, Vals ys its → its[i]? = some v → ∃ y, ys[i]? = some y ∧ RelV y v
  | _, _, _, _, .nil, h => by simp at h
  | y :: _, _, 0, v, @Paired.cons _ _ _ _ u _ _ h1 _, h => by
    cases (show some u = some v from h)
    exact ⟨y, rfl, h1⟩
  | _, _, i + 1, v, .cons _ h2, h => by
    obtain ⟨y2, e1, e2⟩ := vals_get (i := i) h2 (by simpa using h)
    exact ⟨y2, by simpa using e1, e2⟩
theorem cr_minD {X : Cx} {k : Nat} (hc : X.calm = true) (sm : ∃ o, X.K.lookup sysModules = some o) (hr : Room k X.A) : CallR X (.builtin "min") (rMinD X.K) := by
  intro pins s σ H xs us Q I r h
  obtain ⟨a, ys, d, ds, rfl, ha, ry, hal, hdp, q⟩ := h
  rw [Vals.ref1 r]
  obtain ⟨_, its, n, rv, ho⟩ := (show ObjOk X.prog X.w H s.heap a (.lst ys) from I.hok a _ ha)
  obtain ⟨as, rd, _⟩ := Rp.readsA I sm (d :: ds) ys its ry rv
  have hu : X.A.units + 64 < cLine := hr.units
  have hl : s.heap.IsList a its.toArray := ⟨_, ho, rfl, n, rfl⟩
  refine PySem.W.min_list_data (vs := its.toArray) (I.ok.hd hc) hl (by simpa using rd) hal (by omega) fun i v h' tk bs hv rv2 kp => ?_
  have hv2 : its[i]? = some v := by simpa using hv
  obtain ⟨y, hy, ryv⟩ := vals_get rv hv2
  obtain ⟨e, he, rye⟩ := ry.get hy
  obtain ⟨as2, re, _⟩ := Rp.reads I sm e y v rye ryv
  obtain ⟨ed, _⟩ := PyProof.Rows.reads_det (fun b o eb _ => kp b o eb) re rv2
  refine ⟨y, H, I.kept (t' := tk) kp, ryv, q i y hy ?_⟩
  rw [ed]
  exact he
section
variable {K : PySem.W.Frag} {σ : L2.St} {F : Hp} {ta td ty te : TE} {ds : List PyData} {d : PyData}
theorem e_minD (h : EvD ta σ F (.list (d :: ds))) (ha : PySem.W.AlikeAll (d :: ds)) (hd : PyData.depthAll (d :: ds) ≤ 60) : EvD (tCB (rMinD K) (tCons ta tNil)) σ F (PySem.W.minD d ds) := fun S H1 f s Q q =>
  h S H1 f s _ fun v H2 s2 r => by
    cases r with
    | @lst a xs _ hx rx =>
      refine ⟨a, xs, d, ds, rfl, offS_same _ _ hx, rx.mono offS_same, ha, hd, fun i v hv hm => q v H2 s2 ?_⟩
      obtain ⟨e, he, re⟩ := rx.get hv
      rw [hm] at he
      cases he
      exact re
theorem e_dgetI {D : Addr} {kvs : List (Key × V)} {x j : Int} (h1 : EvP td σ F fun H v => v = .ref D ∧ H D = some (.dK kvs)) (h2 : EvD ty σ F (.int x)) (hv : valV kvs (Sum.inl x) = some (.int j)) : EvD (tDGet td ty) σ F (.int j) := fun S H1 f s Q q =>
  h1 S H1 f s _ fun v H2 s2 ⟨ev, hD⟩ => h2 S H2 (f.mono s2) (s.trans (offS_mono s2)) _ fun w H3 s3 r => by
    subst ev
    cases r
    have hD3 : H3 D = some (.dK kvs) := s3 _ _ (offS_same _ _ hD)
    refine ⟨D, .int j, rfl, ?_, q _ H3 (s2.trans s3) (.int _)⟩
    have := DGet.k (k := Sum.inl x) hD3
    rw [hv] at this
    exact this
end
end Ca
namespace Q
open PySem PySem.Spec PyProof.Rows L2 Ca
/-! ### numbered -/
/-- the numbers of the known variables -/
def dk : Nat → List Int → List (Key × V)
  | _, [] => []
  | n, x :: l => (Sum.inl x, V.int (n : Int)) :: dk (n + 1) l
theorem dk_len : ∀ (l : List Int) (n : Nat), (dk n l).length = l.length
  | [], _ => rfl
  | x :: l, n => by
    show (dk (n + 1) l).length + 1 = _
    rw [dk_len l, List.length_cons]
theorem dk_app : ∀ (l m : List Int) (n : Nat), dk n (l ++ m) = dk n l ++ dk (n + l.length) m
  | [], m, n => rfl
  | x :: l, m, n => by
    show _ :: dk (n + 1) (l ++ m) = _ :: (dk (n + 1) l ++ dk (n + (x :: l).length) m)
    rw [dk_app l m (n + 1), show n + 1 + l.length = n + (x :: l).length by rw [List.length_cons]; omega]
theorem dk_val : ∀ (l : List Int) (n : Nat) (x : Int), valV (dk n l) (Sum.inl x) = if x ∈ l then some (.int (((n + l.idxOf x : Nat)) : Int)) else none
  | [], n, x => rfl
  | y :: l, n, x => by
    have ih := dk_val l (n + 1) x
    unfold valV at ih ⊢
    show ((((Sum.inl y : Key), V.int (n : Int)) :: dk (n + 1) l).find? fun kv => decide (kv.1 = Sum.inl x)).map (·.2) = _
    by_cases h : y = x
    · subst h
      rw [List.find?_cons_of_pos (by simp), if_pos (.head _), List.idxOf_cons_self]
      rfl
    · have h2 : (decide (((Sum.inl y : Key)) = Sum.inl x)) = false := by simp [h]
      rw [List.find?_cons_of_neg (by simp [h]), ih]
      by_cases hm : x ∈ l
      · rw [if_pos hm, if_pos (.tail _ hm), List.idxOf_cons, beq_false_of_ne h]
        simp only [cond_false]
        congr 3
        omega
      · rw [if_neg hm, if_neg (by
          intro z
          rcases List.mem_cons.mp z with e | e
          · exact h e.symm
          · exact hm e)]
theorem dk_put {l : List Int} {x : Int} (h : x ∉ l) : putK (dk 0 l) (Sum.inl x) (.int ((l.length : Nat) : Int)) = dk 0 (l ++ [x]) := by
  have hn : ((dk 0 l).any fun kv => decide (kv.1 = Sum.inl x)) = false := by
    cases e : (dk 0 l).any fun kv => decide (kv.1 = Sum.inl x) with
    | false => rfl
    | true =>
      exfalso
      have hv := dk_val l 0 x
      rw [if_neg h] at hv
      unfold valV at hv
      rw [Option.map_eq_none_iff, List.find?_eq_none] at hv
      obtain ⟨kv, hk, hd⟩ := List.any_eq_true.mp e
      exact hv kv hk hd
  unfold putK
  rw [hn, dk_app]
  simp [dk]
theorem sc_nu : FnScope ["atoms", "numbers", "kind", "left", "right"] ["atoms"] (defScope s_nu) := ⟨rfl, rfl, rfl, by decide +kernel, rfl, by decide +kernel, by decide +kernel⟩
def RNu : List PyData → PyData → Prop := fun ds d => ∃ as : List At, ds = [lD as] ∧ as.length ≤ 4 ∧ d = lD (num as)
/-- one more name known -/
theorem fo_one (kn : List Int) (x : Int) : fo kn [x] = if x ∈ kn then kn else kn ++ [x] := by
  show (if kn.contains x then kn else kn ++ [x]) = _
  by_cases h : x ∈ kn
  · rw [if_pos h, if_pos (List.contains_iff_mem.mpr h)]
  · rw [if_neg h, if_neg (fun z => h (List.contains_iff_mem.mp z))]
section
variable {P : Program} {w : World} {K : PySem.W.Frag} {mg : PySem.Str → Option Value} {base : Heap}
theorem ok_nu {f : Addr} {fd : FuncData} (F : FnP K "numbered" s_nu f fd) (T : Tx K mg) : FnOk P w K mg base CX0 1 f fd ["atoms"] (spR RNu) := by
  refine F.ok sc_nu (spR_len (by rintro _ _ ⟨as, rfl, _⟩; rfl)) (fun cdv A outer s H vs Q E hr h => ?_)
  obtain ⟨S, ds, d, fr, rArgs, ⟨as, rfl, hz, rfl⟩, q⟩ := h
  obtain ⟨v0, rfl, rA0⟩ := rpa1 rArgs
  have hu1 := Nat.lt_of_le_of_lt (Nat.add_le_add_left (show 1 ≤ 64 by decide) _) hr.units
  refine ⟨_, PSs.nox (pss_cons (ps_set (i := 1) sc_nu.nd rfl (.inr rfl) pe_dnewK)
    (pss_cons (ps_for PassesOwn.never rfl (pi_tupQ (K := K) rfl (pv 0)) (pg_tup (by rfl) (pgs_cons (pg_name (i := 2) sc_nu.nd rfl (.inl rfl)) (pgs_cons (pg_name (i := 3) sc_nu.nd rfl (.inl rfl)) (pgs_cons (pg_name (i := 4) sc_nu.nd rfl (.inl rfl)) pgs_nil))))
      (pss_cons (ps_expr (pe_dsetd (pv 1) (pv 3) (pe_callB call_lenD (by rfl) T.len bLen (pa_cons (pv 1) pa_nil)) ⟨rfl, rfl, rfl, rfl⟩))
      (pss_one (ps_expr (pe_dsetd (pv 1) (pv 4) (pe_callB call_lenD (by rfl) T.len bLen (pa_cons (pv 1) pa_nil)) ⟨rfl, rfl, rfl, rfl⟩)))))
    (pss_one (ps_ret (pe_callTy (call_tupQ : CallR _ _ (rTupQ K)) (by rfl) T.tup bTup (pa_cons
      (pe_lc (own := [("kind", 2), ("left", 3), ("right", 4)]) (g := gTup K 3 (gCons (gName 2) (gCons (gName 3) (gCons (gName 4) gNil)))) rfl sc_nu.nd (pi_tupQ (K := K) rfl (pv 0))
        (blkOk_by (own := [("kind", 2), ("left", 3), ("right", 4)]) (N := ["atoms", "numbers", "kind", "left", "right"]) (sc := defScope s_nu) (by decide +kernel))
        (fun _ _ _ _ _ => pg_tup (by rfl) (pgs_cons (pg_name (i := 2) sc_nu.nd rfl (Or.inl rfl)) (pgs_cons (pg_name (i := 3) sc_nu.nd rfl (Or.inl rfl)) (pgs_cons (pg_name (i := 4) sc_nu.nd rfl (Or.inl rfl)) pgs_nil)))) (fun _ _ _ _ _ => pts_nil)
        (fun _ _ _ _ _ => pe_tup (pa_cons (pv 2) (pa_cons (pe_dget hu1 (pv 1) (pv 3) (fun _ _ => rfl)) (pa_cons (pe_dget hu1 (pv 1) (pv 4) (fun _ _ => rfl)) pa_nil))))) pa_nil)))))), ?_⟩
  -- numbers = {}
  intro D hD
  have e1 := upd_same (H := H) (a := D) (o := .dK [])
  have sn := same_new (o := .dK []) hD
  have hDS : S D = false := fr.new hD
  have frS : Fr S (upd H D (.dK [])) := fr.mono sn
  have hDo : offS S H D = none := by
    unfold offS
    split
    · rfl
    · exact hD
  have sF : Same (offS S H) (offS (addS S D) (upd H D (.dK []))) := addS_new hDo (offS_mono sn)
  have fr1 : Fr (addS S D) (upd H D (.dK [])) := frS.add e1 trivial
  generalize hH1 : upd H D (.dK []) = H1 at e1 sn frS sF fr1 ⊢
  refine go_forTS (enc := atD) (as := as) fr1 (e_var rfl (rA0.mono sF)) fun H2 s2 fr2 => ⟨fun i σ H' => ∃ x2 x3 x4, σ = [some v0, some (.ref D), x2, x3, x4] ∧ Fr (addS S D) H' ∧ Same (offS (addS S D) H2) (offS (addS S D) H') ∧ Same H H' ∧ H' D = some (.dK (dk 0 (fo [] (vars (as.take i))))),
    ⟨none, none, none, rfl, fr2, Same.refl _, sn.trans s2, s2 _ _ e1⟩, ?_, ?_, ?_⟩
  · rintro i σ H' ⟨x2, x3, x4, rfl, f', s', _⟩
    exact ⟨f', s'⟩
  · rintro i a x σ H3 hi ra ⟨x2, x3, x4, rfl, fr3, s3, sH, hD3⟩
    have li : i < as.length := (List.getElem?_eq_some_iff.mp hi).1
    refine gg_tup3 (d1 := .str a.k) (d2 := .int a.l) (d3 := .int a.r) fr3 ra fun v1 v2 v3 q1 q2 q3 => ?_
    cases q2
    cases q3
    have small : ∀ l : List Int, l.length ≤ 1000 → (dk 0 l).length < sizeLine := fun l h => by
      rw [dk_len]
      exact small1000 h
    have lv : (vars (as.take i)).length ≤ 8 := by
      have : ∀ as : List At, (vars as).length = 2 * as.length := fun as => by
        induction as with
        | nil => rfl
        | cons a as ih =>
          show ([a.l, a.r] ++ vars as).length = _
          rw [List.length_append, ih, List.length_cons]
          simp only [List.length_cons, List.length_nil]
          omega
      rw [this, List.length_take]
      omega
    have lk := fo_len (vars (as.take i)) []
    simp only [List.length_nil, Nat.zero_add] at lk
    -- one more name
    have one : ∀ (kn : List Int) (x : Int) (H5 : Hp) (Q5 : V → Hp → Prop), kn.length ≤ 900 → H5 D = some (.dK (dk 0 kn)) →
        (∀ v H6, (∀ b, b ≠ D → H6 b = H5 b) → H6 D = some (.dK (dk 0 (fo kn [x]))) → Q5 v H6) →
        ∃ (kvs : List (Key × V)) (k : Key), H5 D = some (.dK kvs) ∧ V.int x = kV k ∧ kvs.length < sizeLine ∧ (∀ v, valV kvs k = some v → Q5 v H5) ∧ (valV kvs k = none → Q5 (.int ((dk 0 kn).length : Nat)) (upd H5 D (.dK (putK kvs k (.int ((dk 0 kn).length : Nat)))))) := by
      intro kn x H5 Q5 hk h5 kq
      refine ⟨_, Sum.inl x, h5, rfl, small _ (by omega), fun v hv => ?_, fun hv => ?_⟩
      · rw [dk_val] at hv
        by_cases hm : x ∈ kn
        · refine kq v H5 (fun _ _ => rfl) ?_
          rw [fo_one, if_pos hm]
          exact h5
        · rw [if_neg hm] at hv
          cases hv
      · rw [dk_val] at hv
        by_cases hm : x ∈ kn
        · rw [if_pos hm] at hv
          cases hv
        · refine kq _ _ (fun b hb => upd_ne hb) ?_
          rw [fo_one, if_neg hm, upd_same, dk_len, dk_put hm]
    have kp : ∀ {H5 H6 : Hp}, Fr (addS S D) H5 → (∀ b, b ≠ D → H6 b = H5 b) → (∃ kvs, H6 D = some (.dK kvs)) → Fr (addS S D) H6 ∧ Same (offS (addS S D) H5) (offS (addS S D) H6) := fun {H5 H6} f5 hs hd => by
      refine ⟨fun b hb => ?_, fun b o e => ?_⟩
      · by_cases hbD : b = D
        · subst hbD
          obtain ⟨kvs, hd⟩ := hd
          exact ⟨_, hd, trivial⟩
        · rw [hs b hbD]
          exact f5 b hb
      · unfold offS at e ⊢
        split at e
        · cases e
        · rename_i hb
          rw [if_neg hb]
          have hbD : b ≠ D := fun z => hb (by unfold addS; rw [z]; simp)
          rw [hs b hbD]
          exact e
    have kH : ∀ {H5 H6 : Hp}, Same H H5 → (∀ b, b ≠ D → H6 b = H5 b) → Same H H6 := fun {H5 H6} s5 hs b o e => by
      rw [hs b (ne_of_none e hD)]
      exact s5 b o e
    refine ⟨_, rfl, D, rfl, .inl ⟨_, .inl hD3⟩, _, rfl, _, rfl, D, _, rfl, hD3, one _ a.l H3 _ (by omega) hD3 fun w1 H5 hs5 hd5 => ?_⟩
    refine ⟨_, rfl, D, rfl, .inl ⟨_, .inl hd5⟩, _, rfl, _, rfl, D, _, rfl, hd5, one _ a.r H5 _ ?_ hd5 fun w2 H6 hs6 hd6 => ?_⟩
    · have := fo_len [a.l] (fo [] (vars (as.take i)))
      simp only [List.length_cons, List.length_nil] at this
      omega
    · obtain ⟨f5, k5⟩ := kp fr3 hs5 ⟨_, hd5⟩
      obtain ⟨f6, k6⟩ := kp f5 hs6 ⟨_, hd6⟩
      refine ⟨_, _, _, rfl, f6, s3.trans (k5.trans k6), kH (kH sH hs5) hs6, ?_⟩
      rw [hd6, take_more hi]
      have ev : vars (as.take i ++ [a]) = vars (as.take i) ++ ([a.l] ++ [a.r]) := by
        rw [vars_app]
        rfl
      rw [ev, fo_app, fo_app]
  · rintro σ H3 ⟨x2, x3, x4, rfl, fr3, s3, sH, hD3⟩
    rw [List.take_length] at hD3
    have frE : Fr S H3 := fr.mono sH
    have rA3 : Rp (offS S H3) v0 (lD as) := rA0.mono (offS_mono sH)
    have hDF : offS S H3 D = some (.dK (dk 0 (fo [] (vars as)))) := by rw [offS_at hDS]; exact hD3
    have val : ∀ x ∈ vars as, valV (dk 0 (fo [] (vars as))) (Sum.inl x) = some (.int (idx (fo [] (vars as)) x)) := fun x hx => by
      rw [dk_val, if_pos ((fo_mem _ _ _).mpr (.inr hx)), Nat.zero_add]
      rfl
    refine go_ret (P := fun H v => Rp H v (lD (num as))) frE (eqD (e_tupOf (e_lcG (enc := atD) (as := as) (b := fun _ => true) (ev := fun a => atD (numA (fo [] (vars as)) a)) (it_tup (e_var rfl rA3)) (by omega) fun a ha x F1 sF1 r => g_tup3 r fun v1 v2 v3 q1 q2 q3 =>
      ⟨rfl, b_yes, fun _ => e_tup (a_cons (e_var rfl q1) (a_cons (e_dgetI (D := D) (e_varP rfl fun G sG => ⟨rfl, sG _ _ (sF1 _ _ hDF)⟩) (e_var rfl q2) (val a.l (mem_vars.mpr ⟨a, ha, .inl rfl⟩))) (a_cons (e_dgetI (D := D) (e_varP rfl fun G sG => ⟨rfl, sG _ _ (sF1 _ _ hDF)⟩) (e_var rfl q3) (val a.r (mem_vars.mpr ⟨a, ha, .inr rfl⟩))) a_nil)))⟩)) ?_) fun v H4 s4 r4 => q v H4 (sH.trans s4) r4
    rw [filter_yes]
    unfold num lD
    rw [List.map_map]
    rfl
end
end Q

set_option maxHeartbeats 4000000
namespace Q
open PySem PySem.Spec PyProof.Rows L2 Ca
/-! ### check_question, normal -/
/-- what isinstance asks of the class -/
structure IsiC (K : PySem.W.Frag) (C : Addr) : Prop where
  ha : PySem.W.findIn K (.ref C) "__class__" = some (some (.builtin "object.__class__"))
  hn : PySem.W.specialIn K (.builtin "object.__class__") "__get__" = some (some (.builtin "getset_descriptor.__get__"))
  htk : PySem.W.takesIn K (.builtin "object.__class__") = some true
  hm : PySem.W.mroIn K C (.type "object") = some true
  kit : PySem.W.kitOne K (.ref C) (.ref C) = some true
def IAtoms (C : Addr) : Hp → List V → (Hp → V → Prop) → Prop := fun F vs P => ∃ v as, vs = [v] ∧ QV C as F v ∧ P = fun H v => Rp H v (.tuple (as.map atD))
theorem atoms_imp {C : Addr} : ∀ vs H Q E, spQ (IAtoms C) vs H Q E → spAtoms C vs H Q E := by
  rintro vs H Q E ⟨S, P, f, ⟨v, as, rfl, ⟨x, dx, p, rfl, hq⟩, rfl⟩, q⟩
  exact ⟨x, dx, p, as, rfl, hq.mono offS_same, q _ H (Same.refl _) hq.atoms⟩
theorem qv_atoms {C : Addr} {as : List At} : ∀ F v, QV C as F v → IAtoms C F [v] (fun H v => Rp H v (.tuple (as.map atD))) ∧ ∃ a dx fs, v = .ref a ∧ F a = some (.ins C dx fs) := fun F v h => by
  refine ⟨⟨v, as, rfl, h, rfl⟩, ?_⟩
  obtain ⟨x, dx, p, rfl, hq⟩ := h
  obtain ⟨o, u, ns, h1, _⟩ := hq.obj
  exact ⟨x, dx, _, rfl, h1⟩
def IText (C : Addr) : Hp → List V → (Hp → V → Prop) → Prop := fun F vs P => ∃ v as, vs = [v] ∧ QV C as F v ∧ as.length ≤ 30 ∧ (∀ a ∈ as, Good a) ∧ P = fun H v => Rp H v (.str (txt as))
theorem qtext_imp {C : Addr} : ∀ vs H Q E, spQ (IText C) vs H Q E → spQText C vs H Q E := by
  rintro vs H Q E ⟨S, P, f, ⟨v, as, rfl, ⟨x, dx, p, rfl, hq⟩, hz, g, rfl⟩, q⟩
  exact ⟨x, dx, p, as, rfl, hq.mono offS_same, hz, g, fun H' s => q _ H' s (.str _)⟩
theorem qv_text {C : Addr} {as : List At} (hz : as.length ≤ 30) (g : ∀ a ∈ as, Good a) : ∀ F v, QV C as F v → IText C F [v] (fun H v => Rp H v (.str (txt as))) ∧ ∃ a dx fs, v = .ref a ∧ F a = some (.ins C dx fs) ∧ fs.lookup ("text" : PySem.Str) = none := fun F v h => by
  refine ⟨⟨v, as, rfl, h, hz, g, rfl⟩, ?_⟩
  obtain ⟨x, dx, p, rfl, hq⟩ := h
  obtain ⟨o, u, ns, h1, _⟩ := hq.obj
  exact ⟨x, dx, _, rfl, h1, qf_no _ _ _ (by decide +kernel) (by decide +kernel) (by decide +kernel)⟩
def ICq (C : Addr) : Hp → List V → (Hp → V → Prop) → Prop := fun F vs P => ∃ v as, vs = [v] ∧ QV C as F v ∧ P = fun H v => Rp H v .none
theorem sc_cq : FnScope ["thing"] ["thing"] (defScope s_cq) := ⟨rfl, rfl, rfl, by decide +kernel, rfl, by decide +kernel, by decide +kernel⟩
theorem sc_no : FnScope ["question", "first", "order"] ["question"] (defScope s_no) := ⟨rfl, rfl, rfl, by decide +kernel, rfl, by decide +kernel, by decide +kernel⟩
section
variable {K : PySem.W.Frag} {σ : L2.St} {F : Hp} {ta te : TE} {C N : Addr} {as : List At} {E : XK}
/-- isinstance(x, Question) of a question -/
theorem e_isiQ (cl : Cls K C) (ic : IsiC K C) (h : EvP ta σ F (QV C as)) (hc : EvP te σ F fun _ v => v = .ref C) : EvD (tCB (rIsi K) (tCons ta (tCons te tNil))) σ F (.bool true) := fun S H1 f s Q q =>
  h S H1 f s _ fun v H2 s2 p => hc S H2 (f.mono s2) (s.trans (offS_mono s2)) _ fun w H3 s3 ew => by
    subst ew
    obtain ⟨x, dx, pp, rfl, hq⟩ := p
    obtain ⟨o, u, ns, h1, _⟩ := hq.obj
    exact ⟨_, _, _, _, true, rfl, .own C, .base (.ins (s3 _ _ (offS_same _ _ h1)) cl ic.ha ic.hn ic.htk ic.hm), ic.kit, q _ H3 (s2.trans s3) (.bl _)⟩
theorem e_glbStarT (h : EvD te σ F (.tuple (as.map atD))) (g : ∀ a ∈ as, Good a) (l1 : 1 ≤ as.length) (l4 : as.length ≤ 4) : EvP (tGlbStar K C (spInitR C N) E te) σ F (QV C as) := fun S H1 f s Q q =>
  h S H1 f s _ fun v H2 s2 r => by
    obtain ⟨a, xs, rfl, ha, rx⟩ := rp_tup r
    refine ⟨a, xs, rfl, .inl (.inl (.inl ha)), make_q (N := N) (rx.mono offS_same) (by rw [List.length_map]; omega) (fun z => ?_) fun bs e gb hA x dx p H' nx sx hq => ?_⟩
    · rw [are_of g l1 l4] at z
      cases z
    · have eb : bs = as := by
        first | exact atD_inj e | exact atD_inj e.symm
      subst eb
      exact q _ H' (s2.trans sx) ⟨x, dx, p, rfl, hq.off ((f.mono s2).mono sx)⟩
end
/-- all numbered orders -/
def nums (as : List At) : List (List At) := (ords [[]] as).map num
theorem num_len (as : List At) : (num as).length = as.length := List.length_map ..
theorem vars_len : ∀ as : List At, (vars as).length = 2 * as.length
  | [] => rfl
  | a :: as => by
    show ([a.l, a.r] ++ vars as).length = _
    rw [List.length_append, vars_len as, List.length_cons]
    simp only [List.length_cons, List.length_nil]
    omega
theorem num_good {as : List At} (g : ∀ a ∈ as, Good a) (h4 : as.length ≤ 4) : ∀ a ∈ num as, Good a := fun b hb => by
  obtain ⟨a, ha, rfl⟩ := List.mem_map.mp hb
  have l1 := fo_len (vars as) []
  rw [vars_len] at l1
  simp only [List.length_nil, Nat.zero_add] at l1
  have il := idx_bd ((fo_mem (vars as) [] a.l).mpr (.inr (mem_vars.mpr ⟨a, ha, .inl rfl⟩)))
  have ir := idx_bd ((fo_mem (vars as) [] a.r).mpr (.inr (mem_vars.mpr ⟨a, ha, .inr rfl⟩)))
  exact ⟨(g a ha).k, il.1, by show idx _ a.l ≤ 9; omega, ir.1, by show idx _ a.r ≤ 9; omega⟩
theorem nums_good {as m : List At} (g : ∀ a ∈ as, Good a) (h4 : as.length ≤ 4) (hm : m ∈ nums as) : (∀ a ∈ m, Good a) ∧ m.length = as.length := by
  obtain ⟨o, ho, rfl⟩ := List.mem_map.mp hm
  have hp := (ords_mem as.length as rfl o).mp ho
  have hl := hp.length_eq
  exact ⟨num_good (fun a ha => g a (hp.subset ha)) (by omega), by rw [num_len, hl]⟩
theorem alike_lD (p q : List At) : PySem.W.alike (lD p) (lD q) = true := by
  unfold lD PySem.W.alike
  induction p generalizing q with
  | nil => simp [PySem.W.alikeAll]
  | cons a p ih =>
    cases q with
    | nil => simp [PySem.W.alikeAll]
    | cons b q =>
      rw [List.map_cons, List.map_cons, PySem.W.alikeAll, alike_at, ih]
      rfl
theorem depth_lD (p : List At) : (lD p).depth ≤ 2 := by
  unfold lD PyData.depth
  have : PyData.depthAll (p.map atD) ≤ 1 := by
    induction p with
    | nil => simp [PyData.depthAll]
    | cons a p ih =>
      rw [List.map_cons, PyData.depthAll]
      exact Nat.max_le.mpr ⟨by simp [atD, PyData.depth, PyData.depthAll], ih⟩
  omega
theorem alikes (ps : List (List At)) : PySem.W.AlikeAll (ps.map lD) := by
  refine ⟨fun x hx y hy => ?_, fun x hx => ?_⟩
  · obtain ⟨p, _, rfl⟩ := List.mem_map.mp hx
    obtain ⟨q, _, rfl⟩ := List.mem_map.mp hy
    exact alike_lD p q
  · obtain ⟨p, _, rfl⟩ := List.mem_map.mp hx
    exact fun z => by cases z
theorem depths (ps : List (List At)) : PyData.depthAll (ps.map lD) ≤ 2 := by
  induction ps with
  | nil => simp [PyData.depthAll]
  | cons p ps ih =>
    rw [List.map_cons, PyData.depthAll]
    exact Nat.max_le.mpr ⟨depth_lD p, ih⟩
def INorm (C : Addr) : Hp → List V → (Hp → V → Prop) → Prop := fun F vs P => ∃ v as m, vs = [v] ∧ QV C as F v ∧ (∀ a ∈ as, Good a) ∧ 1 ≤ as.length ∧ as.length ≤ 4 ∧ Least (nums as) m ∧ P = QV C m
section
variable {P : Program} {w : World} {K : PySem.W.Frag} {mg : PySem.Str → Option Value} {base : Heap}
theorem ok_cq {f C N : Addr} {fd : FuncData} (F : FnP K "check_question" s_cq f fd) (T : Tx K mg) (TQ : QT K mg C N) (ic : IsiC K C) (gC : mg "Question" = some (.ref C)) : FnOk P w K mg base CX0 1 f fd ["thing"] (spQ (ICq C)) := by
  refine F.ok sc_cq (spQ_len (by rintro _ _ _ ⟨v, as, rfl, _⟩; rfl)) (fun cdv A outer s H vs Q E hr h => ?_)
  obtain ⟨S, P0, fr, ⟨v0, as, rfl, hq, rfl⟩, q⟩ := h
  refine ⟨_, PSs.nox (pss_one (ps_if (pt_not (pt_val (pe_callB (call_isi : CallR _ _ (rIsi K)) (by rfl) T.isi bIsi (pa_cons (pv 0) (pa_cons (pe_glob (v := .ref C) rfl gC rfl) pa_nil))))) pss_never pss_nil)), ?_⟩
  exact go_ifF fr (b_not (b_val (e_isiQ TQ.cl ic (e_varP (P := QV C as) rfl fun _ s => hq.mono s) (fun S H1 f s Q q => q _ H1 (Same.refl _) rfl)))) fun H1 s1 fr1 => q _ H1 s1 .non
theorem ok_norm {f C N fI pA gA : Addr} {fd fdA : FuncData} (F : FnP K "normal" s_no f fd) (T : Tx K mg) (TQ : QT K mg C N) (M : Mk K C fI) (GI : FnR P w K mg base (L2.CX P w) 4 fI (spInitR C N)) (gC : mg "Question" = some (.ref C))
    (D1 : Fd P w K mg base "check_question" 1 ["thing"] (spQ (ICq C))) (D2 : Fd P w K mg base "all_orders" 1 ["atoms"] (spR RAo)) (D3 : Fd P w K mg base "numbered" 1 ["atoms"] (spR RNu))
    (hp : PropOf K C "atoms" pA gA) (GA : FnOk P w K mg base CX0 1 gA fdA ["self"] (spQ (IAtoms C))) (bA : Binds K fdA ["self"] []) : FnOk P w K mg base CX0 6 f fd ["question"] (spQ (INorm C)) := by
  obtain ⟨f1, fd1, G1, b1, k1, m1⟩ := D1.ex
  obtain ⟨f2, fd2, G2, b2, k2, m2⟩ := D2.ex
  obtain ⟨f3, fd3, G3, b3, k3, m3⟩ := D3.ex
  refine F.ok sc_no (spQ_len (by rintro _ _ _ ⟨v, as, m, rfl, _⟩; rfl)) (fun cdv A outer s H vs Q E hr h => ?_)
  obtain ⟨S, P0, fr, ⟨v0, as, m, rfl, hq, g, l1, l4, lm, rfl⟩, q⟩ := h
  refine ⟨_, PSs.nox (pss_cons (ps_expr (pe_call G1 (hr.mono (by decide)) rfl m1 k1 b1 .nil pass0 (pa_cons (pv 0) pa_nil)))
    (pss_cons (ps_set (i := 1) sc_no.nd rfl (.inl rfl) (pe_callB (cr_minD rfl T.sm (hr.mono (Nat.le_refl _)) : CallR _ _ (rMinD K)) (by rfl) T.min bMin (pa_cons
      (pe_lc (own := [("order", 2)]) (g := gName 2) rfl sc_no.nd (pi_listQ (K := K) rfl (pe_call G2 (hr.mono (by decide)) rfl m2 k2 b2 .nil pass0 (pa_cons (pe_prop (pv 0) TQ.cl hp GA (hr.mono (by decide)) bA .nil pass0 rfl) pa_nil)))
        (blkOk_by (own := [("order", 2)]) (N := ["question", "first", "order"]) (sc := defScope s_no) (by decide +kernel)) (fun _ _ _ _ _ => pg_name (i := 2) sc_no.nd rfl (Or.inl rfl)) (fun _ _ _ _ _ => pts_nil)
        (fun _ _ _ _ _ => pe_call G3 (hr.mono (by decide)) rfl m3 k3 b3 .nil pass0 (pa_cons (pv 2) pa_nil))) pa_nil)))
    (pss_one (ps_ret (pe_glbStar M GI (hr.mono (by decide)) rfl gC passL (pv 1)))))), ?_⟩
  have qv : ∀ {G : Hp}, Same (offS S H) G → QV C as G v0 := fun s => hq.mono s
  refine (e_call1 (P := fun H v => Rp H v .none) (e_varP (P := QV C as) rfl fun _ s => qv s) fun F v r => ⟨v, as, rfl, r, rfl⟩) S H fr (Same.refl _) _ fun v1 H1 s1 _ => ?_
  have fr1 := fr.mono s1
  -- the least one
  have hne : nums as ≠ [] := fun z => by
    have := lm.1
    rw [z] at this
    cases this
  obtain ⟨p, ps, hps⟩ := List.exists_cons_of_ne_nil hne
  obtain ⟨m', em, lm'⟩ := minD_least ps p
  have mm : m' = m := least_one lm' lm fun x => by rw [hps]
  subst mm
  have gm := nums_good g l4 lm.1
  have el : (PyData.list (((ords [[]] as).filter fun _ => true).map fun o => lD (num o))) = .list (lD p :: ps.map lD) := by
    rw [filter_yes, ← List.map_cons, ← hps]
    unfold nums
    rw [List.map_map]
    rfl
  refine go_setS (P := fun H v => Rp H v (lD m')) fr1 (eqD (e_minD (d := lD p) (ds := ps.map lD) (eqD (e_lcG (enc := lD) (as := ords [[]] as) (b := fun _ => true) (ev := fun o => lD (num o)) (it_list (e_call (a_cons (e_prop (e_varP (P := QV C as) rfl fun _ s => qv ((offS_mono s1).trans s)) qv_atoms) a_nil) ⟨as, rfl, l4, rfl⟩)) (Nat.le_trans (ords_count l4) (by decide))
    fun o ho x F1 sF r => g_name ⟨rfl, b_yes, fun _ => e_call (a_cons (e_var rfl r) a_nil) ⟨o, rfl, by rw [ords_small ho]; exact l4, rfl⟩⟩) el) (alikes (p :: ps)) (Nat.le_trans (depths (p :: ps)) (by decide))) em) fun v2 H2 s2 fr2 r2 => ?_
  exact go_ret (P := QV C m') fr2 (e_glbStarT (N := N) (e_var rfl r2) gm.1 (by omega) (by omega)) fun v H3 s3 p3 => q v H3 (s1.trans (s2.trans s3)) p3
end
end Q

set_option maxHeartbeats 4000000
/-! set(x), x a list of ints, with what sorted asks of the set -/
namespace Ca
open PySem PySem.Spec PyProof.Rows L2
section
variable {P : Program} {w : World} {A : Around} {E : Value → Shared → Prop} {s : Shared}
/-- what stands behind: the new set S holds just the ints ns -/
def SetHas (w : World) (s : Shared) (ns : List Int) (s2 : Shared) : Prop := ∃ (g : Heap) (tk c : Nat), s2 = { s with heap := g, toks := tk } ∧ SetR w g s.heap.objs.size (fun j => decide (j ∈ ns)) c ∧ c ≤ ns.length ∧ ∀ b o, s.heap.get? b = some o → g.get? b = some o
/-- the set is filled from the list -/
theorem fill_list {l : Addr} {vs : Array Value} {ns : List Int} {R : Result → Shared → Prop} (calm : A.handled = none) (isl : s.heap.IsList l vs) (are : IntsAre vs.toList ns) (few : ns.length + 1 < scanBound)
    (fin : ∀ s2, SetHas w s ns s2 → R (.ok (.ret .none)) s2) :
    codeAny (model P w) A (.builtin "set.update.loop" ⟨[.ref s.heap.objs.size, .ref (s.heap.objs.size + 1)], []⟩) R { s with heap := (s.heap.push (eSet w)).push { cls := .type "list_iterator", data := .fields #[.ref l, .int 0 0] } } := by
  have many : vs.size = ns.length := by
    have z := IntsAre.length are
    rw [Array.length_toList] at z
    exact z
  obtain ⟨ol, hol, hrest⟩ := id isl
  have low : l < s.heap.objs.size := Heap.lt_size hol
  have sz : (s.heap.push (eSet w)).objs.size = s.heap.objs.size + 1 := Heap.size_push ..
  have at0 : (s.heap.push (eSet w)).get? s.heap.objs.size = some (eSet w) := Heap.get?_push_size _ rfl
  have isl1 : (s.heap.push (eSet w)).IsList l vs := isl.push _
  have ne1 : l ≠ s.heap.objs.size + 1 := Nat.ne_of_lt (Nat.lt_succ_of_lt low)
  have notin : s.heap.objs.size ∉ [s.heap.objs.size + 1, l] := by
    intro z
    rcases List.mem_cons.mp z with z | z
    · exact absurd z (Nat.ne_of_lt (Nat.lt_succ_self _))
    · exact absurd (List.mem_singleton.mp z) (Nat.ne_of_gt low)
  have vals : ∀ (i : Nat) (v : Value), vs[i]? = some v → ∃ k t, ns[i]? = some k ∧ v = .int k t := fun i v hv => by
    have lt : i < ns.length := by
      rw [← many]
      exact (Array.getElem?_eq_some_iff.mp hv).1
    obtain ⟨t, e⟩ := IntsAre.int_at are i v (by rw [Array.getElem?_toList]; exact hv)
    have g : ns.getD i 0 = ns[i] := by
      rw [List.getD_eq_getElem?_getD, List.getElem?_eq_getElem lt]
      rfl
    exact ⟨ns[i], t, List.getElem?_eq_getElem lt, by rw [e, g]⟩
  have c3 : A.in1.handled = none := by simp [calm]
  have iter : ((s.heap.push (eSet w)).push { cls := .type "list_iterator", data := .fields #[.ref l, .int 0 0] }).IsListIter (s.heap.objs.size + 1) l 0 := by
    rw [← sz]
    exact ⟨_, Heap.get?_push_size _ rfl, rfl, rfl⟩
  have keep0 : ((s.heap.push (eSet w)).push { cls := .type "list_iterator", data := .fields #[.ref l, .int 0 0] }).get? s.heap.objs.size = some (eSet w) := Heap.get?_push_of_some _ at0
  refine set_update_ints ((Walks.list c3 (s.heap.objs.size + 1) l ne1 vs).toS) s.heap.objs.size notin ns many few vals (vs.size - 0) 0 _ (by omega) (Nat.zero_le _) ⟨iter, isl1.push _⟩ ⟨0, Nat.le_refl 0, setR_new_at keep0⟩ fun s2 c mv hc hR => fin s2 ?_
  obtain ⟨g, gs, dr, tk, os⟩ := s2
  obtain rfl : gs = s.gens := mv.gens
  obtain rfl : dr = s.drawn := mv.drawn
  obtain rfl : os = s.os := mv.os
  refine ⟨g, tk, c, rfl, hR, by omega, fun b o e => ?_⟩
  have lb := Heap.lt_size e
  refine mv.heap b o (fun z => ?_) (Heap.get?_push_of_some _ (Heap.get?_push_of_some _ e))
  rcases List.mem_cons.mp z with z | z
  · exact absurd z (Nat.ne_of_lt lb)
  · exact absurd (List.mem_singleton.mp z) (Nat.ne_of_lt (Nat.lt_succ_of_lt lb))
/-- set(x) -/
theorem set_of_list {l : Addr} {vs : Array Value} {ns : List Int} {Q : Value → Shared → Prop} (calm : A.handled = none) (isl : s.heap.IsList l vs) (are : IntsAre vs.toList ns) (few : ns.length + 1 < scanBound)
    (fin : ∀ s2, SetHas w s ns s2 → Q (.ref s.heap.objs.size) s2) : wpAny (model P w) A (call (.type "set") [.ref l]) Q E s := by
  have f1 := F.called_set.made
  have f2 := F.called_set.sub
  have f3 := F.called_set.notType
  have f4 := F.called_set.canCreate
  have f5 := F.typeCall_set_1 (.ref l)
  obtain ⟨c0, tl0, f6⟩ := F.called_set.mro
  refine wpAny_call (codeAny_of_tree (show wpAny _ _ (callAny (.type "set") _) _ _ _ from wpAny_pure ⟨Code.quiet_builtin _ (by decide +kernel), codeAny_builtin F.entry_type_call ?_⟩))
  rw [Around.under_plain (weight_type_call_type "set" [.ref l] []) rfl]
  repeat (any_goals (first | assumption | wp_step))
  refine codeAny_mono (code_set_led1 (.ref l) (E := E) (Q₁ := fun v s1 => v = .ref s.heap.objs.size ∧ s1 = { s with heap := s.heap.push (eSet w) }) ⟨rfl, rfl⟩) fun r s1 hr => ?_
  match r, hr with
  | .error e, hr => exact hr
  | .ok (.ret v), hr =>
    obtain ⟨ev, es⟩ := hr
    subst ev es
    have at0 : (s.heap.push (eSet w)).get? s.heap.objs.size = some (eSet w) := Heap.get?_push_size _ rfl
    have ty0 : Shared.TypeIs { s with heap := s.heap.push (eSet w) } (.ref s.heap.objs.size) "set" := ⟨_, at0, rfl⟩
    have f7 := F.called_set.init.lookup
    have f8 := F.called_set.init.bind (.ref s.heap.objs.size)
    repeat (any_goals (first | assumption | wp_step))
    refine codeAny_mono (codeAny_call_builtin (R := wants (fun v s2 => v = .none ∧ SetHas w s ns s2) E) F.called_set.init.plain F.entry_set_init (check_set_init_1 ty0 ?_)) fun r2 s2 hr2 => ?_
    · have ne : (Value.type "list" == Value.type "dict") = false := by decide
      have g1 := F.sub_list_set
      have g2 := F.sub_list_frozenset
      obtain ⟨ol, hol, hc, n, hd⟩ := id isl
      obtain ⟨oc, od, odt, osl⟩ := ol
      obtain rfl : oc = .type "list" := hc
      obtain rfl : odt = .seq vs n := hd
      have atl : (s.heap.push (eSet w)).get? l = some { cls := .type "list", dict := od, data := .seq vs n, slots := osl } := Heap.get?_push_of_some _ hol
      (unfold Builtin.«set.__init__»; unfold noKeywords; unfold Builtin.Frozenset.updateFrom)
      generalize ei : pyIter = IT
      wp_walk
      subst ei
      have isl1 : (s.heap.push (eSet w)).IsList l vs := ⟨_, atl, rfl, n, rfl⟩
      refine wpAny_pyIter_list isl1 (wpAny_bind (wpAny_runValue ?_))
      have sz : (s.heap.push (eSet w)).objs.size = s.heap.objs.size + 1 := Heap.size_push ..
      rw [sz]
      refine fill_list (by simp [calm]) isl are few fun s2 has => ?_
      exact wpAny_pure (wpAny_pure ⟨rfl, has⟩)
    · match r2, hr2 with
      | .error e, hr2 => exact hr2
      | .ok (.ret v2), hr2 =>
        obtain ⟨ev2, has⟩ := hr2
        subst ev2
        repeat (any_goals (first | assumption | wp_step))
        exact fin _ has
end
end Ca

set_option maxHeartbeats 4000000
namespace Ca
open PySem PySem.Spec PyProof.Rows L2
def rSetL (w : World) : List V → Hp → VK → Prop := fun vs H Q => ∃ (a : Addr) (ns : List Int), vs = [.ref a] ∧ H a = some (.lst (ns.map V.int)) ∧ ns.length ≤ 1000 ∧
  ∀ (p : Addr) (c : Nat), H p = none → c ≤ ns.length → Q (.ref p) (upd H p (SetO w p (fun j => decide (j ∈ ns)) c))
theorem cr_setL {X : Cx} (hc : X.calm = true) : CallR X (.type "set") (rSetL X.w) := by
  intro pins s σ H vs us Q I r h
  obtain ⟨a, ns, rfl, ha, hz, q⟩ := h
  rw [Vals.ref1 r]
  obtain ⟨_, its, n, rv, ho⟩ := (show ObjOk X.prog X.w H s.heap a (.lst (ns.map V.int)) from I.hok a _ ha)
  have isl : s.heap.IsList a its.toArray := ⟨_, ho, rfl, n, rfl⟩
  refine set_of_list (I.ok.hd hc) isl (ns := ns) (by simpa using rv.ints) (by unfold scanBound; omega) fun s2 has => ?_
  obtain ⟨g, tk, c, rfl, hR, hcn, kp⟩ := has
  have hn : H s.heap.objs.size = none := I.hok.fresh (Nat.le_refl _)
  exact ⟨.ref s.heap.objs.size, _, I.laid (t' := tk) kp (Nat.le_refl _) (setO_new hR), rfl, q _ c hn hcn⟩
section
variable {w : World} {σ : L2.St} {F : Hp} {ta : TE} {ds : List PyData}
/-- sorted(set(x)), x a list of ints -/
theorem e_sortSet (h : EvD ta σ F (.list ds)) (hi : ∀ d ∈ ds, ∃ i, d = .int i) (hz : ds.length < 64) : EvD (tCB (rSortedSet w) (tCons (tCB (rSetL w) (tCons ta tNil)) tNil)) σ F (.list ((sd (ds.map Ca.intD)).map .int)) := fun S H1 f s Q q =>
  h S H1 f s _ fun v H2 s2 r => by
    obtain ⟨a, xs, rfl, ha, rx⟩ := rp_lst r
    rw [of_ints hi] at rx
    rw [ints_rp rx] at ha
    refine ⟨a, _, rfl, ha, by rw [List.length_map]; omega, fun p c hp hc => ?_⟩
    rw [List.length_map] at hc
    refine ⟨p, _, c, rfl, upd_same, by omega, fun ns u up hm hl hu => ?_⟩
    have e : ns = sd (ds.map Ca.intD) := up_eq up (sd_up _) fun k => by rw [hm k, sd_mem, decide_eq_true_iff]
    subst e
    have hu2 : H2 u = none := by
      have : u ≠ p := fun z => by
        rw [z, upd_same] at hu
        cases hu
      rw [upd_ne this] at hu
      exact hu
    refine q _ _ (s2.trans ((same_new hp).trans (same_new hu))) (.lst ?_ (rp_ints _))
    rw [offS_at ((f.mono s2).new hu2), upd_same]
end
end Ca

set_option maxHeartbeats 4000000
namespace Q
open PySem PySem.Spec PyProof.Rows L2 Ca
/-! ### the pen: what is drawn -/
/-- the pen at s may be asked k times more -/
def Pn (k : Nat) (H : Hp) (s : Addr) : Prop := ∃ a b c : Int, H s = some (.lst [.int a, .int b, .int c]) ∧ 0 ≤ b ∧ b < 2 ^ 31 ∧ 0 ≤ c ∧ c + k ≤ 2 ^ 50
theorem Pn.mono {k j : Nat} {H : Hp} {s : Addr} (h : Pn k H s) (hj : j ≤ k) : Pn j H s := by
  obtain ⟨a, b, c, e, h1, h2, h3, h4⟩ := h
  exact ⟨a, b, c, e, h1, h2, h3, by omega⟩
theorem Pn.same {k : Nat} {H H' : Hp} {s : Addr} (h : Pn k H s) (st : Same H H') : Pn k H' s := by
  obtain ⟨a, b, c, e, r⟩ := h
  exact ⟨a, b, c, st _ _ e, r⟩
theorem Pn.at {k : Nat} {H H' : Hp} {s : Addr} (h : Pn k H s) (e : H' s = H s) : Pn k H' s := by
  obtain ⟨a, b, c, e1, r⟩ := h
  exact ⟨a, b, c, by rw [e]; exact e1, r⟩
/-- the pen may have changed, nothing else -/
structure Sp1 (k : Nat) (H H' : Hp) (s : Addr) : Prop where
  pn : Pn k H' s
  same : ∀ b, b ≠ s → H' b = H b
abbrev s_pdraw : Stmt := top 54
abbrev s_pcell : Stmt := top 52
abbrev s_ppen : Stmt := top 53
theorem sc_pdraw : FnScope ["_law_pen_here", "_law_many", "_law_digit", "_law_stir"] ["_law_pen_here", "_law_many"] (defScope s_pdraw) := ⟨rfl, rfl, rfl, by decide +kernel, rfl, by decide +kernel, by decide +kernel⟩
theorem sc_pcell : FnScope ["_law_script", "_law_k"] ["_law_script", "_law_k"] (defScope s_pcell) := ⟨rfl, rfl, rfl, by decide +kernel, rfl, by decide +kernel, by decide +kernel⟩
theorem sc_ppen : FnScope ["_law_cell"] ["_law_cell"] (defScope s_ppen) := ⟨rfl, rfl, rfl, by decide +kernel, rfl, by decide +kernel, by decide +kernel⟩
def spPDraw : Sp := fun vs H Q _ => ∃ (s : Addr) (m : Int) (k : Nat), vs = [.ref s, .int m] ∧ Pn (k + 1) H s ∧ 0 < m ∧ m < 2 ^ 62 ∧ ∀ (z : Int) (H' : Hp), 0 ≤ z → z < m → Sp1 k H H' s → Q (.int z) H'
def spPCell (K : PySem.W.Frag) : Sp := fun vs H Q _ => ∃ (a : Addr) (ns : List Int) (z0 : Int), vs = [.ref a, .int z0] ∧ 0 ≤ z0 ∧ SqL K H a (ns.map V.int) ∧ ∀ z : Int, Q (.int z) H
def spPPen : Sp := fun vs H Q _ => ∃ c : Int, vs = [.int c] ∧ ∀ (p : Addr) (H' : Hp), H p = none → (∃ x y z : Int, H' = upd H p (.lst [.int x, .int y, .int z])) → Pn (2 ^ 40) H' p → Q (.ref p) H'
theorem m_bd (x : Int) {m : Int} (h0 : 0 < m) (h1 : m < 2 ^ 62) : -(2 ^ 64) < x % m ∧ x % m < 2 ^ 64 := by
  have a := Int.emod_nonneg x (show m ≠ 0 by omega)
  have b := Int.emod_lt_of_pos x h0
  omega
theorem c_dw {i m : Int} (h0 : 0 < m) (h1 : m < 2 ^ 62) : CDivW i m := wide_div (b := 62) h0 (by omega) (by decide) (by decide)
section
variable {P : Program} {w : World} {K : PySem.W.Frag} {mg : PySem.Str → Option Value} {base : Heap}
theorem ok_pdraw {f : Addr} {fd : FuncData} (F : FnP K "_law_draw" s_pdraw f fd) : FnOk P w K mg base CX0 1 f fd ["_law_pen_here", "_law_many"] spPDraw := by
  refine F.ok sc_pdraw (fun vs H Q E h => ?_) (fun cdv A outer s H vs Q E hr h => ?_)
  · obtain ⟨s, m, k, rfl, _⟩ := h
    rfl
  · obtain ⟨s, m, k, rfl, ⟨a, b, c, hs, b0, b1, c0, c1⟩, m0, m1, q⟩ := h
    refine ⟨_, PSs.nox (pss_cons (ps_if (pt_cmpR op_gt (pe_ix ix_list (pv 0) pe_int (fun _ _ => rfl)) pe_int (nomark _)) (pss_cons (ps_set (i := 2) sc_pdraw.nd rfl (.inl rfl) (pe_op op_mod (pe_ix ix_list (pv 0) pe_int (fun _ _ => rfl)) (pv 1)))
      (pss_cons (ps_asg (pe_op op_fdivW (pe_ix ix_list (pv 0) pe_int (fun _ _ => rfl)) (pv 1)) (pg_sub (pv 0) pe_int set_list))
      (pss_one (ps_ret (pv 2))))) pss_nil)
      (pss_cons (ps_asg (pe_op op_add (pe_ix ix_list (pv 0) pe_int (fun _ _ => rfl)) pe_int) (pg_sub (pv 0) pe_int set_list))
      (pss_cons (ps_set (i := 3) sc_pdraw.nd rfl (.inl rfl) (pe_op op_mod (pe_op op_mul (pe_op op_add (pe_ix ix_list (pv 0) pe_int (fun _ _ => rfl)) (pe_op op_mul pe_int (pe_ix ix_list (pv 0) pe_int (fun _ _ => rfl)))) (pe_op op_add pe_int (pe_op op_mul pe_int (pe_ix ix_list (pv 0) pe_int (fun _ _ => rfl))))) pe_int))
      (pss_cons (ps_set (i := 3) sc_pdraw.nd rfl (.inl rfl) (pe_op op_mod (pe_op op_add (pe_op op_add (pe_op op_mul (pv 3) (pv 3)) (pe_op op_mul pe_int (pe_ix ix_list (pv 0) pe_int (fun _ _ => rfl)))) pe_int) pe_int))
      (pss_one (ps_ret (pe_op op_mod (pe_op op_fdiv (pe_op op_mod (pe_op op_mul (pv 3) pe_int) pe_int) pe_int) (pv 1)))))))), ?_⟩
    refine ⟨_, rfl, s, _, 0, _, rfl, rfl, .inl (.inl hs), rfl, a, 0, rfl, rfl, _, rfl, ?_⟩
    by_cases ca : (0 : Int) < a
    · rw [decide_eq_true ca]
      refine iteT ⟨_, rfl, s, _, 0, _, rfl, rfl, .inl (.inl hs), rfl, _, rfl, a, m, rfl, rfl, m0, ?_⟩
      refine ⟨_, rfl, s, _, 0, _, rfl, rfl, .inl (.inl hs), rfl, _, rfl, a, m, rfl, rfl, c_dw m0 m1, ?_⟩
      refine ⟨_, rfl, s, _, 0, 0, rfl, rfl, hs, rfl, ?_⟩
      refine ⟨_, rfl, q _ _ (Int.emod_nonneg _ (by omega)) (Int.emod_lt_of_pos _ m0) ⟨⟨_, b, c, upd_same, b0, b1, c0, by omega⟩, fun _ h => upd_ne h⟩⟩
    · rw [decide_eq_false ca]
      refine iteF ⟨_, rfl, s, _, 2, _, rfl, rfl, .inl (.inl hs), rfl, c, 1, rfl, rfl, ?_⟩
      refine ⟨_, rfl, s, _, 2, 2, rfl, rfl, hs, rfl, ?_⟩
      refine ⟨_, rfl, s, _, 1, _, rfl, rfl, .inl (.inl upd_same), rfl, ?_⟩
      refine ⟨_, rfl, s, _, 2, _, rfl, rfl, .inl (.inl upd_same), rfl, 17, _, rfl, rfl, .inl ⟨by decide, by decide⟩, b, _, rfl, rfl, ?_⟩
      refine ⟨_, rfl, s, _, 2, _, rfl, rfl, .inl (.inl upd_same), rfl, 2, _, rfl, rfl, .inl ⟨by decide, by decide⟩, 69621, _, rfl, rfl, _, _, rfl, rfl, .inl ⟨by omega, by omega⟩, _, 2147483647, rfl, rfl, show (0 : Int) < 2147483647 by decide, ?_⟩
      refine ⟨_, rfl, _, rfl, _, _, rfl, rfl, .inl (m_bd _ (by decide) (by decide)), ?_⟩
      refine ⟨_, rfl, s, _, 2, _, rfl, rfl, .inl (.inl upd_same), rfl, 40503, _, rfl, rfl, .inl ⟨by decide, by decide⟩, _, _, rfl, rfl, _, 5, rfl, rfl, _, 2147483629, rfl, rfl, show (0 : Int) < 2147483629 by decide, ?_⟩
      refine ⟨_, rfl, _, 48271, rfl, rfl, .inr ⟨by decide, by decide⟩, _, 2147483647, rfl, rfl, show (0 : Int) < 2147483647 by decide, _, 32, rfl, rfl, ⟨by decide, by decide⟩, _, rfl, _, m, rfl, rfl, m0, ?_⟩
      exact q _ _ (Int.emod_nonneg _ (by omega)) (Int.emod_lt_of_pos _ m0) ⟨⟨a, b, c + 1, upd_same, b0, b1, by omega, by omega⟩, fun _ h => upd_ne h⟩
theorem ok_pcell {f : Addr} {fd : FuncData} (F : FnP K "_law_cell_at" s_pcell f fd) (T : Tx K mg) : FnOk P w K mg base CX0 1 f fd ["_law_script", "_law_k"] (spPCell K) := by
  refine F.ok sc_pcell (fun vs H Q E h => ?_) (fun cdv A outer s H vs Q E hr h => ?_)
  · obtain ⟨a, ns, i, rfl, _⟩ := h
    rfl
  · obtain ⟨a, ns, z0, rfl, hz, hs, q⟩ := h
    obtain ⟨i, rfl⟩ := Int.eq_ofNat_of_zero_le hz
    refine ⟨_, PSs.nox (pss_cons (ps_if (pt_cmpR op_lt (pv 1) (pe_callB call_len_seq (by rfl) T.len bLen (pa_cons (pv 0) pa_nil)) (nomark _)) (pss_one (ps_ret (pe_ix ix_list (pv 0) (pv 1) (fun _ _ => rfl)))) pss_nil)
      (pss_one (ps_ret pe_int))), ?_⟩
    refine ⟨_, rfl, _, rfl, a, _, rfl, .inl hs, _, _, rfl, rfl, _, rfl, ?_⟩
    by_cases c : (i : Int) < (((ns.map V.int).length : Nat) : Int)
    · rw [decide_eq_true c]
      have hi : i < ns.length := by
        rw [List.length_map] at c
        omega
      refine iteT ⟨_, rfl, _, rfl, a, _, i, .int ns[i], rfl, rfl, hs, L2.at_of rfl ?_, q _⟩
      rw [List.getElem?_map, List.getElem?_eq_getElem hi]
      rfl
    · rw [decide_eq_false c]
      exact iteF (q _)
theorem ok_ppen {f : Addr} {fd : FuncData} (F : FnP K "_law_pen" s_ppen f fd) (T : Tx K mg) : FnOk P w K mg base CX0 1 f fd ["_law_cell"] spPPen := by
  refine F.ok sc_ppen (fun vs H Q E h => ?_) (fun cdv A outer s H vs Q E hr h => ?_)
  · obtain ⟨c, rfl, _⟩ := h
    rfl
  · obtain ⟨c, rfl, q⟩ := h
    refine ⟨_, PSs.nox (pss_one (ps_ret (pe_lst (pa_cons (pe_callB (call_max2 rfl) (by rfl) T.max bMax (pa_cons pe_int (pa_cons (pe_op op_sub (pv 0) (pe_op op_pow pe_int pe_int)) pa_nil))) (pa_cons (pe_op op_mod (pv 0) pe_int) (pa_cons pe_int pa_nil)))))), ?_⟩
    refine ⟨_, rfl, 10, 18, rfl, rfl, ⟨by decide, by decide, by decide⟩, _, _, rfl, rfl, _, _, rfl, ?_⟩
    refine ⟨_, rfl, _, 1000000007, rfl, rfl, show (0 : Int) < 1000000007 by decide, by show 3 ≤ sizeLine; decide, fun p hp => q p _ hp ⟨_, _, _, rfl⟩ ⟨_, _, _, upd_same, Int.emod_nonneg _ (by decide), ?_, by decide, by decide⟩⟩
    have := Int.emod_lt_of_pos c (show (0 : Int) < 1000000007 by decide)
    omega
end
end Q

set_option maxHeartbeats 4000000
namespace Q
open PySem PySem.Spec PyProof.Rows L2 Ca
/-! ### what is read through tuples alone stays where tuples stay -/
def onlyT (H : Hp) : Hp := fun a => match H a with
  | some (.tup xs) => some (.tup xs)
  | _ => none
theorem onlyT_same {H : Hp} : Same (onlyT H) H := fun b o e => by
  unfold onlyT at e
  split at e
  · rename_i xs h
    rw [h]
    exact e
  · cases e
def KT (H H' : Hp) : Prop := ∀ t ys, H t = some (.tup ys) → H' t = some (.tup ys)
theorem KT.trans {H H1 H2 : Hp} (a : KT H H1) (b : KT H1 H2) : KT H H2 := fun t ys e => b t ys (a t ys e)
theorem KT.of {H H' : Hp} (h : Same H H') : KT H H' := fun t ys e => h _ _ e
theorem KT.m {H H' : Hp} (k : KT H H') : Same (onlyT H) (onlyT H') := fun b o e => by
  unfold onlyT at e
  split at e
  · rename_i xs h
    have h2 := k b xs h
    unfold onlyT
    rw [h2]
    exact e
  · cases e
/-- all but what stands at s is kept -/
def Kp (s : Addr) (H H' : Hp) : Prop := ∀ b o, b ≠ s → H b = some o → H' b = some o
theorem Kp.refl (s : Addr) (H : Hp) : Kp s H H := fun _ _ _ e => e
theorem Kp.trans {s : Addr} {H H1 H2 : Hp} (a : Kp s H H1) (b : Kp s H1 H2) : Kp s H H2 := fun x o hx e => b x o hx (a x o hx e)
theorem Kp.of {s : Addr} {H H' : Hp} (h : Same H H') : Kp s H H' := fun b o _ e => h b o e
theorem Sp1.kp {k : Nat} {s : Addr} {H H' : Hp} (h : Sp1 k H H' s) : Kp s H H' := fun b o hb e => by rw [h.same b hb]; exact e
theorem Sp1.kt {j k : Nat} {s : Addr} {H H' : Hp} (h : Sp1 k H H' s) (hs : Pn j H s) : KT H H' := fun t ys e => by
  obtain ⟨a, b, c, e1, _⟩ := hs
  rw [h.same t (ne_of e e1 (by intro z; cases z))]
  exact e
theorem Kp.kt {j : Nat} {s : Addr} {H H' : Hp} (h : Kp s H H') (hs : Pn j H s) : KT H H' := fun t ys e => by
  obtain ⟨a, b, c, e1, _⟩ := hs
  exact h t _ (ne_of e e1 (by intro z; cases z)) e
theorem kt_lst {p : Addr} {H : Hp} {o : HO} {xs : List V} (h : H p = some (.lst xs)) : KT H (upd H p o) := fun t ys e => by
  rw [upd_ne (ne_of e h (by intro z; cases z))]
  exact e
theorem rpa_erase {H : Hp} : ∀ {xs : List V} {ds : List PyData} (j : Nat), RpA H xs ds → RpA H (xs.eraseIdx j) (ds.eraseIdx j)
  | _, _, _, .nil => .nil
  | _, _, 0, .cons _ r => r
  | _, _, j + 1, .cons h r => .cons h (rpa_erase j r)
theorem at_T {H : Hp} {x : V} {a : At} (h : Rp H x (atD a)) : Rp (onlyT H) x (atD a) := by
  obtain ⟨p, rfl, hp⟩ := at_of h
  exact .tup (by unfold onlyT; rw [hp]) (.cons (.str _) (.cons (.int _) (.cons (.int _) .nil)))
theorem ats_T {H : Hp} : ∀ {as : List At} {xs : List V}, RpA H xs (as.map atD) → RpA (onlyT H) xs (as.map atD)
  | [], _, h => by
    cases h
    exact .nil
  | a :: as, _, h => by
    cases h with
    | cons h1 h2 => exact .cons (at_T h1) (ats_T h2)
theorem seqIx {n j : Nat} (h : j < n) : seqIndex? (j : Int) n = some j := by
  have e : ixN n (j : Int) = some j := by
    unfold ixN
    simp [h]
  exact (ixN_seq e).1
theorem erase_perm {α : Type} {l : List α} {j : Nat} {x : α} (h : l[j]? = some x) : (x :: l.eraseIdx j).Perm l := by
  induction l generalizing j with
  | nil => simp at h
  | cons y l ih =>
    cases j with
    | zero =>
      cases (show some y = some x from h)
      exact .refl _
    | succ j =>
      have := ih (j := j) (by simpa using h)
      exact (List.Perm.swap y x _).trans (this.cons y)
theorem go_test {tt : TT} {σ : L2.St} {S : Addr → Bool} {H : Hp} {b : Bool} {Q : Bool → Hp → Prop} (f : Fr S H) (h : EvB tt σ (offS S H) b) (k : ∀ H', Same H H' → Q b H') : tt σ H Q := h S H f (Same.refl _) Q k
/-! ### _law_mixed -/
abbrev s_mix : Stmt := top 55
theorem sc_mix : FnScope ["_law_pen_here", "_law_things", "_law_left", "_law_found"] ["_law_pen_here", "_law_things"] (defScope s_mix) := ⟨rfl, rfl, rfl, by decide +kernel, rfl, by decide +kernel, by decide +kernel⟩
def spMix : Sp := fun vs H Q _ => ∃ (s a : Addr) (xs : List V) (ds : List PyData) (k : Nat), vs = [.ref s, .ref a] ∧ Pn (k + ds.length) H s ∧ H a = some (.lst xs) ∧ RpA (onlyT H) xs ds ∧ (∀ d ∈ ds, Cq 5 d) ∧ ds.length ≤ 10 ∧
  ∀ (fo : Addr) (ys : List V) (es : List PyData) (H' : Hp), H fo = none → Kp s H H' → Pn k H' s → H' fo = some (.lst ys) → RpA (onlyT H') ys es → es.Perm ds → Q (.ref fo) H'
section
variable {P : Program} {w : World} {K : PySem.W.Frag} {mg : PySem.Str → Option Value} {base : Heap}
theorem ok_mix {f : Addr} {fd : FuncData} (F : FnP K "_law_mixed" s_mix f fd) (T : Tx K mg) (DD : Fd P w K mg base "_law_draw" 1 ["_law_pen_here", "_law_many"] spPDraw) : FnOk P w K mg base CX0 2 f fd ["_law_pen_here", "_law_things"] spMix := by
  obtain ⟨fD, fdD, GD, bD, kD, gD⟩ := DD.ex
  refine F.ok sc_mix (fun vs H Q E h => ?_) (fun cdv A outer s0 H vs Q E hr h => ?_)
  · obtain ⟨s, a, xs, ds, k, rfl, _⟩ := h
    rfl
  · obtain ⟨s, a, xs, ds, k, rfl, pn, ha, rx, cq, hz, q⟩ := h
    refine ⟨_, PSs.nox (pss_cons (ps_par (i := 2) (j := 3) (by rfl) sc_mix.nd rfl rfl (by decide) rfl rfl (pa_cons (pe_callTy (call_lstQ : CallR _ _ (rLstQ K)) (by rfl) T.lst bLst (pa_cons (pv 1) pa_nil)) (pa_cons (pe_lst pa_nil) pa_nil)) (by rfl))
      (pss_cons (ps_while PassesOwn.never (pt_cmpR (op_neD hr.units : OpR _ _ (rNeD K)) (pv 2) (pe_lst pa_nil) (nomark _)) (pss_one (ps_expr (pe_bm PySem.F.plainAttrs_list PySem.F.slot_list_append PySem.F.type_list_append mt_append (pv 3) (pa_cons (pe_bm PySem.F.plainAttrs_list PySem.F.slot_list_pop PySem.F.type_list_pop mt_popAt (pv 2) (pa_cons (pe_call GD (hr.mono (by decide)) rfl gD kD bD .nil pass0 (pa_cons (pv 0) (pa_cons (pe_callB call_len_seq (by rfl) T.len bLen (pa_cons (pv 2) pa_nil)) pa_nil))) pa_nil)) pa_nil)))))
      (pss_one (ps_ret (pv 3))))), ?_⟩
    have lx := rx.length
    refine ⟨_, rfl, a, xs, rfl, .inl (.inl (.inl ha)), fun lf hlf => ⟨Nat.zero_le _, fun fo hfo => ⟨_, _, rfl, ?_⟩⟩⟩
    have el := upd_same (H := H) (a := lf) (o := .lst xs)
    have sl := same_new (o := .lst xs) hlf
    generalize upd H lf (.lst xs) = H1 at el sl hfo ⊢
    have ef := upd_same (H := H1) (a := fo) (o := .lst [])
    have sf := same_new (o := .lst []) hfo
    have nlf : lf ≠ fo := ne_of_none el hfo
    have hfo0 : H fo = none := sl.free hfo
    generalize upd H1 fo (.lst []) = H2 at ef sf ⊢
    have ss := sl.trans sf
    have nls : lf ≠ s := fun z => by
      obtain ⟨x, y, z2, e, _⟩ := pn
      rw [← z, hlf] at e
      cases e
    have nfs : fo ≠ s := fun z => by
      obtain ⟨x, y, z2, e, _⟩ := pn
      rw [← z, hfo0] at e
      cases e
    refine ⟨fun m σ H' => ∃ (ys zs : List V) (e1 e2 : List PyData), σ = [some (.ref s), some (.ref a), some (.ref lf), some (.ref fo)] ∧ H' lf = some (.lst ys) ∧ RpA (onlyT H') ys e1 ∧ H' fo = some (.lst zs) ∧ RpA (onlyT H') zs e2 ∧ (e1 ++ e2).Perm ds ∧ m = ys.length ∧ Pn (k + ys.length) H' s ∧ Kp s H H',
      ⟨xs.length, xs, [], ds, [], rfl, sf _ _ el, rx.mono (KT.of ss).m, ef, .nil, by rw [List.append_nil], rfl, by rw [lx]; exact pn.same ss, Kp.of ss⟩, ?_⟩
    rintro m σ H3 ⟨ys, zs, e1, e2, rfl, hl, r1, hf, r2, pm, rfl, pn3, kp3⟩
    have ly := r1.length
    have lz := r2.length
    have lp := pm.length_eq
    rw [List.length_append] at lp
    have c1 : ∀ d ∈ e1, Cq 5 d := fun d hd => cq d (pm.subset (List.mem_append_left _ hd))
    refine go_test (S := fun _ => false) fr0 (b_test (e_neD (e_var rfl (Rp.lst hl (r1.mono onlyT_same))) (e_lst a_nil) (cq_lst c1).ok (cq_lst (k := 0) fun d hd => by cases hd).ok)) fun H4 s4 => ?_
    have kt4 := KT.of s4
    rw [eqv_nil]
    cases e1 with
    | nil =>
      cases r1
      refine iteF ?_
      exact ⟨_, rfl, q fo zs e2 H4 hfo0 (kp3.trans (Kp.of s4)) ((pn3.same s4).mono (by omega)) (s4 _ _ hf) (r2.mono kt4.m) (by simpa using pm)⟩
    | cons d0 er =>
      refine iteT ?_
      have y0 : 0 < ys.length := by
        rw [ly]
        exact Nat.succ_pos _
      refine ⟨fun σ' H' => ∃ m', m' < ys.length ∧ ∃ (ys zs : List V) (e1 e2 : List PyData), σ' = [some (.ref s), some (.ref a), some (.ref lf), some (.ref fo)] ∧ H' lf = some (.lst ys) ∧ RpA (onlyT H') ys e1 ∧ H' fo = some (.lst zs) ∧ RpA (onlyT H') zs e2 ∧ (e1 ++ e2).Perm ds ∧ m' = ys.length ∧ Pn (k + ys.length) H' s ∧ Kp s H H', fun σ' H' h => h, ?_⟩
      have hl4 := s4 _ _ hl
      have hf4 := s4 _ _ hf
      have pn4 : Pn (k + (ys.length - 1) + 1) H4 s := (pn3.same s4).mono (by omega)
      refine ⟨_, rfl, .inl ⟨rfl, _, .inl (.inl hf4)⟩, _, rfl, .inl ⟨rfl, _, .inl (.inl hl4)⟩, _, rfl, _, rfl, lf, ys, rfl, .inl (.inl (.inl hl4)), s, _, k + (ys.length - 1), rfl, pn4, by omega, by omega, fun z H5 z0 zm sp => ?_⟩
      obtain ⟨j, rfl⟩ := Int.eq_ofNat_of_zero_le z0
      have hj : j < ys.length := by omega
      have hl5 : H5 lf = some (.lst ys) := by
        rw [sp.same lf nls]
        exact hl4
      have hf5 : H5 fo = some (.lst zs) := by
        rw [sp.same fo nfs]
        exact hf4
      have hy : ys[j]? = some ys[j] := List.getElem?_eq_getElem hj
      obtain ⟨d, hd, ry⟩ := r1.get hy
      have kt5 := kt4.trans (sp.kt pn4)
      refine ⟨lf, ys, _, j, ys[j], rfl, rfl, hl5, by omega, by omega, seqIx hj, hy, fo, zs, ys[j], rfl, rfl, by rw [upd_ne nlf.symm]; exact hf5, small1000 (by omega), ?_⟩
      have kt6 : KT H3 (upd (upd H5 lf (.lst (ys.eraseIdx j))) fo (.lst (zs ++ [ys[j]]))) := (kt5.trans (kt_lst hl5)).trans (kt_lst (xs := zs) (by rw [upd_ne nlf.symm]; exact hf5))
      have le : (ys.eraseIdx j).length = ys.length - 1 := List.length_eraseIdx_of_lt hj
      refine ⟨ys.length - 1, by omega, ys.eraseIdx j, zs ++ [ys[j]], (d0 :: er).eraseIdx j, e2 ++ [d], rfl, by rw [upd_ne nlf, upd_same], (rpa_erase j r1).mono kt6.m, upd_same, (r2.mono kt6.m).append (.cons (ry.mono kt6.m) .nil), ?_, le.symm, ?_, fun b o hb e => ?_⟩
      · have p1 := erase_perm hd
        have p2 : (((d0 :: er).eraseIdx j) ++ (e2 ++ [d])).Perm ((d :: (d0 :: er).eraseIdx j) ++ e2) := by
          rw [← List.append_assoc]
          exact List.perm_append_singleton d _
        exact p2.trans ((p1.append_right e2).trans pm)
      · rw [le]
        refine (sp.pn).at ?_
        rw [upd_ne nfs.symm, upd_ne nls.symm]
      · have e5 := (kp3.trans ((Kp.of s4).trans sp.kp)) b o hb e
        rw [upd_ne (ne_of_none e hfo0), upd_ne (ne_of_none e hlf)]
        exact e5
end
end Q

set_option maxHeartbeats 4000000
namespace Q
open PySem PySem.Spec PyProof.Rows L2 Ca
theorem cq_at {a : At} (g : Good a) : Cq 1 (atD a) := by
  refine cq_tup fun d hd => ?_
  have hk : PyData.strOk a.k = true := by
    have k := g.k
    unfold kindOk inV at k
    rw [List.any_eq_true] at k
    obtain ⟨y, hy, e⟩ := k
    rcases List.mem_cons.mp hy with q | hy
    · subst q
      have e1 : PySem.Str.ofString "A" = a.k := by simpa [eqV] using e
      rw [← e1]
      decide +kernel
    · rcases List.mem_cons.mp hy with q | hy
      · subst q
        have e1 : PySem.Str.ofString "B" = a.k := by simpa [eqV] using e
        rw [← e1]
        decide +kernel
      · rcases List.mem_cons.mp hy with q | hy
        · subst q
          have e1 : PySem.Str.ofString "C" = a.k := by simpa [eqV] using e
          rw [← e1]
          decide +kernel
        · cases hy
  rcases List.mem_cons.mp hd with e | hd
  · rw [e]
    exact ⟨by simp [nd], by simp [PyData.canLay0, hk], by simp [PyData.depth]⟩
  · rcases List.mem_cons.mp hd with e | hd
    · rw [e]
      exact cq_int _
    · rcases List.mem_cons.mp hd with e | hd
      · rw [e]
        exact cq_int _
      · cases hd
theorem cq_ats {as : List At} (g : ∀ a ∈ as, Good a) : Cq 2 (.list (as.map atD)) := cq_lst fun d hd => by
  obtain ⟨a, ha, rfl⟩ := List.mem_map.mp hd
  exact cq_at (g a ha)
theorem cq_nil : Cq 1 (.list []) := cq_lst fun d hd => by cases hd
end Q

set_option maxHeartbeats 4000000
namespace Q
open PySem PySem.Spec PyProof.Rows L2 Ca
/-! ### _law_drawn -/
theorem go_ifAnd {σ : L2.St} {S : Addr → Bool} {H : Hp} {t1 t2 : TT} {ta tb : TS} {D : L2.Ends} {b : Bool} (f : Fr S H) (h : EvB t1 σ (offS S H) b) (k1 : b = true → ∀ H', Same H H' → t2 σ H' fun c H1 => if c = true then ta D σ H1 else tb D σ H1) (k2 : b = false → ∀ H', Same H H' → tb D σ H') :
    tIfS (tAnd t1 t2) ta tb D σ H := h S H f (Same.refl _) _ fun H' s => by
  cases b with
  | true => exact k1 rfl H' s
  | false => exact k2 rfl H' s
abbrev s_drn : Stmt := top 56
abbrev nDrn : List PySem.Str := ["_law_pen_here", "_law_most", "_law_count", "_law_some", "_law_names_here", "_law_words", "_law_found", "_law_turn", "_law_word"]
theorem sc_drn : FnScope nDrn ["_law_pen_here", "_law_most"] (defScope s_drn) := ⟨rfl, rfl, rfl, by decide +kernel, rfl, by decide +kernel, by decide +kernel⟩
def dig (z : Int) : Prop := 0 ≤ z ∧ z ≤ 9
def KindT (z : PySem.Str) : Prop := 0 < z.length ∧ z.length ≤ 1000 ∧ ∀ c ∈ z.cps.toList, kindOk ⟨#[c]⟩ = true
theorem atI_nat2 {α : Type} {xs : List α} {j : Nat} {x : α} (h : xs[j]? = some x) : atI xs (j : Int) = some x := by
  have hj : j < xs.length := (List.getElem?_eq_some_iff.mp h).1
  unfold atI
  have e : ixN xs.length (j : Int) = some j := by
    unfold ixN
    simp [hj]
  rw [e]
  exact h
def kindL4 : List PySem.Str := ["A", "AB", "AAB", "BCA"]
theorem kind4_ok : ∀ z ∈ kindL4, KindT z := by
  have h : ∀ z ∈ kindL4, 0 < z.length ∧ z.length ≤ 1000 ∧ ∀ c ∈ z.cps.toList, kindOk ⟨#[c]⟩ = true := by decide +kernel
  exact h
def tenL : List Int := [0, 1, 2, 3, 4, 5, 6, 7, 8, 9]
def spDrn : Sp := fun vs H Q _ => ∃ (s : Addr) (zm : Int) (m k : Nat), vs = [.ref s, .int zm] ∧ zm = (m : Int) ∧ 1 ≤ m ∧ m ≤ 4 ∧ Pn (k + 40) H s ∧
  ∀ (fo : Addr) (xs : List V) (as : List At) (H' : Hp), H fo = none → Kp s H H' → Pn k H' s → H' fo = some (.lst xs) → RpA (onlyT H') xs (as.map atD) → 1 ≤ as.length → as.length ≤ m → (∀ a ∈ as, Good a) → Q (.ref fo) H'
/-- between two turns -/
structure DInv (s nl fo : Addr) (ns : List Int) (H0 : Hp) (k i : Nat) (H : Hp) : Prop where
  kp : Kp s H0 H
  pn : Pn (k + 4 * (4 - i)) H s
  nam : H nl = some (.lst (ns.map V.int))
  f0 : H0 fo = none
  nf : nl ≠ fo
  ls : nl ≠ s
  fs : fo ≠ s
  at_ : ∃ (xs : List V) (as : List At), H fo = some (.lst xs) ∧ RpA (onlyT H) xs (as.map atD) ∧ as.length = i ∧ ∀ a ∈ as, Good a
section
variable {P : Program} {w : World} {K : PySem.W.Frag} {mg : PySem.Str → Option Value} {base : Heap}
theorem ok_drn {f : Addr} {fd : FuncData} (F : FnP K "_law_drawn" s_drn f fd) (T : Tx K mg) (DD : Fd P w K mg base "_law_draw" 1 ["_law_pen_here", "_law_many"] spPDraw) (DM : Fd P w K mg base "_law_mixed" 2 ["_law_pen_here", "_law_things"] spMix) :
    FnOk P w K mg base CX0 3 f fd ["_law_pen_here", "_law_most"] spDrn := by
  obtain ⟨fD, fdD, GD, bD, kD, gD⟩ := DD.ex
  obtain ⟨fM, fdM, GM, bM, kM, gM⟩ := DM.ex
  refine F.ok sc_drn (fun vs H Q E h => ?_) (fun cdv A outer s0 H vs Q E hr h => ?_)
  · obtain ⟨s, zm, m, k, rfl, _⟩ := h
    rfl
  · obtain ⟨s, zm, m, k, rfl, rfl, m1, m4, pn, q⟩ := h
    refine ⟨_, PSs.nox (pss_cons (ps_par (i := 2) (j := 3) (by rfl) sc_drn.nd rfl rfl (by decide) rfl rfl (pa_cons (pe_op op_add pe_int (pe_call GD (hr.mono (by decide)) rfl gD kD bD .nil pass0 (pa_cons (pv 0) (pa_cons (pv 1) pa_nil)))) (pa_cons (pe_call GM (hr.mono (by decide)) rfl gM kM bM .nil pass0 (pa_cons (pv 0) (pa_cons (pe_listRg rfl (by rfl) T.lst (prg_1 (by rfl) T.range pe_int)) pa_nil))) pa_nil)) (by rfl))
      (pss_cons (ps_set (i := 4) sc_drn.nd rfl (.inl rfl) (pe_slice sl_list (pv 3) po_none (po_some (pe_ix ix_list (pe_lst (pa_cons pe_int (pa_cons pe_int (pa_cons pe_int (pa_cons pe_int (pa_cons pe_int (pa_cons pe_int (pa_cons pe_int pa_nil)))))))) (pe_call GD (hr.mono (by decide)) rfl gD kD bD .nil pass0 (pa_cons (pv 0) (pa_cons pe_int pa_nil))) (fun _ _ => rfl)))))
      (pss_cons (ps_set (i := 5) sc_drn.nd rfl (.inl rfl) (pe_ix ix_list (pe_lst (pa_cons pe_str (pa_cons pe_str (pa_cons pe_str (pa_cons pe_str pa_nil))))) (pe_call GD (hr.mono (by decide)) rfl gD kD bD .nil pass0 (pa_cons (pv 0) (pa_cons pe_int pa_nil))) (fun _ _ => rfl)))
      (pss_cons (ps_set (i := 6) sc_drn.nd rfl (.inl rfl) (pe_lst pa_nil))
      (pss_cons (ps_for PassesOwn.never rfl (pi_range1 rfl T.range (pa_cons (pv 2) pa_nil)) (pg_name (i := 7) sc_drn.nd rfl (.inl rfl)) (pss_one (ps_if (PW.pt (pw_and (pt_cmpR (op_neD hr.units : OpR _ _ (rNeD K)) (pv 6) (pe_lst pa_nil) (nomark _)) (pw_and1 (pt_cmpR op_eq (pe_call GD (hr.mono (by decide)) rfl gD kD bD .nil pass0 (pa_cons (pv 0) (pa_cons pe_int pa_nil))) pe_int (nomark _))))) (pss_one (ps_expr (pe_bm PySem.F.plainAttrs_list PySem.F.slot_list_append PySem.F.type_list_append mt_append (pv 6) (pa_cons (pe_ix ix_list (pv 6) (pe_call GD (hr.mono (by decide)) rfl gD kD bD .nil pass0 (pa_cons (pv 0) (pa_cons (pe_callB call_len_seq (by rfl) T.len bLen (pa_cons (pv 6) pa_nil)) pa_nil))) (fun _ _ => rfl)) pa_nil)))) (pss_cons (ps_set (i := 8) sc_drn.nd rfl (.inl rfl) (pe_ix ix_str (pv 5) (pe_call GD (hr.mono (by decide)) rfl gD kD bD .nil pass0 (pa_cons (pv 0) (pa_cons (pe_callB call_len_str (by rfl) T.len bLen (pa_cons (pv 5) pa_nil)) pa_nil))) (fun _ _ => rfl)))
      (pss_one (ps_expr (pe_bm PySem.F.plainAttrs_list PySem.F.slot_list_append PySem.F.type_list_append mt_append (pv 6) (pa_cons (pe_tup (pa_cons (pv 8) (pa_cons (pe_ix ix_list (pv 4) (pe_call GD (hr.mono (by decide)) rfl gD kD bD .nil pass0 (pa_cons (pv 0) (pa_cons (pe_callB call_len_seq (by rfl) T.len bLen (pa_cons (pv 4) pa_nil)) pa_nil))) (fun _ _ => rfl)) (pa_cons (pe_ix ix_list (pv 4) (pe_call GD (hr.mono (by decide)) rfl gD kD bD .nil pass0 (pa_cons (pv 0) (pa_cons (pe_callB call_len_seq (by rfl) T.len bLen (pa_cons (pv 4) pa_nil)) pa_nil))) (fun _ _ => rfl)) pa_nil)))) pa_nil))))))))
      (pss_one (ps_ret (pv 6)))))))), ?_⟩
    refine ⟨_, rfl, _, rfl, s, _, k + 39, rfl, pn, by omega, by omega, fun cz H1 z0 zm sp1 => ⟨1, cz, rfl, rfl, _, rfl, 10, rfl, ⟨by decide, by decide⟩, fun p hp => ?_⟩⟩
    have e1 := upd_same (H := H1) (a := p) (o := .lst (rgV 0 10))
    have sn := same_new (o := .lst (rgV 0 10)) hp
    generalize upd H1 p (.lst (rgV 0 10)) = H2 at e1 sn ⊢
    have pn2 : Pn (k + 29 + (tenL.map PyData.int).length) H2 s := (sp1.pn.same sn).mono (show k + 29 + 10 ≤ k + 39 by omega)
    refine ⟨s, p, _, tenL.map .int, k + 29, rfl, pn2, e1, rp_ints tenL, fun d hd => ?_, by decide, fun so ys es H3 hso kp3 pn3 hso3 ry pm => ⟨_, _, rfl, ?_⟩⟩
    · obtain ⟨i, _, rfl⟩ := List.mem_map.mp hd
      exact cq_int _
    obtain ⟨ns10, rfl, pm10⟩ : ∃ ns : List Int, es = ns.map .int ∧ ns.Perm tenL := by
      refine ⟨es.map Ca.intD, of_ints (fun d hd => ?_), ?_⟩
      · obtain ⟨i, _, rfl⟩ := List.mem_map.mp (pm.subset hd)
        exact ⟨i, rfl⟩
      · have := pm.map Ca.intD
        rw [List.map_map] at this
        exact this
    have ey := ints_rp ry
    subst ey
    have l10 : ns10.length = 10 := pm10.length_eq
    have kpA : Kp s H H3 := (sp1.kp.trans (Kp.of sn)).trans kp3
    -- the names
    refine ⟨_, rfl, by show 7 ≤ sizeLine; decide, fun p2 hp2 => ?_⟩
    have e4 := upd_same (H := H3) (a := p2) (o := .lst [V.int 1, V.int 2, V.int 2, V.int 3, V.int 3, V.int 4, V.int 8])
    have s4 := same_new (o := .lst [V.int 1, V.int 2, V.int 2, V.int 3, V.int 3, V.int 4, V.int 8]) hp2
    generalize upd H3 p2 (.lst [V.int 1, V.int 2, V.int 2, V.int 3, V.int 3, V.int 4, V.int 8]) = H4 at e4 s4 ⊢
    have nps : p2 ≠ s := fun z => by
      obtain ⟨x, y, z2, e, _⟩ := pn3
      rw [← z, hp2] at e
      cases e
    refine ⟨_, rfl, s, 7, k + 28, rfl, pn3.same s4, by decide, by decide, fun z7 H5 a0 a7 sp5 => ?_⟩
    obtain ⟨j7, rfl⟩ := Int.eq_ofNat_of_zero_le a0
    obtain ⟨nn, hnn, n1, n8⟩ : ∃ nn : Nat, [V.int 1, V.int 2, V.int 2, V.int 3, V.int 3, V.int 4, V.int 8][j7]? = some (V.int ((nn : Nat) : Int)) ∧ 1 ≤ nn ∧ nn ≤ 8 := by
      have : j7 < 7 := by omega
      match j7, this with
      | 0, _ => exact ⟨1, rfl, by decide, by decide⟩
      | 1, _ => exact ⟨2, rfl, by decide, by decide⟩
      | 2, _ => exact ⟨2, rfl, by decide, by decide⟩
      | 3, _ => exact ⟨3, rfl, by decide, by decide⟩
      | 4, _ => exact ⟨3, rfl, by decide, by decide⟩
      | 5, _ => exact ⟨4, rfl, by decide, by decide⟩
      | 6, _ => exact ⟨8, rfl, by decide, by decide⟩
    have so5 : H5 so = some (.lst (ns10.map V.int)) := by
      have nso : so ≠ s := fun z => by
        obtain ⟨x, y, z2, e, _⟩ := pn2
        rw [← z, hso] at e
        cases e
      rw [sp5.same so nso]
      exact s4 _ _ hso3
    refine ⟨p2, _, _, _, rfl, rfl, .inl (.inl (by rw [sp5.same p2 nps]; exact e4)), atI_nat2 hnn, _, rfl, so, _, rfl, .inl (.inl so5), fun nl hnl => ?_⟩
    have ec : cutV (ns10.map V.int) none (some ((nn : Nat) : Int)) = (ns10.take nn).map V.int := by
      unfold cutV
      rw [HT.sIx_none, HT.sIx_nat, Nat.sub_zero, List.drop_zero, List.length_map, Nat.min_eq_left (by omega), List.map_take]
    rw [ec]
    have e6 := upd_same (H := H5) (a := nl) (o := .lst ((ns10.take nn).map V.int))
    have s6 := same_new (o := .lst ((ns10.take nn).map V.int)) hnl
    generalize upd H5 nl (.lst ((ns10.take nn).map V.int)) = H6 at e6 s6 ⊢
    have nls : nl ≠ s := fun z => by
      obtain ⟨x, y, z2, e, _⟩ := sp5.pn
      rw [← z, hnl] at e
      cases e
    generalize hns : ns10.take nn = ns at e6
    have lns : 0 < ns.length ∧ ns.length ≤ 8 := by
      rw [← hns, List.length_take]
      omega
    have dns : ∀ n ∈ ns, dig n := fun n hn => by
      rw [← hns] at hn
      have := pm10.subset (List.mem_of_mem_take hn)
      have z : ∀ n ∈ tenL, dig n := by
        unfold dig tenL
        decide
      exact z n this
    have pn6 : Pn (k + 28) H6 s := sp5.pn.same s6
    have kpB : Kp s H H6 := ((kpA.trans (Kp.of s4)).trans sp5.kp).trans (Kp.of s6)
    -- the words
    refine ⟨by show 4 ≤ sizeLine; decide, fun p3 hp3 => ?_⟩
    have e7 := upd_same (H := H6) (a := p3) (o := .lst [V.str "A", V.str "AB", V.str "AAB", V.str "BCA"])
    have s7 := same_new (o := .lst [V.str "A", V.str "AB", V.str "AAB", V.str "BCA"]) hp3
    generalize upd H6 p3 (.lst [V.str "A", V.str "AB", V.str "AAB", V.str "BCA"]) = H7 at e7 s7 ⊢
    have np3 : p3 ≠ s := fun z => by
      obtain ⟨x, y, z2, e, _⟩ := pn6
      rw [← z, hp3] at e
      cases e
    refine ⟨_, rfl, s, 4, k + 27, rfl, pn6.same s7, by decide, by decide, fun z4 H8 b0 b4 sp8 => ?_⟩
    obtain ⟨j4, rfl⟩ := Int.eq_ofNat_of_zero_le b0
    obtain ⟨wd, hwd, kw⟩ : ∃ wd, [V.str "A", V.str "AB", V.str "AAB", V.str "BCA"][j4]? = some (V.str wd) ∧ KindT wd := by
      have : j4 < 4 := by omega
      match j4, this with
      | 0, _ => exact ⟨_, rfl, kind4_ok _ (.head _)⟩
      | 1, _ => exact ⟨_, rfl, kind4_ok _ (.tail _ (.head _))⟩
      | 2, _ => exact ⟨_, rfl, kind4_ok _ (.tail _ (.tail _ (.head _)))⟩
      | 3, _ => exact ⟨_, rfl, kind4_ok _ (.tail _ (.tail _ (.tail _ (.head _))))⟩
    refine ⟨p3, _, _, _, rfl, rfl, .inl (.inl (by rw [sp8.same p3 np3]; exact e7)), atI_nat2 hwd, ?_⟩
    have e8 : H8 nl = some (.lst (ns.map V.int)) := by
      rw [sp8.same nl nls]
      exact s7 _ _ e6
    have kpC : Kp s H H8 := (kpB.trans (Kp.of s7)).trans sp8.kp
    refine ⟨Nat.zero_le _, fun fo hfo => ?_⟩
    have nfs : fo ≠ s := fun z => by
      obtain ⟨x, y, z2, e, _⟩ := sp8.pn
      rw [← z, hfo] at e
      cases e
    have f0 : H fo = none := by
      cases e : H fo with
      | none => rfl
      | some o =>
        rw [kpC fo o nfs e] at hfo
        cases hfo
    have ini : DInv s nl fo ns H k 0 (upd H8 fo (.lst [])) := ⟨kpC.trans (Kp.of (same_new hfo)), (sp8.pn.same (same_new hfo)).mono (by omega), same_new hfo _ _ e8, f0, ne_of_none e8 hfo, nls, nfs, [], [], upd_same, .nil, rfl, fun a h => by cases h⟩
    obtain ⟨cn, rfl⟩ := Int.eq_ofNat_of_zero_le z0
    refine ⟨_, rfl, _, rfl, by omega, by omega, for_range (lo := 0) (n := (1 + (cn : Int)).toNat) (fun i σ H' => ∃ x7 x8, σ = [some (.ref s), some (.int m), some (.int (1 + (cn : Int))), some (.ref so), some (.ref nl), some (.str wd), some (.ref fo), x7, x8] ∧ DInv s nl fo ns H k i H') ⟨none, none, rfl, ini⟩ ?_ ?_⟩
    · rintro i σ H9 hi ⟨x7, x8, rfl, W⟩
      have i4 : i < 4 := by omega
      obtain ⟨xs, as, g1, g2, g3, g4⟩ := W.at_
      have lx := g2.length
      rw [List.length_map] at lx
      have put : ∀ (v : V) (a : At) (H10 : Hp), Kp s H9 H10 → Pn (k + 4 * (4 - (i + 1))) H10 s → H10 fo = some (.lst xs) → KT H9 H10 → Rp (onlyT H10) v (atD a) → Good a → DInv s nl fo ns H k (i + 1) (upd H10 fo (.lst (xs ++ [v]))) := by
        intro v a H10 kp pn10 hfo10 kt ra ga
        refine ⟨fun b o hbs e => ?_, pn10.at (upd_ne W.fs.symm), by rw [upd_ne W.nf]; exact kp _ _ W.ls W.nam, W.f0, W.nf, W.ls, W.fs, xs ++ [v], as ++ [a], upd_same, ?_, ?_, ?_⟩
        · rw [upd_ne (ne_of_none e W.f0)]
          exact (W.kp.trans kp) b o hbs e
        · rw [List.map_append]
          have k2 : KT H10 (upd H10 fo (.lst (xs ++ [v]))) := kt_lst hfo10
          exact (g2.mono (kt.trans k2).m).append (.cons (ra.mono k2.m) .nil)
        · rw [List.length_append, g3]
          rfl
        · intro c hc
          rcases List.mem_append.mp hc with z | z
          · exact g4 c z
          · rw [List.mem_singleton.mp z]
            exact ga
      have pw : Pn (k + 4 * (4 - (i + 1)) + 4) H9 s := W.pn.mono (by omega)
      refine go_ifAnd (S := fun _ => false) fr0 (b_test (e_neD (e_var rfl (Rp.lst g1 (g2.mono onlyT_same))) (e_lst a_nil) (cq_ats g4).ok cq_nil.ok)) (fun c1 H10 s10 => ?_) fun c1 Hx sx => ?_
      · have pw10 := pw.same s10
        refine ⟨_, rfl, s, 6, k + 4 * (4 - (i + 1)) + 3, rfl, pw10, by decide, by decide, fun y Hx y0 y6 spx => ⟨rfl, _, rfl, ite2 (fun _ => ?_) fun _ => ?_⟩⟩
        · have hfx : Hx fo = some (.lst xs) := by
            rw [spx.same fo W.fs]
            exact s10 _ _ g1
          have x0 : 0 < xs.length := by
            rw [eqv_nil, List.isEmpty_map] at c1
            cases as with
            | nil => cases c1
            | cons a0 ar =>
              rw [lx]
              exact Nat.succ_pos _
          refine ⟨_, rfl, .inl ⟨rfl, _, .inl (.inl hfx)⟩, _, rfl, _, rfl, _, rfl, fo, xs, rfl, .inl (.inl (.inl hfx)), s, _, k + 4 * (4 - (i + 1)) + 2, rfl, spx.pn, by omega, by omega, fun z1 Hb d0 dl spb => ?_⟩
          obtain ⟨j1, rfl⟩ := Int.eq_ofNat_of_zero_le d0
          have hj1 : j1 < xs.length := by omega
          have hfb : Hb fo = some (.lst xs) := by
            rw [spb.same fo W.fs]
            exact hfx
          have hx1 : xs[j1]? = some xs[j1] := List.getElem?_eq_getElem hj1
          obtain ⟨a1, ha1, r1⟩ := l_get (enc := atD) g2 hx1
          refine ⟨fo, xs, _, xs[j1], rfl, rfl, .inl (.inl hfb), atI_nat2 hx1, fo, xs, _, rfl, rfl, hfb, small1000 (by omega), ?_⟩
          have ktb : KT H9 Hb := (KT.of s10).trans ((spx.kt pw10).trans (spb.kt spx.pn))
          exact ⟨_, _, rfl, put _ a1 _ ((Kp.of s10).trans (spx.kp.trans spb.kp)) (spb.pn.mono (by omega)) hfb ktb (r1.mono ktb.m) (g4 a1 (List.mem_of_getElem? ha1))⟩
        · have kpx : Kp s H9 Hx := (Kp.of s10).trans spx.kp
          have hfx : Hx fo = some (.lst xs) := by
            rw [spx.same fo W.fs]
            exact s10 _ _ g1
          have ktx : KT H9 Hx := (KT.of s10).trans (spx.kt pw10)
          have pnx := spx.pn
          have nmx := kpx _ _ W.ls W.nam
          refine ⟨_, rfl, _, rfl, _, rfl, _, rfl, Nat.le_of_lt (small1000 kw.2.1), s, _, k + 4 * (4 - (i + 1)) + 2, rfl, pnx, by have := kw.1; omega, by have := kw.2.1; omega, fun zc Ha c0 cl spa => ?_⟩
          obtain ⟨jc, rfl⟩ := Int.eq_ofNat_of_zero_le c0
          have hjc : jc < wd.cps.toList.length := by
            rw [Array.length_toList]
            show jc < wd.length
            omega
          refine ⟨wd, _, wd.cps.toList[jc], rfl, rfl, Nat.le_of_lt (small1000 kw.2.1), atI_nat2 (List.getElem?_eq_getElem hjc), ?_⟩
          have kc := kw.2.2 _ (List.getElem_mem hjc)
          generalize wd.cps.toList[jc] = ch at kc
          have hfa : Ha fo = some (.lst xs) := by rw [spa.same fo W.fs]; exact hfx
          have nma : Ha nl = some (.lst (ns.map V.int)) := by rw [spa.same nl W.ls]; exact nmx
          refine ⟨_, rfl, .inl ⟨rfl, _, .inl (.inl hfa)⟩, _, rfl, _, rfl, _, rfl, _, rfl, nl, _, rfl, .inl (.inl (.inl nma)), s, _, k + 4 * (4 - (i + 1)) + 1, rfl, spa.pn, by rw [List.length_map]; omega, by rw [List.length_map]; omega, fun z1 Hb d0 dl spb => ?_⟩
          rw [List.length_map] at dl
          obtain ⟨j1, rfl⟩ := Int.eq_ofNat_of_zero_le d0
          have hj1 : j1 < ns.length := by omega
          have nmb : Hb nl = some (.lst (ns.map V.int)) := by rw [spb.same nl W.ls]; exact nma
          refine ⟨nl, _, _, .int ns[j1], rfl, rfl, .inl (.inl nmb), atI_nat2 (by rw [List.getElem?_map, List.getElem?_eq_getElem hj1]; rfl), ?_⟩
          refine ⟨_, rfl, _, rfl, _, rfl, nl, _, rfl, .inl (.inl (.inl nmb)), s, _, k + 4 * (4 - (i + 1)), rfl, spb.pn, by rw [List.length_map]; omega, by rw [List.length_map]; omega, fun z2 Hc f0' fl spc => ?_⟩
          rw [List.length_map] at fl
          obtain ⟨j2, rfl⟩ := Int.eq_ofNat_of_zero_le f0'
          have hj2 : j2 < ns.length := by omega
          have nmc : Hc nl = some (.lst (ns.map V.int)) := by rw [spc.same nl W.ls]; exact nmb
          refine ⟨nl, _, _, .int ns[j2], rfl, rfl, .inl (.inl nmc), atI_nat2 (by rw [List.getElem?_map, List.getElem?_eq_getElem hj2]; rfl), by show 3 ≤ sizeLine; decide, fun u hu => ?_⟩
          have hfc : Hc fo = some (.lst xs) := by rw [spc.same fo W.fs, spb.same fo W.fs]; exact hfa
          have su := same_new (o := .tup [V.str ⟨#[ch]⟩, V.int ns[j1], V.int ns[j2]]) hu
          refine ⟨fo, xs, _, rfl, rfl, su _ _ hfc, small1000 (by omega), ?_⟩
          have g1' := dns _ (List.getElem_mem hj1)
          have g2' := dns _ (List.getElem_mem hj2)
          exact ⟨_, _, rfl, put _ ⟨⟨#[ch]⟩, ns[j1], ns[j2]⟩ _ (((kpx.trans spa.kp).trans (spb.kp.trans spc.kp)).trans (Kp.of su)) (spc.pn.same su) (su _ _ hfc) ((ktx.trans ((spa.kt pnx).trans ((spb.kt spa.pn).trans (spc.kt spb.pn)))).trans (KT.of su)) (at_T (.tup upd_same (.cons (.str _) (.cons (.int _) (.cons (.int _) .nil))))) ⟨kc, g1'.1, g1'.2, g2'.1, g2'.2⟩⟩
      · have kpx : Kp s H9 Hx := Kp.of sx
        have hfx : Hx fo = some (.lst xs) := sx _ _ g1
        have ktx : KT H9 Hx := KT.of sx
        have pnx : Pn (k + 4 * (4 - (i + 1)) + 3) Hx s := (pw.same sx).mono (by omega)
        have nmx := kpx _ _ W.ls W.nam
        refine ⟨_, rfl, _, rfl, _, rfl, _, rfl, Nat.le_of_lt (small1000 kw.2.1), s, _, k + 4 * (4 - (i + 1)) + 2, rfl, pnx, by have := kw.1; omega, by have := kw.2.1; omega, fun zc Ha c0 cl spa => ?_⟩
        obtain ⟨jc, rfl⟩ := Int.eq_ofNat_of_zero_le c0
        have hjc : jc < wd.cps.toList.length := by
          rw [Array.length_toList]
          show jc < wd.length
          omega
        refine ⟨wd, _, wd.cps.toList[jc], rfl, rfl, Nat.le_of_lt (small1000 kw.2.1), atI_nat2 (List.getElem?_eq_getElem hjc), ?_⟩
        have kc := kw.2.2 _ (List.getElem_mem hjc)
        generalize wd.cps.toList[jc] = ch at kc
        have hfa : Ha fo = some (.lst xs) := by rw [spa.same fo W.fs]; exact hfx
        have nma : Ha nl = some (.lst (ns.map V.int)) := by rw [spa.same nl W.ls]; exact nmx
        refine ⟨_, rfl, .inl ⟨rfl, _, .inl (.inl hfa)⟩, _, rfl, _, rfl, _, rfl, _, rfl, nl, _, rfl, .inl (.inl (.inl nma)), s, _, k + 4 * (4 - (i + 1)) + 1, rfl, spa.pn, by rw [List.length_map]; omega, by rw [List.length_map]; omega, fun z1 Hb d0 dl spb => ?_⟩
        rw [List.length_map] at dl
        obtain ⟨j1, rfl⟩ := Int.eq_ofNat_of_zero_le d0
        have hj1 : j1 < ns.length := by omega
        have nmb : Hb nl = some (.lst (ns.map V.int)) := by rw [spb.same nl W.ls]; exact nma
        refine ⟨nl, _, _, .int ns[j1], rfl, rfl, .inl (.inl nmb), atI_nat2 (by rw [List.getElem?_map, List.getElem?_eq_getElem hj1]; rfl), ?_⟩
        refine ⟨_, rfl, _, rfl, _, rfl, nl, _, rfl, .inl (.inl (.inl nmb)), s, _, k + 4 * (4 - (i + 1)), rfl, spb.pn, by rw [List.length_map]; omega, by rw [List.length_map]; omega, fun z2 Hc f0' fl spc => ?_⟩
        rw [List.length_map] at fl
        obtain ⟨j2, rfl⟩ := Int.eq_ofNat_of_zero_le f0'
        have hj2 : j2 < ns.length := by omega
        have nmc : Hc nl = some (.lst (ns.map V.int)) := by rw [spc.same nl W.ls]; exact nmb
        refine ⟨nl, _, _, .int ns[j2], rfl, rfl, .inl (.inl nmc), atI_nat2 (by rw [List.getElem?_map, List.getElem?_eq_getElem hj2]; rfl), by show 3 ≤ sizeLine; decide, fun u hu => ?_⟩
        have hfc : Hc fo = some (.lst xs) := by rw [spc.same fo W.fs, spb.same fo W.fs]; exact hfa
        have su := same_new (o := .tup [V.str ⟨#[ch]⟩, V.int ns[j1], V.int ns[j2]]) hu
        refine ⟨fo, xs, _, rfl, rfl, su _ _ hfc, small1000 (by omega), ?_⟩
        have g1' := dns _ (List.getElem_mem hj1)
        have g2' := dns _ (List.getElem_mem hj2)
        exact ⟨_, _, rfl, put _ ⟨⟨#[ch]⟩, ns[j1], ns[j2]⟩ _ (((kpx.trans spa.kp).trans (spb.kp.trans spc.kp)).trans (Kp.of su)) (spc.pn.same su) (su _ _ hfc) ((ktx.trans ((spa.kt pnx).trans ((spb.kt spa.pn).trans (spc.kt spb.pn)))).trans (KT.of su)) (at_T (.tup upd_same (.cons (.str _) (.cons (.int _) (.cons (.int _) .nil))))) ⟨kc, g1'.1, g1'.2, g2'.1, g2'.2⟩⟩
    · rintro σ H9 ⟨x7, x8, rfl, W⟩
      obtain ⟨xs, as, g1, g2, g3, g4⟩ := W.at_
      exact ⟨_, rfl, q fo xs as H9 W.f0 W.kp (W.pn.mono (by omega)) g1 g2 (by omega) (by omega) g4⟩
end
end Q

set_option maxHeartbeats 4000000
namespace Ca
open PySem PySem.Spec PyProof.Rows L2
section
variable {X : Cx} {K : PySem.W.Frag} {o e : Expr} {to te : TE} {apos cpos : Pos}
theorem pe_indexQ (hK : X.K = K) (ho : PE X o to) (he : PE X e te) (hbase : attributeBase o "index" X.env (eval o X.env) = eval o X.env := by rfl)
    (hfew : ((backTo cpos (starEach [e] X.env)).all (fun x => !x.1) && (backToKw cpos (keywordEach [] X.env)).all (fun x => x.1.isSome)
      && decide (([e] : List Expr).length + ([] : List Keyword).length + (if ([] : List Keyword).isEmpty then 0 else 1) < 30)) = true := by rfl)
    (hline : (apos.endLine == cpos.line) = true := by rfl) (hs : starEach [e] X.env = (false, eval e X.env) :: starEach [] X.env := by rfl) (hplain : (backTo cpos (starEach [] X.env)).any (·.1) = false := by rfl) :
    PE X (.Call (.Attribute o "index" apos) [e] [] cpos) (tBM K "list" (rIndex K) to (tCons te tNil)) := hK ▸ pe_bm PySem.F.plainAttrs_list PySem.F.slot_list_index PySem.F.type_list_index mt_index ho (pa_cons he pa_nil hs) hbase hfew hline hs hplain
end
section
variable {K : PySem.W.Frag} {σ : L2.St} {F : Hp} {to te : TE}
theorem e_index {ns : List Int} {x : Int} (ha : EvD to σ F (.list (ns.map .int))) (hb : EvD te σ F (.int x)) (hx : x ∈ ns) : EvD (tBM K "list" (rIndex K) to (tCons te tNil)) σ F (.int ((ns.idxOf x : Nat) : Int)) := fun S H1 f s Q q =>
  ha S H1 f s _ fun v H2 s2 r2 => by
    obtain ⟨a, xs, rfl, h1, r1⟩ := rp_lst r2
    rw [ints_rp r1] at h1
    refine ⟨.inl ⟨rfl, _, .inl (.inl h1)⟩, hb S H2 (f.mono s2) (s.trans (offS_mono s2)) _ fun w H3 s3 r3 => ?_⟩
    cases r3
    have lt := List.idxOf_lt_length_of_mem hx
    refine ⟨a, _, _, ns.idxOf x, .int x, rfl, rfl, .inl (.inl (s3 _ _ h1)), rfl, ints_flat ns, ?_, ?_, fun m z hm hz => ?_, q _ H3 (s2.trans s3) (.int _)⟩
    · rw [List.getElem?_map, List.getElem?_eq_getElem lt, List.getElem_idxOf]
      rfl
    · simp [eqV]
    · rw [List.getElem?_map] at hz
      have lm : m < ns.length := by omega
      rw [List.getElem?_eq_getElem lm] at hz
      cases (show some (V.int ns[m]) = some z from hz)
      have : ns[m] ≠ x := fun e => by
        have := List.not_of_lt_findIdx (xs := ns) (p := (· == x)) hm
        simp [e] at this
      simp [eqV, this]
end
end Ca
namespace Q
open PySem PySem.Spec PyProof.Rows L2 Ca
/-! ### _law_names, _law_text -/
abbrev s_nms : Stmt := top 57
abbrev s_ptx : Stmt := top 60
theorem sc_nms : FnScope ["_law_atoms", "_law_atom"] ["_law_atoms"] (defScope s_nms) := ⟨rfl, rfl, rfl, by decide +kernel, rfl, by decide +kernel, by decide +kernel⟩
theorem sc_ptx : FnScope ["_law_atoms", "_law_kind", "_law_left", "_law_right"] ["_law_atoms"] (defScope s_ptx) := ⟨rfl, rfl, rfl, by decide +kernel, rfl, by decide +kernel, by decide +kernel⟩
def nmsOf (as : List At) : List Int := sd (as.map At.l ++ as.map At.r)
theorem nmsOf_mem {as : List At} {k : Int} : k ∈ nmsOf as ↔ k ∈ vars as := by
  unfold nmsOf
  rw [sd_mem, mem_vars, List.mem_append, List.mem_map, List.mem_map]
  constructor
  · rintro (⟨a, ha, rfl⟩ | ⟨a, ha, rfl⟩)
    · exact ⟨a, ha, .inl rfl⟩
    · exact ⟨a, ha, .inr rfl⟩
  · rintro ⟨a, ha, rfl | rfl⟩
    · exact .inl ⟨a, ha, rfl⟩
    · exact .inr ⟨a, ha, rfl⟩
def RNms : List PyData → PyData → Prop := fun ds d => ∃ as : List At, ds = [.list (as.map atD)] ∧ as.length ≤ 30 ∧ d = .list ((nmsOf as).map .int)
def RPtx : List PyData → PyData → Prop := fun ds d => ∃ as : List At, ds = [.list (as.map atD)] ∧ as.length ≤ 30 ∧ (∀ a ∈ as, Good a) ∧ d = .str (txt as)
section
variable {P : Program} {w : World} {K : PySem.W.Frag} {mg : PySem.Str → Option Value} {base : Heap}
theorem ok_nms {f : Addr} {fd : FuncData} (F : FnP K "_law_names" s_nms f fd) (T : Tx K mg) (gs : mg "set" = none) : FnOk P w K mg base CX0 1 f fd ["_law_atoms"] (spR RNms) := by
  refine F.ok sc_nms (spR_len (by rintro _ _ ⟨as, rfl, _⟩; rfl)) (fun cdv A outer s H vs Q E hr h => ?_)
  obtain ⟨S, ds, d, fr, rArgs, ⟨as, rfl, hz, rfl⟩, q⟩ := h
  obtain ⟨v0, rfl, r0⟩ := rpa1 rArgs
  refine ⟨_, PSs.nox (pss_one (ps_ret (pe_callB (cr_sortedSet rfl : CallR _ _ (rSortedSet w)) (by rfl) T.sorted bSorted (pa_cons (pe_callTy (cr_setL rfl : CallR _ _ (rSetL w)) (by rfl) gs PyProof.Rows.boot_set (pa_cons (pe_op op_cat (pe_lc (own := [("_law_atom", 1)]) (g := gName 1) rfl sc_nms.nd (pi_listQ (K := K) rfl (pv 0)) (blkOk_by (own := [("_law_atom", 1)]) (N := ["_law_atoms", "_law_atom"]) (sc := defScope s_nms) (by decide +kernel)) (fun _ _ _ _ _ => pg_name (i := 1) sc_nms.nd rfl (Or.inl rfl)) (fun _ _ _ _ _ => pts_nil) (fun _ _ _ _ _ => (pe_ix (ix_tup : IxR _ (rIxT K)) (pv 1) pe_int (fun _ _ => rfl)))) (pe_lc (own := [("_law_atom", 1)]) (g := gName 1) rfl sc_nms.nd (pi_listQ (K := K) rfl (pv 0)) (blkOk_by (own := [("_law_atom", 1)]) (N := ["_law_atoms", "_law_atom"]) (sc := defScope s_nms) (by decide +kernel)) (fun _ _ _ _ _ => pg_name (i := 1) sc_nms.nd rfl (Or.inl rfl)) (fun _ _ _ _ _ => pts_nil) (fun _ _ _ _ _ => (pe_ix (ix_tup : IxR _ (rIxT K)) (pv 1) pe_int (fun _ _ => rfl))))) pa_nil)) pa_nil)))), ?_⟩
  refine go_ret (P := fun H v => Rp H v (.list ((nmsOf as).map .int))) fr (eqD (e_sortSet (e_cat (e_lcL (enc := atD) (e_var rfl r0) ?_ fun t5 ht6 x1 F2 sF3 r4 => g_name ⟨rfl, b_yes, fun _ => (e_ixT (e_var rfl r4) e_int rfl rfl)⟩) (e_lcL (enc := atD) (e_var rfl r0) ?_ fun t11 ht12 x7 F8 sF9 r10 => g_name ⟨rfl, b_yes, fun _ => (e_ixT (e_var rfl r10) e_int rfl rfl)⟩) ?_) ?_ ?_) ?_) q
  · omega
  · omega
  · rw [filter_yes, List.length_map, List.length_map]
    omega
  · intro d hd
    rcases List.mem_append.mp hd with z | z
    · obtain ⟨a, _, rfl⟩ := List.mem_map.mp z
      exact ⟨_, rfl⟩
    · obtain ⟨a, _, rfl⟩ := List.mem_map.mp z
      exact ⟨_, rfl⟩
  · rw [filter_yes, List.length_append, List.length_map, List.length_map]
    omega
  · rw [filter_yes, List.map_append, List.map_map, List.map_map]
    rfl
theorem ok_ptx {f : Addr} {fd : FuncData} (F : FnP K "_law_text" s_ptx f fd) (T : Tx K mg) : FnOk P w K mg base CX0 1 f fd ["_law_atoms"] (spR RPtx) := by
  refine F.ok sc_ptx (spR_len (by rintro _ _ ⟨as, rfl, _⟩; rfl)) (fun cdv A outer s H vs Q E hr h => ?_)
  obtain ⟨S, ds, d, fr, rA, ⟨as, rfl, hz, hg, rfl⟩, q⟩ := h
  obtain ⟨v0, rfl, r0⟩ := rpa1 rA
  refine ⟨_, PSs.nox (pss_one (ps_ret (pe_joinQ (K := K) rfl pe_str (pe_lc (own := [("_law_kind", 1), ("_law_left", 2), ("_law_right", 3)]) (g := gTup K 3 (gCons (gName 1) (gCons (gName 2) (gCons (gName 3) gNil)))) rfl sc_ptx.nd (pi_listQ (K := K) rfl (pv 0)) (blkOk_by (own := [("_law_kind", 1), ("_law_left", 2), ("_law_right", 3)]) (N := ["_law_atoms", "_law_kind", "_law_left", "_law_right"]) (sc := defScope s_ptx) (by decide +kernel)) (fun _ _ _ _ _ => pg_tup (by rfl) (pgs_cons (pg_name (i := 1) sc_ptx.nd rfl (Or.inl rfl)) (pgs_cons (pg_name (i := 2) sc_ptx.nd rfl (Or.inl rfl)) (pgs_cons (pg_name (i := 3) sc_ptx.nd rfl (Or.inl rfl)) pgs_nil)))) (fun _ _ _ _ _ => pts_nil) (fun _ _ _ _ _ => (pe_op op_add_str (pe_op op_add_str (pv 1) (pe_callTy call_str_int (by rfl) T.str bStr (pa_cons (pv 2) pa_nil))) (pe_callTy call_str_int (by rfl) T.str bStr (pa_cons (pv 3) pa_nil)))))))), ?_⟩
  refine go_ret (P := fun H v => Rp H v (.str (txt as))) fr (eqD (e_joinL e_str (e_lcL (enc := atD) (e_var rfl r0) ?_ fun t5 ht6 x1 F2 sF3 r4 => g_tup3 r4 fun v10 v11 v12 q7 q8 q9 => ⟨rfl, b_yes, fun _ => (e_addS (e_addS (e_var rfl q7) (e_strI (e_var rfl q8) ?_) ?_) (e_strI (e_var rfl q9) ?_) ?_)⟩) ?_ ?_) ?_) q
  · omega
  · have := hg t5 ht6
    exact dig_log this.l0 this.l9
  · have := hg t5 ht6
    rw [kind_len this.k, dig_len this.l0 this.l9]
    decide
  · have := hg t5 ht6
    exact dig_log this.r0 this.r9
  · have := hg t5 ht6
    rw [len_app, kind_len this.k, dig_len this.l0 this.l9, dig_len this.r0 this.r9]
    decide
  · intro d hd
    obtain ⟨a, _, rfl⟩ := List.mem_map.mp hd
    exact ⟨_, rfl⟩
  · rw [filter_yes, List.map_map (g := strD)]
    have e := sum_len hg
    have e1 : (PySem.Str.ofString " ").length = 1 := by decide +kernel
    show ((as.map atT).map (·.length)).sum + (as.map atT).length * _ ≤ _
    rw [e, List.length_map, e1]
    omega
  · rw [filter_yes, List.map_map]
    rfl
end
end Q

set_option maxHeartbeats 4000000
namespace Q
open PySem PySem.Spec PyProof.Rows L2 Ca
/-! ### _law_renamed -/
abbrev s_ren : Stmt := top 58
theorem sc_ren : FnScope ["_law_pen_here", "_law_atoms", "_law_some", "_law_names_here", "_law_found", "_law_kind", "_law_left", "_law_right"] ["_law_pen_here", "_law_atoms"] (defScope s_ren) := ⟨rfl, rfl, rfl, by decide +kernel, rfl, by decide +kernel, by decide +kernel⟩
def InjOn (f : Int → Int) (l : List Int) : Prop := ∀ x ∈ l, ∀ y ∈ l, f x = f y → x = y
def only (s : Addr) : Addr → Bool := fun b => decide (b = s)
theorem fr_only {k : Nat} {H : Hp} {s : Addr} (h : Pn k H s) : Fr (only s) H := fun b hb => by
  rw [of_decide_eq_true hb]
  obtain ⟨x, y, z, e, _⟩ := h
  exact ⟨_, e, trivial⟩
theorem only_ne {s b : Addr} (h : b ≠ s) : only s b = false := decide_eq_false h
theorem kp_only {s : Addr} {H H' : Hp} (h : Kp s H H') : Same (offS (only s) H) (offS (only s) H') := fun b o e => by
  unfold offS at e ⊢
  split at e
  · cases e
  · rename_i hb
    rw [if_neg hb]
    exact h b o (fun z => hb (decide_eq_true z)) e
theorem nodup_at {α : Type} : ∀ {l : List α} {i j : Nat} {x : α}, l.Nodup → l[i]? = some x → l[j]? = some x → i = j
  | [], _, _, _, _, h, _ => by simp at h
  | y :: l, 0, 0, _, _, _, _ => rfl
  | y :: l, 0, j + 1, x, hn, h1, h2 => by
    cases (show some y = some x from h1)
    exact absurd (List.mem_of_getElem? (by simpa using h2)) (List.nodup_cons.mp hn).1
  | y :: l, i + 1, 0, x, hn, h1, h2 => by
    cases (show some y = some x from h2)
    exact absurd (List.mem_of_getElem? (by simpa using h1)) (List.nodup_cons.mp hn).1
  | y :: l, i + 1, j + 1, x, hn, h1, h2 => by
    have := nodup_at (l := l) (i := i) (j := j) (x := x) (List.nodup_cons.mp hn).2 (by simpa using h1) (by simpa using h2)
    omega
def dAt : PyData → At
  | .tuple [.str k, .int l, .int r] => ⟨k, l, r⟩
  | _ => ⟨"", 0, 0⟩
theorem dAt_at (a : At) : dAt (atD a) = a := rfl
theorem perm_ats {es : List PyData} {as : List At} (h : es.Perm (as.map atD)) : ∃ bs : List At, es = bs.map atD ∧ bs.Perm as := by
  refine ⟨es.map dAt, ?_, ?_⟩
  · have : ∀ l : List PyData, (∀ d ∈ l, ∃ a, d = atD a) → l = (l.map dAt).map atD := fun l => by
      induction l with
      | nil => intro _; rfl
      | cons d l ih =>
        intro hl
        obtain ⟨a, rfl⟩ := hl d (.head _)
        rw [List.map_cons, List.map_cons, ← ih fun e he => hl e (.tail _ he)]
        rfl
    refine this es fun d hd => ?_
    obtain ⟨a, _, rfl⟩ := List.mem_map.mp (h.subset hd)
    exact ⟨a, rfl⟩
  · have := h.map dAt
    rw [List.map_map] at this
    have e : dAt ∘ atD = id := funext dAt_at
    rw [e, List.map_id] at this
    exact this
def spRen : Sp := fun vs H Q _ => ∃ (s : Addr) (v : V) (as : List At) (k : Nat), vs = [.ref s, v] ∧ Pn (k + 20) H s ∧ Rp (offS (only s) H) v (.list (as.map atD)) ∧ (∀ a ∈ as, Good a) ∧ as.length ≤ 4 ∧
  ∀ (fo : Addr) (xs : List V) (bs : List At) (g : Int → Int) (H' : Hp), H fo = none → Kp s H H' → Pn k H' s → H' fo = some (.lst xs) → RpA (onlyT H') xs (bs.map atD) → bs.Perm (as.map (rnm g)) → InjOn g (vars as) → (∀ a ∈ bs, Good a) → Q (.ref fo) H'
section
variable {P : Program} {w : World} {K : PySem.W.Frag} {mg : PySem.Str → Option Value} {base : Heap}
theorem ok_ren {f : Addr} {fd : FuncData} (F : FnP K "_law_renamed" s_ren f fd) (T : Tx K mg) (DM : Fd P w K mg base "_law_mixed" 2 ["_law_pen_here", "_law_things"] spMix) (DN : Fd P w K mg base "_law_names" 1 ["_law_atoms"] (spR RNms)) :
    FnOk P w K mg base CX0 3 f fd ["_law_pen_here", "_law_atoms"] spRen := by
  obtain ⟨fM, fdM, GM, bM, kM, gM⟩ := DM.ex
  obtain ⟨fN, fdN, GN, bN, kN, gN⟩ := DN.ex
  refine F.ok sc_ren (fun vs H Q E h => ?_) (fun cdv A outer s0 H vs Q E hr h => ?_)
  · obtain ⟨s, v, as, k, rfl, _⟩ := h
    rfl
  · obtain ⟨s, v, as, k, rfl, pn, rA, gd, l4, q⟩ := h
    refine ⟨_, PSs.nox (pss_cons (ps_asg (pe_tup (pa_cons (pe_call GM (hr.mono (by decide)) rfl gM kM bM .nil pass0 (pa_cons (pv 0) (pa_cons (pe_listRg rfl (by rfl) T.lst (prg_1 (by rfl) T.range pe_int)) pa_nil))) (pa_cons (pe_call GN (hr.mono (by decide)) rfl gN kN bN .nil pass0 (pa_cons (pv 1) pa_nil)) pa_nil))) (pg_tup (by rfl) (pgs_cons (pg_name (i := 2) sc_ren.nd rfl (.inr rfl)) (pgs_cons (pg_name (i := 3) sc_ren.nd rfl (.inr rfl)) pgs_nil))))
      (pss_cons (ps_setLc (i := 4) (own := [("_law_kind", 5), ("_law_left", 6), ("_law_right", 7)]) (g := gTup K 3 (gCons (gName 5) (gCons (gName 6) (gCons (gName 7) gNil)))) (by rfl) sc_ren.nd rfl rfl (sw_true rfl rfl rfl (by decide +kernel)) (pi_listQ (K := K) rfl (pv 1))
      (blkOk_by (own := [("_law_kind", 5), ("_law_left", 6), ("_law_right", 7)]) (N := ["_law_pen_here", "_law_atoms", "_law_some", "_law_names_here", "_law_found", "_law_kind", "_law_left", "_law_right"]) (sc := defScope s_ren) (by decide +kernel)) (fun _ _ _ _ _ => (pg_tup (by rfl) (pgs_cons (pg_name (i := 5) sc_ren.nd rfl (.inl rfl)) (pgs_cons (pg_name (i := 6) sc_ren.nd rfl (.inl rfl)) (pgs_cons (pg_name (i := 7) sc_ren.nd rfl (.inl rfl)) pgs_nil))))) (fun _ _ _ _ _ => pts_nil) (fun _ _ _ _ _ => (pe_tup (pa_cons (pv 5) (pa_cons (pe_ix (ix_list : IxR _ (rIxL K)) (pv 2) (pe_indexQ (K := K) rfl (pv 3) (pv 6)) (fun _ _ => rfl)) (pa_cons (pe_ix (ix_list : IxR _ (rIxL K)) (pv 2) (pe_indexQ (K := K) rfl (pv 3) (pv 7)) (fun _ _ => rfl)) pa_nil))))))
      (pss_one (ps_ret (pe_call GM (hr.mono (by decide)) rfl gM kM bM .nil pass0 (pa_cons (pv 0) (pa_cons (pv 4) pa_nil))))))), ?_⟩
    refine ⟨_, rfl, 10, rfl, ⟨by decide, by decide⟩, fun p hp => ?_⟩
    have e1 := upd_same (H := H) (a := p) (o := .lst (rgV 0 10))
    have sn := same_new (o := .lst (rgV 0 10)) hp
    generalize upd H p (.lst (rgV 0 10)) = H2 at e1 sn ⊢
    have pn2 : Pn (k + 10 + (tenL.map PyData.int).length) H2 s := (pn.same sn).mono (show k + 10 + 10 ≤ k + 20 by omega)
    refine ⟨s, p, _, tenL.map .int, k + 10, rfl, pn2, e1, rp_ints tenL, fun d hd => ?_, by decide, fun so ys es H3 hso kp3 pn3 hso3 ry pm => ?_⟩
    · obtain ⟨i, _, rfl⟩ := List.mem_map.mp hd
      exact cq_int _
    obtain ⟨ns10, rfl, pm10⟩ : ∃ ns : List Int, es = ns.map .int ∧ ns.Perm tenL := by
      refine ⟨es.map Ca.intD, of_ints (fun d hd => ?_), ?_⟩
      · obtain ⟨i, _, rfl⟩ := List.mem_map.mp (pm.subset hd)
        exact ⟨i, rfl⟩
      · have := pm.map Ca.intD
        rw [List.map_map] at this
        exact this
    have ey := ints_rp ry
    subst ey
    have l10 : ns10.length = 10 := pm10.length_eq
    have kpA : Kp s H H3 := (Kp.of sn).trans kp3
    have fr3 := fr_only pn3
    have nso : so ≠ s := fun z => by
      obtain ⟨x, y, z2, e, _⟩ := pn2
      rw [← z, hso] at e
      cases e
    have rS3 : Rp (offS (only s) H3) (.ref so) (.list (ns10.map .int)) := .lst (by rw [offS_at (only_ne nso)]; exact hso3) (rp_ints _)
    have rA3 := rA.mono (kp_only kpA)
    refine ⟨_, rfl, only s, _, _, fr3, .cons rA3 .nil, ⟨as, rfl, by omega, rfl⟩, fun vN H4 s4 rN => ?_⟩
    refine ⟨by show 2 ≤ sizeLine; decide, fun t ht => ?_⟩
    have s5 := same_new (o := .tup [V.ref so, vN]) ht
    refine ⟨t, _, rfl, .inl (.inl upd_same), rfl, _, _, rfl, _, _, rfl, rfl, ?_⟩
    generalize upd H4 t (.tup [V.ref so, vN]) = H5 at s5 ⊢
    have s35 := s4.trans s5
    have fr5 := fr3.mono s35
    have rS5 := rS3.mono (offS_mono (S := only s) s35)
    have rA5 := rA3.mono (offS_mono (S := only s) s35)
    have rN5 := rN.mono (offS_mono (S := only s) s5)
    -- the renaming
    have nd10 : ns10.Nodup := pm10.nodup_iff.mpr (by unfold tenL; decide)
    have hlN : (nmsOf as).length ≤ 8 := by
      have : ∀ l : List Int, (sd l).length ≤ l.length := fun l => by
        induction l with
        | nil => exact Nat.le_refl _
        | cons x l ih =>
          have : ∀ (n : Int) (l : List Int), (ins1 n l).length ≤ l.length + 1 := fun n l => by
            induction l with
            | nil => exact Nat.le_refl _
            | cons m l ih =>
              unfold ins1
              split
              · exact Nat.le_refl _
              · split
                · simp
                · simp only [List.length_cons]
                  omega
          have h1 := this x (sd l)
          show (ins1 x (sd l)).length ≤ _
          simp only [List.length_cons]
          omega
      have h2 := this (as.map At.l ++ as.map At.r)
      rw [List.length_append, List.length_map, List.length_map] at h2
      show (sd _).length ≤ 8
      omega
    have ix : ∀ x ∈ vars as, (nmsOf as).idxOf x < 8 := fun x hx => Nat.lt_of_lt_of_le (List.idxOf_lt_length_of_mem (nmsOf_mem.mpr hx)) hlN
    let g : Int → Int := fun x => ns10.getD ((nmsOf as).idxOf x) 0
    have gAt : ∀ x ∈ vars as, ns10[(nmsOf as).idxOf x]? = some (g x) := fun x hx => by
      have hlt : (nmsOf as).idxOf x < ns10.length := by
        have := ix x hx
        omega
      show _ = some (ns10.getD _ 0)
      rw [List.getD_eq_getElem?_getD, List.getElem?_eq_getElem hlt]
      rfl
    have gInj : InjOn g (vars as) := fun x hx y hy e => by
      have h1 := gAt x hx
      have h2 := gAt y hy
      rw [e] at h1
      have hi : (nmsOf as).idxOf x = (nmsOf as).idxOf y := nodup_at nd10 h1 h2
      have mx := List.getElem_idxOf (List.idxOf_lt_length_of_mem (nmsOf_mem.mpr hx))
      have my := List.getElem_idxOf (List.idxOf_lt_length_of_mem (nmsOf_mem.mpr hy))
      rw [← mx, ← my]
      congr 1
    have gDig : ∀ x ∈ vars as, dig (g x) := fun x hx => by
      have m := pm10.subset (List.mem_of_getElem? (gAt x hx))
      have z : ∀ n ∈ tenL, dig n := by
        unfold dig tenL
        decide
      exact z _ m
    have vl : ∀ a ∈ as, a.l ∈ vars as := fun a ha => mem_vars.mpr ⟨a, ha, .inl rfl⟩
    have vr : ∀ a ∈ as, a.r ∈ vars as := fun a ha => mem_vars.mpr ⟨a, ha, .inr rfl⟩
    refine go_setS (S := only s) (P := fun H v => Rp H v (.list ((as.map (rnm g)).map atD))) fr5 (eqD (e_lcG (enc := atD) (as := as) (b := fun _ => true) (ev := fun a => atD (rnm g a)) (it_list (e_var rfl rA5)) (by omega) fun a ha x F1 sF r => g_tup3 r fun v1 v2 v3 q1 q2 q3 =>
      ⟨rfl, b_yes, fun _ => e_tup (a_cons (e_var rfl q1) (a_cons (e_ixL (e_var rfl (rS5.mono sF)) (e_index (e_var rfl (rN5.mono sF)) (e_var rfl q2) (nmsOf_mem.mpr (vl a ha))) rfl (by rw [List.getElem?_map, gAt _ (vl a ha)]; rfl)) (a_cons (e_ixL (e_var rfl (rS5.mono sF)) (e_index (e_var rfl (rN5.mono sF)) (e_var rfl q3) (nmsOf_mem.mpr (vr a ha))) rfl (by rw [List.getElem?_map, gAt _ (vr a ha)]; rfl)) a_nil)))⟩) ?_) fun vF H6 s6 fr6 rF => ?_
    · rw [filter_yes, List.map_map]
      rfl
    have gGood : ∀ b ∈ as.map (rnm g), Good b := fun b hb => by
      obtain ⟨a, ha, rfl⟩ := List.mem_map.mp hb
      have h1 := gDig _ (vl a ha)
      have h2 := gDig _ (vr a ha)
      exact ⟨(gd a ha).k, h1.1, h1.2, h2.1, h2.2⟩
    obtain ⟨af, xf, rfl, haf, rxf⟩ := rp_lst rF
    have pn6 : Pn (k + 10) H6 s := pn3.same (s35.trans s6)
    refine ⟨_, rfl, _, rfl, s, af, xf, (as.map (rnm g)).map atD, k, rfl, pn6.mono (by rw [List.length_map, List.length_map]; omega), haf, ats_T (rxf.mono offS_same), fun d hd => ?_, by rw [List.length_map, List.length_map]; omega, fun fo ys es H7 hfo kp7 pn7 hfo7 ry7 pm7 => ?_⟩
    · obtain ⟨b, hb, rfl⟩ := List.mem_map.mp hd
      exact (cq_at (gGood b hb)).mono (by decide)
    · obtain ⟨bs, rfl, pb⟩ := perm_ats pm7
      have ks : Kp s H H6 := (kpA.trans (Kp.of s35)).trans (Kp.of s6)
      have nfo : fo ≠ s := fun z => by
        obtain ⟨x, y, z2, e, _⟩ := pn6
        rw [← z, hfo] at e
        cases e
      have f0 : H fo = none := by
        cases e : H fo with
        | none => rfl
        | some o =>
          rw [ks fo o nfo e] at hfo
          cases hfo
      exact q fo ys bs g H7 f0 (ks.trans kp7) pn7 hfo7 ry7 pb gInj fun b hb => gGood b (pb.subset hb)
end
end Q

set_option maxHeartbeats 4000000
namespace Ca
open PySem PySem.Spec PyProof.Rows L2
theorem pi_enumQ {X : Cx} {K : PySem.W.Frag} {e : Expr} {ta : TA} {p pos tpos : Pos} {elts : List Expr} {kk : Nat} (hK : X.K = K) (hg : Gl X "enumerate") (hm : X.mg "enumerate" = none) (ha : PA X [e] ta) (hs : starEach [e] X.env = [(false, eval e X.env)] := by rfl) :
    PI X (.Tuple elts kk tpos) (.Call (.Name "enumerate" p) [e] [] pos) (iEnum K ta) := hK ▸ pi_enum hg hm ha hs
section
variable {K : PySem.W.Frag} {σ : L2.St} {S : Addr → Bool} {H : Hp} {D : L2.Ends} {te : TE} {u : TS} {i : Nat} {p : Addr} {xs : List V} {ds : List PyData} {d : PyData}
theorem go_ext (f : Fr S H) (hv : σ[i]? = some (some (.ref p))) (hp : H p = some (.lst xs)) (h : EvD te σ (offS S H) (.list ds)) (hz : xs.length + ds.length ≤ 1000)
    (k : ∀ ys H', Same H H' → H' p = some (.lst xs) → RpA (offS S H') ys ds → D.nx σ (upd H' p (.lst (xs ++ ys)))) : tDrop (tBM K "list" rExtend (tVar i) (tCons te tNil)) D σ H :=
  ⟨_, hv, .inl ⟨rfl, _, .inl (.inl hp)⟩, h S H f (Same.refl _) _ fun v H' s r => by
    obtain ⟨b, ys, rfl, h1, r1⟩ := rp_lst r
    refine (⟨p, b, xs, ys, rfl, rfl, s _ _ hp, h1, ?_, k ys H' s (s _ _ hp) r1⟩ : rExtend (.ref p) [.ref b] H' fun _ H1 => D.nx σ H1)
    rw [r1.length]
    exact Nat.le_of_lt (small1000 hz)⟩
theorem eqA {tas : TA} {F : Hp} {es : List PyData} (h : EvA tas σ F ds) (e : ds = es) : EvA tas σ F es := e ▸ h
theorem go_app (f : Fr S H) (hv : σ[i]? = some (some (.ref p))) (hp : H p = some (.lst xs)) (h : EvD te σ (offS S H) d) (hz : xs.length ≤ 900)
    (k : ∀ y H', Same H H' → H' p = some (.lst xs) → Rp (offS S H') y d → D.nx σ (upd H' p (.lst (xs ++ [y])))) : tDrop (tBM K "list" rAppend (tVar i) (tCons te tNil)) D σ H :=
  ⟨_, hv, .inl ⟨rfl, _, .inl (.inl hp)⟩, h S H f (Same.refl _) _ fun v H' s r => 
    ⟨p, xs, v, rfl, rfl, s _ _ hp, small1000 (by omega), k v H' s (s _ _ hp) r⟩⟩
end
end Ca
namespace Q
open PySem PySem.Spec PyProof.Rows L2 Ca
/-! ### _law_orders -/
abbrev s_ord : Stmt := top 61
theorem sc_ord : FnScope ["_law_atoms", "_law_found", "_law_at", "_law_atom", "_law_rest"] ["_law_atoms"] (defScope s_ord) := ⟨rfl, rfl, rfl, by decide +kernel, rfl, by decide +kernel, by decide +kernel⟩
abbrev oD (p : List At) : PyData := .list (p.map atD)
def ROrd (n : Nat) : List PyData → PyData → Prop := fun ds d => ∃ as : List At, ds = [oD as] ∧ as.length = n ∧ n ≤ 4 ∧ (∀ a ∈ as, Good a) ∧ d = .list ((ord2 n as).map oD)
def stp (n : Nat) (as : List At) (i : Nat) : List (List At) := match as[i]? with
  | some a => (ord2 n (as.take i ++ as.drop (i + 1))).map (a :: ·)
  | none => []
theorem ord2_stp (n : Nat) (as : List At) : ord2 (n + 1) as = (List.range as.length).flatMap (stp n as) := by
  unfold ord2
  congr 1
  funext i
  unfold stp
  cases as[i]? <;> rfl
theorem ord2_count : ∀ (n : Nat) (as : List At), as.length = n → n ≤ 4 → (ord2 n as).length ≤ 4 ^ n
  | 0, as, _, _ => Nat.le_refl 1
  | n + 1, as, h, h4 => by
    rw [ord2_stp]
    have := flatMap_len (f := stp n as) (c := 4 ^ n) (l := List.range as.length) fun i hi => by
      have hi := List.mem_range.mp hi
      unfold stp
      rw [List.getElem?_eq_getElem hi]
      simp only [List.length_map]
      refine ord2_count n _ ?_ (by omega)
      rw [List.length_append, List.length_take, List.length_drop]
      omega
    rw [List.length_range] at this
    rw [h] at this ⊢
    refine Nat.le_trans this ?_
    rw [Nat.pow_succ, Nat.mul_comm]
    exact Nat.mul_le_mul_left _ h4
theorem ord2_few {n : Nat} {as : List At} (h : as.length = n) (h4 : n ≤ 4) : (ord2 n as).length ≤ 256 := Nat.le_trans (ord2_count n as h h4) (Nat.pow_le_pow_right (by decide) h4 : 4 ^ n ≤ 4 ^ 4)
section
variable {P : Program} {w : World} {K : PySem.W.Frag} {mg : PySem.Str → Option Value} {base : Heap}
theorem ok_ord {f : Addr} {fd : FuncData} (F : FnP K "_law_orders" s_ord f fd) (T : Tx K mg) (ge : mg "enumerate" = none) (gO : mg "_law_orders" = some (.ref f)) (kO : PySem.W.keepIn K (.ref f) = true) (bO : Binds K fd ["_law_atoms"] []) :
    ∀ n, FnOk P w K mg base CX0 (n + 1) f fd ["_law_atoms"] (spR (ROrd n))
  | 0 => by
    refine F.ok sc_ord (spR_len (by rintro _ _ ⟨as, rfl, _⟩; rfl)) (fun cdv A outer s H vs Q E hr h => ?_)
    obtain ⟨S, ds, d, fr, rArgs, ⟨as, rfl, hl, h4, hg, rfl⟩, q⟩ := h
    obtain ⟨v0, rfl, rA0⟩ := rpa1 rArgs
    refine ⟨_, PSs.nox (pss_cons (ps_if (pt_cmpR (op_eqD hr.units : OpR _ _ (rEqD K)) (pv 0) (pe_lst pa_nil) (nomark _)) (pss_one (ps_ret (pe_lst (pa_cons (pe_lst pa_nil) pa_nil)))) pss_nil) pss_never), ?_⟩
    have e0 : as = [] := List.eq_nil_of_length_eq_zero hl
    subst e0
    refine go_ifS fr (b_test (e_eqD (e_var rfl rA0) (e_lst a_nil) (cq_ats hg).ok cq_nil.ok)) (fun _ H1 s1 fr1 => ?_) fun z => ?_
    · exact go_ret (P := fun H v => Rp H v (.list ((ord2 0 ([] : List At)).map oD))) fr1 (e_lst (a_cons (e_lst a_nil) a_nil)) fun v H4 s4 r4 => q v H4 (s1.trans s4) r4
    · exfalso
      revert z
      decide
  | n + 1 => by
    have GO := ok_ord F T ge gO kO bO n
    refine F.ok sc_ord (spR_len (by rintro _ _ ⟨as, rfl, _⟩; rfl)) (fun cdv A outer s H vs Q E hr h => ?_)
    obtain ⟨S, ds, d, fr, rArgs, ⟨as, rfl, hl, h4, hg, rfl⟩, q⟩ := h
    obtain ⟨v0, rfl, rA0⟩ := rpa1 rArgs
    refine ⟨_, PSs.nox (pss_cons (ps_if (pt_cmpR (op_eqD hr.units : OpR _ _ (rEqD K)) (pv 0) (pe_lst pa_nil) (nomark _)) (pss_one (ps_ret (pe_lst (pa_cons (pe_lst pa_nil) pa_nil)))) pss_nil)
      (pss_cons (ps_set (i := 1) sc_ord.nd rfl (.inl rfl) (pe_lst pa_nil))
      (pss_cons (ps_for PassesOwn.never rfl (pi_enumQ (K := K) rfl (by rfl) ge (pa_cons (pv 0) pa_nil)) (pg_tup (by rfl) (pgs_cons (pg_name (i := 2) sc_ord.nd rfl (.inl rfl)) (pgs_cons (pg_name (i := 3) sc_ord.nd rfl (.inr rfl)) pgs_nil)))
        (pss_one (ps_expr (pe_bm PySem.F.plainAttrs_list PySem.F.slot_list_extend PySem.F.type_list_extend mt_extend (pv 1) (pa_cons
          (pe_lc (own := [("_law_rest", 4)]) (g := gName 4) rfl sc_ord.nd (pi_listQ (K := K) rfl (pe_call GO (hr.mono (Nat.le_refl _)) rfl gO kO bO .nil pass0 (pa_cons (pe_op op_cat (pe_slice sl_list (pv 0) po_none (po_some (pv 2))) (pe_slice sl_list (pv 0) (po_some (pe_op op_add (pv 2) pe_int)) po_none)) pa_nil)))
            (blkOk_by (own := [("_law_rest", 4)]) (N := ["_law_atoms", "_law_found", "_law_at", "_law_atom", "_law_rest"]) (sc := defScope s_ord) (by decide +kernel)) (fun _ _ _ _ _ => pg_name (i := 4) sc_ord.nd rfl (Or.inl rfl)) (fun _ _ _ _ _ => pts_nil) (fun _ _ _ _ _ => (pe_op op_cat (pe_lst (pa_cons (pv 3) pa_nil)) (pv 4)))) pa_nil)))))
      (pss_one (ps_ret (pv 1)))))), ?_⟩
    refine go_ifS fr (b_test (e_eqD (e_var rfl rA0) (e_lst a_nil) (cq_ats hg).ok cq_nil.ok)) (fun z => ?_) fun _ H1 s1 fr1 => ?_
    · exfalso
      rw [eqv_nil] at z
      cases as with
      | nil => cases hl
      | cons a as => cases z
    have rA1 := rA0.mono (offS_mono (S := S) s1)
    refine ⟨Nat.zero_le _, fun fo hfo => ?_⟩
    have s2 := same_new (o := .lst []) hfo
    have hS : S fo = false := by
      cases e : S fo with
      | false => rfl
      | true =>
        obtain ⟨o, ho, _⟩ := fr1 fo e
        rw [hfo] at ho
        cases ho
    have fr2 : Fr (addS S fo) (upd H1 fo (.lst [])) := (fr1.mono s2).add upd_same trivial
    have off1 : (offS S H1) fo = none := by
      rw [offS_at hS]
      exact hfo
    have sA : Same (offS S H1) (offS (addS S fo) (upd H1 fo (.lst []))) := addS_new off1 (offS_mono s2)
    have rA2 := rA1.mono sA
    have e2 : upd H1 fo (.lst []) fo = some (.lst []) := upd_same
    generalize upd H1 fo (.lst []) = H2 at s2 fr2 sA rA2 e2 ⊢
    refine go_forGS (enc := id) (as := enD 0 (as.map atD)) fr2 (by rw [List.map_id]; exact it_enum (K := K) (tas := tCons (tVar 0) tNil) (a_cons (e_var (i := 0) rfl rA2) a_nil)) fun H3 s3 fr3 => ⟨fun i σ H' => ∃ x2 x3 x4 xs, σ = [some v0, some (.ref fo), x2, x3, x4] ∧ Fr (addS S fo) H' ∧ Same H1 H' ∧ Same (offS (addS S fo) H3) (offS (addS S fo) H') ∧ H' fo = some (.lst xs) ∧ RpA (offS (addS S fo) H') xs (((List.range i).flatMap (stp n as)).map oD),
      ⟨none, none, none, [], rfl, fr3, s2.trans s3, Same.refl _, s3 _ _ e2, .nil⟩, ?_, ?_, ?_⟩
    · rintro i σ H' ⟨x2, x3, x4, xs, rfl, f', _, s', _⟩
      exact ⟨f', s'⟩
    · rintro i a x σ H4 H5 hi ⟨x2, x3, x4, xs, rfl, fr4, t4, s4, g4, r4⟩ s5 rx
      have li : i < as.length := by
        have := (List.getElem?_eq_some_iff.mp hi).1
        rw [enD_len, List.length_map] at this
        exact this
      have hai : as[i]? = some as[i] := List.getElem?_eq_getElem li
      have ea : a = .tuple [.int ((i : Nat) : Int), atD as[i]] := by
        have := enD_get (as.map atD) 0 i (d := atD as[i]) (by rw [List.getElem?_map, hai]; rfl)
        rw [hi, Nat.zero_add] at this
        exact Option.some.inj this
      subst ea
      have fr5 := fr4.mono s5
      refine gg_tup2 fr5 rx fun v1 v2 q1 q2 => ?_
      have rA5 := rA2.mono ((offS_mono (S := addS S fo) s3).trans (s4.trans (offS_mono (S := addS S fo) s5)))
      have lr : (as.take i ++ as.drop (i + 1)).length = n := by
        rw [List.length_append, List.length_take, List.length_drop]
        omega
      have est : (ord2 n (as.take i ++ as.drop (i + 1))).map (as[i] :: ·) = stp n as i := by
        unfold stp
        rw [hai]
      have few : ∀ j, (stp n as j).length ≤ 64 := fun j => by
        have n3 : 4 ^ n ≤ 4 ^ 3 := Nat.pow_le_pow_right (by decide) (by omega)
        unfold stp
        cases hj : as[j]? with
        | none => exact Nat.zero_le _
        | some c =>
          have lj := (List.getElem?_eq_some_iff.mp hj).1
          simp only [List.length_map]
          refine Nat.le_trans (ord2_count n _ ?_ (by omega)) n3
          rw [List.length_append, List.length_take, List.length_drop]
          omega
      have lx : xs.length ≤ i * 64 := by
        have := flatMap_len (f := stp n as) (c := 64) (l := List.range i) fun j _ => few j
        rw [List.length_range] at this
        rw [r4.length, List.length_map]
        exact this
      refine go_ext fr5 rfl (s5 _ _ g4) (ds := (stp n as i).map oD) (eqD (e_lcL (enc := oD) (as := ord2 n (as.take i ++ as.drop (i + 1))) (b := fun _ => true) (ev := fun p => oD (as[i] :: p))
        (e_call (eqA (a_cons (e_cat (e_slL (e_var rfl rA5) o_none (o_some (e_var rfl q1))) (e_slL (e_var rfl rA5) (o_some (e_add (e_var rfl q1) e_int)) o_none) ?_) a_nil) ?_) ⟨_, rfl, lr, by omega, ?_, rfl⟩) ?_ fun p hp y F1 sF r => g_name ⟨rfl, b_yes, fun _ => e_cat (e_lst (a_cons (e_var rfl (q2.mono sF)) a_nil)) (e_var rfl r) ?_⟩) ?_) ?_ fun ys H6 s6 g6 r6 => ?_
      · rw [cut_take, show Ca.cutD (as.map atD) (some ((i : Int) + 1)) none = (as.map atD).drop (i + 1) from cut_drop _ (i + 1)]
        simp only [List.length_take, List.length_drop, List.length_map]
        omega
      · rw [cut_take, show Ca.cutD (as.map atD) (some ((i : Int) + 1)) none = (as.map atD).drop (i + 1) from cut_drop _ (i + 1), ← List.map_take, ← List.map_drop, ← List.map_append]
      · intro b hb
        rcases List.mem_append.mp hb with z | z
        · exact hg b (List.mem_of_mem_take z)
        · exact hg b (List.mem_of_mem_drop z)
      · have := ord2_few lr (by omega)
        omega
      · have := ((ord2_mem n _ lr p).mp hp).length_eq
        rw [List.length_map, this, lr]
        simp only [List.length_cons, List.length_nil]
        omega
      · rw [filter_yes, ← est, List.map_map]
        rfl
      · have := few i
        rw [List.length_map]
        omega
      · have s46 := s5.trans s6
        have k6 : Same (offS (addS S fo) H6) (offS (addS S fo) (upd H6 fo (.lst (xs ++ ys)))) := addS_upd
        refine ⟨_, _, _, xs ++ ys, rfl, ?_, same_mut (t4.trans s46) hfo, (s4.trans (offS_mono s46)).trans k6, upd_same, ?_⟩
        · refine fun b hb => ?_
          by_cases e : b = fo
          · subst e
            exact ⟨_, upd_same, trivial⟩
          · rw [upd_ne e]
            exact (fr5.mono s6) b hb
        · rw [List.range_succ, List.flatMap_append, List.map_append]
          refine ((r4.mono (offS_mono s46)).mono k6).append ?_
          rw [List.flatMap_cons, List.flatMap_nil, List.append_nil]
          exact r6.mono k6
    · rintro σ H4 ⟨x2, x3, x4, xs, rfl, fr4, t4, s4, g4, r4⟩
      rw [enD_len, List.length_map, ← ord2_stp] at r4
      refine ⟨_, rfl, q _ H4 (s1.trans t4) (.lst ?_ (r4.mono addS_off))⟩
      rw [offS_at hS]
      exact g4
end
end Q

set_option maxHeartbeats 4000000
namespace Ca
open PySem PySem.Spec PyProof.Rows L2
section
variable {K : PySem.W.Frag} {σ : L2.St} {F : Hp} {ta tb : TE}
theorem e_notInL {n : Int} {ns : List Int} (ha : EvD ta σ F (.int n)) (hb : EvD tb σ F (.list (ns.map .int))) : EvD (tOp (rIn K true) ta tb) σ F (.bool (!ns.contains n)) := e_op ha hb fun S H x y f rx ry Q q => by
  cases rx
  obtain ⟨a, xs, rfl, h1, r1⟩ := rp_lst ry
  rw [ints_rp r1] at h1
  refine ⟨a, _, rfl, .inl (.inl (.inl h1)), rfl, ints_flat ns, q _ H (Same.refl _) ?_⟩
  show Rp (offS S H) (.bl (!inV (.int n) (ns.map V.int))) _
  rw [inV_ints]
  exact .bl _
end
theorem addS2_new {S : Addr → Bool} {H H' : Hp} {p q : Addr} (hp : H p = none) (hq : H q = none) (s : Same H H') : Same (offS S H) (offS (addS (addS S p) q) H') := fun b o e => by
  unfold offS at e
  split at e
  · cases e
  · rename_i hb
    have n1 : b ≠ p := fun z => by rw [z, hp] at e; cases e
    have n2 : b ≠ q := fun z => by rw [z, hq] at e; cases e
    rw [offS_at (by simp only [addS, Bool.or_eq_false_iff, decide_eq_false_iff_not]; exact ⟨⟨by simpa using hb, n1⟩, n2⟩)]
    exact s b o e
/-- kept but for two lists -/
def K2 (p q : Addr) (H H' : Hp) : Prop := ∀ b o, b ≠ p → b ≠ q → H b = some o → H' b = some o
theorem K2.of {p q : Addr} {H H' : Hp} (h : Same H H') : K2 p q H H' := fun b o _ _ e => h b o e
theorem K2.trans {p q : Addr} {H H1 H2 : Hp} (a : K2 p q H H1) (b : K2 p q H1 H2) : K2 p q H H2 := fun c o x y e => b c o x y (a c o x y e)
theorem K2.one {p q : Addr} {H : Hp} {o : HO} : K2 p q H (upd H p o) := fun b u x _ e => by rw [upd_ne x]; exact e
theorem K2.two {p q : Addr} {H : Hp} {o : HO} : K2 p q H (upd H q o) := fun b u _ y e => by rw [upd_ne y]; exact e
theorem K2.off {S : Addr → Bool} {p q : Addr} {H H' : Hp} (h : K2 p q H H') : Same (offS (addS (addS S p) q) H) (offS (addS (addS S p) q) H') := fun b o e => by
  unfold offS at e ⊢
  split at e
  · cases e
  · rename_i hb
    rw [if_neg hb]
    refine h b o (fun z => hb ?_) (fun z => hb ?_) e
    · subst z
      simp [addS]
    · subst z
      simp [addS]
end Ca
namespace Q
open PySem PySem.Spec PyProof.Rows L2 Ca
/-! ### _law_counted -/
abbrev s_cnt : Stmt := top 62
theorem sc_cnt : FnScope ["_law_atoms", "_law_known", "_law_found", "_law_kind", "_law_left", "_law_right", "_law_name"] ["_law_atoms"] (defScope s_cnt) := ⟨rfl, rfl, rfl, by decide +kernel, rfl, by decide +kernel, by decide +kernel⟩
def RCnt : List PyData → PyData → Prop := fun ds d => ∃ as : List At, ds = [oD as] ∧ as.length ≤ 30 ∧ d = lD (num as)
theorem cnt1_snoc : ∀ (as : List At) (kn : List Int) (a : At), cnt1 kn (as ++ [a]) = cnt1 kn as ++ [numA (fo (fo kn (vars as)) [a.l, a.r]) a]
  | [], kn, a => rfl
  | b :: as, kn, a => by
    have ev : vars (b :: as) = [b.l, b.r] ++ vars as := rfl
    rw [ev, fo_app]
    show numA (fo kn [b.l, b.r]) b :: cnt1 (fo kn [b.l, b.r]) (as ++ [a]) = numA (fo kn [b.l, b.r]) b :: cnt1 (fo kn [b.l, b.r]) as ++ _
    rw [cnt1_snoc as (fo kn [b.l, b.r]) a]
    rfl
section
variable {P : Program} {w : World} {K : PySem.W.Frag} {mg : PySem.Str → Option Value} {base : Heap}
theorem ok_cnt {f : Addr} {fd : FuncData} (F : FnP K "_law_counted" s_cnt f fd) (T : Tx K mg) : FnOk P w K mg base CX0 1 f fd ["_law_atoms"] (spR RCnt) := by
  refine F.ok sc_cnt (spR_len (by rintro _ _ ⟨as, rfl, _⟩; rfl)) (fun cdv A outer s H vs Q E hr h => ?_)
  obtain ⟨S, ds, d, fr, rArgs, ⟨as, rfl, hz, rfl⟩, q⟩ := h
  obtain ⟨v0, rfl, rA0⟩ := rpa1 rArgs
  refine ⟨_, PSs.nox (pss_cons (ps_par (i := 1) (j := 2) (by rfl) sc_cnt.nd rfl rfl (by decide) rfl rfl (pa_cons (pe_lst pa_nil) (pa_cons (pe_lst pa_nil) pa_nil)) (by rfl))
    (pss_cons (ps_for PassesOwn.never rfl (pi_listQ (K := K) rfl (pv 0)) (pg_tup (by rfl) (pgs_cons (pg_name (i := 3) sc_cnt.nd rfl (.inl rfl)) (pgs_cons (pg_name (i := 4) sc_cnt.nd rfl (.inl rfl)) (pgs_cons (pg_name (i := 5) sc_cnt.nd rfl (.inl rfl)) pgs_nil))))
      (pss_cons (ps_for PassesOwn.never rfl (pi_listQ (K := K) rfl (pe_lst (pa_cons (pv 4) (pa_cons (pv 5) pa_nil)))) (pg_name (i := 6) sc_cnt.nd rfl (.inl rfl))
        (pss_one (ps_if (pt_cmpR (op_notIn_seq : OpR _ _ (rIn K true)) (pv 6) (pv 1) (by rfl)) (pss_one (ps_expr (pe_bm PySem.F.plainAttrs_list PySem.F.slot_list_append PySem.F.type_list_append mt_append (pv 1) (pa_cons (pv 6) pa_nil)))) pss_nil)))
      (pss_one (ps_expr (pe_bm PySem.F.plainAttrs_list PySem.F.slot_list_append PySem.F.type_list_append mt_append (pv 2) (pa_cons (pe_tup (pa_cons (pv 3) (pa_cons (pe_indexQ (K := K) rfl (pv 1) (pv 4)) (pa_cons (pe_indexQ (K := K) rfl (pv 1) (pv 5)) pa_nil)))) pa_nil))))))
    (pss_one (ps_ret (pe_callTy (call_tupQ : CallR _ _ (rTupQ K)) (by rfl) T.tup bTup (pa_cons (pv 2) pa_nil)))))), ?_⟩
  refine ⟨Nat.zero_le _, fun ka hka => ⟨Nat.zero_le _, fun fa hfa => ⟨_, _, rfl, ?_⟩⟩⟩
  have s1 := same_new (o := .lst []) hka
  have s2 := same_new (o := .lst []) hfa
  have nkf : ka ≠ fa := fun z => by
    rw [← z, upd_same] at hfa
    cases hfa
  have h0f : H fa = none := by
    rw [upd_ne nkf.symm] at hfa
    exact hfa
  have ek : upd (upd H ka (.lst [])) fa (.lst []) ka = some (.lst []) := by rw [upd_ne nkf, upd_same]
  have ef : upd (upd H ka (.lst [])) fa (.lst []) fa = some (.lst []) := upd_same
  have sH := s1.trans s2
  generalize upd (upd H ka (.lst [])) fa (.lst []) = H2 at ek ef sH ⊢
  clear s1 s2 hfa
  have nS : ∀ {p : Addr}, H p = none → S p = false := fun {p} hp => by
    cases e : S p with
    | false => rfl
    | true =>
      obtain ⟨o, ho, _⟩ := fr p e
      rw [hp] at ho
      cases ho
  have mkF : ∀ {H' : Hp} {xs ys : List V}, Same H H' → H' ka = some (.lst xs) → H' fa = some (.lst ys) → Fr (addS (addS S ka) fa) H' := fun s a b => ((fr.mono s).add a trivial).add b trivial
  have rdA : ∀ {H' : Hp}, Same H H' → Rp (offS (addS (addS S ka) fa) H') v0 (oD as) := fun {H'} s => by
    exact rA0.mono (addS2_new hka h0f s)
  have rdK : ∀ {H' : Hp} {ks : List Int}, H' ka = some (.lst (ks.map V.int)) → Rp (offS S H') (.ref ka) (.list (ks.map .int)) := fun {H' ks} e => .lst (by rw [offS_at (nS hka)]; exact e) (rp_ints ks)
  refine go_forLS (S := addS (addS S ka) fa) (enc := atD) (as := as) (mkF sH ek ef) (e_var rfl (rdA sH)) fun H3 s3 fr3 => ⟨fun i σ H' => ∃ x3 x4 x5 x6 xs, σ = [some v0, some (.ref ka), some (.ref fa), x3, x4, x5, x6] ∧ Same H H' ∧ K2 ka fa H3 H' ∧ H' ka = some (.lst ((fo [] (vars (as.take i))).map V.int)) ∧ H' fa = some (.lst xs) ∧ RpA (onlyT H') xs ((cnt1 [] (as.take i)).map atD),
    ⟨none, none, none, none, [], rfl, sH.trans s3, .of (Same.refl _), s3 _ _ ek, s3 _ _ ef, .nil⟩, ?_, ?_, ?_⟩
  · rintro i σ H' ⟨x3, x4, x5, x6, xs, rfl, c1, c2, c3, c4, c5⟩
    exact ⟨mkF c1 c3 c4, c2.off⟩
  · rintro i a x σ H4 hi rx ⟨x3, x4, x5, x6, xs, rfl, c1, c2, c3, c4, c5⟩
    have li : i < as.length := (List.getElem?_eq_some_iff.mp hi).1
    have fr4 := mkF c1 c3 c4
    refine gg_tup3 fr4 rx fun v1 v2 v3 q1 q2 q3 => ?_
    cases q2
    cases q3
    generalize hks : fo [] (vars (as.take i)) = ks at c3
    have lks : ks.length ≤ 60 := by
      have h1 := fo_len (vars (as.take i)) []
      have h2 := vars_len (as.take i)
      rw [hks] at h1
      rw [List.length_take] at h2
      simp only [List.length_nil] at h1
      omega
    refine go_forLS (S := addS (addS S ka) fa) (enc := PyData.int) (as := [a.l, a.r]) fr4 (e_lst (ds := [PyData.int a.l, PyData.int a.r]) (a_cons (e_var rfl (.int _)) (a_cons (e_var rfl (.int _)) a_nil)) (Nat.le_of_ble_eq_true rfl)) fun H5 s5 fr5 => ⟨fun j σ H' => ∃ x6, σ = [some v0, some (.ref ka), some (.ref fa), some v1, some (.int a.l), some (.int a.r), x6] ∧ Same H H' ∧ K2 ka fa H5 H' ∧ H' ka = some (.lst ((fo ks ([a.l, a.r].take j)).map V.int)) ∧ H' fa = some (.lst xs) ∧ KT H5 H',
      ⟨_, rfl, c1.trans s5, .of (Same.refl _), s5 _ _ c3, s5 _ _ c4, KT.of (Same.refl _)⟩, ?_, ?_, ?_⟩
    · rintro j σ H' ⟨x6, rfl, d1, d2, d3, d4, d5⟩
      exact ⟨mkF d1 d3 d4, d2.off⟩
    · rintro j y z σ H6 hj rz ⟨x6, rfl, d1, d2, d3, d4, d5⟩
      cases rz
      have lj : j < 2 := (List.getElem?_eq_some_iff.mp hj).1
      have e1 : fo ks ([a.l, a.r].take (j + 1)) = fo (fo ks ([a.l, a.r].take j)) [y] := by rw [take_more hj, fo_app]
      refine go_if (S := S) (fr.mono d1) (b_test (e_notInL (e_var rfl (.int _)) (e_var rfl (rdK d3)))) (fun b H7 s7 fr7 => ?_) fun b H7 s7 fr7 => ?_
      · refine go_app fr7 rfl (s7 _ _ d3) (e_var rfl (.int y)) ?_ fun u H8 s8 g8 r8 => ?_
        · have := fo_len ([a.l, a.r].take j) ks
          rw [List.length_map]
          rw [List.length_take] at this
          simp only [List.length_cons, List.length_nil] at this
          omega
        · cases r8
          have s68 := s7.trans s8
          refine ⟨_, rfl, same_mut (d1.trans s68) hka, (d2.trans (.of s68)).trans .one, ?_, ?_, (d5.trans (KT.of s68)).trans (kt_lst g8)⟩
          · rw [upd_same, e1, fo_one, if_neg (by simpa using b), List.map_append]
            rfl
          · rw [upd_ne nkf.symm]
            exact s68 _ _ d4
      · refine ⟨_, rfl, d1.trans s7, d2.trans (.of s7), ?_, s7 _ _ d4, d5.trans (KT.of s7)⟩
        rw [e1, fo_one, if_pos (by simpa using b)]
        exact s7 _ _ d3
    · rintro σ H6 ⟨x6, rfl, d1, d2, d3, d4, d5⟩
      have d3 : H6 ka = some (.lst ((fo ks [a.l, a.r]).map V.int)) := d3
      have ml : a.l ∈ fo ks [a.l, a.r] := (fo_mem _ _ _).mpr (.inr (.head _))
      have mr : a.r ∈ fo ks [a.l, a.r] := (fo_mem _ _ _).mpr (.inr (.tail _ (.head _)))
      have q1' : Rp (offS S H6) v1 (.str a.k) := by
        cases q1
        exact .str _
      refine go_app (S := S) (d := atD (numA (fo ks [a.l, a.r]) a)) (fr.mono d1) rfl d4 (e_tup (a_cons (e_var rfl q1') (a_cons (e_index (e_var rfl (rdK d3)) (e_var rfl (.int _)) ml) (a_cons (e_index (e_var rfl (rdK d3)) (e_var rfl (.int _)) mr) a_nil)))) ?_ fun u H7 s7 g7 r7 => ?_
      · rw [c5.length, List.length_map]
        have : ∀ (as : List At) (kn : List Int), (cnt1 kn as).length = as.length := fun as => by
          induction as with
          | nil => intro _; rfl
          | cons b as ih => intro kn; show (cnt1 _ as).length + 1 = _; rw [ih]; rfl
        rw [this, List.length_take]
        omega
      · have et : as.take (i + 1) = as.take i ++ [a] := take_more hi
        refine ⟨_, _, _, _, xs ++ [u], rfl, same_mut (d1.trans s7) h0f, ((c2.trans (.of s5)).trans (d2.trans (.of s7))).trans .two, ?_, upd_same, ?_⟩
        · rw [upd_ne nkf, et, vars_app, fo_app, hks]
          exact s7 _ _ d3
        · have kk := kt_lst (o := .lst (xs ++ [u])) g7
          rw [et, cnt1_snoc, List.map_append, hks]
          refine (c5.mono (((KT.of s5).trans (d5.trans (KT.of s7))).trans kk).m).append ?_
          have := ats_T (as := [numA (fo ks [a.l, a.r]) a]) (RpA.cons (r7.mono offS_same) .nil)
          exact this.mono kk.m
  · rintro σ H4 ⟨x3, x4, x5, x6, xs, rfl, c1, c2, c3, c4, c5⟩
    rw [List.take_length, cnt1_num] at c5
    refine go_ret (S := S) (P := fun H v => Rp H v (lD (num as))) (fr.mono c1) (e_tupOf (e_var rfl (.lst (by rw [offS_at (nS h0f)]; exact c4) ?_))) fun v H5 s5 r5 => q v H5 (c1.trans s5) r5
    have noS : ∀ b ys, H4 b = some (.tup ys) → S b = false := fun b ys e => by
      cases hb : S b with
      | false => rfl
      | true =>
        obtain ⟨o, ho, mo⟩ := (fr.mono c1) b hb
        rw [e] at ho
        cases ho
        cases mo
    refine c5.mono fun b o e => ?_
    unfold onlyT at e
    split at e
    · rename_i ys hy
      cases e
      rw [offS_at (noS b ys hy)]
      exact hy
    · cases e
end
end Q

set_option maxHeartbeats 4000000
namespace Q
open PySem PySem.Spec PyProof.Rows L2 Ca
/-! ### _law_due -/
abbrev s_due : Stmt := top 63
theorem sc_due : FnScope ["_law_atoms", "_law_some"] ["_law_atoms"] (defScope s_due) := ⟨rfl, rfl, rfl, by decide +kernel, rfl, by decide +kernel, by decide +kernel⟩
def RPtxT : List PyData → PyData → Prop := fun ds d => ∃ as : List At, ds = [lD as] ∧ as.length ≤ 30 ∧ (∀ a ∈ as, Good a) ∧ d = .str (txt as)
def RDue : List PyData → PyData → Prop := fun ds d => ∃ (as m : List At), ds = [oD as] ∧ 1 ≤ as.length ∧ as.length ≤ 4 ∧ (∀ a ∈ as, Good a) ∧ Least (nums as) m ∧ d = .str (txt m)
theorem alike_lDs (ps : List (List At)) : PySem.W.AllAlike (ps.map lD) := by
  intro x hx y hy
  obtain ⟨p, _, rfl⟩ := List.mem_map.mp hx
  obtain ⟨q, _, rfl⟩ := List.mem_map.mp hy
  exact alike_lD p q
theorem sortable_lDs (ps : List (List At)) (h : ∀ p ∈ ps, 1 ≤ p.length) : PySem.W.Sortable (ps.map lD) := .inl fun d hd => by
  obtain ⟨p, hp, rfl⟩ := List.mem_map.mp hd
  have := h p hp
  cases p with
  | nil => cases this
  | cons a p => exact ⟨_, _, rfl⟩
section
variable {P : Program} {w : World} {K : PySem.W.Frag} {mg : PySem.Str → Option Value} {base : Heap}
theorem ok_ptxT {f : Addr} {fd : FuncData} (F : FnP K "_law_text" s_ptx f fd) (T : Tx K mg) : FnOk P w K mg base CX0 1 f fd ["_law_atoms"] (spR RPtxT) := by
  refine F.ok sc_ptx (spR_len (by rintro _ _ ⟨as, rfl, _⟩; rfl)) (fun cdv A outer s H vs Q E hr h => ?_)
  obtain ⟨S, ds, d, fr, rA, ⟨as, rfl, hz, hg, rfl⟩, q⟩ := h
  obtain ⟨v0, rfl, r0⟩ := rpa1 rA
  refine ⟨_, PSs.nox (pss_one (ps_ret (pe_joinQ (K := K) rfl pe_str (pe_lc (own := [("_law_kind", 1), ("_law_left", 2), ("_law_right", 3)]) (g := gTup K 3 (gCons (gName 1) (gCons (gName 2) (gCons (gName 3) gNil)))) rfl sc_ptx.nd (pi_tupQ (K := K) rfl (pv 0)) (blkOk_by (own := [("_law_kind", 1), ("_law_left", 2), ("_law_right", 3)]) (N := ["_law_atoms", "_law_kind", "_law_left", "_law_right"]) (sc := defScope s_ptx) (by decide +kernel)) (fun _ _ _ _ _ => pg_tup (by rfl) (pgs_cons (pg_name (i := 1) sc_ptx.nd rfl (Or.inl rfl)) (pgs_cons (pg_name (i := 2) sc_ptx.nd rfl (Or.inl rfl)) (pgs_cons (pg_name (i := 3) sc_ptx.nd rfl (Or.inl rfl)) pgs_nil)))) (fun _ _ _ _ _ => pts_nil) (fun _ _ _ _ _ => (pe_op op_add_str (pe_op op_add_str (pv 1) (pe_callTy call_str_int (by rfl) T.str bStr (pa_cons (pv 2) pa_nil))) (pe_callTy call_str_int (by rfl) T.str bStr (pa_cons (pv 3) pa_nil)))))))), ?_⟩
  refine go_ret (P := fun H v => Rp H v (.str (txt as))) fr (eqD (e_joinL e_str (e_lcT (enc := atD) (e_var rfl r0) ?_ fun t5 ht6 x1 F2 sF3 r4 => g_tup3 r4 fun v10 v11 v12 q7 q8 q9 => ⟨rfl, b_yes, fun _ => (e_addS (e_addS (e_var rfl q7) (e_strI (e_var rfl q8) ?_) ?_) (e_strI (e_var rfl q9) ?_) ?_)⟩) ?_ ?_) ?_) q
  · omega
  · have := hg t5 ht6
    exact dig_log this.l0 this.l9
  · have := hg t5 ht6
    rw [kind_len this.k, dig_len this.l0 this.l9]
    decide
  · have := hg t5 ht6
    exact dig_log this.r0 this.r9
  · have := hg t5 ht6
    rw [len_app, kind_len this.k, dig_len this.l0 this.l9, dig_len this.r0 this.r9]
    decide
  · intro d hd
    obtain ⟨a, _, rfl⟩ := List.mem_map.mp hd
    exact ⟨_, rfl⟩
  · rw [filter_yes, List.map_map (g := strD)]
    have e := sum_len hg
    have e1 : (PySem.Str.ofString " ").length = 1 := by decide +kernel
    show ((as.map atT).map (·.length)).sum + (as.map atT).length * _ ≤ _
    rw [e, List.length_map, e1]
    omega
  · rw [filter_yes, List.map_map]
    rfl
theorem ok_due {f fO : Addr} {fd fdO : FuncData} (F : FnP K "_law_due" s_due f fd) (T : Tx K mg) (DT : Fd P w K mg base "_law_text" 1 ["_law_atoms"] (spR RPtxT)) (DC : Fd P w K mg base "_law_counted" 1 ["_law_atoms"] (spR RCnt))
    (FO : FnP K "_law_orders" s_ord fO fdO) (ge : mg "enumerate" = none) (gO : mg "_law_orders" = some (.ref fO)) (kO : PySem.W.keepIn K (.ref fO) = true) (bO : Binds K fdO ["_law_atoms"] []) : FnOk P w K mg base CX0 6 f fd ["_law_atoms"] (spR RDue) := by
  obtain ⟨f1, fd1, G1, b1, k1, m1⟩ := DT.ex
  obtain ⟨f2, fd2, G2, b2, k2, m2⟩ := DC.ex
  refine F.ok sc_due (spR_len (by rintro _ _ ⟨as, m, rfl, _⟩; rfl)) (fun cdv A outer s H vs Q E hr h => ?_)
  obtain ⟨S, ds, d, fr, rA, ⟨as, m, rfl, h1, h4, hg, lm, rfl⟩, q⟩ := h
  obtain ⟨v0, rfl, r0⟩ := rpa1 rA
  have GO := ok_ord (P := P) (w := w) (base := base) FO T ge gO kO bO as.length
  refine ⟨_, PSs.nox (pss_one (ps_ret (pe_call G1 (hr.mono (by decide)) rfl m1 k1 b1 .nil pass0 (pa_cons (pe_ix (ix_list : IxR _ (rIxL K)) (pe_callB (cr_sortD T.sm (hr.mono (Nat.le_refl _)) : CallR _ _ rSortD) (by rfl) T.sorted bSorted (pa_cons
    (pe_lc (own := [("_law_some", 1)]) (g := gName 1) rfl sc_due.nd (pi_listQ (K := K) rfl (pe_call GO (hr.mono (by show as.length + 1 ≤ 5; omega)) rfl gO kO bO .nil pass0 (pa_cons (pv 0) pa_nil)))
      (blkOk_by (own := [("_law_some", 1)]) (N := ["_law_atoms", "_law_some"]) (sc := defScope s_due) (by decide +kernel)) (fun _ _ _ _ _ => pg_name (i := 1) sc_due.nd rfl (Or.inl rfl)) (fun _ _ _ _ _ => pts_nil) (fun _ _ _ _ _ => pe_call G2 (hr.mono (by decide)) rfl m2 k2 b2 .nil pass0 (pa_cons (pv 1) pa_nil))) pa_nil)) pe_int (fun _ _ => rfl)) pa_nil)))), ?_⟩
  have gm := nums_good hg h4 lm.1
  have lo := ord2_few (n := as.length) (as := as) rfl h4
  let ps : List (List At) := (ord2 as.length as).map num
  have mem : ∀ p, p ∈ ps ↔ p ∈ nums as := fun p => by
    unfold nums
    rw [List.mem_map, List.mem_map]
    constructor
    · rintro ⟨o, ho, rfl⟩
      exact ⟨o, (ords_mem as.length as rfl o).mpr ((ord2_mem as.length as rfl o).mp ho), rfl⟩
    · rintro ⟨o, ho, rfl⟩
      exact ⟨o, (ord2_mem as.length as rfl o).mpr ((ords_mem as.length as rfl o).mp ho), rfl⟩
  have lps : ps.length ≤ 256 := by
    rw [List.length_map]
    exact lo
  have hs : ∃ es, srtD (ps.map lD) = lD m :: es := by
    cases e : srtD (ps.map lD) with
    | nil =>
      have : (srtD (ps.map lD)).length = (ps.map lD).length := List.length_mergeSort _
      rw [e, List.length_map] at this
      have hn : ps = [] := List.eq_nil_of_length_eq_zero this.symm
      have hm := (mem m).mpr lm.1
      rw [hn] at hm
      cases hm
    | cons d es =>
      obtain ⟨hd, le⟩ := srt_head e
      obtain ⟨m', hm', rfl⟩ := List.mem_map.mp hd
      have : Least ps m' := ⟨hm', fun p hp => le _ (List.mem_map.mpr ⟨p, hp, rfl⟩)⟩
      rw [least_one this lm mem]
      exact ⟨es, rfl⟩
  obtain ⟨es, hes⟩ := hs
  refine go_ret (P := fun H v => Rp H v (.str (txt m))) fr (e_call (a_cons (e_ixL (d := lD m) (n := 0) (eqD (e_sortD (ds := ps.map lD) (eqD (e_lcL (enc := oD) (as := ord2 as.length as) (b := fun _ => true) (ev := fun o => lD (num o)) (e_call (a_cons (e_var rfl r0) a_nil) ⟨as, rfl, rfl, h4, hg, rfl⟩) (by omega)
    fun o ho x F1 sF r => g_name ⟨rfl, b_yes, fun _ => e_call (a_cons (e_var rfl r) a_nil) ⟨o, rfl, ?_, rfl⟩⟩) ?_) (alike_lDs ps) (sortable_lDs ps fun p hp => by have := (nums_good hg h4 ((mem p).mp hp)).2; omega) (fun d hd => ?_) (by rw [List.length_map]; omega)) (congrArg PyData.list hes)) e_int rfl rfl) a_nil) ⟨m, rfl, by omega, gm.1, rfl⟩) q
  · have := ((ord2_mem as.length as rfl o).mp ho).length_eq
    omega
  · rw [filter_yes]
    show PyData.list _ = PyData.list (((ord2 as.length as).map num).map lD)
    rw [List.map_map]
    rfl
  · obtain ⟨p, _, rfl⟩ := List.mem_map.mp hd
    exact Nat.le_trans (depth_lD p) (by decide)
end
end Q

set_option maxHeartbeats 4000000
namespace Q
open PySem PySem.Spec PyProof.Rows L2 Ca
/-! ### texts that can be compared -/
def Low (x : PySem.Str) : Prop := ∀ c ∈ x.cps.toList, c < 0x110000
theorem low_ofs {x : PySem.Str} (h : x.cps.toList.all (fun c => decide (c < 0x110000)) = true) : Low x := fun c hc => of_decide_eq_true (List.all_eq_true.mp h c hc)
theorem low_kind {k : PySem.Str} (h : kindOk k = true) : Low k := by
  rcases kind_is h with z | z | z <;> subst z <;> exact low_ofs (by decide +kernel)
theorem low_dig {i : Int} (h0 : 0 ≤ i) (h9 : i ≤ 9) : Low (PySem.Str.ofString (toString i)) := by
  obtain ⟨n, rfl⟩ := Int.eq_ofNat_of_zero_le h0
  have h : ∀ n : Nat, n < 10 → (PySem.Str.ofString (toString ((n : Nat) : Int))).cps.toList.all (fun c => decide (c < 0x110000)) = true := by decide +kernel
  exact low_ofs (h n (by omega))
theorem low_app {x y : PySem.Str} (hx : Low x) (hy : Low y) : Low (x ++ y) := fun c hc => by
  have e : (x ++ y).cps.toList = x.cps.toList ++ y.cps.toList := TL.tl_append x y
  rw [e] at hc
  rcases List.mem_append.mp hc with z | z
  · exact hx c z
  · exact hy c z
theorem low_atT {a : At} (g : Good a) : Low (atT a) := low_app (low_app (low_kind g.k) (low_dig g.l0 g.l9)) (low_dig g.r0 g.r9)
theorem low_join {s : PySem.Str} (hs : Low s) : ∀ {l : List PySem.Str}, (∀ x ∈ l, Low x) → Low (PySem.Str.join s l)
  | [], _ => fun c hc => by
    have e : (PySem.Str.join s []).cps.toList = [] := TL.tl_join s []
    rw [e] at hc
    cases hc
  | [x], h => fun c hc => by
    have e : (PySem.Str.join s [x]).cps.toList = x.cps.toList := TL.tl_join s [x]
    rw [e] at hc
    exact h x (.head _) c hc
  | x :: y :: r, h => by
    have e : PySem.Str.join s (x :: y :: r) = x ++ s ++ PySem.Str.join s (y :: r) := rfl
    rw [e]
    exact low_app (low_app (h x (.head _)) hs) (low_join hs fun z hz => h z (.tail _ hz))
theorem low_txt {as : List At} (h : ∀ a ∈ as, Good a) : Low (txt as) := by
  unfold txt
  rw [TL.join_eq]
  refine low_join (s := " ") (low_ofs (by decide +kernel)) fun x hx => ?_
  obtain ⟨a, ha, rfl⟩ := List.mem_map.mp hx
  exact low_atT (h a ha)
theorem cq_low {k : Nat} {x : PySem.Str} (h : Low x) : Cq k (.str x) := by
  have hk : PyData.strOk x = true := by
    unfold PyData.strOk
    rw [← Array.all_toList]
    exact List.all_eq_true.mpr fun c hc => decide_eq_true (h c hc)
  exact ⟨by simp [nd], by simp [PyData.canLay0, hk], by simp [PyData.depth]⟩
section
variable {K : PySem.W.Frag} {σ : L2.St} {F : Hp} {ta te t1 t2 : TE} {C N : Addr} {as : List At} {E : XK} {P1 P2 : Hp → V → Prop}
theorem e_cmeth (hC : EvP ta σ F fun _ v => v = .ref C) (h : EvD te σ F (.str (txt as))) (g : ∀ a ∈ as, Good a) (l1 : 1 ≤ as.length) (l4 : as.length ≤ 4) : EvP (ClX.tCMeth C (spQ (IRead C)) E ta (tCons te tNil)) σ F (QV C as) := fun S H1 f s Q q =>
  hC S H1 f s _ fun v H2 s2 e => ⟨e, h S H2 (f.mono s2) (s.trans (offS_mono s2)) _ fun v H3 s3 r => by
    cases r
    exact ⟨S, QV C as, f.mono (s2.trans s3), ⟨as, rfl, g, l1, l4, rfl⟩, fun v H4 s4 p => q v H4 ((s2.trans s3).trans s4) p⟩⟩
theorem go_parS {S : Addr → Bool} {H : Hp} {D : L2.Ends} {u : TS} {i j : Nat} (f : Fr S H) (h1 : EvP t1 σ (offS S H) P1) (h2 : EvP t2 σ (offS S H) P2) (m1 : ∀ F F' v, Same F F' → P1 F v → P1 F' v)
    (k : ∀ v w H', Same H H' → Fr S H' → P1 (offS S H') v → P2 (offS S H') w → u D ((σ.set i (some v)).set j (some w)) H') : tSeq (tPar i j (tCons t1 (tCons t2 tNil))) u D σ H :=
  h1 S H f (Same.refl _) _ fun v H2 s2 p1 => h2 S H2 (f.mono s2) (offS_mono s2) _ fun w H3 s3 p2 => ⟨v, w, rfl, k v w H3 (s2.trans s3) (f.mono (s2.trans s3)) (m1 _ _ _ (offS_mono s3) p1) p2⟩
end
theorem has_least {as : List At} : ∃ m, Least (nums as) m := by
  have hne : nums as ≠ [] := fun z => by
    have : num as ∈ nums as := List.mem_map.mpr ⟨as, (ords_mem as.length as rfl as).mpr (List.Perm.refl _), rfl⟩
    rw [z] at this
    cases this
  obtain ⟨p, ps, hps⟩ := List.exists_cons_of_ne_nil hne
  obtain ⟨m, _, lm⟩ := minD_least ps p
  rw [hps]
  exact ⟨m, lm⟩
theorem nums_ren {as bs : List At} {g : Int → Int} (pb : bs.Perm (as.map (rnm g))) (hi : InjOn g (vars as)) : ∀ p, p ∈ nums as ↔ p ∈ nums bs := fun p => by
  unfold nums
  rw [List.mem_map, List.mem_map]
  have inj : ∀ {o : List At}, o.Perm as → num (o.map (rnm g)) = num o := fun {o} ho => num_rnm g o fun x hx y hy e => by
    refine hi x ?_ y ?_ e
    · obtain ⟨a, ha, hx⟩ := mem_vars.mp hx
      exact mem_vars.mpr ⟨a, ho.subset ha, hx⟩
    · obtain ⟨a, ha, hy⟩ := mem_vars.mp hy
      exact mem_vars.mpr ⟨a, ho.subset ha, hy⟩
  constructor
  · rintro ⟨o, ho, rfl⟩
    have po := (ords_mem as.length as rfl o).mp ho
    exact ⟨o.map (rnm g), (ords_mem bs.length bs rfl _).mpr ((po.map _).trans pb.symm), inj po⟩
  · rintro ⟨o, ho, rfl⟩
    have po := (ords_mem bs.length bs rfl o).mp ho
    have po2 := po.trans pb
    obtain ⟨o', ho', eo⟩ : ∃ o' : List At, o'.Perm as ∧ o = o'.map (rnm g) := by
      have : ∀ {l m : List At}, l.Perm m → ∀ n : List At, m = n.map (rnm g) → ∃ o' : List At, o'.Perm n ∧ l = o'.map (rnm g) := by
        intro l m hp
        induction hp with
        | nil =>
          intro n e
          exact ⟨[], by rw [List.map_eq_nil_iff.mp e.symm], rfl⟩
        | cons x hp ih =>
          intro n e
          cases n with
          | nil => cases e
          | cons y n =>
            rw [List.map_cons] at e
            injection e with e1 e2
            obtain ⟨o', h1, h2⟩ := ih n e2
            exact ⟨y :: o', h1.cons y, by rw [List.map_cons, ← h2, e1]⟩
        | swap x y l =>
          intro n e
          match n, e with
          | a :: b :: n, e =>
            rw [List.map_cons, List.map_cons] at e
            injection e with e1 e2
            injection e2 with e2 e3
            exact ⟨b :: a :: n, List.Perm.swap a b n, by rw [List.map_cons, List.map_cons, ← e1, ← e2, ← e3]⟩
        | trans h1 h2 ih1 ih2 =>
          intro n e
          obtain ⟨o2, p2, e2⟩ := ih2 n e
          obtain ⟨o1, p1, e1⟩ := ih1 o2 e2
          exact ⟨o1, p1.trans p2, e1⟩
      exact this po2 as rfl
    exact ⟨o', (ords_mem as.length as rfl o').mpr ho', by rw [eo]; exact (inj ho').symm⟩
/-! ### the law -/
abbrev s_law : Stmt := top 64
abbrev nLaw : List PySem.Str := ["_law_script", "_law_k", "_law_pen_here", "_law_lap", "_law_atoms", "_law_one", "_law_due_here", "_law_other"]
theorem sc_law : FnScope nLaw ["_law_script"] (defScope s_law) := ⟨rfl, rfl, rfl, by decide +kernel, rfl, by decide +kernel, by decide +kernel⟩
def spLaw (K : PySem.W.Frag) : Sp := fun vs H Q _ => ∃ (a : Addr) (ns : List Int), vs = [.ref a] ∧ SqL K H a (ns.map V.int) ∧ ns.length ≤ 63 ∧ ∀ H', Q (.bl true) H'
theorem same_kp {H H2 H3 : Hp} {p : Addr} (s : Same H H2) (p0 : H p = none) (k : Kp p H2 H3) : Same H H3 := fun b o e => k b o (ne_of_none e p0) (s b o e)
section
variable {P : Program} {w : World} {K : PySem.W.Frag} {mg : PySem.Str → Option Value} {base : Heap}
theorem ok_law {f C N pR gR fTx : Addr} {fd fdTx : FuncData} (F : FnP K "law" s_law f fd) (T : Tx K mg) (TQ : QT K mg C N) (ic : IsiC K C) (gC : mg "Question" = some (.ref C))
    (DCe : Fd P w K mg base "_law_cell_at" 1 ["_law_script", "_law_k"] (spPCell K)) (DPe : Fd P w K mg base "_law_pen" 1 ["_law_cell"] spPPen) (DDr : Fd P w K mg base "_law_drawn" 3 ["_law_pen_here", "_law_most"] spDrn)
    (DRe : Fd P w K mg base "_law_renamed" 3 ["_law_pen_here", "_law_atoms"] spRen) (DTe : Fd P w K mg base "_law_text" 1 ["_law_atoms"] (spR RPtx)) (DDu : Fd P w K mg base "_law_due" 6 ["_law_atoms"] (spR RDue))
    (DNo : Fd P w K mg base "normal" 6 ["question"] (spQ (INorm C))) (mT : Meth K C "text" fTx) (GT : FnOk P w K mg base CX0 2 fTx fdTx ["self"] (spQ (IText C))) (bT : Binds K fdTx ["self"] [])
    (cr : ClX.CRead K C (.type "type")) (cm : ClX.CMet K C (.type "type") "read" pR gR) (GR : FnR P w K mg base CX0 6 gR (spQ (IRead C))) : FnG P w K mg base CX0 8 f (spLaw K) := by
  obtain ⟨fCe, fdCe, GCe, bCe, kCe, gCe⟩ := DCe.ex
  obtain ⟨fPe, fdPe, GPe, bPe, kPe, gPe⟩ := DPe.ex
  obtain ⟨fDr, fdDr, GDr, bDr, kDr, gDr⟩ := DDr.ex
  obtain ⟨fRe, fdRe, GRe, bRe, kRe, gRe⟩ := DRe.ex
  obtain ⟨fTe, fdTe, GTe, bTe, kTe, gTe⟩ := DTe.ex
  obtain ⟨fDu, fdDu, GDu, bDu, kDu, gDu⟩ := DDu.ex
  obtain ⟨fNo, fdNo, GNo, bNo, kNo, gNo⟩ := DNo.ex
  refine fng_of F sc_law (FunD.bindsA (ps := ["_law_script"]) F fun _ _ _ _ _ _ us hl => match us, hl with | [_], _ => rfl) (fun vs H Q E h => ?_) (fun cdv A outer s0 H vs Q E hg hr h => ?_)
  · obtain ⟨a, ns, rfl, _⟩ := h
    rfl
  · obtain ⟨a, ns, rfl, hS, h63, q⟩ := h
    refine ⟨_, PSs.nox (pss_cons (ps_for PassesOwn.never rfl (pi_range1 rfl T.range (pa_cons (pe_callB (call_max2 rfl) (by rfl) T.max bMax (pa_cons pe_int (pa_cons (pe_callB (call_min2 rfl) (by rfl) T.min bMin (pa_cons (pe_callB call_len_seq (by rfl) T.len bLen (pa_cons (pv 0) pa_nil)) (pa_cons pe_int pa_nil))) pa_nil))) pa_nil)) (pg_name (i := 1) sc_law.nd rfl (.inl rfl))
      (pss_cons (ps_set (i := 2) sc_law.nd rfl (.inl rfl) (pe_call GPe (hr.mono (by decide)) rfl gPe kPe bPe .nil pass0 (pa_cons (pe_call GCe (hr.mono (by decide)) rfl gCe kCe bCe .nil pass0 (pa_cons (pv 0) (pa_cons (pv 1) pa_nil))) pa_nil)))
      (pss_one (ps_for PassesOwn.never rfl (pi_range1 rfl T.range (pa_cons pe_int pa_nil)) (pg_name (i := 3) sc_law.nd rfl (.inl rfl))
        (pss_cons (ps_set (i := 4) sc_law.nd rfl (.inl rfl) (pe_call GDr (hr.mono (by decide)) rfl gDr kDr bDr .nil pass0 (pa_cons (pv 2) (pa_cons pe_int pa_nil))))
        (pss_cons (ps_par (i := 5) (j := 6) (by rfl) sc_law.nd rfl rfl (by decide) rfl rfl (pa_cons (ClX.pe_cmeth (pe_glob (v := .ref C) rfl gC rfl) cr cm GR (hr.mono (by decide)) pass0 (pa_cons (pe_call GTe (hr.mono (by decide)) rfl gTe kTe bTe .nil pass0 (pa_cons (pv 4) pa_nil)) pa_nil)) (pa_cons (pe_call GDu (hr.mono (by decide)) rfl gDu kDu bDu .nil pass0 (pa_cons (pv 4) pa_nil)) pa_nil)) (by rfl))
        (pss_cons (ps_set (i := 7) sc_law.nd rfl (.inl rfl) (ClX.pe_cmeth (pe_glob (v := .ref C) rfl gC rfl) cr cm GR (hr.mono (by decide)) pass0 (pa_cons (pe_call GTe (hr.mono (by decide)) rfl gTe kTe bTe .nil pass0 (pa_cons (pe_call GRe (hr.mono (by decide)) rfl gRe kRe bRe .nil pass0 (pa_cons (pv 2) (pa_cons (pv 4) pa_nil))) pa_nil)) pa_nil)))
        (pss_cons (ps_if (pt_cmpR (op_neD hr.units : OpR _ _ (rNeD K)) (pe_lst (pa_cons (pe_meth0 (pe_call GNo (hr.mono (by decide)) rfl gNo kNo bNo .nil pass0 (pa_cons (pv 5) pa_nil)) TQ.cl mT GT (hr.mono (by decide)) bT .nil pass0)
            (pa_cons (pe_meth0 (pe_call GNo (hr.mono (by decide)) rfl gNo kNo bNo .nil pass0 (pa_cons (pv 7) pa_nil)) TQ.cl mT GT (hr.mono (by decide)) bT .nil pass0)
            (pa_cons (pe_meth0 (pe_call GNo (hr.mono (by decide)) rfl gNo kNo bNo .nil pass0 (pa_cons (pv 5) pa_nil)) TQ.cl mT GT (hr.mono (by decide)) bT .nil pass0) pa_nil)))) (pe_op op_rep (pe_lst (pa_cons (pv 6) pa_nil)) pe_int) (nomark _)) (pss_one (ps_ret pe_bl)) pss_nil)
        (pss_one (ps_if (PW.pt (pw_or (pt_cmpR op_ne (pe_meth0 (pv 5) TQ.cl mT GT (hr.mono (by decide)) bT .nil pass0) (pe_call GTe (hr.mono (by decide)) rfl gTe kTe bTe .nil pass0 (pa_cons (pv 4) pa_nil)) (nomark _)) (pw_or1 (pt_not (pt_val (pe_callB (call_isi : CallR _ _ (rIsi K)) (by rfl) T.isi bIsi (pa_cons (pe_call GNo (hr.mono (by decide)) rfl gNo kNo bNo .nil pass0 (pa_cons (pv 5) pa_nil)) (pa_cons (pe_glob (v := .ref C) rfl gC rfl) pa_nil)))))))) (pss_one (ps_ret pe_bl)) pss_nil))))))))))
      (pss_one (ps_ret pe_bl))), ?_⟩
    have sqS : ∀ {H' : Hp}, Same H H' → SqL K H' a (ns.map V.int) := fun s => s.seq hS
    refine ⟨_, rfl, a, _, rfl, .inl hS, _, 3, rfl, 1, _, rfl, _, rfl, ?_, ?_, ?_⟩
    · split <;> split <;> omega
    · have l : (((ns.map V.int).length : Nat) : Int) ≤ 63 := by
        rw [List.length_map]
        omega
      split <;> split <;> omega
    generalize Int.toNat _ = nk
    refine for_range (lo := 0) (n := nk) (fun i σ H' => ∃ x1 x2 x3 x4 x5 x6 x7, σ = [some (V.ref a), x1, x2, x3, x4, x5, x6, x7] ∧ Same H H') ⟨none, none, none, none, none, none, none, rfl, Same.refl H⟩ ?_ ?_
    · rintro i σ H' hi ⟨x1, x2, x3, x4, x5, x6, x7, rfl, sH⟩
      refine ⟨_, rfl, _, rfl, a, ns, _, rfl, by omega, sqS sH, fun z => ⟨z, rfl, fun p H1 hp ⟨c1, c2, c3, eH⟩ pn1 => ?_⟩⟩
      have p0 : H p = none := sH.free hp
      have s1 : Same H H1 := by
        rw [eH]
        exact sH.trans (same_new hp)
      refine ⟨4, rfl, by decide, by decide, for_range (lo := 0) (n := 4) (fun j σ H2 => ∃ x3 x4 x5 x6 x7, σ = [some (V.ref a), some (V.int (0 + (i : Int))), some (V.ref p), x3, x4, x5, x6, x7] ∧ Same H H2 ∧ Pn (60 * (4 - j)) H2 p)
        ⟨_, _, _, _, _, rfl, s1, pn1.mono (by decide)⟩ ?_ ?_⟩
      · rintro j σ H2 hj ⟨x3, x4, x5, x6, x7, rfl, s2, pn2⟩
        have hj4 : j < 4 := hj
        have pn2' : Pn ((60 * (4 - (j + 1)) + 20) + 40) H2 p := pn2.mono (by omega)
        refine ⟨_, rfl, p, 4, 4, _, rfl, rfl, by decide, by decide, pn2', fun fa xs as H3 f0 kp3 pn3 hfa r3 l1 l4 g => ?_⟩
        have s3 : Same H H3 := same_kp s2 p0 kp3
        have nfa : fa ≠ p := fun z => by
          obtain ⟨a, b, c, e, _⟩ := pn2
          rw [z, e] at f0
          cases f0
        have fr3 := fr_only pn3
        have rA : Rp (offS (only p) H3) (.ref fa) (oD as) := .lst (by rw [offS_at (only_ne nfa)]; exact hfa) (ats_off fr3 (r3.mono onlyT_same))
        obtain ⟨m, lm⟩ := has_least (as := as)
        have gm := nums_good g l4 lm.1
        have hT : RPtx [oD as] (.str (txt as)) := ⟨as, rfl, by omega, g, rfl⟩
        have hD : RDue [oD as] (.str (txt m)) := ⟨as, m, rfl, l1, l4, g, lm, rfl⟩
        show tSeq (tPar 5 6 (tCons (ClX.tCMeth C (spQ (IRead C)) _ (tC (V.ref C)) (tCons (tCall (spR RPtx) [] _ (tCons (tVar 4) tNil)) tNil)) (tCons (tCall (spR RDue) [] _ (tCons (tVar 4) tNil)) tNil))) _ _ [some (V.ref a), some (V.int (0 + (i : Int))), some (V.ref p), some (V.int (0 + (j : Int))), some (V.ref fa), x5, x6, x7] H3
        refine go_parS (σ := [some (V.ref a), some (V.int (0 + (i : Int))), some (V.ref p), some (V.int (0 + (j : Int))), some (V.ref fa), x5, x6, x7]) (i := 5) (j := 6) (P1 := QV C as) (P2 := fun H v => Rp H v (.str (txt m))) fr3 (e_cmeth (fun S H1 f s Q q => q _ H1 (Same.refl _) rfl) (e_call (R := RPtx) (a_cons (e_var (i := 4) rfl rA) a_nil) hT) g l1 l4) (e_call (R := RDue) (a_cons (e_var (i := 4) rfl rA) a_nil) hD) (fun F F' v s r => r.mono s) fun vo vd H4 s4 fr4 rO rD => ?_
        have rA4 := rA.mono (offS_mono (S := only p) s4)
        refine ⟨rfl, _, rfl, _, rfl, p, _, as, 60 * (4 - (j + 1)), rfl, pn3.same s4, rA4, g, l4, fun fb ys bs gg H5 f5 kp5 pn5 hfb rb pb ig gb => ?_⟩
        have nfb : fb ≠ p := fun z => by
          obtain ⟨a, b, c, e, _⟩ := pn3.same s4
          rw [z, e] at f5
          cases f5
        have fr5 := fr_only pn5
        have sk := kp_only kp5
        have rB : Rp (offS (only p) H5) (.ref fb) (oD bs) := .lst (by rw [offS_at (only_ne nfb)]; exact hfb) (ats_off fr5 (rb.mono onlyT_same))
        have lb : bs.length = as.length := by
          rw [pb.length_eq, List.length_map]
        refine ⟨only p, _, _, fr5, .cons rB .nil, ⟨bs, rfl, by omega, gb, rfl⟩, fun vt H6 s6 r6 => ?_⟩
        cases r6
        refine ⟨only p, QV C bs, fr5.mono s6, ⟨bs, rfl, gb, by omega, by omega, rfl⟩, fun vb H7 s7 pB => ?_⟩
        have fr7 := fr5.mono (s6.trans s7)
        have s47 := sk.trans (offS_mono (S := only p) (s6.trans s7))
        have rO7 := rO.mono s47
        have rD7 := rD.mono s47
        have rA7 := rA4.mono s47
        have lmb : Least (nums bs) m := ⟨(nums_ren pb ig m).mp lm.1, fun x hx => lm.2 x ((nums_ren pb ig x).mpr hx)⟩
        have nO : ∀ {H' : Hp} {v : V}, QV C as H' v → INorm C H' [v] (QV C m) := fun h => ⟨_, as, m, rfl, h, g, l1, l4, lm, rfl⟩
        have nB : ∀ {H' : Hp} {v : V}, QV C bs H' v → INorm C H' [v] (QV C m) := fun h => ⟨_, bs, m, rfl, h, gb, by omega, by omega, lmb, rfl⟩
        have cl : Cq 1 (.list [.str (txt m), .str (txt m), .str (txt m)]) := cq_lst fun d hd => by
          rcases List.mem_cons.mp hd with e | hd
          · rw [e]; exact cq_low (low_txt gm.1)
          · rcases List.mem_cons.mp hd with e | hd
            · rw [e]; exact cq_low (low_txt gm.1)
            · rcases List.mem_cons.mp hd with e | hd
              · rw [e]; exact cq_low (low_txt gm.1)
              · cases hd
        refine go_ifS fr7 (b_test (e_neD (d := .list [.str (txt m), .str (txt m), .str (txt m)]) (e := .list [.str (txt m), .str (txt m), .str (txt m)])
          (e_lst (a_cons (e_meth0 (e_call1 (P0 := QV C as) (P := QV C m) (e_varP (P := QV C as) rfl fun _ s => rO7.mono s) fun F v r => nO r) (qv_text (by omega) gm.1))
            (a_cons (e_meth0 (e_call1 (P0 := QV C bs) (P := QV C m) (e_varP (P := QV C bs) rfl fun _ s => pB.mono s) fun F v r => nB r) (qv_text (by omega) gm.1))
            (a_cons (e_meth0 (e_call1 (P0 := QV C as) (P := QV C m) (e_varP (P := QV C as) rfl fun _ s => rO7.mono s) fun F v r => nO r) (qv_text (by omega) gm.1)) a_nil))))
          (eqD (e_rep (k := 3) (e_lst (a_cons (e_var rfl rD7) a_nil)) e_int (by simp) (by decide)) rfl) cl.ok cl.ok)) (fun z => ?_) fun _ H8 s8 fr8 => ?_
        · exfalso
          simp [PyData.eqv, PyData.eqvAll] at z
        have rO8 := rO7.mono (offS_mono (S := only p) s8)
        have rA8 := rA7.mono (offS_mono (S := only p) s8)
        refine go_if fr8 (b_or (b_test (e_neS (e_meth0 (e_varP (P := QV C as) rfl fun _ s => rO8.mono s) (qv_text (by omega) g)) (e_call (a_cons (e_var rfl rA8) a_nil) ⟨_, rfl, by omega, g, rfl⟩))) fun _ => b_not (b_val (e_isiQ (as := m) TQ.cl ic (e_call1 (P0 := QV C as) (P := QV C m) (e_varP (P := QV C as) rfl fun _ s => rO8.mono s) fun F v r => nO r) (fun S H1 f s Q q => q _ H1 (Same.refl _) rfl)))) (fun z => ?_) fun _ H9 s9 fr9 => ?_
        · exfalso
          simp at z
        · refine ⟨_, _, _, _, _, rfl, ?_, pn5.same ((s6.trans s7).trans (s8.trans s9))⟩
          exact (same_kp (s3.trans s4) p0 kp5).trans ((s6.trans s7).trans (s8.trans s9))
      · rintro σ H2 ⟨x3, x4, x5, x6, x7, rfl, s2, pn2⟩
        exact ⟨_, _, _, _, _, _, _, rfl, s2⟩
    · rintro σ H' ⟨x1, x2, x3, x4, x5, x6, x7, rfl, sH⟩
      exact q H'
end
end Q

set_option maxHeartbeats 4000000
namespace Q
open PySem PySem.Spec PyProof.Rows L2 He Ca
def isiB (x : PySem.Str) (K : PySem.W.Frag) : Bool :=
  eqO (PySem.W.findIn K (.ref (ga K x)) "__class__") (some (some (.builtin "object.__class__"))) && (eqO (PySem.W.specialIn K (.builtin "object.__class__") "__get__") (some (some (.builtin "getset_descriptor.__get__"))) &&
    (decide (PySem.W.takesIn K (.builtin "object.__class__") = some true) && (decide (PySem.W.mroIn K (ga K x) (.type "object") = some true) && decide (PySem.W.kitOne K (.ref (ga K x)) (.ref (ga K x)) = some true))))
theorem isi_ok {x : PySem.Str} {K : PySem.W.Frag} (h : isiB x K = true) : IsiC K (ga K x) := by
  obtain ⟨h1, h⟩ := ba h
  obtain ⟨h2, h⟩ := ba h
  obtain ⟨h3, h⟩ := ba h
  obtain ⟨h4, h5⟩ := ba h
  exact ⟨eqO_ok h1, eqO_ok h2, of_decide_eq_true h3, of_decide_eq_true h4, of_decide_eq_true h5⟩
end Q

set_option maxHeartbeats 0
namespace Q
open PySem PySem.Spec PyProof.Rows L2 Ca
def fs1 : List (PySem.W.Frag → Bool) := [(fun K => (He.Fa.free "isinstance").ok K), (fun K => (He.Fa.free "int").ok K), (fun K => (He.Fa.free "bool").ok K), (fun K => (He.Fa.free "str").ok K), (fun K => (He.Fa.free "tuple").ok K), (fun K => (He.Fa.free "list").ok K), (fun K => (He.Fa.free "len").ok K), (fun K => (He.Fa.free "all").ok K), (fun K => (He.Fa.free "sorted").ok K), (fun K => (He.Fa.free "repr").ok K), (fun K => (He.Fa.free "max").ok K), (fun K => (He.Fa.free "min").ok K), (fun K => (He.Fa.free "range").ok K), (fun K => (He.Fa.free "set").ok K), (fun K => (He.Fa.free "enumerate").ok K), (fun K => (He.Fa.glo "is_number").ok K), (fun K => (He.Fa.glo "is_triple").ok K), (fun K => (He.Fa.glo "are_atoms").ok K), (fun K => (He.Fa.glo "variables_of").ok K), (fun K => (He.Fa.glo "text_of_atoms").ok K)]
def fs2 : List (PySem.W.Frag → Bool) := [(fun K => (He.Fa.glo "number_of_word").ok K), (fun K => (He.Fa.glo "atom_of_word").ok K), (fun K => (He.Fa.glo "KINDS").ok K), (fun K => (He.Fa.glo "NoAtoms").ok K), (fun K => (He.Fa.glo "Question").ok K), (fun K => He.tupB K "KINDS" [.str "A", .str "B", .str "C"]), (fun K => (K.lookup sysModules).isSome), (fun K => (He.Fa.int "MOST_ATOMS" 4).ok K), (fun K => (He.Fa.int "MOST_VARIABLE" 9).ok K), (fun K => (He.Fa.exc "NoAtoms").ok K), (fun K => (He.Fa.cls "Question").ok K), (fun K => (He.Fa.noat "Question" "given").ok K), (fun K => (He.Fa.noat "Question" "ordered").ok K), (fun K => (He.Fa.noat "Question" "used").ok K), (fun K => (He.Fa.mkr "Question").ok K), (fun K => (He.Fa.int "LONGEST_NUMBER" 5).ok K), (fun K => crB "Question" K), (fun K => cmB "Question" "read" K), (fun K => (He.Fa.glo "check_question").ok K), (fun K => (He.Fa.glo "all_orders").ok K)]
def fs3 : List (PySem.W.Frag → Bool) := [(fun K => (He.Fa.glo "numbered").ok K), (fun K => (He.Fa.glo "normal").ok K), (fun K => (He.Fa.glo "_law_cell_at").ok K), (fun K => (He.Fa.glo "_law_pen").ok K), (fun K => (He.Fa.glo "_law_draw").ok K), (fun K => (He.Fa.glo "_law_mixed").ok K), (fun K => (He.Fa.glo "_law_drawn").ok K), (fun K => (He.Fa.glo "_law_names").ok K), (fun K => (He.Fa.glo "_law_renamed").ok K), (fun K => (He.Fa.glo "_law_text").ok K), (fun K => (He.Fa.glo "_law_orders").ok K), (fun K => (He.Fa.glo "_law_counted").ok K), (fun K => (He.Fa.glo "_law_due").ok K), (fun K => (He.Fa.glo "law").ok K), (fun K => isiB "Question" K), (fun K => propB "Question" "atoms" K), (fun K => (He.Fa.meth "Question" "text").ok K)]
def fs : List (PySem.W.Frag → Bool) := fs1 ++ fs2 ++ fs3
def df_num : DfX := ⟨fun K => He.ga K "is_number", "is_number", "is_number", s_is_number⟩
def df_tri : DfX := ⟨fun K => He.ga K "is_triple", "is_triple", "is_triple", s_is_triple⟩
def df_are : DfX := ⟨fun K => He.ga K "are_atoms", "are_atoms", "are_atoms", s_are_atoms⟩
def df_vars : DfX := ⟨fun K => He.ga K "variables_of", "variables_of", "variables_of", s_variables_of⟩
def df_text : DfX := ⟨fun K => He.ga K "text_of_atoms", "text_of_atoms", "text_of_atoms", s_text_of_atoms⟩
def df_now : DfX := ⟨fun K => He.ga K "number_of_word", "number_of_word", "number_of_word", s_now⟩
def df_aow : DfX := ⟨fun K => He.ga K "atom_of_word", "atom_of_word", "atom_of_word", s_aow⟩
def df_init : DfX := ⟨fun K => He.ma K (He.ga K "Question") "__init__", "__init__", "Question.__init__", s_init⟩
def df_read : DfX := ⟨fun K => cmG K "Question" "read", "read", "Question.read", s_read⟩
def df_qtext : DfX := ⟨fun K => He.ma K (He.ga K "Question") "text", "text", "Question.text", s_qtext⟩
def df_atoms : DfX := ⟨fun K => propG K (He.ma K (He.ga K "Question") "atoms"), "atoms", "Question.atoms", s_atoms⟩
def df_cq : DfX := ⟨fun K => He.ga K "check_question", "check_question", "check_question", s_cq⟩
def df_ao : DfX := ⟨fun K => He.ga K "all_orders", "all_orders", "all_orders", s_ao⟩
def df_nu : DfX := ⟨fun K => He.ga K "numbered", "numbered", "numbered", s_nu⟩
def df_no : DfX := ⟨fun K => He.ga K "normal", "normal", "normal", s_no⟩
def df_pcell : DfX := ⟨fun K => He.ga K "_law_cell_at", "_law_cell_at", "_law_cell_at", s_pcell⟩
def df_ppen : DfX := ⟨fun K => He.ga K "_law_pen", "_law_pen", "_law_pen", s_ppen⟩
def df_pdraw : DfX := ⟨fun K => He.ga K "_law_draw", "_law_draw", "_law_draw", s_pdraw⟩
def df_mix : DfX := ⟨fun K => He.ga K "_law_mixed", "_law_mixed", "_law_mixed", s_mix⟩
def df_drn : DfX := ⟨fun K => He.ga K "_law_drawn", "_law_drawn", "_law_drawn", s_drn⟩
def df_nms : DfX := ⟨fun K => He.ga K "_law_names", "_law_names", "_law_names", s_nms⟩
def df_ren : DfX := ⟨fun K => He.ga K "_law_renamed", "_law_renamed", "_law_renamed", s_ren⟩
def df_ptx : DfX := ⟨fun K => He.ga K "_law_text", "_law_text", "_law_text", s_ptx⟩
def df_ord : DfX := ⟨fun K => He.ga K "_law_orders", "_law_orders", "_law_orders", s_ord⟩
def df_cnt : DfX := ⟨fun K => He.ga K "_law_counted", "_law_counted", "_law_counted", s_cnt⟩
def df_due : DfX := ⟨fun K => He.ga K "_law_due", "_law_due", "_law_due", s_due⟩
def df_law : DfX := ⟨fun K => He.ga K "law", "law", "law", s_law⟩
def fn : List DfX := [df_num, df_tri, df_are, df_vars, df_text, df_now, df_aow, df_init, df_read, df_qtext, df_atoms, df_cq, df_ao, df_nu, df_no, df_pcell, df_ppen, df_pdraw, df_mix, df_drn, df_nms, df_ren, df_ptx, df_ord, df_cnt, df_due, df_law]
def nm1 : List PySem.Str := ["_wall", "KINDS", "LONGEST_NUMBER", "is_number", "is_triple", "number_of_word", "CountError", "NoRows", "NoKey", "NoText", "NoTable", "NoAtoms", "NoQuestion", "TooMuch", "MOST_ROWS", "MOST_VALUE", "MOST_OFTEN", "MOST_DIGIT", "DIGIT_BASE", "is_key", "is_row", "are_rows", "text_of_rows", "row_of_line", "greatest_value"]
def nm2 : List PySem.Str := ["summed_rows", "shifted_rows", "paired_rows", "Table", "check_table", "table_within_limits", "MOST_ATOMS", "MOST_VARIABLE", "are_atoms", "text_of_atoms", "atom_of_word", "variables_of", "Question", "check_question", "question_within_limits", "agrees", "choices", "count_of", "all_orders", "numbered", "normal", "_law_cell_at", "_law_pen", "_law_draw", "_law_mixed"]
def nm3 : List PySem.Str := ["_law_drawn", "_law_names", "_law_renamed", "_law_near", "_law_text", "_law_orders", "_law_counted", "_law_due"]
def nms : List PySem.Str := nm1 ++ nm2 ++ nm3
abbrev R : PySem.W.OpenRow := PySem.W.OpenLaw.row PySem.Challenge.rw_countalike_k43_normal_forms
abbrev hk : PySem.W.Hook := hookY 7 fs fn
def ob (s : PySem.W.SharedT) : AlX := seeY 7 fs fn (HandSHeadRun.getT s)
theorem ob_eq (s : PySem.W.SharedT) : ob s = hk.obs s.abs := seeY_eq (HandSHeadRun.getT_eq s)
theorem run (w : World) : HandSHeadRun.RunEq R (PySem.W.view R.prog [64]) hk ob 30000 nms w := by
  intro os
  kernel_rfl
theorem facts {P : Program} {w : World} {K : PySem.W.Frag} {h : Heap} {mg : PySem.Str → Option Value} {f : Addr} (X : K.In h) (G : h.Ns mainGlobals mg) (hfa : mg ("law" : PySem.Str) = some (.ref f)) (c : SaysX fs fn K) :
    ∀ base : Heap, K.In base → base.Ns mainGlobals mg → FnG P w K mg base CX0 8 f (spLaw K) := by
  intro base _ _
  obtain ⟨fd_num, F_num⟩ := c.def_ 0 (d := df_num) rfl
  obtain ⟨fd_tri, F_tri⟩ := c.def_ 1 (d := df_tri) rfl
  obtain ⟨fd_are, F_are⟩ := c.def_ 2 (d := df_are) rfl
  obtain ⟨fd_vars, F_vars⟩ := c.def_ 3 (d := df_vars) rfl
  obtain ⟨fd_text, F_text⟩ := c.def_ 4 (d := df_text) rfl
  obtain ⟨fd_now, F_now⟩ := c.def_ 5 (d := df_now) rfl
  obtain ⟨fd_aow, F_aow⟩ := c.def_ 6 (d := df_aow) rfl
  obtain ⟨fd_init, F_init⟩ := c.def_ 7 (d := df_init) rfl
  obtain ⟨fd_read, F_read⟩ := c.def_ 8 (d := df_read) rfl
  obtain ⟨fd_qtext, F_qtext⟩ := c.def_ 9 (d := df_qtext) rfl
  obtain ⟨fd_atoms, F_atoms⟩ := c.def_ 10 (d := df_atoms) rfl
  obtain ⟨fd_cq, F_cq⟩ := c.def_ 11 (d := df_cq) rfl
  obtain ⟨fd_ao, F_ao⟩ := c.def_ 12 (d := df_ao) rfl
  obtain ⟨fd_nu, F_nu⟩ := c.def_ 13 (d := df_nu) rfl
  obtain ⟨fd_no, F_no⟩ := c.def_ 14 (d := df_no) rfl
  obtain ⟨fd_pcell, F_pcell⟩ := c.def_ 15 (d := df_pcell) rfl
  obtain ⟨fd_ppen, F_ppen⟩ := c.def_ 16 (d := df_ppen) rfl
  obtain ⟨fd_pdraw, F_pdraw⟩ := c.def_ 17 (d := df_pdraw) rfl
  obtain ⟨fd_mix, F_mix⟩ := c.def_ 18 (d := df_mix) rfl
  obtain ⟨fd_drn, F_drn⟩ := c.def_ 19 (d := df_drn) rfl
  obtain ⟨fd_nms, F_nms⟩ := c.def_ 20 (d := df_nms) rfl
  obtain ⟨fd_ren, F_ren⟩ := c.def_ 21 (d := df_ren) rfl
  obtain ⟨fd_ptx, F_ptx⟩ := c.def_ 22 (d := df_ptx) rfl
  obtain ⟨fd_ord, F_ord⟩ := c.def_ 23 (d := df_ord) rfl
  obtain ⟨fd_cnt, F_cnt⟩ := c.def_ 24 (d := df_cnt) rfl
  obtain ⟨fd_due, F_due⟩ := c.def_ 25 (d := df_due) rfl
  obtain ⟨fd_law, F_law⟩ := c.def_ 26 (d := df_law) rfl
  have e := hfa.symm.trans (He.glo_ok X G (c.fact 53 rfl))
  cases e
  have b_tri : Binds K fd_tri ["thing", "most"] [] := F_tri.bindsN fun _ _ _ _ _ _ us hl => match us, hl with | [_, _], _ => rfl
  have b_are : Binds K fd_are ["things"] [] := F_are.bindsN fun _ _ _ _ _ _ us hl => match us, hl with | [_], _ => rfl
  have b_vars : Binds K fd_vars ["atoms"] [] := F_vars.bindsN fun _ _ _ _ _ _ us hl => match us, hl with | [_], _ => rfl
  have b_text : Binds K fd_text ["atoms"] [] := F_text.bindsN fun _ _ _ _ _ _ us hl => match us, hl with | [_], _ => rfl
  have b_now : Binds K fd_now ["word"] [] := F_now.bindsN fun _ _ _ _ _ _ us hl => match us, hl with | [_], _ => rfl
  have b_aow : Binds K fd_aow ["word"] [] := F_aow.bindsN fun _ _ _ _ _ _ us hl => match us, hl with | [_], _ => rfl
  have b_read : Binds K fd_read ["cls", "text"] [] := F_read.bindsN fun _ _ _ _ _ _ us hl => match us, hl with | [_, _], _ => rfl
  have b_qtext : Binds K fd_qtext ["self"] [] := F_qtext.bindsN fun _ _ _ _ _ _ us hl => match us, hl with | [_], _ => rfl
  have b_atoms : Binds K fd_atoms ["self"] [] := F_atoms.bindsN fun _ _ _ _ _ _ us hl => match us, hl with | [_], _ => rfl
  have b_cq : Binds K fd_cq ["thing"] [] := F_cq.bindsN fun _ _ _ _ _ _ us hl => match us, hl with | [_], _ => rfl
  have b_ao : Binds K fd_ao ["atoms"] [] := F_ao.bindsN fun _ _ _ _ _ _ us hl => match us, hl with | [_], _ => rfl
  have b_nu : Binds K fd_nu ["atoms"] [] := F_nu.bindsN fun _ _ _ _ _ _ us hl => match us, hl with | [_], _ => rfl
  have b_no : Binds K fd_no ["question"] [] := F_no.bindsN fun _ _ _ _ _ _ us hl => match us, hl with | [_], _ => rfl
  have b_pcell : Binds K fd_pcell ["_law_script", "_law_k"] [] := F_pcell.bindsN fun _ _ _ _ _ _ us hl => match us, hl with | [_, _], _ => rfl
  have b_ppen : Binds K fd_ppen ["_law_cell"] [] := F_ppen.bindsN fun _ _ _ _ _ _ us hl => match us, hl with | [_], _ => rfl
  have b_pdraw : Binds K fd_pdraw ["_law_pen_here", "_law_many"] [] := F_pdraw.bindsN fun _ _ _ _ _ _ us hl => match us, hl with | [_, _], _ => rfl
  have b_mix : Binds K fd_mix ["_law_pen_here", "_law_things"] [] := F_mix.bindsN fun _ _ _ _ _ _ us hl => match us, hl with | [_, _], _ => rfl
  have b_drn : Binds K fd_drn ["_law_pen_here", "_law_most"] [] := F_drn.bindsN fun _ _ _ _ _ _ us hl => match us, hl with | [_, _], _ => rfl
  have b_nms : Binds K fd_nms ["_law_atoms"] [] := F_nms.bindsN fun _ _ _ _ _ _ us hl => match us, hl with | [_], _ => rfl
  have b_ren : Binds K fd_ren ["_law_pen_here", "_law_atoms"] [] := F_ren.bindsN fun _ _ _ _ _ _ us hl => match us, hl with | [_, _], _ => rfl
  have b_ptx : Binds K fd_ptx ["_law_atoms"] [] := F_ptx.bindsN fun _ _ _ _ _ _ us hl => match us, hl with | [_], _ => rfl
  have b_ord : Binds K fd_ord ["_law_atoms"] [] := F_ord.bindsN fun _ _ _ _ _ _ us hl => match us, hl with | [_], _ => rfl
  have b_cnt : Binds K fd_cnt ["_law_atoms"] [] := F_cnt.bindsN fun _ _ _ _ _ _ us hl => match us, hl with | [_], _ => rfl
  have b_due : Binds K fd_due ["_law_atoms"] [] := F_due.bindsN fun _ _ _ _ _ _ us hl => match us, hl with | [_], _ => rfl
  have sK : ∀ H : Hp, SqT K H (He.ga K "KINDS") [.str "A", .str "B", .str "C"] := fun H => He.tupB_ok (c.fact 25 rfl) H
  have T : Tx K mg := {
    isi := (He.free_ok X G (c.fact 0 rfl)), int := (He.free_ok X G (c.fact 1 rfl)), bool := (He.free_ok X G (c.fact 2 rfl)), str := (He.free_ok X G (c.fact 3 rfl)), tup := (He.free_ok X G (c.fact 4 rfl)), lst := (He.free_ok X G (c.fact 5 rfl)), len := (He.free_ok X G (c.fact 6 rfl)), all := (He.free_ok X G (c.fact 7 rfl)),
    sorted := (He.free_ok X G (c.fact 8 rfl)), repr := (He.free_ok X G (c.fact 9 rfl)), max := (He.free_ok X G (c.fact 10 rfl)), min := (He.free_ok X G (c.fact 11 rfl)), range := (He.free_ok X G (c.fact 12 rfl)),
    kinds := ⟨_, (He.glo_ok X G (c.fact 22 rfl)), sK⟩, mAtoms := (He.int_ok X G (c.fact 27 rfl)), mVar := (He.int_ok X G (c.fact 28 rfl)), sm := Option.isSome_iff_exists.mp (c.fact 26 rfl) }
  obtain ⟨x1, x2, x3, x4⟩ := He.exc_ok (c.fact 29 rfl)
  have TQ : QT K mg (He.ga K "Question") (He.ga K "NoAtoms") := {
    cl := He.cls_ok (c.fact 30 rfl), nG := He.noat_ok (c.fact 31 rfl), nO := He.noat_ok (c.fact 32 rfl), nU := He.noat_ok (c.fact 33 rfl),
    gN := (He.glo_ok X G (c.fact 23 rfl)), xN := x1, kN := x2, bN := x3, tN := x4 }
  have M := He.mkr_ok (c.fact 34 rfl)
  have G_tri := ok_tri (P := P) (w := w) (base := base) F_tri T F_num (He.glo_ok X G (c.fact 15 rfl))
  have G_are := ok_are (P := P) (w := w) (base := base) F_are T G_tri b_tri F_tri.kp (He.glo_ok X G (c.fact 16 rfl))
  have G_vars := ok_vars (P := P) (w := w) (mg := mg) (base := base) F_vars T
  have G_text := ok_text (P := P) (w := w) (mg := mg) (base := base) F_text T
  have G_init := ok_init (P := P) (w := w) (base := base) F_init T TQ G_are b_are F_are.kp (He.glo_ok X G (c.fact 17 rfl)) G_vars b_vars F_vars.kp (He.glo_ok X G (c.fact 18 rfl))
  have G_now := ok_now (P := P) (w := w) (mg := mg) (base := base) F_now T (He.int_ok X G (c.fact 35 rfl))
  have G_aow := ok_aow (P := P) (w := w) (base := base) F_aow G_now b_now F_now.kp (He.glo_ok X G (c.fact 20 rfl))
  have G_read := ok_read (P := P) (w := w) (base := base) F_read T M G_init G_aow b_aow F_aow.kp (He.glo_ok X G (c.fact 21 rfl)) G_are b_are F_are.kp (He.glo_ok X G (c.fact 17 rfl)) G_text b_text F_text.kp (He.glo_ok X G (c.fact 19 rfl))
  have cr := cr_ok (c.fact 36 rfl)
  have cm := cm_ok (c.fact 37 rfl)
  have ic := isi_ok (c.fact 54 rfl)
  have G_qtext := ok_qtext (P := P) (w := w) (base := base) F_qtext TQ G_text b_text F_text.kp (He.glo_ok X G (c.fact 19 rfl))
  have G_atoms := ok_atoms (P := P) (w := w) (base := base) F_atoms TQ
  have G_cq := ok_cq (P := P) (w := w) (base := base) F_cq T TQ ic (He.glo_ok X G (c.fact 24 rfl))
  have G_ao := ok_ao (P := P) (w := w) (mg := mg) (base := base) F_ao T
  have G_nu := ok_nu (P := P) (w := w) (mg := mg) (base := base) F_nu T
  have G_no := ok_norm (P := P) (w := w) (base := base) F_no T TQ M G_init (He.glo_ok X G (c.fact 24 rfl)) ⟨_, _, G_cq, b_cq, F_cq.kp, (He.glo_ok X G (c.fact 38 rfl))⟩ ⟨_, _, G_ao, b_ao, F_ao.kp, (He.glo_ok X G (c.fact 39 rfl))⟩ ⟨_, _, G_nu, b_nu, F_nu.kp, (He.glo_ok X G (c.fact 40 rfl))⟩ (prop_ok (c.fact 55 rfl)) (G_atoms.imp atoms_imp) b_atoms
  have G_pcell := ok_pcell (P := P) (w := w) (mg := mg) (base := base) F_pcell T
  have G_ppen := ok_ppen (P := P) (w := w) (mg := mg) (base := base) F_ppen T
  have G_pdraw := ok_pdraw (P := P) (w := w) (mg := mg) (base := base) F_pdraw
  have G_mix := ok_mix (P := P) (w := w) (base := base) F_mix T ⟨_, _, G_pdraw, b_pdraw, F_pdraw.kp, (He.glo_ok X G (c.fact 44 rfl))⟩
  have G_drn := ok_drn (P := P) (w := w) (base := base) F_drn T ⟨_, _, G_pdraw, b_pdraw, F_pdraw.kp, (He.glo_ok X G (c.fact 44 rfl))⟩ ⟨_, _, G_mix, b_mix, F_mix.kp, (He.glo_ok X G (c.fact 45 rfl))⟩
  have G_nms := ok_nms (P := P) (w := w) (mg := mg) (base := base) F_nms T (He.free_ok X G (c.fact 13 rfl))
  have G_ren := ok_ren (P := P) (w := w) (base := base) F_ren T ⟨_, _, G_mix, b_mix, F_mix.kp, (He.glo_ok X G (c.fact 45 rfl))⟩ ⟨_, _, G_nms, b_nms, F_nms.kp, (He.glo_ok X G (c.fact 47 rfl))⟩
  have G_ptx := ok_ptx (P := P) (w := w) (mg := mg) (base := base) F_ptx T
  have G_ptxT := ok_ptxT (P := P) (w := w) (mg := mg) (base := base) F_ptx T
  have G_cnt := ok_cnt (P := P) (w := w) (mg := mg) (base := base) F_cnt T
  have G_due := ok_due (P := P) (w := w) (base := base) F_due T ⟨_, _, G_ptxT, b_ptx, F_ptx.kp, (He.glo_ok X G (c.fact 49 rfl))⟩ ⟨_, _, G_cnt, b_cnt, F_cnt.kp, (He.glo_ok X G (c.fact 51 rfl))⟩ F_ord (He.free_ok X G (c.fact 14 rfl)) (He.glo_ok X G (c.fact 50 rfl)) F_ord.kp b_ord
  have GR : FnR P w K mg base CX0 6 _ (spQ (IRead (He.ga K "Question"))) := ((G_read.imp read_imp).raw b_read .nil).imp fun vs H Q E h => by rw [List.append_nil]; exact h
  exact ok_law F_law T TQ ic (He.glo_ok X G (c.fact 24 rfl)) ⟨_, _, G_pcell, b_pcell, F_pcell.kp, (He.glo_ok X G (c.fact 42 rfl))⟩ ⟨_, _, G_ppen, b_ppen, F_ppen.kp, (He.glo_ok X G (c.fact 43 rfl))⟩ ⟨_, _, G_drn, b_drn, F_drn.kp, (He.glo_ok X G (c.fact 46 rfl))⟩ ⟨_, _, G_ren, b_ren, F_ren.kp, (He.glo_ok X G (c.fact 48 rfl))⟩ ⟨_, _, G_ptx, b_ptx, F_ptx.kp, (He.glo_ok X G (c.fact 49 rfl))⟩ ⟨_, _, G_due, b_due, F_due.kp, (He.glo_ok X G (c.fact 52 rfl))⟩ ⟨_, _, G_no, b_no, F_no.kp, (He.glo_ok X G (c.fact 41 rfl))⟩ (He.meth_ok (c.fact 56 rfl)) (G_qtext.imp qtext_imp) b_qtext cr cm GR
end Q
open PySem PySem.W PySem.Calls PyProof.Rows
theorem PySem.Challenge.cw_countalike_k43_normal_forms_holds : PySem.Challenge.rw_countalike_k43_normal_forms.Holds := by
  w_on; o_law
  refine HandSHeadRun.head_any (r := OpenLaw.row PySem.Challenge.rw_countalike_k43_normal_forms) (q := view (OpenLaw.row PySem.Challenge.rw_countalike_k43_normal_forms).prog [64]) (H := Q.hk) (ob := Q.ob) (M := 30000) (loose := Q.nms)
    (d := HandSHeadRun.topDef (OpenLaw.row PySem.Challenge.rw_countalike_k43_normal_forms).prog 64) (kwd := []) Q.ob_eq
    (by kernel_rfl) (fun s => by kernel_rfl) Q.run (by kernel_rfl) (by kernel_rfl) (by kernel_rfl) (by rfl) (by first | assumption | decide +kernel) (by decide +kernel) ⟨rfl, rfl, rfl, rfl, rfl, by decide +kernel⟩ ?hw ?hc
  case hw => w_witness2
  case hc =>
    refine Ca.walk_ofG (l := PySem.Challenge.rw_countalike_k43_normal_forms) (n := 63) (k := 8) rfl (by decide) (by kernel_rfl) ⟨rfl, by decide, by decide⟩ ?F
    intro w mg fa h Y G hmg0
    obtain ⟨K, KX, c⟩ := Y
    have hmg : mg ("law" : PySem.Str) = some (.ref fa) := by
      have e : (HandSHeadRun.topDef (OpenLaw.row PySem.Challenge.rw_countalike_k43_normal_forms).prog 64).name = ("law" : PySem.Str) := by kernel_rfl
      rw [← e]
      exact hmg0
    exact ⟨K, Q.spLaw K, KX, fun H a ns hl _ hS => ⟨a, ns, rfl, hS, hl, fun _ => rfl⟩, Q.facts KX G hmg c⟩

