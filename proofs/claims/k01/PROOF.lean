import PyProof.Rows.All
import Wide.All
import OpenK.AllK
import Wide.FinOn
import PyProof.EqAt
import PyProof.EqKinds
import PyProof.TupleCall
import HandS.Base
import HandS.Call
import HandS.List
import HandS.Ends
import HandS.More
import HandS.Exc
import HandS.Star
import HandS.Defaults
import HandS.Words
import HandS.HeadEnd
import HandS.Comp
import HandS.Set
import HandS.Strs
import HandS.SetBool
import HandS.Dict
import HandS.IsInst
import KE.SortData
import PyProof.ReprRoads
import HandS.FStr
import HandS.Text
import HandS.StrMore
import HandS.Property
import HandS.ClsMeth
import HandS.Evl
import HandS.TryOnly
import HandS.TryMany
import HandS.ExcOwn
import HandS.WordsExc
import HandS.WordsList
import HandS.Wide
import HandS.TupAny
import HandS.Style
import HandS.Conv
import HandS.HeadHook1
import HandS.HeadHook2
import HandS.Flow
import HandS.Iter
import HandS.TupSets
import HandS.SetKeys
import HandS.CallLocal
import PyProof.ReprLen
import HandS.RaiseMore
import KE.KOpsOwn
import KE.DatumOrd
import HandS.SortKw
import HandS.Deep
import KE.DataFind
import PyProof.InstNe
import OpenK.KMake
import PyProof.Raises
import HandS.SlotsOwn
import HandS.Head0
import HandS.Head1
import HandS.Head2
import KE.KStateDown
import PySem.Challenge.RW_countalike_k01_tables_made
set_option Elab.async false
set_option linter.all false
set_option maxRecDepth 100000
set_option maxHeartbeats 4000000
/-! defs that are called where no repr is under way (the stack's guards are known to be none) -/
namespace Ca
open PySem PySem.Spec PyProof.Rows L2
def FnG (P : Program) (w : World) (K : PySem.W.Frag) (mg : PySem.Str → Option Value) (base : Heap) (CX : CXT) (k : Nat) (f : Addr) (sp : Sp) : Prop :=
  ∀ (A : Around) (outer : List Env) (s : Shared) (H : Hp) (us : List Value) (vs : List V) (Q : VK) (E : XK), A.guards = some [] → Room k A →
    Env0 P w K mg base A outer s H → Vals vs us → sp vs H Q E → codeAny (model P w) A (.call (.ref f) ⟨us, []⟩) (CR CX outer P w H s Q E) s
section
variable {P : Program} {w : World} {K : PySem.W.Frag} {mg : PySem.Str → Option Value} {base : Heap} {CX : CXT} {k : Nat} {f : Addr} {fd : FuncData} {sp : Sp}
  {name qual : PySem.Str} {params : Arguments} {body : List Stmt} {scope : Scope} {N ps : List PySem.Str}
theorem FnG.mono {j : Nat} (F : FnG P w K mg base CX j f sp) (h : j ≤ k) : FnG P w K mg base CX k f sp :=
  fun A outer s H us vs Q E hg hr => F A outer s H us vs Q E hg (hr.mono h)
theorem fng_of (F : FunD K name qual params body scope [] [] f fd) (S : FnScope N ps scope)
    (bd : ∀ (s : Shared) (us : List Value), us.length = ps.length → BindsTo s fd ⟨us, []⟩ (ps.zip us)) (len : ∀ vs H Q E, sp vs H Q E → vs.length = ps.length)
    (hbody : ∀ (cdv : Value) (A : Around) (outer : List Env) (s : Shared) (H : Hp) (vs : List V) (Q : VK) (E : XK), A.guards = some [] →
      Room k (A.deeper (envOfC qual scope s.heap.objs.size f cdv)) → sp vs H Q E →
      ∃ t, PSs (cxOf CX P w K mg base N qual scope f cdv A outer s H E) body t ∧ t { nx := fun _ H' => Q .non H', rt := Q } (start N vs) H) :
    FnG P w K mg base CX (k + 1) f sp := by
  obtain ⟨oc, od, dV, kV, doc, pm, an, cdv, ct, osl, rfl, lk, hcd, _, _⟩ := F.ex
  intro A outer s H us vs Q E hg hr e0 r hsp
  have l1 := len _ _ _ _ hsp
  have l2 : us.length = ps.length := by rw [← r.length]; exact l1
  refine StX.run_bnd (G := fun zs H2 => zs = vs ∧ H2 = H) lk hcd S hr e0 (fun A' Ex Q' h => ?_) fun s2 H2 zs ⟨e1, e2⟩ hr' => ?_
  · exact bd s us l2 _ _ _ _ (h s H vs us e0 (Un.kept fun _ _ e => e) rfl (fun _ _ z => z) r l1 ⟨rfl, rfl⟩)
  · subst e1 e2
    exact hbody cdv A outer s2 _ _ Q E hg hr' hsp
end
section
variable {X : Cx} {CX : CXT} {k : Nat} {f : Addr} {sp : Sp} {E : XK} {x : PySem.Str} {p pos : Pos} {e : Expr} {es : List Expr} {t : TA}
theorem run_fnG {pins : List (Addr × Obj)} {σ : L2.St} {H : Hp} {s : Shared} {Q : VK} {us : List Value} {vs : List V} (F : FnG X.prog X.w X.K X.mg X.base CX k f sp)
    (hg : X.A.guards = some []) (hr : Room k X.A) (hx : Passes CX X E) (I : Inv X pins σ H s) (r : Vals vs us) (h : sp vs H Q E) :
    wpAny (model X.prog X.w) X.A (call (.ref f) us) (EP X pins σ Q) X.xe s := by
  refine wpAny_call (codeAny_mono (F X.A X.stack s H us vs Q E hg hr I.env0 r h) fun r s' hq => ?_)
  cases r with
  | error e => exact hx pins σ H s e s' I hq
  | ok fl =>
    cases fl with
    | ret u => exact I.after hq
    | _ => exact False.elim hq
/-- f(e, ..) of such a def -/
theorem pe_callG (F : FnG X.prog X.w X.K X.mg X.base CX k f sp) (hg : X.A.guards = some []) (hr : Room k X.A) (hgl : Gl X x) (hm : X.mg x = some (.ref f)) (hk : PySem.W.keepIn X.K (.ref f) = true)
    (hx : Passes CX X E) (ha : PA X (e :: es) t) (hdb : (x == ("__debug__" : PySem.Str)) = false := by decide)
    (he : starEach (e :: es) X.env = (false, eval e X.env) :: starEach es X.env := by rfl) (hpl : (backTo pos (starEach es X.env)).any (·.1) = false := by rfl) :
    PE X (.Call (.Name x p) (e :: es) [] pos) (tCall sp [] E t) := by
  refine ⟨fun pins s σ H Q I h => wpAny_Call_Name_kw (ld_glob I hgl hm ?_ hdb)⟩
  refine PySem.W.callWith_K (h₀ := X.base) I.ok.mod.kin hk (thn (ha.run pos pins s σ H _ I h) fun us s1 ⟨vs, H1, I1, r, q⟩ => ⟨I1.kIn, ?_⟩) he hpl
  have q2 : sp (vs ++ []) H1 Q E := q
  rw [List.append_nil] at q2
  exact run_fnG F hg hr hx I1 r q2
end
/-! ### the law's own call -/
theorem law_callG {P : Program} {w : World} {K : PySem.W.Frag} {mg mb : PySem.Str → Option Value} {k : Nat} {fa a : Addr} {sp : Sp} {s₁ : Shared} {vs : List Value} {ns : List Int}
    (KX : K.In s₁.heap) (gns : s₁.heap.Ns mainGlobals mg) (bns : s₁.heap.Ns builtinsNs mb) (bb : ∀ x : PySem.Str, x ≠ "__name__" → mb x = bootBuiltins x) (lim : s₁.heap.NoLimit)
    (hgen : s₁.gens = #[]) (ha : s₁.heap.get? a = some { cls := .type "list", data := .seq vs.toArray }) (hi : IntsAre vs ns) (hl : ns.length ≤ sizeLine) (hr : Room k callerA)
    (F : ∀ base : Heap, K.In base → base.Ns mainGlobals mg → FnG P w K mg base CX0 k fa sp)
    (hsp : ∀ H : Hp, Only H → SqL K H a (ns.map V.int) → sp [.ref a] H (fun v _ => v = .bl true) fun _ _ _ => False) :
    codeAny (model P w) callerA (.call (.ref fa) ⟨[.ref a], []⟩) (fun r s' => r = .ok (.ret (.bool true)) ∧ OldK s₁.heap s'.heap ∧ s'.os = s₁.os ∧ AllBare s'.gens) s₁ := by
  have rv := vals_ints hi
  have lv := hi.length
  have main : ∀ H : Hp, Only H → SqL K H a (ns.map V.int) → HOk P w H s₁.heap → (∀ b, H b ≠ none → b = a) → (H a ≠ none → K.lookup a = none) →
      codeAny (model P w) callerA (.call (.ref fa) ⟨[.ref a], []⟩) (fun r s' => r = .ok (.ret (.bool true)) ∧ OldK s₁.heap s'.heap ∧ s'.os = s₁.os ∧ AllBare s'.gens) s₁ := by
    intro H only sq hok only_a inK
    have un_dict : ∀ {b : Addr} {o : Obj} {es : Array DictEntry} {ep : Nat}, s₁.heap.get? b = some o → o.data = .dict es ep → H b = none := fun {b o es ep} e d => by
      cases q : H b with
      | none => rfl
      | some u =>
        obtain rfl : b = a := only_a b (by rw [q]; simp)
        rw [ha] at e
        cases e
        cases (show Data.seq vs.toArray _ = Data.dict es ep from d)
    have ns_hid : ∀ {b : Addr} {m : PySem.Str → Option Value}, s₁.heap.Ns b m → (hidT s₁.heap H).Ns b m := fun {b m} ⟨o, es, ep, e, d, z⟩ =>
      ⟨o, es, ep, hidT_get e (un_dict e d), d, z⟩
    have kHid : K.In (hidT s₁.heap H) := fun b o e => by
      refine hidT_get (KX b o e) ?_
      cases q : H b with
      | none => rfl
      | some u =>
        obtain rfl : b = a := only_a b (by rw [q]; simp)
        rw [inK (by rw [q]; simp)] at e
        cases e
    have md : Mod K mg (hidT s₁.heap H) := ⟨kHid, ns_hid gns, ⟨mb, ns_hid bns, bb⟩, let ⟨mc, h1, h2⟩ := lim; ⟨mc, ns_hid h1, h2⟩⟩
    have env : Env0 P w K mg (hidT s₁.heap H) callerA [] s₁ H := ⟨rfl, md, fun b o e => of_hidT e, Nat.le_of_eq (hidT_size _ _), trivial,
      fun b hb => absurd (show b ∈ ([] : List Addr) from hb) (by simp), hok, .of_eq hgen⟩
    refine codeAny_mono (F _ kHid (ns_hid gns) callerA [] s₁ H [.ref a] [.ref a] _ _ rfl hr env (.cons rfl .nil) (hsp H only sq)) fun r s' h => ?_
    cases r with
    | error e => exact False.elim h
    | ok fl =>
      cases fl with
      | next => exact False.elim h
      | brk => exact False.elim h
      | cont => exact False.elim h
      | ret u =>
        obtain ⟨v, H', os, bare, un, hok', r', q⟩ := h
        obtain rfl : v = .bl true := q
        obtain rfl : u = Value.bool true := r'
        refine ⟨rfl, OldK.of_keep fun b o e => ?_, os, bare⟩
        cases q : H b with
        | none => exact un.keep b o e q (fun z => absurd (show b ∈ ([] : List Addr) from z) (by simp)) (by simp)
        | some u =>
          rcases only b with z | ⟨ob, xs, z⟩
          · rw [q] at z
            cases z
          · obtain ⟨e1, _⟩ := hok b _ z
            obtain ⟨e2, _⟩ := hok' b _ (un.frzs b ob _ z)
            rw [e] at e1
            cases e1
            exact e2
  cases hk : K.lookup a with
  | some o =>
    have e := KX a o hk
    rw [ha] at e
    cases e
    refine main (fun _ => none) (fun _ => .inl rfl) (.inr ⟨_, vs.toArray, _, hk, rfl, rfl, rfl, ?_, by simpa using rv⟩) (fun b u z => ?_) (fun b z => absurd rfl z) fun z => absurd rfl z
    · rw [List.size_toArray, lv]
      exact hl
    · cases (show (none : Option HO) = some u from z)
  | none =>
    let oa : Obj := { cls := .type "list", data := .seq vs.toArray }
    refine main (fun b => if b = a then some (.frz oa (.lst (ns.map V.int))) else none) (fun b => ?_) (.inl (.inr ⟨oa, if_pos rfl⟩)) (fun b u z => ?_) (fun b z => ?_) fun _ => hk
    · by_cases hb : b = a
      · exact .inr ⟨_, _, if_pos hb⟩
      · exact .inl (if_neg hb)
    · by_cases hb : b = a
      · cases (if_pos hb).symm.trans z
        subst hb
        refine ⟨ha, ?_, vs, _, rv, ha⟩
        rw [List.length_map]
        exact hl
      · cases (if_neg hb).symm.trans z
    · by_cases hb : b = a
      · exact hb
      · exact absurd (if_neg hb) z
theorem walk_ofG {l : PySem.W.OpenLaw} {n k : Nat} {q : Program} {loose : List PySem.Str} {XP : (PySem.Str → Option Value) → Heap → Prop} {YP : World → Heap → Prop} {d : DefRec}
    (hn : l.most = some n) (hn2 : n ≤ sizeLine) (hdf : d.params.defaults = []) (hr : Room k callerA)
    (F : ∀ (w : World) (mg : PySem.Str → Option Value) (fa : Addr) (h : Heap), YP w h → h.Ns mainGlobals mg → mg d.name = some (.ref fa) →
      ∃ (K : PySem.W.Frag) (sp : Sp), K.In h ∧ (∀ (H : Hp) (a : Addr) (ns : List Int), ns.length ≤ n → Only H → SqL K H a (ns.map V.int) →
          sp [.ref a] H (fun v _ => v = .bl true) fun _ _ _ => False) ∧ ∀ base : Heap, K.In base → base.Ns mainGlobals mg → FnG l.prog w K mg base CX0 k fa sp) :
    PySem.W.WalkO q loose XP YP l.row.toRowW d [] (fun f vs => PySem.call f vs) := by
  refine Att.attach_call hn hdf fun w s₀ s₁ mg mb fa o pm cd doc a vs ns G Y ho hd hcd hmg hobj hints hlen hg => ?_
  obtain ⟨K, sp, KX, hsp, hF⟩ := F w mg fa _ Y G.T.g hmg
  exact law_callG KX G.T.g G.T.b G.T.builtins G.T.nolimit hg hobj hints (Nat.le_trans hlen hn2) hr hF fun H hO hS => hsp H a ns hlen hO hS
end Ca

set_option maxHeartbeats 4000000
/-! a set comprehension of two clauses whose elements are ints -/
namespace Ca
open PySem PySem.Spec PyProof.Rows L2

abbrev sc2 (elt a0 b0 a1 b1 : Expr) (c0 c1 : List Expr) (scope : Scope) (pos : Pos) : Expr :=
  .SetComp elt [⟨a0, b0, c0, 0⟩, ⟨a1, b1, c1, 0⟩] scope pos
section
variable {prog : Program} {w : World} {A : Around} {R : Result → Shared → Prop} {s : Shared} {elt a0 b0 a1 b1 : Expr} {c0 c1 : List Expr}
  {scope : Scope} {pos : Pos} {it acc : Value} {env : Env}
abbrev Tst (M : Model) (A : Around) (env : Env) (cs : List Expr) (Q : Bool → Shared → Prop) (E : Value → Shared → Prop) (s : Shared) : Prop :=
  wpAny M A (forIn cs true fun c r => if r = true then do
      let ok ← isTrue c env (eval c env)
      pure (ForInStep.yield ok) else pure (ForInStep.yield r)) Q E s
theorem turn_outer : compTurn (sc2 elt a0 b0 a1 b1 c0 c1 scope pos) 0 it acc env = (do
      standAt b0.pos
      match ← pyNext it with
      | none => pure (.done .next)
      | some u =>
        letOwnedTupleGo a0 it u
        assign a0 env u
        let mut ok := true
        for c in c0 do
          if ok then ok ← isTrue c env (eval c env)
        if ok then
          let y ← eval b1 env
          standAt b1.pos
          let y ← foldedSetIterable b1 env y
          let _ ← runOwn (.compStart (sc2 elt a0 b0 a1 b1 c0 c1 scope pos) 1 (← holding [y] (pyIter y)) acc env) env
        again (.compLoop (sc2 elt a0 b0 a1 b1 c0 c1 scope pos) 0 it acc env)) := by rfl
theorem turn_inner : compTurn (sc2 elt a0 b0 a1 b1 c0 c1 scope pos) 1 it acc env = (do
      standAt b1.pos
      match ← pyNext it with
      | none => pure (.done .next)
      | some u =>
        letOwnedTupleGo a1 it u
        assign a1 env u
        let mut ok := true
        for c in c1 do
          if ok then ok ← isTrue c env (eval c env)
        if ok then
          (do let y ← eval elt env; standAt elt.pos; let _ ← call (.builtin "set.add") [acc, y])
        again (.compLoop (sc2 elt a0 b0 a1 b1 c0 c1 scope pos) 1 it acc env)) := by rfl
abbrev Nt (prog : Program) (w : World) (A : Around) (env : Env) (R : Result → Shared → Prop) : Value → Shared → Prop :=
  notedBy (model prog w) A env fun x s' => R (.error x) s'
theorem loop_outer (fs : ∀ x, foldedSetIterable b1 env x = pure x) (J : Nat → Shared → Prop)
    (turn : ∀ n s, J n s → wpAny (model prog w) A (pyNext it) (fun r s₁ => match r with
      | none => R (.ok .next) s₁
      | some u => wpAny (model prog w) A (letOwnedTupleGo a0 it u) (fun _ s₂ => wpAny (model prog w) A (assign a0 env u) (fun _ s₃ =>
          Tst (model prog w) A env c0 (fun ok s₄ => if ok = true then wpAny (model prog w) A (eval b1 env) (fun x s₅ =>
            wpAny (model prog w) A (pyIter x) (fun z s₆ => codeAny (model prog w) A (.compStart (sc2 elt a0 b0 a1 b1 c0 c1 scope pos) 1 z acc env)
              (fun r s' => match r with
                | .ok _ => ∃ m, m < n ∧ J m s'
                | .error _ => False) s₆) (Nt prog w A env R) s₅) (Nt prog w A env R) s₄
            else ∃ m, m < n ∧ J m s₄) (Nt prog w A env R) s₃) (Nt prog w A env R) s₂) (Nt prog w A env R) s₁) (Nt prog w A env R) s)
    (n : Nat) (h : J n s) : codeAny (model prog w) A (.compLoop (sc2 elt a0 b0 a1 b1 c0 c1 scope pos) 0 it acc env) R s := by
  refine codeAny_loop rfl J (fun n s hJ => ?_) n h
  show wpAny _ A ((compTurn (sc2 elt a0 b0 a1 b1 c0 c1 scope pos) 0 it acc env).onRaise (fun x => do noteFrame x env; theTreesLotGoes x)) _ _ s
  refine wpAny_noted ?_
  rw [turn_outer]
  refine wpAny_bind (wpAny_standAt (wpAny_bind (wpAny_mono (turn n s hJ) (fun r s₁ k₁ => ?_) fun _ _ z => z)))
  cases r with
  | none => exact wpAny_pure k₁
  | some u =>
    refine wpAny_bind (wpAny_mono k₁ (fun _ s₂ k₂ => ?_) fun _ _ z => z)
    refine wpAny_bind (wpAny_mono k₂ (fun _ s₃ k₃ => ?_) fun _ _ z => z)
    refine wpAny_bind (wpAny_mono k₃ (fun ok s₄ k₄ => ?_) fun _ _ z => z)
    cases ok with
    | false => exact wpAny_pure ⟨rfl, k₄⟩
    | true =>
      refine wpAny_bind (wpAny_mono k₄ (fun x s₅ k₅ => ?_) fun _ _ z => z)
      refine wpAny_bind (wpAny_standAt (wpAny_bind (wpAny_of_eq (fs x) (wpAny_bind (wpAny_holding (wpAny_mono k₅ (fun z s₆ k₆ => ?_) fun _ _ z => z))))))
      refine wpAny_bind (wpAny_runOwn ?_)
      rw [Around.mark_none]
      refine codeAny_mono k₆ fun r s' hr => ?_
      cases r with
      | error e => exact hr.elim
      | ok f => first | exact wpAny_pure ⟨rfl, hr⟩ | exact wpAny_bind (wpAny_pure (wpAny_pure ⟨rfl, hr⟩))
theorem loop_inner (J : Nat → Shared → Prop)
    (turn : ∀ n s, J n s → wpAny (model prog w) A (pyNext it) (fun r s₁ => match r with
      | none => R (.ok .next) s₁
      | some u => wpAny (model prog w) A (letOwnedTupleGo a1 it u) (fun _ s₂ => wpAny (model prog w) A (assign a1 env u) (fun _ s₃ =>
          Tst (model prog w) A env c1 (fun ok s₄ => if ok = true then wpAny (model prog w) A (eval elt env) (fun x s₅ =>
              wpAny (model prog w) A (call (.builtin "set.add") [acc, x]) (fun _ s₆ => ∃ m, m < n ∧ J m s₆) (Nt prog w A env R) s₅) (Nt prog w A env R) s₄
            else ∃ m, m < n ∧ J m s₄) (Nt prog w A env R) s₃) (Nt prog w A env R) s₂) (Nt prog w A env R) s₁) (Nt prog w A env R) s)
    (n : Nat) (h : J n s) : codeAny (model prog w) A (.compLoop (sc2 elt a0 b0 a1 b1 c0 c1 scope pos) 1 it acc env) R s := by
  refine codeAny_loop rfl J (fun n s hJ => ?_) n h
  show wpAny _ A ((compTurn (sc2 elt a0 b0 a1 b1 c0 c1 scope pos) 1 it acc env).onRaise (fun x => do noteFrame x env; theTreesLotGoes x)) _ _ s
  refine wpAny_noted ?_
  rw [turn_inner]
  refine wpAny_bind (wpAny_standAt (wpAny_bind (wpAny_mono (turn n s hJ) (fun r s₁ k₁ => ?_) fun _ _ z => z)))
  cases r with
  | none => exact wpAny_pure k₁
  | some u =>
    refine wpAny_bind (wpAny_mono k₁ (fun _ s₂ k₂ => ?_) fun _ _ z => z)
    refine wpAny_bind (wpAny_mono k₂ (fun _ s₃ k₃ => ?_) fun _ _ z => z)
    refine wpAny_bind (wpAny_mono k₃ (fun ok s₄ k₄ => ?_) fun _ _ z => z)
    cases ok with
    | false => exact wpAny_pure ⟨rfl, k₄⟩
    | true =>
      refine wpAny_bind (wpAny_bind (wpAny_mono k₄ (fun x s₅ k₅ => ?_) fun _ _ z => z))
      exact wpAny_bind (wpAny_standAt (wpAny_bind (wpAny_mono k₅ (fun _ s₆ k₆ => wpAny_pure (wpAny_pure ⟨rfl, k₆⟩)) fun _ _ z => z)))
theorem start_inner (h0 : codeAny (model prog w) A (.compLoop (sc2 elt a0 b0 a1 b1 c0 c1 scope pos) 1 it acc env) R s)
    (h : wpAny (model prog w) A (pyIter it) (fun z s' => codeAny (model prog w) A (.compLoop (sc2 elt a0 b0 a1 b1 c0 c1 scope pos) 1 z acc env) R s') (Nt prog w A env R) s) :
    codeAny (model prog w) A (.compStart (sc2 elt a0 b0 a1 b1 c0 c1 scope pos) 1 it acc env) R s := by
  refine codeAny_of_tree ?_
  show wpAny _ _ ((compStart (sc2 elt a0 b0 a1 b1 c0 c1 scope pos) 1 it acc env).onRaise (fun x => do noteFrame x env; standAt theWindowsPlace)) _ _ s
  refine wpAny_notedAt ?_
  unfold compStart
  show wpAny _ _ (ask >>= _) _ _ s
  refine wpAny_bind (wpAny_askSetting (wpAny_ite ?_))
  split
  · first | exact wpAny_bind (wpAny_pure (wpAny_pure (And.intro rfl h0))) | exact wpAny_pure (And.intro rfl h0)
  · refine wpAny_bind (wpAny_rule ?_)
    show wpAny _ _ (standAt b1.pos >>= _) _ _ s
    exact wpAny_bind (wpAny_standAt (wpAny_bind (wpAny_mono h (fun z s' k => wpAny_pure (And.intro rfl k)) fun _ _ x => x)))
end
end Ca

set_option maxHeartbeats 4000000
namespace Ca
open PySem PySem.Spec PyProof.Rows L2
/-- one more int in a set -/
def more (S : Int → Bool) (k : Int) : Int → Bool := fun j => S j || decide (j = k)
def cntS (S : Int → Bool) (n : Nat) (k : Int) : Nat := if S k = true then n else n + 1
section
variable {X : Cx}
/-- {elt for .. in .. for .. in ..}: D the new set of ints; vs all names of the block, us those of the second target -/
def tSc2 (w : World) (wi : TI) (g : TG) (tt : TT) (wj : TI) (g1 : TG) (tt1 : TT) (te : TE) (vs us : List Nat) : TE := fun σ H Q =>
  wi σ H fun J H1 => ∀ D, H1 D = none → ∃ W : Nat → Nat → Hp → Prop, (∃ m, W 0 m (upd H1 D (SetO w D (fun _ => false) 0))) ∧ ∀ i m H, W i m H →
    (J.stop i H ∧ Q (.ref D) H) ∨ (J.go i H ∧ ∃ Nx : Hp → Prop, (∀ H', Nx H' → ∃ m', m' < m ∧ W (i + 1) m' H') ∧
      ∀ x H', J.yld i H x H' → g x (wipe σ vs) H' fun σ2 H2 => wipe σ2 vs = wipe σ vs ∧ tt σ2 H2 fun b H3 =>
        if b = true then wj σ2 H3 fun J1 H4 => ∃ W1 : Nat → Nat → Hp → Prop, (∃ m, W1 0 m H4) ∧ ∀ j k H, W1 j k H →
          (J1.stop j H ∧ Nx H) ∨ (J1.go j H ∧ ∃ Nx1 : Hp → Prop, (∀ H', Nx1 H' → ∃ k', k' < k ∧ W1 (j + 1) k' H') ∧
            ∀ x H', J1.yld j H x H' → g1 x (wipe σ2 us) H' fun σ3 H5 => wipe σ3 us = wipe σ2 us ∧ tt1 σ3 H5 fun b H6 =>
              if b = true then te σ3 H6 fun y H7 => ∃ (k : Int) (S : Int → Bool) (n : Nat), y = .int k ∧ H7 D = some (SetO w D S n) ∧ n + 1 < scanBound ∧
                Nx1 (upd H7 D (SetO w D (more S k) (cntS S n k))) else Nx1 H6)
        else Nx H3)
/-- set.add of an int, as a raw call -/
theorem add_int {pins : List (Addr × Obj)} {σ : L2.St} {H : Hp} {s : Shared} {E : Value → Shared → Prop} {D : Addr} {S : Int → Bool} {n : Nat} {k : Int} {u : Value}
    {Q : Value → Shared → Prop} (I : Inv X pins σ H s) (hD : H D = some (SetO X.w D S n)) (room : n + 1 < scanBound) (ru : RelV (.int k) u)
    (h : ∀ s', Inv X pins σ (upd H D (SetO X.w D (more S k) (cntS S n k))) s' → Q .none s') : wpAny (model X.prog X.w) X.A (call (.builtin "set.add") [.ref D, u]) Q E s := by
  obtain ⟨tk, rfl⟩ := ru
  refine setR_add (setO_get I hD) room fun h' sb new => ?_
  have ex : ∃ u, h'.get? D = some u := by
    have ⟨o, _, _, _, ho, _⟩ := new
    exact ⟨o, ho⟩
  refine h _ (I.write (e := D) (t' := s.toks + 1) (by rw [hD]; trivial) (.inl rfl) (fun b u hb hu => ?_) ex (setO_new new))
  exact (sb.2 b hb).trans hu
abbrev eSet (w : World) : Obj := { cls := .type "set", dict := none, data := .set #[] 0 (.fresh 0 0 (!w.params.followText "set-order")) }
theorem pe_sc2 {elt a0 b0 a1 b1 : Expr} {c0 c1 : List Expr} {scope : Scope} {own : List (PySem.Str × Nat)} {us : List Nat} {pos : Pos} {wi wj : TI} {g g1 : TG} {tt tt1 : TT} {te : TE}
    (hc : X.calm = true) (hN : X.N.Nodup) (hi : PI X a0 b0 wi) (ok : BlkOk X.N X.env.scope scope own) (hv : ∀ i ∈ us, i ∈ own.map (·.2))
    (hg : ∀ (s : Shared) (H : Hp) (C : Addr) (cl : List (PySem.Str × Addr)) (fq : List Addr), PG (X.blk s H scope (compEnvC scope cl C X.env) fq) a0 g) (ht : ∀ (s : Shared) (H : Hp) (C : Addr) (cl : List (PySem.Str × Addr)) (fq : List Addr), PTs (X.blk s H scope (compEnvC scope cl C X.env) fq) c0 tt) (hj : ∀ (s : Shared) (H : Hp) (C : Addr) (cl : List (PySem.Str × Addr)) (fq : List Addr), PI (X.blk s H scope (compEnvC scope cl C X.env) fq) a1 b1 wj) (hg1 : ∀ (s : Shared) (H : Hp) (C : Addr) (cl : List (PySem.Str × Addr)) (fq : List Addr), PG (X.blk s H scope (compEnvC scope cl C X.env) fq) a1 g1)
    (ht1 : ∀ (s : Shared) (H : Hp) (C : Addr) (cl : List (PySem.Str × Addr)) (fq : List Addr), PTs (X.blk s H scope (compEnvC scope cl C X.env) fq) c1 tt1) (he : ∀ (s : Shared) (H : Hp) (C : Addr) (cl : List (PySem.Str × Addr)) (fq : List Addr), PE (X.blk s H scope (compEnvC scope cl C X.env) fq) elt te) (f0 : ∀ x, foldedSetIterable b0 X.env x = pure x := by intro _; rfl)
    (f1 : ∀ env x, foldedSetIterable b1 env x = pure x := by intro _ _; rfl) :
    PE X (sc2 elt a0 b0 a1 b1 c0 c1 scope pos) (tSc2 X.w wi g tt wj g1 tt1 te (own.map (·.2)) us) := by
  refine ⟨fun pins s σ H Q I h => ?_⟩
  rw [PpSet.eval_SetComp]
  have free : ∀ y ∈ scope.names, y.2 = .free → ∃ c, X.env.cells.lookup y.1 = some c := fun y hy e =>
    (ok.free y hy e).elim (fun k => I.ok.has _ (.inl k)) (fun k => I.ok.has _ (.inr k))
  refine wpAny_comprehension_free (use := none) rfl f0 (closure_ok free) ok.kind (fun y hy e => by rw [ok.uniq y hy, e]) ?_
  refine thn (hi.run pins s σ H _ I h) fun xv s1 hx => thn hx fun itv s2 h2 => ?_
  obtain ⟨it, fp, tn, J, H2, rfl, I2, T, st2, fpo, q⟩ := h2
  refine PpSet.newSet_ok (newEnv_comp ?_)
  generalize hD : s2.heap.objs.size = D
  obtain ⟨W, ⟨m0, w0⟩, turn⟩ := q D (I2.hok.fresh (Nat.le_of_eq hD))
  generalize hs3 : ({ s2 with heap := s2.heap.push (eSet X.w) } : Shared) = s3
  have e3 : s3.heap = s2.heap.push (eSet X.w) := by rw [← hs3]
  have I3 : Inv X pins σ (upd H2 D (SetO X.w D (fun _ => false) 0)) s3 := by
    subst hs3 hD
    exact I2.laid (t' := s2.toks) (fun b o e => Heap.get?_push_of_some _ e) (Nat.le_refl _) (setO_new (setR_fresh X.w))
  have low : ∀ b ∈ fp, b < s2.heap.objs.size := fun b hb =>
    let ⟨_, e, _⟩ := T.obj _ _ st2 b hb
    Heap.lt_size e
  have fpo3 : ∀ b ∈ fp, FpOk X pins (upd H2 D (SetO X.w D (fun _ => false) 0)) b ∧ b < s3.heap.objs.size := fun b hb => by
    have lt := low b hb
    refine ⟨⟨?_, (fpo b hb).2⟩, by rw [e3, Heap.size_push]; exact Nat.lt_succ_of_lt lt⟩
    rw [upd_ne (by subst hD; exact Nat.ne_of_lt lt)]
    exact (fpo b hb).1
  have st3 : tn 0 s3.heap := T.keep _ _ _ st2 fun b _ o e => by rw [e3]; exact Heap.get?_push_of_some _ e
  have I4 := block_start I3 ok hN fpo3
  generalize hcl : cellsFrom (s3.heap.objs.size + 1) scope.names (cloFrom X.env.cells scope.names []) = cl at I4 ⊢
  have qg := hg s3 (upd H2 D (SetO X.w D (fun _ => false) 0)) s3.heap.objs.size cl fp
  have qt := ht s3 (upd H2 D (SetO X.w D (fun _ => false) 0)) s3.heap.objs.size cl fp
  have qj := hj s3 (upd H2 D (SetO X.w D (fun _ => false) 0)) s3.heap.objs.size cl fp
  have qg1 := hg1 s3 (upd H2 D (SetO X.w D (fun _ => false) 0)) s3.heap.objs.size cl fp
  have qt1 := ht1 s3 (upd H2 D (SetO X.w D (fun _ => false) 0)) s3.heap.objs.size cl fp
  have qe := he s3 (upd H2 D (SetO X.w D (fun _ => false) 0)) s3.heap.objs.size cl fp
  have non3 : ∀ b ∈ fp, (upd H2 D (SetO X.w D (fun _ => false) 0)) b = none := fun b hb => (fpo3 b hb).1.1
  show codeAny _ _ (.compStart (sc2 elt a0 b0 a1 b1 c0 c1 scope pos) 0 (.ref it) (.ref D) (compEnvC scope cl s3.heap.objs.size X.env)) (compPost (model X.prog X.w) X.A X.xe none _ (.ref D) s3.heap.objs.size)
    { s3 with heap := pushCells (s3.heap.push { cls := .type "dict", data := .dict #[] }) scope.names }
  generalize hce : compEnvC scope cl s3.heap.objs.size X.env = ce at I4 qg qt qj qg1 qt1 qe ⊢
  have loc : ce.locals = s3.heap.objs.size := by subst hce; rfl
  generalize hH3 : upd H2 D (SetO X.w D (fun _ => false) 0) = H3 at I3 I4 qg qt qj qg1 qt1 qe w0 non3 fpo3
  generalize hs4 : ({ s3 with heap := pushCells (s3.heap.push { cls := .type "dict", data := .dict #[] }) scope.names } : Shared) = s4 at I4 ⊢
  have st4 : tn 0 s4.heap := T.keep _ _ _ st3 fun b _ o e => by
    subst hs4
    exact pushCells_keeps _ _ _ _ (Heap.get?_push_of_some _ e)
  let Y : Cx := X.blk s3 H3 scope ce fp
  have okFp : ∀ {σ' : L2.St} {H' : Hp} {s' : Shared}, Inv Y [] σ' H' s' → (∀ b ∈ fp, H' b = none) → ∀ b ∈ fp, FpOk Y [] H' b := fun {σ' H' s'} K hn b hb =>
    ⟨hn b hb, (K.ok.exf b hb).1, K.ok.exfs b hb, .inl hb, fun x c e => (K.ok.exf b hb).2 x c e,
      fun p hp => absurd (show p ∈ ([] : List (Addr × Obj)) ++ [] from hp) (by simp)⟩
  generalize hvs : own.map (·.2) = vs at turn hv I4
  have loop : codeAny (model X.prog X.w) X.A (.compLoop (sc2 elt a0 b0 a1 b1 c0 c1 scope pos) 0 (.ref it) (.ref D) ce)
      (compPost (model X.prog X.w) X.A X.xe none (EP X pins σ Q) (.ref D) s3.heap.objs.size) s4 := by
    refine loop_outer (f1 ce) (fun n s' => ∃ i H', Inv Y [] (wipe σ vs) H' s' ∧ tn i s'.heap ∧ (∀ b ∈ fp, H' b = none) ∧ W i n H') ?_ m0 ⟨0, H3, I4, st4, non3, w0⟩
    rintro n s5 ⟨i, H5, I5, st5, n5, w5⟩
    rcases turn i n H5 w5 with ⟨stop, fin⟩ | ⟨go, Nx, hNx, step⟩
    · refine thnF (T.done Y rfl rfl rfl hc i [] s5 _ H5 (fun _ _ => False) I5 (okFp I5 n5) st5 stop) fun r s6 ⟨hr, I6⟩ => ?_
      subst hr
      have I7 : Inv X pins σ H5 s6 := I3.call' (ch := fp) I6.os I6.base I6.hok I6.bare fun b hb =>
        ⟨(fpo3 b hb).1.2.2.2.1, (fpo3 b hb).1.2.1, (fpo3 b hb).1.2.2.2.2.1, (fpo3 b hb).1.2.2.2.2.2⟩
      have nC : H5 s3.heap.objs.size = none := by
        have z : H5 ce.locals = none := I6.free
        rwa [loc] at z
      obtain ⟨m, hm, _⟩ := I6.loc
      have hm : s6.heap.Ns ce.locals m := hm
      rw [loc] at hm
      obtain ⟨z0, z1, z2, z3, z4, z5⟩ := I3.fpOk (Nat.le_refl _) nC
      refine ⟨m, hm, fun h'' sb => ⟨.ref D, H5, I7.turned (t' := s6.toks) (fun b o hb e => ?_) z0 z1 z3 z4 z5, rfl, fin⟩⟩
      exact (sb.2 b hb).trans e
    · refine thnF (T.item Y rfl rfl rfl hc i [] s5 _ H5 (fun _ _ => False) I5 (okFp I5 n5) st5 go) fun r s6 ⟨u, hr, h6⟩ => ?_
      subst hr
      refine thnF h6 fun _ s7 ⟨x, H7, I7, r7, y7, st7, n7⟩ => ?_
      refine thnF (qg.run _ s7 _ H7 x u _ (I7.pinned (okFp I7 n7) (T.obj _ _ st7)) r7 (step x H7 y7)) fun _ s8 ⟨σ8, H8, I8, w8, q8⟩ => ?_
      refine thnF (qt.run _ s8 σ8 H8 _ I8 q8) fun b s9 ⟨H9, I9, q9⟩ => ?_
      have close : ∀ {τ : L2.St} {s' : Shared} {H' : Hp}, Inv Y ([] ++ pinsAt fp s7.heap) τ H' s' → (wipe σ vs).length = τ.length →
          (∀ (j : Nat) v, (wipe σ vs)[j]? = some (some v) → τ[j]? = some (some v)) → Nx H' →
          ∃ m, m < n ∧ ∃ i H', Inv Y [] (wipe σ vs) H' s' ∧ tn i s'.heap ∧ (∀ b ∈ fp, H' b = none) ∧ W i m H' := fun {τ s' H'} K hl hk nx => by
        obtain ⟨m', hm, w'⟩ := hNx H' nx
        have held : ∀ b ∈ fp, ∀ o, s7.heap.get? b = some o → s'.heap.get? b = some o ∧ H' b = none := fun b hb o e =>
          let z := K.pin (b, o) (List.mem_append_right _ (List.mem_append_right _ (mem_pinsAt hb e)))
          ⟨z.1, z.2.1⟩
        refine ⟨m', hm, i + 1, H', (K.unpinned (pins := [])).weak hl hk, T.keep _ _ _ st7 fun b hb o e => (held b hb o e).1, fun b hb => ?_, w'⟩
        obtain ⟨o, e, _⟩ := T.obj _ _ st7 b hb
        exact (held b hb o e).2
      have l8 : (wipe σ vs).length = σ8.length := by rw [← w8, wipe_length]
      have k8 : ∀ (j : Nat) v, (wipe σ vs)[j]? = some (some v) → σ8[j]? = some (some v) := fun j v e => by
        rw [← w8] at e
        exact (wipe_some e).1
      have k9 : ∀ (j : Nat) v, (wipe σ vs)[j]? = some (some v) → (wipe σ8 us)[j]? = some (some v) := fun j v e => by
        rw [← w8] at e
        obtain ⟨z1, z2⟩ := wipe_some e
        rw [wipe_out fun z => z2 (hv j z)]
        exact z1
      cases b with
      | false =>
        simp only [Bool.false_eq_true, if_false] at q9 ⊢
        exact close I9 l8 k8 q9
      | true =>
        simp only [if_true] at q9 ⊢
        refine thnF (qj.run _ s9 σ8 H9 _ I9 q9) fun xv s10 hx => thnF hx fun itv s11 h11 => ?_
        obtain ⟨it1, fq, tm, J1, H11, rfl, I11, T1, st11, fqo, W1, ⟨m1, w1⟩, turn1⟩ := h11
        have okFq : ∀ {H' : Hp}, (∀ b ∈ fq, H' b = none) → ∀ b ∈ fq, FpOk Y ([] ++ pinsAt fp s7.heap) H' b := fun hn b hb => ⟨hn b hb, (fqo b hb).2⟩
        have loop1 : codeAny (model X.prog X.w) X.A (.compLoop (sc2 elt a0 b0 a1 b1 c0 c1 scope pos) 1 (.ref it1) (.ref D) ce) (fun r s' => match r with
              | .ok _ => ∃ m, m < n ∧ ∃ i H', Inv Y [] (wipe σ vs) H' s' ∧ tn i s'.heap ∧ (∀ b ∈ fp, H' b = none) ∧ W i m H'
              | .error _ => False) s11 := by
          refine loop_inner (fun k s' => ∃ j H', Inv Y ([] ++ pinsAt fp s7.heap) (wipe σ8 us) H' s' ∧ tm j s'.heap ∧ (∀ b ∈ fq, H' b = none) ∧ W1 j k H') ?_ m1
            ⟨0, H11, I11.weak (wipe_length _ _) (fun j v e => (wipe_some e).1), st11, fun b hb => (fqo b hb).1, w1⟩
          rintro k s12 ⟨j, H12, I12, st12, n12, w12⟩
          rcases turn1 j k H12 w12 with ⟨stop1, nx1⟩ | ⟨go1, Nx1, hNx1, step1⟩
          · refine thnF (T1.done Y rfl rfl rfl hc j _ s12 (wipe σ8 us) H12 (fun _ _ => False) I12 (okFq n12) st12 stop1) fun r s13 ⟨hr, I13⟩ => ?_
            subst hr
            exact close I13 (l8.trans (wipe_length σ8 us).symm) k9 nx1
          · refine thnF (T1.item Y rfl rfl rfl hc j _ s12 (wipe σ8 us) H12 (fun _ _ => False) I12 (okFq n12) st12 go1) fun r s13 ⟨u1, hr, h13⟩ => ?_
            subst hr
            refine thnF h13 fun _ s14 ⟨x1, H14, I14, r14, y14, st14, n14⟩ => ?_
            refine thnF (qg1.run _ s14 (wipe σ8 us) H14 x1 u1 _ (I14.pinned (okFq n14) (T1.obj _ _ st14)) r14 (step1 x1 H14 y14)) fun _ s15 ⟨τ, H15, I15, w15, q15⟩ => ?_
            refine thnF (qt1.run _ s15 τ H15 _ I15 q15) fun b1 s16 ⟨H16, I16, q16⟩ => ?_
            have close1 : ∀ {s' : Shared} {H' : Hp}, Inv Y (([] ++ pinsAt fp s7.heap) ++ pinsAt fq s14.heap) τ H' s' → Nx1 H' →
                ∃ m, m < k ∧ ∃ j H', Inv Y ([] ++ pinsAt fp s7.heap) (wipe σ8 us) H' s' ∧ tm j s'.heap ∧ (∀ b ∈ fq, H' b = none) ∧ W1 j m H' := fun {s' H'} K nx => by
              obtain ⟨m', hm, w'⟩ := hNx1 H' nx
              have held : ∀ b ∈ fq, ∀ o, s14.heap.get? b = some o → s'.heap.get? b = some o ∧ H' b = none := fun b hb o e =>
                let z := K.pin (b, o) (List.mem_append_right _ (List.mem_append_right _ (mem_pinsAt hb e)))
                ⟨z.1, z.2.1⟩
              refine ⟨m', hm, j + 1, H', K.unpinned.weak (by rw [← w15, wipe_length]) (fun j v e => ?_), T1.keep _ _ _ st14 fun b hb o e => (held b hb o e).1, fun b hb => ?_, w'⟩
              · rw [← w15] at e
                exact (wipe_some e).1
              · obtain ⟨o, e, _⟩ := T1.obj _ _ st14 b hb
                exact (held b hb o e).2
            cases b1 with
            | false =>
              simp only [Bool.false_eq_true, if_false] at q16 ⊢
              exact close1 I16 q16
            | true =>
              simp only [if_true] at q16 ⊢
              refine thnF (qe.run _ s16 τ H16 _ I16 q16) fun z s17 ⟨yv, H17, I17, r17, k0, S0, n0, ey, d17, room, nx⟩ => ?_
              subst ey
              exact add_int (X := Y) I17 d17 room r17 fun s18 I18 => close1 I18 nx
        exact start_inner loop1 (T1.self X.A 0 _ _ _ st11 loop1)
  exact PpSet.codeAny_compStart_set loop (T.self X.A 0 _ _ _ st4 loop)
end
end Ca

set_option maxHeartbeats 4000000
/-! values that read as data, and rules over them -/
namespace Ca
open PySem PySem.Spec PyProof.Rows L2
mutual
/-- v reads as d off the tracked objects -/
inductive Rp (H : Hp) : V → PyData → Prop
  | non : Rp H .non .none
  | bl (b : Bool) : Rp H (.bl b) (.bool b)
  | int (i : Int) : Rp H (.int i) (.int i)
  | str (x : PySem.Str) : Rp H (.str x) (.str x)
  | lst {a : Addr} {xs : List V} {ds : List PyData} (h : H a = some (.lst xs)) (r : RpA H xs ds) : Rp H (.ref a) (.list ds)
  | tup {a : Addr} {xs : List V} {ds : List PyData} (h : H a = some (.tup xs)) (r : RpA H xs ds) : Rp H (.ref a) (.tuple ds)
  | dic {a : Addr} (h : H a = some (.dK [])) : Rp H (.ref a) (.dict [])
inductive RpA (H : Hp) : List V → List PyData → Prop
  | nil : RpA H [] []
  | cons {v : V} {vs : List V} {d : PyData} {ds : List PyData} (h : Rp H v d) (r : RpA H vs ds) : RpA H (v :: vs) (d :: ds)
end
section
variable {H H' : Hp}
mutual
theorem Rp.mono (e : Same H H') : ∀ {d : PyData} {v : V}, Rp H v d → Rp H' v d
  | _, _, .non => .non
  | _, _, .bl b => .bl b
  | _, _, .int i => .int i
  | _, _, .str x => .str x
  | _, _, .lst h r => .lst (e _ _ h) (RpA.mono e r)
  | _, _, .tup h r => .tup (e _ _ h) (RpA.mono e r)
  | _, _, .dic h => .dic (e _ _ h)
theorem RpA.mono (e : Same H H') : ∀ {ds : List PyData} {vs : List V}, RpA H vs ds → RpA H' vs ds
  | _, _, .nil => .nil
  | _, _, .cons h r => .cons (Rp.mono e h) (RpA.mono e r)
end
theorem RpA.length : ∀ {vs : List V} {ds : List PyData}, RpA H vs ds → vs.length = ds.length
  | _, _, .nil => rfl
  | _, _, .cons _ r => by rw [List.length_cons, List.length_cons, r.length]
theorem RpA.get : ∀ {vs : List V} {ds : List PyData} {i : Nat} {v : V}, RpA H vs ds → vs[i]? = some v → ∃ d, ds[i]? = some d ∧ Rp H v d
  | _, _, _, _, .nil, e => by simp at e
  | _, _, 0, v, .cons h _, e => by
    cases (show some _ = some v from e)
    exact ⟨_, rfl, h⟩
  | _, _, i + 1, v, .cons _ r, e => by
    obtain ⟨d, h1, h2⟩ := RpA.get (i := i) r (by simpa using e)
    exact ⟨d, by simpa using h1, h2⟩
theorem RpA.at : ∀ {vs : List V} {ds : List PyData} {i : Nat} {d : PyData}, RpA H vs ds → ds[i]? = some d → ∃ v, vs[i]? = some v ∧ Rp H v d
  | _, _, _, _, .nil, e => by simp at e
  | _, _, 0, d, .cons h _, e => by
    cases (show some _ = some d from e)
    exact ⟨_, rfl, h⟩
  | _, _, i + 1, d, .cons _ r, e => by
    obtain ⟨v, h1, h2⟩ := RpA.at (i := i) r (by simpa using e)
    exact ⟨v, by simpa using h1, h2⟩
theorem RpA.append : ∀ {vs ws : List V} {ds es : List PyData}, RpA H vs ds → RpA H ws es → RpA H (vs ++ ws) (ds ++ es)
  | _, _, _, _, .nil, s => s
  | _, _, _, _, .cons h r, s => .cons h (RpA.append r s)
theorem RpA.take : ∀ {vs : List V} {ds : List PyData} (n : Nat), RpA H vs ds → RpA H (vs.take n) (ds.take n)
  | _, _, 0, _ => .nil
  | _, _, _ + 1, .nil => .nil
  | _, _, n + 1, .cons h r => .cons h (RpA.take n r)
theorem RpA.drop : ∀ {vs : List V} {ds : List PyData} (n : Nat), RpA H vs ds → RpA H (vs.drop n) (ds.drop n)
  | _, _, 0, r => r
  | _, _, _ + 1, .nil => .nil
  | _, _, n + 1, .cons _ r => RpA.drop n r
/-- the class that a datum has -/
def tyD : PyData → String
  | .none => "NoneType"
  | .bool _ => "bool"
  | .int _ => "int"
  | .str _ => "str"
  | .list _ => "list"
  | .tuple _ => "tuple"
  | .dict _ => "dict"
theorem Rp.ty {K : PySem.W.Frag} {v : V} {d : PyData} (h : Rp H v d) : TyX K H v (.type (tyD d)) := by
  cases h with
  | non => exact .base .non
  | bl b => exact .base (.bl b)
  | int i => exact .base (.int i)
  | str x => exact .base (.str x)
  | lst h r => exact .base (.lst h)
  | tup h r => exact .base (.tup h)
  | dic h => exact .base (.dK h)
theorem Rp.isI {v : V} {d : PyData} (h : Rp H v d) {i : Int} (e : d = .int i) : v = .int i := by
  subst e; cases h; rfl
theorem Rp.isS {v : V} {d : PyData} (h : Rp H v d) {x : PySem.Str} (e : d = .str x) : v = .str x := by
  subst e; cases h; rfl
theorem Rp.isB {v : V} {d : PyData} (h : Rp H v d) {b : Bool} (e : d = .bool b) : v = .bl b := by
  subst e; cases h; rfl
end
section
variable {X : Cx} {pins : List (Addr × Obj)} {σ : L2.St} {H : Hp} {s : Shared}
mutual
theorem Rp.reads (I : Inv X pins σ H s) (sm : ∃ o, X.K.lookup sysModules = some o) : ∀ (d : PyData) (v : V) (u : Value), Rp H v d → RelV v u → ∃ as, Reads s.heap u d as ∧ sysModules ∉ as
  | .none, _, _, h, r => by
    cases h
    cases r
    exact ⟨_, Reads.none, by simp⟩
  | .bool b, _, _, h, r => by
    cases h
    cases r
    exact ⟨_, Reads.bool b, by simp⟩
  | .int i, _, _, h, r => by
    cases h
    obtain ⟨t, rfl⟩ := r
    exact ⟨_, Reads.int i t, by simp⟩
  | .str x, _, _, h, r => by
    cases h
    obtain ⟨t, rfl⟩ := r
    exact ⟨_, Reads.str x t, by simp⟩
  | .list ds, _, _, h, r => by
    cases h with
    | @lst a xs _ h q =>
      cases r
      obtain ⟨_, its, n, rv, ho⟩ := (show ObjOk X.prog X.w H s.heap a (.lst xs) from I.hok a _ h)
      obtain ⟨as, hr, hn⟩ := Rp.readsA I sm ds _ its q rv
      refine ⟨_, Reads.list ho rfl rfl (by simpa using hr), fun z => ?_⟩
      rcases List.mem_cons.mp z with z | z
      · obtain ⟨o, e⟩ := sm
        rw [← z, (I.bs sysModules o (I.ok.mod.kin _ _ e)).2] at h
        cases h
      · exact hn z
  | .tuple ds, _, _, h, r => by
    cases h with
    | @tup a xs _ h q =>
      cases r
      obtain ⟨_, its, rv, o, ho, hc, n, hd⟩ := (show ObjOk X.prog X.w H s.heap a (.tup xs) from I.hok a _ h)
      obtain ⟨as, hr, hn⟩ := Rp.readsA I sm ds _ its q rv
      exact ⟨_, Reads.tuple ho hc hd (by simpa using hr), hn⟩
  | .dict kvs, _, _, h, r => by
    cases h with
    | @dic a h =>
      cases r
      obtain ⟨_, hs, vs, kv, o, es, ep, ho, hx, hd, _, hp, _⟩ := (show ObjOk X.prog X.w H s.heap a (.dK []) from I.hok a _ h)
      cases kv
      have ee : es.toList = [] := by
        generalize es.toList = l at hp
        cases l with
        | nil => rfl
        | cons e l => cases hp
      refine ⟨_, Reads.dict (kvs := []) ho hx.1 hd (by rw [ee]; exact .nil) (by rw [ee]; exact .nil), fun z => ?_⟩
      have z2 : sysModules = a := by simpa using z
      rw [z2] at hs
      simp at hs
theorem Rp.readsA (I : Inv X pins σ H s) (sm : ∃ o, X.K.lookup sysModules = some o) : ∀ (ds : List PyData) (vs : List V) (us : List Value), RpA H vs ds → Vals vs us → ∃ as, ReadsAll s.heap us ds as ∧ sysModules ∉ as
  | [], _, _, h, r => by
    cases h
    cases r
    exact ⟨_, .nil, by simp⟩
  | d :: ds, _, _, h, r => by
    cases h with
    | cons h1 h2 =>
      cases r with
      | cons r1 r2 =>
        obtain ⟨as, q1, n1⟩ := Rp.reads I sm d _ _ h1 r1
        obtain ⟨bs, q2, n2⟩ := Rp.readsA I sm ds _ _ h2 r2
        refine ⟨_, .cons q1 q2, fun z => ?_⟩
        rcases List.mem_append.mp z with z | z
        · exact n1 z
        · exact n2 z
end
end
end Ca

set_option maxHeartbeats 4000000
namespace Ca
open PySem PySem.Spec PyProof.Rows L2
mutual
theorem reads_lt {h : Heap} : ∀ {u : Value} {d : PyData} {as : List Addr}, Reads h u d as → ∀ {x : Addr}, x ∈ as → x < h.objs.size
  | _, _, _, .none, x, z => by simp at z
  | _, _, _, .bool _, x, z => by simp at z
  | _, _, _, .int _ _, x, z => by simp at z
  | _, _, _, .str _ _, x, z => by simp at z
  | _, _, _, .list ho _ _ r, x, z => by
    rcases List.mem_cons.mp z with z | z
    · rw [z]
      exact Heap.lt_size ho
    · exact readsA_lt r z
  | _, _, _, .tuple ho _ _ r, x, z => readsA_lt r z
  | _, _, _, .dict ho _ _ r1 r2, x, z => by
    rcases List.mem_append.mp z with z | z
    · rcases List.mem_cons.mp z with z | z
      · rw [z]
        exact Heap.lt_size ho
      · exact readsA_lt r1 z
    · exact readsA_lt r2 z
theorem readsA_lt {h : Heap} : ∀ {us : List Value} {ds : List PyData} {as : List Addr}, ReadsAll h us ds as → ∀ {x : Addr}, x ∈ as → x < h.objs.size
  | _, _, _, .nil, x, z => by simp at z
  | _, _, _, .cons r1 r2, x, z => by
    rcases List.mem_append.mp z with z | z
    · exact reads_lt r1 z
    · exact readsA_lt r2 z
end
section
variable {X : Cx}
/-- repr(x) of data -/
def rRepr : List V → Hp → VK → Prop := fun xs H Q => ∃ x d, xs = [x] ∧ Rp H x d ∧ d.showable = true ∧ d.depth ≤ 60 ∧ d.shown.length ≤ sizeLine ∧ Q (.str d.shown) H
theorem call_repr {k : Nat} (sm : ∃ o, X.K.lookup sysModules = some o) (hg : X.A.guards = some []) (hr : Room k X.A) : CallR X (.builtin "repr") rRepr := by
  intro pins s σ H xs us Q I r h
  obtain ⟨x, d, rfl, rp, hs, hdp, hz, q⟩ := h
  have hu : X.A.units + 64 < cLine := hr.units
  cases r with
  | @cons _ u _ _ r1 rt =>
    cases rt
    obtain ⟨as, rd, hn⟩ := Rp.reads I sm d x u rp r1
    have fin : ∀ (h' : Heap) (tk : Tok) (t2 : Nat), (∀ b o, s.heap.get? b = some o → h'.get? b = some o) → EP X pins σ Q (.str d.shown tk) { s with heap := h', toks := t2 } := fun h' tk t2 k =>
      ⟨.str d.shown, H, I.kept (t' := t2) k, ⟨tk, rfl⟩, q⟩
    cases rp with
    | non =>
      obtain rfl : u = Value.none := r1
      exact P.repr_of_none (fin _ _ _ fun _ _ e => e)
    | bl b =>
      obtain rfl : u = Value.bool b := r1
      exact P.repr_of_bool (fin _ _ _ fun _ _ e => e)
    | int i =>
      obtain ⟨t, rfl⟩ := (show ∃ t, u = Value.int i t from r1)
      refine P.repr_of_int ?_ (fin _ _ _ fun _ _ e => e)
      simpa [PyData.showable] using hs
    | str y =>
      obtain ⟨t, rfl⟩ := (show ∃ t, u = Value.str y t from r1)
      exact P.repr_of_str (fin _ _ _ fun _ _ e => e) hz
    | lst h q =>
      cases (show u = Value.ref _ from r1)
      exact repr_of_reads' rd hs (fun _ => hn) hg (by omega) (fun _ _ e => e) (fun h' u tk k => fin h' u tk k) hz
    | tup h q =>
      cases (show u = Value.ref _ from r1)
      exact repr_of_reads' rd hs (fun _ => hn) hg (by omega) (fun _ _ e => e) (fun h' u tk k => fin h' u tk k) hz
    | dic h =>
      cases (show u = Value.ref _ from r1)
      exact repr_of_reads' rd hs (fun _ => hn) hg (by omega) (fun _ _ e => e) (fun h' u tk k => fin h' u tk k) hz
/-- len(x) of an own instance -/
def rLenO (C : Addr) (sp : Sp) : List V → Hp → VK → Prop := fun xs H Q => ∃ a dx fs, xs = [.ref a] ∧ H a = some (.ins C dx fs) ∧
  sp [.ref a] H (fun v H' => ∃ n : Int, v = .int n ∧ 0 ≤ n ∧ n < 2 ^ 63 ∧ Q (.int n) H') E0
theorem call_lenO {C f : Addr} {k : Nat} {fd : FuncData} {sp : Sp} (hs : PySem.W.findIn X.K (.ref C) "__len__" = some (some (.ref f))) (hf : PySem.W.isFn X.K (.ref f) = true)
    (F : FnOk X.prog X.w X.K X.mg X.base CX0 k f fd ["self"] sp) (hb : Binds X.K fd ["self"] []) (hr : Room (k + 1) X.A) : CallR X (.builtin "len") (rLenO C sp) := by
  intro pins s σ H xs us Q I r h
  obtain ⟨a, dx, fs, rfl, ha, q⟩ := h
  cases r with
  | @cons _ u _ _ r1 rt =>
    cases rt
    cases (show u = Value.ref a from r1)
    obtain ⟨mA, O, _⟩ := ins_get I.hok ha
    obtain ⟨od, J, _⟩ := O.look
    obtain ⟨m, fr⟩ := I.fr
    refine PySem.W.len_K fr I.ok.mod.kin J hs hf ?_
    have r2 : Vals [V.ref a] [Value.ref a] := .cons rfl .nil
    refine wpAny_call (codeAny_mono (F.run X.A.in1 X.stack s H ⟨[.ref a], []⟩ [.ref a] [.ref a] _ E0 hr.in1 I.env0.in1 (hb s [.ref a] I.kIn (by simp)) r2 q) fun r s' hq => ?_)
    cases r with
    | error e => exact False.elim hq
    | ok fl =>
      cases fl with
      | ret u =>
        obtain ⟨v, H', J', rv, n, rfl, h0, h1, q2⟩ := I.after hq
        obtain ⟨t, rfl⟩ := rv
        exact ⟨⟨h0, h1⟩, .int n, H', J'.tok _, ⟨_, rfl⟩, q2⟩
      | _ => exact False.elim hq
/-- sorted(x), x a list or a tuple of alike data: bs the items with what they read as -/
def sortD (bs : List (V × PyData)) : List (V × PyData) := bs.mergeSort (PySem.W.dataLe false Prod.snd)
def rSortD : List V → Hp → VK → Prop := fun xs H Q => ∃ (a : Addr) (bs : List (V × PyData)), xs = [.ref a] ∧ (H a = some (.lst (bs.map Prod.fst)) ∨ H a = some (.tup (bs.map Prod.fst))) ∧
  (∀ b ∈ bs, Rp H b.1 b.2) ∧ PySem.W.AllAlike (bs.map Prod.snd) ∧ PySem.W.Sortable (bs.map Prod.snd) ∧ (∀ b ∈ bs, b.2.depth ≤ 60) ∧ bs.length ≤ sizeLine ∧
  ∀ p, H p = none → Q (.ref p) (upd H p (.lst ((sortD bs).map Prod.fst)))
theorem each_of : ∀ {bs : List (V × PyData)} {us : List Value}, Vals (bs.map Prod.fst) us → PySem.W.EachIs (fun (u : Value) (b : V × PyData) => RelV b.1 u) us bs
  | [], _, .nil => .nil
  | _ :: _, _, .cons r t => .cons r (each_of t)
theorem of_each : ∀ {bs : List (V × PyData)} {us : List Value}, PySem.W.EachIs (fun (u : Value) (b : V × PyData) => RelV b.1 u) us bs → Vals (bs.map Prod.fst) us
  | [], _, .nil => .nil
  | _ :: _, _, .cons r t => .cons r (of_each t)
theorem each_rd {pins : List (Addr × Obj)} {σ : L2.St} {H : Hp} {s : Shared} (I : Inv X pins σ H s) (sm : ∃ o, X.K.lookup sysModules = some o) {h' : Heap} {l : Addr} (hl : s.heap.objs.size ≤ l)
    (kp : ∀ b o, s.heap.get? b = some o → h'.get? b = some o) : ∀ {bs : List (V × PyData)} {us : List Value}, (∀ b ∈ bs, Rp H b.1 b.2) → Vals (bs.map Prod.fst) us →
    PySem.W.EachIs (fun (u : Value) (b : V × PyData) => ∃ as, Reads h' u b.2 as ∧ l ∉ as) us bs
  | [], _, _, .nil => .nil
  | b :: bs, _, h, .cons r t => by
    obtain ⟨as, rd, _⟩ := Rp.reads I sm b.2 b.1 _ (h b (.head _)) r
    refine .cons ⟨as, PyProof.Rows.Reads.keeps kp rd, fun z => ?_⟩ (each_rd I sm hl kp (fun c hc => h c (.tail _ hc)) t)
    exact absurd (reads_lt rd z) (Nat.not_lt.mpr hl)
theorem cr_sortD {k : Nat} (sm : ∃ o, X.K.lookup sysModules = some o) (hr : Room k X.A) : CallR X (.builtin "sorted") rSortD := by
  intro pins s σ H xs us Q I r h
  obtain ⟨a, bs, rfl, ha, hrp, hal, hso, hdp, hlen, q⟩ := h
  have hu : X.A.units + 64 < cLine := hr.units
  rw [Vals.ref1 r]
  obtain ⟨T, hT, its, o, n, rv, ho, hc, hd⟩ : ∃ T, (T = "list" ∨ T = "tuple") ∧ ∃ (its : List Value) (o : Obj) (n : Nat), Vals (bs.map Prod.fst) its ∧ s.heap.get? a = some o ∧ o.cls = .type T ∧ o.data = .seq its.toArray n := by
    rcases ha with ha | ha
    · obtain ⟨_, its, n, rv, ho⟩ := (show ObjOk X.prog X.w H s.heap a (.lst (bs.map Prod.fst)) from I.hok a _ ha)
      exact ⟨"list", .inl rfl, its, _, n, rv, ho, rfl, rfl⟩
    · obtain ⟨_, its, rv, o, ho, hc, n, hd⟩ := (show ObjOk X.prog X.w H s.heap a (.tup (bs.map Prod.fst)) from I.hok a _ ha)
      exact ⟨"tuple", .inr rfl, its, o, n, rv, ho, hc, hd⟩
  have li : its.length = bs.length := by rw [← rv.length, List.length_map]
  refine Calls.call_function_entry kind_sorted plain_sorted entry_sorted (args_sorted1 _) ?_
  unfold Builtin.«sorted»
  refine wpAny_bind (m := checkCount "sorted" 1 1 _) (wpAny_pure ?_)
  refine wpAny_bind (wpAny_collect_seq a hT ho hc hd (fun h1 k1 => ?_) (by rw [List.size_toArray, li]; exact hlen))
  refine wpAny_bind (wpAny_newList ?_ (by simpa [li] using hlen))
  have I1 : Inv X pins σ H { s with heap := h1 } := I.kept (t' := s.toks) k1
  have kp : ∀ b o, h1.get? b = some o → (h1.push (seqObj "list" its.toArray 0)).get? b = some o := fun b o e => Heap.get?_push_of_some _ e
  have hL : (h1.push (seqObj "list" its.toArray 0)).get? h1.objs.size = some (seqObj "list" its.toArray 0) := Heap.get?_push_size _ rfl
  have er := each_rd (l := h1.objs.size) I1 sm (Nat.le_refl _) kp hrp rv
  show wpAny (model X.prog X.w) X.A.in1 _ _ _ { s with heap := h1.push (seqObj "list" its.toArray 0) }
  refine wpAny_bind (wpAny_holding (PySem.W.list_sort_data (bs := bs) (enc := Prod.snd) (R := fun (u : Value) (b : V × PyData) => RelV b.1 u) (vs := its) (n := 0) hL (each_of rv) er hal hso hlen
    (fun b hb => ?_) fun out ho1 ho2 => wpAny_pure ⟨_, rfl, ?_⟩))
  · have z := hdp b hb
    show X.A.units + 1 + 1 + b.2.depth < cLine
    omega
  · have vo := of_each ho2
    have hn : H h1.objs.size = none := I1.hok.fresh (Nat.le_refl _)
    have old : ∀ b o, h1.get? b = some o → (sortedHeap (h1.push (seqObj "list" its.toArray 0)) h1.objs.size its out.toArray).get? b = some o := fun b o e => by
      have lt := Heap.lt_size e
      rw [sortedHeap_old (Nat.ne_of_lt lt) (by rw [size_push']; exact Nat.lt_succ_of_lt lt)]
      exact kp b o e
    obtain ⟨c, hat⟩ := sortedHeap_at (out := out.toArray) hL
    have lo : ((sortD bs).map Prod.fst).length ≤ sizeLine := by
      rw [List.length_map]
      unfold sortD
      rw [List.length_mergeSort]
      exact hlen
    exact ⟨.ref h1.objs.size, upd H h1.objs.size (.lst ((sortD bs).map Prod.fst)), I1.laid (t' := s.toks) old (Nat.le_refl _) ⟨lo, out, c, vo, hat⟩, rfl, q _ hn⟩
end
end Ca

set_option maxHeartbeats 4000000
namespace Q
open PySem PySem.Spec PyProof.Rows L2 Ca
theorem bIsi : bootBuiltins "isinstance" = some (.builtin "isinstance") := by decide +kernel
theorem bInt : bootBuiltins "int" = some (.type "int") := by decide +kernel
theorem bBool : bootBuiltins "bool" = some (.type "bool") := by decide +kernel
theorem bStr : bootBuiltins "str" = some (.type "str") := by decide +kernel
theorem bTup : bootBuiltins "tuple" = some (.type "tuple") := by decide +kernel
theorem bLst : bootBuiltins "list" = some (.type "list") := by decide +kernel
theorem bLen : bootBuiltins "len" = some (.builtin "len") := by decide +kernel
theorem bAll : bootBuiltins "all" = some (.builtin "all") := by decide +kernel
theorem bSorted : bootBuiltins "sorted" = some (.builtin "sorted") := by decide +kernel
theorem bRepr : bootBuiltins "repr" = some (.builtin "repr") := by decide +kernel
theorem bMax : bootBuiltins "max" = some (.builtin "max") := by decide +kernel
theorem bMin : bootBuiltins "min" = some (.builtin "min") := by decide +kernel
/-! ### the text -/
def top (i : Nat) : Stmt := PySem.Challenge.pw_countalike_k01_tables_made.main.body.getD i (.Pass ⟨0, 0, 0, 0⟩)
abbrev FnP (K : PySem.W.Frag) (x : PySem.Str) (st : Stmt) (f : Addr) (fd : FuncData) : Prop := FunD K x x (defArgs st) (defBody st) (defScope st) [] [] f fd
abbrev FnM (K : PySem.W.Frag) (x q : PySem.Str) (st : Stmt) (f : Addr) (fd : FuncData) : Prop := FunD K x q (defArgs st) (defBody st) (defScope st) [] [] f fd
/-- the built-in names that the text does not bind, the module's constants -/
structure Tx (K : PySem.W.Frag) (mg : PySem.Str → Option Value) : Prop where
  isi : mg "isinstance" = none
  int : mg "int" = none
  bool : mg "bool" = none
  str : mg "str" = none
  tup : mg "tuple" = none
  lst : mg "list" = none
  len : mg "len" = none
  all : mg "all" = none
  sorted : mg "sorted" = none
  repr : mg "repr" = none
  max : mg "max" = none
  min : mg "min" = none
  range : mg "range" = none
  kinds : ∃ a, mg "KINDS" = some (.ref a) ∧ ∀ H : Hp, SqT K H a [.str "A", .str "B", .str "C"]
  sm : ∃ o, K.lookup sysModules = some o
/-! ### is_number -/
abbrev s_is_number : Stmt := top 4
def isNum (d : PyData) (lo hi : Int) : Bool := match d with
  | .int i => decide (lo ≤ i) && decide (i ≤ hi)
  | _ => false
def spNum : Sp := fun vs H Q _ => ∃ v d lo hi, vs = [v, .int lo, .int hi] ∧ Rp H v d ∧ Q (.bl (isNum d lo hi)) H
theorem sc_num : FnScope ["thing", "least", "most"] ["thing", "least", "most"] (defScope s_is_number) := ⟨rfl, rfl, rfl, by decide +kernel, rfl, by decide +kernel, by decide +kernel⟩
section
variable {P : Program} {w : World} {K : PySem.W.Frag} {mg : PySem.Str → Option Value} {base : Heap}
/-- isinstance(x, T) of data -/
def isInt : PyData → Bool
  | .int _ => true
  | .bool _ => true
  | _ => false
def isBool : PyData → Bool
  | .bool _ => true
  | _ => false
def isTup : PyData → Bool
  | .tuple _ => true
  | _ => false
def isStr : PyData → Bool
  | .str _ => true
  | _ => false
theorem kInt {K : PySem.W.Frag} : ∀ d : PyData, PySem.W.kitOne K (.type (tyD d)) (.type "int") = some (isInt d)
  | .none => kit_ty (show kitB "NoneType" "int" = some false by decide +kernel)
  | .bool _ => kit_ty (show kitB "bool" "int" = some true by decide +kernel)
  | .int _ => kit_ty (show kitB "int" "int" = some true by decide +kernel)
  | .str _ => kit_ty (show kitB "str" "int" = some false by decide +kernel)
  | .list _ => kit_ty (show kitB "list" "int" = some false by decide +kernel)
  | .tuple _ => kit_ty (show kitB "tuple" "int" = some false by decide +kernel)
  | .dict _ => kit_ty (show kitB "dict" "int" = some false by decide +kernel)
theorem kBool {K : PySem.W.Frag} : ∀ d : PyData, PySem.W.kitOne K (.type (tyD d)) (.type "bool") = some (isBool d)
  | .none => kit_ty (show kitB "NoneType" "bool" = some false by decide +kernel)
  | .bool _ => kit_ty (show kitB "bool" "bool" = some true by decide +kernel)
  | .int _ => kit_ty (show kitB "int" "bool" = some false by decide +kernel)
  | .str _ => kit_ty (show kitB "str" "bool" = some false by decide +kernel)
  | .list _ => kit_ty (show kitB "list" "bool" = some false by decide +kernel)
  | .tuple _ => kit_ty (show kitB "tuple" "bool" = some false by decide +kernel)
  | .dict _ => kit_ty (show kitB "dict" "bool" = some false by decide +kernel)
theorem kTup {K : PySem.W.Frag} : ∀ d : PyData, PySem.W.kitOne K (.type (tyD d)) (.type "tuple") = some (isTup d)
  | .none => kit_ty (show kitB "NoneType" "tuple" = some false by decide +kernel)
  | .bool _ => kit_ty (show kitB "bool" "tuple" = some false by decide +kernel)
  | .int _ => kit_ty (show kitB "int" "tuple" = some false by decide +kernel)
  | .str _ => kit_ty (show kitB "str" "tuple" = some false by decide +kernel)
  | .list _ => kit_ty (show kitB "list" "tuple" = some false by decide +kernel)
  | .tuple _ => kit_ty (show kitB "tuple" "tuple" = some true by decide +kernel)
  | .dict _ => kit_ty (show kitB "dict" "tuple" = some false by decide +kernel)
theorem kStr {K : PySem.W.Frag} : ∀ d : PyData, PySem.W.kitOne K (.type (tyD d)) (.type "str") = some (isStr d)
  | .none => kit_ty (show kitB "NoneType" "str" = some false by decide +kernel)
  | .bool _ => kit_ty (show kitB "bool" "str" = some false by decide +kernel)
  | .int _ => kit_ty (show kitB "int" "str" = some false by decide +kernel)
  | .str _ => kit_ty (show kitB "str" "str" = some true by decide +kernel)
  | .list _ => kit_ty (show kitB "list" "str" = some false by decide +kernel)
  | .tuple _ => kit_ty (show kitB "tuple" "str" = some false by decide +kernel)
  | .dict _ => kit_ty (show kitB "dict" "str" = some false by decide +kernel)
theorem ok_num {f : Addr} {fd : FuncData} (F : FnP K "is_number" s_is_number f fd) (T : Tx K mg) : FnOk P w K mg base CX0 1 f fd ["thing", "least", "most"] spNum := by
  refine F.ok sc_num (fun vs H Q E h => ?_) (fun cdv A outer s H vs Q E hr h => ?_)
  · obtain ⟨v, d, lo, hi, rfl, _⟩ := h
    rfl
  · obtain ⟨v, d, lo, hi, rfl, rp, q⟩ := h
    refine ⟨_, PSs.nox (pss_one (ps_ret (pe_and (pe_callB call_isi (by rfl) T.isi bIsi (pa_cons (pv 0) (pa_cons (pe_bltn (v := .ty "int") (by rfl) T.int bInt rfl) pa_nil)))
      (pe_and (pe_not (pe_callB call_isi (by rfl) T.isi bIsi (pa_cons (pv 0) (pa_cons (pe_bltn (v := .ty "bool") (by rfl) T.bool bBool rfl) pa_nil))))
        (pe_one (pe_chain op_le op_le (pv 1) (pv 0) (pv 2))))))), ?_⟩
    refine ⟨_, rfl, _, _, _, _, _, rfl, .ty _, rp.ty, kInt d, _, rfl, ?_⟩
    cases hi1 : isInt d with
    | false =>
      refine iteF ?_
      have e : isNum d lo hi = false := by cases d <;> first | rfl | cases hi1
      rw [e] at q
      exact q
    | true =>
      refine iteT ⟨_, rfl, _, _, _, _, _, rfl, .ty _, rp.ty, kBool d, _, rfl, _, rfl, ?_⟩
      cases hb1 : isBool d with
      | true =>
        have e : isNum d lo hi = false := by cases d <;> first | rfl | cases hb1
        rw [e] at q
        exact iteF q
      | false =>
        refine iteT ?_
        cases rp with
        | int i =>
          refine ⟨_, rfl, _, rfl, lo, i, rfl, rfl, decide (lo ≤ i), rfl, ?_⟩
          by_cases c : lo ≤ i
          · have e : isNum (.int i) lo hi = decide (i ≤ hi) := by simp [isNum, c]
            rw [e] at q
            rw [decide_eq_true c]
            exact iteT ⟨_, rfl, i, hi, rfl, rfl, q⟩
          · have e : isNum (.int i) lo hi = false := by simp [isNum, c]
            rw [e] at q
            rw [decide_eq_false c]
            exact iteF q
        | bl b => cases hb1
        | _ => cases hi1
end
end Q

set_option maxHeartbeats 4000000
namespace Q
open PySem PySem.Spec PyProof.Rows L2 Ca
/-! ### is_triple -/
abbrev s_is_triple : Stmt := top 5
def kindOk (k : PySem.Str) : Bool := inV (.str k) [.str "A", .str "B", .str "C"]
def isTri (d : PyData) (m : Int) : Bool := match d with
  | .tuple [.str k, l, r] => kindOk k && (isNum l 0 m && isNum r 0 m)
  | _ => false
theorem isTri_tup {ds : List PyData} {m : Int} (h : ds.length ≠ 3) : isTri (.tuple ds) m = false := by
  match ds, h with
  | [], _ => rfl
  | [a], _ => cases a <;> rfl
  | [a, b], _ => cases a <;> rfl
  | [a, b, c], h => exact absurd rfl h
  | a :: b :: c :: e :: r, _ => cases a <;> rfl
theorem isTri_not {d : PyData} {m : Int} (h : isTup d = false) : isTri d m = false := by
  cases d <;> first | rfl | cases h
theorem isTri_kind {k l r : PyData} {m : Int} (h : isStr k = false) : isTri (.tuple [k, l, r]) m = false := by
  cases k <;> first | rfl | cases h
def spTri : Sp := fun vs H Q _ => ∃ v d m, vs = [v, .int m] ∧ Rp H v d ∧ Q (.bl (isTri d m)) H
theorem sc_tri : FnScope ["thing", "most", "kind", "left", "right"] ["thing", "most"] (defScope s_is_triple) := ⟨rfl, rfl, rfl, by decide +kernel, rfl, by decide +kernel, by decide +kernel⟩
section
variable {P : Program} {w : World} {K : PySem.W.Frag} {mg : PySem.Str → Option Value} {base : Heap}
theorem ok_tri {f fN : Addr} {fd fdN : FuncData} (F : FnP K "is_triple" s_is_triple f fd) (T : Tx K mg) (FN : FnP K "is_number" s_is_number fN fdN) (gN : mg "is_number" = some (.ref fN)) :
    FnOk P w K mg base CX0 2 f fd ["thing", "most"] spTri := by
  have GN : FnOk P w K mg base CX0 1 fN fdN ["thing", "least", "most"] spNum := ok_num FN T
  have bN : Binds K fdN ["thing", "least", "most"] [] := FN.bindsN fun _ _ _ _ _ _ us hl => match us, hl with | [_, _, _], _ => rfl
  obtain ⟨aK, gK, sK⟩ := T.kinds
  refine F.ok sc_tri (fun vs H Q E h => ?_) (fun cdv A outer s H vs Q E hr h => ?_)
  · obtain ⟨v, d, m, rfl, _⟩ := h
    rfl
  · obtain ⟨v, d, m, rfl, rp, q⟩ := h
    refine ⟨_, PSs.nox (pss_cons (ps_if (PW.pt (pw_or (pt_not (pt_val (pe_callB call_isi (by rfl) T.isi bIsi (pa_cons (pv 0) (pa_cons (pe_bltn (v := .ty "tuple") (by rfl) T.tup bTup rfl) pa_nil)))))
        (pw_or1 (pt_cmpR op_ne (pe_callB call_len_seq (by rfl) T.len bLen (pa_cons (pv 0) pa_nil)) pe_int (nomark _))))) (pss_one (ps_ret pe_bl)) pss_nil)
      (pss_cons (ps_asg (pv 0) (pg_tup (by rfl) (pgs_cons (pg_name (i := 2) sc_tri.nd rfl (.inl rfl)) (pgs_cons (pg_name (i := 3) sc_tri.nd rfl (.inl rfl)) (pgs_cons (pg_name (i := 4) sc_tri.nd rfl (.inl rfl)) pgs_nil)))))
      (pss_cons (ps_if (PW.pt (pw_or (pt_not (pt_val (pe_callB call_isi (by rfl) T.isi bIsi (pa_cons (pv 2) (pa_cons (pe_bltn (v := .ty "str") (by rfl) T.str bStr rfl) pa_nil)))))
        (pw_or1 (pt_cmpR op_notIn_seq (pv 2) (pe_glob (v := .ref aK) rfl gK rfl) (by rfl))))) (pss_one (ps_ret pe_bl)) pss_nil)
      (pss_one (ps_ret (pe_and (pe_call GN hr rfl gN FN.kp bN .nil pass0 (pa_cons (pv 3) (pa_cons pe_int (pa_cons (pv 1) pa_nil))))
        (pe_one (pe_call GN hr rfl gN FN.kp bN .nil pass0 (pa_cons (pv 4) (pa_cons pe_int (pa_cons (pv 1) pa_nil)))))))))) ), ?_⟩
    refine ⟨_, rfl, _, _, _, _, _, rfl, .ty _, rp.ty, kTup d, _, rfl, ?_⟩
    cases hT : isTup d with
    | false =>
      rw [isTri_not hT] at q
      exact iteT (iteT q)
    | true =>
      refine iteF ?_
      cases rp with
      | @tup a xs ds h r =>
        refine ⟨_, rfl, a, xs, rfl, .inr (.inl (.inl h)), rfl, _, rfl, ?_⟩
        have hl := r.length
        by_cases h3 : ds.length = 3
        · have e3 : (!decide (V.int ((xs.length : Nat) : Int) = V.int 3)) = false := by
            rw [hl, h3]
            rfl
          rw [e3]
          refine iteF ?_
          match ds, h3 with
          | [dk, dl, dr], _ =>
            cases r with
            | @cons vk _ _ _ rk r =>
              cases r with
              | @cons vl _ _ _ rl r =>
                cases r with
                | @cons vr _ _ _ rr r =>
                  cases r
                  refine ⟨_, rfl, a, _, rfl, .inl (.inl h), rfl, vk, _, rfl, vl, _, rfl, vr, _, rfl, rfl, ?_⟩
                  refine ⟨_, rfl, _, _, _, _, _, rfl, .ty _, rk.ty, kStr dk, _, rfl, ?_⟩
                  cases hS : isStr dk with
                  | false =>
                    rw [isTri_kind hS] at q
                    exact iteT (iteT q)
                  | true =>
                    refine iteF ?_
                    cases rk with
                    | str k =>
                      refine ⟨_, rfl, aK, _, rfl, .inr (sK H), rfl, rfl, _, rfl, ?_⟩
                      show if (!kindOk k) = true then _ else _
                      cases hk : kindOk k with
                      | false =>
                        have e : isTri (.tuple [.str k, dl, dr]) m = false := by simp [isTri, hk]
                        rw [e] at q
                        exact iteT q
                      | true =>
                        refine iteF ?_
                        have e : isTri (.tuple [.str k, dl, dr]) m = (isNum dl 0 m && isNum dr 0 m) := by simp [isTri, hk]
                        rw [e] at q
                        refine ⟨_, rfl, _, rfl, vl, dl, 0, m, rfl, rl, _, rfl, ?_⟩
                        cases hn : isNum dl 0 m with
                        | false =>
                          rw [hn] at q
                          exact iteF q
                        | true =>
                          rw [hn] at q
                          exact iteT ⟨_, rfl, _, rfl, vr, dr, 0, m, rfl, rr, q⟩
                    | _ => cases hS
        · have e3 : (!decide (V.int ((xs.length : Nat) : Int) = V.int 3)) = true := by
            have z : ¬ V.int ((xs.length : Nat) : Int) = V.int 3 := fun z => by
              injection z with z
              omega
            rw [decide_eq_false z]
            rfl
          rw [e3]
          rw [isTri_tup h3] at q
          exact iteT q
      | _ => cases hT
end
end Q

set_option maxHeartbeats 4000000
namespace Ca
open PySem PySem.Spec PyProof.Rows L2
/-- the heap without what stands at D -/
def off (D : Addr) (H : Hp) : Hp := fun a => if a = D then none else H a
theorem off_ne {D a : Addr} {H : Hp} (h : a ≠ D) : off D H a = H a := if_neg h
theorem off_same {D : Addr} {H : Hp} : Same (off D H) H := fun b o e => by
  unfold off at e
  split at e
  · cases e
  · exact e
theorem off_mono {D : Addr} {H H' : Hp} (h : Same H H') : Same (off D H) (off D H') := fun b o e => by
  unfold off at e ⊢
  split at e
  · cases e
  · rename_i hb
    rw [if_neg hb]
    exact h b o e
theorem off_upd {D : Addr} {H : Hp} {o : HO} : off D (upd H D o) = off D H := by
  funext b
  unfold off
  split
  · rfl
  · rename_i hb
    exact upd_ne hb
theorem same_new {H : Hp} {D : Addr} {o : HO} (h : H D = none) : Same H (upd H D o) := fun b u e => by
  rw [upd_ne (ne_of_none e h)]
  exact e
theorem same_mut {H H' : Hp} {D : Addr} {o : HO} (s : Same H H') (h : H D = none) : Same H (upd H' D o) := fun b u e => by
  rw [upd_ne (ne_of_none e h)]
  exact s b u e
/-- what is kept of the items so far -/
abbrev keptD (F : PyData → Option PyData) (l : List PyData) : List PyData := l.filterMap F
theorem keptD_app (F : PyData → Option PyData) (a b : List PyData) : keptD F (a ++ b) = keptD F a ++ keptD F b := List.filterMap_append ..
theorem keptD_len (F : PyData → Option PyData) (l : List PyData) : (keptD F l).length ≤ l.length := List.length_filterMap_le ..
theorem keptD_map (f : PyData → PyData) (l : List PyData) : keptD (fun d => some (f d)) l = l.map f := by
  induction l with
  | nil => rfl
  | cons d l ih =>
    show List.filterMap _ (d :: l) = _
    rw [List.filterMap_cons]
    show f d :: List.filterMap _ l = _
    rw [show List.filterMap (fun d => some (f d)) l = l.map f from ih]
    rfl
theorem take_more {α : Type} : ∀ {l : List α} {i : Nat} {x : α}, l[i]? = some x → l.take (i + 1) = l.take i ++ [x]
  | [], i, x, h => by simp at h
  | a :: l, 0, x, h => by
    cases (show some a = some x from h)
    rfl
  | a :: l, i + 1, x, h => by
    have ih := take_more (l := l) (i := i) (x := x) (by simpa using h)
    show a :: l.take (i + 1) = (a :: l.take i) ++ [x]
    rw [ih]
    rfl
/-- one more item appended at D -/
def Ap (D : Addr) (Nx : Hp → Prop) (y : V) (H : Hp) : Prop := ∃ acc, H D = some (.lst acc) ∧ acc.length < sizeLine ∧ Nx (upd H D (.lst (acc ++ [y])))
/-- a turn of a comprehension: item x reads as d; what is appended reads as F d (nothing where F d is none) -/
abbrev LcTurn (σ : L2.St) (vs : List Nat) (g : TG) (tt : TT) (te : TE) (D : Addr) (H : Hp) (ds : List PyData) (F : PyData → Option PyData) : Prop :=
  ∀ (x : V) (d : PyData) (H' : Hp) (Nx : Hp → Prop), d ∈ ds → Same H H' → H' D ≠ none → Rp (off D H') x d →
    (∀ (y : V) (e : PyData) (H4 : Hp), F d = some e → Same H' H4 → Rp (off D H4) y e → Ap D Nx y H4) → (F d = none → ∀ H4, Same H' H4 → Nx H4) →
    g x (wipe σ vs) H' fun σ2 H2 => wipe σ2 vs = wipe σ vs ∧ tt σ2 H2 fun b H3 => if b = true then te σ2 H3 (Ap D Nx) else Nx H3
abbrev LcInv (H : Hp) (D : Addr) (ds : List PyData) (F : PyData → Option PyData) (i : Nat) (H' : Hp) : Prop :=
  Same H H' ∧ ∃ acc, H' D = some (.lst acc) ∧ RpA (off D H') acc (keptD F (ds.take i))
section
variable {K : PySem.W.Frag} {a D : Addr} {xs : List V} {ds : List PyData} {H : Hp} {σ : L2.St} {vs : List Nat} {g : TG} {tt : TT} {te : TE} {F : PyData → Option PyData} {Qd : Hp → Prop}
theorem lc_turn (hD : H D = none) (r : RpA H xs ds) (hz : ds.length ≤ 1000) (ht : LcTurn σ vs g tt te D H ds F) : ∀ i x H', xs[i]? = some x → LcInv H D ds F i H' →
    g x (wipe σ vs) H' fun σ2 H2 => wipe σ2 vs = wipe σ vs ∧ tt σ2 H2 fun b H3 => if b = true then te σ2 H3 fun y H4 => ∃ acc, H4 D = some (.lst acc) ∧ acc.length < sizeLine ∧
      LcInv H D ds F (i + 1) (upd H4 D (.lst (acc ++ [y]))) else LcInv H D ds F (i + 1) H3 := by
  intro i x H' hi ⟨s, acc, hacc, ra⟩
  obtain ⟨d, hd, rx⟩ := r.get hi
  have e1 : ds.take (i + 1) = ds.take i ++ [d] := take_more hd
  have kD : Same H (off D H') := fun b o e => by
    rw [off_ne (ne_of_none e hD)]
    exact s b o e
  refine ht x d H' (LcInv H D ds F (i + 1)) (List.mem_of_getElem? hd) s (by rw [hacc]; simp) (rx.mono kD) (fun y e H4 hF s4 ry => ?_) (fun hF H4 s4 => ?_)
  · refine ⟨acc, s4 _ _ hacc, ?_, ?_⟩
    · have l1 := ra.length
      have l2 := keptD_len F (ds.take i)
      have l3 : (ds.take i).length ≤ 1000 := by rw [List.length_take]; omega
      have : acc.length ≤ 1000 := by omega
      exact small1000 this
    · refine ⟨same_mut (s.trans s4) hD, _, upd_same, ?_⟩
      rw [off_upd, e1, keptD_app]
      have e2 : keptD F [d] = [e] := by simp [keptD, hF]
      rw [e2]
      exact (ra.mono (off_mono s4)).append (.cons ry .nil)
  · refine ⟨s.trans s4, acc, s4 _ _ hacc, ?_⟩
    have e2 : keptD F [d] = [] := by simp [keptD, hF]
    rw [e1, keptD_app, e2, List.append_nil]
    exact ra.mono (off_mono s4)
theorem lc_fin (r : RpA H xs ds) (hq : ∀ H' acc, Same H H' → H' D = some (.lst acc) → RpA (off D H') acc (keptD F ds) → Qd H') : ∀ H', LcInv H D ds F xs.length H' → Qd H' := by
  intro H' ⟨s, acc, h1, h2⟩
  rw [r.length, List.take_length] at h2
  exact hq H' acc s h1 h2
theorem lc_ini (hD : H D = none) : LcInv H D ds F 0 (upd H D (.lst [])) := ⟨same_new hD, [], upd_same, .nil⟩
/-- what a comprehension's reading asks behind its source -/
abbrev LcW (J : It) (σ : L2.St) (vs : List Nat) (g : TG) (tt : TT) (te : TE) (H1 : Hp) (D : Addr) (Qd : Hp → Prop) : Prop :=
  ∃ W : Nat → Nat → Hp → Prop, (∃ m, W 0 m (upd H1 D (.lst []))) ∧ ∀ i m H, W i m H → (J.stop i H ∧ Qd H) ∨ (J.go i H ∧ ∃ Nx : Hp → Prop,
    (∀ H', Nx H' → ∃ m', m' < m ∧ W (i + 1) m' H') ∧ ∀ x H', J.yld i H x H' → g x (wipe σ vs) H' fun σ2 H2 => wipe σ2 vs = wipe σ vs ∧ tt σ2 H2 fun b H3 =>
      if b = true then te σ2 H3 fun y H4 => ∃ acc, H4 D = some (.lst acc) ∧ acc.length < sizeLine ∧ Nx (upd H4 D (.lst (acc ++ [y]))) else Nx H3)
/-- over a tuple, a list -/
theorem lcT (hx : H a = some (.tup xs)) (r : RpA H xs ds) (hz : ds.length ≤ 1000) (hD : H D = none) (ht : LcTurn σ vs g tt te D H ds F)
    (hq : ∀ H' acc, Same H H' → H' D = some (.lst acc) → RpA (off D H') acc (keptD F ds) → Qd H') : LcW (Itt K a) σ vs g tt te H D Qd :=
  lc_tup (LcInv H D ds F) (lc_ini hD) (fun i H' _ p => .inl (.inl (p.1 _ _ hx))) (lc_turn hD r hz ht) (lc_fin r hq)
theorem lcL (hx : H a = some (.lst xs)) (r : RpA H xs ds) (hz : ds.length ≤ 1000) (hD : H D = none) (ht : LcTurn σ vs g tt te D H ds F)
    (hq : ∀ H' acc, Same H H' → H' D = some (.lst acc) → RpA (off D H') acc (keptD F ds) → Qd H') : LcW (Itl K a) σ vs g tt te H D Qd :=
  lc_list (LcInv H D ds F) (lc_ini hD) (fun i H' _ p => .inl (.inl (p.1 _ _ hx))) (lc_turn hD r hz ht) (lc_fin r hq)
end
end Ca

set_option maxHeartbeats 4000000
namespace Ca
open PySem PySem.Spec PyProof.Rows L2
/-! what an expression gives, in data; S: what may change under way (lists, dicts, sets being made), nothing of which is read as data -/
def offS (S : Addr → Bool) (H : Hp) : Hp := fun a => if S a = true then none else H a
def MutO : HO → Prop
  | .tup _ => False
  | .ins _ _ _ => False
  | _ => True
def Fr (S : Addr → Bool) (H : Hp) : Prop := ∀ a, S a = true → ∃ o, H a = some o ∧ MutO o
section
variable {S : Addr → Bool} {H H' : Hp} {p : Addr} {o : HO}
theorem Fr.mono (f : Fr S H) (s : Same H H') : Fr S H' := fun a h => let ⟨o, e, m⟩ := f a h; ⟨o, s _ _ e, m⟩
theorem offS_mono (s : Same H H') : Same (offS S H) (offS S H') := fun b o e => by
  unfold offS at e ⊢
  split at e
  · cases e
  · rename_i hb
    rw [if_neg hb]
    exact s b o e
theorem offS_same : Same (offS S H) H := fun b o e => by
  unfold offS at e
  split at e
  · cases e
  · exact e
theorem offS_at (h : S p = false) : offS S H p = H p := by
  unfold offS
  rw [h]
  rfl
theorem Fr.new (f : Fr S H) (h : H p = none) : S p = false := by
  cases e : S p with
  | false => rfl
  | true =>
    obtain ⟨o, e2, _⟩ := f p e
    rw [h] at e2
    cases e2
theorem Fr.imm (f : Fr S H) (h : H p = some o) (hm : ¬ MutO o) : S p = false := by
  cases e : S p with
  | false => rfl
  | true =>
    obtain ⟨o', e2, m⟩ := f p e
    rw [h] at e2
    cases e2
    exact absurd m hm
theorem offS_new (f : Fr S H) (h : H p = none) : offS S (upd H p o) p = some o := by
  rw [offS_at (f.new h), upd_same]
theorem fr0 : Fr (fun _ => false) H := fun a h => by cases h
theorem off0 : offS (fun _ => false) H = H := rfl
def addS (S : Addr → Bool) (D : Addr) : Addr → Bool := fun a => S a || decide (a = D)
theorem Fr.add (f : Fr S H) (h : H p = some o) (m : MutO o) : Fr (addS S p) H := fun a ha => by
  unfold addS at ha
  rw [Bool.or_eq_true] at ha
  rcases ha with z | z
  · exact f a z
  · rw [of_decide_eq_true z]
    exact ⟨o, h, m⟩
theorem addS_off : Same (offS (addS S p) H) (offS S H) := fun b o e => by
  unfold offS at e ⊢
  split at e
  · cases e
  · rename_i hb
    have : ¬ S b = true := fun z => hb (by unfold addS; rw [z]; rfl)
    rw [if_neg this]
    exact e
theorem addS_new (h : (offS S H) p = none) (s : Same (offS S H) (offS S H')) : Same (offS S H) (offS (addS S p) H') := fun b o e => by
  have e2 := s b o e
  have nb : b ≠ p := fun z => by rw [z, h] at e; cases e
  unfold offS at e2 ⊢
  split at e2
  · cases e2
  · rename_i hb
    have : ¬ addS S p b = true := fun z => by
      unfold addS at z
      rw [Bool.or_eq_true] at z
      rcases z with z | z
      · exact hb z
      · exact nb (of_decide_eq_true z)
    rw [if_neg this]
    exact e2
theorem addS_upd : Same (offS (addS S p) H) (offS (addS S p) (upd H p o)) := fun b u e => by
  unfold offS at e ⊢
  split at e
  · cases e
  · rename_i hb
    rw [if_neg hb]
    have nb : b ≠ p := fun z => hb (by unfold addS; rw [z]; simp)
    rw [upd_ne nb]
    exact e
end
def EvP (te : TE) (σ : L2.St) (F : Hp) (P : Hp → V → Prop) : Prop := ∀ (S : Addr → Bool) (H1 : Hp), Fr S H1 → Same F (offS S H1) → ∀ Q : VK, (∀ v H2, Same H1 H2 → P (offS S H2) v → Q v H2) → te σ H1 Q
abbrev EvD (te : TE) (σ : L2.St) (F : Hp) (d : PyData) : Prop := EvP te σ F fun H v => Rp H v d
def EvA (ta : TA) (σ : L2.St) (F : Hp) (ds : List PyData) : Prop := ∀ (S : Addr → Bool) (H1 : Hp), Fr S H1 → Same F (offS S H1) → ∀ Q : List V → Hp → Prop, (∀ vs H2, Same H1 H2 → RpA (offS S H2) vs ds → Q vs H2) → ta σ H1 Q
def EvB (tt : TT) (σ : L2.St) (F : Hp) (b : Bool) : Prop := ∀ (S : Addr → Bool) (H1 : Hp), Fr S H1 → Same F (offS S H1) → ∀ Q : Bool → Hp → Prop, (∀ H2, Same H1 H2 → Q b H2) → tt σ H1 Q
def EvO (tl : TO) (σ : L2.St) (F : Hp) (o : Option Int) : Prop := ∀ (S : Addr → Bool) (H1 : Hp), Fr S H1 → Same F (offS S H1) → ∀ Q : Option Int → Hp → Prop, (∀ H2, Same H1 H2 → Q o H2) → tl σ H1 Q
section
variable {K : PySem.W.Frag} {σ : L2.St} {F : Hp} {ta tb tc te : TE} {tas : TA} {tt tu : TT} {d e : PyData} {ds es : List PyData} {P P2 : Hp → V → Prop}
theorem EvP.weak (h : EvP te σ F P) (hw : ∀ H v, P H v → P2 H v) : EvP te σ F P2 := fun S H1 f s Q q => h S H1 f s Q fun v H2 s2 p => q v H2 s2 (hw _ _ p)
theorem EvP.at {F2 : Hp} (h : EvP te σ F P) (s : Same F F2) : EvP te σ F2 P := fun S H1 f s1 Q q => h S H1 f (s.trans s1) Q q
theorem EvB.at {F2 : Hp} {b : Bool} (h : EvB tt σ F b) (s : Same F F2) : EvB tt σ F2 b := fun S H1 f s1 Q q => h S H1 f (s.trans s1) Q q
/-! names and constants -/
theorem e_varP {i : Nat} {v : V} (h : σ[i]? = some (some v)) (r : ∀ H, Same F H → P H v) : EvP (tVar i) σ F P := fun S H1 f s Q q => ⟨v, h, q v H1 (Same.refl _) (r _ s)⟩
theorem e_var {i : Nat} {v : V} (h : σ[i]? = some (some v)) (r : Rp F v d) : EvD (tVar i) σ F d := e_varP h fun _ s => r.mono s
theorem e_int {i : Int} : EvD (tC (.int i)) σ F (.int i) := fun S H1 _ _ Q q => q _ H1 (Same.refl _) (.int i)
theorem e_str {x : PySem.Str} : EvD (tC (.str x)) σ F (.str x) := fun S H1 _ _ Q q => q _ H1 (Same.refl _) (.str x)
theorem e_bl {b : Bool} : EvD (tC (.bl b)) σ F (.bool b) := fun S H1 _ _ Q q => q _ H1 (Same.refl _) (.bl b)
theorem e_non : EvD (tC .non) σ F .none := fun S H1 _ _ Q q => q _ H1 (Same.refl _) .non
theorem a_nil : EvA tNil σ F [] := fun S H1 _ _ Q q => q _ H1 (Same.refl _) .nil
theorem a_cons (h : EvD te σ F d) (hs : EvA tas σ F ds) : EvA (tCons te tas) σ F (d :: ds) := fun S H1 f s Q q =>
  h S H1 f s _ fun v H2 s2 r => hs S H2 (f.mono s2) (s.trans (offS_mono s2)) _ fun vs H3 s3 rs => q _ H3 (s2.trans s3) (.cons (r.mono (offS_mono s3)) rs)
theorem e_tup (h : EvA tas σ F ds) (hl : ds.length ≤ 1000 := by first | decide | (simp only [List.length_cons, List.length_nil]; omega)) : EvD (tTup tas) σ F (.tuple ds) := fun S H1 f s Q q =>
  h S H1 f s _ fun vs H2 s2 r => ⟨by rw [r.length]; exact Nat.le_of_lt (small1000 hl), fun p hp => q _ _ (s2.trans (same_new hp)) (.tup (offS_new (f.mono s2) hp) (r.mono (offS_mono (same_new hp))))⟩
theorem e_lst (h : EvA tas σ F ds) (hl : ds.length ≤ 1000 := by first | decide | (simp only [List.length_cons, List.length_nil]; omega)) : EvD (tLst tas) σ F (.list ds) := fun S H1 f s Q q =>
  h S H1 f s _ fun vs H2 s2 r => ⟨by rw [r.length]; exact Nat.le_of_lt (small1000 hl), fun p hp => q _ _ (s2.trans (same_new hp)) (.lst (offS_new (f.mono s2) hp) (r.mono (offS_mono (same_new hp))))⟩
theorem e_dic : EvD tDNewK σ F (.dict []) := fun S H1 f s Q q => fun p hp => q _ _ (same_new hp) (.dic (offS_new f hp))
/-! operators -/
theorem e_op {r : R2} (ha : EvD ta σ F d) (hb : EvD tb σ F e)
    (hr : ∀ (S : Addr → Bool) (H : Hp) (x y : V), Fr S H → Rp (offS S H) x d → Rp (offS S H) y e → ∀ Q : VK, (∀ v H2, Same H H2 → P (offS S H2) v → Q v H2) → r x y H Q) : EvP (tOp r ta tb) σ F P := fun S H1 f s Q q =>
  ha S H1 f s _ fun x H2 s2 r2 => hb S H2 (f.mono s2) (s.trans (offS_mono s2)) _ fun y H3 s3 r3 =>
    hr S H3 x y (f.mono (s2.trans s3)) (r2.mono (offS_mono s3)) r3 Q fun v H4 s4 p => q v H4 ((s2.trans s3).trans s4) p
theorem e_un {r : V → Hp → VK → Prop} (ha : EvD ta σ F d)
    (hr : ∀ (S : Addr → Bool) (H : Hp) (x : V), Fr S H → Rp (offS S H) x d → ∀ Q : VK, (∀ v H2, Same H H2 → P (offS S H2) v → Q v H2) → r x H Q) : EvP (tUn r ta) σ F P := fun S H1 f s Q q =>
  ha S H1 f s _ fun x H2 s2 r2 => hr S H2 x (f.mono s2) r2 Q fun v H4 s4 p => q v H4 (s2.trans s4) p
theorem e_neg {i : Int} (ha : EvD ta σ F (.int i)) : EvD (tUn (rU fun i => .int (-i)) ta) σ F (.int (-i)) := e_un ha fun S H x f r Q q => by
  cases r
  exact ⟨i, rfl, q _ H (Same.refl _) (.int _)⟩
theorem e_add {i j : Int} (ha : EvD ta σ F (.int i)) (hb : EvD tb σ F (.int j)) : EvD (tOp (rI0 fun i j => .int (i + j)) ta tb) σ F (.int (i + j)) := e_op ha hb fun S H x y f rx ry Q q => by
  cases rx; cases ry
  exact ⟨i, j, rfl, rfl, q _ H (Same.refl _) (.int _)⟩
theorem e_sub {i j : Int} (ha : EvD ta σ F (.int i)) (hb : EvD tb σ F (.int j)) : EvD (tOp (rI0 fun i j => .int (i - j)) ta tb) σ F (.int (i - j)) := e_op ha hb fun S H x y f rx ry Q q => by
  cases rx; cases ry
  exact ⟨i, j, rfl, rfl, q _ H (Same.refl _) (.int _)⟩
theorem e_mul {i j : Int} (ha : EvD ta σ F (.int i)) (hb : EvD tb σ F (.int j)) (h : CMul i j) : EvD (tOp (rI CMul fun i j => .int (i * j)) ta tb) σ F (.int (i * j)) := e_op ha hb fun S H x y f rx ry Q q => by
  cases rx; cases ry
  exact ⟨i, j, rfl, rfl, h, q _ H (Same.refl _) (.int _)⟩
theorem e_cmp {g : Int → Int → Bool} {i j : Int} (ha : EvD ta σ F (.int i)) (hb : EvD tb σ F (.int j)) : EvD (tOp (rI0 fun i j => .bl (g i j)) ta tb) σ F (.bool (g i j)) := e_op ha hb fun S H x y f rx ry Q q => by
  cases rx; cases ry
  exact ⟨i, j, rfl, rfl, q _ H (Same.refl _) (.bl _)⟩
theorem e_eqI {i j : Int} (ha : EvD ta σ F (.int i)) (hb : EvD tb σ F (.int j)) : EvD (tOp rEq ta tb) σ F (.bool (decide (i = j))) := e_op ha hb fun S H x y f rx ry Q q => by
  cases rx; cases ry
  refine ⟨rfl, q _ H (Same.refl _) ?_⟩
  have e : decide (V.int i = V.int j) = decide (i = j) := by simp
  rw [e]
  exact .bl _
theorem e_neI {i j : Int} (ha : EvD ta σ F (.int i)) (hb : EvD tb σ F (.int j)) : EvD (tOp rNe ta tb) σ F (.bool (!decide (i = j))) := e_op ha hb fun S H x y f rx ry Q q => by
  cases rx; cases ry
  refine ⟨rfl, q _ H (Same.refl _) ?_⟩
  have e : decide (V.int i = V.int j) = decide (i = j) := by simp
  rw [e]
  exact .bl _
theorem e_eqS {i j : PySem.Str} (ha : EvD ta σ F (.str i)) (hb : EvD tb σ F (.str j)) : EvD (tOp rEq ta tb) σ F (.bool (decide (i = j))) := e_op ha hb fun S H x y f rx ry Q q => by
  cases rx; cases ry
  refine ⟨rfl, q _ H (Same.refl _) ?_⟩
  have e : decide (V.str i = V.str j) = decide (i = j) := by simp
  rw [e]
  exact .bl _
theorem e_neS {i j : PySem.Str} (ha : EvD ta σ F (.str i)) (hb : EvD tb σ F (.str j)) : EvD (tOp rNe ta tb) σ F (.bool (!decide (i = j))) := e_op ha hb fun S H x y f rx ry Q q => by
  cases rx; cases ry
  refine ⟨rfl, q _ H (Same.refl _) ?_⟩
  have e : decide (V.str i = V.str j) = decide (i = j) := by simp
  rw [e]
  exact .bl _
theorem e_addS {x y : PySem.Str} (ha : EvD ta σ F (.str x)) (hb : EvD tb σ F (.str y)) (hl : x.length + y.length ≤ 1000) :
    EvD (tOp (fun x y H Q => ∃ i j, x = .str i ∧ y = .str j ∧ i.length + j.length ≤ sizeLine ∧ Q (.str (i ++ j)) H) ta tb) σ F (.str (x ++ y)) := e_op ha hb fun S H u v f rx ry Q q => by
  cases rx; cases ry
  exact ⟨x, y, rfl, rfl, Nat.le_of_lt (small1000 hl), q _ H (Same.refl _) (.str _)⟩
theorem rp_lst {S : Addr → Bool} {H : Hp} {v : V} (r : Rp (offS S H) v (.list ds)) : ∃ a xs, v = .ref a ∧ H a = some (.lst xs) ∧ RpA (offS S H) xs ds := by
  cases r with
  | lst h q => exact ⟨_, _, rfl, offS_same _ _ h, q⟩
theorem rp_tup {S : Addr → Bool} {H : Hp} {v : V} (r : Rp (offS S H) v (.tuple ds)) : ∃ a xs, v = .ref a ∧ H a = some (.tup xs) ∧ RpA (offS S H) xs ds := by
  cases r with
  | tup h q => exact ⟨_, _, rfl, offS_same _ _ h, q⟩
theorem e_cat (ha : EvD ta σ F (.list ds)) (hb : EvD tb σ F (.list es)) (hl : ds.length + es.length ≤ 1000) : EvD (tOp rCat ta tb) σ F (.list (ds ++ es)) := e_op ha hb fun S H x y f rx ry Q q => by
  obtain ⟨a, xs, rfl, h1, r1⟩ := rp_lst rx
  obtain ⟨b, ys, rfl, h2, r2⟩ := rp_lst ry
  have l1 := r1.length
  have l2 := r2.length
  exact ⟨a, b, xs, ys, rfl, rfl, h1, h2, Nat.le_of_lt (small1000 (by omega)), fun p hp => q _ _ (same_new hp) (.lst (offS_new f hp) ((r1.append r2).mono (offS_mono (same_new hp))))⟩
theorem e_catT (ha : EvD ta σ F (.tuple ds)) (hb : EvD tb σ F (.tuple es)) (hl : ds.length + es.length ≤ 1000) : EvD (tOp (rCatA K) ta tb) σ F (.tuple (ds ++ es)) := e_op ha hb fun S H x y f rx ry Q q => by
  obtain ⟨a, xs, rfl, h1, r1⟩ := rp_tup rx
  obtain ⟨b, ys, rfl, h2, r2⟩ := rp_tup ry
  have l1 := r1.length
  have l2 := r2.length
  refine ⟨a, b, xs, ys, rfl, rfl, .inl (.inl h1), .inl (.inl h2), Nat.le_of_lt (small1000 (by omega)), fun z => ?_, fun z1 z2 => ?_, fun _ _ p hp => q _ _ (same_new hp) (.tup (offS_new f hp) ((r1.append r2).mono (offS_mono (same_new hp))))⟩
  · subst z
    have : ds = [] := List.eq_nil_of_length_eq_zero (by simpa using l1.symm)
    subst this
    exact q _ H (Same.refl _) ry
  · subst z2
    have : es = [] := List.eq_nil_of_length_eq_zero (by simpa using l2.symm)
    subst this
    rw [List.append_nil] at q
    exact q _ H (Same.refl _) rx
theorem rpa_rep {H : Hp} {xs : List V} (r : RpA H xs ds) : ∀ n : Nat, RpA H (List.replicate n xs).flatten (List.replicate n ds).flatten
  | 0 => .nil
  | n + 1 => by
    rw [List.replicate_succ, List.replicate_succ, List.flatten_cons, List.flatten_cons]
    exact r.append (rpa_rep r n)
theorem e_rep {k : Nat} (ha : EvD ta σ F (.list ds)) (hb : EvD tb σ F (.int (k : Int))) (hl : ds.length * k ≤ 1000) (hk : k < 2 ^ 62) : EvD (tOp rRep ta tb) σ F (.list (List.replicate k ds).flatten) := e_op ha hb fun S H x y f rx ry Q q => by
  obtain ⟨a, xs, rfl, h1, r1⟩ := rp_lst rx
  cases ry
  have l1 := r1.length
  refine ⟨a, _, xs, rfl, rfl, h1, by omega, by omega, ?_, fun p hp => q _ _ (same_new hp) (.lst (offS_new f hp) ((rpa_rep r1 k).mono (offS_mono (same_new hp))))⟩
  rw [l1]
  exact Nat.le_of_lt (small1000 hl)
theorem atI_of {xs : List V} {i : Int} {n : Nat} {x : V} (h : i = (n : Int)) (hx : xs[n]? = some x) : atI xs i = some x := L2.at_of h hx
theorem e_ixL {i : Int} {n : Nat} (ha : EvD ta σ F (.list ds)) (hb : EvD tb σ F (.int i)) (hi : i = (n : Int)) (hd : ds[n]? = some d) : EvD (tOp (rIxL K) ta tb) σ F d := e_op ha hb fun S H x y f rx ry Q q => by
  obtain ⟨a, xs, rfl, h1, r1⟩ := rp_lst rx
  cases ry
  obtain ⟨v, hv, rv⟩ := r1.at hd
  exact ⟨a, xs, i, v, rfl, rfl, .inl (.inl h1), atI_of hi hv, q _ H (Same.refl _) rv⟩
theorem e_ixT {i : Int} {n : Nat} (ha : EvD ta σ F (.tuple ds)) (hb : EvD tb σ F (.int i)) (hi : i = (n : Int)) (hd : ds[n]? = some d) : EvD (tOp (rIxT K) ta tb) σ F d := e_op ha hb fun S H x y f rx ry Q q => by
  obtain ⟨a, xs, rfl, h1, r1⟩ := rp_tup rx
  cases ry
  obtain ⟨v, hv, rv⟩ := r1.at hd
  exact ⟨a, xs, i, v, rfl, rfl, .inl (.inl h1), atI_of hi hv, q _ H (Same.refl _) rv⟩
/-! slices -/
theorem o_none : EvO tNoPart σ F none := fun S H1 f s Q q => q H1 (Same.refl _)
theorem o_some {i : Int} (h : EvD te σ F (.int i)) : EvO (tPart te) σ F (some i) := fun S H1 f s Q q => h S H1 f s _ fun v H2 s2 r => by
  cases r
  exact ⟨i, rfl, q H2 s2⟩
theorem e_sl {r : V → Option Int → Option Int → Hp → VK → Prop} {tl th : TO} {lo hi : Option Int} (ha : EvD ta σ F d) (hl : EvO tl σ F lo) (hh : EvO th σ F hi)
    (hr : ∀ (S : Addr → Bool) (H : Hp) (x : V), Fr S H → Rp (offS S H) x d → ∀ Q : VK, (∀ v H2, Same H H2 → P (offS S H2) v → Q v H2) → r x lo hi H Q) : EvP (tSl r ta tl th) σ F P := fun S H1 f s Q q =>
  ha S H1 f s _ fun x H2 s2 r2 => hl S H2 (f.mono s2) (s.trans (offS_mono s2)) _ fun H3 s3 => hh S H3 (f.mono (s2.trans s3)) (s.trans (offS_mono (s2.trans s3))) _ fun H4 s4 =>
    hr S H4 x (f.mono ((s2.trans s3).trans s4)) (r2.mono (offS_mono (s3.trans s4))) Q fun v H5 s5 p => q v H5 (((s2.trans s3).trans s4).trans s5) p
def cutD (ds : List PyData) (lo hi : Option Int) : List PyData := (ds.drop (HT.sIx ds.length 0 lo)).take (HT.sIx ds.length ds.length hi - HT.sIx ds.length 0 lo)
theorem rpa_cut {H : Hp} {xs : List V} {lo hi : Option Int} (r : RpA H xs ds) : RpA H (cutV xs lo hi) (cutD ds lo hi) := by
  unfold cutV cutD
  rw [r.length]
  exact (r.drop _).take _
theorem e_slL {tl th : TO} {lo hi : Option Int} (ha : EvD ta σ F (.list ds)) (hl : EvO tl σ F lo) (hh : EvO th σ F hi) : EvD (tSl (rSlL K) ta tl th) σ F (.list (cutD ds lo hi)) := e_sl ha hl hh fun S H x f rx Q q => by
  obtain ⟨a, xs, rfl, h1, r1⟩ := rp_lst rx
  exact ⟨a, xs, rfl, .inl (.inl h1), fun p hp => q _ _ (same_new hp) (.lst (offS_new f hp) ((rpa_cut r1).mono (offS_mono (same_new hp))))⟩
theorem e_slT {tl th : TO} {lo hi : Option Int} (ha : EvD ta σ F (.tuple ds)) (hl : EvO tl σ F lo) (hh : EvO th σ F hi) : EvD (tSl (rSlA K) ta tl th) σ F (.tuple (cutD ds lo hi)) := e_sl ha hl hh fun S H x f rx Q q => by
  obtain ⟨a, xs, rfl, h1, r1⟩ := rp_tup rx
  refine ⟨a, xs, rfl, .inl (.inl h1), fun z => ?_, fun _ p hp => q _ _ (same_new hp) (.tup (offS_new f hp) ((rpa_cut r1).mono (offS_mono (same_new hp))))⟩
  have e : cutD ds lo hi = ds := by
    unfold cutD
    rw [r1.length] at z
    rw [z.1, z.2]
    simp
  rw [e] at q
  exact q _ H (Same.refl _) rx
/-! bools, tests -/
theorem b_val {b : Bool} (h : EvD te σ F (.bool b)) : EvB (tB te) σ F b := fun S H1 f s Q q => h S H1 f s _ fun v H2 s2 r => by
  cases r
  exact ⟨b, rfl, q H2 s2⟩
theorem b_test {b : Bool} (h : EvD te σ F (.bool b)) : EvB (tTest te) σ F b := fun S H1 f s Q q => h S H1 f s _ fun v H2 s2 r => by
  cases r
  exact ⟨b, rfl, q H2 s2⟩
theorem b_yes : EvB tYes σ F true := fun S H1 f s Q q => q H1 (Same.refl _)
theorem b_not {b : Bool} (h : EvB tt σ F b) : EvB (tNot tt) σ F (!b) := fun S H1 f s Q q => h S H1 f s _ fun H2 s2 => q H2 s2
theorem b_and {a b : Bool} (h : EvB tt σ F a) (h2 : a = true → EvB tu σ F b) : EvB (tAnd tt tu) σ F (a && b) := fun S H1 f s Q q => h S H1 f s _ fun H2 s2 => by
  cases a with
  | true => exact h2 rfl S H2 (f.mono s2) (s.trans (offS_mono s2)) _ fun H3 s3 => q H3 (s2.trans s3)
  | false => exact q H2 s2
theorem b_or {a b : Bool} (h : EvB tt σ F a) (h2 : a = false → EvB tu σ F b) : EvB (tOr tt tu) σ F (a || b) := fun S H1 f s Q q => h S H1 f s _ fun H2 s2 => by
  cases a with
  | false => exact h2 rfl S H2 (f.mono s2) (s.trans (offS_mono s2)) _ fun H3 s3 => q H3 (s2.trans s3)
  | true => exact q H2 s2
theorem e_and {a b : Bool} (h : EvD ta σ F (.bool a)) (h2 : a = true → EvD tb σ F (.bool b)) : EvD (tAndV ta tb) σ F (.bool (a && b)) := fun S H1 f s Q q => h S H1 f s _ fun v H2 s2 r => by
  cases r
  refine ⟨a, rfl, ?_⟩
  cases a with
  | true => exact h2 rfl S H2 (f.mono s2) (s.trans (offS_mono s2)) _ fun v H3 s3 r3 => q v H3 (s2.trans s3) r3
  | false => exact q _ H2 s2 (.bl _)
theorem e_or {a b : Bool} (h : EvD ta σ F (.bool a)) (h2 : a = false → EvD tb σ F (.bool b)) : EvD (tOrV ta tb) σ F (.bool (a || b)) := fun S H1 f s Q q => h S H1 f s _ fun v H2 s2 r => by
  cases r
  refine ⟨a, rfl, ?_⟩
  cases a with
  | false => exact h2 rfl S H2 (f.mono s2) (s.trans (offS_mono s2)) _ fun v H3 s3 r3 => q v H3 (s2.trans s3) r3
  | true => exact q _ H2 s2 (.bl _)
theorem e_not {a : Bool} (h : EvD ta σ F (.bool a)) : EvD (tNotV ta) σ F (.bool (!a)) := fun S H1 f s Q q => h S H1 f s _ fun v H2 s2 r => by
  cases r
  exact ⟨a, rfl, q _ H2 s2 (.bl _)⟩
theorem e_ifP {b : Bool} (h : EvB tt σ F b) (h1 : b = true → EvP ta σ F P) (h2 : b = false → EvP tb σ F P) : EvP (tIf tt ta tb) σ F P := fun S H1 f s Q q => h S H1 f s _ fun H2 s2 => by
  cases b with
  | true => exact h1 rfl S H2 (f.mono s2) (s.trans (offS_mono s2)) _ fun v H3 s3 r3 => q v H3 (s2.trans s3) r3
  | false => exact h2 rfl S H2 (f.mono s2) (s.trans (offS_mono s2)) _ fun v H3 s3 r3 => q v H3 (s2.trans s3) r3
/-! membership -/
theorem ints_flat (ns : List Int) : (ns.map V.int).all flatV = true := by
  induction ns with
  | nil => rfl
  | cons n ns ih => rw [List.map_cons, List.all_cons, ih]; rfl
theorem inV_ints (n : Int) (ns : List Int) : inV (.int n) (ns.map V.int) = ns.contains n := by
  unfold inV
  induction ns with
  | nil => rfl
  | cons m ns ih =>
    rw [List.map_cons, List.any_cons, ih, List.contains_cons]
    have e : eqV (.int m) (.int n) = (n == m) := by
      have e1 : eqV (.int m) (.int n) = (m == n) := by simp [eqV]
      rw [e1]
      exact Bool.eq_iff_iff.mpr ⟨fun z => beq_iff_eq.mpr (beq_iff_eq.mp z).symm, fun z => beq_iff_eq.mpr (beq_iff_eq.mp z).symm⟩
    rw [e]
theorem ints_rp {H : Hp} : ∀ {xs : List V} {ns : List Int}, RpA H xs (ns.map PyData.int) → xs = ns.map V.int
  | _, [], r => by cases r; rfl
  | _, n :: ns, r => by
    cases r with
    | cons h q =>
      cases h
      rw [ints_rp q]
      rfl
theorem rp_ints {H : Hp} : ∀ ns : List Int, RpA H (ns.map V.int) (ns.map PyData.int)
  | [] => .nil
  | n :: ns => .cons (.int n) (rp_ints ns)
theorem e_inT {n : Int} {ns : List Int} (ha : EvD ta σ F (.int n)) (hb : EvD tb σ F (.tuple (ns.map .int))) : EvD (tOp (rIn K false) ta tb) σ F (.bool (ns.contains n)) := e_op ha hb fun S H x y f rx ry Q q => by
  cases rx
  obtain ⟨a, xs, rfl, h1, r1⟩ := rp_tup ry
  rw [ints_rp r1] at h1
  refine ⟨a, _, rfl, .inr (.inl (.inl h1)), rfl, ints_flat ns, q _ H (Same.refl _) ?_⟩
  show Rp (offS S H) (.bl (inV (.int n) (ns.map V.int))) _
  rw [inV_ints]
  exact .bl _
theorem e_inL {n : Int} {ns : List Int} (ha : EvD ta σ F (.int n)) (hb : EvD tb σ F (.list (ns.map .int))) : EvD (tOp (rIn K false) ta tb) σ F (.bool (ns.contains n)) := e_op ha hb fun S H x y f rx ry Q q => by
  cases rx
  obtain ⟨a, xs, rfl, h1, r1⟩ := rp_lst ry
  rw [ints_rp r1] at h1
  refine ⟨a, _, rfl, .inl (.inl (.inl h1)), rfl, ints_flat ns, q _ H (Same.refl _) ?_⟩
  show Rp (offS S H) (.bl (inV (.int n) (ns.map V.int))) _
  rw [inV_ints]
  exact .bl _
/-! calls of built-ins and of defs -/
theorem e_cb {r : List V → Hp → VK → Prop} (h : EvA tas σ F ds)
    (hr : ∀ (S : Addr → Bool) (H : Hp) (vs : List V), Fr S H → RpA (offS S H) vs ds → ∀ Q : VK, (∀ v H2, Same H H2 → P (offS S H2) v → Q v H2) → r vs H Q) : EvP (tCB r tas) σ F P := fun S H1 f s Q q =>
  h S H1 f s _ fun vs H2 s2 r2 => hr S H2 vs (f.mono s2) r2 Q fun v H4 s4 p => q v H4 (s2.trans s4) p
theorem rpa1 {H : Hp} {vs : List V} (r : RpA H vs [d]) : ∃ v, vs = [v] ∧ Rp H v d := by
  cases r with
  | cons h q =>
    cases q
    exact ⟨_, rfl, h⟩
theorem rpa2 {H : Hp} {vs : List V} {d1 d2 : PyData} (r : RpA H vs [d1, d2]) : ∃ v1 v2, vs = [v1, v2] ∧ Rp H v1 d1 ∧ Rp H v2 d2 := by
  cases r with
  | cons h q =>
    obtain ⟨v, rfl, h2⟩ := rpa1 q
    exact ⟨_, _, rfl, h, h2⟩
theorem rpa3 {H : Hp} {vs : List V} {d1 d2 d3 : PyData} (r : RpA H vs [d1, d2, d3]) : ∃ v1 v2 v3, vs = [v1, v2, v3] ∧ Rp H v1 d1 ∧ Rp H v2 d2 ∧ Rp H v3 d3 := by
  cases r with
  | cons h q =>
    obtain ⟨v, w, rfl, h2, h3⟩ := rpa2 q
    exact ⟨_, _, _, rfl, h, h2, h3⟩
theorem rpa4 {H : Hp} {vs : List V} {d1 d2 d3 d4 : PyData} (r : RpA H vs [d1, d2, d3, d4]) : ∃ v1 v2 v3 v4, vs = [v1, v2, v3, v4] ∧ Rp H v1 d1 ∧ Rp H v2 d2 ∧ Rp H v3 d3 ∧ Rp H v4 d4 := by
  cases r with
  | cons h q =>
    obtain ⟨v, w, u, rfl, h2, h3, h4⟩ := rpa3 q
    exact ⟨_, _, _, _, rfl, h, h2, h3, h4⟩
def rLenQ (K : PySem.W.Frag) : List V → Hp → VK → Prop := fun xs H Q => ∃ p ys, xs = [.ref p] ∧ (SqL K H p ys ∨ SqT K H p ys) ∧ Q (.int ys.length) H
theorem call_lenQ {X : Cx} : CallR X (.builtin "len") (rLenQ X.K) := call_len_seq
def rTupQ (K : PySem.W.Frag) : List V → Hp → VK → Prop := fun xs H Q => ∃ p ys, xs = [.ref p] ∧ ((SqL K H p ys ∧ ∀ l, H l = none → Q (.ref l) (upd H l (.tup ys))) ∨ (SqT K H p ys ∧ Q (.ref p) H))
theorem call_tupQ {X : Cx} : CallR X (.type "tuple") (rTupQ X.K) := call_tuple_of
def rLstQ (K : PySem.W.Frag) : List V → Hp → VK → Prop := fun xs H Q => ∃ p ys, xs = [.ref p] ∧ (SqL K H p ys ∨ SqT K H p ys) ∧ ∀ l, H l = none → Q (.ref l) (upd H l (.lst ys))
theorem call_lstQ {X : Cx} : CallR X (.type "list") (rLstQ X.K) := call_list_of
def rJoinQ (K : PySem.W.Frag) : V → List V → Hp → VK → Prop := fun x xs H Q => ∃ a p, ∃ ys : List PySem.Str, x = .str a ∧ xs = [.ref p] ∧ (SqL K H p (ys.map V.str) ∨ SqT K H p (ys.map V.str)) ∧ (ys.map (·.length)).sum + ys.length * a.length ≤ 16777216 ∧ Q (.str (Txt.join a ys)) H
theorem e_lenL (h : EvD ta σ F (.list ds)) : EvD (tCB (rLenQ K) (tCons ta tNil)) σ F (.int ds.length) := e_cb (a_cons h a_nil) fun S H vs f r Q q => by
  obtain ⟨v, rfl, r1⟩ := rpa1 r
  obtain ⟨a, xs, rfl, h1, r2⟩ := rp_lst r1
  refine ⟨a, xs, rfl, .inl (.inl (.inl h1)), q _ H (Same.refl _) ?_⟩
  rw [r2.length]
  exact .int _
theorem e_lenT (h : EvD ta σ F (.tuple ds)) : EvD (tCB (rLenQ K) (tCons ta tNil)) σ F (.int ds.length) := e_cb (a_cons h a_nil) fun S H vs f r Q q => by
  obtain ⟨v, rfl, r1⟩ := rpa1 r
  obtain ⟨a, xs, rfl, h1, r2⟩ := rp_tup r1
  refine ⟨a, xs, rfl, .inr (.inl (.inl h1)), q _ H (Same.refl _) ?_⟩
  rw [r2.length]
  exact .int _
theorem bools_rp {H : Hp} : ∀ {xs : List V} {bs : List Bool}, RpA H xs (bs.map PyData.bool) → xs = bs.map V.bl
  | _, [], r => by cases r; rfl
  | _, n :: ns, r => by
    cases r with
    | cons h q =>
      cases h
      rw [bools_rp q]
      rfl
theorem strs_rp {H : Hp} : ∀ {xs : List V} {bs : List PySem.Str}, RpA H xs (bs.map PyData.str) → xs = bs.map V.str
  | _, [], r => by cases r; rfl
  | _, n :: ns, r => by
    cases r with
    | cons h q =>
      cases h
      rw [strs_rp q]
      rfl
def truD : PyData → Bool
  | .bool b => b
  | _ => false
def intD : PyData → Int
  | .int i => i
  | _ => 0
def strD : PyData → PySem.Str
  | .str x => x
  | _ => PySem.Str.ofString ""
theorem of_bools : ∀ {ds : List PyData}, (∀ d ∈ ds, ∃ b, d = .bool b) → ds = (ds.map truD).map .bool
  | [], _ => rfl
  | d :: ds, h => by
    obtain ⟨b, rfl⟩ := h d (.head _)
    rw [List.map_cons, List.map_cons, ← of_bools fun e he => h e (.tail _ he)]
    rfl
theorem of_ints : ∀ {ds : List PyData}, (∀ d ∈ ds, ∃ i, d = .int i) → ds = (ds.map intD).map .int
  | [], _ => rfl
  | d :: ds, h => by
    obtain ⟨b, rfl⟩ := h d (.head _)
    rw [List.map_cons, List.map_cons, ← of_ints fun e he => h e (.tail _ he)]
    rfl
theorem of_strs : ∀ {ds : List PyData}, (∀ d ∈ ds, ∃ x, d = .str x) → ds = (ds.map strD).map .str
  | [], _ => rfl
  | d :: ds, h => by
    obtain ⟨b, rfl⟩ := h d (.head _)
    rw [List.map_cons, List.map_cons, ← of_strs fun e he => h e (.tail _ he)]
    rfl
theorem eqD (h : EvD te σ F d) (he : d = e) : EvD te σ F e := he ▸ h
theorem e_all (h : EvD ta σ F (.list ds)) (hb : ∀ d ∈ ds, ∃ b, d = .bool b) : EvD (tCB (rAll K) (tCons ta tNil)) σ F (.bool (ds.all truD)) := e_cb (a_cons h a_nil) fun S H vs f r Q q => by
  obtain ⟨v, rfl, r1⟩ := rpa1 r
  obtain ⟨a, xs, rfl, h1, r2⟩ := rp_lst r1
  rw [of_bools hb] at r2
  rw [bools_rp r2] at h1
  refine ⟨a, _, rfl, .inl (.inl h1), q _ H (Same.refl _) ?_⟩
  rw [List.all_map]
  exact .bl _
theorem e_any (h : EvD ta σ F (.list ds)) (hb : ∀ d ∈ ds, ∃ b, d = .bool b) : EvD (tCB (rAny K) (tCons ta tNil)) σ F (.bool (ds.any truD)) := e_cb (a_cons h a_nil) fun S H vs f r Q q => by
  obtain ⟨v, rfl, r1⟩ := rpa1 r
  obtain ⟨a, xs, rfl, h1, r2⟩ := rp_lst r1
  rw [of_bools hb] at r2
  rw [bools_rp r2] at h1
  refine ⟨a, _, rfl, .inl (.inl h1), q _ H (Same.refl _) ?_⟩
  rw [List.any_map]
  exact .bl _
theorem e_sum (h : EvD ta σ F (.list ds)) (hb : ∀ d ∈ ds, ∃ i, d = .int i) : EvD (tCB (rSum K) (tCons ta tNil)) σ F (.int (ds.map intD).sum) := e_cb (a_cons h a_nil) fun S H vs f r Q q => by
  obtain ⟨v, rfl, r1⟩ := rpa1 r
  obtain ⟨a, xs, rfl, h1, r2⟩ := rp_lst r1
  rw [of_ints hb] at r2
  rw [ints_rp r2] at h1
  exact ⟨a, _, rfl, .inl (.inl h1), q _ H (Same.refl _) (.int _)⟩
theorem e_inD {n : Int} (ha : EvD ta σ F (.int n)) (hb : EvD tb σ F (.tuple ds)) (hi : ∀ d ∈ ds, ∃ i, d = .int i) : EvD (tOp (rIn K false) ta tb) σ F (.bool ((ds.map intD).contains n)) := e_inT ha (eqD hb (by rw [← of_ints hi]))
theorem e_inDL {n : Int} (ha : EvD ta σ F (.int n)) (hb : EvD tb σ F (.list ds)) (hi : ∀ d ∈ ds, ∃ i, d = .int i) : EvD (tOp (rIn K false) ta tb) σ F (.bool ((ds.map intD).contains n)) := e_inL ha (eqD hb (by rw [← of_ints hi]))
theorem e_tupOf (h : EvD ta σ F (.list ds)) : EvD (tCB (rTupQ K) (tCons ta tNil)) σ F (.tuple ds) := e_cb (a_cons h a_nil) fun S H vs f r Q q => by
  obtain ⟨v, rfl, r1⟩ := rpa1 r
  obtain ⟨a, xs, rfl, h1, r2⟩ := rp_lst r1
  exact ⟨a, xs, rfl, .inl ⟨.inl (.inl h1), fun p hp => q _ _ (same_new hp) (.tup (offS_new f hp) (r2.mono (offS_mono (same_new hp))))⟩⟩
theorem e_strI {i : Int} (h : EvD ta σ F (.int i)) (hl : i.natAbs.log2 < 1920) : EvD (tCB (fun xs H Q => ∃ i, xs = [.int i] ∧ i.natAbs.log2 < 1920 ∧ Q (.str (toString i)) H) (tCons ta tNil)) σ F (.str (PySem.Str.ofString (toString i))) := e_cb (a_cons h a_nil) fun S H vs f r Q q => by
  obtain ⟨v, rfl, r1⟩ := rpa1 r
  cases r1
  exact ⟨i, rfl, hl, q _ H (Same.refl _) (.str _)⟩
/-- the promise of a def over data: R its arguments and its answer -/
def spR (R : List PyData → PyData → Prop) : Sp := fun vs H Q _ => ∃ (S : Addr → Bool) (ds : List PyData) (d : PyData), Fr S H ∧ RpA (offS S H) vs ds ∧ R ds d ∧ ∀ v H', Same H H' → Rp (offS S H') v d → Q v H'
theorem spR_len {R : List PyData → PyData → Prop} {n : Nat} (h : ∀ ds d, R ds d → ds.length = n) : ∀ vs H Q E, spR R vs H Q E → vs.length = n := fun vs H Q E ⟨S, ds, d, f, r, hr, _⟩ => by
  rw [r.length]
  exact h ds d hr
theorem e_call {R : List PyData → PyData → Prop} {E : XK} (h : EvA tas σ F ds) (hR : R ds d) : EvD (tCall (spR R) [] E tas) σ F d := fun S H1 f s Q q =>
  h S H1 f s _ fun vs H2 s2 r2 => ⟨S, ds, d, f.mono s2, by rw [List.append_nil]; exact r2, hR, fun v H3 s3 r3 => q v H3 (s2.trans s3) r3⟩
/-! comprehensions -/
def GtP (g : TG) (x : V) (σ : L2.St) (F : Hp) (C : L2.St → Prop) : Prop := ∀ (S : Addr → Bool) (H1 : Hp), Fr S H1 → Same F (offS S H1) → ∀ Q : L2.St → Hp → Prop, (∀ σ2, C σ2 → Q σ2 H1) → g x σ H1 Q
theorem g_name {i : Nat} {x : V} {C : L2.St → Prop} (h : C (σ.set i (some x))) : GtP (gName i) x σ F C := fun S H1 f s Q q => q _ h
theorem g_tup2 {i j : Nat} {x : V} {C : L2.St → Prop} {d1 d2 : PyData} (r : Rp F x (.tuple [d1, d2])) (h : ∀ v1 v2, Rp F v1 d1 → Rp F v2 d2 → C ((σ.set i (some v1)).set j (some v2))) :
    GtP (gTup K 2 (gCons (gName i) (gCons (gName j) gNil))) x σ F C := fun S H1 f s Q q => by
  cases r with
  | tup h1 r1 =>
    obtain ⟨v1, v2, rfl, r1, r2⟩ := rpa2 r1
    exact ⟨_, _, rfl, .inl (.inl (offS_same _ _ (s _ _ h1))), rfl, _, _, rfl, _, _, rfl, rfl, q _ (h v1 v2 r1 r2)⟩
theorem g_tup3 {i j k : Nat} {x : V} {C : L2.St → Prop} {d1 d2 d3 : PyData} (r : Rp F x (.tuple [d1, d2, d3])) (h : ∀ v1 v2 v3, Rp F v1 d1 → Rp F v2 d2 → Rp F v3 d3 → C (((σ.set i (some v1)).set j (some v2)).set k (some v3))) :
    GtP (gTup K 3 (gCons (gName i) (gCons (gName j) (gCons (gName k) gNil)))) x σ F C := fun S H1 f s Q q => by
  cases r with
  | tup h1 r1 =>
    obtain ⟨v1, v2, v3, rfl, r1, r2, r3⟩ := rpa3 r1
    exact ⟨_, _, rfl, .inl (.inl (offS_same _ _ (s _ _ h1))), rfl, _, _, rfl, _, _, rfl, _, _, rfl, rfl, q _ (h v1 v2 v3 r1 r2 r3)⟩
theorem g_tup4 {i j k l : Nat} {x : V} {C : L2.St → Prop} {d1 d2 d3 d4 : PyData} (r : Rp F x (.tuple [d1, d2, d3, d4])) (h : ∀ v1 v2 v3 v4, Rp F v1 d1 → Rp F v2 d2 → Rp F v3 d3 → Rp F v4 d4 → C ((((σ.set i (some v1)).set j (some v2)).set k (some v3)).set l (some v4))) :
    GtP (gTup K 4 (gCons (gName i) (gCons (gName j) (gCons (gName k) (gCons (gName l) gNil))))) x σ F C := fun S H1 f s Q q => by
  cases r with
  | tup h1 r1 =>
    obtain ⟨v1, v2, v3, v4, rfl, r1, r2, r3, r4⟩ := rpa4 r1
    exact ⟨_, _, rfl, .inl (.inl (offS_same _ _ (s _ _ h1))), rfl, _, _, rfl, _, _, rfl, _, _, rfl, _, _, rfl, rfl, q _ (h v1 v2 v3 v4 r1 r2 r3 r4)⟩
/-- a turn of a comprehension over what reads as d -/
abbrev Turn (g : TG) (tt : TT) (te : TE) (σ : L2.St) (vs : List Nat) (F : Hp) (d : PyData) (b : Bool) (e : PyData) : Prop :=
  ∀ x F1, Same F F1 → Rp F1 x d → GtP g x (wipe σ vs) F1 fun σ2 => wipe σ2 vs = wipe σ vs ∧ EvB tt σ2 F1 b ∧ (b = true → EvD te σ2 F1 e)
section
variable {α : Type} {enc : α → PyData} {as : List α} {b : α → Bool} {ev : α → PyData} {g : TG} {vs : List Nat}
abbrev LInv (S : Addr → Bool) (H0 : Hp) (D : Addr) (as : List α) (b : α → Bool) (ev : α → PyData) (i : Nat) (H' : Hp) : Prop :=
  Same H0 H' ∧ ∃ acc, H' D = some (.lst acc) ∧ RpA (offS (addS S D) H') acc (((as.take i).filter b).map ev)
theorem l_turn {S : Addr → Bool} {H0 : Hp} {D : Addr} {a : α} {i : Nat} {H' : Hp} {x : V} (fr : Fr S H0) (sF : Same F (offS S H0)) (hD : H0 D = none) (hz : as.length ≤ 1000) (hi : as[i]? = some a) (rx : Rp (offS S H0) x (enc a))
    (ht : Turn g tt te σ vs F (enc a) (b a) (ev a)) (inv : LInv S H0 D as b ev i H') :
    g x (wipe σ vs) H' fun σ2 H2 => wipe σ2 vs = wipe σ vs ∧ tt σ2 H2 fun c H3 => if c = true then te σ2 H3 fun y H4 => ∃ acc, H4 D = some (.lst acc) ∧ acc.length < sizeLine ∧
      LInv S H0 D as b ev (i + 1) (upd H4 D (.lst (acc ++ [y]))) else LInv S H0 D as b ev (i + 1) H3 := by
  obtain ⟨s, acc, hacc, ra⟩ := inv
  have f1 : Fr (addS S D) H' := (fr.mono s).add hacc trivial
  have hDo : offS S H0 D = none := by
    unfold offS
    split
    · rfl
    · exact hD
  have s1 : Same (offS S H0) (offS (addS S D) H') := addS_new hDo (offS_mono s)
  have e1 : as.take (i + 1) = as.take i ++ [a] := take_more hi
  refine ht x (offS (addS S D) H') (sF.trans s1) (rx.mono s1) (addS S D) H' f1 (Same.refl _) _ fun σ2 ⟨w, hb, he⟩ => ⟨w, hb (addS S D) H' f1 (Same.refl _) _ fun H3 s3 => ?_⟩
  cases hb2 : b a with
  | false =>
    refine ⟨s.trans s3, acc, s3 _ _ hacc, ?_⟩
    rw [e1, List.filter_append, List.map_append]
    have : [a].filter b = [] := by simp [hb2]
    rw [this, List.map_nil, List.append_nil]
    exact ra.mono (offS_mono s3)
  | true =>
    refine he hb2 (addS S D) H3 (f1.mono s3) (offS_mono s3) _ fun y H4 s4 r4 => ⟨acc, (s3.trans s4) _ _ hacc, ?_, same_mut (s.trans (s3.trans s4)) hD, _, upd_same, ?_⟩
    · have l1 := ra.length
      rw [List.length_map] at l1
      have l2 := List.length_filter_le b (as.take i)
      have l3 : (as.take i).length ≤ 1000 := by rw [List.length_take]; omega
      exact small1000 (by omega)
    · rw [e1, List.filter_append, List.map_append]
      have : [a].filter b = [a] := by simp [hb2]
      rw [this]
      exact ((ra.mono (offS_mono (s3.trans s4))).mono addS_upd).append (.cons (r4.mono addS_upd) .nil)
theorem l_fin {S : Addr → Bool} {H0 : Hp} {D : Addr} {H' : Hp} {n : Nat} (fr : Fr S H0) (hD : H0 D = none) (hn : n = as.length) (inv : LInv S H0 D as b ev n H') : Rp (offS S H') (.ref D) (.list ((as.filter b).map ev)) := by
  obtain ⟨s, acc, hacc, ra⟩ := inv
  rw [hn, List.take_length] at ra
  exact .lst (by rw [offS_at (fr.new hD)]; exact hacc) (ra.mono addS_off)
theorem l_get {H : Hp} {xs : List V} {i : Nat} {x : V} (r : RpA H xs (as.map enc)) (hx : xs[i]? = some x) : ∃ a, as[i]? = some a ∧ Rp H x (enc a) := by
  obtain ⟨d, hd, rx⟩ := r.get hx
  rw [List.getElem?_map] at hd
  cases ha : as[i]? with
  | none => rw [ha] at hd; cases hd
  | some a =>
    rw [ha] at hd
    cases hd
    exact ⟨a, rfl, rx⟩
theorem e_lcL {tl : TE} (hl : EvD tl σ F (.list (as.map enc))) (hz : as.length ≤ 1000) (ht : ∀ a ∈ as, Turn g tt te σ vs F (enc a) (b a) (ev a)) :
    EvD (tLc (iList K tl) g tt te vs) σ F (.list ((as.filter b).map ev)) := fun S H1 f s Q q => hl S H1 f s _ fun v H2 s2 r => by
  obtain ⟨a, xs, rfl, h1, r1⟩ := rp_lst r
  refine ⟨a, rfl, ⟨xs, .inl (.inl h1)⟩, fun D hD => ?_⟩
  have f2 := f.mono s2
  have sF := s.trans (offS_mono (S := S) s2)
  refine lc_list (LInv S H2 D as b ev) ⟨same_new hD, [], upd_same, .nil⟩ (fun i H' _ p => .inl (.inl (p.1 _ _ h1))) (fun i x H' hx inv => ?_) fun H' inv => q _ _ (s2.trans inv.1) (l_fin f2 hD (by rw [r1.length, List.length_map]) inv)
  obtain ⟨t, ht1, rx⟩ := l_get r1 hx
  exact l_turn f2 sF hD hz ht1 rx (ht t (List.mem_of_getElem? ht1)) inv
theorem e_lcT {tl : TE} (hl : EvD tl σ F (.tuple (as.map enc))) (hz : as.length ≤ 1000) (ht : ∀ a ∈ as, Turn g tt te σ vs F (enc a) (b a) (ev a)) :
    EvD (tLc (iTup K tl) g tt te vs) σ F (.list ((as.filter b).map ev)) := fun S H1 f s Q q => hl S H1 f s _ fun v H2 s2 r => by
  obtain ⟨a, xs, rfl, h1, r1⟩ := rp_tup r
  refine ⟨a, rfl, ⟨xs, .inl (.inl h1)⟩, fun D hD => ?_⟩
  have f2 := f.mono s2
  have sF := s.trans (offS_mono (S := S) s2)
  refine lc_tup (LInv S H2 D as b ev) ⟨same_new hD, [], upd_same, .nil⟩ (fun i H' _ p => .inl (.inl (p.1 _ _ h1))) (fun i x H' hx inv => ?_) fun H' inv => q _ _ (s2.trans inv.1) (l_fin f2 hD (by rw [r1.length, List.length_map]) inv)
  obtain ⟨t, ht1, rx⟩ := l_get r1 hx
  exact l_turn f2 sF hD hz ht1 rx (ht t (List.mem_of_getElem? ht1)) inv
end
/-- over range(n) -/
theorem e_lcR {ta : TA} {n : Nat} {b : Nat → Bool} {ev : Nat → PyData} {g : TG} {vs : List Nat} (hl : EvA ta σ F [.int (n : Int)]) (hz : n ≤ 1000) (ht : ∀ a, a < n → Turn g tt te σ vs F (.int (a : Int)) (b a) (ev a)) :
    EvD (tLc (iRng1 ta) g tt te vs) σ F (.list (((List.range n).filter b).map ev)) := fun S H1 f s Q q => hl S H1 f s _ fun v H2 s2 r => by
  obtain ⟨v1, rfl, r1⟩ := rpa1 r
  cases r1
  refine ⟨_, rfl, by omega, by omega, fun D hD => ?_⟩
  have f2 := f.mono s2
  have sF := s.trans (offS_mono (S := S) s2)
  have en : ((n : Nat) : Int).toNat = n := by omega
  refine lc_range (lo := 0) (n := ((n : Nat) : Int).toNat) (LInv S H2 D (List.range n) b ev) ⟨same_new hD, [], upd_same, .nil⟩ (fun i H' hi inv => ?_) fun H' inv => q _ _ (s2.trans inv.1) (l_fin f2 hD (by rw [en, List.length_range]) inv)
  have hi2 : i < n := by omega
  have e0 : (0 : Int) + (i : Int) = (i : Int) := by omega
  rw [e0]
  exact l_turn (as := List.range n) (enc := fun a : Nat => PyData.int (a : Int)) f2 sF hD (by rw [List.length_range]; exact hz) (List.getElem?_range hi2) (.int _) (ht i hi2) inv
/-! statements -/
variable {S : Addr → Bool} {H : Hp} {D : L2.Ends} {t u : TS}
theorem go_seq (h : t { D with nx := u D } σ H) : tSeq t u D σ H := h
theorem go_ret (f : Fr S H) (h : EvP te σ (offS S H) P) (k : ∀ v H', Same H H' → P (offS S H') v → D.rt v H') : tRet te D σ H := h S H f (Same.refl _) _ k
theorem go_set {i : Nat} (f : Fr S H) (h : EvP te σ (offS S H) P) (k : ∀ v H', Same H H' → Fr S H' → P (offS S H') v → D.nx (σ.set i (some v)) H') : tAsg te (gName i) D σ H := h S H f (Same.refl _) _ fun v H' s p => k v H' s (f.mono s) p
theorem go_if {b : Bool} (f : Fr S H) (h : EvB tt σ (offS S H) b) (k1 : b = true → ∀ H', Same H H' → Fr S H' → t D σ H') (k2 : b = false → ∀ H', Same H H' → Fr S H' → u D σ H') : tIfS tt t u D σ H := h S H f (Same.refl _) _ fun H' s => by
  cases b with
  | true => exact k1 rfl H' s (f.mono s)
  | false => exact k2 rfl H' s (f.mono s)
theorem go_ifT (f : Fr S H) (h : EvB tt σ (offS S H) true) (k1 : ∀ H', Same H H' → Fr S H' → t D σ H') : tIfS tt t u D σ H := go_if f h (fun _ => k1) fun z => by cases z
theorem go_ifF (f : Fr S H) (h : EvB tt σ (offS S H) false) (k1 : ∀ H', Same H H' → Fr S H' → u D σ H') : tIfS tt t u D σ H := go_if f h (fun z => by cases z) fun _ => k1
end
end Ca

set_option maxHeartbeats 4000000
namespace Ca
open PySem PySem.Spec PyProof.Rows L2
theorem cut_take (ds : List PyData) (k : Nat) : cutD ds none (some (k : Int)) = ds.take k := by
  unfold cutD
  rw [HT.sIx_none, HT.sIx_nat, Nat.sub_zero, List.drop_zero]
  rcases Nat.le_total k ds.length with h | h
  · rw [Nat.min_eq_left h]
  · rw [Nat.min_eq_right h, List.take_of_length_le (Nat.le_refl _), List.take_of_length_le h]
theorem cut_drop (ds : List PyData) (k : Nat) : cutD ds (some (k : Int)) none = ds.drop k := by
  unfold cutD
  rw [HT.sIx_none, HT.sIx_nat]
  rcases Nat.le_total k ds.length with h | h
  · rw [Nat.min_eq_left h, List.take_of_length_le (by rw [List.length_drop]; exact Nat.le_refl _)]
  · rw [Nat.min_eq_right h, List.drop_of_length_le (Nat.le_refl _), List.drop_of_length_le h, List.take_nil]
section
variable {K : PySem.W.Frag} {σ : L2.St} {ta tb tc te : TE} {tas : TA} {tt tu : TT} {d e : PyData} {ds es : List PyData} {P P2 : Hp → V → Prop}
variable {S : Addr → Bool} {H : Hp} {D : L2.Ends} {t u : TS} {g : TG}
theorem go_forR {n : Nat} (fr : Fr S H) (h : EvA tas σ (offS S H) [.int (n : Int)]) (hz : n < 2 ^ 62) (k : ∀ H1, Same H H1 → Fr S H1 → ∃ Pv : Nat → L2.St → Hp → Prop, Pv 0 σ H1 ∧
    (∀ i σ' H', i < n → Pv i σ' H' → g (.int (i : Int)) σ' H' fun σ2 H2 => t { D with nx := Pv (i + 1), ct := Pv (i + 1), bk := D.nx } σ2 H2) ∧ (∀ σ' H', Pv n σ' H' → D.nx σ' H')) : tFor (iRng1 tas) g t D σ H :=
  h S H fr (Same.refl _) _ fun vs H1 s1 r => by
    obtain ⟨v1, rfl, r1⟩ := rpa1 r
    cases r1
    obtain ⟨Pv, p0, ps, pd⟩ := k H1 s1 (fr.mono s1)
    have en : ((n : Nat) : Int).toNat = n := by omega
    refine ⟨_, rfl, by omega, by omega, for_range (lo := 0) (n := ((n : Nat) : Int).toNat) Pv p0 (fun i σ' H' hi p => ?_) fun σ' H' p => pd σ' H' ?_⟩
    · have e0 : (0 : Int) + (i : Int) = (i : Int) := by omega
      rw [e0]
      exact ps i σ' H' (by omega) p
    · rw [en] at p
      exact p
section
variable {α : Type} {enc : α → PyData} {as : List α}
theorem go_forL {tl : TE} (fr : Fr S H) (h : EvD tl σ (offS S H) (.list (as.map enc))) (k : ∀ H1, Same H H1 → Fr S H1 → ∃ Pv : Nat → L2.St → Hp → Prop, Pv 0 σ H1 ∧
    (∀ i σ' H', Pv i σ' H' → Fr S H' ∧ Same (offS S H1) (offS S H')) ∧
    (∀ i a x σ' H', as[i]? = some a → Rp (offS S H') x (enc a) → Pv i σ' H' → g x σ' H' fun σ2 H2 => t { D with nx := Pv (i + 1), ct := Pv (i + 1), bk := D.nx } σ2 H2) ∧
    (∀ σ' H', Pv as.length σ' H' → D.nx σ' H')) : tFor (iList K tl) g t D σ H :=
  h S H fr (Same.refl _) _ fun v H1 s1 r => by
    obtain ⟨Pv, p0, pk, ps, pd⟩ := k H1 s1 (fr.mono s1)
    cases r with
    | @lst a xs _ h1 r1 =>
      have hl : xs.length = as.length := by rw [r1.length, List.length_map]
      refine ⟨a, rfl, ⟨xs, .inl (.inl (offS_same _ _ h1))⟩, for_list (xs := xs) Pv p0 (fun i σ' H' _ p => .inl (.inl (offS_same _ _ ((pk i σ' H' p).2 _ _ h1)))) (fun i x σ' H' hx p => ?_) fun σ' H' p => pd σ' H' (by rw [hl] at p; exact p)⟩
      obtain ⟨t1, ht1, rx⟩ := l_get r1 hx
      exact ps i t1 x σ' H' ht1 (rx.mono (pk i σ' H' p).2) p
theorem go_forT {tl : TE} (fr : Fr S H) (h : EvD tl σ (offS S H) (.tuple (as.map enc))) (k : ∀ H1, Same H H1 → Fr S H1 → ∃ Pv : Nat → L2.St → Hp → Prop, Pv 0 σ H1 ∧
    (∀ i σ' H', Pv i σ' H' → Fr S H' ∧ Same (offS S H1) (offS S H')) ∧
    (∀ i a x σ' H', as[i]? = some a → Rp (offS S H') x (enc a) → Pv i σ' H' → g x σ' H' fun σ2 H2 => t { D with nx := Pv (i + 1), ct := Pv (i + 1), bk := D.nx } σ2 H2) ∧
    (∀ σ' H', Pv as.length σ' H' → D.nx σ' H')) : tFor (iTup K tl) g t D σ H :=
  h S H fr (Same.refl _) _ fun v H1 s1 r => by
    obtain ⟨Pv, p0, pk, ps, pd⟩ := k H1 s1 (fr.mono s1)
    cases r with
    | @tup a xs _ h1 r1 =>
      have hl : xs.length = as.length := by rw [r1.length, List.length_map]
      refine ⟨a, rfl, ⟨xs, .inl (.inl (offS_same _ _ h1))⟩, for_tup (xs := xs) Pv p0 (fun i σ' H' _ p => .inl (.inl (offS_same _ _ ((pk i σ' H' p).2 _ _ h1)))) (fun i x σ' H' hx p => ?_) fun σ' H' p => pd σ' H' (by rw [hl] at p; exact p)⟩
      obtain ⟨t1, ht1, rx⟩ := l_get r1 hx
      exact ps i t1 x σ' H' ht1 (rx.mono (pk i σ' H' p).2) p
end
theorem go_setS {i : Nat} (f : Fr S H) (h : EvP te σ (offS S H) P) (k : ∀ v H', Same H H' → Fr S H' → P (offS S H') v → u D (σ.set i (some v)) H') : tSeq (tAsg te (gName i)) u D σ H := go_set (D := { D with nx := u D }) f h k
theorem go_forRS {n : Nat} (fr : Fr S H) (h : EvA tas σ (offS S H) [.int (n : Int)]) (hz : n < 2 ^ 62) (k : ∀ H1, Same H H1 → Fr S H1 → ∃ Pv : Nat → L2.St → Hp → Prop, Pv 0 σ H1 ∧
    (∀ i σ' H', i < n → Pv i σ' H' → g (.int (i : Int)) σ' H' fun σ2 H2 => t { D with nx := Pv (i + 1), ct := Pv (i + 1), bk := u D } σ2 H2) ∧ (∀ σ' H', Pv n σ' H' → u D σ' H')) : tSeq (tFor (iRng1 tas) g t) u D σ H := go_forR (D := { D with nx := u D }) fr h hz k
section
variable {α : Type} {enc : α → PyData} {as : List α}
theorem go_forLS {tl : TE} (fr : Fr S H) (h : EvD tl σ (offS S H) (.list (as.map enc))) (k : ∀ H1, Same H H1 → Fr S H1 → ∃ Pv : Nat → L2.St → Hp → Prop, Pv 0 σ H1 ∧
    (∀ i σ' H', Pv i σ' H' → Fr S H' ∧ Same (offS S H1) (offS S H')) ∧
    (∀ i a x σ' H', as[i]? = some a → Rp (offS S H') x (enc a) → Pv i σ' H' → g x σ' H' fun σ2 H2 => t { D with nx := Pv (i + 1), ct := Pv (i + 1), bk := u D } σ2 H2) ∧
    (∀ σ' H', Pv as.length σ' H' → u D σ' H')) : tSeq (tFor (iList K tl) g t) u D σ H := go_forL (D := { D with nx := u D }) fr h k
end
theorem go_ifS {b : Bool} {t1 t2 : TS} (f : Fr S H) (h : EvB tt σ (offS S H) b) (k1 : b = true → ∀ H', Same H H' → Fr S H' → t1 { D with nx := u D } σ H') (k2 : b = false → ∀ H', Same H H' → Fr S H' → t2 { D with nx := u D } σ H') : tSeq (tIfS tt t1 t2) u D σ H := go_if (D := { D with nx := u D }) f h k1 k2
/-! data compared -/
mutual
def nd : PyData → Bool
  | .list ds => ndA ds
  | .tuple ds => ndA ds
  | .dict _ => false
  | _ => true
def ndA : List PyData → Bool
  | [] => true
  | d :: ds => nd d && ndA ds
end
mutual
theorem Rp.dp {H : Hp} : ∀ {d : PyData} {v : V}, nd d = true → Rp H v d → Dp K H v d
  | _, _, _, .non => .non
  | _, _, _, .bl b => .bl b
  | _, _, _, .int i => .int i
  | _, _, _, .str x => .str x
  | _, _, h, .lst h1 r => .lst (.inl (.inl h1)) (RpA.dp (by simpa [nd] using h) r)
  | _, _, h, .tup h1 r => .tup (.inl (.inl h1)) (RpA.dp (by simpa [nd] using h) r)
  | _, _, h, .dic h1 => by simp [nd] at h
theorem RpA.dp {H : Hp} : ∀ {ds : List PyData} {vs : List V}, ndA ds = true → RpA H vs ds → DpAll K H vs ds
  | _, _, _, .nil => .nil
  | _, _, h, .cons h1 r => by
    have h2 := h
    simp only [ndA, Bool.and_eq_true] at h2
    exact .cons (Rp.dp h2.1 h1) (RpA.dp h2.2 r)
end
def eqOk (d : PyData) : Bool := nd d && SeqAt.shaped d
theorem e_eqD {F : Hp} (ha : EvD ta σ F d) (hb : EvD tb σ F e) (h1 : eqOk d = true) (h2 : eqOk e = true) : EvD (tOp (rEqD K) ta tb) σ F (.bool (PyData.eqv d e)) := e_op ha hb fun S H x y f rx ry Q q => by
  unfold eqOk at h1 h2
  rw [Bool.and_eq_true] at h1 h2
  exact ⟨d, e, Rp.dp h1.1 (rx.mono offS_same), Rp.dp h2.1 (ry.mono offS_same), h1.2, h2.2, q _ H (Same.refl _) (.bl _)⟩
theorem e_neD {F : Hp} (ha : EvD ta σ F d) (hb : EvD tb σ F e) (h1 : eqOk d = true) (h2 : eqOk e = true) : EvD (tOp (rNeD K) ta tb) σ F (.bool (!PyData.eqv d e)) := e_op ha hb fun S H x y f rx ry Q q => by
  unfold eqOk at h1 h2
  rw [Bool.and_eq_true] at h1 h2
  exact ⟨d, e, Rp.dp h1.1 (rx.mono offS_same), Rp.dp h2.1 (ry.mono offS_same), h1.2, h2.2, q _ H (Same.refl _) (.bl _)⟩
/-! texts -/
theorem e_joinL {F : Hp} {x : PySem.Str} (ha : EvD ta σ F (.str x)) (hb : EvD tb σ F (.list ds)) (hs : ∀ d ∈ ds, ∃ y, d = .str y) (hl : ((ds.map strD).map (·.length)).sum + (ds.map strD).length * x.length ≤ 16777216) :
    EvD (tM1 (rJoinQ K) ta tb) σ F (.str (Txt.join x (ds.map strD))) := fun S H1 f s Q q =>
  ha S H1 f s _ fun v H2 s2 r2 => by
    cases r2
    refine ⟨⟨_, rfl⟩, hb S H2 (f.mono s2) (s.trans (offS_mono s2)) _ fun w H3 s3 r3 => ?_⟩
    obtain ⟨a, xs, rfl, h1, r1⟩ := rp_lst r3
    rw [of_strs hs] at r1
    rw [strs_rp r1] at h1
    exact ⟨x, a, _, rfl, rfl, .inl (.inl (.inl h1)), hl, q _ H3 (s2.trans s3) (.str _)⟩
end
end Ca

set_option maxHeartbeats 4000000
namespace Ca
open PySem PySem.Spec PyProof.Rows L2
section
variable {X : Cx} {K : PySem.W.Frag} {tg e o : Expr} {t to te : TE} {apos pos : Pos}
theorem pi_listQ (hK : X.K = K) (h : PE X e t) : PI X tg e (iList K t) := hK ▸ pi_list h
theorem pi_tupQ (hK : X.K = K) (h : PE X e t) : PI X tg e (iTup K t) := hK ▸ pi_tup h
theorem pe_joinQ (hK : X.K = K) (ho : PE X o to) (he : PE X e te) (hs : starEach [e] X.env = [(false, eval e X.env)] := by rfl) (hbase : attributeBase o "join" X.env (eval o X.env) = eval o X.env := by rfl) (hline : (apos.endLine == pos.line) = true := by rfl) :
    PE X (.Call (.Attribute o "join" apos) [e] [] pos) (tM1 (rJoinQ K) to te) := hK ▸ pe_join ho he hs hbase hline
end
/-! data that may be compared -/
structure Cq (k : Nat) (d : PyData) : Prop where
  n : nd d = true
  c : d.canLay0 = true
  p : d.depth ≤ k
theorem Cq.ok {k : Nat} {d : PyData} (h : Cq k d) (hk : k ≤ 64 := by decide) : eqOk d = true := by
  unfold eqOk SeqAt.shaped
  rw [h.n, h.c, decide_eq_true (Nat.le_trans h.p hk)]
  rfl
theorem Cq.mono {k m : Nat} {d : PyData} (h : Cq k d) (hk : k ≤ m) : Cq m d := ⟨h.n, h.c, Nat.le_trans h.p hk⟩
theorem cq_all {k : Nat} : ∀ {ds : List PyData}, (∀ d ∈ ds, Cq k d) → ndA ds = true ∧ PyData.canLayAll0 ds = true ∧ PyData.depthAll ds ≤ k
  | [], _ => ⟨rfl, rfl, Nat.zero_le _⟩
  | d :: ds, h => by
    obtain ⟨h1, h2, h3⟩ := cq_all fun e he => h e (.tail _ he)
    have z := h d (.head _)
    refine ⟨?_, ?_, ?_⟩
    · unfold ndA
      rw [z.n, h1]
      rfl
    · unfold PyData.canLayAll0
      rw [z.c, h2]
      rfl
    · unfold PyData.depthAll
      exact Nat.max_le.mpr ⟨z.p, h3⟩
theorem cq_lst {k : Nat} {ds : List PyData} (h : ∀ d ∈ ds, Cq k d) : Cq (k + 1) (.list ds) := by
  obtain ⟨h1, h2, h3⟩ := cq_all h
  refine ⟨by unfold nd; exact h1, by unfold PyData.canLay0; exact h2, by unfold PyData.depth; omega⟩
theorem cq_tup {k : Nat} {ds : List PyData} (h : ∀ d ∈ ds, Cq k d) : Cq (k + 1) (.tuple ds) := by
  obtain ⟨h1, h2, h3⟩ := cq_all h
  refine ⟨by unfold nd; exact h1, by unfold PyData.canLay0; exact h2, by unfold PyData.depth; omega⟩
theorem cq_int {k : Nat} (i : Int) : Cq k (.int i) := ⟨by simp [nd], by simp [PyData.canLay0], by simp [PyData.depth]⟩
theorem cq_bool {k : Nat} (b : Bool) : Cq k (.bool b) := ⟨by simp [nd], by simp [PyData.canLay0], by simp [PyData.depth]⟩
theorem cq_none {k : Nat} : Cq k .none := ⟨by simp [nd], by simp [PyData.canLay0], by simp [PyData.depth]⟩
theorem eqv_nil (ds : List PyData) : PyData.eqv (.list ds) (.list []) = ds.isEmpty := by
  cases ds with
  | nil => simp [PyData.eqv, PyData.eqvAll]
  | cons d ds => simp [PyData.eqv, PyData.eqvAll]
section
variable {K : PySem.W.Frag} {S : Addr → Bool} {H : Hp} {σ : L2.St} {x : V} {Q : L2.St → Hp → Prop} {i j k l : Nat} {d1 d2 d3 d4 : PyData}
theorem gg_tup2 (f : Fr S H) (r : Rp (offS S H) x (.tuple [d1, d2])) (h : ∀ v1 v2, Rp (offS S H) v1 d1 → Rp (offS S H) v2 d2 → Q ((σ.set i (some v1)).set j (some v2)) H) :
    gTup K 2 (gCons (gName i) (gCons (gName j) gNil)) x σ H Q := g_tup2 (C := fun σ2 => Q σ2 H) r h S H f (Same.refl _) Q fun _ c => c
theorem gg_tup3 (f : Fr S H) (r : Rp (offS S H) x (.tuple [d1, d2, d3])) (h : ∀ v1 v2 v3, Rp (offS S H) v1 d1 → Rp (offS S H) v2 d2 → Rp (offS S H) v3 d3 → Q (((σ.set i (some v1)).set j (some v2)).set k (some v3)) H) :
    gTup K 3 (gCons (gName i) (gCons (gName j) (gCons (gName k) gNil))) x σ H Q := g_tup3 (C := fun σ2 => Q σ2 H) r h S H f (Same.refl _) Q fun _ c => c
theorem gg_tup4 (f : Fr S H) (r : Rp (offS S H) x (.tuple [d1, d2, d3, d4])) (h : ∀ v1 v2 v3 v4, Rp (offS S H) v1 d1 → Rp (offS S H) v2 d2 → Rp (offS S H) v3 d3 → Rp (offS S H) v4 d4 → Q ((((σ.set i (some v1)).set j (some v2)).set k (some v3)).set l (some v4)) H) :
    gTup K 4 (gCons (gName i) (gCons (gName j) (gCons (gName k) (gCons (gName l) gNil)))) x σ H Q := g_tup4 (C := fun σ2 => Q σ2 H) r h S H f (Same.refl _) Q fun _ c => c
end
theorem filter_yes {α : Type} (as : List α) : as.filter (fun _ => true) = as := List.filter_eq_self.mpr fun _ _ => rfl
end Ca

set_option maxHeartbeats 4000000
namespace Ca
open PySem PySem.Spec PyProof.Rows L2
/-- J goes over what reads as es, at the facts F -/
def Iter (J : It) (F : Hp) (es : List PyData) : Prop := ∀ (S : Addr → Bool) (H : Hp) (i : Nat), Fr S H → Same F (offS S H) →
  (i < es.length → J.go i H ∧ ∀ x H', J.yld i H x H' → Same H H' ∧ ∃ d, es[i]? = some d ∧ Rp (offS S H') x d) ∧ (es.length ≤ i → J.stop i H)
/-- what is gone over reads as es -/
def ItP (wi : TI) (σ : L2.St) (F : Hp) (es : List PyData) : Prop := ∀ (S : Addr → Bool) (H1 : Hp), Fr S H1 → Same F (offS S H1) → ∀ R : It → Hp → Prop, (∀ J H2, Same H1 H2 → Iter J (offS S H2) es → R J H2) → wi σ H1 R
section
variable {K : PySem.W.Frag} {σ : L2.St} {F : Hp} {ta te tl : TE} {tas : TA} {tt tt1 : TT} {ds es : List PyData}
theorem it_list (h : EvD tl σ F (.list ds)) : ItP (iList K tl) σ F ds := fun S H1 f s R r => h S H1 f s _ fun v H2 s2 rv => by
  cases rv with
  | @lst a xs _ ha rx =>
    refine ⟨a, rfl, ⟨xs, .inl (.inl (offS_same _ _ ha))⟩, r _ H2 s2 fun S' H' i f' s' => ⟨fun hi => ?_, fun hi => ⟨xs, .inl (.inl (offS_same _ _ (s' _ _ ha))), by rw [rx.length]; exact hi⟩⟩⟩
    have q := offS_same _ _ (s' _ _ ha)
    have hx : i < xs.length := by rw [rx.length]; exact hi
    refine ⟨⟨xs, xs[i], .inl (.inl q), by simp [hx]⟩, fun x H'' y => ?_⟩
    obtain ⟨rfl, y⟩ := y
    obtain ⟨d, hd, rd⟩ := rx.get (y xs (.inl (.inl q)))
    exact ⟨Same.refl _, d, hd, rd.mono s'⟩
theorem it_tup (h : EvD tl σ F (.tuple ds)) : ItP (iTup K tl) σ F ds := fun S H1 f s R r => h S H1 f s _ fun v H2 s2 rv => by
  cases rv with
  | @tup a xs _ ha rx =>
    refine ⟨a, rfl, ⟨xs, .inl (.inl (offS_same _ _ ha))⟩, r _ H2 s2 fun S' H' i f' s' => ⟨fun hi => ?_, fun hi => ⟨xs, .inl (.inl (offS_same _ _ (s' _ _ ha))), by rw [rx.length]; exact hi⟩⟩⟩
    have q := offS_same _ _ (s' _ _ ha)
    have hx : i < xs.length := by rw [rx.length]; exact hi
    refine ⟨⟨xs, xs[i], .inl (.inl q), by simp [hx]⟩, fun x H'' y => ?_⟩
    obtain ⟨rfl, y⟩ := y
    obtain ⟨d, hd, rd⟩ := rx.get (y xs (.inl (.inl q)))
    exact ⟨Same.refl _, d, hd, rd.mono s'⟩
theorem it_rng {n : Nat} (h : EvA tas σ F [.int (n : Int)]) (hz : n < 2 ^ 62) : ItP (iRng1 tas) σ F ((List.range n).map fun i : Nat => .int (i : Int)) := fun S H1 f s R r => h S H1 f s _ fun vs H2 s2 rv => by
  obtain ⟨v1, rfl, r1⟩ := rpa1 rv
  cases r1
  have en : ((n : Nat) : Int).toNat = n := by omega
  refine ⟨_, rfl, by omega, by omega, r _ H2 s2 fun S' H' i f' s' => ⟨fun hi => ?_, fun hi => ?_⟩⟩
  · rw [List.length_map, List.length_range] at hi
    refine ⟨?_, fun x H'' y => ?_⟩
    · show i < ((n : Nat) : Int).toNat
      omega
    · obtain ⟨rfl, rfl⟩ := y
      refine ⟨Same.refl _, .int (i : Int), ?_, ?_⟩
      · rw [List.getElem?_map, List.getElem?_range hi]
        rfl
      · have e0 : (0 : Int) + (i : Int) = (i : Int) := by omega
        rw [e0]
        exact .int _
  · rw [List.length_map, List.length_range] at hi
    show ((n : Nat) : Int).toNat ≤ i
    omega
section
variable {α β : Type} {enc : α → PyData} {as : List α} {b : α → Bool} {ev : α → PyData} {g g1 : TG} {vs us : List Nat} {wi wj : TI}
/-- one for -/
theorem e_lcG (hi : ItP wi σ F (as.map enc)) (hz : as.length ≤ 1000) (ht : ∀ a ∈ as, Turn g tt te σ vs F (enc a) (b a) (ev a)) :
    EvD (tLc wi g tt te vs) σ F (.list ((as.filter b).map ev)) := fun S H1 f s Q q => hi S H1 f s _ fun J H2 s2 it D hD => by
  have f2 := f.mono s2
  have sF := s.trans (offS_mono (S := S) s2)
  refine ⟨fun i m H' => m = as.length - i ∧ i ≤ as.length ∧ LInv S H2 D as b ev i H', ⟨as.length, by simp, Nat.zero_le _, same_new hD, [], upd_same, .nil⟩, ?_⟩
  rintro i m H' ⟨rfl, hi, inv⟩
  have f3 : Fr S H' := f2.mono inv.1
  have jt := it S H' i f3 (offS_mono inv.1)
  rw [List.length_map] at jt
  by_cases hlt : i < as.length
  · obtain ⟨go, yl⟩ := jt.1 hlt
    refine .inr ⟨go, LInv S H2 D as b ev (i + 1), fun H'' p' => ⟨as.length - (i + 1), by omega, rfl, hlt, p'⟩, fun x H'' y => ?_⟩
    have ha : as[i]? = some as[i] := List.getElem?_eq_getElem hlt
    -- read the item off the list's own place
    obtain ⟨s3, acc, hacc, ra⟩ := inv
    have f4 : Fr (addS S D) H' := f3.add hacc trivial
    have hDo : offS S H2 D = none := by
      unfold offS
      split
      · rfl
      · exact hD
    have s1 : Same (offS S H2) (offS (addS S D) H') := addS_new hDo (offS_mono s3)
    have jt2 := it (addS S D) H' i f4 s1
    rw [List.length_map] at jt2
    obtain ⟨s5, d, hd, rx⟩ := (jt2.1 hlt).2 x H'' y
    rw [List.getElem?_map, ha] at hd
    cases hd
    have f5 := f4.mono s5
    have e1 : as.take (i + 1) = as.take i ++ [as[i]] := take_more ha
    refine ht as[i] (List.getElem_mem hlt) x (offS (addS S D) H'') ((sF.trans s1).trans (offS_mono s5)) rx (addS S D) H'' f5 (Same.refl _) _ fun σ2 ⟨w, hb, he⟩ => ⟨w, hb (addS S D) H'' f5 (Same.refl _) _ fun H3 s6 => ?_⟩
    have hacc3 := (s5.trans s6) _ _ hacc
    cases hb2 : b as[i] with
    | false =>
      refine ⟨s3.trans (s5.trans s6), acc, hacc3, ?_⟩
      rw [e1, List.filter_append, List.map_append]
      have : [as[i]].filter b = [] := by simp [hb2]
      rw [this, List.map_nil, List.append_nil]
      exact ra.mono (offS_mono (s5.trans s6))
    | true =>
      refine he hb2 (addS S D) H3 (f5.mono s6) (offS_mono s6) _ fun y H4 s7 r4 => ⟨acc, s7 _ _ hacc3, ?_, same_mut (s3.trans (s5.trans (s6.trans s7))) hD, _, upd_same, ?_⟩
      · have l1 := ra.length
        rw [List.length_map] at l1
        have l2 := List.length_filter_le b (as.take i)
        have l3 : (as.take i).length ≤ 1000 := by rw [List.length_take]; omega
        exact small1000 (by omega)
      · rw [e1, List.filter_append, List.map_append]
        have : [as[i]].filter b = [as[i]] := by simp [hb2]
        rw [this]
        exact ((ra.mono (offS_mono (s5.trans (s6.trans s7)))).mono addS_upd).append (.cons (r4.mono addS_upd) .nil)
  · exact .inl ⟨jt.2 (by omega), q _ _ (s2.trans inv.1) (l_fin f2 hD (by omega) inv)⟩
theorem go_forTS {S : Addr → Bool} {H : Hp} {D : L2.Ends} {t u : TS} {tl : TE} (fr : Fr S H) (h : EvD tl σ (offS S H) (.tuple (as.map enc))) (k : ∀ H1, Same H H1 → Fr S H1 → ∃ Pv : Nat → L2.St → Hp → Prop, Pv 0 σ H1 ∧
    (∀ i σ' H', Pv i σ' H' → Fr S H' ∧ Same (offS S H1) (offS S H')) ∧
    (∀ i a x σ' H', as[i]? = some a → Rp (offS S H') x (enc a) → Pv i σ' H' → g x σ' H' fun σ2 H2 => t { D with nx := Pv (i + 1), ct := Pv (i + 1), bk := u D } σ2 H2) ∧
    (∀ σ' H', Pv as.length σ' H' → u D σ' H')) : tSeq (tFor (iTup K tl) g t) u D σ H := go_forT (D := { D with nx := u D }) fr h k
/-- what is made so far -/
abbrev AccIs (S : Addr → Bool) (H0 : Hp) (D : Addr) (l : List PyData) (H' : Hp) : Prop := Same H0 H' ∧ ∃ acc, H' D = some (.lst acc) ∧ RpA (offS (addS S D) H') acc l
/-- two fors: the second one's items by the first one's -/
theorem e_lc2G {bs : α → List β} {enc1 : β → PyData} {c : α → β → Bool} {ev2 : α → β → PyData} (hi : ItP wi σ F (as.map enc)) (hz : (as.flatMap fun a => ((bs a).filter (c a)).map (ev2 a)).length ≤ 1000)
    (ht : ∀ a ∈ as, ∀ x F1, Same F F1 → Rp F1 x (enc a) → GtP g x (wipe σ vs) F1 fun σ2 => wipe σ2 vs = wipe σ vs ∧ EvB tt σ2 F1 true ∧ ItP wj σ2 F1 ((bs a).map enc1) ∧
      ∀ e ∈ bs a, ∀ y F2, Same F1 F2 → Rp F2 y (enc1 e) → GtP g1 y (wipe σ2 us) F2 fun σ3 => wipe σ3 us = wipe σ2 us ∧ EvB tt1 σ3 F2 (c a e) ∧ (c a e = true → EvD te σ3 F2 (ev2 a e))) :
    EvD (tLc2 wi g tt wj g1 tt1 te vs us) σ F (.list (as.flatMap fun a => ((bs a).filter (c a)).map (ev2 a))) := fun S H1 f s Q q => hi S H1 f s _ fun J H2 s2 it D hD => by
  have f2 := f.mono s2
  have sF := s.trans (offS_mono (S := S) s2)
  have hDo : offS S H2 D = none := by
    unfold offS
    split
    · rfl
    · exact hD
  have small : ∀ {l l2 : List PyData} {acc : List V} {H : Hp}, RpA H acc l → l.length < (l ++ l2).length → (l ++ l2).length ≤ 1000 → acc.length < sizeLine := fun {l l2 acc H} r h1 h2 => by
    have := r.length
    exact small1000 (by omega)
  let G : α → List PyData := fun a => ((bs a).filter (c a)).map (ev2 a)
  refine ⟨fun i m H' => m = as.length - i ∧ i ≤ as.length ∧ AccIs S H2 D ((as.take i).flatMap G) H', ⟨as.length, by simp, Nat.zero_le _, same_new hD, [], upd_same, .nil⟩, ?_⟩
  rintro i m H' ⟨rfl, hi, inv⟩
  have f3 : Fr S H' := f2.mono inv.1
  have jt := it S H' i f3 (offS_mono inv.1)
  rw [List.length_map] at jt
  by_cases hlt : i < as.length
  · obtain ⟨go, yl⟩ := jt.1 hlt
    refine .inr ⟨go, AccIs S H2 D ((as.take (i + 1)).flatMap G), fun H'' p' => ⟨as.length - (i + 1), by omega, rfl, hlt, p'⟩, fun x H'' y => ?_⟩
    have ha : as[i]? = some as[i] := List.getElem?_eq_getElem hlt
    obtain ⟨s3, acc, hacc, ra⟩ := inv
    have f4 : Fr (addS S D) H' := f3.add hacc trivial
    have s1 : Same (offS S H2) (offS (addS S D) H') := addS_new hDo (offS_mono s3)
    have jt2 := it (addS S D) H' i f4 s1
    rw [List.length_map] at jt2
    obtain ⟨s5, d, hd, rx⟩ := (jt2.1 hlt).2 x H'' y
    rw [List.getElem?_map, ha] at hd
    cases hd
    generalize hA : as[i] = a at rx
    have ham : a ∈ as := by rw [← hA]; exact List.getElem_mem hlt
    have f5 := f4.mono s5
    have e1 : (as.take (i + 1)).flatMap G = (as.take i).flatMap G ++ G a := by
      rw [take_more ha, List.flatMap_append, hA]
      simp
    have whole : ((as.take i).flatMap G ++ G a).length ≤ 1000 := by
      refine Nat.le_trans ?_ hz
      rw [← e1]
      have e2 : as = as.take (i + 1) ++ as.drop (i + 1) := (List.take_append_drop _ _).symm
      conv => rhs; rw [e2]
      rw [List.flatMap_append, List.length_append]
      exact Nat.le_add_right _ _
    refine ht a ham x (offS (addS S D) H'') ((sF.trans s1).trans (offS_mono s5)) rx (addS S D) H'' f5 (Same.refl _) _ fun σ2 ⟨w, hb, hj, he⟩ => ⟨w, hb (addS S D) H'' f5 (Same.refl _) _ fun H3 s6 => ?_⟩
    refine hj (addS S D) H3 (f5.mono s6) (offS_mono s6) _ fun J1 H4 s7 it1 => ?_
    have hacc4 := (s5.trans (s6.trans s7)) _ _ hacc
    have ra4 := ra.mono (offS_mono (S := addS S D) (s5.trans (s6.trans s7)))
    have f6 : Fr (addS S D) H4 := f5.mono (s6.trans s7)
    refine ⟨fun j k H' => k = (bs a).length - j ∧ j ≤ (bs a).length ∧ Same H2 H' ∧ Same (offS (addS S D) H4) (offS (addS S D) H') ∧ ∃ acc, H' D = some (.lst acc) ∧ RpA (offS (addS S D) H') acc ((as.take i).flatMap G ++ (((bs a).take j).filter (c a)).map (ev2 a)),
      ⟨(bs a).length, by simp, Nat.zero_le _, s3.trans (s5.trans (s6.trans s7)), Same.refl _, acc, hacc4, by simpa using ra4⟩, ?_⟩
    rintro j k H7 ⟨rfl, hj2, s8, s9, acc2, hacc2, ra2⟩
    have f7 : Fr (addS S D) H7 := (f2.mono s8).add hacc2 trivial
    have jt3 := it1 (addS S D) H7 j f7 s9
    rw [List.length_map] at jt3
    by_cases hjl : j < (bs a).length
    · obtain ⟨go1, yl1⟩ := jt3.1 hjl
      have hbj : (bs a)[j]? = some (bs a)[j] := List.getElem?_eq_getElem hjl
      refine .inr ⟨go1, fun H' => Same H2 H' ∧ Same (offS (addS S D) H4) (offS (addS S D) H') ∧ ∃ acc, H' D = some (.lst acc) ∧ RpA (offS (addS S D) H') acc ((as.take i).flatMap G ++ (((bs a).take (j + 1)).filter (c a)).map (ev2 a)), fun H'' p' => ⟨(bs a).length - (j + 1), by omega, rfl, hjl, p'⟩, fun y H8 yy => ?_⟩
      obtain ⟨s10, d, hd, ry⟩ := yl1 y H8 yy
      rw [List.getElem?_map, hbj] at hd
      cases hd
      have f8 := f7.mono s10
      have e3 : (bs a).take (j + 1) = (bs a).take j ++ [(bs a)[j]] := take_more hbj
      refine he _ (List.getElem_mem hjl) y (offS (addS S D) H8) ((offS_mono (s6.trans s7)).trans (s9.trans (offS_mono s10))) ry (addS S D) H8 f8 (Same.refl _) _ fun σ3 ⟨w3, hb3, he3⟩ => ⟨w3, hb3 (addS S D) H8 f8 (Same.refl _) _ fun H9 s11 => ?_⟩
      have hacc9 := (s10.trans s11) _ _ hacc2
      have ra9 := ra2.mono (offS_mono (S := addS S D) (s10.trans s11))
      have sn : Same (offS (addS S D) H4) (offS (addS S D) H9) := s9.trans (offS_mono (s10.trans s11))
      cases hc : c a (bs a)[j] with
      | false =>
        refine ⟨s8.trans (s10.trans s11), sn, acc2, hacc9, ?_⟩
        rw [e3, List.filter_append]
        have : [(bs a)[j]].filter (c a) = [] := by simp [hc]
        rw [this, List.append_nil]
        exact ra9
      | true =>
        have grow : (((bs a).take (j + 1)).filter (c a)).map (ev2 a) = (((bs a).take j).filter (c a)).map (ev2 a) ++ [ev2 a (bs a)[j]] := by
          rw [e3, List.filter_append, List.map_append]
          have : [(bs a)[j]].filter (c a) = [(bs a)[j]] := by simp [hc]
          rw [this]
          rfl
        refine he3 hc (addS S D) H9 (f8.mono s11) (offS_mono s11) _ fun y H10 s12 r10 => ⟨acc2, s12 _ _ hacc9, ?_, same_mut (s8.trans (s10.trans (s11.trans s12))) hD, (sn.trans (offS_mono s12)).trans addS_upd, _, upd_same, ?_⟩
        · have l1 := ra2.length
          have l2 : ((((bs a).take j).filter (c a)).map (ev2 a)).length ≤ (G a).length := by
            show _ ≤ (((bs a).filter (c a)).map (ev2 a)).length
            rw [List.length_map, List.length_map]
            have e4 : bs a = (bs a).take j ++ (bs a).drop j := (List.take_append_drop _ _).symm
            conv => rhs; rw [e4]
            rw [List.filter_append, List.length_append]
            omega
          rw [List.length_append] at l1 whole
          exact small1000 (by omega)
        · rw [grow, ← List.append_assoc]
          exact ((ra9.mono (offS_mono s12)).mono addS_upd).append (.cons (r10.mono addS_upd) .nil)
    · refine .inl ⟨jt3.2 (by omega), s8, acc2, hacc2, ?_⟩
      have ej : j = (bs a).length := by omega
      rw [ej, List.take_length] at ra2
      rw [e1]
      exact ra2
  · refine .inl ⟨jt.2 (by omega), q _ _ (s2.trans inv.1) ?_⟩
    obtain ⟨s3, acc, hacc, ra⟩ := inv
    have ei : i = as.length := by omega
    rw [ei, List.take_length] at ra
    exact .lst (by rw [offS_at (f2.new hD)]; exact hacc) (ra.mono addS_off)
end
end
end Ca

set_option maxHeartbeats 4000000
namespace Ca
open PySem PySem.Spec PyProof.Rows L2
def enD : Nat → List PyData → List PyData
  | _, [] => []
  | n, d :: ds => .tuple [.int (n : Int), d] :: enD (n + 1) ds
theorem enD_len : ∀ (ds : List PyData) (n : Nat), (enD n ds).length = ds.length
  | [], _ => rfl
  | d :: ds, n => by
    show (enD (n + 1) ds).length + 1 = _
    rw [enD_len ds, List.length_cons]
theorem enD_get : ∀ (ds : List PyData) (n i : Nat) {d : PyData}, ds[i]? = some d → (enD n ds)[i]? = some (.tuple [.int ((n + i : Nat) : Int), d])
  | [], _, _, _, h => by simp at h
  | e :: ds, n, 0, d, h => by
    cases (show some e = some d from h)
    rfl
  | e :: ds, n, i + 1, d, h => by
    have := enD_get ds (n + 1) i (d := d) (by simpa using h)
    show (enD (n + 1) ds)[i]? = _
    rw [this]
    congr 4
    omega
section
variable {K : PySem.W.Frag} {σ : L2.St} {F : Hp} {ta te tl : TE} {tas : TA} {ds : List PyData}
theorem it_enum (h : EvA tas σ F [.list ds]) : ItP (iEnum K tas) σ F (enD 0 ds) := fun S H1 f s R r => h S H1 f s _ fun vs H2 s2 rv => by
  obtain ⟨v1, rfl, r1⟩ := rpa1 rv
  cases r1 with
  | @lst a xs _ ha rx =>
    refine ⟨a, xs, rfl, .inl (.inl (offS_same _ _ ha)), r _ H2 s2 fun S' H' i f' s' => ⟨fun hi => ?_, fun hi => ⟨xs, .inl (.inl (offS_same _ _ (s' _ _ ha))), by rw [rx.length]; rw [enD_len] at hi; exact hi⟩⟩⟩
    rw [enD_len] at hi
    have q := offS_same _ _ (s' _ _ ha)
    have hx : i < xs.length := by rw [rx.length]; exact hi
    refine ⟨⟨xs, xs[i], .inl (.inl q), by simp [hx]⟩, fun x H'' y => ?_⟩
    obtain ⟨T, x1, rfl, hT, rfl, y⟩ := y
    obtain ⟨d, hd, rd⟩ := rx.get (y xs (.inl (.inl q)))
    have := enD_get ds 0 i hd
    rw [Nat.zero_add] at this
    refine ⟨same_new hT, _, this, .tup ?_ (.cons (.int _) (.cons ((rd.mono s').mono (offS_mono (same_new hT))) .nil))⟩
    rw [offS_at (f'.new hT), upd_same]
section
variable {α : Type} {enc : α → PyData} {as : List α} {g : TG} {S : Addr → Bool} {H : Hp} {D : L2.Ends} {t u : TS} {wi : TI}
theorem go_forG (fr : Fr S H) (h : ItP wi σ (offS S H) (as.map enc)) (k : ∀ H1, Same H H1 → Fr S H1 → ∃ Pv : Nat → L2.St → Hp → Prop, Pv 0 σ H1 ∧
    (∀ i σ' H', Pv i σ' H' → Fr S H' ∧ Same (offS S H1) (offS S H')) ∧
    (∀ i a x σ' H' H'', as[i]? = some a → Pv i σ' H' → Same H' H'' → Rp (offS S H'') x (enc a) → g x σ' H'' fun σ2 H2 => t { D with nx := Pv (i + 1), ct := Pv (i + 1), bk := D.nx } σ2 H2) ∧
    (∀ σ' H', Pv as.length σ' H' → D.nx σ' H')) : tFor wi g t D σ H := h S H fr (Same.refl _) _ fun J H1 s1 it => by
  obtain ⟨Pv, p0, pk, ps, pd⟩ := k H1 s1 (fr.mono s1)
  refine ⟨fun i m σ' H' => m = as.length - i ∧ i ≤ as.length ∧ Pv i σ' H', ⟨as.length, by simp, Nat.zero_le _, p0⟩, ?_⟩
  rintro i m σ' H' ⟨rfl, hi, p⟩
  obtain ⟨f', s'⟩ := pk i σ' H' p
  have jt := it S H' i f' s'
  rw [List.length_map] at jt
  by_cases hlt : i < as.length
  · obtain ⟨go, yl⟩ := jt.1 hlt
    refine .inr ⟨go, Pv (i + 1), fun σ2 H2 p' => ⟨as.length - (i + 1), by omega, rfl, hlt, p'⟩, fun x H'' y => ?_⟩
    obtain ⟨s2, d, hd, rx⟩ := yl x H'' y
    have ha : as[i]? = some as[i] := List.getElem?_eq_getElem hlt
    rw [List.getElem?_map, ha] at hd
    cases hd
    exact ps i as[i] x σ' H' H'' ha p s2 rx
  · have e : i = as.length := by omega
    subst e
    exact .inl ⟨jt.2 (Nat.le_refl _), pd σ' H' p⟩
theorem go_forGS (fr : Fr S H) (h : ItP wi σ (offS S H) (as.map enc)) (k : ∀ H1, Same H H1 → Fr S H1 → ∃ Pv : Nat → L2.St → Hp → Prop, Pv 0 σ H1 ∧
    (∀ i σ' H', Pv i σ' H' → Fr S H' ∧ Same (offS S H1) (offS S H')) ∧
    (∀ i a x σ' H' H'', as[i]? = some a → Pv i σ' H' → Same H' H'' → Rp (offS S H'') x (enc a) → g x σ' H'' fun σ2 H2 => t { D with nx := Pv (i + 1), ct := Pv (i + 1), bk := u D } σ2 H2) ∧
    (∀ σ' H', Pv as.length σ' H' → u D σ' H')) : tSeq (tFor wi g t) u D σ H := go_forG (D := { D with nx := u D }) fr h k
end
/-! sorted of data -/
def srtD (ds : List PyData) : List PyData := ds.mergeSort (PySem.W.dataLe false id)
theorem zipV {H : Hp} : ∀ {xs : List V} {ds : List PyData}, RpA H xs ds → ∃ bs : List (V × PyData), bs.map Prod.fst = xs ∧ bs.map Prod.snd = ds ∧ ∀ b ∈ bs, Rp H b.1 b.2
  | _, _, .nil => ⟨[], rfl, rfl, fun b h => by cases h⟩
  | _, _, .cons (v := v) (d := d) h r => by
    obtain ⟨bs, e1, e2, e3⟩ := zipV r
    refine ⟨(v, d) :: bs, by rw [List.map_cons, e1], by rw [List.map_cons, e2], fun b hb => ?_⟩
    rcases List.mem_cons.mp hb with z | z
    · rw [z]
      exact h
    · exact e3 b z
theorem unzipV {H : Hp} : ∀ {bs : List (V × PyData)}, (∀ b ∈ bs, Rp H b.1 b.2) → RpA H (bs.map Prod.fst) (bs.map Prod.snd)
  | [], _ => .nil
  | b :: bs, h => .cons (h b (.head _)) (unzipV fun c hc => h c (.tail _ hc))
theorem srt_snd (bs : List (V × PyData)) : (sortD bs).map Prod.snd = srtD (bs.map Prod.snd) := PySem.W.sort_maps Prod.snd fun a _ b _ => rfl
theorem e_sortD (h : EvD ta σ F (.list ds)) (hal : PySem.W.AllAlike ds) (hso : PySem.W.Sortable ds) (hdp : ∀ d ∈ ds, d.depth ≤ 60) (hl : ds.length ≤ 1000) : EvD (tCB rSortD (tCons ta tNil)) σ F (.list (srtD ds)) := fun S H1 f s Q q =>
  h S H1 f s _ fun v H2 s2 r => by
    cases r with
    | @lst a xs _ ha rx =>
      obtain ⟨bs, rfl, rfl, rb⟩ := zipV rx
      rw [List.length_map] at hl
      refine ⟨a, bs, rfl, .inl (offS_same _ _ ha), fun b hb => (rb b hb).mono offS_same, hal, hso, fun b hb => hdp _ (List.mem_map.mpr ⟨b, hb, rfl⟩), Nat.le_of_lt (small1000 hl), fun p hp => q _ _ (s2.trans (same_new hp)) (.lst (offS_new (f.mono s2) hp) ?_)⟩
      rw [← srt_snd]
      refine RpA.mono (offS_mono (same_new hp)) (unzipV fun b hb => rb b ?_)
      unfold sortD at hb
      exact (List.mem_mergeSort.mp hb)
theorem srt_head {ds : List PyData} {d : PyData} {es : List PyData} (h : srtD ds = d :: es) : d ∈ ds ∧ ∀ e ∈ ds, PySem.W.dataLt e d = false := by
  have tot : PySem.W.TotalLe (PySem.W.dataLe false (id : PyData → PyData)) := PySem.W.sortLe_total _ _ _
  have pw := PySem.W.sort_pairwise tot ds
  have mem : ∀ e, e ∈ srtD ds ↔ e ∈ ds := fun e => List.mem_mergeSort
  refine ⟨(mem d).mp (by rw [h]; exact .head _), fun e he => ?_⟩
  have pw2 : (srtD ds).Pairwise (fun a b => PySem.W.dataLe false id a b = true) := pw
  rw [h, List.pairwise_cons] at pw2
  have le : PySem.W.dataLe false id d e = true := by
    rcases List.mem_cons.mp (by rw [← h]; exact (mem e).mpr he : e ∈ d :: es) with z | z
    · rw [z]
      exact tot.refl d
    · exact pw2.1 e z
  have : (!PySem.W.dataLt e d) = true := le
  simpa using this
end
end Ca

set_option maxHeartbeats 4000000
namespace TM
open PySem PySem.Spec PyProof.Rows L2
/-! sets of tuples of ints and texts: adding, and how many there are -/
abbrev Ky (P : Program) (w : World) (h : Heap) (k : List Key) (b : Addr) : Prop := IsTupleKey (mixKind P w) h k b
abbrev hs1 (P : Program) (w : World) (k : List Key) : Int := tupleKeyHash (mixKind P w) k
abbrev ent (P : Program) (w : World) (r : Addr × List Key) : Int × Value := (hs1 P w r.2, Value.ref r.1)
section
variable {P : Program} {w : World} {A : Around} {E : Value → Shared → Prop} {s : Shared}
/-- what lies in a key is an int or a text -/
def Calm (v : Value) : Prop := (∀ n, ofAClassStatement n v = pure false) ∧ ∀ n, hashByValue n v = pure true ∨ hashByValue n v = pure false
theorem calm_of {k : Key} {v : Value} (h : (mixKind P w).is k v = true) : Calm v := by
  cases v with
  | int i t => exact ⟨fun n => ofAClass_int n i t, fun n => .inl (hashBy_int n i t)⟩
  | str x t => exact ⟨fun n => by cases n <;> rfl, fun n => .inr (by cases n <;> rfl)⟩
  | _ => cases k <;> exact absurd h (by first | (intro z; exact Bool.noConfusion z) | decide)
theorem calm_all {k : List Key} {vs : List Value} (h : ItemsAre (mixKind P w) k vs) : ∀ v ∈ vs, Calm v := by
  induction h with
  | nil => exact fun v z => nomatch z
  | cons h1 _ ih =>
    intro v z
    cases z with
    | head => exact calm_of h1
    | tail _ z => exact ih v z
theorem noClass {k : List Key} {b : Addr} {Q : Bool → Shared → Prop} (key : Ky P w s.heap k b) (q : Q false s) : wpAny (model P w) A (ofAClassStatement 8 (.ref b)) Q E s := by
  have ty := key.typeIs
  obtain ⟨o, its, n, at_, _, dat, all⟩ := key
  unfold ofAClassStatement
  refine wpAny_bind (wpAny_typeOf ty ?_)
  dsimp only
  have tt : (("tuple" : String) == "tuple") = true := by decide
  simp only [tt, if_true, Bool.not_true, Bool.false_eq_true, if_false]
  try refine wpAny_bind (wpAny_pure ?_)
  try simp only [Bool.not_true, Bool.false_eq_true, if_false]
  show wpAny _ _ (seqItems? (.ref b) >>= _) _ _ s
  refine wpAny_bind (wpAny_seqItems at_ dat ?_)
  dsimp only
  refine wpAny_bind ?_
  show wpAny _ _ (forIn its _ _) _ _ s
  rw [← Array.forIn_toList]
  refine wpAny_forIn_list _ (fun more r s1 => r.1 = none ∧ s1 = s ∧ ∀ v ∈ more, Calm v) _ ?_ ?_ _ _ ⟨rfl, rfl, calm_all all⟩
  · rintro v more r s1 ⟨_, rfl, c⟩
    rw [(c v (.head _)).1]
    refine wpAny_bind (wpAny_pure ?_)
    simp only [Bool.false_eq_true, if_false]
    exact wpAny_pure ⟨rfl, rfl, fun u z => c u (.tail _ z)⟩
  · rintro ⟨r1, r2⟩ s1 ⟨z, rfl, _⟩
    simp only at z
    subst z
    exact wpAny_pure q
theorem anyHash {k : List Key} {b : Addr} {Q : Bool → Shared → Prop} (key : Ky P w s.heap k b) (q : ∀ c, Q c s) : wpAny (model P w) A (hashByValue 8 (.ref b)) Q E s := by
  have ty := key.typeIs
  obtain ⟨o, its, n, at_, _, dat, all⟩ := key
  unfold hashByValue
  refine wpAny_bind (wpAny_specialOf ty F.slot_tuple_hash.lookup ?_)
  show wpAny _ _ (seqItems? (.ref b) >>= _) _ _ s
  refine wpAny_bind (wpAny_seqItems at_ dat ?_)
  refine wpAny_bind ?_
  show wpAny _ _ (forIn its _ _) _ _ s
  rw [← Array.forIn_toList]
  refine wpAny_forIn_list _ (fun more r s1 => r.1 = none ∧ s1 = s ∧ ∀ v ∈ more, Calm v) _ ?_ ?_ _ _ ⟨rfl, rfl, calm_all all⟩
  · rintro v more r s1 ⟨_, rfl, c⟩
    rcases (c v (.head _)).2 7 with e | e
    · rw [e]
      refine wpAny_bind (wpAny_pure ?_)
      simp only [Bool.not_true, Bool.false_eq_true, if_false]
      exact wpAny_pure ⟨rfl, rfl, fun u z => c u (.tail _ z)⟩
    · rw [e]
      refine wpAny_bind (wpAny_pure ?_)
      simp only [Bool.not_false, if_true]
      exact wpAny_pure (wpAny_pure (q _))
  · rintro ⟨r1, r2⟩ s1 ⟨z, rfl, _⟩
    simp only at z
    subst z
    exact wpAny_pure (q _)
/-- nobody sees the search -/
theorem unseen {k : List Key} {b : Addr} {Q : Bool → Shared → Prop} (key : Ky P w s.heap k b) {ys : List Value} (others : ∀ y ∈ ys, ∃ m c, y = Value.ref c ∧ Ky P w s.heap m c) (q : Q false s) :
    wpAny (model P w) A (searchCouldBeSeen (.ref b) ys) Q E s := by
  unfold searchCouldBeSeen
  refine wpAny_bind ?_
  refine wpAny_forIn_list _ (fun more r s1 => r.1 = none ∧ s1 = s ∧ ∀ y ∈ more, ∃ m c, y = Value.ref c ∧ Ky P w s.heap m c) _ ?_ ?_ _ _ ⟨rfl, rfl, others⟩
  · rintro v more r s1 ⟨_, rfl, c⟩
    obtain ⟨m, d, rfl, kd⟩ := c v (.head _)
    have c' : ∀ y ∈ more, ∃ m c, y = Value.ref c ∧ Ky P w s1.heap m c := fun u z => c u (.tail _ z)
    dsimp only
    by_cases same : (b == d || (carriedByValue (.ref b) && carriedByValue (.ref d))) = true
    · exact wp_if_pos same (wpAny_pure ⟨rfl, rfl, c'⟩)
    · refine wp_if_neg same (wpAny_bind (wpAny_eqIsQuiet_tuple key ?_))
      simp only [Bool.not_true, Bool.false_eq_true, if_false]
      refine wpAny_bind (wpAny_eqIsQuiet_tuple kd ?_)
      simp only [Bool.not_true, Bool.false_eq_true, if_false]
      refine wpAny_bind (noClass key ?_)
      simp only [Bool.false_eq_true, if_false]
      refine wpAny_bind (noClass kd ?_)
      simp only [Bool.false_eq_true, if_false]
      exact wpAny_pure ⟨rfl, rfl, c'⟩
  · rintro ⟨r1, r2⟩ s1 ⟨z, rfl, _⟩
    simp only at z
    subst z
    exact wpAny_pure q
end
end TM

set_option maxHeartbeats 4000000
namespace TM
open PySem PySem.Spec PyProof.Rows L2
/-- the set at d has the rows rs -/
structure Bag (P : Program) (w : World) (h : Heap) (d : Addr) (rs : List (Addr × List Key)) (es : Array (Int × Value)) (ep : Nat) (t : SetTable) : Prop where
  here : ∃ o, h.get? d = some o ∧ o.ExactSet ∧ o.data = .set es ep t
  ents : es.toList = rs.map (ent P w)
  tab : TabOk t (rs.map fun r => hs1 P w r.2)
  dist : (rs.map Prod.snd).Nodup
  keys : ∀ r ∈ rs, Ky P w h r.2 r.1
  gap : rs.length * 5 < t.mask * 3
section
variable {P : Program} {w : World} {A : Around} {E : Value → Shared → Prop} {s : Shared} {d : Addr} {rs : List (Addr × List Key)} {es : Array (Int × Value)} {ep : Nat} {t : SetTable}
theorem ents_len (e : es.toList = rs.map (ent P w)) : es.size = rs.length := by
  rw [← Array.length_toList, e, List.length_map]
theorem Bag.len {h : Heap} (B : Bag P w h d rs es ep t) : es.size = rs.length := ents_len B.ents
theorem fits_of (h1 : t.place.size = es.size) (h2 : t.dummies = #[]) (h3 : es.size ≤ t.mask) : t.fits es.size = true := by
  unfold SetTable.fits SetTable.fill
  rw [h2, Bool.and_eq_true, beq_iff_eq, decide_eq_true_eq]
  exact ⟨h1, by rw [h1]; exact h3⟩
theorem Bag.fit {h : Heap} (B : Bag P w h d rs es ep t) : t.fits es.size = true := by
  have a := B.tab.sz
  have b := B.len
  have c := B.gap
  rw [List.length_map] at a
  exact fits_of (by omega) B.tab.dm (by omega)
theorem Bag.row {h : Heap} (B : Bag P w h d rs es ep t) {i : Nat} {r : Addr × List Key} (e : rs[i]? = some r) : es[i]? = some (ent P w r) := by
  rw [← Array.getElem?_toList, B.ents, List.getElem?_map, e]
  rfl
/-- the c-th place of the way of a hash -/
abbrev stp (t : SetTable) (x : Int) (c : Nat) : SetTable.Probe := nth t.mask (runAt t.mask (SetTable.bits x % (t.mask + 1)) (SetTable.bits x)) c
theorem stp_no (t : SetTable) (x : Int) : ∀ c, (stp t x c).dummy = none := by
  have : ∀ (c : Nat) (p : SetTable.Probe), p.dummy = none → (nth t.mask p c).dummy = none := fun c => by
    induction c with
    | zero => exact fun p z => z
    | succ c ih => exact fun p z => ih (adv t.mask p) (by unfold adv; split <;> exact z)
  exact fun c => this c _ rfl
theorem seek (B : Bag P w s.heap d rs es ep t) {x : Addr} {k : List Key} (key : Ky P w s.heap k x) (hu : A.units < cLine) {N : Nat} (short : N < 10 * SetTable.turns t.mask)
    (free : way t.mask (hs1 P w k) N ∉ t.place.toList) (busy : ∀ c, c < N → way t.mask (hs1 P w k) c ∈ t.place.toList) {Q : SetFound → Shared → Prop}
    (yes : k ∈ rs.map Prod.snd → Q (.there none) s) (no : k ∉ rs.map Prod.snd → Q (.free (way t.mask (hs1 P w k) N) false) s) :
    ∀ (g c : Nat) (from_ : Option SetTable.Probe), from_.getD (t.probeStart (hs1 P w k)) = stp t (hs1 P w k) c → c ≤ N → N < g + c →
      (∀ (i : Nat) r, rs[i]? = some r → r.2 = k → ∃ c', c ≤ c' ∧ c' < N ∧ t.place.toList[i]? = some (way t.mask (hs1 P w k) c')) →
      wpAny (model P w) A (setSearchFrom d (.ref x) (hs1 P w k) true g from_) Q E s
  | 0, c, _, _, h1, h2, _ => absurd h2 (by omega)
  | g + 1, c, from_, st, cN, gN, ahead => by
    obtain ⟨o, at_, ex, dat⟩ := B.here
    rw [setSearchFrom_succ]
    refine wpAny_bind (wpAny_setState_of at_ dat B.fit ?_)
    dsimp only
    have ng : ¬ t.gaveWay = true := by
      unfold SetTable.gaveWay
      rw [mask_odd B.tab.mok]
      decide
    refine wp_if_neg ng ?_
    try refine wpAny_bind (wpAny_pure ?_)
    have on : ∀ q, nth t.mask (stp t (hs1 P w k) c) q = stp t (hs1 P w k) (c + q) := fun q => (nth_add t.mask c _ q).symm
    have onj : ∀ q, (nth t.mask (stp t (hs1 P w k) c) q).j = way t.mask (hs1 P w k) (c + q) := fun q => congrArg SetTable.Probe.j (on q)
    have eN : c + (N - c) = N := by omega
    have hsh : ∀ (i : Nat) r, rs[i]? = some r → (es[i]?.map (·.1)).getD 0 = hs1 P w r.2 := fun i r e => by
      rw [B.row e]
      rfl
    rcases go_spec t B.tab.ris B.tab.dm (fun i => (es[i]?.map (·.1)).getD 0) (hs1 P w k) (10 * SetTable.turns t.mask) (N - c) _ (stp_no t (hs1 P w k) c) (by omega)
      (fun q z => by rw [onj]; exact busy (c + q) (by omega)) (by rw [onj, eN]; exact free) with ⟨q, i, lq, pi, hi, none_, goes⟩ | ⟨none_, goes⟩
    · have met : t.probe (fun i => (es[i]?.map (·.1)).getD 0) (hs1 P w k) (from_.getD (t.probeStart (hs1 P w k))) = some (.candidate (way t.mask (hs1 P w k) (c + q)) i (stp t (hs1 P w k) (c + (q + 1)))) := by
        rw [st, ← onj, ← on]
        exact goes
      rw [met]
      dsimp only
      rw [onj] at pi
      have il : i < rs.length := by
        have a := (List.getElem?_eq_some_iff.mp pi).1
        have b := B.tab.sz
        rw [List.length_map] at b
        rw [Array.length_toList] at a
        omega
      obtain ⟨r, er⟩ : ∃ r, rs[i]? = some r := ⟨_, List.getElem?_eq_getElem il⟩
      have mr := List.mem_of_getElem? er
      have go_on : wpAny (model P w) A (searchRest d (.ref x) (hs1 P w k) true g es t (way t.mask (hs1 P w k) (c + q)) i (stp t (hs1 P w k) (c + (q + 1)))) Q E s := by
        unfold searchRest
        rw [B.row er]
        dsimp only
        refine wpAny_bind (wpAny_holding (wpAny_eqBool_tuple hu (B.keys r mr) key ?_))
        refine wpAny_bind (wpAny_setState_of at_ dat B.fit ?_)
        dsimp only
        by_cases e : r.2 = k
        · exact wp_if_pos (by simp [e]) (wpAny_pure (yes (List.mem_map.mpr ⟨r, mr, e⟩)))
        · refine wp_if_neg (by simp [e]) ?_
          try refine wpAny_bind (wpAny_pure ?_)
          rw [sameMem]
          dsimp only
          have live := slot_live B.tab.ris pi
          simp only [if_true, live, B.row er]
          refine wpAny_bind (wpAny_isSame_ref_self (wpAny_bind (wpAny_pure ?_)))
          simp only [if_true]
          refine wp_if_neg (by simp [e]) ?_
          refine seek B key hu short free busy yes no g (c + (q + 1)) _ rfl (by omega) (by omega) fun i0 r0 e0 k0 => ?_
          obtain ⟨c', u1, u2, u3⟩ := ahead i0 r0 e0 k0
          refine ⟨c', ?_, u2, u3⟩
          have n1 : ¬ c' < c + q := fun z => none_ (c' - c) i0 (by omega) (by rw [onj, show c + (c' - c) = c' by omega]; exact u3) (by rw [hsh i0 r0 e0, k0])
          have n2 : c' ≠ c + q := fun z => by
            rw [z] at u3
            have l2 := slot_live B.tab.ris u3
            rw [live] at l2
            injection l2 with l2
            rw [← l2, er] at e0
            cases e0
            exact e k0
          omega
      by_cases hl : t.led = true
      · refine wp_if_neg (by simp [hl]) ?_
        try refine wpAny_bind (wpAny_pure ?_)
        exact go_on
      · refine wp_if_pos (by simp [hl]) (wpAny_bind (unseen key (fun y my => ?_) ?_))
        · obtain ⟨z, mz, ez⟩ := List.mem_map.mp my
          have mz2 : z ∈ es ∧ z.1 = hs1 P w k := by simpa using mz
          have mz3 : z ∈ es.toList := by simpa using mz2.1
          rw [B.ents] at mz3
          obtain ⟨r1, m1, e1⟩ := List.mem_map.mp mz3
          exact ⟨r1.2, r1.1, by rw [← ez, ← e1], B.keys r1 m1⟩
        · refine wp_if_neg (by decide) ?_
          try refine wpAny_bind (wpAny_pure ?_)
          exact go_on
    · have met : t.probe (fun i => (es[i]?.map (·.1)).getD 0) (hs1 P w k) (from_.getD (t.probeStart (hs1 P w k))) = some (.empty (way t.mask (hs1 P w k) N) none) := by
        have e : way t.mask (hs1 P w k) N = (nth t.mask (stp t (hs1 P w k) c) (N - c)).j := by rw [onj, eN]
        rw [st, e]
        exact goes
      rw [met]
      dsimp only
      refine wpAny_pure (no fun m => ?_)
      obtain ⟨r0, m0, k0⟩ := List.mem_map.mp m
      obtain ⟨i0, l0, e0⟩ := List.getElem_of_mem m0
      have e00 : rs[i0]? = some r0 := by rw [List.getElem?_eq_getElem l0, e0]
      obtain ⟨c', u1, u2, u3⟩ := ahead i0 r0 e00 k0
      exact none_ (c' - c) i0 (by omega) (by rw [onj, show c + (c' - c) = c' by omega]; exact u3) (by rw [hsh i0 r0 e00, k0])
theorem sought (B : Bag P w s.heap d rs es ep t) {x : Addr} {k : List Key} (key : Ky P w s.heap k x) (hu : A.units < cLine) {Q : SetFound → Shared → Prop} (yes : k ∈ rs.map Prod.snd → Q (.there none) s)
    (no : ∀ N, k ∉ rs.map Prod.snd → way t.mask (hs1 P w k) N ∉ t.place.toList → (∀ c, c < N → way t.mask (hs1 P w k) c ∈ t.place.toList) → Q (.free (way t.mask (hs1 P w k) N) false) s) :
    wpAny (model P w) A (setSearch d (.ref x) (hs1 P w k) true) Q E s := by
  have gap := B.gap
  obtain ⟨N, short, free, busy⟩ := B.tab.first (by rw [List.length_map]; omega) (hs1 P w k)
  have few : N < 100000 := by
    have : SetTable.turns t.mask ≤ 142 := by
      unfold SetTable.turns
      rcases B.tab.mok with e | e | e <;> omega
    omega
  unfold setSearch
  refine seek B key hu short free busy yes (fun z => no N z free busy) 100000 0 none rfl (Nat.zero_le _) (by omega) fun i r er kr => ?_
  have lr : (rs.map fun r => hs1 P w r.2)[i]? = some (hs1 P w k) := by
    rw [List.getElem?_map, er, ← kr]
    rfl
  have li : i < t.place.toList.length := by
    have a := (List.getElem?_eq_some_iff.mp er).1
    have b := B.tab.sz
    rw [List.length_map] at b
    rw [Array.length_toList]
    omega
  obtain ⟨c, hc, e⟩ := B.tab.before free lr (List.getElem?_eq_getElem li)
  exact ⟨c, Nat.zero_le _, hc, by rw [List.getElem?_eq_getElem li, e]⟩
end
end TM

set_option maxHeartbeats 4000000
namespace TM
open PySem PySem.Spec PyProof.Rows L2
section
variable {P : Program} {w : World} {A : Around} {E : Value → Shared → Prop} {s : Shared} {d : Addr} {rs : List (Addr × List Key)} {es : Array (Int × Value)} {ep : Nat} {t : SetTable}
/-- a key outlives a change of the set -/
theorem Ky.stays {h h' : Heap} {k : List Key} {b : Addr} {o : Obj} (key : Ky P w h k b) (at_ : h.get? d = some o) (dat : o.data = .set es ep t) (sb : Heap.SameBut d h h') : Ky P w h' k b := by
  obtain ⟨u, its, n, a1, a2, a3, a4⟩ := key
  refine ⟨u, its, n, (sb.2 b fun z => ?_).trans a1, a2, a3, a4⟩
  rw [z, at_] at a1
  cases a1
  rw [dat] at a3
  cases a3
/-- rows in another order -/
theorem in_order (e : es.toList = rs.map (ent P w)) {ord : List Nat} (pm : ord.Perm (List.range rs.length)) :
    ∃ rs' : List (Addr × List Key), ord.filterMap (fun i => es[i]?) = rs'.map (ent P w) ∧ rs'.Perm rs ∧ (rs'.map fun r => hs1 P w r.2) = ord.map fun i => (es.map (·.1)).getD i 0 := by
  have at_ : ∀ i (z : i < rs.length), es[i]? = some (ent P w rs[i]) := fun i z => by
    rw [← Array.getElem?_toList, e, List.getElem?_map, List.getElem?_eq_getElem z]
    rfl
  refine ⟨ord.filterMap fun i => rs[i]?, ?_, ?_, ?_⟩
  · rw [List.map_filterMap]
    congr 1
    funext i
    rw [← Array.getElem?_toList, e, List.getElem?_map]
  · have all : (List.range rs.length).filterMap (fun i => rs[i]?) = rs := by
      have : ∀ n, n ≤ rs.length → (List.range n).filterMap (fun i => rs[i]?) = rs.take n := fun n => by
        induction n with
        | zero => exact fun _ => by simp
        | succ n ih =>
          intro z
          rw [List.range_succ, List.filterMap_append, ih (by omega), Ca.take_more (List.getElem?_eq_getElem z)]
          congr 1
          simp [List.getElem?_eq_getElem (show n < rs.length from z)]
      have z := this rs.length (Nat.le_refl _)
      rw [List.take_length] at z
      exact z
    have := pm.filterMap fun i => rs[i]?
    rw [all] at this
    exact this
  · have : ∀ l : List Nat, (∀ i ∈ l, i < rs.length) → (l.filterMap fun i => rs[i]?).map (fun r => hs1 P w r.2) = l.map fun i => (es.map (·.1)).getD i 0 := fun l => by
      induction l with
      | nil => exact fun _ => rfl
      | cons i l ih =>
        intro z
        have li := z i (.head _)
        have g : (es.map (·.1)).getD i 0 = hs1 P w rs[i].2 := by
          have : (es.map (·.1))[i]? = some (hs1 P w rs[i].2) := by
            rw [Array.getElem?_map, at_ i li]
            rfl
          simp [Array.getD_eq_getD_getElem?, this]
        rw [List.filterMap_cons_some (List.getElem?_eq_getElem li), List.map_cons, List.map_cons, ih fun j m => z j (.tail _ m), g]
    exact this ord fun i m => List.mem_range.mp (pm.mem_iff.mp m)
/-- the table grows to 32 places -/
theorem grows {o : Obj} (at_ : s.heap.get? d = some o) (ex : o.ExactSet) (dat : o.data = .set es ep t) (ents : es.toList = rs.map (ent P w)) (sz : t.place.size = es.size) (dm : t.dummies = #[]) (fl : es.size ≤ t.mask)
    (dist : (rs.map Prod.snd).Nodup) (keys : ∀ r ∈ rs, Ky P w s.heap r.2 r.1) (l5 : rs.length = 5) {Q : Unit → Shared → Prop}
    (q : ∀ h' rs' es' ep' t', Heap.SameBut d s.heap h' → Bag P w h' d rs' es' ep' t' → rs'.Perm rs → Q () { s with heap := h' }) : wpAny (model P w) A (setRelay d (SetTable.grown 5)) Q E s := by
  have ln := ents_len ents
  obtain ⟨t', ord, e, pm, T, em, _, _, _⟩ := relaid_ok t (hs := es.map (·.1)) (wanted := SetTable.grown 5) (M := 31) (by rw [size_20]) (.inr (.inl rfl)) (by rw [Array.size_map, ln]; omega)
  rw [Array.size_map, ln] at pm
  obtain ⟨rs', r1, r2, r3⟩ := in_order ents pm
  rw [← r3] at T
  have r1' : (ord.filterMap (es[·]?)).toList = rs'.map (ent P w) := by
    rw [Array.toList_filterMap]
    exact r1
  have ln' : (ord.filterMap (es[·]?)).size = es.size := by rw [ents_len r1', r2.length_eq, ln]
  rw [setRelay_eq]
  refine wpAny_bind (wpAny_setState_of at_ dat (fits_of sz dm fl) ?_)
  dsimp only
  refine wp_if_neg (by rw [sizeLine_eq, size_20]; omega) ?_
  try refine wpAny_bind (wpAny_pure ?_)
  rw [e]
  dsimp only
  refine wpAny_bind (wp_if_neg (by rw [ln']; simp) ?_)
  try refine wpAny_bind (wpAny_pure ?_)
  refine wpAny_pure ?_
  dsimp only
  have sb : Heap.SameBut d s.heap (s.heap.update d (Obj.putSet (ord.filterMap (es[·]?)) t')) := Heap.SameBut.update ..
  refine wpAny_storeSet_of at_ dat (q _ rs' _ (ep + 1) t' sb ⟨⟨_, store_at at_ dat, ⟨ex.1, ex.2.1, ex.2.2⟩, rfl⟩, r1', T, (r2.map Prod.snd).nodup_iff.mpr dist, fun r m => (keys r (r2.mem_iff.mp m)).stays at_ dat sb, ?_⟩ r2) (by rw [ln', ln, sizeLine_eq]; omega)
  rw [r2.length_eq, em]
  omega
theorem adds (B : Bag P w s.heap d rs es ep t) {x : Addr} {k : List Key} (key : Ky P w s.heap k x) (hu : A.units < cLine) (few : rs.length ≤ 16) {Q : Bool → Shared → Prop}
    (q : ∀ b h' rs' es' ep' t', Heap.SameBut d s.heap h' → Bag P w h' d rs' es' ep' t' → (k ∈ rs.map Prod.snd → rs' = rs) → (k ∉ rs.map Prod.snd → rs'.Perm ((x, k) :: rs)) → Q b { s with heap := h' }) :
    wpAny (model P w) A (setAddHashed d (.ref x) (hs1 P w k)) Q E s := by
  obtain ⟨o, at_, ex, dat⟩ := B.here
  have ln := B.len
  have gap := B.gap
  unfold setAddHashed
  refine wpAny_holding ?_
  rw [show (100000 : Nat) = 99999 + 1 from rfl, setAddHashedIn_succ]
  refine wpAny_bind (wpAny_setState_of at_ dat B.fit ?_)
  dsimp only
  refine wp_if_neg (by simp [byScan, Value.scannable]) ?_
  try refine wpAny_bind (wpAny_pure ?_)
  refine wpAny_bind (sought B key hu (fun m => ?_) fun N m free busy => ?_)
  · dsimp only
    exact wpAny_pure (q false s.heap rs es ep t (Heap.SameBut.refl d s.heap) B (fun _ => rfl) fun z => absurd m z)
  · dsimp only
    refine wpAny_bind (wpAny_setState_of at_ dat B.fit ?_)
    dsimp only
    obtain ⟨p1, p2, p3, p4, _, _, _, _, p9⟩ := B.tab.put free busy
    generalize hpt : t.put (way t.mask (hs1 P w k) N) = pt at p1 p3 p4 p9 ⊢
    obtain ⟨t1, p⟩ := pt
    dsimp only at p1 p3 p4 p9 ⊢
    subst p1
    have rest : ∀ t2 : SetTable, t2.place = t1.place → t2.dummies = t1.dummies → t2.mask = t1.mask → t2.fill = t1.fill → TabOk t2 ((rs.map fun r => hs1 P w r.2).take (SetTable.below t.place (way t.mask (hs1 P w k) N)) ++ hs1 P w k :: (rs.map fun r => hs1 P w r.2).drop (SetTable.below t.place (way t.mask (hs1 P w k) N))) →
        wpAny (model P w) A (do
          storeSet d (SetTable.insertAt es (SetTable.below t.place (way t.mask (hs1 P w k) N)) (hs1 P w k, Value.ref x)) t2
          if !false && t2.tooFull then setRelay d (SetTable.grown (es.size + 1))
          return true) Q E s := by
      intro t2 e1 e2 e3 e4 T2
      have ins : (SetTable.insertAt es (SetTable.below t.place (way t.mask (hs1 P w k) N)) (hs1 P w k, Value.ref x)).toList = (rs.take (SetTable.below t.place (way t.mask (hs1 P w k) N)) ++ (x, k) :: rs.drop (SetTable.below t.place (way t.mask (hs1 P w k) N))).map (ent P w) := by
        rw [SetTable.toList_insertAt, B.ents, List.map_append, List.map_cons, List.map_take, List.map_drop]
      generalize SetTable.below t.place (way t.mask (hs1 P w k) N) = p at p2 T2 ins ⊢
      have pm : (rs.take p ++ (x, k) :: rs.drop p).Perm ((x, k) :: rs) := put_perm rs p (x, k)
      have hhs : ((rs.map fun r => hs1 P w r.2).take p ++ hs1 P w k :: (rs.map fun r => hs1 P w r.2).drop p) = (rs.take p ++ (x, k) :: rs.drop p).map fun r => hs1 P w r.2 := by
        rw [List.map_append, List.map_cons, List.map_take, List.map_drop]
      rw [hhs] at T2
      generalize rs.take p ++ (x, k) :: rs.drop p = rs1 at pm T2 ins
      generalize SetTable.insertAt es p (hs1 P w k, Value.ref x) = es1 at ins ⊢
      have l1 : rs1.length = rs.length + 1 := pm.length_eq
      have z1 : es1.size = rs.length + 1 := by rw [ents_len ins, l1]
      have dist1 : (rs1.map Prod.snd).Nodup := (pm.map Prod.snd).nodup_iff.mpr (List.nodup_cons.mpr ⟨m, B.dist⟩)
      have sb : Heap.SameBut d s.heap (s.heap.update d (Obj.putSet es1 t2)) := Heap.SameBut.update ..
      have at1 := store_at (es' := es1) (t' := t2) at_ dat
      refine wpAny_bind (wpAny_storeSet_of at_ dat ?_ (by rw [z1, sizeLine_eq]; omega))
      generalize s.heap.update d (Obj.putSet es1 t2) = h1 at sb at1 ⊢
      have keys1 : ∀ r ∈ rs1, Ky P w h1 r.2 r.1 := fun r mr => by
        rcases List.mem_cons.mp (pm.mem_iff.mp mr) with e | mr
        · rw [e]
          exact key.stays at_ dat sb
        · exact (B.keys r mr).stays at_ dat sb
      have sz1 : t2.place.size = es1.size := by
        have := T2.sz
        rw [List.length_map, l1] at this
        rw [this, z1]
      by_cases full : t2.tooFull = true
      · have f5 : (rs.length + 1) * 5 ≥ t.mask * 3 := by
          have z := full
          unfold SetTable.tooFull at z
          rw [decide_eq_true_eq, e4, p9, List.length_map, e3, p4] at z
          exact z
        have four : t.mask = 7 ∧ rs.length = 4 := by
          rcases B.tab.mok with e | e | e
          · exact ⟨e, by omega⟩
          · omega
          · omega
        have gr : SetTable.grown (es.size + 1) = SetTable.grown 5 := by rw [ln, four.2]
        rw [gr]
        refine wp_if_pos (by simp [full]) (wpAny_bind ?_)
        refine grows (s := { s with heap := h1 }) at1 ⟨ex.1, ex.2.1, ex.2.2⟩ rfl ins sz1 T2.dm (by rw [z1, e3, p4]; omega) dist1 keys1 (by omega) fun h2 rs2 es2 ep2 t3 sb2 B2 pm2 => ?_
        exact wpAny_pure (q true h2 rs2 es2 ep2 t3 (sb.trans sb2) B2 (fun z => absurd z m) fun _ => pm2.trans pm)
      · refine wp_if_neg (by simp [full]) (wpAny_pure (q true h1 rs1 es1 (ep + 1) t2 sb ⟨⟨_, at1, ⟨ex.1, ex.2.1, ex.2.2⟩, rfl⟩, ins, T2, dist1, keys1, ?_⟩ (fun z => absurd z m) fun _ => pm))
        have z := full
        unfold SetTable.tooFull at z
        rw [decide_eq_true_eq, e4, p9, List.length_map] at z
        rw [l1]
        omega
    have lit : ∀ b : Bool, TabOk (if b = true then t1 else { t1 with plain := false }) ((rs.map fun r => hs1 P w r.2).take (SetTable.below t.place (way t.mask (hs1 P w k) N)) ++ hs1 P w k :: (rs.map fun r => hs1 P w r.2).drop (SetTable.below t.place (way t.mask (hs1 P w k) N))) := fun b => by
      cases b with
      | true => exact p3
      | false => exact ⟨p3.ris, p3.dm, p3.sz, p3.mok, p3.bd, p3.reach⟩
    by_cases pl : t1.plain = true
    · refine wp_if_pos pl (wpAny_bind (anyHash key fun b => ?_))
      refine rest _ ?_ ?_ ?_ ?_ (lit b) <;> cases b <;> rfl
    · refine wp_if_neg pl (wpAny_bind (wpAny_pure ?_))
      exact rest t1 rfl rfl rfl rfl p3
end
end TM

set_option maxHeartbeats 4000000
namespace TM
open PySem PySem.Spec PyProof.Rows L2
/-- the set, without the tuples themselves -/
def Bag0 (P : Program) (w : World) (h : Heap) (d : Addr) (rs : List (Addr × List Key)) : Prop := ∃ (es : Array (Int × Value)) (ep : Nat) (t : SetTable), (∃ o, h.get? d = some o ∧ o.ExactSet ∧ o.data = .set es ep t) ∧ es.toList = rs.map (ent P w) ∧
  TabOk t (rs.map fun r => hs1 P w r.2) ∧ (rs.map Prod.snd).Nodup ∧ rs.length * 5 < t.mask * 3
theorem Bag.bare {P : Program} {w : World} {h : Heap} {d : Addr} {rs : List (Addr × List Key)} {es : Array (Int × Value)} {ep : Nat} {t : SetTable} (B : Bag P w h d rs es ep t) : Bag0 P w h d rs := ⟨es, ep, t, B.here, B.ents, B.tab, B.dist, B.gap⟩
def BagO (P : Program) (w : World) (d : Addr) (rs : List (Addr × List Key)) : HO := .ext fun h => Bag0 P w h d rs
theorem bag_new {P : Program} {w : World} {H : Hp} {h : Heap} {d : Addr} {rs : List (Addr × List Key)} (B : Bag0 P w h d rs) : ObjOk P w H h d (BagO P w d rs) := by
  have ⟨_, _, _, ⟨o, at_, _⟩, _⟩ := B
  refine ⟨B, ⟨o, at_⟩, fun h1 h2 p k => ?_⟩
  have ⟨es, ep, t, ⟨u, au, ru⟩, more⟩ := p
  exact ⟨es, ep, t, ⟨u, k u au, ru⟩, more⟩
theorem bag_fresh {P : Program} {w : World} {h : Heap} {d : Addr} (at_ : h.get? d = some (Ca.eSet w)) : Bag0 P w h d [] :=
  ⟨#[], 0, _, ⟨_, at_, ⟨rfl, rfl, rfl⟩, rfl⟩, rfl, ⟨List.Pairwise.nil, rfl, rfl, .inl rfl, (fun x z => nomatch z), (fun i y j z => by simp at z)⟩, List.nodup_nil, by show 0 * 5 < 7 * 3; decide⟩
section
variable {X : Cx}
/-- set.add of a tuple -/
theorem add_key {pins : List (Addr × Obj)} {σ : L2.St} {H : Hp} {s : Shared} {E : Value → Shared → Prop} {D x : Addr} {k : List Key} {rs : List (Addr × List Key)} {u : Value} {Q : Value → Shared → Prop} (I : Inv X pins σ H s) (hu : X.A.units + 1 < cLine)
    (hD : H D = some (BagO X.prog X.w D rs)) (few : rs.length ≤ 16) (hx : H x = some (.tup (k.map kV))) (hr : ∀ r ∈ rs, H r.1 = some (.tup (r.2.map kV))) (ru : RelV (.ref x) u)
    (q : ∀ rs' s', (k ∈ rs.map Prod.snd → rs' = rs) → (k ∉ rs.map Prod.snd → rs'.Perm ((x, k) :: rs)) → Inv X pins σ (upd H D (BagO X.prog X.w D rs')) s' → Q .none s') : wpAny (model X.prog X.w) X.A (call (.builtin "set.add") [.ref D, u]) Q E s := by
  cases ru
  obtain ⟨es, ep, t, ⟨o, at_, ex, dat⟩, ents, tab, dist, gap⟩ := (show Bag0 X.prog X.w s.heap D rs from (I.hok D _ hD).1)
  have kx : Ky X.prog X.w s.heap k x := key_of I.hok hx
  have B : Bag X.prog X.w s.heap D rs es ep t := ⟨⟨o, at_, ex, dat⟩, ents, tab, dist, fun r m => key_of I.hok (hr r m), gap⟩
  have ty : s.TypeIs (.ref D) "set" := ⟨o, at_, ex.1⟩
  refine wpAny_call_entry F.slot_set_add ty F.entry_set_add ?_ (F.args_set_add_2 _ _)
  unfold Builtin.«set.add» Builtin.Frozenset.oneOther
  simp only [List.isEmpty_nil, bind_assoc]
  unfold Builtin.Frozenset.addrOf setAdd
  refine wpAny_bind (wpAny_pure ?_)
  try dsimp only
  refine wpAny_bind (wpAny_pure ?_)
  try dsimp only
  refine wpAny_bind (wpAny_holding (wpAny_bind (wpAny_pyHash_tuple hu kx ?_)))
  refine adds (s := { s with toks := s.toks + (k.length + 1) }) B kx hu few fun b h' rs' es' ep' t' sb B' c1 c2 => ?_
  show wpAny _ _ (ret Value.none) _ _ _
  refine wpAny_pure ⟨_, rfl, q rs' _ c1 c2 ?_⟩
  obtain ⟨o', at', _⟩ := B'.here
  exact I.write (e := D) (t' := s.toks + (k.length + 1)) (by rw [hD]; trivial) (.inl rfl) (fun b u hb e => (sb.2 b hb).trans e) ⟨o', at'⟩ (bag_new B'.bare)
/-- {elt for .. in .. if ..}, elt a tuple of ints and texts: D the new set -/
def tSc1 (P : Program) (w : World) (wi : TI) (g : TG) (tt : TT) (te : TE) (vs : List Nat) : TE := fun σ H Q => wi σ H fun J H1 => ∀ D, H1 D = none → ∃ W : Nat → Nat → Hp → Prop, (∃ m, W 0 m (upd H1 D (BagO P w D []))) ∧ ∀ i m H, W i m H →
  (J.stop i H ∧ Q (.ref D) H) ∨ (J.go i H ∧ ∃ Nx : Hp → Prop, (∀ H', Nx H' → ∃ m', m' < m ∧ W (i + 1) m' H') ∧
    ∀ x H', J.yld i H x H' → g x (wipe σ vs) H' fun σ2 H2 => wipe σ2 vs = wipe σ vs ∧ tt σ2 H2 fun b H3 =>
      if b = true then te σ2 H3 fun y H4 => ∃ (a : Addr) (k : List Key) (rs : List (Addr × List Key)), y = .ref a ∧ H4 a = some (.tup (k.map kV)) ∧ H4 D = some (BagO P w D rs) ∧ rs.length ≤ 16 ∧ (∀ r ∈ rs, H4 r.1 = some (.tup (r.2.map kV))) ∧
        ∀ rs', (k ∈ rs.map Prod.snd → rs' = rs) → (k ∉ rs.map Prod.snd → rs'.Perm ((a, k) :: rs)) → Nx (upd H4 D (BagO P w D rs'))
      else Nx H3)
theorem pe_sc1 {elt a0 b0 : Expr} {c0 : List Expr} {scope : Scope} {own : List (PySem.Str × Nat)} {pos : Pos} {wi : TI} {g : TG} {tt : TT} {te : TE} (hu : X.A.units + 1 < cLine)
    (hc : X.calm = true) (hN : X.N.Nodup) (hi : PI X a0 b0 wi) (ok : BlkOk X.N X.env.scope scope own)
    (hg : ∀ (s : Shared) (H : Hp) (C : Addr) (cl : List (PySem.Str × Addr)) (fq : List Addr), PG (X.blk s H scope (compEnvC scope cl C X.env) fq) a0 g) (ht : ∀ (s : Shared) (H : Hp) (C : Addr) (cl : List (PySem.Str × Addr)) (fq : List Addr), PTs (X.blk s H scope (compEnvC scope cl C X.env) fq) c0 tt)
    (he : ∀ (s : Shared) (H : Hp) (C : Addr) (cl : List (PySem.Str × Addr)) (fq : List Addr), PE (X.blk s H scope (compEnvC scope cl C X.env) fq) elt te) (f0 : ∀ x, foldedSetIterable b0 X.env x = pure x := by intro _; rfl) :
    PE X (.SetComp elt [⟨a0, b0, c0, 0⟩] scope pos) (tSc1 X.prog X.w wi g tt te (own.map (·.2))) := by
  refine ⟨fun pins s σ H Q I h => ?_⟩
  rw [PpSet.eval_SetComp]
  have free : ∀ y ∈ scope.names, y.2 = .free → ∃ c, X.env.cells.lookup y.1 = some c := fun y hy e =>
    (ok.free y hy e).elim (fun k => I.ok.has _ (.inl k)) (fun k => I.ok.has _ (.inr k))
  refine wpAny_comprehension_free (use := none) rfl f0 (closure_ok free) ok.kind (fun y hy e => by rw [ok.uniq y hy, e]) ?_
  refine thn (hi.run pins s σ H _ I h) fun xv s1 hx => thn hx fun itv s2 h2 => ?_
  obtain ⟨it, fp, tn, J, H2, rfl, I2, T, st2, fpo, q⟩ := h2
  refine PpSet.newSet_ok (newEnv_comp ?_)
  generalize hD : s2.heap.objs.size = D
  obtain ⟨W, ⟨m0, w0⟩, turn⟩ := q D (I2.hok.fresh (Nat.le_of_eq hD))
  generalize hs3 : ({ s2 with heap := s2.heap.push (Ca.eSet X.w) } : Shared) = s3
  have e3 : s3.heap = s2.heap.push (Ca.eSet X.w) := by rw [← hs3]
  have I3 : Inv X pins σ (upd H2 D (BagO X.prog X.w D [])) s3 := by
    subst hs3 hD
    exact I2.laid (t' := s2.toks) (fun b o e => Heap.get?_push_of_some _ e) (Nat.le_refl _) (bag_new (bag_fresh (Heap.get?_push_size _ rfl)))
  have low : ∀ b ∈ fp, b < s2.heap.objs.size := fun b hb =>
    let ⟨_, e, _⟩ := T.obj _ _ st2 b hb
    Heap.lt_size e
  have fpo3 : ∀ b ∈ fp, FpOk X pins (upd H2 D (BagO X.prog X.w D [])) b ∧ b < s3.heap.objs.size := fun b hb => by
    have lt := low b hb
    refine ⟨⟨?_, (fpo b hb).2⟩, by rw [e3, Heap.size_push]; exact Nat.lt_succ_of_lt lt⟩
    rw [upd_ne (by subst hD; exact Nat.ne_of_lt lt)]
    exact (fpo b hb).1
  have st3 : tn 0 s3.heap := T.keep _ _ _ st2 fun b _ o e => by rw [e3]; exact Heap.get?_push_of_some _ e
  have I4 := block_start I3 ok hN fpo3
  generalize hcl : cellsFrom (s3.heap.objs.size + 1) scope.names (cloFrom X.env.cells scope.names []) = cl at I4 ⊢
  have qg := hg s3 (upd H2 D (BagO X.prog X.w D [])) s3.heap.objs.size cl fp
  have qt := ht s3 (upd H2 D (BagO X.prog X.w D [])) s3.heap.objs.size cl fp
  have qe := he s3 (upd H2 D (BagO X.prog X.w D [])) s3.heap.objs.size cl fp
  have non3 : ∀ b ∈ fp, (upd H2 D (BagO X.prog X.w D [])) b = none := fun b hb => (fpo3 b hb).1.1
  show codeAny _ _ (.compStart (.SetComp elt [⟨a0, b0, c0, 0⟩] scope pos) 0 (.ref it) (.ref D) (compEnvC scope cl s3.heap.objs.size X.env)) (compPost (model X.prog X.w) X.A X.xe none _ (.ref D) s3.heap.objs.size)
    { s3 with heap := pushCells (s3.heap.push { cls := .type "dict", data := .dict #[] }) scope.names }
  generalize hce : compEnvC scope cl s3.heap.objs.size X.env = ce at I4 qg qt qe ⊢
  have loc : ce.locals = s3.heap.objs.size := by subst hce; rfl
  generalize hH3 : upd H2 D (BagO X.prog X.w D []) = H3 at I3 I4 qg qt qe w0 non3 fpo3
  generalize hs4 : ({ s3 with heap := pushCells (s3.heap.push { cls := .type "dict", data := .dict #[] }) scope.names } : Shared) = s4 at I4 ⊢
  have st4 : tn 0 s4.heap := T.keep _ _ _ st3 fun b _ o e => by
    subst hs4
    exact pushCells_keeps _ _ _ _ (Heap.get?_push_of_some _ e)
  let Y : Cx := X.blk s3 H3 scope ce fp
  have okFp : ∀ {σ' : L2.St} {H' : Hp} {s' : Shared}, Inv Y [] σ' H' s' → (∀ b ∈ fp, H' b = none) → ∀ b ∈ fp, FpOk Y [] H' b := fun {σ' H' s'} K hn b hb =>
    ⟨hn b hb, (K.ok.exf b hb).1, K.ok.exfs b hb, .inl hb, fun x c e => (K.ok.exf b hb).2 x c e,
      fun p hp => absurd (show p ∈ ([] : List (Addr × Obj)) ++ [] from hp) (by simp)⟩
  generalize hvs : own.map (·.2) = vs at turn I4
  have loop : codeAny (model X.prog X.w) X.A (.compLoop (.SetComp elt [⟨a0, b0, c0, 0⟩] scope pos) 0 (.ref it) (.ref D) ce)
      (compPost (model X.prog X.w) X.A X.xe none (EP X pins σ Q) (.ref D) s3.heap.objs.size) s4 := by
    refine PpSet.compLoopS_any (fun n s' => ∃ i H', Inv Y [] (wipe σ vs) H' s' ∧ tn i s'.heap ∧ (∀ b ∈ fp, H' b = none) ∧ W i n H') ?_ m0 ⟨0, H3, I4, st4, non3, w0⟩
    rintro n s5 ⟨i, H5, I5, st5, n5, w5⟩
    rcases turn i n H5 w5 with ⟨stop, fin⟩ | ⟨go, Nx, hNx, step⟩
    · refine thnF (T.done Y rfl rfl rfl hc i [] s5 _ H5 (fun _ _ => False) I5 (okFp I5 n5) st5 stop) fun r s6 ⟨hr, I6⟩ => ?_
      subst hr
      have I7 : Inv X pins σ H5 s6 := I3.call' (ch := fp) I6.os I6.base I6.hok I6.bare fun b hb =>
        ⟨(fpo3 b hb).1.2.2.2.1, (fpo3 b hb).1.2.1, (fpo3 b hb).1.2.2.2.2.1, (fpo3 b hb).1.2.2.2.2.2⟩
      have nC : H5 s3.heap.objs.size = none := by
        have z : H5 ce.locals = none := I6.free
        rwa [loc] at z
      obtain ⟨m, hm, _⟩ := I6.loc
      have hm : s6.heap.Ns ce.locals m := hm
      rw [loc] at hm
      obtain ⟨z0, z1, z2, z3, z4, z5⟩ := I3.fpOk (Nat.le_refl _) nC
      refine ⟨m, hm, fun h'' sb => ⟨.ref D, H5, I7.turned (t' := s6.toks) (fun b o hb e => ?_) z0 z1 z3 z4 z5, rfl, fin⟩⟩
      exact (sb.2 b hb).trans e
    · refine thnF (T.item Y rfl rfl rfl hc i [] s5 _ H5 (fun _ _ => False) I5 (okFp I5 n5) st5 go) fun r s6 ⟨u, hr, h6⟩ => ?_
      subst hr
      refine thnF h6 fun _ s7 ⟨x, H7, I7, r7, y7, st7, n7⟩ => ?_
      refine thnF (qg.run _ s7 _ H7 x u _ (I7.pinned (okFp I7 n7) (T.obj _ _ st7)) r7 (step x H7 y7)) fun _ s8 ⟨σ8, H8, I8, w8, q8⟩ => ?_
      refine thnF (qt.run _ s8 σ8 H8 _ I8 q8) fun b s9 ⟨H9, I9, q9⟩ => ?_
      have close : ∀ {s' : Shared} {H' : Hp}, Inv Y ([] ++ pinsAt fp s7.heap) σ8 H' s' → Nx H' →
          ∃ m, m < n ∧ ∃ i H', Inv Y [] (wipe σ vs) H' s' ∧ tn i s'.heap ∧ (∀ b ∈ fp, H' b = none) ∧ W i m H' := fun {s' H'} K nx => by
        obtain ⟨m', hm, w'⟩ := hNx H' nx
        have held : ∀ b ∈ fp, ∀ o, s7.heap.get? b = some o → s'.heap.get? b = some o ∧ H' b = none := fun b hb o e =>
          let z := K.pin (b, o) (List.mem_append_right _ (List.mem_append_right _ (mem_pinsAt hb e)))
          ⟨z.1, z.2.1⟩
        refine ⟨m', hm, i + 1, H', (K.unpinned (pins := [])).weak (by rw [← w8, wipe_length]) (fun j v e => ?_), T.keep _ _ _ st7 fun b hb o e => (held b hb o e).1, fun b hb => ?_, w'⟩
        · rw [← w8] at e
          exact (wipe_some e).1
        · obtain ⟨o, e, _⟩ := T.obj _ _ st7 b hb
          exact (held b hb o e).2
      cases b with
      | false =>
        simp only [Bool.false_eq_true, if_false] at q9 ⊢
        exact close I9 q9
      | true =>
        simp only [if_true] at q9 ⊢
        refine thnF (qe.run _ s9 σ8 H9 _ I9 q9) fun z s10 ⟨yv, H10, I10, r10, a, k, rs, ey, ha, d10, few, hrs, nx⟩ => ?_
        subst ey
        exact add_key (X := Y) I10 hu d10 few ha hrs r10 fun rs' s11 c1 c2 I11 => close I11 (nx rs' c1 c2)
  exact PpSet.codeAny_compStart_set loop (T.self X.A 0 _ _ _ st4 loop)
/-- len of it -/
def rLenBag (P : Program) (w : World) : List V → Hp → VK → Prop := fun xs H Q => ∃ (a : Addr) (rs : List (Addr × List Key)), xs = [.ref a] ∧ H a = some (BagO P w a rs) ∧ rs.length ≤ 1000 ∧ Q (.int (rs.length : Nat)) H
theorem cr_lenBag : CallR X (.builtin "len") (rLenBag X.prog X.w) := by
  intro pins s σ H xs us Q I r h
  obtain ⟨a, rs, rfl, ha, few, q⟩ := h
  cases r with
  | cons r rr =>
    cases rr
    cases r
    obtain ⟨es, ep, t, ⟨o, at_, ex, dat⟩, ents, tab, dist, gap⟩ := (show Bag0 X.prog X.w s.heap a rs from (I.hok a _ ha).1)
    have ln := ents_len ents
    have sz := tab.sz
    rw [List.length_map] at sz
    refine call_len_set at_ ex dat (fits_of (by omega) tab.dm (by omega)) (by omega) ⟨.int (rs.length : Nat), H, (I.tok _).tok _, ⟨_, by rw [ln]⟩, q⟩
end
end TM

set_option maxHeartbeats 4000000
namespace TM
open PySem PySem.Spec PyProof.Rows L2 Ca
def kD : Key → PyData
  | .inl i => .int i
  | .inr x => .str x
theorem key_rp {H : Hp} : ∀ {k : List Key} {xs : List V}, RpA H xs (k.map kD) → xs = k.map kV
  | [], _, .nil => rfl
  | .inl i :: k, _, .cons h r => by
    cases h
    rw [key_rp r]
    rfl
  | .inr x :: k, _, .cons h r => by
    cases h
    rw [key_rp r]
    rfl
open Classical in
/-- each key once -/
noncomputable def onceIn (acc : List (List Key)) (k : List Key) : List (List Key) := if k ∈ acc then acc else k :: acc
noncomputable def once (l : List (List Key)) : List (List Key) := l.foldl onceIn []
theorem once_snoc (l : List (List Key)) (k : List Key) : once (l ++ [k]) = onceIn (once l) k := by
  unfold once
  rw [List.foldl_append]
  rfl
theorem fold_mem : ∀ (l acc : List (List Key)) (k : List Key), k ∈ l.foldl onceIn acc ↔ k ∈ acc ∨ k ∈ l
  | [], acc, k => by simp
  | x :: l, acc, k => by
    rw [List.foldl_cons, fold_mem l, List.mem_cons]
    unfold onceIn
    split
    · rename_i h
      constructor
      · rintro (z | z)
        · exact .inl z
        · exact .inr (.inr z)
      · rintro (z | z | z)
        · exact .inl z
        · rw [z]
          exact .inl h
        · exact .inr z
    · rw [List.mem_cons]
      constructor
      · rintro ((z | z) | z)
        · exact .inr (.inl z)
        · exact .inl z
        · exact .inr (.inr z)
      · rintro (z | z | z)
        · exact .inl (.inr z)
        · exact .inl (.inl z)
        · exact .inr z
theorem once_mem {l : List (List Key)} {k : List Key} : k ∈ once l ↔ k ∈ l := by
  unfold once
  rw [fold_mem]
  simp
theorem once_len (l : List (List Key)) : (once l).length ≤ l.length ∧ ((once l).length = l.length ↔ l.Nodup) := by
  have : ∀ n, ∀ l : List (List Key), l.length = n → (once l).length ≤ l.length ∧ ((once l).length = l.length ↔ l.Nodup) := by
    intro n
    induction n with
    | zero =>
      intro l h
      have : l = [] := List.eq_nil_of_length_eq_zero h
      subst this
      exact ⟨Nat.le_refl _, by simp [once]⟩
    | succ n ih =>
      intro l h
      have hne : l ≠ [] := fun z => by rw [z] at h; cases h
      obtain ⟨m, k, rfl⟩ : ∃ m k, l = m ++ [k] := ⟨l.dropLast, l.getLast hne, (List.dropLast_concat_getLast hne).symm⟩
      have hm : m.length = n := by simpa using h
      obtain ⟨i1, i2⟩ := ih m hm
      rw [once_snoc]
      have nd : (m ++ [k]).Nodup ↔ m.Nodup ∧ k ∉ m := by
        rw [List.nodup_append]
        constructor
        · rintro ⟨a, _, c⟩
          exact ⟨a, fun z => c k z k (by simp) rfl⟩
        · rintro ⟨a, b⟩
          exact ⟨a, by simp, fun x hx y hy e => b (by rw [List.mem_singleton] at hy; rw [← hy, ← e]; exact hx)⟩
      unfold onceIn
      by_cases hk : k ∈ once m
      · rw [if_pos hk, List.length_append]
        simp only [List.length_cons, List.length_nil]
        refine ⟨by omega, ⟨fun z => by omega, fun z => absurd (once_mem.mp hk) (nd.mp z).2⟩⟩
      · rw [if_neg hk, List.length_append]
        simp only [List.length_cons, List.length_nil]
        refine ⟨by omega, ?_⟩
        rw [nd]
        have e1 : (once m).length + 1 = m.length + (0 + 1) ↔ (once m).length = m.length := by omega
        rw [e1, i2]
        exact ⟨fun z => ⟨z, fun y => hk (once_mem.mpr y)⟩, fun z => z.1⟩
  exact this l.length l rfl
section
variable {P : Program} {w : World} {σ : L2.St} {F : Hp} {wi : TI} {g : TG} {tt : TT} {te : TE} {vs : List Nat} {α : Type} {enc : α → PyData} {as : List α} {ev : α → List Key}
/-- len({elt for .. in ..}) -/
theorem e_lenSc (hi : ItP wi σ F (as.map enc)) (hz : as.length ≤ 17) (ht : ∀ a ∈ as, Turn g tt te σ vs F (enc a) true (.tuple ((ev a).map kD))) :
    EvD (tCB (rLenBag P w) (tCons (tSc1 P w wi g tt te vs) tNil)) σ F (.int ((once (as.map ev)).length : Nat)) := fun S H1 f s Q q => hi S H1 f s _ fun J H2 s2 it D hD => by
  have f2 := f.mono s2
  have sF := s.trans (offS_mono (S := S) s2)
  let Inv1 : Nat → Hp → Prop := fun i H' => Same H2 H' ∧ ∃ rs, H' D = some (BagO P w D rs) ∧ (rs.map Prod.snd).Perm (once ((as.take i).map ev)) ∧ ∀ r ∈ rs, H' r.1 = some (.tup (r.2.map kV))
  refine ⟨fun i m H' => m = as.length - i ∧ i ≤ as.length ∧ Inv1 i H', ⟨as.length, by simp, Nat.zero_le _, same_new hD, [], upd_same, List.Perm.refl _, fun r z => nomatch z⟩, ?_⟩
  rintro i m H' ⟨rfl, hi, s3, rs, hrs, pm, hk⟩
  have f3 : Fr S H' := f2.mono s3
  have jt := it S H' i f3 (offS_mono s3)
  rw [List.length_map] at jt
  by_cases hlt : i < as.length
  · obtain ⟨go, yl⟩ := jt.1 hlt
    refine .inr ⟨go, Inv1 (i + 1), fun H'' p' => ⟨as.length - (i + 1), by omega, rfl, hlt, p'⟩, fun x H'' y => ?_⟩
    have ha : as[i]? = some as[i] := List.getElem?_eq_getElem hlt
    obtain ⟨s5, d, hd, rx⟩ := yl x H'' y
    rw [List.getElem?_map, ha] at hd
    cases hd
    have f5 := f3.mono s5
    have e1 : as.take (i + 1) = as.take i ++ [as[i]] := take_more ha
    have sX := sF.trans (offS_mono (S := S) (s3.trans s5))
    refine ht as[i] (List.getElem_mem hlt) x (offS S H'') sX rx S H'' f5 (Same.refl _) _ fun σ2 ⟨ww, hb, he⟩ => ⟨ww, hb S H'' f5 (Same.refl _) _ fun H3 s6 => ?_⟩
    refine he rfl S H3 (f5.mono s6) (offS_mono s6) _ fun v H4 s7 r4 => ?_
    obtain ⟨a, xs, rfl, h4, r5⟩ := rp_tup r4
    rw [key_rp r5] at h4
    have s37 := s5.trans (s6.trans s7)
    have hrs4 := s37 _ _ hrs
    have lr : rs.length ≤ 16 := by
      have a1 := pm.length_eq
      have a2 := (once_len ((as.take i).map ev)).1
      rw [List.length_map] at a1
      rw [List.length_map, List.length_take] at a2
      omega
    refine ⟨a, ev as[i], rs, rfl, h4, hrs4, lr, fun r hr => s37 _ _ (hk r hr), fun rs' c1 c2 => ⟨same_mut (s3.trans s37) hD, rs', upd_same, ?_, fun r hr => ?_⟩⟩
    · rw [e1, List.map_append, List.map_cons, List.map_nil, once_snoc]
      unfold onceIn
      by_cases hm : ev as[i] ∈ rs.map Prod.snd
      · rw [c1 hm, if_pos (pm.mem_iff.mp hm)]
        exact pm
      · rw [if_neg fun z => hm (pm.mem_iff.mpr z)]
        exact ((c2 hm).map Prod.snd).trans (pm.cons _)
    · have nD : ∀ {b : Addr} {ys : List V}, H4 b = some (.tup ys) → b ≠ D := fun e z => by
        rw [z, hrs4] at e
        cases e
      by_cases hm : ev as[i] ∈ rs.map Prod.snd
      · rw [c1 hm] at hr
        have e := s37 _ _ (hk r hr)
        rw [upd_ne (nD e)]
        exact e
      · rcases List.mem_cons.mp ((c2 hm).mem_iff.mp hr) with z | z
        · rw [z, upd_ne (nD h4)]
          exact h4
        · have e := s37 _ _ (hk r z)
          rw [upd_ne (nD e)]
          exact e
  · have e : i = as.length := by omega
    subst e
    rw [List.take_length] at pm
    have l1 := pm.length_eq
    rw [List.length_map] at l1
    have l2 := (once_len (as.map ev)).1
    rw [List.length_map] at l2
    refine .inl ⟨jt.2 (Nat.le_refl _), (⟨D, rs, rfl, hrs, by omega, ?_⟩ : rLenBag P w [.ref D] H' Q)⟩
    rw [l1]
    exact q _ H' (s2.trans s3) (.int _)
end
end TM

set_option maxHeartbeats 4000000
namespace Ca
open PySem PySem.Spec PyProof.Rows L2
/-- a def of the module under its name -/
structure Fd (P : Program) (w : World) (K : PySem.W.Frag) (mg : PySem.Str → Option Value) (base : Heap) (x : PySem.Str) (k : Nat) (ps : List PySem.Str) (sp : Sp) : Prop where
  ex : ∃ f fd, FnOk P w K mg base CX0 k f fd ps sp ∧ Binds K fd ps [] ∧ PySem.W.keepIn K (.ref f) = true ∧ mg x = some (.ref f)
end Ca

set_option maxHeartbeats 4000000
namespace Q
open PySem PySem.Spec PyProof.Rows L2 Ca
/-! ### rows of tables: is_key, is_row, are_rows -/
structure Ro where
  k : PySem.Str
  l : Int
  r : Int
  n : Int
def roD (a : Ro) : PyData := .tuple [.str a.k, .int a.l, .int a.r, .int a.n]
def roK (a : Ro) : List Key := [.inr a.k, .inl a.l, .inl a.r]
structure GoodR (a : Ro) : Prop where
  k : kindOk a.k = true
  l0 : 0 ≤ a.l
  l9 : a.l ≤ 99
  r0 : 0 ≤ a.r
  r9 : a.r ≤ 99
  n1 : 1 ≤ a.n
  n9 : a.n ≤ 10000
def isRow (d : PyData) : Bool := match d with
  | .tuple [k, l, r, n] => isTri (.tuple [k, l, r]) 99 && isNum n 1 10000
  | _ => false
theorem isRow_not {d : PyData} (h : isTup d = false) : isRow d = false := by
  cases d <;> first | rfl | cases h
theorem isRow_len {ds : List PyData} (h : ds.length ≠ 4) : isRow (.tuple ds) = false := by
  match ds, h with
  | [], _ => rfl
  | [a], _ => rfl
  | [a, b], _ => rfl
  | [a, b, c], _ => rfl
  | [a, b, c, d], h => exact absurd rfl h
  | a :: b :: c :: d :: e :: r, _ => rfl
theorem isNum_is {d : PyData} {lo hi : Int} (h : isNum d lo hi = true) : ∃ i, d = .int i ∧ lo ≤ i ∧ i ≤ hi := by
  cases d with
  | int i =>
    unfold isNum at h
    simp only [Bool.and_eq_true, decide_eq_true_eq] at h
    exact ⟨i, rfl, h.1, h.2⟩
  | _ => cases h
theorem isRow_is {d : PyData} (h : isRow d = true) : ∃ a, d = roD a ∧ GoodR a := by
  cases d with
  | tuple ds =>
    match ds, h with
    | [k, l, r, n], h =>
      unfold isRow at h
      simp only [Bool.and_eq_true] at h
      obtain ⟨h1, h2⟩ := h
      cases k with
      | str k =>
        unfold isTri at h1
        simp only [Bool.and_eq_true] at h1
        obtain ⟨k1, l1, r1⟩ := h1
        obtain ⟨i, rfl, a1, a2⟩ := isNum_is l1
        obtain ⟨j, rfl, b1, b2⟩ := isNum_is r1
        obtain ⟨m, rfl, c1, c2⟩ := isNum_is h2
        exact ⟨⟨k, i, j, m⟩, rfl, ⟨k1, a1, a2, b1, b2, c1, c2⟩⟩
      | _ => cases h1
  | _ => cases h
theorem isRow_of {a : Ro} (g : GoodR a) : isRow (roD a) = true := by
  simp [isRow, roD, isTri, isNum, g.k, g.l0, g.l9, g.r0, g.r9, g.n1, g.n9]
/-- the rows of one table -/
def AreR (ds : List PyData) : Prop := ds.length ≤ 12 ∧ ∃ rs : List Ro, ds = rs.map roD ∧ (∀ a ∈ rs, GoodR a) ∧ (rs.map roK).Nodup
theorem rows_of {ds : List PyData} (h : ds.all isRow = true) : ∃ rs : List Ro, ds = rs.map roD ∧ ∀ a ∈ rs, GoodR a := by
  induction ds with
  | nil => exact ⟨[], rfl, fun a z => nomatch z⟩
  | cons d ds ih =>
    rw [List.all_cons, Bool.and_eq_true] at h
    obtain ⟨a, rfl, g⟩ := isRow_is h.1
    obtain ⟨rs, rfl, gs⟩ := ih h.2
    exact ⟨a :: rs, rfl, fun b hb => by
      rcases List.mem_cons.mp hb with e | hb
      · rw [e]; exact g
      · exact gs b hb⟩
abbrev s_is_key : Stmt := top 20
abbrev s_is_row : Stmt := top 21
abbrev s_are_rows : Stmt := top 22
theorem sc_key : FnScope ["thing"] ["thing"] (defScope s_is_key) := ⟨rfl, rfl, rfl, by decide +kernel, rfl, by decide +kernel, by decide +kernel⟩
theorem sc_row : FnScope ["thing"] ["thing"] (defScope s_is_row) := ⟨rfl, rfl, rfl, by decide +kernel, rfl, by decide +kernel, by decide +kernel⟩
theorem sc_rows : FnScope ["things", "thing", "row"] ["things"] (defScope s_are_rows) := ⟨rfl, rfl, rfl, by decide +kernel, rfl, by decide +kernel, by decide +kernel⟩
def RNum : List PyData → PyData → Prop := fun ds d => ∃ x lo hi, ds = [x, .int lo, .int hi] ∧ d = .bool (isNum x lo hi)
def RTri : List PyData → PyData → Prop := fun ds d => ∃ x m, ds = [x, .int m] ∧ d = .bool (isTri x m)
def RKey : List PyData → PyData → Prop := fun ds d => ∃ x, ds = [x] ∧ d = .bool (isTri x 99)
def RRow : List PyData → PyData → Prop := fun ds d => ∃ x, ds = [x] ∧ d = .bool (isRow x)
def RRowsT : List PyData → PyData → Prop := fun ds d => ∃ es b, ds = [.tuple es] ∧ es.length ≤ 1000 ∧ d = .bool b ∧ (b = true ↔ AreR es)
def RRowsL : List PyData → PyData → Prop := fun ds d => ∃ es b, ds = [.list es] ∧ es.length ≤ 1000 ∧ d = .bool b ∧ (b = true ↔ AreR es)
theorem num_imp : ∀ vs H Q E, spR RNum vs H Q E → spNum vs H Q E := by
  rintro vs H Q E ⟨S, ds, d, f, r, ⟨x, lo, hi, rfl, rfl⟩, q⟩
  obtain ⟨v, v1, v2, rfl, r1, r2, r3⟩ := rpa3 r
  cases r2
  cases r3
  exact ⟨v, x, lo, hi, rfl, r1.mono offS_same, q _ H (Same.refl _) (.bl _)⟩
theorem tri_imp : ∀ vs H Q E, spR RTri vs H Q E → spTri vs H Q E := by
  rintro vs H Q E ⟨S, ds, d, f, r, ⟨x, m, rfl, rfl⟩, q⟩
  obtain ⟨v, v1, rfl, r1, r2⟩ := rpa2 r
  cases r2
  exact ⟨v, x, m, rfl, r1.mono offS_same, q _ H (Same.refl _) (.bl _)⟩
section
variable {K : PySem.W.Frag} {σ : L2.St} {F : Hp} {ta : TE} {d : PyData}
theorem e_isiT (h : EvD ta σ F d) : EvD (tCB (rIsi K) (tCons ta (tCons (tC (.ty "tuple")) tNil))) σ F (.bool (isTup d)) := fun S H1 f s Q q => h S H1 f s _ fun v H2 s2 r =>
  ⟨_, _, _, _, _, rfl, .ty _, (r.mono offS_same).ty, kTup d, q _ H2 s2 (.bl _)⟩
end
section
variable {P : Program} {w : World} {K : PySem.W.Frag} {mg : PySem.Str → Option Value} {base : Heap}
theorem e_glI {σ : L2.St} {F : Hp} {i : Int} : EvD (tC (.int i)) σ F (.int i) := e_int
theorem ok_key {f : Addr} {fd : FuncData} (F : FnP K "is_key" s_is_key f fd) (gV : ∃ t, mg "MOST_VALUE" = some (.int 99 t)) (D1 : Fd P w K mg base "is_triple" 2 ["thing", "most"] (spR RTri)) : FnOk P w K mg base CX0 3 f fd ["thing"] (spR RKey) := by
  obtain ⟨f1, fd1, G1, b1, k1, m1⟩ := D1.ex
  obtain ⟨t, gV⟩ := gV
  refine F.ok sc_key (spR_len (by rintro _ _ ⟨x, rfl, _⟩; rfl)) (fun cdv A outer s H vs Q E hr h => ?_)
  obtain ⟨S, ds, d, fr, rA, ⟨x, rfl, rfl⟩, q⟩ := h
  obtain ⟨v0, rfl, r0⟩ := rpa1 rA
  refine ⟨_, PSs.nox (pss_one (ps_ret (pe_call G1 (hr.mono (by decide)) rfl m1 k1 b1 .nil pass0 (pa_cons (pv 0) (pa_cons (pe_glob (v := .int 99) rfl gV ⟨t, rfl⟩) pa_nil))))), ?_⟩
  exact go_ret (P := fun H v => Rp H v (.bool (isTri x 99))) fr (e_call (a_cons (e_var rfl r0) (a_cons e_glI a_nil)) ⟨x, 99, rfl, rfl⟩) q
theorem ok_row {f : Addr} {fd : FuncData} (F : FnP K "is_row" s_is_row f fd) (T : Tx K mg) (gO : ∃ t, mg "MOST_OFTEN" = some (.int 10000 t)) (D1 : Fd P w K mg base "is_key" 3 ["thing"] (spR RKey)) (D2 : Fd P w K mg base "is_number" 1 ["thing", "least", "most"] (spR RNum)) :
    FnOk P w K mg base CX0 4 f fd ["thing"] (spR RRow) := by
  obtain ⟨f1, fd1, G1, b1, k1, m1⟩ := D1.ex
  obtain ⟨f2, fd2, G2, b2, k2, m2⟩ := D2.ex
  obtain ⟨t, gO⟩ := gO
  refine F.ok sc_row (spR_len (by rintro _ _ ⟨x, rfl, _⟩; rfl)) (fun cdv A outer s H vs Q E hr h => ?_)
  obtain ⟨S, ds, d, fr, rA, ⟨x, rfl, rfl⟩, q⟩ := h
  obtain ⟨v0, rfl, r0⟩ := rpa1 rA
  refine ⟨_, PSs.nox (pss_cons (ps_if (PW.pt (pw_or (pt_not (pt_val (pe_callB (call_isi : CallR _ _ (rIsi K)) (by rfl) T.isi bIsi (pa_cons (pv 0) (pa_cons (pe_bltn (v := .ty "tuple") (by rfl) T.tup bTup rfl) pa_nil)))))
      (pw_or1 (pt_cmpR op_ne (pe_callB (call_lenQ : CallR _ _ (rLenQ K)) (by rfl) T.len bLen (pa_cons (pv 0) pa_nil)) pe_int (nomark _))))) (pss_one (ps_ret pe_bl)) pss_nil)
    (pss_one (ps_ret (pe_and (pe_call G1 (hr.mono (by decide)) rfl m1 k1 b1 .nil pass0 (pa_cons (pe_slice (sl_tupA : SlR _ (rSlA K)) (pv 0) po_none (po_some pe_int)) pa_nil))
      (pe_one (pe_call G2 (hr.mono (by decide)) rfl m2 k2 b2 .nil pass0 (pa_cons (pe_ix (ix_tup : IxR _ (rIxT K)) (pv 0) pe_int (fun _ _ => rfl)) (pa_cons pe_int (pa_cons (pe_glob (v := .int 10000) rfl gO ⟨t, rfl⟩) pa_nil))))))))), ?_⟩
  have no : ∀ {H' : Hp}, Same H H' → Fr S H' → isRow x = false → tRet (tC (.bl false)) { nx := fun _ H' => Q .non H', rt := Q } (start ["thing"] [v0]) H' := fun s1 f1 e => q _ _ s1 (by rw [e]; exact .bl _)
  cases hT : isTup x with
  | false =>
    refine go_ifS fr (b := true) (by
      have := b_or (b := true) (b_not (b_val (e_isiT (K := K) (e_var (σ := start ["thing"] [v0]) (i := 0) rfl r0)))) (tu := tTest (tOp rNe (tCB (rLenQ K) (tCons (tVar 0) tNil)) (tC (.int 4)))) fun z => by rw [hT] at z; cases z
      rw [hT] at this
      exact this) (fun _ H1 s1 f1 => no s1 f1 (isRow_not hT)) fun z => by cases z
  | true =>
    cases x with
    | tuple es =>
      refine go_ifS fr (b := !decide ((es.length : Int) = 4)) (b_or (b_not (b_val (e_isiT (e_var rfl r0)))) fun _ => b_test (e_neI (e_lenT (e_var rfl r0)) e_int)) (fun z H1 s1 f1 => no s1 f1 (isRow_len fun e => by rw [e] at z; cases z)) fun z H1 s1 fr1 => ?_
      have l4 : es.length = 4 := by
        simp only [Bool.not_eq_false', decide_eq_true_eq] at z
        omega
      have r1 := r0.mono (offS_mono (S := S) s1)
      match es, l4 with
      | [k, l, r, n], _ =>
        exact go_ret (P := fun H v => Rp H v (.bool (isRow (.tuple [k, l, r, n])))) fr1 (e_and (e_call (a_cons (e_slT (e_var rfl r1) o_none (o_some e_int)) a_nil) ⟨_, rfl, rfl⟩) fun _ => e_call (a_cons (e_ixT (e_var rfl r1) e_int rfl rfl) (a_cons e_int (a_cons e_glI a_nil))) ⟨n, 1, 10000, rfl, rfl⟩) fun v H2 s2 r2 => q v H2 (s1.trans s2) r2
    | _ => cases hT
end
end Q

set_option maxHeartbeats 400000
namespace Q
open PySem PySem.Spec PyProof.Rows L2 Ca
theorem u1 {n : Nat} (h : n + 64 < cLine) : n + 1 < cLine := by omega
theorem roD_inj : ∀ {as bs : List Ro}, as.map roD = bs.map roD → as = bs
  | [], [], _ => rfl
  | [], b :: bs, h => by cases h
  | a :: as, [], h => by cases h
  | ⟨k, l, r, n⟩ :: as, ⟨k', l', r', n'⟩ :: bs, h => by
    rw [List.map_cons, List.map_cons] at h
    injection h with h1 h2
    unfold roD at h1
    injection h1 with h1
    injection h1 with h3 h1
    injection h1 with h4 h1
    injection h1 with h5 h1
    injection h1 with h6 h1
    cases h3
    cases h4
    cases h5
    cases h6
    rw [roD_inj h2]
section
variable {P : Program} {w : World} {K : PySem.W.Frag} {mg : PySem.Str → Option Value} {base : Heap}
theorem ok_rowsT {f : Addr} {fd : FuncData} (F : FnP K "are_rows" s_are_rows f fd) (T : Tx K mg) (gM : ∃ t, mg "MOST_ROWS" = some (.int 12 t)) (D1 : Fd P w K mg base "is_row" 4 ["thing"] (spR RRow)) : FnOk P w K mg base CX0 5 f fd ["things"] (spR RRowsT) := by
  obtain ⟨f1, fd1, G1, b1, k1, m1⟩ := D1.ex
  obtain ⟨t, gM⟩ := gM
  refine F.ok sc_rows (spR_len (by rintro _ _ ⟨x, b, rfl, _⟩; rfl)) (fun cdv A outer s H vs Q E hr h => ?_)
  obtain ⟨S, ds, d, fr, rA, ⟨es, b, rfl, hz, rfl, hb⟩, q⟩ := h
  obtain ⟨v0, rfl, r0⟩ := rpa1 rA
  refine ⟨_, PSs.nox (pss_cons (ps_if (PW.pt (pw_or (pt_cmpR op_gt (pe_callB (call_lenQ : CallR _ _ (rLenQ K)) (by rfl) T.len bLen (pa_cons (pv 0) pa_nil)) (pe_glob (v := .int 12) rfl gM ⟨t, rfl⟩) (nomark _))
      (pw_or1 (pt_not (pt_val (pe_callB (cr_all rfl : CallR _ _ (rAll K)) (by rfl) T.all bAll (pa_cons (pe_lc (own := [("thing", 1)]) (g := gName 1) rfl sc_rows.nd (pi_tupQ (K := K) rfl (pv 0)) (blkOk_by (own := [("thing", 1)]) (N := ["things", "thing", "row"]) (sc := defScope s_are_rows) (by decide +kernel))
        (fun _ _ _ _ _ => pg_name (i := 1) sc_rows.nd rfl (Or.inl rfl)) (fun _ _ _ _ _ => pts_nil) (fun _ _ _ _ _ => pe_call G1 (hr.mono (by decide)) rfl m1 k1 b1 .nil pass0 (pa_cons (pv 1) pa_nil))) pa_nil))))))) (pss_one (ps_ret pe_bl)) pss_nil)
    (pss_one (ps_ret (pe_cmpR op_eq (pe_callB TM.cr_lenBag (by rfl) T.len bLen (pa_cons (TM.pe_sc1 (own := [("row", 2)]) (g := gName 2) (u1 hr.units) rfl sc_rows.nd (pi_tupQ (K := K) rfl (pv 0)) (blkOk_by (own := [("row", 2)]) (N := ["things", "thing", "row"]) (sc := defScope s_are_rows) (by decide +kernel))
        (fun _ _ _ _ _ => pg_name (i := 2) sc_rows.nd rfl (Or.inl rfl)) (fun _ _ _ _ _ => pts_nil) (fun _ _ _ _ _ => pe_slice (sl_tupA : SlR _ (rSlA K)) (pv 2) po_none (po_some pe_int))) pa_nil)) (pe_callB (call_lenQ : CallR _ _ (rLenQ K)) (by rfl) T.len bLen (pa_cons (pv 0) pa_nil)) (nomark _))))), ?_⟩
  have isB : ∀ d ∈ (es.filter fun _ => true).map (fun d => PyData.bool (isRow d)), ∃ b, d = .bool b := fun d hd => by
    obtain ⟨e, _, rfl⟩ := List.mem_map.mp hd
    exact ⟨_, rfl⟩
  have eall : ((es.filter fun _ => true).map fun d => PyData.bool (isRow d)).all truD = es.all isRow := by
    rw [filter_yes, List.all_map]
    rfl
  refine go_ifS fr (b := decide ((es.length : Int) > 12) || !es.all isRow) (b_or (b_test (e_cmp (g := fun i j => decide (i > j)) (e_lenT (e_var rfl r0)) e_glI)) fun _ => by
    have := b_not (b_val (e_all (K := K) (e_lcT (K := K) (σ := start ["things", "thing", "row"] [v0]) (g := gName 1) (tt := tYes) (te := tCall (spR RRow) [] E0 (tCons (tVar 1) tNil)) (vs := [1]) (enc := id) (as := es) (b := fun _ => true) (ev := fun d => PyData.bool (isRow d)) (by rw [List.map_id]; exact e_var (i := 0) rfl r0) hz fun d hd x F2 sF r => g_name ⟨rfl, b_yes, fun _ => e_call (a_cons (e_var (i := 1) rfl r) a_nil) ⟨d, rfl, rfl⟩⟩) isB))
    rw [eall] at this
    exact this) (fun z H1 s1 f1 => ?_) fun z H1 s1 fr1 => ?_
  · have e : b = false := by
      cases b with
      | false => rfl
      | true =>
        obtain ⟨l12, rs, rfl, g, _⟩ := hb.mp rfl
        have a1 : decide (((rs.map roD).length : Int) > 12) = false := decide_eq_false (by omega)
        have a2 : (rs.map roD).all isRow = true := List.all_eq_true.mpr fun d hd => by
          obtain ⟨a, ha, rfl⟩ := List.mem_map.mp hd
          exact isRow_of (g a ha)
        rw [a1, a2] at z
        cases z
    subst e
    exact q _ _ s1 (.bl _)
  · rw [Bool.or_eq_false_iff] at z
    have l12 : es.length ≤ 12 := by
      have := of_decide_eq_false z.1
      omega
    obtain ⟨rs, rfl, g⟩ := rows_of (ds := es) (by simpa using z.2)
    rw [List.length_map] at l12
    have r1 := r0.mono (offS_mono (S := S) s1)
    refine go_ret (P := fun H v => Rp H v (.bool b)) fr1 (eqD (e_eqI (TM.e_lenSc (P := P) (w := w) (enc := roD) (as := rs) (ev := roK) (it_tup (e_var rfl r1)) (by omega) fun a ha x F2 sF r => g_name ⟨rfl, b_yes, fun _ => eqD (e_slT (e_var rfl r) o_none (o_some e_int)) rfl⟩) (e_lenT (e_var rfl r1))) ?_) fun v H2 s2 r2 => q v H2 (s1.trans s2) r2
    congr 1
    have oc := (TM.once_len (rs.map roK)).2
    rw [List.length_map] at oc
    rw [List.length_map]
    rw [Bool.eq_iff_iff, decide_eq_true_eq, hb]
    constructor
    · intro e
      exact ⟨by rw [List.length_map]; exact l12, rs, rfl, g, oc.mp (by omega)⟩
    · rintro ⟨_, rs', e, _, nd⟩
      have er : rs' = rs := roD_inj e.symm
      subst er
      have := oc.mpr nd
      omega
theorem ok_rowsL {f : Addr} {fd : FuncData} (F : FnP K "are_rows" s_are_rows f fd) (T : Tx K mg) (gM : ∃ t, mg "MOST_ROWS" = some (.int 12 t)) (D1 : Fd P w K mg base "is_row" 4 ["thing"] (spR RRow)) : FnOk P w K mg base CX0 5 f fd ["things"] (spR RRowsL) := by
  obtain ⟨f1, fd1, G1, b1, k1, m1⟩ := D1.ex
  obtain ⟨t, gM⟩ := gM
  refine F.ok sc_rows (spR_len (by rintro _ _ ⟨x, b, rfl, _⟩; rfl)) (fun cdv A outer s H vs Q E hr h => ?_)
  obtain ⟨S, ds, d, fr, rA, ⟨es, b, rfl, hz, rfl, hb⟩, q⟩ := h
  obtain ⟨v0, rfl, r0⟩ := rpa1 rA
  refine ⟨_, PSs.nox (pss_cons (ps_if (PW.pt (pw_or (pt_cmpR op_gt (pe_callB (call_lenQ : CallR _ _ (rLenQ K)) (by rfl) T.len bLen (pa_cons (pv 0) pa_nil)) (pe_glob (v := .int 12) rfl gM ⟨t, rfl⟩) (nomark _))
      (pw_or1 (pt_not (pt_val (pe_callB (cr_all rfl : CallR _ _ (rAll K)) (by rfl) T.all bAll (pa_cons (pe_lc (own := [("thing", 1)]) (g := gName 1) rfl sc_rows.nd (pi_listQ (K := K) rfl (pv 0)) (blkOk_by (own := [("thing", 1)]) (N := ["things", "thing", "row"]) (sc := defScope s_are_rows) (by decide +kernel))
        (fun _ _ _ _ _ => pg_name (i := 1) sc_rows.nd rfl (Or.inl rfl)) (fun _ _ _ _ _ => pts_nil) (fun _ _ _ _ _ => pe_call G1 (hr.mono (by decide)) rfl m1 k1 b1 .nil pass0 (pa_cons (pv 1) pa_nil))) pa_nil))))))) (pss_one (ps_ret pe_bl)) pss_nil)
    (pss_one (ps_ret (pe_cmpR op_eq (pe_callB TM.cr_lenBag (by rfl) T.len bLen (pa_cons (TM.pe_sc1 (own := [("row", 2)]) (g := gName 2) (u1 hr.units) rfl sc_rows.nd (pi_listQ (K := K) rfl (pv 0)) (blkOk_by (own := [("row", 2)]) (N := ["things", "thing", "row"]) (sc := defScope s_are_rows) (by decide +kernel))
        (fun _ _ _ _ _ => pg_name (i := 2) sc_rows.nd rfl (Or.inl rfl)) (fun _ _ _ _ _ => pts_nil) (fun _ _ _ _ _ => pe_slice (sl_tupA : SlR _ (rSlA K)) (pv 2) po_none (po_some pe_int))) pa_nil)) (pe_callB (call_lenQ : CallR _ _ (rLenQ K)) (by rfl) T.len bLen (pa_cons (pv 0) pa_nil)) (nomark _))))), ?_⟩
  have isB : ∀ d ∈ (es.filter fun _ => true).map (fun d => PyData.bool (isRow d)), ∃ b, d = .bool b := fun d hd => by
    obtain ⟨e, _, rfl⟩ := List.mem_map.mp hd
    exact ⟨_, rfl⟩
  have eall : ((es.filter fun _ => true).map fun d => PyData.bool (isRow d)).all truD = es.all isRow := by
    rw [filter_yes, List.all_map]
    rfl
  refine go_ifS fr (b := decide ((es.length : Int) > 12) || !es.all isRow) (b_or (b_test (e_cmp (g := fun i j => decide (i > j)) (e_lenL (e_var rfl r0)) e_glI)) fun _ => by
    have := b_not (b_val (e_all (K := K) (e_lcL (K := K) (σ := start ["things", "thing", "row"] [v0]) (g := gName 1) (tt := tYes) (te := tCall (spR RRow) [] E0 (tCons (tVar 1) tNil)) (vs := [1]) (enc := id) (as := es) (b := fun _ => true) (ev := fun d => PyData.bool (isRow d)) (by rw [List.map_id]; exact e_var (i := 0) rfl r0) hz fun d hd x F2 sF r => g_name ⟨rfl, b_yes, fun _ => e_call (a_cons (e_var (i := 1) rfl r) a_nil) ⟨d, rfl, rfl⟩⟩) isB))
    rw [eall] at this
    exact this) (fun z H1 s1 f1 => ?_) fun z H1 s1 fr1 => ?_
  · have e : b = false := by
      cases b with
      | false => rfl
      | true =>
        obtain ⟨l12, rs, rfl, g, _⟩ := hb.mp rfl
        have a1 : decide (((rs.map roD).length : Int) > 12) = false := decide_eq_false (by omega)
        have a2 : (rs.map roD).all isRow = true := List.all_eq_true.mpr fun d hd => by
          obtain ⟨a, ha, rfl⟩ := List.mem_map.mp hd
          exact isRow_of (g a ha)
        rw [a1, a2] at z
        cases z
    subst e
    exact q _ _ s1 (.bl _)
  · rw [Bool.or_eq_false_iff] at z
    have l12 : es.length ≤ 12 := by
      have := of_decide_eq_false z.1
      omega
    obtain ⟨rs, rfl, g⟩ := rows_of (ds := es) (by simpa using z.2)
    rw [List.length_map] at l12
    have r1 := r0.mono (offS_mono (S := S) s1)
    refine go_ret (P := fun H v => Rp H v (.bool b)) fr1 (eqD (e_eqI (TM.e_lenSc (P := P) (w := w) (enc := roD) (as := rs) (ev := roK) (it_list (e_var rfl r1)) (by omega) fun a ha x F2 sF r => g_name ⟨rfl, b_yes, fun _ => eqD (e_slT (e_var rfl r) o_none (o_some e_int)) rfl⟩) (e_lenL (e_var rfl r1))) ?_) fun v H2 s2 r2 => q v H2 (s1.trans s2) r2
    congr 1
    have oc := (TM.once_len (rs.map roK)).2
    rw [List.length_map] at oc
    rw [List.length_map]
    rw [Bool.eq_iff_iff, decide_eq_true_eq, hb]
    constructor
    · intro e
      exact ⟨by rw [List.length_map]; exact l12, rs, rfl, g, oc.mp (by omega)⟩
    · rintro ⟨_, rs', e, _, nd⟩
      have er : rs' = rs := roD_inj e.symm
      subst er
      have := oc.mpr nd
      omega
end
end Q

set_option maxHeartbeats 400000
namespace Q
open PySem PySem.Spec PyProof.Rows L2 Ca
/-! ### what is read through tuples alone stays where tuples stay -/
def onlyT (H : Hp) : Hp := fun a => match H a with
  | some (.tup xs) => some (.tup xs)
  | _ => none
theorem onlyT_same {H : Hp} : Same (onlyT H) H := fun b o e => by
  unfold onlyT at e
  split at e
  · rename_i xs h
    rw [h]
    exact e
  · cases e
def KT (H H' : Hp) : Prop := ∀ t ys, H t = some (.tup ys) → H' t = some (.tup ys)
theorem KT.trans {H H1 H2 : Hp} (a : KT H H1) (b : KT H1 H2) : KT H H2 := fun t ys e => b t ys (a t ys e)
theorem KT.of {H H' : Hp} (h : Same H H') : KT H H' := fun t ys e => h _ _ e
theorem KT.m {H H' : Hp} (k : KT H H') : Same (onlyT H) (onlyT H') := fun b o e => by
  unfold onlyT at e
  split at e
  · rename_i xs h
    have h2 := k b xs h
    unfold onlyT
    rw [h2]
    exact e
  · cases e

theorem ro_T {H : Hp} {a : Ro} {v : V} (r : Rp H v (roD a)) : Rp (onlyT H) v (roD a) := by
  cases r with
  | @tup t xs _ h q =>
    have e : xs = [.str a.k, .int a.l, .int a.r, .int a.n] := by
      cases q with
      | cons h1 q =>
        cases h1
        cases q with
        | cons h1 q =>
          cases h1
          cases q with
          | cons h1 q =>
            cases h1
            cases q with
            | cons h1 q =>
              cases h1
              cases q
              rfl
    subst e
    exact .tup (by unfold onlyT; rw [h]) (.cons (.str _) (.cons (.int _) (.cons (.int _) (.cons (.int _) .nil))))
theorem ros_T {H : Hp} : ∀ {rs : List Ro} {xs : List V}, RpA H xs (rs.map roD) → RpA (onlyT H) xs (rs.map roD)
  | [], _, .nil => .nil
  | _ :: _, _, .cons h q => .cons (ro_T h) (ros_T q)
section
variable {K : PySem.W.Frag} {σ : L2.St} {F : Hp} {ta : TE} {ds : List PyData}
theorem e_sortDT (h : EvD ta σ F (.tuple ds)) (hal : PySem.W.AllAlike ds) (hso : PySem.W.Sortable ds) (hdp : ∀ d ∈ ds, d.depth ≤ 60) (hl : ds.length ≤ 1000) : EvD (tCB rSortD (tCons ta tNil)) σ F (.list (srtD ds)) := fun S H1 f s Q q =>
  h S H1 f s _ fun v H2 s2 r => by
    cases r with
    | @tup a xs _ ha rx =>
      obtain ⟨bs, rfl, rfl, rb⟩ := zipV rx
      rw [List.length_map] at hl
      refine ⟨a, bs, rfl, .inr (offS_same _ _ ha), fun b hb => (rb b hb).mono offS_same, hal, hso, fun b hb => hdp _ (List.mem_map.mpr ⟨b, hb, rfl⟩), Nat.le_of_lt (small1000 hl), fun p hp => q _ _ (s2.trans (same_new hp)) (.lst (offS_new (f.mono s2) hp) ?_)⟩
      rw [← srt_snd]
      refine RpA.mono (offS_mono (same_new hp)) (unzipV fun b hb => rb b ?_)
      unfold sortD at hb
      exact (List.mem_mergeSort.mp hb)
end
theorem ro_alike (a b : Ro) : PySem.W.alike (roD a) (roD b) = true := by simp [roD, PySem.W.alike, PySem.W.alikeAll]
theorem ros_alike (rs : List Ro) : PySem.W.AllAlike (rs.map roD) := by
  intro x hx y hy
  obtain ⟨a, _, rfl⟩ := List.mem_map.mp hx
  obtain ⟨b, _, rfl⟩ := List.mem_map.mp hy
  exact ro_alike a b
theorem ros_sortable (rs : List Ro) : PySem.W.Sortable (rs.map roD) := .inl fun d hd => by
  obtain ⟨a, _, rfl⟩ := List.mem_map.mp hd
  exact ⟨_, _, rfl⟩
theorem ro_depth (a : Ro) : (roD a).depth ≤ 60 := by simp [roD, PyData.depth, PyData.depthAll]
/-- the rows ascending -/
theorem srt_rows (rs : List Ro) : ∃ ks : List Ro, srtD (rs.map roD) = ks.map roD ∧ ks.Perm rs := by
  have pm : (srtD (rs.map roD)).Perm (rs.map roD) := List.mergeSort_perm _ _
  have : ∀ {l m : List PyData}, l.Perm m → ∀ n : List Ro, m = n.map roD → ∃ o : List Ro, l = o.map roD ∧ o.Perm n := by
    intro l m hp
    induction hp with
    | nil =>
      intro n e
      exact ⟨[], rfl, by rw [List.map_eq_nil_iff.mp e.symm]⟩
    | cons x hp ih =>
      intro n e
      cases n with
      | nil => cases e
      | cons y n =>
        rw [List.map_cons] at e
        injection e with e1 e2
        obtain ⟨o, h1, h2⟩ := ih n e2
        exact ⟨y :: o, by rw [List.map_cons, ← h1, e1], h2.cons y⟩
    | swap x y l =>
      intro n e
      match n, e with
      | a :: b :: n, e =>
        rw [List.map_cons, List.map_cons] at e
        injection e with e1 e2
        injection e2 with e2 e3
        exact ⟨b :: a :: n, by rw [List.map_cons, List.map_cons, ← e1, ← e2, ← e3], List.Perm.swap a b n⟩
    | trans h1 h2 ih1 ih2 =>
      intro n e
      obtain ⟨o2, e2, p2⟩ := ih2 n e
      obtain ⟨o1, e1, p1⟩ := ih1 o2 e2
      exact ⟨o1, e1, p1.trans p2⟩
  exact this pm rs rfl
/-- what the top has written of the class Table (at C) and of NoRows (at N) -/
structure TT (K : PySem.W.Frag) (mg : PySem.Str → Option Value) (C N : Addr) : Prop where
  cl : Cls K C
  nK : NoAttr K C "kept"
  gN : mg "NoRows" = some (.ref N)
  xN : PySem.W.excIn K N [.type "ValueError", .type "Exception", .type "BaseException", .type "object"] "ValueError.__new__" = true
  kN : PySem.W.keepIn K (.ref N) = true
  bN : PySem.W.subIn K (.ref N) (.type "BaseException") = some true
  tN : PySem.W.typeIn K (.ref N) = some (.type "type")
abbrev cT : Stmt := top 29
abbrev s_tinit : Stmt := inClass cT 0
def tf (o : V) : List (PySem.Str × V) := putF "kept" o []
/-- a table with these rows -/
def TV (C : Addr) (ks : List Ro) (F : Hp) (v : V) : Prop := ∃ x dx o, v = .ref x ∧ F x = some (.ins C dx (tf (.ref o))) ∧ Rp (onlyT F) (.ref o) (.tuple (ks.map roD))
def spTInit (C N : Addr) : Sp := fun vs H Q E => ∃ (x dx p : Addr) (ds : List PyData) (b : Bool), vs = [.ref x, .ref p] ∧ H x = some (.ins C dx []) ∧ Rp H (.ref p) (.tuple ds) ∧ ds.length ≤ 1000 ∧ (b = true ↔ AreR ds) ∧
  (b = false → ∀ H', Same H H' → E (.ref N) none H') ∧
  (∀ rs ks : List Ro, ds = rs.map roD → AreR ds → srtD ds = ks.map roD → ks.Perm rs → ∀ H', (∀ b o, b ≠ x → H b = some o → H' b = some o) → TV C ks H' (.ref x) → Q .non H')
theorem sc_tinit : FnScope ["self", "rows"] ["self", "rows"] (defScope s_tinit) := ⟨rfl, rfl, rfl, by decide +kernel, rfl, by decide +kernel, by decide +kernel⟩
def spTInitR (C N : Addr) : Sp := fun vs H Q E => ∃ ws rest : List V, vs = ws ++ rest ∧ ws.length = ["self"].length ∧ rest.length ≤ sizeLine ∧ ∀ p, H p = none → spTInit C N (ws ++ [V.ref p]) (upd H p (.tup rest)) Q E
section
variable {P : Program} {w : World} {K : PySem.W.Frag} {mg : PySem.Str → Option Value} {base : Heap}
theorem ok_tinit {f C N : Addr} {fd : FuncData} (F : FnM K "__init__" "Table.__init__" s_tinit f fd) (T : Tx K mg) (TQ : TT K mg C N) (D1 : Fd P w K mg base "are_rows" 5 ["things"] (spR RRowsT)) : FnR P w K mg base (L2.CX P w) 6 f (spTInitR C N) := by
  obtain ⟨f1, fd1, G1, b1, k1, m1⟩ := D1.ex
  obtain ⟨oc, od, dV, kV', doc, pm, an, cdv, ct, osl, rfl, lk, hcd, hdfl, _⟩ := F.ex
  have ed : dV = .none := by
    rcases hdfl with ⟨_, e⟩ | ⟨h, _⟩
    · exact e
    · exact absurd rfl h
  subst ed
  refine StX.fn_star (ps := ["self"]) (pv := "rows") lk hcd sc_tinit StX.cxUp (StX.bind_star1 (p1 := "self") (pv := "rows") (B := fun us => bindArgs (PySem.W.fnOf "__init__" "Table.__init__" (defArgs s_tinit) (defBody s_tinit) (defScope s_tinit) .none kV' doc pm an cdv ct) ⟨us, []⟩) (fun a => by rfl) (fun a r rs => by rfl)) (fun A outer s H vs Q E hr h => ?_)
  obtain ⟨x, dx, p, ds, b, rfl, hx, rp, hz, hb, kE, kQ⟩ := h
  refine ⟨_, pss_cons (ps_if (pt_not (pt_val (pe_call G1 (hr.mono (by decide)) rfl m1 k1 b1 .nil pass0 (pa_cons (pv 1) pa_nil))))
      (pss_one (ps_raise rfl (takes_of rfl rfl rfl rfl) (pmk_own PySem.F.excBase_ValueError TQ.xN TQ.gN TQ.kN (raises_own TQ.bN TQ.tN) rfl))) pss_nil)
    (pss_one (ps_fld (pv 0) (pe_callTy (call_tupQ : CallR _ _ (rTupQ K)) (by rfl) T.tup bTup (pa_cons (pe_callB (cr_sortD T.sm hr) (by rfl) T.sorted bSorted (pa_cons (pv 1) pa_nil)) pa_nil)) rfl)), ?_⟩
  have fr0 : Fr (fun _ => false) H := fun a z => by cases z
  have off0 : ∀ {G : Hp}, Same G (offS (fun _ => false) G) := fun b o e => by
    rw [offS_at rfl]
    exact e
  have rp0 := rp.mono (off0 (G := H))
  refine go_ifS (b := !b) fr0 (b_not (b_val (e_call (a_cons (e_var (i := 1) rfl rp0) a_nil) ⟨ds, b, rfl, hz, rfl, hb⟩))) (fun z H1 s1 f1 => ?_) fun z H1 s1 fr1 => ?_
  · exact kE (by simpa using z) H1 s1
  · have bt : b = true := by simpa using z
    have hA := hb.mp bt
    obtain ⟨l12, rs, rfl, g, nd⟩ := hb.mp bt
    obtain ⟨ks, es, pks⟩ := srt_rows rs
    have rp1 := rp0.mono (offS_mono (S := fun _ => false) s1)
    refine (e_tupOf (K := K) (e_sortDT (e_var (i := 1) rfl rp1) (ros_alike rs) (ros_sortable rs) (fun d hd => ?_) (by omega))) (fun _ => false) H1 fr1 (Same.refl _) _ fun u H2 s2 r2 => ⟨_, rfl, x, C, dx, [], rfl, (s1.trans s2) _ _ hx, TQ.cl, TQ.nK, by decide, ?_⟩
    · obtain ⟨a, _, rfl⟩ := List.mem_map.mp hd
      exact ro_depth a
    · rw [es] at r2
      obtain ⟨o, xs, rfl, ho, rx⟩ := rp_tup r2
      have hx2 := (s1.trans s2) _ _ hx
      have kt : KT H2 (upd H2 x (.ins C dx (tf (.ref o)))) := fun t ys e => by
        rw [upd_ne (ne_of e hx2 (by intro z; cases z))]
        exact e
      refine kQ rs ks rfl hA es pks _ (fun c u hc e => ?_) ⟨x, dx, o, rfl, upd_same, .tup ?_ ((ros_T (rx.mono offS_same)).mono kt.m)⟩
      · rw [upd_ne hc]
        exact (s1.trans s2) _ _ e
      · have e := kt _ _ ho
        unfold tf at e
        unfold onlyT
        rw [e]
end
end Q

set_option maxHeartbeats 400000
namespace Ca
open PySem PySem.Spec PyProof.Rows L2
/-! f-strings -/
def tJoin (ts : List TE) : TE := fun σ H Q => tJs ts PySem.Str.empty σ H fun out H1 => Q (.str out) H1
theorem pe_joinedQ {X : Cx} {v1 v2 : Expr} {rest : List Expr} {ts : List TE} {pos : Pos} (h : PJ X (v1 :: v2 :: rest) ts) : PE X (.JoinedStr (v1 :: v2 :: rest) pos) (tJoin ts) := pe_joined h
section
variable {σ : L2.St} {F : Hp} {te : TE}
theorem e_fmtS {y : PySem.Str} (h : EvD te σ F (.str y)) (hl : y.length ≤ 1000) : EvD (tFmt te) σ F (.str y) := fun S H1 f s Q q => h S H1 f s _ fun v H2 s2 r => by
  cases r
  exact .inl ⟨y, rfl, Nat.le_of_lt (small1000 hl), q _ H2 s2 (.str _)⟩
theorem e_fmtI {i : Int} (h : EvD te σ F (.int i)) (hl : i.natAbs.log2 < 1920) : EvD (tFmt te) σ F (.str (PySem.Str.ofString (toString i))) := fun S H1 f s Q q => h S H1 f s _ fun v H2 s2 r => by
  cases r
  exact .inr ⟨i, rfl, hl, q _ H2 s2 (.str _)⟩
inductive EvJ (σ : L2.St) (F : Hp) : List TE → List PySem.Str → Prop where
  | nil : EvJ σ F [] []
  | cons {t : TE} {ts : List TE} {y : PySem.Str} {ys : List PySem.Str} (h : EvD t σ F (.str y)) (r : EvJ σ F ts ys) : EvJ σ F (t :: ts) (y :: ys)
def lens (ys : List PySem.Str) : Nat := (ys.map (·.length)).sum
theorem e_js {ts : List TE} {ys : List PySem.Str} (h : EvJ σ F ts ys) : ∀ (acc : PySem.Str), acc.length + lens ys ≤ 1000 → ∀ (S : Addr → Bool) (H1 : Hp), Fr S H1 → Same F (offS S H1) → ∀ Q : PySem.Str → Hp → Prop, (∀ H2, Same H1 H2 → Q (ys.foldl (· ++ ·) acc) H2) → tJs ts acc σ H1 Q := by
  induction h with
  | nil => exact fun acc _ S H1 f s Q q => q H1 (Same.refl _)
  | @cons t ts y ys h r ih =>
    intro acc hl S H1 f s Q q
    unfold lens at hl
    rw [List.map_cons, List.sum_cons] at hl
    have ly : (acc ++ y).length = acc.length + y.length := PySem.Str.length_append acc y
    refine h S H1 f s _ fun v H2 s2 r2 => ?_
    cases r2
    exact ⟨y, rfl, Nat.le_of_lt (small1000 (by omega)), ih (acc ++ y) (by unfold lens; omega) S H2 (f.mono s2) (s.trans (offS_mono s2)) Q fun H3 s3 => q H3 (s2.trans s3)⟩
theorem e_joined {ts : List TE} {ys : List PySem.Str} (h : EvJ σ F ts ys) (hl : lens ys ≤ 1000) : EvD (tJoin ts) σ F (.str (ys.foldl (· ++ ·) PySem.Str.empty)) := fun S H1 f s Q q =>
  e_js h PySem.Str.empty (by show 0 + lens ys ≤ 1000; omega) S H1 f s _ fun H2 s2 => q _ H2 s2 (.str _)
end
end Ca
namespace Q
open PySem PySem.Spec PyProof.Rows L2 Ca
/-! ### text_of_rows -/
abbrev s_txr : Stmt := top 23
theorem sc_txr : FnScope ["rows", "kind", "left", "right", "often"] ["rows"] (defScope s_txr) := ⟨rfl, rfl, rfl, by decide +kernel, rfl, by decide +kernel, by decide +kernel⟩
def rowP (a : Ro) : List PySem.Str := [a.k, " ", PySem.Str.ofString (toString a.l), " ", PySem.Str.ofString (toString a.r), " ", PySem.Str.ofString (toString a.n), "\n"]
def rowT (a : Ro) : PySem.Str := (rowP a).foldl (· ++ ·) PySem.Str.empty
def txr (as : List Ro) : PySem.Str := Txt.join "" (as.map rowT)
theorem kind1 {k : PySem.Str} (h : kindOk k = true) : k.length = 1 := by
  unfold kindOk inV at h
  rw [List.any_eq_true] at h
  obtain ⟨y, hy, e⟩ := h
  have : y = V.str k := by
    rcases List.mem_cons.mp hy with z | hy
    · subst z
      simpa [eqV] using e
    · rcases List.mem_cons.mp hy with z | hy
      · subst z
        simpa [eqV] using e
      · rcases List.mem_cons.mp hy with z | hy
        · subst z
          simpa [eqV] using e
        · cases hy
  subst this
  rcases List.mem_cons.mp hy with z | hy
  · injection z with z
    rw [z]
    decide +kernel
  · rcases List.mem_cons.mp hy with z | hy
    · injection z with z
      rw [z]
      decide +kernel
    · rcases List.mem_cons.mp hy with z | hy
      · injection z with z
        rw [z]
        decide +kernel
      · cases hy
theorem log99 {i : Int} (h0 : 0 ≤ i) (h9 : i ≤ 10000) : i.natAbs.log2 < 1920 := by
  have h : i.natAbs < 2 ^ 14 := by
    have : i.natAbs ≤ 10000 := by omega
    omega
  by_cases z : i.natAbs = 0
  · rw [z]
    decide
  · have := (Nat.log2_lt z).mpr h
    omega
theorem num5 {i : Int} (h0 : 0 ≤ i) (h9 : i ≤ 10000) : (PySem.Str.ofString (toString i)).length ≤ 5 := by
  obtain ⟨n, rfl⟩ := Int.eq_ofNat_of_zero_le h0
  have e := TL.tl_num n
  have l := TL.numL_len (n := n) (k := 5) (by decide) (by omega)
  rw [← e] at l
  exact l
theorem rowP_len {a : Ro} (g : GoodR a) : lens (rowP a) ≤ 40 := by
  have h1 := kind1 g.k
  have h2 := num5 g.l0 (by have := g.l9; omega)
  have h3 := num5 g.r0 (by have := g.r9; omega)
  have h4 := num5 (show 0 ≤ a.n by have := g.n1; omega) g.n9
  have h5 : (PySem.Str.ofString " ").length = 1 := by decide +kernel
  have h6 : (PySem.Str.ofString "\n").length = 1 := by decide +kernel
  unfold lens rowP
  simp only [List.map_cons, List.map_nil, List.sum_cons, List.sum_nil]
  omega
theorem fold_len : ∀ (ys : List PySem.Str) (acc : PySem.Str), (ys.foldl (· ++ ·) acc).length = acc.length + lens ys
  | [], acc => rfl
  | y :: ys, acc => by
    rw [List.foldl_cons, fold_len ys]
    have : (acc ++ y).length = acc.length + y.length := PySem.Str.length_append acc y
    unfold lens
    rw [this, List.map_cons, List.sum_cons]
    omega
theorem rowT_len {a : Ro} (g : GoodR a) : (rowT a).length ≤ 40 := by
  unfold rowT
  rw [fold_len]
  have := rowP_len g
  show 0 + lens (rowP a) ≤ 40
  omega
theorem rows_len {as : List Ro} (h : ∀ a ∈ as, GoodR a) : ((as.map rowT).map (·.length)).sum ≤ 40 * as.length := by
  induction as with
  | nil => exact Nat.le_refl _
  | cons a as ih =>
    have h1 := rowT_len (h a (.head _))
    have h2 := ih fun b hb => h b (.tail _ hb)
    rw [List.map_cons, List.map_cons, List.sum_cons, List.length_cons]
    omega
def RTxrT : List PyData → PyData → Prop := fun ds d => ∃ as : List Ro, ds = [.tuple (as.map roD)] ∧ as.length ≤ 1000 ∧ (∀ a ∈ as, GoodR a) ∧ d = .str (txr as)
def RTxrL : List PyData → PyData → Prop := fun ds d => ∃ as : List Ro, ds = [.list (as.map roD)] ∧ as.length ≤ 1000 ∧ (∀ a ∈ as, GoodR a) ∧ d = .str (txr as)
section
variable {P : Program} {w : World} {K : PySem.W.Frag} {mg : PySem.Str → Option Value} {base : Heap}
theorem ok_txrT {f : Addr} {fd : FuncData} (F : FnP K "text_of_rows" s_txr f fd) (T : Tx K mg) : FnOk P w K mg base CX0 1 f fd ["rows"] (spR RTxrT) := by
  refine F.ok sc_txr (spR_len (by rintro _ _ ⟨as, rfl, _⟩; rfl)) (fun cdv A outer s H vs Q E hr h => ?_)
  obtain ⟨S, ds, d, fr, rA, ⟨as, rfl, hz, hg, rfl⟩, q⟩ := h
  obtain ⟨v0, rfl, r0⟩ := rpa1 rA
  refine ⟨_, PSs.nox (pss_one (ps_ret (pe_joinQ (K := K) rfl pe_str (pe_lc (own := [("kind", 1), ("left", 2), ("right", 3), ("often", 4)]) (g := gTup K 4 (gCons (gName 1) (gCons (gName 2) (gCons (gName 3) (gCons (gName 4) gNil))))) rfl sc_txr.nd (pi_tupQ (K := K) rfl (pv 0)) (blkOk_by (own := [("kind", 1), ("left", 2), ("right", 3), ("often", 4)]) (N := ["rows", "kind", "left", "right", "often"]) (sc := defScope s_txr) (by decide +kernel))
    (fun _ _ _ _ _ => pg_tup (by rfl) (pgs_cons (pg_name (i := 1) sc_txr.nd rfl (Or.inl rfl)) (pgs_cons (pg_name (i := 2) sc_txr.nd rfl (Or.inl rfl)) (pgs_cons (pg_name (i := 3) sc_txr.nd rfl (Or.inl rfl)) (pgs_cons (pg_name (i := 4) sc_txr.nd rfl (Or.inl rfl)) pgs_nil))))) (fun _ _ _ _ _ => pts_nil)
    (fun _ _ _ _ _ => pe_joinedQ (.cons (pe_fmt (pv 1)) (.cons pe_str (.cons (pe_fmt (pv 2)) (.cons pe_str (.cons (pe_fmt (pv 3)) (.cons pe_str (.cons (pe_fmt (pv 4)) (.cons pe_str .nil))))))))))))), ?_⟩
  refine go_ret (P := fun H v => Rp H v (.str (txr as))) fr (eqD (e_joinL e_str (e_lcT (enc := roD) (e_var rfl r0) (by omega) fun a ha x F2 sF r => g_tup4 r fun v1 v2 v3 v4 q1 q2 q3 q4 => ⟨rfl, b_yes, fun _ =>
    e_joined (ys := rowP a) (.cons (e_fmtS (e_var rfl q1) ?_) (.cons e_str (.cons (e_fmtI (e_var rfl q2) ?_) (.cons e_str (.cons (e_fmtI (e_var rfl q3) ?_) (.cons e_str (.cons (e_fmtI (e_var rfl q4) ?_) (.cons e_str .nil)))))))) ?_⟩) ?_ ?_) ?_) q
  · rw [kind1 (hg a ha).k]
    decide
  · exact log99 (hg a ha).l0 (by have := (hg a ha).l9; omega)
  · exact log99 (hg a ha).r0 (by have := (hg a ha).r9; omega)
  · exact log99 (by have := (hg a ha).n1; omega) (hg a ha).n9
  · have := rowP_len (hg a ha)
    omega
  · intro d hd
    obtain ⟨a, _, rfl⟩ := List.mem_map.mp hd
    exact ⟨_, rfl⟩
  · rw [filter_yes, List.map_map (g := strD)]
    have e := rows_len hg
    have e1 : (PySem.Str.ofString "").length = 0 := by decide +kernel
    show ((as.map rowT).map (·.length)).sum + (as.map rowT).length * _ ≤ _
    rw [e1]
    omega
  · rw [filter_yes, List.map_map]
    rfl
theorem ok_txrL {f : Addr} {fd : FuncData} (F : FnP K "text_of_rows" s_txr f fd) (T : Tx K mg) : FnOk P w K mg base CX0 1 f fd ["rows"] (spR RTxrL) := by
  refine F.ok sc_txr (spR_len (by rintro _ _ ⟨as, rfl, _⟩; rfl)) (fun cdv A outer s H vs Q E hr h => ?_)
  obtain ⟨S, ds, d, fr, rA, ⟨as, rfl, hz, hg, rfl⟩, q⟩ := h
  obtain ⟨v0, rfl, r0⟩ := rpa1 rA
  refine ⟨_, PSs.nox (pss_one (ps_ret (pe_joinQ (K := K) rfl pe_str (pe_lc (own := [("kind", 1), ("left", 2), ("right", 3), ("often", 4)]) (g := gTup K 4 (gCons (gName 1) (gCons (gName 2) (gCons (gName 3) (gCons (gName 4) gNil))))) rfl sc_txr.nd (pi_listQ (K := K) rfl (pv 0)) (blkOk_by (own := [("kind", 1), ("left", 2), ("right", 3), ("often", 4)]) (N := ["rows", "kind", "left", "right", "often"]) (sc := defScope s_txr) (by decide +kernel))
    (fun _ _ _ _ _ => pg_tup (by rfl) (pgs_cons (pg_name (i := 1) sc_txr.nd rfl (Or.inl rfl)) (pgs_cons (pg_name (i := 2) sc_txr.nd rfl (Or.inl rfl)) (pgs_cons (pg_name (i := 3) sc_txr.nd rfl (Or.inl rfl)) (pgs_cons (pg_name (i := 4) sc_txr.nd rfl (Or.inl rfl)) pgs_nil))))) (fun _ _ _ _ _ => pts_nil)
    (fun _ _ _ _ _ => pe_joinedQ (.cons (pe_fmt (pv 1)) (.cons pe_str (.cons (pe_fmt (pv 2)) (.cons pe_str (.cons (pe_fmt (pv 3)) (.cons pe_str (.cons (pe_fmt (pv 4)) (.cons pe_str .nil))))))))))))), ?_⟩
  refine go_ret (P := fun H v => Rp H v (.str (txr as))) fr (eqD (e_joinL e_str (e_lcL (enc := roD) (e_var rfl r0) (by omega) fun a ha x F2 sF r => g_tup4 r fun v1 v2 v3 v4 q1 q2 q3 q4 => ⟨rfl, b_yes, fun _ =>
    e_joined (ys := rowP a) (.cons (e_fmtS (e_var rfl q1) ?_) (.cons e_str (.cons (e_fmtI (e_var rfl q2) ?_) (.cons e_str (.cons (e_fmtI (e_var rfl q3) ?_) (.cons e_str (.cons (e_fmtI (e_var rfl q4) ?_) (.cons e_str .nil)))))))) ?_⟩) ?_ ?_) ?_) q
  · rw [kind1 (hg a ha).k]
    decide
  · exact log99 (hg a ha).l0 (by have := (hg a ha).l9; omega)
  · exact log99 (hg a ha).r0 (by have := (hg a ha).r9; omega)
  · exact log99 (by have := (hg a ha).n1; omega) (hg a ha).n9
  · have := rowP_len (hg a ha)
    omega
  · intro d hd
    obtain ⟨a, _, rfl⟩ := List.mem_map.mp hd
    exact ⟨_, rfl⟩
  · rw [filter_yes, List.map_map (g := strD)]
    have e := rows_len hg
    have e1 : (PySem.Str.ofString "").length = 0 := by decide +kernel
    show ((as.map rowT).map (·.length)).sum + (as.map rowT).length * _ ≤ _
    rw [e1]
    omega
  · rw [filter_yes, List.map_map]
    rfl
end
end Q

set_option maxHeartbeats 400000
namespace Q
open PySem PySem.Spec PyProof.Rows L2 Ca
/-- the promise of a def: I what its arguments are and what is true of its answer -/
def spQ (I : Hp → List V → (Hp → V → Prop) → Prop) : Sp := fun vs H Q _ => ∃ (S : Addr → Bool) (P : Hp → V → Prop), Fr S H ∧ I (offS S H) vs P ∧ ∀ v H', Same H H' → P (offS S H') v → Q v H'
theorem spQ_len {I : Hp → List V → (Hp → V → Prop) → Prop} {n : Nat} (h : ∀ F vs P, I F vs P → vs.length = n) : ∀ vs H Q E, spQ I vs H Q E → vs.length = n := fun vs H Q E ⟨S, P, f, i, _⟩ => h _ _ _ i
section
variable {K : PySem.W.Frag} {mg : PySem.Str → Option Value} {σ : L2.St} {F : Hp} {ta tb te : TE} {tas : TA} {C N : Addr} {P P0 : Hp → V → Prop} {E : XK} {I : Hp → List V → (Hp → V → Prop) → Prop}
theorem e_prop (h : EvP ta σ F P0) (hi : ∀ F v, P0 F v → I F [v] P ∧ ∃ a dx fs, v = .ref a ∧ F a = some (.ins C dx fs)) : EvP (tProp C (spQ I) [] E ta) σ F P := fun S H1 f s Q q =>
  h S H1 f s _ fun v H2 s2 p => by
    obtain ⟨i, a, dx, fs, rfl, ha⟩ := hi _ v p
    exact ⟨a, dx, fs, rfl, offS_same _ _ ha, S, P, f.mono s2, i, fun v H3 s3 p3 => q v H3 (s2.trans s3) p3⟩
theorem e_meth0 {m : PySem.Str} (h : EvP ta σ F P0) (hi : ∀ F v, P0 F v → I F [v] P ∧ ∃ a dx fs, v = .ref a ∧ F a = some (.ins C dx fs) ∧ fs.lookup m = none) : EvP (tMeth C m (spQ I) [] E ta tNil) σ F P := fun S H1 f s Q q =>
  h S H1 f s _ fun v H2 s2 p => by
    obtain ⟨i, a, dx, fs, rfl, ha, hm⟩ := hi _ v p
    exact ⟨a, dx, fs, rfl, offS_same _ _ ha, hm, S, P, f.mono s2, i, fun v H3 s3 p3 => q v H3 (s2.trans s3) p3⟩
theorem e_call1 (h : EvP ta σ F P0) (hi : ∀ F v, P0 F v → I F [v] P) : EvP (tCall (spQ I) [] E (tCons ta tNil)) σ F P := fun S H1 f s Q q =>
  h S H1 f s _ fun v H2 s2 p => ⟨S, P, f.mono s2, hi _ v p, fun v H3 s3 p3 => q v H3 (s2.trans s3) p3⟩
end
/-! ### Table: rows, len, text -/
abbrev s_trows : Stmt := inClass cT 1
abbrev s_tlen : Stmt := inClass cT 2
abbrev s_ttext : Stmt := inClass cT 11
theorem sc_trows : FnScope ["self"] ["self"] (defScope s_trows) := ⟨rfl, rfl, rfl, by decide +kernel, rfl, by decide +kernel, by decide +kernel⟩
theorem sc_tlen : FnScope ["self"] ["self"] (defScope s_tlen) := ⟨rfl, rfl, rfl, by decide +kernel, rfl, by decide +kernel, by decide +kernel⟩
theorem sc_ttext : FnScope ["self"] ["self"] (defScope s_ttext) := ⟨rfl, rfl, rfl, by decide +kernel, rfl, by decide +kernel, by decide +kernel⟩
theorem TV.mono {H H' : Hp} {C : Addr} {ks : List Ro} {v : V} (s : Same H H') (h : TV C ks H v) : TV C ks H' v := by
  obtain ⟨x, dx, o, e, h1, r⟩ := h
  exact ⟨x, dx, o, e, s _ _ h1, r.mono (KT.of s).m⟩
theorem TV.off {S : Addr → Bool} {H : Hp} {C : Addr} {ks : List Ro} {v : V} (f : Fr S H) (h : TV C ks H v) : TV C ks (offS S H) v := by
  obtain ⟨x, dx, o, e, h1, r⟩ := h
  refine ⟨x, dx, o, e, by rw [offS_at (f.imm h1 (by simp [MutO]))]; exact h1, r.mono (KT.m fun t ys z => ?_)⟩
  rw [offS_at (f.imm z (by simp [MutO]))]
  exact z
theorem tf_kept (o : V) : (tf o).lookup ("kept" : PySem.Str) = some o := by
  unfold tf
  rw [lookup_putF, if_pos rfl]
theorem tf_no (o : V) {m : PySem.Str} (h : ¬ m = "kept") : (tf o).lookup m = none := by
  unfold tf
  rw [lookup_putF, if_neg h]
  rfl
section
variable {K : PySem.W.Frag} {σ : L2.St} {F : Hp} {ta : TE} {C : Addr} {ks : List Ro}
theorem e_kept (cl : Cls K C) (nK : NoAttr K C "kept") (h : EvP ta σ F (TV C ks)) : EvD (tFld K ta "kept") σ F (.tuple (ks.map roD)) := fun S H1 f s Q q =>
  h S H1 f s _ fun v H2 s2 p => by
    obtain ⟨x, dx, o, rfl, h1, r⟩ := p
    exact ⟨x, C, dx, _, _, rfl, offS_same _ _ h1, cl, nK, tf_kept _, q _ H2 s2 (r.mono onlyT_same)⟩
end
def ITRows (C : Addr) : Hp → List V → (Hp → V → Prop) → Prop := fun F vs P => ∃ v ks, vs = [v] ∧ TV C ks F v ∧ P = fun H v => Rp H v (.tuple (ks.map roD))
def ITLen (C : Addr) : Hp → List V → (Hp → V → Prop) → Prop := fun F vs P => ∃ v ks, vs = [v] ∧ TV C ks F v ∧ P = fun H v => Rp H v (.int ks.length)
def ITText (C : Addr) : Hp → List V → (Hp → V → Prop) → Prop := fun F vs P => ∃ v ks, vs = [v] ∧ TV C ks F v ∧ ks.length ≤ 1000 ∧ (∀ a ∈ ks, GoodR a) ∧ P = fun H v => Rp H v (.str (txr ks))
section
variable {P : Program} {w : World} {K : PySem.W.Frag} {mg : PySem.Str → Option Value} {base : Heap}
theorem ok_trows {f C N : Addr} {fd : FuncData} (F : FnM K "rows" "Table.rows" s_trows f fd) (TQ : TT K mg C N) : FnOk P w K mg base CX0 1 f fd ["self"] (spQ (ITRows C)) := by
  refine F.ok sc_trows (spQ_len (by rintro _ _ _ ⟨v, ks, rfl, _⟩; rfl)) (fun cdv A outer s H vs Q E hr h => ?_)
  obtain ⟨S, P0, fr, ⟨v, ks, rfl, tv, rfl⟩, q⟩ := h
  refine ⟨_, PSs.nox (pss_one (ps_ret (pe_fld (pv 0) rfl))), ?_⟩
  exact go_ret (P := fun H v => Rp H v (.tuple (ks.map roD))) fr (e_kept TQ.cl TQ.nK (e_varP (P := TV C ks) rfl fun _ s => tv.mono s)) q
theorem ok_tlen {f C N : Addr} {fd : FuncData} (F : FnM K "__len__" "Table.__len__" s_tlen f fd) (T : Tx K mg) (TQ : TT K mg C N) : FnOk P w K mg base CX0 1 f fd ["self"] (spQ (ITLen C)) := by
  refine F.ok sc_tlen (spQ_len (by rintro _ _ _ ⟨v, ks, rfl, _⟩; rfl)) (fun cdv A outer s H vs Q E hr h => ?_)
  obtain ⟨S, P0, fr, ⟨v, ks, rfl, tv, rfl⟩, q⟩ := h
  refine ⟨_, PSs.nox (pss_one (ps_ret (pe_callB (call_lenQ : CallR _ _ (rLenQ K)) (by rfl) T.len bLen (pa_cons (pe_fld (pv 0) rfl) pa_nil)))), ?_⟩
  exact go_ret (P := fun H v => Rp H v (.int ks.length)) fr (eqD (e_lenT (e_kept TQ.cl TQ.nK (e_varP (P := TV C ks) rfl fun _ s => tv.mono s))) (by rw [List.length_map])) q
theorem ok_ttext {f C N : Addr} {fd : FuncData} (F : FnM K "text" "Table.text" s_ttext f fd) (TQ : TT K mg C N) (D1 : Fd P w K mg base "text_of_rows" 1 ["rows"] (spR RTxrT)) : FnOk P w K mg base CX0 2 f fd ["self"] (spQ (ITText C)) := by
  obtain ⟨f1, fd1, G1, b1, k1, m1⟩ := D1.ex
  refine F.ok sc_ttext (spQ_len (by rintro _ _ _ ⟨v, ks, rfl, _⟩; rfl)) (fun cdv A outer s H vs Q E hr h => ?_)
  obtain ⟨S, P0, fr, ⟨v, ks, rfl, tv, hz, g, rfl⟩, q⟩ := h
  refine ⟨_, PSs.nox (pss_one (ps_ret (pe_call G1 (hr.mono (by decide)) rfl m1 k1 b1 .nil pass0 (pa_cons (pe_fld (pv 0) rfl) pa_nil)))), ?_⟩
  exact go_ret (P := fun H v => Rp H v (.str (txr ks))) fr (e_call (a_cons (e_kept TQ.cl TQ.nK (e_varP (P := TV C ks) rfl fun _ s => tv.mono s)) a_nil) ⟨ks, rfl, hz, g, rfl⟩) q
end
end Q

set_option maxHeartbeats 400000
namespace Q
open PySem PySem.Spec PyProof.Rows L2 Ca
section
variable {X : Cx} {CX : CXT} {k i : Nat} {f C : Addr} {sp : Sp} {E : XK} {x : PySem.Str} {e : Expr} {te : TE} {p sq pos : Pos}
/-- C(*e), C a class of the module -/
def tGlbStar (K : PySem.W.Frag) (C : Addr) (sp : Sp) (E : XK) (te : TE) : TE := fun σ H Q => te σ H fun y H1 => ∃ a xs, y = V.ref a ∧ (SqT K H1 a xs ∨ SqL K H1 a xs) ∧
  ∀ x dx, H1 x = none → H1 dx = none → dx ≠ x → sp (V.ref x :: xs) (upd (upd H1 dx (.own x)) x (.ins C dx [])) (fun v H2 => v = .non ∧ Q (.ref x) H2) E
theorem pe_glbStar (M : Mk X.K C f) (F : FnR X.prog X.w X.K X.mg X.base CX k f sp) (hr : Room (k + 1) X.A) (hg : Gl X x) (hm : X.mg x = some (.ref C)) (hx : Passes CX X E) (he : PE X e te)
    (hdb : (x == ("__debug__" : PySem.Str)) = false := by decide) (hst : starEach [.Starred e sq] X.env = [(true, eval e X.env)] := by rfl) :
    PE X (.Call (.Name x p) [.Starred e sq] [] pos) (tGlbStar X.K C sp E te) := by
  refine ⟨fun pins s σ H Q I h => wpAny_Call_Name_kw (ld_glob I hg hm ?_ hdb)⟩
  refine PySem.W.callWith_S (h₀ := X.base) I.ok.mod.kin M.kp (thn (he.run pins s σ _ _ I h) fun v s2 ⟨y, H2, I2, ry, a, xs, ey, hxs, q⟩ => ?_) hst
  subst ey
  obtain rfl : v = Value.ref a := ry
  exact StX.star_any I2 hxs fun us s3 I3 rv => ⟨I3.kIn, StX.run_makeR M F hr hx I3 rv q⟩
end
/-! ### table_within_limits, where the rows are those of a table -/
abbrev s_twl : Stmt := top 31
theorem sc_twl : FnScope ["rows"] ["rows"] (defScope s_twl) := ⟨rfl, rfl, rfl, by decide +kernel, rfl, by decide +kernel, by decide +kernel⟩
theorem same2 {H : Hp} {x dx p : Addr} {o1 o2 o3 : HO} (hx : H x = none) (hd : H dx = none) (hp : upd (upd H dx o1) x o2 p = none) : Same H (upd (upd (upd H dx o1) x o2) p o3) := fun b u e => by
  have n1 : b ≠ dx := ne_of_none e hd
  have n2 : b ≠ x := ne_of_none e hx
  have e2 : upd (upd H dx o1) x o2 b = some u := by rw [upd_ne n2, upd_ne n1]; exact e
  rw [upd_ne (ne_of_none e2 hp)]
  exact e2
section
variable {K : PySem.W.Frag} {σ : L2.St} {F : Hp} {te : TE} {C N : Addr} {E : XK}
/-- Table(*x), x a list of rows -/
theorem e_tabStar {rs ks : List Ro} (h : EvD te σ F (.list (rs.map roD))) (hA : AreR (rs.map roD)) (hk : srtD (rs.map roD) = ks.map roD) : EvP (tGlbStar K C (spTInitR C N) E te) σ F (TV C ks) := fun S H1 f s Q q =>
  h S H1 f s _ fun v H2 s2 r => by
    obtain ⟨a, xs, rfl, ha, rx⟩ := rp_lst r
    have lx : xs.length ≤ 12 := by
      have := hA.1
      rw [rx.length]
      exact this
    refine ⟨a, xs, rfl, .inr (.inl (.inl ha)), fun x dx hx hd ndx => ⟨[.ref x], xs, rfl, rfl, Nat.le_of_lt (small1000 (by omega)), fun p hp => ?_⟩⟩
    have sm := same2 (o1 := .own x) (o2 := .ins C dx []) (o3 := .tup xs) hx hd hp
    have npx : x ≠ p := fun z => by
      rw [← z, upd_same] at hp
      cases hp
    refine ⟨x, dx, p, rs.map roD, true, rfl, by rw [upd_ne npx, upd_same], .tup upd_same ((rx.mono offS_same).mono sm), by have := hA.1; omega, ⟨fun _ => hA, fun _ => rfl⟩, (fun z => by cases z), fun rs' ks' e' _ ek pk H' keep tv => ⟨rfl, ?_⟩⟩
    have ekk : ks' = ks := roD_inj (ek.symm.trans hk)
    subst ekk
    have sH : Same H2 H' := fun b u e => keep b u (ne_of_none e hx) (sm b u e)
    exact q _ H' (s2.trans sH) (tv.off ((f.mono s2).mono sH))
end
def ITwl (C : Addr) : Hp → List V → (Hp → V → Prop) → Prop := fun F vs P => ∃ (v : V) (rs ks : List Ro), vs = [v] ∧ Rp F v (.list (rs.map roD)) ∧ AreR (rs.map roD) ∧ srtD (rs.map roD) = ks.map roD ∧ P = TV C ks
section
variable {P : Program} {w : World} {K : PySem.W.Frag} {mg : PySem.Str → Option Value} {base : Heap}
theorem ok_twl {f C N fI : Addr} {fd : FuncData} (F : FnP K "table_within_limits" s_twl f fd) (M : Mk K C fI) (GI : FnR P w K mg base (L2.CX P w) 6 fI (spTInitR C N)) (gC : mg "Table" = some (.ref C)) (D1 : Fd P w K mg base "are_rows" 5 ["things"] (spR RRowsL)) :
    FnOk P w K mg base CX0 8 f fd ["rows"] (spQ (ITwl C)) := by
  obtain ⟨f1, fd1, G1, b1, k1, m1⟩ := D1.ex
  refine F.ok sc_twl (spQ_len (by rintro _ _ _ ⟨v, rs, ks, rfl, _⟩; rfl)) (fun cdv A outer s H vs Q E hr h => ?_)
  obtain ⟨S, P0, fr, ⟨v0, rs, ks, rfl, r0, hA, hk, rfl⟩, q⟩ := h
  refine ⟨_, PSs.nox (pss_cons (ps_if (pt_not (pt_val (pe_call G1 (hr.mono (by decide)) rfl m1 k1 b1 .nil pass0 (pa_cons (pv 0) pa_nil)))) pss_never pss_nil) (pss_one (ps_ret (pe_glbStar M GI (hr.mono (by decide)) rfl gC passL (pv 0))))), ?_⟩
  have hR : RRowsL [.list (rs.map roD)] (.bool true) := ⟨rs.map roD, true, rfl, by have := hA.1; omega, rfl, ⟨fun _ => hA, fun _ => rfl⟩⟩
  refine go_ifS (b := false) fr (b_not (b_val (e_call (a_cons (e_var rfl r0) a_nil) hR))) (fun z => by cases z) fun _ H1 s1 fr1 => ?_
  exact go_ret (P := TV C ks) fr1 (e_tabStar (N := N) (e_var rfl (r0.mono (offS_mono (S := S) s1))) hA hk) fun v H2 s2 p2 => q v H2 (s1.trans s2) p2
end
end Q

set_option maxHeartbeats 400000
namespace Q
open PySem PySem.Spec PyProof.Rows L2 Ca
/-! ### number_of_word: of what text() writes -/
abbrev dg (i : Int) : PySem.Str := PySem.Str.ofString (toString i)
abbrev s_now : Stmt := top 6
theorem sc_now : FnScope ["word"] ["word"] (defScope s_now) := ⟨rfl, rfl, rfl, by decide +kernel, rfl, by decide +kernel, by decide +kernel⟩
theorem dig_uni : ∀ c, 48 ≤ c → c ≤ 57 → Unicode.isDigit c = true := by
  have h : ∀ c, c < 58 → 48 ≤ c → Unicode.isDigit c = true := by decide +kernel
  exact fun c a b => h c (by omega) a
theorem dg_facts {i : Int} (h0 : 0 ≤ i) (h9 : i ≤ 10000) : (dg i).length ≤ 5 ∧ Txt.isascii (dg i) = true ∧ Txt.isdigit (dg i) = true ∧ PySem.intText? (dg i) = some i := by
  have l5 := num5 h0 h9
  obtain ⟨n, rfl⟩ := Int.eq_ofNat_of_zero_le h0
  have e : (dg ((n : Nat) : Int)).cps.toList = TL.numL n := TL.tl_num n
  have dgs := TL.numL_digits n
  have len : (TL.numL n).length ≤ 5 := by
    rw [← e, Array.length_toList]
    exact l5
  refine ⟨l5, ?_, ?_, TL.int_num (by omega)⟩
  · unfold Txt.isascii
    rw [← Array.all_toList, e]
    exact List.all_eq_true.mpr fun c hc => decide_eq_true (by have := (dgs c hc).2; omega)
  · unfold Txt.isdigit
    rw [← Array.all_toList, e, Bool.and_eq_true]
    refine ⟨decide_eq_true ?_, List.all_eq_true.mpr fun c hc => dig_uni c (dgs c hc).1 (dgs c hc).2⟩
    have : 0 < (TL.numL n).length := List.length_pos_iff.mpr (TL.numL_ne n)
    rw [← e, Array.length_toList] at this
    exact this
def spNow : Sp := fun vs H Q _ => ∃ i : Int, vs = [.str (dg i)] ∧ 0 ≤ i ∧ i ≤ 10000 ∧ Q (.int i) H
def RNow : List PyData → PyData → Prop := fun ds d => ∃ i : Int, ds = [.str (dg i)] ∧ 0 ≤ i ∧ i ≤ 10000 ∧ d = .int i
theorem now_imp : ∀ vs H Q E, spR RNow vs H Q E → spNow vs H Q E := by
  rintro vs H Q E ⟨S, ds, d, f, r, ⟨i, rfl, h0, h9, rfl⟩, q⟩
  obtain ⟨v, rfl, r1⟩ := rpa1 r
  cases r1
  exact ⟨i, rfl, h0, h9, q _ H (Same.refl _) (.int _)⟩
section
variable {P : Program} {w : World} {K : PySem.W.Frag} {mg : PySem.Str → Option Value} {base : Heap}
theorem ok_now {f : Addr} {fd : FuncData} (F : FnP K "number_of_word" s_now f fd) (T : Tx K mg) (hL : ∃ t, mg "LONGEST_NUMBER" = some (.int 5 t)) : FnOk P w K mg base CX0 1 f fd ["word"] spNow := by
  obtain ⟨tL, gL⟩ := hL
  refine F.ok sc_now (fun vs H Q E h => ?_) (fun cdv A outer s H vs Q E hr h => ?_)
  · obtain ⟨i, rfl, _⟩ := h
    rfl
  · obtain ⟨i, rfl, h0, h9, q⟩ := h
    obtain ⟨l, a1, a2, a3⟩ := dg_facts h0 h9
    refine ⟨_, PSs.nox (pss_cons (ps_if (PW.pt (pw_or (pt_cmpR op_gt (pe_callB call_len_str (by rfl) T.len bLen (pa_cons (pv 0) pa_nil)) (pe_glob (v := .int 5) rfl gL ⟨tL, rfl⟩) (nomark _)) (pw_or (pt_not (pt_val (pe_m0 PySem.F.slot_str_isascii PySem.F.type_str_isascii mt_isascii (pv 0)))) (pw_or1 (pt_not (pt_val (pe_m0 PySem.F.slot_str_isdigit PySem.F.type_str_isdigit mt_isdigit (pv 0)))))))) (pss_one (ps_ret (pe_un un_neg pe_int))) pss_nil)
      (pss_one (ps_ret (pe_callTy call_int_str (by rfl) T.int bInt (pa_cons (pv 0) pa_nil))))), ?_⟩
    refine ⟨_, rfl, _, rfl, Nat.le_trans l (by decide), _, 5, rfl, rfl, _, rfl, ?_⟩
    have e : decide ((5 : Int) < ((dg i).length : Nat)) = false := decide_eq_false (by omega)
    rw [e]
    refine iteF ⟨_, rfl, ⟨_, rfl⟩, _, rfl, rfl, trivial, _, rfl, ?_⟩
    rw [a1]
    refine iteF ⟨_, rfl, ⟨_, rfl⟩, _, rfl, rfl, trivial, _, rfl, ?_⟩
    rw [a2]
    exact iteF ⟨_, rfl, _, i, rfl, a3, Nat.le_trans l (by decide), q⟩
end
end Q

set_option maxHeartbeats 400000
namespace Ca
open PySem PySem.Spec PyProof.Rows L2
def rSplitQ : V → List V → Hp → VK → Prop := fun x xs H Q => ∃ a b, x = .str a ∧ xs = [.str b] ∧ (b.length == 0) = false ∧ a.length + 2 ≤ sizeLine ∧ rNewStrs (Txt.split a b) H Q
theorem pe_splitQ {X : Cx} {o e : Expr} {to te : TE} {apos pos : Pos} (ho : PE X o to) (he : PE X e te) (hs : starEach [e] X.env = [(false, eval e X.env)] := by rfl) (hbase : attributeBase o "split" X.env (eval o X.env) = eval o X.env := by rfl) (hline : (apos.endLine == pos.line) = true := by rfl) :
    PE X (.Call (.Attribute o "split" apos) [e] [] pos) (tM1 rSplitQ to te) := pe_split ho he hs hbase hline
section
variable {K : PySem.W.Frag} {σ : L2.St} {F : Hp} {ta tb te : TE} {tas : TA} {ds es : List PyData}
theorem rp_strs {H : Hp} : ∀ ws : List PySem.Str, RpA H (ws.map V.str) (ws.map PyData.str)
  | [] => .nil
  | w :: ws => .cons (.str w) (rp_strs ws)
theorem e_split {a b : PySem.Str} (ha : EvD ta σ F (.str a)) (hb : EvD tb σ F (.str b)) (h0 : (b.length == 0) = false) (hl : a.length ≤ 900) : EvD (tM1 rSplitQ ta tb) σ F (.list ((Txt.split a b).map .str)) := fun S H1 f s Q q =>
  ha S H1 f s _ fun v H2 s2 r2 => by
    cases r2
    refine ⟨⟨_, rfl⟩, hb S H2 (f.mono s2) (s.trans (offS_mono s2)) _ fun w H3 s3 r3 => ?_⟩
    cases r3
    refine ⟨a, b, rfl, rfl, h0, Nat.le_of_lt (small1000 (by omega)), fun p hp => q _ _ ((s2.trans s3).trans (same_new hp)) (.lst (offS_new ((f.mono s2).mono s3) hp) (rp_strs _))⟩
theorem a_starL (h : EvD te σ F (.list es)) (hs : EvA tas σ F ds) : EvA (StX.tStar K te tas) σ F (es ++ ds) := fun S H1 f s Q q =>
  h S H1 f s _ fun v H2 s2 r => by
    obtain ⟨a, xs, rfl, ha, rx⟩ := rp_lst r
    exact ⟨a, xs, rfl, .inr (.inl (.inl ha)), hs S H2 (f.mono s2) (s.trans (offS_mono s2)) _ fun ys H3 s3 ry => q _ H3 (s2.trans s3) ((rx.mono (offS_mono s3)).append ry)⟩
end
end Ca
namespace Q
open PySem PySem.Spec PyProof.Rows L2 Ca
/-! ### row_of_line: of what text() writes -/
abbrev s_rol : Stmt := top 24
theorem sc_rol : FnScope ["line", "words", "numbers", "word"] ["line"] (defScope s_rol) := ⟨rfl, rfl, rfl, by decide +kernel, rfl, by decide +kernel, by decide +kernel⟩
def rowL (a : Ro) : List PySem.Str := [a.k, dg a.l, dg a.r, dg a.n]
def rowW (a : Ro) : PySem.Str := Txt.join " " (rowL a)
def RRol : List PyData → PyData → Prop := fun ds d => ∃ a : Ro, ds = [.str (rowW a)] ∧ GoodR a ∧ d = roD a
theorem no_sp {a : Ro} (g : GoodR a) : ∀ p ∈ rowL a, (32 : Nat) ∉ p.cps.toList := by
  have num : ∀ {i : Int}, 0 ≤ i → (32 : Nat) ∉ (dg i).cps.toList := fun {i} h0 hm => by
    obtain ⟨n, rfl⟩ := Int.eq_ofNat_of_zero_le h0
    have e : (dg ((n : Nat) : Int)).cps.toList = TL.numL n := TL.tl_num n
    rw [e] at hm
    have := (TL.numL_digits n 32 hm).1
    omega
  intro p hp
  rcases List.mem_cons.mp hp with e | hp
  · rw [e]
    have k := g.k
    unfold kindOk inV at k
    rw [List.any_eq_true] at k
    obtain ⟨y, hy, ey⟩ := k
    rcases List.mem_cons.mp hy with z | hy
    · subst z
      have e1 : PySem.Str.ofString "A" = a.k := by simpa [eqV] using ey
      rw [← e1]
      decide +kernel
    · rcases List.mem_cons.mp hy with z | hy
      · subst z
        have e1 : PySem.Str.ofString "B" = a.k := by simpa [eqV] using ey
        rw [← e1]
        decide +kernel
      · rcases List.mem_cons.mp hy with z | hy
        · subst z
          have e1 : PySem.Str.ofString "C" = a.k := by simpa [eqV] using ey
          rw [← e1]
          decide +kernel
        · cases hy
  · rcases List.mem_cons.mp hp with e | hp
    · rw [e]; exact num g.l0
    · rcases List.mem_cons.mp hp with e | hp
      · rw [e]; exact num g.r0
      · rcases List.mem_cons.mp hp with e | hp
        · rw [e]; exact num (by have := g.n1; omega)
        · cases hp
theorem split_row {a : Ro} (g : GoodR a) : Txt.split (rowW a) " " = rowL a := by
  unfold rowW
  exact TL.split_join (y := " ") (s := 32) (S := []) (by decide +kernel) (by decide +kernel) (by simp [rowL]) (no_sp g)
theorem rowW_len {a : Ro} (g : GoodR a) : (rowW a).length ≤ 40 := by
  have z := StrLaws.join_length_le " " (rowL a)
  have e1 : (PySem.Str.ofString " ").length = 1 := by decide +kernel
  have h1 := kind1 g.k
  have h2 : (dg a.l).length ≤ 5 := num5 g.l0 (by have := g.l9; omega)
  have h3 : (dg a.r).length ≤ 5 := num5 g.r0 (by have := g.r9; omega)
  have h4 : (dg a.n).length ≤ 5 := num5 (show 0 ≤ a.n by have := g.n1; omega) g.n9
  unfold rowW
  rw [TL.join_eq]
  unfold rowL at z ⊢
  simp only [List.map_cons, List.map_nil, List.sum_cons, List.sum_nil, List.length_cons, List.length_nil, e1] at z
  omega
section
variable {P : Program} {w : World} {K : PySem.W.Frag} {mg : PySem.Str → Option Value} {base : Heap}
theorem ok_rol {f : Addr} {fd : FuncData} (F : FnP K "row_of_line" s_rol f fd) (T : Tx K mg) (D1 : Fd P w K mg base "number_of_word" 1 ["word"] (spR RNow)) : FnOk P w K mg base CX0 2 f fd ["line"] (spR RRol) := by
  obtain ⟨f1, fd1, G1, b1, k1, m1⟩ := D1.ex
  refine F.ok sc_rol (spR_len (by rintro _ _ ⟨a, rfl, _⟩; rfl)) (fun cdv A outer s H vs Q E hr h => ?_)
  obtain ⟨S, ds, d, fr, rA, ⟨a, rfl, g, rfl⟩, q⟩ := h
  obtain ⟨v0, rfl, r0⟩ := rpa1 rA
  refine ⟨_, PSs.nox (pss_cons (ps_set (i := 1) sc_rol.nd rfl (.inl rfl) (pe_splitQ (pv 0) pe_str))
    (pss_cons (ps_setLc (i := 2) (own := [("word", 3)]) (g := gName 3) (by rfl) sc_rol.nd rfl rfl (sw_true rfl rfl rfl (by decide +kernel)) (pi_listQ (K := K) rfl (pe_slice (sl_list : SlR _ (rSlL K)) (pv 1) (po_some pe_int) po_none))
      (blkOk_by (own := [("word", 3)]) (N := ["line", "words", "numbers", "word"]) (sc := defScope s_rol) (by decide +kernel)) (fun _ _ _ _ _ => pg_name (i := 3) sc_rol.nd rfl (Or.inl rfl)) (fun _ _ _ _ _ => pts_nil) (fun _ _ _ _ _ => pe_call G1 (hr.mono (by decide)) rfl m1 k1 b1 .nil pass0 (pa_cons (pv 3) pa_nil)))
    (pss_one (ps_ret (pe_tup (pa_cons (pe_ix (ix_list : IxR _ (rIxL K)) (pv 1) pe_int (fun _ _ => rfl)) (StX.pa_star (pv 2) pa_nil))))))), ?_⟩
  have wl := rowW_len g
  refine go_setS (P := fun H v => Rp H v (.list ((rowL a).map .str))) fr (eqD (e_split (e_var rfl r0) e_str (by decide +kernel) (by omega)) (by rw [split_row g])) fun v1 H1 s1 fr1 r1 => ?_
  refine go_setS (P := fun H v => Rp H v (.list ([a.l, a.r, a.n].map .int))) fr1 (eqD (e_lcL (enc := fun i : Int => PyData.str (dg i)) (as := [a.l, a.r, a.n]) (b := fun _ => true) (ev := fun i => PyData.int i) (eqD (e_slL (e_var rfl r1) (o_some e_int) o_none) rfl) (Nat.le_of_ble_eq_true rfl) fun i hi x F2 sF r => g_name ⟨rfl, b_yes, fun _ => e_call (a_cons (e_var rfl r) a_nil) ⟨i, rfl, ?_, ?_, rfl⟩⟩) rfl) fun v2 H2 s2 fr2 r2 => ?_
  · rcases List.mem_cons.mp hi with e | hi
    · rw [e]; exact g.l0
    · rcases List.mem_cons.mp hi with e | hi
      · rw [e]; exact g.r0
      · rw [List.mem_singleton.mp hi]; have := g.n1; omega
  · rcases List.mem_cons.mp hi with e | hi
    · rw [e]; have := g.l9; omega
    · rcases List.mem_cons.mp hi with e | hi
      · rw [e]; have := g.r9; omega
      · rw [List.mem_singleton.mp hi]; exact g.n9
  · exact go_ret (P := fun H v => Rp H v (roD a)) fr2 (e_tup (ds := [.str a.k, .int a.l, .int a.r, .int a.n]) (a_cons (e_ixL (n := 0) (e_var rfl (r1.mono (offS_mono (S := S) s2))) e_int rfl rfl) (a_starL (es := [.int a.l, .int a.r, .int a.n]) (ds := []) (e_var rfl r2) a_nil)) (Nat.le_of_ble_eq_true rfl)) fun v H3 s3 r3 => q v H3 (s1.trans (s2.trans s3)) r3
end
end Q

set_option maxHeartbeats 400000
namespace Q
open PySem PySem.Spec PyProof.Rows L2 Ca
/-! ### the text of a table, split at its line feeds -/
theorem str_same {x y : PySem.Str} (h : TL.tl x = TL.tl y) : x = y := TL.ext_tl h
theorem rowT_eq (a : Ro) : rowT a = rowW a ++ "\n" := by
  refine str_same ?_
  have e : TL.tl PySem.Str.empty = [] := rfl
  have j : TL.tl (rowW a) = TL.tl a.k ++ (TL.tl " " ++ (TL.tl (dg a.l) ++ (TL.tl " " ++ (TL.tl (dg a.r) ++ (TL.tl " " ++ TL.tl (dg a.n)))))) := by
    unfold rowW
    rw [TL.join_eq, TL.tl_join]
    rfl
  rw [TL.tl_append, j]
  unfold rowT rowP
  simp only [List.foldl_cons, List.foldl_nil, TL.tl_append, e, List.nil_append, List.append_assoc]
theorem tl_txr : ∀ as : List Ro, TL.tl (txr as) = TL.joinL (TL.tl "\n") ((as.map rowW ++ [PySem.Str.ofString ""]).map TL.tl)
  | [] => by
    unfold txr
    rw [TL.join_eq, TL.tl_join]
    rfl
  | [a] => by
    unfold txr
    rw [TL.join_eq, TL.tl_join]
    show TL.tl (rowT a) = TL.tl (rowW a) ++ (TL.tl "\n" ++ TL.tl "")
    rw [rowT_eq, TL.tl_append]
    rfl
  | a :: b :: as => by
    have ih := tl_txr (b :: as)
    unfold txr at ih ⊢
    rw [TL.join_eq, TL.tl_join] at ih ⊢
    have e0 : TL.tl "" = [] := rfl
    show TL.tl (rowT a) ++ (TL.tl "" ++ TL.joinL (TL.tl "") (((b :: as).map rowT).map TL.tl)) = TL.tl (rowW a) ++ (TL.tl "\n" ++ TL.joinL (TL.tl "\n") (((b :: as).map rowW ++ [PySem.Str.ofString ""]).map TL.tl))
    rw [ih, rowT_eq, TL.tl_append, e0, List.nil_append, List.append_assoc]
theorem txr_join (as : List Ro) : txr as = Txt.join "\n" (as.map rowW ++ [PySem.Str.ofString ""]) := by
  refine str_same ?_
  rw [tl_txr, TL.join_eq, TL.tl_join]
theorem cut_last (ds : List PyData) (d : PyData) : Ca.cutD (ds ++ [d]) none (some (-1)) = ds := by
  unfold Ca.cutD
  rw [HT.sIx_none]
  have e : HT.sIx (ds ++ [d]).length (ds ++ [d]).length (some (-1)) = ds.length := by
    unfold HT.sIx
    rw [List.length_append]
    simp
    try omega
  rw [e, Nat.sub_zero, List.drop_zero, List.take_left]
end Q

set_option maxHeartbeats 400000
namespace Q
open PySem PySem.Spec PyProof.Rows L2 Ca
section
variable {X : Cx} {CX : CXT} {k i : Nat} {f C : Addr} {sp : Sp} {E : XK} {x : PySem.Str} {e : Expr} {te : TE} {p sq pos : Pos}
/-- cls(*e), the i-th slot holds the class at C -/
def tClsStar (K : PySem.W.Frag) (C : Addr) (i : Nat) (sp : Sp) (E : XK) (te : TE) : TE := fun σ H Q => σ[i]? = some (some (.ref C)) ∧ te σ H fun y H1 => ∃ a xs, y = V.ref a ∧ (SqT K H1 a xs ∨ SqL K H1 a xs) ∧
  ∀ x dx, H1 x = none → H1 dx = none → dx ≠ x → sp (V.ref x :: xs) (upd (upd H1 dx (.own x)) x (.ins C dx [])) (fun v H2 => v = .non ∧ Q (.ref x) H2) E
theorem pe_clsStar (M : Mk X.K C f) (F : FnR X.prog X.w X.K X.mg X.base CX k f sp) (hr : Room (k + 1) X.A) (hN : X.N[i]? = some x) (hv : Vis X.env.scope x) (hx : Passes CX X E) (he : PE X e te)
    (hdb : (x == ("__debug__" : PySem.Str)) = false := by decide) (hcd : (x == ("__classdict__" : PySem.Str)) = false := by decide) (hst : starEach [.Starred e sq] X.env = [(true, eval e X.env)] := by rfl) :
    PE X (.Call (.Name x p) [.Starred e sq] [] pos) (tClsStar X.K C i sp E te) := by
  refine ⟨fun pins s σ H Q I h => ?_⟩
  obtain ⟨h0, h⟩ := h
  refine wpAny_Call_Name_kw (thn ((pe_var (pos := p) hN hv hdb hcd).run pins s σ H (fun v H1 => v = .ref C ∧ H1 = H) I ⟨.ref C, h0, rfl, rfl⟩) fun u s1 ⟨v, H1, I1, r1, e1, e2⟩ => ?_)
  subst e1 e2
  obtain rfl : u = Value.ref C := r1
  refine PySem.W.callWith_S (h₀ := X.base) I1.ok.mod.kin M.kp (thn (he.run pins s1 σ _ _ I1 h) fun v s2 ⟨y, H2, I2, ry, a, xs, ey, hxs, q⟩ => ?_) hst
  subst ey
  obtain rfl : v = Value.ref a := ry
  exact StX.star_any I2 hxs fun us s3 I3 rv => ⟨I3.kIn, StX.run_makeR M F hr hx I3 rv q⟩
end
section
variable {K : PySem.W.Frag} {σ : L2.St} {F : Hp} {ta te : TE} {C N : Addr} {E : XK} {d : PyData}
theorem e_isiS (h : EvD ta σ F d) : EvD (tCB (rIsi K) (tCons ta (tCons (tC (.ty "str")) tNil))) σ F (.bool (isStr d)) := fun S H1 f s Q q => h S H1 f s _ fun v H2 s2 r =>
  ⟨_, _, _, _, _, rfl, .ty _, (r.mono offS_same).ty, kStr d, q _ H2 s2 (.bl _)⟩
/-- cls(*x), x a list of rows -/
theorem e_clsStar {i : Nat} {rs ks : List Ro} (h0 : σ[i]? = some (some (.ref C))) (h : EvD te σ F (.list (rs.map roD))) (hA : AreR (rs.map roD)) (hk : srtD (rs.map roD) = ks.map roD) : EvP (tClsStar K C i (spTInitR C N) E te) σ F (TV C ks) := fun S H1 f s Q q =>
  ⟨h0, e_tabStar (K := K) (C := C) (N := N) (E := E) h hA hk S H1 f s Q q⟩
end
/-! ### Table.read: of what text() writes -/
abbrev s_tread : Stmt := inClass cT 12
theorem sc_tread : FnScope ["cls", "text", "rows", "line"] ["cls", "text"] (defScope s_tread) := ⟨rfl, rfl, rfl, by decide +kernel, rfl, by decide +kernel, by decide +kernel⟩
def ITRead (C : Addr) : Hp → List V → (Hp → V → Prop) → Prop := fun F vs P => ∃ ks : List Ro, vs = [.ref C, .str (txr ks)] ∧ AreR (ks.map roD) ∧ (∀ a ∈ ks, GoodR a) ∧ srtD (ks.map roD) = ks.map roD ∧ P = TV C ks
theorem tl_rowW (a : Ro) : TL.tl (rowW a) = TL.tl a.k ++ (TL.tl " " ++ (TL.tl (dg a.l) ++ (TL.tl " " ++ (TL.tl (dg a.r) ++ (TL.tl " " ++ TL.tl (dg a.n)))))) := by
  unfold rowW
  rw [TL.join_eq, TL.tl_join]
  rfl
theorem no_lf {a : Ro} (g : GoodR a) : (10 : Nat) ∉ TL.tl (rowW a) := by
  have num : ∀ {i : Int}, 0 ≤ i → (10 : Nat) ∉ TL.tl (dg i) := fun {i} h0 hm => by
    obtain ⟨n, rfl⟩ := Int.eq_ofNat_of_zero_le h0
    rw [show TL.tl (dg ((n : Nat) : Int)) = TL.numL n from TL.tl_num n] at hm
    have := (TL.numL_digits n 10 hm).1
    omega
  have sp : (10 : Nat) ∉ TL.tl " " := by decide +kernel
  have kk : (10 : Nat) ∉ TL.tl a.k := by
    have k := g.k
    unfold kindOk inV at k
    rw [List.any_eq_true] at k
    obtain ⟨y, hy, ey⟩ := k
    rcases List.mem_cons.mp hy with z | hy
    · subst z
      have e1 : PySem.Str.ofString "A" = a.k := by simpa [eqV] using ey
      rw [← e1]
      decide +kernel
    · rcases List.mem_cons.mp hy with z | hy
      · subst z
        have e1 : PySem.Str.ofString "B" = a.k := by simpa [eqV] using ey
        rw [← e1]
        decide +kernel
      · rcases List.mem_cons.mp hy with z | hy
        · subst z
          have e1 : PySem.Str.ofString "C" = a.k := by simpa [eqV] using ey
          rw [← e1]
          decide +kernel
        · cases hy
  have n1 := num g.l0
  have n2 := num g.r0
  have n3 := num (show 0 ≤ a.n by have := g.n1; omega)
  rw [tl_rowW]
  simp only [List.mem_append, not_or]
  exact ⟨kk, sp, n1, sp, n2, sp, n3⟩
theorem split_txr {as : List Ro} (g : ∀ a ∈ as, GoodR a) : Txt.split (txr as) "\n" = as.map rowW ++ [PySem.Str.ofString ""] := by
  rw [txr_join]
  refine TL.split_join (y := "\n") (s := 10) (S := []) (by decide +kernel) (by decide +kernel) (by simp) fun p hp => ?_
  rcases List.mem_append.mp hp with z | z
  · obtain ⟨a, ha, rfl⟩ := List.mem_map.mp z
    exact no_lf (g a ha)
  · rw [List.mem_singleton.mp z]
    decide +kernel
theorem txr_len {as : List Ro} (g : ∀ a ∈ as, GoodR a) (h : as.length ≤ 12) : (txr as).length ≤ 600 := by
  have z := StrLaws.join_length_le "" (as.map rowT)
  have r := rows_len g
  have e1 : (PySem.Str.ofString "").length = 0 := by decide +kernel
  rw [e1] at z
  unfold txr
  rw [TL.join_eq]
  omega
section
variable {P : Program} {w : World} {K : PySem.W.Frag} {mg : PySem.Str → Option Value} {base : Heap}
theorem ok_tread {f C N fI : Addr} {fd : FuncData} (F : FnM K "read" "Table.read" s_tread f fd) (T : Tx K mg) (M : Mk K C fI) (GI : FnR P w K mg base (L2.CX P w) 6 fI (spTInitR C N)) (D1 : Fd P w K mg base "row_of_line" 2 ["line"] (spR RRol))
    (D2 : Fd P w K mg base "are_rows" 5 ["things"] (spR RRowsL)) (D3 : Fd P w K mg base "text_of_rows" 1 ["rows"] (spR RTxrL)) : FnOk P w K mg base CX0 8 f fd ["cls", "text"] (spQ (ITRead C)) := by
  obtain ⟨f1, fd1, G1, b1, k1, m1⟩ := D1.ex
  obtain ⟨f2, fd2, G2, b2, k2, m2⟩ := D2.ex
  obtain ⟨f3, fd3, G3, b3, k3, m3⟩ := D3.ex
  refine F.ok sc_tread (spQ_len (by rintro _ _ _ ⟨ks, rfl, _⟩; rfl)) (fun cdv A outer s H vs Q E hr h => ?_)
  obtain ⟨S, P0, fr, ⟨ks, rfl, hA, g, hs, rfl⟩, q⟩ := h
  have l12 : ks.length ≤ 12 := by
    have := hA.1
    rw [List.length_map] at this
    exact this
  refine ⟨_, PSs.nox (pss_cons (ps_if (pt_not (pt_val (pe_callB (call_isi : CallR _ _ (rIsi K)) (by rfl) T.isi bIsi (pa_cons (pv 1) (pa_cons (pe_bltn (v := .ty "str") (by rfl) T.str bStr rfl) pa_nil))))) pss_never pss_nil)
    (pss_cons (ps_setLc (i := 2) (own := [("line", 3)]) (g := gName 3) (by rfl) sc_tread.nd rfl rfl (sw_true rfl rfl rfl (by decide +kernel)) (pi_listQ (K := K) rfl (pe_slice (sl_list : SlR _ (rSlL K)) (pe_splitQ (pv 1) pe_str) po_none (po_some (pe_un un_neg pe_int))))
      (blkOk_by (own := [("line", 3)]) (N := ["cls", "text", "rows", "line"]) (sc := defScope s_tread) (by decide +kernel)) (fun _ _ _ _ _ => pg_name (i := 3) sc_tread.nd rfl (Or.inl rfl)) (fun _ _ _ _ _ => pts_nil) (fun _ _ _ _ _ => pe_call G1 (hr.mono (by decide)) rfl m1 k1 b1 .nil pass0 (pa_cons (pv 3) pa_nil)))
    (pss_cons (ps_if (PW.pt (pw_or (pt_not (pt_val (pe_call G2 (hr.mono (by decide)) rfl m2 k2 b2 .nil pass0 (pa_cons (pv 2) pa_nil)))) (pw_or1 (pt_cmpR op_ne (pe_call G3 (hr.mono (by decide)) rfl m3 k3 b3 .nil pass0 (pa_cons (pe_callB (cr_sortD T.sm (hr.mono (Nat.le_refl _)) : CallR _ _ rSortD) (by rfl) T.sorted bSorted (pa_cons (pv 2) pa_nil)) pa_nil)) (pv 1) (nomark _))))) pss_never pss_nil)
    (pss_one (ps_ret (pe_clsStar (i := 0) M GI (hr.mono (by decide)) rfl (Or.inl rfl) passL (pv 2))))))), ?_⟩
  refine go_ifS (b := false) fr (b_not (b_val (e_isiS (K := K) (e_var rfl (.str (txr ks)))))) (fun z => by cases z) fun _ H1 s1 fr1 => ?_
  have neg : ∀ {σ : L2.St} {F : Hp}, EvD (tUn (rU fun i => .int (-i)) (tC (.int 1))) σ F (.int (-1)) := fun {σ F} S H1 f s Q q => ⟨1, rfl, q _ H1 (Same.refl _) (.int _)⟩
  refine go_setS (P := fun H v => Rp H v (.list (ks.map roD))) fr1 (eqD (e_lcL (enc := fun a : Ro => PyData.str (rowW a)) (as := ks) (b := fun _ => true) (ev := roD) (eqD (e_slL (e_split (e_var rfl (.str (txr ks))) e_str (by decide +kernel) (by have := txr_len g l12; omega)) o_none (o_some neg)) ?_) (by omega) fun a ha x F2 sF r => g_name ⟨rfl, b_yes, fun _ => e_call (a_cons (e_var rfl r) a_nil) ⟨a, rfl, g a ha, rfl⟩⟩) (by rw [filter_yes])) fun v2 H2 s2 fr2 r2 => ?_
  · rw [split_txr g, List.map_append, List.map_cons, List.map_nil, cut_last, List.map_map]
    rfl
  have hR : RRowsL [.list (ks.map roD)] (.bool true) := ⟨ks.map roD, true, rfl, by rw [List.length_map]; omega, rfl, ⟨fun _ => hA, fun _ => rfl⟩⟩
  have hX : RTxrL [.list (ks.map roD)] (.str (txr ks)) := ⟨ks, rfl, by omega, g, rfl⟩
  refine go_ifS fr2 (b_or (b_not (b_val (e_call (a_cons (e_var rfl r2) a_nil) hR))) fun _ => b_test (e_neS (e_call (a_cons (eqD (e_sortD (e_var rfl r2) (ros_alike ks) (ros_sortable ks) (fun d hd => ?_) (by rw [List.length_map]; omega)) (by rw [hs])) a_nil) hX) (e_var rfl (.str (txr ks))))) (fun z => ?_) fun _ H3 s3 fr3 => ?_
  · obtain ⟨a, _, rfl⟩ := List.mem_map.mp hd
    exact ro_depth a
  · exfalso
    simp at z
  · exact go_ret (P := TV C ks) fr3 (e_clsStar (N := N) rfl (e_var rfl (r2.mono (offS_mono (S := S) s3))) hA hs) fun v H4 s4 p4 => q v H4 (s1.trans (s2.trans (s3.trans s4))) p4
end
end Q

set_option maxHeartbeats 400000
namespace Q
open PySem PySem.Spec PyProof.Rows L2 Ca
/-! ### table_within_limits, with its exception -/
/-- what the top has written of an exception's class (at N) -/
structure XT (K : PySem.W.Frag) (mg : PySem.Str → Option Value) (x : PySem.Str) (N : Addr) : Prop where
  gN : mg x = some (.ref N)
  xN : PySem.W.excIn K N [.type "ValueError", .type "Exception", .type "BaseException", .type "object"] "ValueError.__new__" = true
  kN : PySem.W.keepIn K (.ref N) = true
  bN : PySem.W.subIn K (.ref N) (.type "BaseException") = some true
  tN : PySem.W.typeIn K (.ref N) = some (.type "type")
def spTwlX (C N : Addr) : Sp := fun vs H Q E => ∃ (S : Addr → Bool) (v : V) (ds : List PyData) (b : Bool), vs = [v] ∧ Fr S H ∧ Rp (offS S H) v (.list ds) ∧ ds.length ≤ 1000 ∧ (b = true ↔ AreR ds) ∧ (b = false → ∀ H', Same H H' → E (.ref N) none H') ∧
  ∀ rs ks : List Ro, b = true → ds = rs.map roD → srtD ds = ks.map roD → ks.Perm rs → ∀ v H', Same H H' → TV C ks (offS S H') v → Q v H'
section
variable {P : Program} {w : World} {K : PySem.W.Frag} {mg : PySem.Str → Option Value} {base : Heap}
theorem ok_twlX {f C N NX fI : Addr} {fd : FuncData} (F : FnP K "table_within_limits" s_twl f fd) (M : Mk K C fI) (GI : FnR P w K mg base (L2.CX P w) 6 fI (spTInitR C N)) (gC : mg "Table" = some (.ref C)) (XT1 : XT K mg "TooMuch" NX) (D1 : Fd P w K mg base "are_rows" 5 ["things"] (spR RRowsL)) :
    FnOk P w K mg base (L2.CX P w) 8 f fd ["rows"] (spTwlX C NX) := by
  obtain ⟨f1, fd1, G1, b1, k1, m1⟩ := D1.ex
  refine F.ok sc_twl (fun vs H Q E h => ?_) (fun cdv A outer s H vs Q E hr h => ?_)
  · obtain ⟨S, v, ds, b, rfl, _⟩ := h
    rfl
  obtain ⟨S, v0, ds, b, rfl, fr, r0, hz, hb, kE, kQ⟩ := h
  refine ⟨_, pss_cons (ps_if (pt_not (pt_val (pe_call G1 (hr.mono (by decide)) rfl m1 k1 b1 .nil pass0 (pa_cons (pv 0) pa_nil))))
    (pss_one (ps_raise rfl (takes_of rfl rfl rfl rfl) (pmk_own PySem.F.excBase_ValueError XT1.xN XT1.gN XT1.kN (raises_own XT1.bN XT1.tN) rfl))) pss_nil) (pss_one (ps_ret (pe_glbStar M GI (hr.mono (by decide)) rfl gC passL (pv 0)))), ?_⟩
  refine go_ifS (b := !b) fr (b_not (b_val (e_call (a_cons (e_var rfl r0) a_nil) ⟨ds, b, rfl, hz, rfl, hb⟩))) (fun z H1 s1 f1 => kE (by simpa using z) H1 s1) fun z H1 s1 fr1 => ?_
  have bt : b = true := by simpa using z
  have hA := hb.mp bt
  obtain ⟨l12, rs, rfl, g, nd⟩ := hb.mp bt
  obtain ⟨ks, es, pks⟩ := srt_rows rs
  exact go_ret (P := TV C ks) fr1 (e_tabStar (N := N) (e_var rfl (r0.mono (offS_mono (S := S) s1))) hA es) fun v H2 s2 p2 => kQ rs ks bt rfl es pks v H2 (s1.trans s2) p2
end
end Q

set_option maxHeartbeats 400000
namespace Ca
open PySem PySem.Spec PyProof.Rows L2
/-- data that are short when shown -/
structure Fit (d : PyData) (k n : Nat) : Prop where
  sh : d.showable = true
  dp : d.depth ≤ k
  ln : d.shown.length ≤ n
theorem Fit.mono {d : PyData} {k n k' n' : Nat} (h : Fit d k n) (hk : k ≤ k') (hn : n ≤ n') : Fit d k' n' := ⟨h.sh, Nat.le_trans h.dp hk, Nat.le_trans h.ln hn⟩
theorem fit_none : Fit .none 0 10 := ⟨by simp [PyData.showable], by simp [PyData.depth], by simp only [PyData.shown]; decide +kernel⟩
theorem fit_bool (b : Bool) : Fit (.bool b) 0 10 := ⟨by simp [PyData.showable], by simp [PyData.depth], by simp only [PyData.shown]; cases b <;> decide +kernel⟩
theorem fit_int {i : Int} (h : i.natAbs < 10 ^ 14) : Fit (.int i) 0 20 := by
  refine ⟨?_, by simp [PyData.depth], ?_⟩
  · have h1 : i.natAbs.log2 < 1920 := by
      by_cases z : i.natAbs = 0
      · rw [z]
        decide
      · rw [Nat.log2_lt z]
        exact Nat.lt_of_lt_of_le h (by decide +kernel)
    simpa [PyData.showable] using h1
  · have h2 := int_text_length_le10 (a := i) (k := 14) (by decide) h
    simp only [PyData.shown]
    show (PySem.Str.ofString (toString i)).length ≤ 20
    rw [PySem.ofString_length]
    omega
theorem fit_str {x : PySem.Str} {m : Nat} (hx : ∀ c ∈ x.cps.toList, c < 16 ^ 8) (hl : x.length ≤ m) : Fit (.str x) 0 (10 * m + 2) := by
  refine ⟨by simp [PyData.showable], by simp [PyData.depth], ?_⟩
  have := StrLaws.reprText_len x hx
  simp only [PyData.shown]
  omega
theorem all_sh : ∀ {ds : List PyData} {k n : Nat}, (∀ d ∈ ds, Fit d k n) → PyData.showableAll ds = true ∧ PyData.depthAll ds ≤ k ∧ ((PyData.shownAll ds).map (·.length)).sum ≤ ds.length * n
  | [], _, _, _ => by simp [PyData.showableAll, PyData.depthAll, PyData.shownAll]
  | d :: ds, k, n, h => by
    obtain ⟨h1, h2, h3⟩ := all_sh (ds := ds) fun e he => h e (.tail _ he)
    have f := h d (.head _)
    refine ⟨by simp [PyData.showableAll, f.sh, h1], ?_, ?_⟩
    · simp only [PyData.depthAll]
      have := f.dp
      omega
    · simp only [PyData.shownAll, List.map_cons, List.sum_cons, List.length_cons]
      have := f.ln
      rw [Nat.add_mul]
      omega
theorem shownAll_len (ds : List PyData) : (PyData.shownAll ds).length = ds.length := by
  rw [shownAll_eq_map, List.length_map]
theorem fit_list {ds : List PyData} {k n m : Nat} (h : ∀ d ∈ ds, Fit d k n) (hl : ds.length ≤ m) : Fit (.list ds) (k + 1) (m * (n + 2) + 3) := by
  obtain ⟨h1, h2, h3⟩ := all_sh h
  refine ⟨by simpa [PyData.showable] using h1, by simp only [PyData.depth]; omega, ?_⟩
  simp only [PyData.shown]
  have h4 := listText_len_le (PyData.shownAll ds)
  rw [shownAll_len] at h4
  have h5 : ds.length * (n + 2) ≤ m * (n + 2) := Nat.mul_le_mul_right _ hl
  rw [Nat.mul_add] at h5
  omega
theorem fit_tuple {ds : List PyData} {k n m : Nat} (h : ∀ d ∈ ds, Fit d k n) (hl : ds.length ≤ m) : Fit (.tuple ds) (k + 1) (m * (n + 2) + 3) := by
  obtain ⟨h1, h2, h3⟩ := all_sh h
  refine ⟨by simpa [PyData.showable] using h1, by simp only [PyData.depth]; omega, ?_⟩
  simp only [PyData.shown]
  have h4 := tupleText_len_le (PyData.shownAll ds)
  rw [shownAll_len] at h4
  have h5 : ds.length * (n + 2) ≤ m * (n + 2) := Nat.mul_le_mul_right _ hl
  rw [Nat.mul_add] at h5
  omega
theorem fit_dict0 : Fit (.dict []) 1 10 := ⟨by simp [PyData.showable, PyData.showableKv], by simp [PyData.depth, PyData.depthKv], by simp only [PyData.shown, PyData.shownKv]; decide +kernel⟩
end Ca
namespace Q
open PySem PySem.Spec PyProof.Rows L2 Ca
def Ascii (x : PySem.Str) : Prop := ∀ c ∈ x.cps.toList, c < 16 ^ 8
theorem kind_is {k : PySem.Str} (h : kindOk k = true) : k = "A" ∨ k = "B" ∨ k = "C" := by
  unfold kindOk inV at h
  rw [List.any_eq_true] at h
  obtain ⟨y, hy, e⟩ := h
  rcases List.mem_cons.mp hy with z | hy
  · subst z
    exact .inl (by simpa [eqV] using (Eq.symm (by simpa [eqV] using e)))
  · rcases List.mem_cons.mp hy with z | hy
    · subst z
      exact .inr (.inl (by simpa [eqV] using (Eq.symm (by simpa [eqV] using e))))
    · rcases List.mem_cons.mp hy with z | hy
      · subst z
        exact .inr (.inr (by simpa [eqV] using (Eq.symm (by simpa [eqV] using e))))
      · cases hy
theorem ascii_ofs {x : PySem.Str} (h : x.cps.toList.all (fun c => decide (c < 16 ^ 8)) = true) : Ascii x := fun c hc => of_decide_eq_true (List.all_eq_true.mp h c hc)
theorem ascii_kind {k : PySem.Str} (h : kindOk k = true) : Ascii k := by
  rcases kind_is h with z | z | z <;> subst z <;> exact ascii_ofs (by decide +kernel)
theorem ascii_dig {i : Int} (h0 : 0 ≤ i) (h9 : i ≤ 9) : Ascii (PySem.Str.ofString (toString i)) := by
  obtain ⟨n, rfl⟩ := Int.eq_ofNat_of_zero_le h0
  have h : ∀ n : Nat, n < 10 → (PySem.Str.ofString (toString ((n : Nat) : Int))).cps.toList.all (fun c => decide (c < 16 ^ 8)) = true := by decide +kernel
  exact ascii_ofs (h n (by omega))
theorem ascii_app {x y : PySem.Str} (hx : Ascii x) (hy : Ascii y) : Ascii (x ++ y) := fun c hc => by
  have e : (x ++ y).cps.toList = x.cps.toList ++ y.cps.toList := TL.tl_append x y
  rw [e] at hc
  rcases List.mem_append.mp hc with z | z
  · exact hx c z
  · exact hy c z
theorem ascii_join {s : PySem.Str} (hs : Ascii s) : ∀ {l : List PySem.Str}, (∀ x ∈ l, Ascii x) → Ascii (PySem.Str.join s l)
  | [], _ => fun c hc => by
    have e : (PySem.Str.join s []).cps.toList = [] := TL.tl_join s []
    rw [e] at hc
    cases hc
  | [x], h => fun c hc => by
    have e : (PySem.Str.join s [x]).cps.toList = x.cps.toList := TL.tl_join s [x]
    rw [e] at hc
    exact h x (.head _) c hc
  | x :: y :: r, h => by
    have e : PySem.Str.join s (x :: y :: r) = x ++ s ++ PySem.Str.join s (y :: r) := rfl
    rw [e]
    exact ascii_app (ascii_app (h x (.head _)) hs) (ascii_join hs fun z hz => h z (.tail _ hz))
end Q

set_option maxHeartbeats 400000
namespace Q
open PySem PySem.Spec PyProof.Rows L2 Ca
/-! ### the source of what is drawn -/
def Src (H : Hp) (s : Addr) : Prop := ∃ a b c : Int, H s = some (.lst [.int a, .int b, .int c])
/-- the source may have changed, nothing else -/
structure Stp (H H' : Hp) (s : Addr) : Prop where
  src : Src H' s
  same : ∀ b, b ≠ s → H' b = H b
theorem Stp.refl {H : Hp} {s : Addr} (h : Src H s) : Stp H H s := ⟨h, fun _ _ => rfl⟩
theorem Stp.trans {H H1 H2 : Hp} {s : Addr} (a : Stp H H1 s) (b : Stp H1 H2 s) : Stp H H2 s := ⟨b.src, fun x hx => (b.same x hx).trans (a.same x hx)⟩
theorem Stp.tup {H H' : Hp} {s t : Addr} {xs : List V} (h : Stp H H' s) (hs : Src H s) (ht : H t = some (.tup xs)) : H' t = some (.tup xs) := by
  obtain ⟨a, b, c, hs⟩ := hs
  rw [h.same t (ne_of ht hs (by intro z; cases z))]
  exact ht
theorem stp_upd {H : Hp} {s : Addr} {a b c : Int} : Stp H (upd H s (.lst [.int a, .int b, .int c])) s := ⟨⟨a, b, c, upd_same⟩, fun _ h => upd_ne h⟩
abbrev s_draw : Stmt := top 35
theorem sc_draw : FnScope ["_law_source_here", "_law_many", "_law_found", "_law_mixed"] ["_law_source_here", "_law_many"] (defScope s_draw) := ⟨rfl, rfl, rfl, by decide +kernel, rfl, by decide +kernel, by decide +kernel⟩
def spDraw : Sp := fun vs H Q _ => ∃ (s : Addr) (m : Int), vs = [.ref s, .int m] ∧ Src H s ∧ 0 < m ∧ m < 2 ^ 62 ∧ ∀ (z : Int) (H' : Hp), 0 ≤ z → z < m → Stp H H' s → Q (.int z) H'
theorem mod_bd (x : Int) {m : Int} (h0 : 0 < m) (h1 : m < 2 ^ 62) : -(2 ^ 64) < x % m ∧ x % m < 2 ^ 64 := by
  have a := Int.emod_nonneg x (show m ≠ 0 by omega)
  have b := Int.emod_lt_of_pos x h0
  omega
theorem cdw {i m : Int} (h0 : 0 < m) (h1 : m < 2 ^ 62) : CDivW i m := wide_div (b := 62) h0 (by omega) (by decide) (by decide)
section
variable {P : Program} {w : World} {K : PySem.W.Frag} {mg : PySem.Str → Option Value} {base : Heap}
theorem ok_draw {f : Addr} {fd : FuncData} (F : FnP K "_law_draw" s_draw f fd) : FnOk P w K mg base CX0 1 f fd ["_law_source_here", "_law_many"] spDraw := by
  refine F.ok sc_draw (fun vs H Q E h => ?_) (fun cdv A outer s H vs Q E hr h => ?_)
  · obtain ⟨s, m, rfl, _⟩ := h
    rfl
  · obtain ⟨s, m, rfl, ⟨a, b, c, hs⟩, m0, m1, q⟩ := h
    refine ⟨_, PSs.nox (pss_cons (ps_if (pt_cmpR op_gt (pe_ix ix_list (pv 0) pe_int (fun _ _ => rfl)) pe_int (nomark _))
        (pss_cons (ps_set (i := 2) sc_draw.nd rfl (.inl rfl) (pe_op op_mod (pe_ix ix_list (pv 0) pe_int (fun _ _ => rfl)) (pv 1)))
        (pss_cons (ps_asg (pe_op op_fdivW (pe_ix ix_list (pv 0) pe_int (fun _ _ => rfl)) (pv 1)) (pg_sub (pv 0) pe_int set_list))
        (pss_one (ps_ret (pv 2))))) pss_nil)
      (pss_cons (ps_asg (pe_op op_add (pe_ix ix_list (pv 0) pe_int (fun _ _ => rfl)) pe_int) (pg_sub (pv 0) pe_int set_list))
      (pss_cons (ps_asg (pe_op op_mod (pe_op op_add (pe_op op_add (pe_op op_mul (pe_ix ix_list (pv 0) pe_int (fun _ _ => rfl)) pe_int) (pe_op op_mul pe_int (pe_ix ix_list (pv 0) pe_int (fun _ _ => rfl)))) pe_int) pe_int) (pg_sub (pv 0) pe_int set_list))
      (pss_cons (ps_set (i := 3) sc_draw.nd rfl (.inl rfl) (pe_op op_mod (pe_op op_add (pe_op op_add (pe_op op_mul (pe_ix ix_list (pv 0) pe_int (fun _ _ => rfl)) (pe_ix ix_list (pv 0) pe_int (fun _ _ => rfl))) (pe_op op_mul pe_int (pe_ix ix_list (pv 0) pe_int (fun _ _ => rfl)))) pe_int) pe_int))
      (pss_cons (ps_set (i := 3) sc_draw.nd rfl (.inl rfl) (pe_op op_mod (pe_op op_add (pe_op op_mul (pv 3) (pv 3)) (pe_op op_mul pe_int (pv 3))) pe_int))
      (pss_one (ps_ret (pe_op op_mod (pe_op op_fdiv (pv 3) pe_int) (pv 1))))))))), ?_⟩
    refine ⟨_, rfl, s, _, 0, _, rfl, rfl, .inl (.inl hs), rfl, a, 0, rfl, rfl, _, rfl, ?_⟩
    by_cases c0 : (0 : Int) < a
    · rw [decide_eq_true c0]
      refine iteT ⟨_, rfl, s, _, 0, _, rfl, rfl, .inl (.inl hs), rfl, _, rfl, a, m, rfl, rfl, m0, ?_⟩
      refine ⟨_, rfl, s, _, 0, _, rfl, rfl, .inl (.inl hs), rfl, _, rfl, a, m, rfl, rfl, cdw m0 m1, ?_⟩
      refine ⟨_, rfl, s, _, 0, 0, rfl, rfl, hs, rfl, ?_⟩
      refine ⟨_, rfl, q _ _ (Int.emod_nonneg _ (by omega)) (Int.emod_lt_of_pos _ m0) ?_⟩
      exact stp_upd
    · rw [decide_eq_false c0]
      refine iteF ⟨_, rfl, s, _, 2, _, rfl, rfl, .inl (.inl hs), rfl, c, 1, rfl, rfl, ?_⟩
      refine ⟨_, rfl, s, _, 2, 2, rfl, rfl, hs, rfl, ?_⟩
      refine ⟨_, rfl, s, _, 1, _, rfl, rfl, .inl (.inl upd_same), rfl, b, 48271, rfl, rfl, .inr ⟨by decide, by decide⟩, ?_⟩
      refine ⟨_, rfl, s, _, 2, _, rfl, rfl, .inl (.inl upd_same), rfl, 1009, _, rfl, rfl, .inl ⟨by decide, by decide⟩, _, _, rfl, rfl, _, 7, rfl, rfl, _, 2147483647, rfl, rfl, show (0 : Int) < 2147483647 by decide, ?_⟩
      refine ⟨_, rfl, s, _, 1, 1, rfl, rfl, upd_same, rfl, ?_⟩
      refine ⟨_, rfl, s, _, 1, _, rfl, rfl, .inl (.inl upd_same), rfl, _, rfl, s, _, 1, _, rfl, rfl, .inl (.inl upd_same), rfl, _, _, rfl, rfl, .inl (mod_bd _ (by decide) (by decide)), ?_⟩
      refine ⟨_, rfl, s, _, 1, _, rfl, rfl, .inl (.inl upd_same), rfl, 69621, _, rfl, rfl, .inl ⟨by decide, by decide⟩, _, _, rfl, rfl, _, 11, rfl, rfl, _, 2147483629, rfl, rfl, show (0 : Int) < 2147483629 by decide, ?_⟩
      refine ⟨_, rfl, _, rfl, _, _, rfl, rfl, .inl (mod_bd _ (by decide) (by decide)), ?_⟩
      refine ⟨_, rfl, 40014, _, rfl, rfl, .inl ⟨by decide, by decide⟩, _, _, rfl, rfl, _, 2147483587, rfl, rfl, show (0 : Int) < 2147483587 by decide, ?_⟩
      refine ⟨_, rfl, _, 16, rfl, rfl, ⟨by decide, by decide⟩, _, rfl, _, m, rfl, rfl, m0, ?_⟩
      exact q _ _ (Int.emod_nonneg _ (by omega)) (Int.emod_lt_of_pos _ m0) (Stp.trans (H1 := upd H s (.lst [.int a, .int b, .int (c + 1)])) stp_upd stp_upd)
end
abbrev s_cell : Stmt := top 33
abbrev s_source : Stmt := top 34
abbrev s_choose : Stmt := top 36
theorem sc_cell : FnScope ["_law_script", "_law_index"] ["_law_script", "_law_index"] (defScope s_cell) := ⟨rfl, rfl, rfl, by decide +kernel, rfl, by decide +kernel, by decide +kernel⟩
theorem sc_source : FnScope ["_law_cell_here"] ["_law_cell_here"] (defScope s_source) := ⟨rfl, rfl, rfl, by decide +kernel, rfl, by decide +kernel, by decide +kernel⟩
theorem sc_choose : FnScope ["_law_source_here", "_law_values"] ["_law_source_here", "_law_values"] (defScope s_choose) := ⟨rfl, rfl, rfl, by decide +kernel, rfl, by decide +kernel, by decide +kernel⟩
def spCell (K : PySem.W.Frag) : Sp := fun vs H Q _ => ∃ (a : Addr) (ns : List Int) (z0 : Int), vs = [.ref a, .int z0] ∧ 0 ≤ z0 ∧ SqL K H a (ns.map V.int) ∧ ∀ z : Int, Q (.int z) H
def spSource : Sp := fun vs H Q _ => ∃ c : Int, vs = [.int c] ∧ ∀ (p : Addr) (x y z : Int), H p = none → Q (.ref p) (upd H p (.lst [.int x, .int y, .int z]))
def spChoose : Sp := fun vs H Q _ => ∃ (s l : Addr) (xs : List V), vs = [.ref s, .ref l] ∧ Src H s ∧ l ≠ s ∧ H l = some (.lst xs) ∧ 0 < xs.length ∧ xs.length ≤ 1000 ∧
  ∀ (i : Nat) (x : V) (H' : Hp), xs[i]? = some x → Stp H H' s → Q x H'
section
variable {P : Program} {w : World} {K : PySem.W.Frag} {mg : PySem.Str → Option Value} {base : Heap}
theorem ok_cell {f : Addr} {fd : FuncData} (F : FnP K "_law_cell" s_cell f fd) (T : Tx K mg) : FnOk P w K mg base CX0 1 f fd ["_law_script", "_law_index"] (spCell K) := by
  refine F.ok sc_cell (fun vs H Q E h => ?_) (fun cdv A outer s H vs Q E hr h => ?_)
  · obtain ⟨a, ns, i, rfl, _⟩ := h
    rfl
  · obtain ⟨a, ns, z0, rfl, hz, hs, q⟩ := h
    obtain ⟨i, rfl⟩ := Int.eq_ofNat_of_zero_le hz
    refine ⟨_, PSs.nox (pss_cons (ps_if (pt_cmpR op_lt (pv 1) (pe_callB call_len_seq (by rfl) T.len bLen (pa_cons (pv 0) pa_nil)) (nomark _)) (pss_one (ps_ret (pe_ix ix_list (pv 0) (pv 1) (fun _ _ => rfl)))) pss_nil)
      (pss_one (ps_ret pe_int))), ?_⟩
    refine ⟨_, rfl, _, rfl, a, _, rfl, .inl hs, _, _, rfl, rfl, _, rfl, ?_⟩
    by_cases c : (i : Int) < (((ns.map V.int).length : Nat) : Int)
    · rw [decide_eq_true c]
      have hi : i < ns.length := by
        rw [List.length_map] at c
        omega
      refine iteT ⟨_, rfl, _, rfl, a, _, i, .int ns[i], rfl, rfl, hs, L2.at_of rfl ?_, q _⟩
      rw [List.getElem?_map, List.getElem?_eq_getElem hi]
      rfl
    · rw [decide_eq_false c]
      exact iteF (q _)
theorem ok_source {f : Addr} {fd : FuncData} (F : FnP K "_law_source" s_source f fd) (T : Tx K mg) : FnOk P w K mg base CX0 1 f fd ["_law_cell_here"] spSource := by
  refine F.ok sc_source (fun vs H Q E h => ?_) (fun cdv A outer s H vs Q E hr h => ?_)
  · obtain ⟨c, rfl, _⟩ := h
    rfl
  · obtain ⟨c, rfl, q⟩ := h
    refine ⟨_, PSs.nox (pss_one (ps_ret (pe_lst (pa_cons (pe_callB (call_max2 rfl) (by rfl) T.max bMax (pa_cons pe_int (pa_cons (pe_op op_sub (pv 0) (pe_op op_pow pe_int pe_int)) pa_nil)))
      (pa_cons (pe_op op_add (pe_op op_mod (pv 0) pe_int) pe_int) (pa_cons pe_int pa_nil)))))), ?_⟩
    refine ⟨_, rfl, 10, 18, rfl, rfl, ⟨by decide, by decide, by decide⟩, _, _, rfl, rfl, _, _, rfl, ?_⟩
    refine ⟨_, rfl, _, 2147483629, rfl, rfl, show (0 : Int) < 2147483629 by decide, _, 1, rfl, rfl, by show 3 ≤ sizeLine; decide, fun p hp => q p _ _ _ hp⟩
theorem ok_choose {f fD : Addr} {fd fdD : FuncData} (F : FnP K "_law_choose" s_choose f fd) (T : Tx K mg) (GD : FnOk P w K mg base CX0 1 fD fdD ["_law_source_here", "_law_many"] spDraw)
    (bD : Binds K fdD ["_law_source_here", "_law_many"] []) (kD : PySem.W.keepIn K (.ref fD) = true) (gD : mg "_law_draw" = some (.ref fD)) : FnOk P w K mg base CX0 2 f fd ["_law_source_here", "_law_values"] spChoose := by
  refine F.ok sc_choose (fun vs H Q E h => ?_) (fun cdv A outer s H vs Q E hr h => ?_)
  · obtain ⟨s, l, xs, rfl, _⟩ := h
    rfl
  · obtain ⟨s, l, xs, rfl, hs, ne, hl, l0, l1, q⟩ := h
    refine ⟨_, PSs.nox (pss_one (ps_ret (pe_ix ix_list (pv 1) (pe_call GD hr rfl gD kD bD .nil pass0 (pa_cons (pv 0) (pa_cons (pe_callB call_len_seq (by rfl) T.len bLen (pa_cons (pv 1) pa_nil)) pa_nil))) (fun _ _ => rfl)))), ?_⟩
    refine ⟨_, rfl, _, rfl, _, rfl, l, xs, rfl, .inl (.inl (.inl hl)), s, _, rfl, hs, by omega, by omega, fun z H' z0 z1 st => ?_⟩
    obtain ⟨j, rfl⟩ := Int.eq_ofNat_of_zero_le z0
    have hj : j < xs.length := by omega
    refine ⟨l, xs, _, xs[j], rfl, rfl, .inl (.inl ?_), L2.at_of rfl (List.getElem?_eq_getElem hj), q j _ H' (List.getElem?_eq_getElem hj) st⟩
    rw [st.same l ne]
    exact hl
end
/-! ### _law_is_equal -/
abbrev s_eq : Stmt := top 37
theorem sc_eq : FnScope ["_law_actual", "_law_expected"] ["_law_actual", "_law_expected"] (defScope s_eq) := ⟨rfl, rfl, rfl, by decide +kernel, rfl, by decide +kernel, by decide +kernel⟩
def spEq : Sp := fun vs H Q _ => ∃ (v1 v2 : V) (d : PyData), vs = [v1, v2] ∧ Rp H v1 d ∧ Rp H v2 d ∧ Fit d 50 1000000 ∧ Q (.bl true) H
theorem big : 1000000 ≤ sizeLine := by decide
section
variable {P : Program} {w : World} {K : PySem.W.Frag} {mg : PySem.Str → Option Value} {base : Heap}
theorem ok_eq {f : Addr} {fd : FuncData} (F : FnP K "_law_is_equal" s_eq f fd) (T : Tx K mg) : FnG P w K mg base CX0 1 f spEq := by
  refine fng_of F sc_eq (FunD.bindsA (ps := ["_law_actual", "_law_expected"]) F fun _ _ _ _ _ _ us hl => match us, hl with | [_, _], _ => rfl) (fun vs H Q E h => ?_) (fun cdv A outer s H vs Q E hg hr h => ?_)
  · obtain ⟨v1, v2, d, rfl, _⟩ := h
    rfl
  · obtain ⟨v1, v2, d, rfl, r1, r2, ft, q⟩ := h
    refine ⟨_, PSs.nox (pss_one (ps_ret (pe_cmpR op_eq (pe_callB (call_repr T.sm hg hr) (by rfl) T.repr bRepr (pa_cons (pv 0) pa_nil)) (pe_callB (call_repr T.sm hg hr) (by rfl) T.repr bRepr (pa_cons (pv 1) pa_nil)) (nomark _)))), ?_⟩
    have dp : d.depth ≤ 60 := Nat.le_trans ft.dp (by decide)
    have ln : d.shown.length ≤ sizeLine := Nat.le_trans ft.ln big
    refine ⟨_, rfl, _, d, rfl, r1, ft.sh, dp, ln, _, rfl, _, d, rfl, r2, ft.sh, dp, ln, rfl, ?_⟩
    have e : decide (V.str d.shown = V.str d.shown) = true := decide_eq_true rfl
    show Q (V.bl (decide (V.str d.shown = V.str d.shown))) H
    rw [e]
    exact q
end
section
variable {K : PySem.W.Frag} {σ : L2.St} {F : Hp} {ta tb te t1 t2 : TE} {d : PyData} {ds : List PyData} {E : XK} {C : Addr} {P1 P2 : Hp → V → Prop}
theorem e_eq (h1 : EvD t1 σ F d) (h2 : EvD t2 σ F d) (ft : Fit d 50 1000000) : EvD (tCall spEq [] E (tCons t1 (tCons t2 tNil))) σ F (.bool true) := fun S H1 f s Q q =>
  h1 S H1 f s _ fun v1 H2 s2 r1 => h2 S H2 (f.mono s2) (s.trans (offS_mono s2)) _ fun v2 H3 s3 r2 => ⟨v1, v2, d, rfl, (r1.mono (offS_mono s3)).mono offS_same, r2.mono offS_same, ft, q _ H3 (s2.trans s3) (.bl _)⟩
end
end Q

set_option maxHeartbeats 400000
namespace Q
open PySem PySem.Spec PyProof.Rows L2 Ca
/-! ### what an expression gives that may draw from the source at s -/
/-- all but what stands at s is kept -/
def Kp (s : Addr) (H H' : Hp) : Prop := ∀ b o, b ≠ s → H b = some o → H' b = some o
theorem Kp.refl (s : Addr) (H : Hp) : Kp s H H := fun _ _ _ e => e
theorem Kp.trans {s : Addr} {H H1 H2 : Hp} (a : Kp s H H1) (b : Kp s H1 H2) : Kp s H H2 := fun x o hx e => b x o hx (a x o hx e)
theorem Kp.of {s : Addr} {H H' : Hp} (h : Same H H') : Kp s H H' := fun b o _ e => h b o e
theorem Stp.kp {s : Addr} {H H' : Hp} (h : Stp H H' s) : Kp s H H' := fun b o hb e => by rw [h.same b hb]; exact e
theorem src_same {H H' : Hp} {s : Addr} (hs : Src H s) (h : Same H H') : Src H' s := by
  obtain ⟨a, b, c, e⟩ := hs
  exact ⟨a, b, c, h _ _ e⟩
section
variable {s : Addr} {S : Addr → Bool} {H H' : Hp}
theorem Kp.fr (k : Kp s H H') (hs : Src H' s) (f : Fr S H) : Fr S H' := fun a ha => by
  by_cases z : a = s
  · subst z
    obtain ⟨x, y, c, e⟩ := hs
    exact ⟨_, e, trivial⟩
  · obtain ⟨o, e, m⟩ := f a ha
    exact ⟨o, k a o z e, m⟩
theorem Kp.off (k : Kp s H H') (hS : S s = true) : Same (offS S H) (offS S H') := fun b o e => by
  unfold offS at e ⊢
  split at e
  · cases e
  · rename_i hb
    rw [if_neg hb]
    exact k b o (fun z => hb (by rw [z]; exact hS)) e
end
def EvK (s : Addr) (te : TE) (σ : L2.St) (F : Hp) (P : Hp → V → Prop) : Prop := ∀ (S : Addr → Bool) (H1 : Hp), Fr S H1 → S s = true → Src H1 s → Same F (offS S H1) → ∀ Q : VK, (∀ v H2, Kp s H1 H2 → Src H2 s → P (offS S H2) v → Q v H2) → te σ H1 Q
/-- what is so stays so -/
def Mon (P : Hp → V → Prop) : Prop := ∀ F F' v, Same F F' → P F v → P F' v
inductive PsA (H : Hp) : List (Hp → V → Prop) → List V → Prop where
  | nil : PsA H [] []
  | cons {P : Hp → V → Prop} {Ps : List (Hp → V → Prop)} {v : V} {vs : List V} (h : P H v) (r : PsA H Ps vs) : PsA H (P :: Ps) (v :: vs)
theorem PsA.mono {H H' : Hp} {Ps : List (Hp → V → Prop)} {vs : List V} (r : PsA H Ps vs) (m : ∀ P ∈ Ps, Mon P) (s : Same H H') : PsA H' Ps vs := by
  induction r with
  | nil => exact .nil
  | cons h r ih => exact .cons (m _ (.head _) _ _ _ s h) (ih fun P hP => m P (.tail _ hP))
theorem PsA.length {H : Hp} {Ps : List (Hp → V → Prop)} {vs : List V} (r : PsA H Ps vs) : vs.length = Ps.length := by
  induction r with
  | nil => rfl
  | cons h r ih => rw [List.length_cons, List.length_cons, ih]
def EvKA (s : Addr) (ta : TA) (σ : L2.St) (F : Hp) (Ps : List (Hp → V → Prop)) : Prop := ∀ (S : Addr → Bool) (H1 : Hp), Fr S H1 → S s = true → Src H1 s → Same F (offS S H1) → ∀ Q : List V → Hp → Prop, (∀ vs H2, Kp s H1 H2 → Src H2 s → PsA (offS S H2) Ps vs → Q vs H2) → ta σ H1 Q
def IntP (lo hi : Int) : Hp → V → Prop := fun _ v => ∃ z, v = .int z ∧ lo ≤ z ∧ z ≤ hi
def RpP (D : PyData → Prop) : Hp → V → Prop := fun H v => ∃ d, D d ∧ Rp H v d
def LsP (n : Nat) (P : Hp → V → Prop) : Hp → V → Prop := fun H v => ∃ a xs, v = .ref a ∧ H a = some (.lst xs) ∧ xs.length = n ∧ ∀ x ∈ xs, P H x
def TpP (Ps : List (Hp → V → Prop)) : Hp → V → Prop := fun H v => ∃ a xs, v = .ref a ∧ H a = some (.tup xs) ∧ PsA H Ps xs
theorem mon_int {lo hi : Int} : Mon (IntP lo hi) := fun _ _ _ _ h => h
theorem mon_rp {D : PyData → Prop} : Mon (RpP D) := fun _ _ _ s ⟨d, h, r⟩ => ⟨d, h, r.mono s⟩
theorem mon_d {d : PyData} : Mon (fun H v => Rp H v d) := fun _ _ _ s r => r.mono s
theorem mon_ls {n : Nat} {P : Hp → V → Prop} (m : Mon P) : Mon (LsP n P) := fun _ _ _ s ⟨a, xs, e, h, l, r⟩ => ⟨a, xs, e, s _ _ h, l, fun x hx => m _ _ _ s (r x hx)⟩
section
variable {K : PySem.W.Frag} {s : Addr} {σ : L2.St} {F : Hp} {ta tb te tm tl : TE} {tas : TA} {P P1 P2 : Hp → V → Prop} {Ps : List (Hp → V → Prop)} {E : XK}
theorem k_of (h : EvP te σ F P) : EvK s te σ F P := fun S H1 f hS hs sm Q q => h S H1 f sm Q fun v H2 s2 p => q v H2 (.of s2) (src_same hs s2) p
theorem EvK.weak (h : EvK s te σ F P) (w : ∀ H v, P H v → P2 H v) : EvK s te σ F P2 := fun S H1 f hS hs sm Q q => h S H1 f hS hs sm Q fun v H2 k2 s2 p => q v H2 k2 s2 (w _ _ p)
theorem ka_nil : EvKA s tNil σ F [] := fun S H1 f hS hs sm Q q => q _ H1 (.refl _ _) hs .nil
theorem ka_cons (h : EvK s te σ F P) (m : Mon P) (hs : EvKA s tas σ F Ps) : EvKA s (tCons te tas) σ F (P :: Ps) := fun S H1 f hS hc sm Q q =>
  h S H1 f hS hc sm _ fun v H2 k2 c2 p => hs S H2 (k2.fr c2 f) hS c2 (sm.trans (k2.off hS)) _ fun vs H3 k3 c3 r => q _ H3 (k2.trans k3) c3 (.cons (m _ _ _ (k3.off hS) p) r)
theorem k_tup (h : EvKA s tas σ F Ps) (m : ∀ P ∈ Ps, Mon P) (hl : Ps.length ≤ 1000) : EvK s (tTup tas) σ F (TpP Ps) := fun S H1 f hS hc sm Q q =>
  h S H1 f hS hc sm _ fun vs H2 k2 c2 r => ⟨by rw [r.length]; exact Nat.le_of_lt (small1000 hl), fun p hp => q _ _ (k2.trans (.of (same_new hp))) (src_same c2 (same_new hp)) ⟨p, vs, rfl, offS_new (k2.fr c2 f) hp, r.mono m (offS_mono (same_new hp))⟩⟩
theorem psa_all {H : Hp} {vs : List V} (r : PsA H Ps vs) (w : ∀ P ∈ Ps, ∀ v, P H v → P2 H v) : ∀ v ∈ vs, P2 H v := by
  induction r with
  | nil => exact fun v h => by cases h
  | cons h r ih =>
    intro v hv
    rcases List.mem_cons.mp hv with z | z
    · rw [z]
      exact w _ (.head _) _ h
    · exact ih (fun P hP => w P (.tail _ hP)) v z
theorem k_lst (h : EvKA s tas σ F Ps) (m : Mon P) (w : ∀ P' ∈ Ps, ∀ H v, P' H v → P H v) (hl : Ps.length ≤ 1000) : EvK s (tLst tas) σ F (LsP Ps.length P) := fun S H1 f hS hc sm Q q =>
  h S H1 f hS hc sm _ fun vs H2 k2 c2 r => ⟨by rw [r.length]; exact Nat.le_of_lt (small1000 hl), fun p hp => q _ _ (k2.trans (.of (same_new hp))) (src_same c2 (same_new hp)) ⟨p, vs, rfl, offS_new (k2.fr c2 f) hp, r.length, fun x hx =>
    m _ _ _ (offS_mono (same_new hp)) (psa_all (P2 := P) r (fun P' hP v => w P' hP _ v) x hx)⟩⟩
theorem k_draw {i : Nat} {m : Int} (hi : σ[i]? = some (some (.ref s))) (hm : EvP tm σ F (fun H v => Rp H v (.int m))) (m0 : 0 < m) (m1 : m < 2 ^ 62) : EvK s (tCall spDraw [] E (tCons (tVar i) (tCons tm tNil))) σ F (IntP 0 (m - 1)) := fun S H1 f hS hc sm Q q =>
  ⟨_, hi, hm S H1 f sm _ fun v H2 s2 r => by
    cases r
    exact ⟨s, m, rfl, src_same hc s2, m0, m1, fun z H3 z0 z1 st => q _ H3 ((Kp.of s2).trans st.kp) st.src ⟨z, rfl, z0, by omega⟩⟩⟩
theorem k_choose {i n : Nat} (hi : σ[i]? = some (some (.ref s))) (hl : EvK s tl σ F (LsP n P)) (mo : Mon P) (n0 : 0 < n) (n1 : n ≤ 1000) : EvK s (tCall spChoose [] E (tCons (tVar i) (tCons tl tNil))) σ F P := fun S H1 f hS hc sm Q q =>
  ⟨_, hi, hl S H1 f hS hc sm _ fun v H2 k2 c2 ⟨a, xs, e, ha, hn, hx⟩ => by
    subst e
    have na : a ≠ s := fun z => by
      rw [z] at ha
      unfold offS at ha
      rw [if_pos hS] at ha
      cases ha
    exact ⟨s, a, xs, rfl, c2, na, offS_same _ _ ha, by omega, by omega, fun j x H3 hj st => q _ H3 (k2.trans st.kp) st.src (mo _ _ _ (st.kp.off hS) (hx x (List.mem_of_getElem? hj)))⟩⟩
theorem k_add {a b c d : Int} (ha : EvK s ta σ F (IntP a b)) (hb : EvK s tb σ F (IntP c d)) : EvK s (tOp (rI0 fun i j => .int (i + j)) ta tb) σ F (IntP (a + c) (b + d)) := fun S H1 f hS hc sm Q q =>
  ha S H1 f hS hc sm _ fun v H2 k2 c2 ⟨x, e1, x0, x1⟩ => hb S H2 (k2.fr c2 f) hS c2 (sm.trans (k2.off hS)) _ fun u H3 k3 c3 ⟨y, e2, y0, y1⟩ => by
    subst e1 e2
    exact ⟨x, y, rfl, rfl, q _ H3 (k2.trans k3) c3 ⟨x + y, rfl, by omega, by omega⟩⟩
theorem k_int {i lo hi : Int} (h0 : lo ≤ i) (h1 : i ≤ hi) : EvK s (tC (.int i)) σ F (IntP lo hi) := k_of fun S H1 f sm Q q => q _ H1 (Same.refl _) ⟨i, rfl, h0, h1⟩
theorem k_varI {i : Nat} {z lo hi : Int} (h : σ[i]? = some (some (.int z))) (h0 : lo ≤ z) (h1 : z ≤ hi) : EvK s (tVar i) σ F (IntP lo hi) := k_of (e_varP h fun _ _ => ⟨z, rfl, h0, h1⟩)
/-! statements -/
variable {S : Addr → Bool} {H : Hp} {D : L2.Ends} {t u : TS}
theorem go_setK {i : Nat} (f : Fr S H) (hS : S s = true) (hc : Src H s) (h : EvK s te σ (offS S H) P) (k : ∀ v H', Kp s H H' → Src H' s → Fr S H' → P (offS S H') v → u D (σ.set i (some v)) H') : tSeq (tAsg te (gName i)) u D σ H :=
  h S H f hS hc (Same.refl _) _ fun v H' k' c p => k v H' k' c (k'.fr c f) p
end
end Q

set_option maxHeartbeats 400000
namespace Ca
open PySem PySem.Spec PyProof.Rows L2
section
variable {K : PySem.W.Frag} {σ : L2.St} {S : Addr → Bool} {H : Hp} {D : L2.Ends} {te : TE} {u : TS} {i : Nat} {p : Addr} {xs : List V} {ds : List PyData} {d : PyData}
theorem go_app (f : Fr S H) (hv : σ[i]? = some (some (.ref p))) (hp : H p = some (.lst xs)) (h : EvD te σ (offS S H) d) (hz : xs.length ≤ 900)
    (k : ∀ y H', Same H H' → H' p = some (.lst xs) → Rp (offS S H') y d → D.nx σ (upd H' p (.lst (xs ++ [y])))) : tDrop (tBM K "list" rAppend (tVar i) (tCons te tNil)) D σ H :=
  ⟨_, hv, .inl ⟨rfl, _, .inl (.inl hp)⟩, h S H f (Same.refl _) _ fun v H' s r => 
    ⟨p, xs, v, rfl, rfl, s _ _ hp, small1000 (by omega), k v H' s (s _ _ hp) r⟩⟩
end
theorem cq_str {k : Nat} {x : PySem.Str} (h : PyData.strOk x = true) : Cq k (.str x) := ⟨by simp [nd], by simp [PyData.canLay0, h], by simp [PyData.depth]⟩
end Ca
namespace Q
open PySem PySem.Spec PyProof.Rows L2 Ca
/-! ### _law_lines -/
abbrev s_lines : Stmt := top 38
abbrev nLines : List PySem.Str := ["_law_source_here", "_law_most", "_law_value", "_law_often", "_law_found", "_law_many", "_law_kinds", "_law_turn", "_law_key", "_law_number", "_law_row"]
theorem sc_lines : FnScope nLines ["_law_source_here", "_law_most", "_law_value", "_law_often"] (defScope s_lines) := ⟨rfl, rfl, rfl, by decide +kernel, rfl, by decide +kernel, by decide +kernel⟩
/-- a row with values and a number up to these -/
structure RowIn (v o : Int) (a : Ro) : Prop where
  g : GoodR a
  l : a.l ≤ v
  r : a.r ≤ v
  n : a.n ≤ o
def spLines : Sp := fun vs H Q _ => ∃ (S : Addr → Bool) (s : Addr) (m : Nat) (v o : Int), vs = [.ref s, .int m, .int v, .int o] ∧ Fr S H ∧ S s = true ∧ Src H s ∧ m ≤ 12 ∧ 0 ≤ v ∧ v ≤ 99 ∧ 2 ≤ o ∧ o ≤ 10000 ∧
  ∀ (x : V) (rs : List Ro) (H' : Hp), Kp s H H' → Src H' s → Rp (offS S H') x (.list (rs.map roD)) → rs.length ≤ m → (∀ a ∈ rs, RowIn v o a) → (rs.map roK).Nodup → Q x H'
def KindP : Hp → V → Prop := fun _ v => ∃ k, v = .str k ∧ kindOk k = true
theorem mon_kind : Mon KindP := fun _ _ _ _ h => h
def KLst : Hp → V → Prop := fun H v => ∃ n, 0 < n ∧ n ≤ 3 ∧ LsP n KindP H v
theorem mon_kl : Mon KLst := fun F F' v s ⟨n, a, b, h⟩ => ⟨n, a, b, mon_ls mon_kind F F' v s h⟩
def keyD (k : PySem.Str) (l r : Int) : PyData := .tuple [.str k, .int l, .int r]
theorem key_eqv (a : Ro) (k : PySem.Str) (l r : Int) : PyData.eqv (keyD a.k a.l a.r) (keyD k l r) = true ↔ roK a = [.inr k, .inl l, .inl r] := by
  unfold keyD roK
  simp [PyData.eqv, PyData.eqvAll]
theorem kind_sok {k : PySem.Str} (h : kindOk k = true) : PyData.strOk k = true := by
  rcases kind_is h with z | z | z <;> subst z <;> decide +kernel
theorem cq_key {n : Nat} {k : PySem.Str} (l r : Int) (h : kindOk k = true) : Cq (n + 1) (keyD k l r) := cq_tup fun d hd => by
  rcases List.mem_cons.mp hd with z | hd
  · rw [z]
    exact cq_str (kind_sok h)
  · rcases List.mem_cons.mp hd with z | hd
    · rw [z]
      exact cq_int _
    · rcases List.mem_cons.mp hd with z | hd
      · rw [z]
        exact cq_int _
      · cases hd
theorem cq_ro {n : Nat} {a : Ro} (h : GoodR a) : Cq (n + 1) (roD a) := cq_tup fun d hd => by
  rcases List.mem_cons.mp hd with z | hd
  · rw [z]
    exact cq_str (kind_sok h.k)
  · rcases List.mem_cons.mp hd with z | hd
    · rw [z]
      exact cq_int _
    · rcases List.mem_cons.mp hd with z | hd
      · rw [z]
        exact cq_int _
      · rcases List.mem_cons.mp hd with z | hd
        · rw [z]
          exact cq_int _
        · cases hd
theorem cq_ros {n : Nat} {rs : List Ro} (h : ∀ a ∈ rs, GoodR a) : Cq (n + 2) (.list (rs.map roD)) := cq_lst fun d hd => by
  obtain ⟨a, ha, rfl⟩ := List.mem_map.mp hd
  exact cq_ro (h a ha)
theorem cq_nil {n : Nat} : Cq (n + 1) (.list []) := cq_lst fun d hd => by cases hd
theorem k_str {s : Addr} {σ : L2.St} {F : Hp} {x : PySem.Str} (h : kindOk x = true) : EvK s (tC (.str x)) σ F KindP := k_of fun S H1 f sm Q q => q _ H1 (Same.refl _) ⟨x, rfl, h⟩
theorem kl_of {s : Addr} {σ : L2.St} {F : Hp} {te : TE} {n : Nat} (h : EvK s te σ F (LsP n KindP)) (h0 : 0 < n) (h3 : n ≤ 3) : EvK s te σ F KLst := h.weak fun H v z => ⟨n, h0, h3, z⟩
/-- the rows so far -/
structure LInvR (S : Addr → Bool) (s fo : Addr) (v o : Int) (H0 : Hp) (i : Nat) (H : Hp) : Prop where
  kp : Kp s H0 H
  src : Src H s
  f0 : H0 fo = none
  fs : fo ≠ s
  rows : ∃ (xs : List V) (rs : List Ro), H fo = some (.lst xs) ∧ RpA (offS (addS S fo) H) xs (rs.map roD) ∧ rs.length ≤ i ∧ (∀ a ∈ rs, RowIn v o a) ∧ (rs.map roK).Nodup
theorem addS_s {S : Addr → Bool} {s fo : Addr} (h : S s = true) : addS S fo s = true := by
  unfold addS
  rw [h]
  rfl
theorem LInvR.step {S : Addr → Bool} {s fo : Addr} {v o : Int} {H0 H H' : Hp} {i : Nat} (h : LInvR S s fo v o H0 i H) (hS : S s = true) (k : Kp s H H') (c : Src H' s) : LInvR S s fo v o H0 i H' := by
  obtain ⟨xs, rs, h1, h2, h3⟩ := h.rows
  exact ⟨h.kp.trans k, c, h.f0, h.fs, xs, rs, k _ _ h.fs h1, h2.mono (k.off (addS_s hS)), h3⟩
theorem rpa_none {H : Hp} : ∀ {xs : List V} {ds : List PyData}, RpA H xs ds → xs.length = ds.length := fun r => r.length
section
variable {P : Program} {w : World} {K : PySem.W.Frag} {mg : PySem.Str → Option Value} {base : Heap}
theorem ok_lines {f : Addr} {fd : FuncData} (F : FnP K "_law_lines" s_lines f fd) (T : Tx K mg) (D1 : Fd P w K mg base "_law_draw" 1 ["_law_source_here", "_law_many"] spDraw) (D2 : Fd P w K mg base "_law_choose" 2 ["_law_source_here", "_law_values"] spChoose) :
    FnOk P w K mg base CX0 3 f fd ["_law_source_here", "_law_most", "_law_value", "_law_often"] spLines := by
  obtain ⟨f1, fd1, G1, b1, k1, m1⟩ := D1.ex
  obtain ⟨f2, fd2, G2, b2, k2, m2⟩ := D2.ex
  refine F.ok sc_lines (fun vs H Q E h => ?_) (fun cdv A outer s0 H vs Q E hr h => ?_)
  · obtain ⟨S, s, m, v, o, rfl, _⟩ := h
    rfl
  obtain ⟨S, s, m, v, o, rfl, fr, hS, hc, m12, v0, v99, o2, o9, q⟩ := h
  refine ⟨_, PSs.nox (pss_cons (ps_par (i := 4) (j := 5) (by rfl) sc_lines.nd rfl rfl (by decide) rfl rfl (pa_cons (pe_lst pa_nil) (pa_cons (pe_call G1 (hr.mono (by decide)) rfl m1 k1 b1 .nil pass0 (pa_cons (pv 0) (pa_cons (pe_op op_add (pv 1) pe_int) pa_nil))) pa_nil)) (by rfl))
    (pss_cons (ps_set (i := 6) sc_lines.nd rfl (.inl rfl) (pe_call G2 (hr.mono (by decide)) rfl m2 k2 b2 .nil pass0 (pa_cons (pv 0) (pa_cons (pe_lst (pa_cons (pe_lst (pa_cons pe_str pa_nil)) (pa_cons (pe_lst (pa_cons pe_str (pa_cons pe_str pa_nil))) (pa_cons (pe_lst (pa_cons pe_str (pa_cons pe_str (pa_cons pe_str pa_nil)))) (pa_cons (pe_lst (pa_cons pe_str (pa_cons pe_str pa_nil))) pa_nil))))) pa_nil))))
    (pss_cons (ps_for PassesOwn.never rfl (pi_range1 rfl T.range (pa_cons (pv 5) pa_nil)) (pg_name (i := 7) sc_lines.nd rfl (.inl rfl))
      (pss_cons (ps_set (i := 8) sc_lines.nd rfl (.inr rfl) (pe_tup (pa_cons (pe_call G2 (hr.mono (by decide)) rfl m2 k2 b2 .nil pass0 (pa_cons (pv 0) (pa_cons (pv 6) pa_nil))) (pa_cons (pe_call G1 (hr.mono (by decide)) rfl m1 k1 b1 .nil pass0 (pa_cons (pv 0) (pa_cons (pe_op op_add (pv 2) pe_int) pa_nil))) (pa_cons (pe_call G1 (hr.mono (by decide)) rfl m1 k1 b1 .nil pass0 (pa_cons (pv 0) (pa_cons (pe_op op_add (pv 2) pe_int) pa_nil))) pa_nil)))))
      (pss_cons (ps_set (i := 9) sc_lines.nd rfl (.inl rfl) (pe_call G2 (hr.mono (by decide)) rfl m2 k2 b2 .nil pass0 (pa_cons (pv 0) (pa_cons (pe_lst (pa_cons pe_int (pa_cons pe_int (pa_cons (pe_op op_add pe_int (pe_call G1 (hr.mono (by decide)) rfl m1 k1 b1 .nil pass0 (pa_cons (pv 0) (pa_cons (pv 3) pa_nil)))) (pa_cons (pv 3) pa_nil))))) pa_nil))))
      (pss_one (ps_if (pt_cmpR (op_eqD hr.units : OpR _ _ (rEqD K)) (pe_lc (own := [("_law_row", 10)]) (g := gName 10) rfl sc_lines.nd (pi_listQ (K := K) rfl (pv 4)) (blkOk_by (own := [("_law_row", 10)]) (N := nLines) (sc := defScope s_lines) (by decide +kernel)) (fun _ _ _ _ _ => pg_name (i := 10) sc_lines.nd rfl (Or.inl rfl))
          (fun _ _ _ _ _ => pts_one (pt_cmpR (op_eqD hr.units : OpR _ _ (rEqD K)) (pe_slice (sl_tupA : SlR _ (rSlA K)) (pv 10) po_none (po_some pe_int)) (pv 8) (nomark _))) (fun _ _ _ _ _ => pv 10)) (pe_lst pa_nil) (nomark _))
        (pss_one (ps_expr (pe_bm PySem.F.plainAttrs_list PySem.F.slot_list_append PySem.F.type_list_append mt_append (pv 4) (pa_cons (pe_op (op_catA : OpR _ _ (rCatA K)) (pv 8) (pe_tup (pa_cons (pv 9) pa_nil))) pa_nil)))) pss_nil)))))
    (pss_one (ps_ret (pv 4)))))), ?_⟩
  refine ⟨Nat.zero_le _, fun fo hfo => ?_⟩
  have fs : fo ≠ s := fun z => by
    obtain ⟨x, y, c, e⟩ := hc
    rw [z, e] at hfo
    cases hfo
  have s1 := same_new (o := .lst []) hfo
  have e1 : upd H fo (.lst []) fo = some (.lst []) := upd_same
  generalize upd H fo (.lst []) = H1 at s1 e1 ⊢
  have hS2 : addS S fo s = true := addS_s hS
  have fr1 : Fr (addS S fo) H1 := (fr.mono s1).add e1 trivial
  have ini : LInvR S s fo v o H 0 H1 := ⟨.of s1, src_same hc s1, hfo, fs, [], [], e1, .nil, Nat.le_refl _, (fun a h => by cases h), List.nodup_nil⟩
  have σ0 : (start nLines [.ref s, .int m, .int v, .int o])[0]? = some (some (.ref s)) := rfl
  refine k_draw (s := s) (E := E0) (i := 0) (m := (m : Int) + 1) (F := offS (addS S fo) H1) rfl (e_add (e_var rfl (.int _)) e_int) (by omega) (by omega) (addS S fo) H1 fr1 hS2 ini.src (Same.refl _) _ fun u H2 kp2 c2 ⟨z, ez, z0, z1⟩ => ?_
  subst ez
  obtain ⟨n, rfl⟩ := Int.eq_ofNat_of_zero_le z0
  have I2 := ini.step hS kp2 c2
  have fr2 := kp2.fr c2 fr1
  refine ⟨_, _, rfl, ?_⟩
  refine go_setK (s := s) (P := KLst) fr2 hS2 c2 (k_choose (n := 4) rfl (k_lst (P := KLst) (ka_cons (kl_of (k_lst (ka_cons (k_str (by decide +kernel)) mon_kind ka_nil) mon_kind (by simp) (by simp)) (by decide) (by decide)) mon_kl (ka_cons (kl_of (k_lst (ka_cons (k_str (by decide +kernel)) mon_kind (ka_cons (k_str (by decide +kernel)) mon_kind ka_nil)) mon_kind (by simp) (by simp)) (by decide) (by decide)) mon_kl
    (ka_cons (kl_of (k_lst (ka_cons (k_str (by decide +kernel)) mon_kind (ka_cons (k_str (by decide +kernel)) mon_kind (ka_cons (k_str (by decide +kernel)) mon_kind ka_nil))) mon_kind (by simp) (by simp)) (by decide) (by decide)) mon_kl (ka_cons (kl_of (k_lst (ka_cons (k_str (by decide +kernel)) mon_kind (ka_cons (k_str (by decide +kernel)) mon_kind ka_nil)) mon_kind (by simp) (by simp)) (by decide) (by decide)) mon_kl ka_nil)))) mon_kl (by simp) (by simp)) mon_kl (by decide) (by decide)) fun vk H3 kp3 c3 fr3 pk => ?_
  have I3 := I2.step hS kp3 c3
  refine go_forRS (n := n) fr3 (a_cons (e_var rfl (.int _)) a_nil) (by omega) fun H4 s4 fr4 => ⟨fun i σ H' => ∃ x7 x8 x9 x10, σ = [some (.ref s), some (.int m), some (.int v), some (.int o), some (.ref fo), some (.int n), some vk, x7, x8, x9, x10] ∧ Fr (addS S fo) H' ∧ KLst (offS (addS S fo) H') vk ∧ LInvR S s fo v o H i H', ?_, ?_, ?_⟩
  · exact ⟨none, none, none, none, rfl, fr4, mon_kl _ _ _ (offS_mono s4) pk, I3.step hS (.of s4) (src_same c3 s4)⟩
  · rintro i σ H5 hi ⟨x7, x8, x9, x10, rfl, fr5, pk5, I5⟩
    obtain ⟨nk, nk0, nk3, lk⟩ := pk5
    refine go_setK (s := s) (P := TpP [KindP, IntP 0 (v + 1 - 1), IntP 0 (v + 1 - 1)]) fr5 hS2 I5.src (k_tup (ka_cons (k_choose (n := nk) (P := KindP) rfl (k_of (e_varP rfl fun _ sm => mon_ls mon_kind _ _ _ sm lk)) mon_kind nk0 (by omega)) mon_kind
      (ka_cons (k_draw rfl (e_add (e_var rfl (.int v)) e_int) (by omega) (by omega)) mon_int (ka_cons (k_draw rfl (e_add (e_var rfl (.int v)) e_int) (by omega) (by omega)) mon_int ka_nil))) (by simp [mon_kind, mon_int]) (by simp)) fun vy H6 kp6 c6 fr6 pkey => ?_
    have I6 := I5.step hS kp6 c6
    have lk6 := mon_ls mon_kind _ _ _ (kp6.off hS2) lk
    refine go_setK (s := s) (P := IntP 1 o) fr6 hS2 c6 (k_choose (n := 4) rfl (k_lst (P := IntP 1 o) (ka_cons (k_int (lo := 1) (hi := o) (by omega) (by omega)) mon_int (ka_cons (k_int (lo := 1) (hi := o) (by omega) (by omega)) mon_int
      (ka_cons ((k_add (k_int (lo := 1) (hi := 1) (by omega) (by omega)) (k_draw rfl (e_var rfl (.int o)) (by omega) (by omega))).weak (P2 := IntP 1 o) fun H v ⟨z, e, z0, z1⟩ => ⟨z, e, by omega, by omega⟩) mon_int (ka_cons (k_varI (lo := 1) (hi := o) (z := o) rfl (by omega) (by omega)) mon_int ka_nil)))) mon_int (by simp) (by simp)) mon_int (by decide) (by decide)) fun vn H7 kp7 c7 fr7 pn => ?_
    have I7 := I6.step hS kp7 c7
    have lk7 := mon_ls mon_kind _ _ _ (kp7.off hS2) lk6
    obtain ⟨nn, rfl, n1, n9⟩ := pn
    obtain ⟨k, l, r, rk, hk, l0, l9, r0, r9⟩ : ∃ k l r, Rp (offS (addS S fo) H7) vy (keyD k l r) ∧ kindOk k = true ∧ 0 ≤ l ∧ l ≤ v ∧ 0 ≤ r ∧ r ≤ v := by
      obtain ⟨t, ys, rfl, ht, ps⟩ := pkey
      cases ps with
      | cons h1 ps =>
        cases ps with
        | cons h2 ps =>
          cases ps with
          | cons h3 ps =>
            cases ps
            obtain ⟨k, rfl, hk⟩ := h1
            obtain ⟨l, rfl, l0, l9⟩ := h2
            obtain ⟨r, rfl, r0, r9⟩ := h3
            exact ⟨k, l, r, .tup (kp7.off hS2 _ _ ht) (.cons (.str _) (.cons (.int _) (.cons (.int _) .nil))), hk, l0, by omega, r0, by omega⟩
    obtain ⟨xs, rs, h1, h2, h3, h4, h5⟩ := I7.rows
    have frS : Fr S H7 := I7.kp.fr I7.src fr
    have rfo : Rp (offS S H7) (.ref fo) (.list (rs.map roD)) := by
      have : S fo = false := fr.new hfo
      exact .lst (by rw [offS_at this]; exact h1) (h2.mono addS_off)
    have gR : ∀ a ∈ rs, GoodR a := fun a ha => (h4 a ha).g
    refine go_if (S := S) frS (b_test (e_eqD (e_lcL (enc := roD) (b := fun a => PyData.eqv (keyD a.k a.l a.r) (keyD k l r)) (ev := roD) (e_var rfl rfo) (by omega) fun a ha x F2 sF rx => g_name ⟨rfl, b_test (e_eqD (e_slT (e_var rfl rx) o_none (o_some e_int)) (e_var rfl ((rk.mono addS_off).mono sF)) (cq_key (n := 0) _ _ (gR a ha).k).ok (cq_key (n := 0) _ _ hk).ok), fun _ => e_var rfl rx⟩) (e_lst a_nil) (cq_ros (n := 0) fun a ha => gR a ((List.mem_filter.mp ha).1)).ok (cq_nil (n := 0)).ok)) (fun z H8 s8 fr8 => ?_) fun z H8 s8 fr8 => ?_
    · rw [eqv_nil, List.isEmpty_map, List.isEmpty_iff, List.filter_eq_nil_iff] at z
      have kp8 : Kp s H7 H8 := .of s8
      have I8 := I7.step hS kp8 (src_same c7 s8)
      have fr8' := kp8.fr I8.src fr7
      refine go_app (S := addS S fo) fr8' rfl (s8 _ _ h1) (d := roD ⟨k, l, r, nn⟩) (e_catT (e_var rfl (rk.mono (offS_mono s8))) (e_tup (a_cons (e_var rfl (.int nn)) a_nil)) (by simp)) (by rw [h2.length, List.length_map]; omega) fun y H9 s9 h9 ry => ?_
      have kp9 : Kp s H8 H9 := .of s9
      have I9 := I8.step hS kp9 (src_same I8.src s9)
      refine ⟨_, _, _, _, rfl, ?_, ⟨nk, nk0, nk3, ?_⟩, ⟨?_, ?_, hfo, fs, xs ++ [y], rs ++ [⟨k, l, r, nn⟩], upd_same, ?_, ?_, ?_, ?_⟩⟩
      · exact fun a ha => by
          by_cases e : a = fo
          · exact ⟨.lst (xs ++ [y]), by rw [e]; exact upd_same, trivial⟩
          · obtain ⟨o', e', m'⟩ := (fr8'.mono s9) a ha
            exact ⟨o', by rw [upd_ne e]; exact e', m'⟩
      · exact mon_ls mon_kind _ _ _ (((offS_mono s8).trans (offS_mono s9)).trans addS_upd) lk7
      · intro b o' hb e
        have nb : b ≠ fo := fun z => by rw [z, hfo] at e; cases e
        rw [upd_ne nb]
        exact I9.kp b o' hb e
      · obtain ⟨x, y', c, e⟩ := I9.src
        exact ⟨x, y', c, by rw [upd_ne fs.symm]; exact e⟩
      · rw [List.map_append]
        exact (((h2.mono (offS_mono s8)).mono (offS_mono s9)).mono addS_upd).append (.cons (ry.mono addS_upd) .nil)
      · rw [List.length_append]
        simp only [List.length_cons, List.length_nil]
        omega
      · intro a ha
        rcases List.mem_append.mp ha with z1 | z1
        · exact h4 a z1
        · rw [List.mem_singleton.mp z1]
          exact ⟨⟨hk, l0, by show l ≤ 99; omega, r0, by show r ≤ 99; omega, n1, by show nn ≤ 10000; omega⟩, l9, r9, n9⟩
      · rw [List.map_append, List.nodup_append]
        refine ⟨h5, by simp, fun x hx y hy e => ?_⟩
        obtain ⟨a, ha, rfl⟩ := List.mem_map.mp hx
        rw [List.map_cons, List.map_nil, List.mem_singleton] at hy
        exact z a ha ((key_eqv a k l r).mpr (e.trans hy))
    · have kp8 : Kp s H7 H8 := .of s8
      have I8 := I7.step hS kp8 (src_same c7 s8)
      obtain ⟨xs', rs', g1, g2, g3, g4, g5⟩ := I8.rows
      exact ⟨_, _, _, _, rfl, kp8.fr I8.src fr7, ⟨nk, nk0, nk3, mon_ls mon_kind _ _ _ (offS_mono s8) lk7⟩, ⟨I8.kp, I8.src, hfo, fs, xs', rs', g1, g2, by omega, g4, g5⟩⟩
  · rintro σ H5 ⟨x7, x8, x9, x10, rfl, fr5, pk5, I5⟩
    obtain ⟨xs, rs, h1, h2, h3, h4, h5⟩ := I5.rows
    refine ⟨_, rfl, q _ rs H5 I5.kp I5.src (.lst ?_ (h2.mono addS_off)) (by omega) h4 h5⟩
    have : S fo = false := fr.new hfo
    rw [offS_at this]
    exact h1
end
end Q

set_option maxHeartbeats 400000
namespace Ca
open PySem PySem.Spec PyProof.Rows L2
/-- str of a text or of an integer -/
def rStrE : List V → Hp → VK → Prop := fun xs H Q => (∃ i, xs = [.int i] ∧ i.natAbs.log2 < 1920 ∧ Q (.str (toString i)) H) ∨ ∃ a, xs = [.str a] ∧ Q (.str a) H
theorem call_strE {X : Cx} : CallR X (.type "str") rStrE := fun pins s σ H xs us Q I r h => by
  rcases h with h | h
  · exact call_str_int pins s σ H xs us Q I r h
  · exact SkE.call_str_str pins s σ H xs us Q I r h
/-- what str makes of it -/
def strP : PyData → PySem.Str
  | .str x => x
  | .int i => PySem.Str.ofString (toString i)
  | _ => ""
def Sable : PyData → Prop
  | .str _ => True
  | .int i => i.natAbs.log2 < 1920
  | _ => False
theorem e_strE {σ : L2.St} {F : Hp} {ta : TE} {d : PyData} (h : EvD ta σ F d) (hd : Sable d) : EvD (tCB rStrE (tCons ta tNil)) σ F (.str (strP d)) := e_cb (a_cons h a_nil) fun S H vs f r Q q => by
  obtain ⟨v, rfl, r1⟩ := rpa1 r
  cases r1 with
  | str x => exact .inr ⟨x, rfl, q _ H (Same.refl _) (.str _)⟩
  | int i => exact .inl ⟨i, rfl, hd, q _ H (Same.refl _) (.str _)⟩
  | _ => exact False.elim hd
def lcSc : Expr → Scope
  | .ListComp _ _ sc _ => sc
  | _ => ⟨.function, [], false, false, []⟩
def argE : Expr → Expr
  | .Call _ (e :: _) _ _ => e
  | e => e
def retE : Stmt → Expr
  | .Return (some e) _ => e
  | _ => .Constant .none 0 ⟨0, 0, 0, 0⟩
end Ca
namespace Q
open PySem PySem.Spec PyProof.Rows L2 Ca
/-! ### _law_text -/
abbrev s_ltext : Stmt := top 39
abbrev nLtext : List PySem.Str := ["_law_lines_here", "_law_row", "_law_part"]
theorem sc_ltext : FnScope nLtext ["_law_lines_here"] (defScope s_ltext) := ⟨rfl, rfl, rfl, by decide +kernel, rfl, by decide +kernel, by decide +kernel⟩
def RLText : List PyData → PyData → Prop := fun ds d => ∃ rs ks : List Ro, ds = [.list (rs.map roD)] ∧ rs.length ≤ 12 ∧ (∀ a ∈ rs, GoodR a) ∧ srtD (rs.map roD) = ks.map roD ∧ d = .str (txr ks)
theorem srt_perm {rs ks : List Ro} (h : srtD (rs.map roD) = ks.map roD) : ks.Perm rs := by
  obtain ⟨k2, e, p⟩ := srt_rows rs
  have : ks = k2 := roD_inj (h.symm.trans e)
  rw [this]
  exact p
theorem srt_good {rs ks : List Ro} (h : srtD (rs.map roD) = ks.map roD) (g : ∀ a ∈ rs, GoodR a) : ∀ a ∈ ks, GoodR a := fun a ha => g a ((srt_perm h).mem_iff.mp ha)
def rowPs (a : Ro) : List PyData := [.str a.k, .int a.l, .int a.r, .int a.n]
theorem row_sable {a : Ro} (g : GoodR a) : ∀ d ∈ rowPs a, Sable d := fun d hd => by
  rcases List.mem_cons.mp hd with z | hd
  · rw [z]
    trivial
  · rcases List.mem_cons.mp hd with z | hd
    · rw [z]
      exact log99 g.l0 (by have := g.l9; omega)
    · rcases List.mem_cons.mp hd with z | hd
      · rw [z]
        exact log99 g.r0 (by have := g.r9; omega)
      · rcases List.mem_cons.mp hd with z | hd
        · rw [z]
          exact log99 (by have := g.n1; omega) g.n9
        · cases hd
theorem row_join (a : Ro) : Txt.join " " (((rowPs a).map fun d => PyData.str (strP d)).map strD) = rowW a := rfl
theorem e_addS2 {σ : L2.St} {F : Hp} {ta tb : TE} {x y z : PySem.Str} (ha : EvD ta σ F (.str x)) (hb : EvD tb σ F (.str y)) (hl : x.length + y.length ≤ 1000) (hz : x ++ y = z) :
    EvD (tOp (fun x y H Q => ∃ i j, x = .str i ∧ y = .str j ∧ i.length + j.length ≤ sizeLine ∧ Q (.str (i ++ j)) H) ta tb) σ F (.str z) := hz ▸ e_addS ha hb hl
section
variable {P : Program} {w : World} {K : PySem.W.Frag} {mg : PySem.Str → Option Value} {base : Heap}
theorem ok_ltext {f : Addr} {fd : FuncData} (F : FnP K "_law_text" s_ltext f fd) (T : Tx K mg) : FnOk P w K mg base CX0 1 f fd ["_law_lines_here"] (spR RLText) := by
  refine F.ok sc_ltext (spR_len (by rintro _ _ ⟨rs, ks, rfl, _⟩; rfl)) (fun cdv A outer s H vs Q E hr h => ?_)
  obtain ⟨S, ds, d, fr, rA, ⟨rs, ks, rfl, hz, hg, hs, rfl⟩, q⟩ := h
  obtain ⟨v0, rfl, r0⟩ := rpa1 rA
  refine ⟨_, PSs.nox (pss_one (ps_ret (pe_joinQ (K := K) rfl pe_str (pe_lc (own := [("_law_row", 1)]) (g := gName 1) rfl sc_ltext.nd (pi_listQ (K := K) rfl (pe_callB (cr_sortD T.sm (hr.mono (Nat.le_refl _)) : CallR _ _ rSortD) (by rfl) T.sorted bSorted (pa_cons (pv 0) pa_nil)))
    (blkOk_by (own := [("_law_row", 1)]) (N := nLtext) (sc := defScope s_ltext) (by decide +kernel)) (fun _ _ _ _ _ => pg_name (i := 1) sc_ltext.nd rfl (Or.inl rfl)) (fun _ _ _ _ _ => pts_nil)
    (fun _ _ _ _ _ => pe_op op_add_str (pe_joinQ (K := K) rfl pe_str (pe_lc (own := [("_law_part", 2)]) (g := gName 2) rfl sc_ltext.nd (pi_tupQ (K := K) rfl (pv 1))
      (blkOk_by (own := [("_law_part", 2)]) (N := nLtext) (sc := relS (lcSc (argE (retE ((defBody s_ltext).getD 0 (.Pass ⟨0, 0, 0, 0⟩))))) (defScope s_ltext)) (by decide +kernel)) (fun _ _ _ _ _ => pg_name (i := 2) sc_ltext.nd rfl (Or.inl rfl)) (fun _ _ _ _ _ => pts_nil)
      (fun _ _ _ _ _ => pe_callTy call_strE (by rfl) T.str bStr (pa_cons (pv 2) pa_nil)))) pe_str))))), ?_⟩
  have gk := srt_good hs hg
  have lk : ks.length = rs.length := (srt_perm hs).length_eq
  refine go_ret (P := fun H v => Rp H v (.str (txr ks))) fr (eqD (e_joinL e_str (e_lcL (enc := roD) (b := fun _ => true) (ev := fun a => .str (rowT a)) (as := ks) (eqD (e_sortD (e_var rfl r0) (ros_alike rs) (ros_sortable rs) (fun d hd => ?_) (by rw [List.length_map]; omega)) (by rw [hs])) (by omega)
    fun a ha x F2 sF r => g_name ⟨rfl, b_yes, fun _ => e_addS2 (eqD (e_joinL e_str (e_lcT (enc := id) (as := rowPs a) (b := fun _ => true) (ev := fun d => .str (strP d)) (e_var rfl ?_) (by show 4 ≤ 1000; decide) fun d hd x2 F3 sF3 r3 => g_name ⟨rfl, b_yes, fun _ => e_strE (e_var rfl r3) (row_sable (gk a ha) d hd)⟩) ?_ ?_) (by rw [filter_yes, row_join])) e_str ?_ (rowT_eq a).symm⟩) ?_ ?_) ?_) q
  · obtain ⟨a, _, rfl⟩ := List.mem_map.mp hd
    exact ro_depth a
  · exact r
  · intro d hd
    obtain ⟨e, _, rfl⟩ := List.mem_map.mp hd
    exact ⟨_, rfl⟩
  · rw [filter_yes]
    have e1 := rowP_len (gk a ha)
    have e2 : (PySem.Str.ofString " ").length = 1 := by decide +kernel
    unfold lens rowP at e1
    simp only [List.map_cons, List.map_nil, List.sum_cons, List.sum_nil] at e1
    show ([a.k, PySem.Str.ofString (toString a.l), PySem.Str.ofString (toString a.r), PySem.Str.ofString (toString a.n)].map (·.length)).sum + 4 * _ ≤ _
    simp only [List.map_cons, List.map_nil, List.sum_cons, List.sum_nil]
    rw [e2]
    omega
  · have := rowW_len (gk a ha)
    have e2 : (PySem.Str.ofString "\n").length = 1 := by decide +kernel
    rw [e2]
    omega
  · intro d hd
    obtain ⟨e, _, rfl⟩ := List.mem_map.mp hd
    exact ⟨_, rfl⟩
  · rw [filter_yes, List.map_map (g := strD)]
    have e := rows_len gk
    have e1 : (PySem.Str.ofString "").length = 0 := by decide +kernel
    show ((ks.map rowT).map (·.length)).sum + (ks.map rowT).length * _ ≤ _
    rw [e1]
    omega
  · rw [filter_yes, List.map_map]
    rfl
end
end Q

set_option maxHeartbeats 400000
namespace Q
open PySem PySem.Spec PyProof.Rows L2 Ca
/-! ### rows sorted: the order in which they came does not matter -/
theorem str_tri {x y : PySem.Str} (h1 : ¬ x.cps.toList < y.cps.toList) (h2 : ¬ y.cps.toList < x.cps.toList) : x = y := by
  have e : x.cps.toList = y.cps.toList := List.le_antisymm (List.not_lt.mp h2) (List.not_lt.mp h1)
  exact TL.ext_tl e
def roLt (a b : Ro) : Bool := if a.k = b.k then (if a.l = b.l then (if a.r = b.r then (if a.n = b.n then false else decide (a.n < b.n)) else decide (a.r < b.r)) else decide (a.l < b.l)) else decide (a.k.cps.toList < b.k.cps.toList)
theorem ro_lt (a b : Ro) : PySem.W.dataLt (roD a) (roD b) = roLt a b := by
  unfold roD roLt
  rw [PySem.W.dataLt_tuple, PySem.W.dataLt_cons (by simp [PySem.W.alike]), PySem.W.dataLt_cons (by simp [PySem.W.alike]), PySem.W.dataLt_cons (by simp [PySem.W.alike]), PySem.W.dataLt_cons (by simp [PySem.W.alike])]
  simp only [PyData.eqv, PySem.W.dataLt_int, PySem.W.dataLt_str, beq_iff_eq, decide_eq_true_eq, lex_irrefl]
theorem ro_anti {a b : Ro} (h1 : roLt a b = false) (h2 : roLt b a = false) : a = b := by
  unfold roLt at h1 h2
  by_cases ek : a.k = b.k
  · rw [if_pos ek] at h1
    rw [if_pos ek.symm] at h2
    by_cases el : a.l = b.l
    · rw [if_pos el] at h1
      rw [if_pos el.symm] at h2
      by_cases er : a.r = b.r
      · rw [if_pos er] at h1
        rw [if_pos er.symm] at h2
        by_cases en : a.n = b.n
        · cases a; cases b
          simp_all
        · rw [if_neg en] at h1
          rw [if_neg (Ne.symm en)] at h2
          simp only [decide_eq_false_iff_not] at h1 h2
          omega
      · rw [if_neg er] at h1
        rw [if_neg (Ne.symm er)] at h2
        simp only [decide_eq_false_iff_not] at h1 h2
        omega
    · rw [if_neg el] at h1
      rw [if_neg (Ne.symm el)] at h2
      simp only [decide_eq_false_iff_not] at h1 h2
      omega
  · rw [if_neg ek] at h1
    rw [if_neg (Ne.symm ek)] at h2
    simp only [decide_eq_false_iff_not] at h1 h2
    exact absurd (str_tri h1 h2) ek
theorem srt_up (rs : List Ro) {ks : List Ro} (h : srtD (rs.map roD) = ks.map roD) : ks.Pairwise fun a b => roLt b a = false := by
  have tot : PySem.W.TotalLe (PySem.W.dataLe false (id : PyData → PyData)) := PySem.W.sortLe_total _ _ _
  have pw : (srtD (rs.map roD)).Pairwise (fun a b => PySem.W.dataLe false id a b = true) := PySem.W.sort_pairwise tot _
  rw [h, List.pairwise_map] at pw
  refine pw.imp fun {a b} z => ?_
  have z2 : (!PySem.W.dataLt (roD b) (roD a)) = true := z
  rw [ro_lt] at z2
  simpa using z2
theorem up_same : ∀ {a b : List Ro}, a.Perm b → a.Pairwise (fun x y => roLt y x = false) → b.Pairwise (fun x y => roLt y x = false) → a = b := fun {a b} p h1 h2 =>
  List.Perm.eq_of_pairwise (fun x y _ _ u v => ro_anti v u) h1 h2 p
theorem srt_same {rs ts ks ls : List Ro} (p : rs.Perm ts) (h1 : srtD (rs.map roD) = ks.map roD) (h2 : srtD (ts.map roD) = ls.map roD) : ks = ls :=
  up_same ((srt_perm h1).trans (p.trans (srt_perm h2).symm)) (srt_up rs h1) (srt_up ts h2)
theorem srt_sameD {rs ts : List Ro} (p : rs.Perm ts) : srtD (rs.map roD) = srtD (ts.map roD) := by
  obtain ⟨ks, e1, _⟩ := srt_rows rs
  obtain ⟨ls, e2, _⟩ := srt_rows ts
  rw [e1, e2, srt_same p e1 e2]
theorem srt_idem {rs ks : List Ro} (h : srtD (rs.map roD) = ks.map roD) : srtD (ks.map roD) = ks.map roD := by
  rw [srt_sameD (srt_perm h), h]
theorem are_perm {rs ks : List Ro} (p : ks.Perm rs) (h : AreR (rs.map roD)) : AreR (ks.map roD) := by
  obtain ⟨h1, r2, e, g, nd⟩ := h
  have : rs = r2 := roD_inj e
  subst this
  refine ⟨by rw [List.length_map] at h1 ⊢; rw [p.length_eq]; exact h1, ks, rfl, fun a ha => g a (p.mem_iff.mp ha), ?_⟩
  exact (p.map roK).nodup_iff.mpr nd
end Q

set_option maxHeartbeats 400000
namespace Q
open PySem PySem.Spec PyProof.Rows L2 Ca
/-! ### more rules: arguments with what is true of them, lists of values of any kind -/
def EvAP (ta : TA) (σ : L2.St) (F : Hp) (Ps : List (Hp → V → Prop)) : Prop := ∀ (S : Addr → Bool) (H1 : Hp), Fr S H1 → Same F (offS S H1) → ∀ Q : List V → Hp → Prop, (∀ vs H2, Same H1 H2 → PsA (offS S H2) Ps vs → Q vs H2) → ta σ H1 Q
def RowsP (m : Nat) (v o : Int) : Hp → V → Prop := fun H x => ∃ rs : List Ro, Rp H x (.list (rs.map roD)) ∧ rs.length ≤ m ∧ (∀ a ∈ rs, RowIn v o a) ∧ (rs.map roK).Nodup
theorem psa1 {H : Hp} {P1 : Hp → V → Prop} {vs : List V} (r : PsA H [P1] vs) : ∃ a, vs = [a] ∧ P1 H a := by
  cases r with
  | cons h r =>
    cases r
    exact ⟨_, rfl, h⟩
theorem psa2 {H : Hp} {P1 P2 : Hp → V → Prop} {vs : List V} (r : PsA H [P1, P2] vs) : ∃ a b, vs = [a, b] ∧ P1 H a ∧ P2 H b := by
  cases r with
  | cons h r =>
    obtain ⟨b, rfl, hb⟩ := psa1 r
    exact ⟨_, b, rfl, h, hb⟩
theorem psa3 {H : Hp} {P1 P2 P3 : Hp → V → Prop} {vs : List V} (r : PsA H [P1, P2, P3] vs) : ∃ a b c, vs = [a, b, c] ∧ P1 H a ∧ P2 H b ∧ P3 H c := by
  cases r with
  | cons h r =>
    obtain ⟨b, c, rfl, hb⟩ := psa2 r
    exact ⟨_, b, c, rfl, h, hb⟩
theorem psa4 {H : Hp} {P1 P2 P3 P4 : Hp → V → Prop} {vs : List V} (r : PsA H [P1, P2, P3, P4] vs) : ∃ a b c d, vs = [a, b, c, d] ∧ P1 H a ∧ P2 H b ∧ P3 H c ∧ P4 H d := by
  cases r with
  | cons h r =>
    obtain ⟨b, c, d, rfl, hb⟩ := psa3 r
    exact ⟨_, b, c, d, rfl, h, hb⟩
section
variable {K : PySem.W.Frag} {s : Addr} {σ : L2.St} {F : Hp} {ta tb te tm tl : TE} {tas : TA} {P P1 P2 : Hp → V → Prop} {Ps : List (Hp → V → Prop)} {E : XK} {C : Addr} {I : Hp → List V → (Hp → V → Prop) → Prop}
theorem ap_nil : EvAP tNil σ F [] := fun S H1 f sm Q q => q _ H1 (Same.refl _) .nil
theorem ap_cons (h : EvP te σ F P) (m : Mon P) (hs : EvAP tas σ F Ps) : EvAP (tCons te tas) σ F (P :: Ps) := fun S H1 f sm Q q =>
  h S H1 f sm _ fun v H2 s2 p => hs S H2 (f.mono s2) (sm.trans (offS_mono s2)) _ fun vs H3 s3 r => q _ H3 (s2.trans s3) (.cons (m _ _ _ (offS_mono s3) p) r)
theorem e_callQ (h : EvAP tas σ F Ps) (hi : ∀ F vs, PsA F Ps vs → I F vs P) : EvP (tCall (spQ I) [] E tas) σ F P := fun S H1 f sm Q q =>
  h S H1 f sm _ fun vs H2 s2 r => ⟨S, P, f.mono s2, by rw [List.append_nil]; exact hi _ _ r, fun v H3 s3 p => q v H3 (s2.trans s3) p⟩
theorem k_lines {m : Nat} {v o : Int} (h : EvKA s tas σ F [fun _ x => x = .ref s, fun _ x => x = .int m, fun _ x => x = .int v, fun _ x => x = .int o]) (m12 : m ≤ 12) (v0 : 0 ≤ v) (v9 : v ≤ 99) (o2 : 2 ≤ o) (o9 : o ≤ 10000) : EvK s (tCall spLines [] E tas) σ F (RowsP m v o) := fun S H1 f hS hc sm Q q =>
  h S H1 f hS hc sm _ fun vs H2 k2 c2 r => by
    obtain ⟨a, b, c, d, rfl, rfl, rfl, rfl, rfl⟩ := psa4 r
    exact ⟨S, s, m, v, o, rfl, k2.fr c2 f, hS, c2, m12, v0, v9, o2, o9, fun x rs H3 k3 c3 r3 l3 g3 n3 => q x H3 (k2.trans k3) c3 ⟨rs, r3, l3, g3, n3⟩⟩
/-- the same, the bounds drawn -/
theorem k_linesV {m : Nat} (h : EvKA s tas σ F [fun _ x => x = .ref s, fun _ x => x = .int m, IntP 0 99, IntP 2 10000]) (m12 : m ≤ 12) : EvK s (tCall spLines [] E tas) σ F (RowsP m 99 10000) := fun S H1 f hS hc sm Q q =>
  h S H1 f hS hc sm _ fun vs H2 k2 c2 r => by
    obtain ⟨a, b, c, d, rfl, rfl, rfl, ⟨v, rfl, v0, v9⟩, ⟨o, rfl, o2, o9⟩⟩ := psa4 r
    exact ⟨S, s, m, v, o, rfl, k2.fr c2 f, hS, c2, m12, v0, v9, o2, o9, fun x rs H3 k3 c3 r3 l3 g3 n3 => q x H3 (k2.trans k3) c3 ⟨rs, r3, l3, fun a ha => ⟨(g3 a ha).g, Int.le_trans (g3 a ha).l v9, Int.le_trans (g3 a ha).r v9, Int.le_trans (g3 a ha).n o9⟩, n3⟩⟩
theorem k_cat {n m : Nat} (ha : EvK s ta σ F (LsP n P)) (hb : EvK s tb σ F (LsP m P)) (mo : Mon P) (hl : n + m ≤ 1000) : EvK s (tOp rCat ta tb) σ F (LsP (n + m) P) := fun S H1 f hS hc sm Q q =>
  ha S H1 f hS hc sm _ fun x H2 k2 c2 p1 => hb S H2 (k2.fr c2 f) hS c2 (sm.trans (k2.off hS)) _ fun y H3 k3 c3 p2 => by
    obtain ⟨a, xs, rfl, h1, l1, e1⟩ := mon_ls mo _ _ _ (k3.off hS) p1
    obtain ⟨b, ys, rfl, h2, l2, e2⟩ := p2
    refine ⟨a, b, xs, ys, rfl, rfl, offS_same _ _ h1, offS_same _ _ h2, Nat.le_of_lt (small1000 (by omega)), fun p hp => q _ _ ((k2.trans k3).trans (.of (same_new hp))) (src_same c3 (same_new hp)) ⟨p, xs ++ ys, rfl, offS_new ((k2.trans k3).fr c3 f) hp, by rw [List.length_append]; omega, fun x hx => mo _ _ _ (offS_mono (same_new hp)) ?_⟩⟩
    rcases List.mem_append.mp hx with z | z
    · exact e1 x z
    · exact e2 x z
/-- Table.read of what text() writes -/
theorem e_cmethT {ks : List Ro} (hC : EvP ta σ F fun _ v => v = .ref C) (h : EvD te σ F (.str (txr ks))) (hA : AreR (ks.map roD)) (g : ∀ a ∈ ks, GoodR a) (hs : srtD (ks.map roD) = ks.map roD) : EvP (ClX.tCMeth C (spQ (ITRead C)) E ta (tCons te tNil)) σ F (TV C ks) := fun S H1 f s Q q =>
  hC S H1 f s _ fun v H2 s2 e => ⟨e, h S H2 (f.mono s2) (s.trans (offS_mono s2)) _ fun v H3 s3 r => by
    cases r
    exact ⟨S, TV C ks, f.mono (s2.trans s3), ⟨ks, rfl, hA, g, hs, rfl⟩, fun v H4 s4 p => q v H4 ((s2.trans s3).trans s4) p⟩⟩
theorem e_pow {i j : Int} (ha : EvD ta σ F (.int i)) (hb : EvD tb σ F (.int j)) (h : CPow i j) : EvD (tOp (rI CPow fun i j => .int (i ^ j.toNat)) ta tb) σ F (.int (i ^ j.toNat)) := e_op ha hb fun S H x y f rx ry Q q => by
  cases rx; cases ry
  exact ⟨i, j, rfl, rfl, h, q _ H (Same.refl _) (.int _)⟩
variable {S : Addr → Bool} {H : Hp} {D : L2.Ends} {t u : TS} {g : TG}
theorem go_forK {n : Nat} (f : Fr S H) (hS : S s = true) (hc : Src H s) (h : EvK s tl σ (offS S H) (LsP n P)) (mo : Mon P) (k : ∀ H1, Kp s H H1 → Src H1 s → Fr S H1 → ∃ Pv : Nat → L2.St → Hp → Prop, Pv 0 σ H1 ∧
    (∀ i σ' H', Pv i σ' H' → Same (offS S H1) (offS S H')) ∧
    (∀ i x σ' H', i < n → P (offS S H') x → Pv i σ' H' → g x σ' H' fun σ2 H2 => t { D with nx := Pv (i + 1), ct := Pv (i + 1), bk := D.nx } σ2 H2) ∧
    (∀ σ' H', Pv n σ' H' → D.nx σ' H')) : tFor (iList K tl) g t D σ H :=
  h S H f hS hc (Same.refl _) _ fun v H1 k1 c1 ⟨a, xs, e, ha, hl, hx⟩ => by
    subst e
    obtain ⟨Pv, p0, pk, ps, pd⟩ := k H1 k1 c1 (k1.fr c1 f)
    refine ⟨a, rfl, ⟨xs, .inl (.inl (offS_same _ _ ha))⟩, for_list (xs := xs) Pv p0 (fun i σ' H' _ p => .inl (.inl (offS_same _ _ (pk i σ' H' p _ _ ha)))) (fun i x σ' H' hx2 p => ?_) fun σ' H' p => pd σ' H' (by rw [hl] at p; exact p)⟩
    refine ps i x σ' H' ?_ (mo _ _ _ (pk i σ' H' p) (hx x (List.mem_of_getElem? hx2))) p
    rw [← hl]
    exact (List.getElem?_eq_some_iff.mp hx2).1
theorem go_forKS {n : Nat} (f : Fr S H) (hS : S s = true) (hc : Src H s) (h : EvK s tl σ (offS S H) (LsP n P)) (mo : Mon P) (k : ∀ H1, Kp s H H1 → Src H1 s → Fr S H1 → ∃ Pv : Nat → L2.St → Hp → Prop, Pv 0 σ H1 ∧
    (∀ i σ' H', Pv i σ' H' → Same (offS S H1) (offS S H')) ∧
    (∀ i x σ' H', i < n → P (offS S H') x → Pv i σ' H' → g x σ' H' fun σ2 H2 => t { D with nx := Pv (i + 1), ct := Pv (i + 1), bk := u D } σ2 H2) ∧
    (∀ σ' H', Pv n σ' H' → u D σ' H')) : tSeq (tFor (iList K tl) g t) u D σ H := go_forK (D := { D with nx := u D }) f hS hc h mo k
end
theorem fit_ro {a : Ro} (g : GoodR a) : Fit (roD a) 1 100 := by
  refine (fit_tuple (k := 0) (n := 20) (m := 4) (fun d hd => ?_) (Nat.le_refl _)).mono (Nat.le_refl _) (by omega)
  have := g.l0
  have := g.l9
  have := g.r0
  have := g.r9
  have := g.n1
  have := g.n9
  rcases List.mem_cons.mp hd with z | hd
  · subst z
    exact (fit_str (ascii_kind g.k) (Nat.le_of_eq (kind1 g.k))).mono (Nat.le_refl _) (by omega)
  · rcases List.mem_cons.mp hd with z | hd
    · subst z
      exact fit_int (by omega)
    · rcases List.mem_cons.mp hd with z | hd
      · subst z
        exact fit_int (by omega)
      · rcases List.mem_cons.mp hd with z | hd
        · subst z
          exact fit_int (by omega)
        · cases hd
theorem fit_rows {ks : List Ro} (g : ∀ a ∈ ks, GoodR a) (h : ks.length ≤ 12) : Fit (.tuple (ks.map roD)) 2 2000 := by
  refine (fit_tuple (k := 1) (n := 100) (m := 12) (fun d hd => ?_) (by rw [List.length_map]; exact h)).mono (Nat.le_refl _) (by omega)
  obtain ⟨a, ha, rfl⟩ := List.mem_map.mp hd
  exact fit_ro (g a ha)
theorem are_good {rs : List Ro} (h : AreR (rs.map roD)) : (∀ a ∈ rs, GoodR a) ∧ rs.length ≤ 12 ∧ (rs.map roK).Nodup := by
  obtain ⟨h1, r2, e, g, nd⟩ := h
  have : rs = r2 := roD_inj e
  subst this
  rw [List.length_map] at h1
  exact ⟨g, h1, nd⟩
theorem are_of {rs : List Ro} (g : ∀ a ∈ rs, GoodR a) (h : rs.length ≤ 12) (nd : (rs.map roK).Nodup) : AreR (rs.map roD) := ⟨by rw [List.length_map]; exact h, rs, rfl, g, nd⟩
end Q

set_option maxHeartbeats 400000
namespace Q
open PySem PySem.Spec PyProof.Rows L2 Ca
theorem go_retC1 {σ : L2.St} {S : Addr → Bool} {H : Hp} {D : L2.Ends} {te : TE} {P : Hp → V → Prop} {sp : Sp} {E : XK} (f : Fr S H) (h : EvP te σ (offS S H) P) (k : ∀ v H', Same H H' → P (offS S H') v → sp [v] H' D.rt E) : tRet (tCall sp [] E (tCons te tNil)) D σ H := h S H f (Same.refl _) _ k
theorem passW {X : Cx} {W : WX} (tk : Takes X W) : Passes (L2.CX X.prog X.w) X (fun cls d H => ∀ σ, W cls d σ H) := fun pins σ H s e s' I c => tk e s' (XE.of_call I (fun _ _ _ h => h σ) c)
theorem tv_ins {C : Addr} {ks : List Ro} {F : Hp} {v : V} (h : TV C ks F v) : ∃ a dx o, v = .ref a ∧ F a = some (.ins C dx (tf (.ref o))) := by
  obtain ⟨x, dx, o, e, h1, _⟩ := h
  exact ⟨x, dx, o, e, h1⟩
theorem tv_rows {C : Addr} {ks : List Ro} : ∀ F v, TV C ks F v → ITRows C F [v] (fun H v => Rp H v (.tuple (ks.map roD))) ∧ ∃ a dx fs, v = .ref a ∧ F a = some (.ins C dx fs) := fun F v h => by
  obtain ⟨a, dx, o, e, h1⟩ := tv_ins h
  exact ⟨⟨v, ks, rfl, h, rfl⟩, a, dx, _, e, h1⟩
def spLaw (K : PySem.W.Frag) : Sp := fun vs H Q _ => ∃ (a : Addr) (ns : List Int), vs = [.ref a] ∧ SqL K H a (ns.map V.int) ∧ ns.length ≤ 63 ∧ ∀ H', Q (.bl true) H'
theorem same_kp {H H2 H3 : Hp} {p : Addr} (s : Same H H2) (p0 : H p = none) (k : Kp p H2 H3) : Same H H3 := fun b o e => k b o (ne_of_none e p0) (s b o e)
theorem mon_eq {x : V} : Mon (fun _ v => v = x) := fun _ _ _ _ h => h
theorem tv_text {C : Addr} {ks : List Ro} (g : ∀ a ∈ ks, GoodR a) (hz : ks.length ≤ 1000) : ∀ F v, TV C ks F v → ITText C F [v] (fun H v => Rp H v (.str (txr ks))) ∧ ∃ a dx fs, v = .ref a ∧ F a = some (.ins C dx fs) ∧ fs.lookup ("text" : PySem.Str) = none := fun F v h => by
  obtain ⟨a, dx, o, e, h1⟩ := tv_ins h
  exact ⟨⟨v, ks, rfl, h, hz, g, rfl⟩, a, dx, _, e, h1, tf_no _ (by decide +kernel)⟩
abbrev frP (p : Addr) : Addr → Bool := fun b => decide (b = p)
theorem fr_src {p : Addr} {H : Hp} (h : Src H p) : Fr (frP p) H := fun b hb => by
  rw [of_decide_eq_true hb]
  obtain ⟨a, b, c, e⟩ := h
  exact ⟨_, e, trivial⟩
theorem frP_self (p : Addr) : frP p p = true := decide_eq_true rfl
end Q

set_option maxHeartbeats 400000
namespace Ca
open PySem PySem.Spec PyProof.Rows L2
/-! own operators: x op y, x an instance whose class has the operator as a def, y another one or data -/
def tyN : List String := ["NoneType", "bool", "int", "str", "list", "tuple", "dict"]
structure OwnOp (K : PySem.W.Frag) (C f : Addr) (op : Operator) : Prop where
  first : PySem.W.selfFirst K C = true
  has : PySem.W.findIn K (.ref C) (PySem.dunder op.info.2) = some (some (.ref f))
  fn : PySem.W.isFn K (.ref f) = true
  rev : PySem.W.findIn K (.ref C) (dunderR op.info.2) = some none
  other : ∀ T ∈ tyN, (∃ fo, PySem.W.findIn K (.type T) (PySem.dunder op.info.2) = some fo) ∧ (∃ ro, PySem.W.findIn K (.type T) (dunderR op.info.2) = some ro) ∧ PySem.W.subIn K (.type T) (.ref C) = some false
open PySem.W in
theorem own_bin {P : Program} {w : World} {A : Around} {E : Value → Shared → Prop} {s : Shared} {K : PySem.W.Frag} {x C L f : Addr} {h₀ : Heap} {m : PySem.Str → Option Value} {ox : Obj} {od : Option Obj} {op : Operator} {b : Value} {T : String} {Q : Value → Shared → Prop}
    (fr : PyProof.Rows.Fr h₀ L s.heap m) (kin : K.In h₀) (J : InstAt s.heap x ox C od) (o : OwnOp K C f op) (hT : T ∈ tyN) (lb : Looks (model P w) s.heap (typeOf b) (.type T))
    (go : wpAny (model P w) A (call (.ref f) [.ref x, b]) (PySem.W.CmpBack Q) E s) : wpAny (model P w) A (binaryOp op (.ref x) b) Q E s := by
  obtain ⟨⟨fo, e1⟩, ⟨ro, e2⟩, e3⟩ := o.other T hT
  have kh := kin.keeps fr.keep
  obtain ⟨cd, rest, c1, c2⟩ := ksp_first o.first
  have hs := o.has
  have hr := o.rev
  rcases ei : op.info with ⟨sy, nm⟩
  rw [ei] at hs hr e1 e2
  dsimp only at hs hr e1 e2
  have tm := ksp_try kh J hs o.fn go
  obtain ⟨hh, gg, dd, tt, oo⟩ := s
  have a1 : Looks (model P w) hh (typeOf (.ref x)) (.ref C) := J.type
  have a2 : Looks (model P w) hh (typeOf b) (.type T) := lb
  have a3 : Looks (model P w) hh (fillsNumberSlot (.ref C) nm) true := fills_K kh c1 c2 hs
  have a4 : Looks (model P w) hh (fillsNumberSlot (.type T) nm) ((fo.isSome && !isSeqSlot fo) || (ro.isSome && !isSeqSlot ro)) := ksp_fillsT kh e1 e2
  have a5 : Looks (model P w) hh (isSubtype (.type T) (.ref C)) false := looks_subIn kh e3
  have a6 : Looks (model P w) hh (numberSlotInPython (.ref C) nm) true := ksp_inPy kh hs hr (.inl rfl)
  have a7 : Looks (model P w) hh (numberSlotInPython (.type T) nm) false := Looks.of_pure rfl
  have a8 : Looks (model P w) hh (typeLookup (.type T) (dunderR nm)) ro := looks_findIn kh e2
  generalize ((fo.isSome && !isSeqSlot fo) || (ro.isSome && !isSeqSlot ro)) = rt at a4
  have ne : (Value.ref C == Value.type T) = false := by
    cases e : (Value.ref C == Value.type T) with
    | false => rfl
    | true => cases beq_iff_eq.mp e
  simp only [binaryOp, ei]
  refine wpAny_holding (wpAny_bind ?_)
  unfold binaryOp1
  refine wpAny_bind (a1.at (wpAny_bind (a2.at (wpAny_bind (a3.at ?_)))))
  simp only [ne, Bool.false_eq_true, if_false]
  cases rt
  all_goals
    ksp_lk
    refine wpAny_mono tm (fun r s' z => ?_) fun _ _ z => z
    obtain ⟨v, rfl, z2⟩ := z
    ksp_lk
    exact z2
/-- the values that may stand on the right -/
def rOwn (K : PySem.W.Frag) (C : Addr) (sp : Sp) (E : XK) : R2 := fun x y H Q => ∃ a dx fs t, x = .ref a ∧ H a = some (.ins C dx fs) ∧ TyX K H y t ∧ (t = .ref C ∨ ∃ T ∈ tyN, t = .type T) ∧ sp [x, y] H Q E
theorem op_own {X : Cx} {CX : CXT} {k : Nat} {f C : Addr} {fd : FuncData} {ps : List PySem.Str} {sp : Sp} {E : XK} {op : Operator} (o : OwnOp X.K C f op) (F : FnOk X.prog X.w X.K X.mg X.base CX k f fd ps sp) (hb : Binds X.K fd ps []) (hr : Room k X.A) (hx : Passes CX X E) :
    OpR X (binaryOp op) (rOwn X.K C sp E) := by
  intro pins s σ H x y v u Q I rx ry h
  obtain ⟨a, dx, fs, t, rfl, ha, ty, ht, q⟩ := h
  cases (show v = Value.ref a from rx)
  obtain ⟨mA, O, _⟩ := ins_get I.hok ha
  obtain ⟨od, J, _⟩ := O.look
  obtain ⟨m, fr⟩ := I.fr
  have go : wpAny (model X.prog X.w) X.A (call (.ref f) [.ref a, u]) (PySem.W.CmpBack (EP X pins σ Q)) X.xe s := by
    refine wpAny_mono (run_fnS (E := fun _ => E) F hr hb (fun pins H s e s' I c => hx pins σ H s e s' I c) I (.cons rx (.cons ry .nil)) q) (fun r s' z => ?_) fun _ _ z => z
    obtain ⟨vv, H', J', rv, q'⟩ := id z
    cases vv with
    | non => cases (show r = _ from rv); exact z
    | bl b => cases (show r = _ from rv); exact z
    | int i => obtain ⟨t, e⟩ := (show ∃ t, r = Value.int i t from rv); subst e; exact z
    | str i => obtain ⟨t, e⟩ := (show ∃ t, r = Value.str i t from rv); subst e; exact z
    | byt i => obtain ⟨t, e⟩ := (show ∃ t, r = Value.bytes i t from rv); subst e; exact z
    | flt i => obtain ⟨t, e⟩ := (show ∃ t, r = Value.float i t from rv); subst e; exact z
    | ref i => cases (show r = _ from rv); exact z
    | ty i => cases (show r = _ from rv); exact z
  obtain ⟨P, Z, p, _⟩ := kit_of I ry ty
  have lk := Z.ty (model X.prog X.w) s.heap I.kIn p
  rcases ht with e | ⟨T, hT, e⟩
  · rw [e] at lk
    exact PySem.W.binop_K fr I.ok.mod.kin J lk o.first o.has o.fn go
  · rw [e] at lk
    exact own_bin fr I.ok.mod.kin J o hT lk go
end Ca

set_option maxHeartbeats 400000
namespace Ca
open PySem PySem.Spec PyProof.Rows L2
/-! max(x, default=d), x a list of ints -/
def gmax (d : Int) (ns : List Int) : Int := match ns with
  | [] => d
  | n :: ns => PySem.W.maxOf n ns
def rMaxDf (K : PySem.W.Frag) : List V → List V → Hp → VK → Prop := fun xs zs H Q => ∃ a ns d, xs = [.ref a] ∧ zs = [.int d] ∧ SqL K H a (ns.map V.int) ∧ Q (.int (gmax d ns)) H
theorem cr_maxDf {X : Cx} {k : Nat} (hc : X.calm = true) (hr : Room k X.A) : CallRK X (.builtin "max") ["default"] (rMaxDf X.K) := by
  intro pins s σ H xs zs us ws Q I r rz h
  obtain ⟨a, ns, d, rfl, rfl, hs, q⟩ := h
  obtain ⟨its, rv, hl, _⟩ := I.list hs
  rw [Vals.ref1 r]
  cases rz with
  | @cons _ u _ _ r1 rt =>
    cases rt
    have hu := hr.units
    refine PySem.W.max_list_datum_default (α := Int) (xs := ns) (I.ok.hd hc) hl.isList (.of_ints (by simpa using rv.ints)) (by show X.A.units + 1 + 0 < cLine; omega) (fun e h' tk hk => ?_) fun y ys i v h' tk e hi hv hk => ?_
    · subst e
      exact ⟨.int d, H, I.kept hk, r1, q⟩
    · subst e
      obtain ⟨as, rd⟩ := hv
      refine ⟨.int (PySem.W.maxOf y ys), H, I.kept hk, ?_, q⟩
      cases rd
      exact ⟨_, rfl⟩
theorem maxOf_ge : ∀ (ns : List Int) (n : Int), n ≤ PySem.W.maxOf n ns ∧ ∀ m ∈ ns, m ≤ PySem.W.maxOf n ns
  | [], n => ⟨Int.le_refl _, fun m h => by cases h⟩
  | k :: ns, n => by
    have e : PySem.W.maxOf n (k :: ns) = PySem.W.maxOf (if PySem.W.DatumOrd.lt n k = true then k else n) ns := rfl
    rw [e]
    have lt : PySem.W.DatumOrd.lt n k = decide (n < k) := rfl
    rw [lt]
    by_cases c : n < k
    · rw [decide_eq_true c, if_pos rfl]
      obtain ⟨h1, h2⟩ := maxOf_ge ns k
      refine ⟨by omega, fun m hm => ?_⟩
      rcases List.mem_cons.mp hm with z | z
      · rw [z]; exact h1
      · exact h2 m z
    · rw [decide_eq_false c, if_neg (by decide)]
      obtain ⟨h1, h2⟩ := maxOf_ge ns n
      refine ⟨h1, fun m hm => ?_⟩
      rcases List.mem_cons.mp hm with z | z
      · rw [z]; omega
      · exact h2 m z
theorem maxOf_mem : ∀ (ns : List Int) (n : Int), PySem.W.maxOf n ns ∈ n :: ns
  | [], n => .head _
  | k :: ns, n => by
    have e : PySem.W.maxOf n (k :: ns) = PySem.W.maxOf (if PySem.W.DatumOrd.lt n k = true then k else n) ns := rfl
    rw [e]
    have h := maxOf_mem ns (if PySem.W.DatumOrd.lt n k = true then k else n)
    rcases List.mem_cons.mp h with z | z
    · rw [z]
      split
      · exact .tail _ (.head _)
      · exact .head _
    · exact .tail _ (.tail _ z)
section
variable {K : PySem.W.Frag} {σ : L2.St} {F : Hp} {ta tb te : TE} {ds : List PyData}
theorem e_maxDf {ns : List Int} {d : Int} (h : EvD ta σ F (.list (ns.map .int))) (hd : EvD tb σ F (.int d)) : EvD (tCKw (rMaxDf K) (tCons ta tNil) (tCons tb tNil)) σ F (.int (gmax d ns)) := fun S H1 f s Q q =>
  h S H1 f s _ fun v H2 s2 r => hd S H2 (f.mono s2) (s.trans (offS_mono s2)) _ fun v1 H3 s3 r1 => by
    obtain ⟨a, xs, rfl, ha, rx⟩ := rp_lst r
    cases r1
    rw [ints_rp rx] at ha
    exact ⟨a, ns, d, rfl, rfl, .inl (.inl (s3 _ _ ha)), q _ H3 (s2.trans s3) (.int _)⟩
theorem e_max2 {i j : Int} (ha : EvD ta σ F (.int i)) (hb : EvD tb σ F (.int j)) : EvD (tCB (fun xs H Q => ∃ i j, xs = [.int i, .int j] ∧ Q (.int (if j > i then j else i)) H) (tCons ta (tCons tb tNil))) σ F (.int (max i j)) := e_cb (a_cons ha (a_cons hb a_nil)) fun S H vs f r Q q => by
  obtain ⟨v, w, rfl, r1, r2⟩ := rpa2 r
  cases r1
  cases r2
  refine ⟨i, j, rfl, q _ H (Same.refl _) ?_⟩
  have e : (if j > i then j else i) = max i j := by
    rw [Int.max_def]
    split <;> split <;> omega
  rw [e]
  exact .int _
end
end Ca

set_option maxHeartbeats 400000
namespace Q
open PySem PySem.Spec PyProof.Rows L2 Ca
/-! ### check_table -/
structure IsC (K : PySem.W.Frag) (C : Addr) : Prop where
  ha : PySem.W.findIn K (.ref C) "__class__" = some (some (.builtin "object.__class__"))
  hn : PySem.W.specialIn K (.builtin "object.__class__") "__get__" = some (some (.builtin "getset_descriptor.__get__"))
  htk : PySem.W.takesIn K (.builtin "object.__class__") = some true
  hm : PySem.W.mroIn K C (.type "object") = some true
  kit : PySem.W.kitOne K (.ref C) (.ref C) = some true
  kd : ∀ T ∈ tyN, PySem.W.kitOne K (.type T) (.ref C) = some false
/-- a value that is no table -/
def OddV (F : Hp) (v : V) : Prop := (∃ d, Rp F v d) ∨ ∃ a xs, v = .ref a ∧ F a = some (.lst xs)
theorem OddV.mono {F F' : Hp} {v : V} (s : Same F F') (h : OddV F v) : OddV F' v := by
  rcases h with ⟨d, r⟩ | ⟨a, xs, e, h⟩
  · exact .inl ⟨d, r.mono s⟩
  · exact .inr ⟨a, xs, e, s _ _ h⟩
theorem mon_odd : Mon OddV := fun _ _ _ s h => h.mono s
theorem tyD_in (d : PyData) : tyD d ∈ tyN := by
  cases d <;> simp [tyD, tyN]
theorem OddV.ty {K : PySem.W.Frag} {F : Hp} {v : V} (h : OddV F v) : ∃ T ∈ tyN, TyX K F v (.type T) := by
  rcases h with ⟨d, r⟩ | ⟨a, xs, e, h⟩
  · exact ⟨tyD d, tyD_in d, r.ty⟩
  · subst e
    exact ⟨"list", by simp [tyN], .base (.lst h)⟩
theorem TV.ty {K : PySem.W.Frag} {C : Addr} {ks : List Ro} {F : Hp} {v : V} (cl : Cls K C) (ic : IsC K C) (h : TV C ks F v) : TyX K F v (.ref C) := by
  obtain ⟨x, dx, o, rfl, hx, _⟩ := h
  exact .base (.ins hx cl ic.ha ic.hn ic.htk ic.hm)
theorem e_isiC {K : PySem.W.Frag} {σ : L2.St} {F : Hp} {ta te : TE} {C : Addr} {P0 : Hp → V → Prop} {b : Bool} (cl : Cls K C) (ic : IsC K C) (h : EvP ta σ F P0) (hp : ∀ F v, P0 F v → (b = true ∧ ∃ ks, TV C ks F v) ∨ (b = false ∧ OddV F v)) (hc : EvP te σ F fun _ v => v = .ref C) (m : Mon P0) :
    EvD (tCB (rIsi K) (tCons ta (tCons te tNil))) σ F (.bool b) := fun S H1 f s Q q =>
  h S H1 f s _ fun v H2 s2 p => hc S H2 (f.mono s2) (s.trans (offS_mono s2)) _ fun w H3 s3 ew => by
    subst ew
    rcases hp _ _ (m _ _ _ (offS_mono s3) p) with ⟨rfl, ks, tv⟩ | ⟨rfl, od⟩
    · exact ⟨_, _, _, _, true, rfl, .own C, (tv.mono offS_same).ty cl ic, ic.kit, q _ H3 (s2.trans s3) (.bl _)⟩
    · obtain ⟨T, hT, ty⟩ := (od.mono offS_same).ty
      exact ⟨_, _, _, _, false, rfl, .own C, ty, ic.kd T hT, q _ H3 (s2.trans s3) (.bl _)⟩
abbrev s_ck : Stmt := top 30
theorem sc_ck : FnScope ["thing"] ["thing"] (defScope s_ck) := ⟨rfl, rfl, rfl, by decide +kernel, rfl, by decide +kernel, by decide +kernel⟩
def spCk (C NT : Addr) : Sp := fun vs H Q E => ∃ (S : Addr → Bool) (v : V) (b : Bool), vs = [v] ∧ Fr S H ∧ ((b = true ∧ ∃ ks, TV C ks (offS S H) v) ∨ (b = false ∧ OddV (offS S H) v)) ∧ (b = false → ∀ H', Same H H' → E (.ref NT) none H') ∧ (b = true → ∀ H', Same H H' → Q .non H')
/-! ### greatest_value, shifted_rows -/
abbrev s_gv : Stmt := top 25
abbrev nGv : List PySem.Str := ["rows", "kind", "left", "right", "often"]
theorem sc_gv : FnScope nGv ["rows"] (defScope s_gv) := ⟨rfl, rfl, rfl, by decide +kernel, rfl, by decide +kernel, by decide +kernel⟩
def gv (ks : List Ro) : Int := gmax (-1) (ks.map fun a => max a.l a.r)
def RGv : List PyData → PyData → Prop := fun ds d => ∃ ks : List Ro, ds = [.tuple (ks.map roD)] ∧ ks.length ≤ 1000 ∧ d = .int (gv ks)
abbrev s_sh : Stmt := top 27
abbrev nSh : List PySem.Str := ["rows", "step", "kind", "left", "right", "often"]
theorem sc_sh : FnScope nSh ["rows", "step"] (defScope s_sh) := ⟨rfl, rfl, rfl, by decide +kernel, rfl, by decide +kernel, by decide +kernel⟩
def shR (st : Int) (a : Ro) : Ro := ⟨a.k, a.l + st, a.r + st, a.n⟩
def RSh : List PyData → PyData → Prop := fun ds d => ∃ (ks : List Ro) (st : Int), ds = [.tuple (ks.map roD), .int st] ∧ ks.length ≤ 1000 ∧ d = .list ((ks.map (shR st)).map roD)
section
variable {P : Program} {w : World} {K : PySem.W.Frag} {mg : PySem.Str → Option Value} {base : Heap}
theorem ok_ck {f C N NT : Addr} {fd : FuncData} (F : FnP K "check_table" s_ck f fd) (T : Tx K mg) (TQ : TT K mg C N) (ic : IsC K C) (gC : mg "Table" = some (.ref C)) (XN : XT K mg "NoTable" NT) : FnOk P w K mg base (L2.CX P w) 1 f fd ["thing"] (spCk C NT) := by
  refine F.ok sc_ck (fun vs H Q E h => ?_) (fun cdv A outer s H vs Q E hr h => ?_)
  · obtain ⟨S, v, b, rfl, _⟩ := h
    rfl
  obtain ⟨S, v, b, rfl, fr, hv, kE, kQ⟩ := h
  refine ⟨_, pss_one (ps_if (pt_not (pt_val (pe_callB (call_isi : CallR _ _ (rIsi K)) (by rfl) T.isi bIsi (pa_cons (pv 0) (pa_cons (pe_glob (v := .ref C) rfl gC rfl) pa_nil)))))
      (pss_one (ps_raise rfl (takes_of rfl rfl rfl rfl) (pmk_own PySem.F.excBase_ValueError XN.xN XN.gN XN.kN (raises_own XN.bN XN.tN) rfl))) pss_nil), ?_⟩
  have mo : Mon (fun F v => (b = true ∧ ∃ ks, TV C ks F v) ∨ (b = false ∧ OddV F v)) := fun F F' v s h => by
    rcases h with ⟨e, ks, h⟩ | ⟨e, h⟩
    · exact .inl ⟨e, ks, h.mono s⟩
    · exact .inr ⟨e, h.mono s⟩
  refine go_if (b := !b) fr (b_not (b_val (e_isiC (K := K) (P0 := fun F v => (b = true ∧ ∃ ks, TV C ks F v) ∨ (b = false ∧ OddV F v)) TQ.cl ic (e_varP rfl fun _ sm => mo _ _ _ sm hv) (fun _ _ h => h) (fun S H1 f s Q q => q _ H1 (Same.refl _) rfl) mo))) (fun z H1 s1 f1 => kE (by simpa using z) H1 s1) fun z H1 s1 fr1 => kQ (by simpa using z) H1 s1
theorem ok_gv {f : Addr} {fd : FuncData} (F : FnP K "greatest_value" s_gv f fd) (T : Tx K mg) : FnOk P w K mg base CX0 1 f fd ["rows"] (spR RGv) := by
  refine F.ok sc_gv (spR_len (by rintro _ _ ⟨ks, rfl, _⟩; rfl)) (fun cdv A outer s H vs Q E hr h => ?_)
  obtain ⟨S, ds, d, fr, rA, ⟨ks, rfl, hz, rfl⟩, q⟩ := h
  obtain ⟨v0, rfl, r0⟩ := rpa1 rA
  refine ⟨_, PSs.nox (pss_one (ps_ret (pe_callBK (cr_maxDf rfl hr : CallRK _ _ _ (rMaxDf K)) (by rfl) T.max bMax (pa_cons (pe_lc (own := [("kind", 1), ("left", 2), ("right", 3), ("often", 4)]) (g := gTup K 4 (gCons (gName 1) (gCons (gName 2) (gCons (gName 3) (gCons (gName 4) gNil))))) rfl sc_gv.nd (pi_tupQ (K := K) rfl (pv 0))
    (blkOk_by (own := [("kind", 1), ("left", 2), ("right", 3), ("often", 4)]) (N := nGv) (sc := defScope s_gv) (by decide +kernel))
    (fun _ _ _ _ _ => pg_tup (by rfl) (pgs_cons (pg_name (i := 1) sc_gv.nd rfl (Or.inl rfl)) (pgs_cons (pg_name (i := 2) sc_gv.nd rfl (Or.inl rfl)) (pgs_cons (pg_name (i := 3) sc_gv.nd rfl (Or.inl rfl)) (pgs_cons (pg_name (i := 4) sc_gv.nd rfl (Or.inl rfl)) pgs_nil))))) (fun _ _ _ _ _ => pts_nil)
    (fun _ _ _ _ _ => pe_callB (call_max2 rfl) (by rfl) T.max bMax (pa_cons (pv 2) (pa_cons (pv 3) pa_nil)))) pa_nil) (pk_cons (pe_un un_neg pe_int) pk_nil)))), ?_⟩
  exact go_ret (P := fun H v => Rp H v (.int (gv ks))) fr (e_maxDf (ns := ks.map fun a => max a.l a.r) (eqD (e_lcT (K := K) (enc := roD) (b := fun _ => true) (ev := fun a => .int (max a.l a.r)) (e_var rfl r0) (by omega) fun a ha x F2 sF r => g_tup4 r fun v1 v2 v3 v4 q1 q2 q3 q4 => ⟨rfl, b_yes, fun _ => e_max2 (e_var rfl q2) (e_var rfl q3)⟩) (by rw [filter_yes, List.map_map]; rfl)) (e_neg e_int)) q
theorem ok_sh {f : Addr} {fd : FuncData} (F : FnP K "shifted_rows" s_sh f fd) (T : Tx K mg) : FnOk P w K mg base CX0 1 f fd ["rows", "step"] (spR RSh) := by
  refine F.ok sc_sh (spR_len (by rintro _ _ ⟨ks, st, rfl, _⟩; rfl)) (fun cdv A outer s H vs Q E hr h => ?_)
  obtain ⟨S, ds, d, fr, rA, ⟨ks, st, rfl, hz, rfl⟩, q⟩ := h
  obtain ⟨v0, v1, rfl, r0, r1⟩ := rpa2 rA
  refine ⟨_, PSs.nox (pss_one (ps_ret (pe_lc (own := [("kind", 2), ("left", 3), ("right", 4), ("often", 5)]) (g := gTup K 4 (gCons (gName 2) (gCons (gName 3) (gCons (gName 4) (gCons (gName 5) gNil))))) rfl sc_sh.nd (pi_tupQ (K := K) rfl (pv 0))
    (blkOk_by (own := [("kind", 2), ("left", 3), ("right", 4), ("often", 5)]) (N := nSh) (sc := defScope s_sh) (by decide +kernel))
    (fun _ _ _ _ _ => pg_tup (by rfl) (pgs_cons (pg_name (i := 2) sc_sh.nd rfl (Or.inl rfl)) (pgs_cons (pg_name (i := 3) sc_sh.nd rfl (Or.inl rfl)) (pgs_cons (pg_name (i := 4) sc_sh.nd rfl (Or.inl rfl)) (pgs_cons (pg_name (i := 5) sc_sh.nd rfl (Or.inl rfl)) pgs_nil))))) (fun _ _ _ _ _ => pts_nil)
    (fun _ _ _ _ _ => pe_tup (pa_cons (pv 2) (pa_cons (pe_op op_add (pv 3) (pv 1)) (pa_cons (pe_op op_add (pv 4) (pv 1)) (pa_cons (pv 5) pa_nil)))))))), ?_⟩
  exact go_ret (P := fun H v => Rp H v (.list ((ks.map (shR st)).map roD))) fr (eqD (e_lcT (K := K) (enc := roD) (b := fun _ => true) (ev := fun a => roD (shR st a)) (e_var rfl r0) (by omega) fun a ha x F2 sF r => g_tup4 r fun w1 w2 w3 w4 q1 q2 q3 q4 => ⟨rfl, b_yes, fun _ => e_tup (a_cons (e_var rfl q1) (a_cons (e_add (e_var rfl q2) (e_var rfl (r1.mono sF))) (a_cons (e_add (e_var rfl q3) (e_var rfl (r1.mono sF))) (a_cons (e_var rfl q4) a_nil))))⟩) (by rw [filter_yes, List.map_map]; rfl)) q
end
end Q

set_option maxHeartbeats 1000000
namespace Ca
open PySem PySem.Spec PyProof.Rows L2
/-! x in y, x not in y: y a list or a tuple of data -/
def rMem (K : PySem.W.Frag) (neg : Bool) : R2 := fun x y H Q => ∃ d ds, Dp K H x d ∧ (Dp K H y (.list ds) ∨ Dp K H y (.tuple ds)) ∧ SeqAt.shaped d = true ∧ SeqAt.shaped (.list ds) = true ∧ Q (.bl ((ds.any fun z => PyData.eqv z d) != neg)) H
theorem op_mem {X : Cx} (hu : X.A.units + 65 < cLine) : OpR X (compareOp .In) (rMem X.K false) := fun _ _ _ H x y v u _ inv rx ry ⟨e, es, he, hes, shE, shS, go⟩ => by
  obtain ⟨_, readE⟩ := Dp.reads inv e x v he rx
  have layE := SeqAt.canLay_of_shaped shE
  have layS := SeqAt.canLay_of_shaped shS
  rw [Bool.bne_false] at go
  cases hes with
  | inl hes =>
    obtain ⟨_, readS⟩ := Dp.reads inv (.list es) y u hes ry
    exact SeqAt.in_list_reads readS readE layS layE (room_in_shaped shE hu) ⟨.bl _, H, inv, rfl, go⟩
  | inr hes =>
    obtain ⟨_, readS⟩ := Dp.reads inv (.tuple es) y u hes ry
    exact SeqAt.in_tuple_reads readS readE layS layE (room_in_shaped shE hu) ⟨.bl _, H, inv, rfl, go⟩
theorem op_nmem {X : Cx} (hu : X.A.units + 65 < cLine) : OpR X (compareOp .NotIn) (rMem X.K true) := fun _ _ _ H x y v u _ inv rx ry ⟨e, es, he, hes, shE, shS, go⟩ => by
  obtain ⟨_, readE⟩ := Dp.reads inv e x v he rx
  have layE := SeqAt.canLay_of_shaped shE
  have layS := SeqAt.canLay_of_shaped shS
  rw [Bool.bne_true] at go
  cases hes with
  | inl hes =>
    obtain ⟨_, readS⟩ := Dp.reads inv (.list es) y u hes ry
    exact SeqAt.notIn_list_reads readS readE layS layE (room_in_shaped shE hu) ⟨.bl _, H, inv, rfl, go⟩
  | inr hes =>
    obtain ⟨_, readS⟩ := Dp.reads inv (.tuple es) y u hes ry
    exact SeqAt.notIn_tuple_reads readS readE layS layE (room_in_shaped shE hu) ⟨.bl _, H, inv, rfl, go⟩
section
variable {K : PySem.W.Frag} {σ : L2.St} {F : Hp} {ta tb : TE} {d : PyData} {ds : List PyData} {neg : Bool}
theorem e_memL (ha : EvD ta σ F d) (hb : EvD tb σ F (.list ds)) (h1 : eqOk d = true) (h2 : eqOk (.list ds) = true) : EvD (tOp (rMem K neg) ta tb) σ F (.bool ((ds.any fun z => PyData.eqv z d) != neg)) := e_op ha hb fun S H x y f rx ry Q q => by
  unfold eqOk at h1 h2
  rw [Bool.and_eq_true] at h1 h2
  exact ⟨d, ds, Rp.dp h1.1 (rx.mono offS_same), .inl (Rp.dp h2.1 (ry.mono offS_same)), h1.2, h2.2, q _ H (Same.refl _) (.bl _)⟩
theorem e_memT (ha : EvD ta σ F d) (hb : EvD tb σ F (.tuple ds)) (h1 : eqOk d = true) (h2 : eqOk (.list ds) = true) : EvD (tOp (rMem K neg) ta tb) σ F (.bool ((ds.any fun z => PyData.eqv z d) != neg)) := e_op ha hb fun S H x y f rx ry Q q => by
  unfold eqOk at h1 h2
  rw [Bool.and_eq_true] at h1 h2
  exact ⟨d, ds, Rp.dp h1.1 (rx.mono offS_same), .inr (Rp.dp (by simpa [nd] using h2.1) (ry.mono offS_same)), h1.2, h2.2, q _ H (Same.refl _) (.bl _)⟩
end
end Ca

set_option maxHeartbeats 1000000
namespace Q
open PySem PySem.Spec PyProof.Rows L2 Ca
/-! ### keys of rows, their count -/
structure At where
  k : PySem.Str
  l : Int
  r : Int
deriving DecidableEq
def atD (a : At) : PyData := .tuple [.str a.k, .int a.l, .int a.r]
theorem room66 {k : Nat} {A : Around} (r : Room k A) : A.units + 65 < cLine := by
  have := r.un
  omega
theorem at_eqvC (a b : At) : PyData.eqv (atD a) (atD b) = decide (a = b) := by
  rw [Bool.eq_iff_iff, decide_eq_true_eq]
  unfold atD
  constructor
  · intro h
    simp [PyData.eqv, PyData.eqvAll] at h
    cases a
    cases b
    simp_all
  · intro h
    subst h
    simp [PyData.eqv, PyData.eqvAll]
theorem at_plain (a : At) : (atD a).plain = true := by simp [atD, PyData.plain, PyData.plainAll]
theorem ats_plain : ∀ as : List At, PyData.plainAll (as.map atD) = true
  | [] => by simp [PyData.plainAll]
  | a :: as => by simp [PyData.plainAll, at_plain a, ats_plain as]
theorem at_depth (a : At) : (atD a).depth ≤ 2 := by simp [atD, PyData.depth, PyData.depthAll]
def rCntD : V → List V → Hp → VK → Prop := fun x xs H Q => ∃ (p : Addr) (ys : List V) (ds : List PyData) (v : V) (d : PyData), x = .ref p ∧ xs = [v] ∧ H p = some (.lst ys) ∧ RpA H ys ds ∧ Rp H v d ∧ PyData.plainAll ds = true ∧ d.plain = true ∧ d.depth ≤ 60 ∧
  Q (.int ((ds.countP fun y => PyData.eqv y d : Nat) : Int)) H
theorem mt_cntD {X : Cx} {k : Nat} (sm : ∃ o, X.K.lookup sysModules = some o) (hr : Room k X.A) : MtR X "list.count" rCntD := by
  intro pins s σ H x xs v us Q I ex exs h
  obtain ⟨p, ys, ds, w, d, rfl, rfl, hp, ry, rd, h1, h2, h3, q⟩ := h
  cases ex
  obtain ⟨u, rfl, ru⟩ := exs.one
  have hu : X.A.units + 64 < cLine := hr.units
  obtain ⟨its, rv, pl, _⟩ := I.list (.inl (.inl hp))
  obtain ⟨as, rs, _⟩ := Rp.readsA I sm ds ys its ry rv
  obtain ⟨bs, r2, _⟩ := Rp.reads I sm d w u rd ru
  refine SeqAt.count_list_data (vs := its.toArray) (xs := ds) (d := d) pl.isList (by simpa using rs) r2 h1 h2 (by omega) ?_
  exact ⟨.int ((ds.countP fun y => PyData.eqv y d : Nat) : Int), H, I.tok _, ⟨s.toks, rfl⟩, q⟩
theorem pe_cntQ {X : Cx} {K : PySem.W.Frag} {o e : Expr} {to te : TE} {apos cpos : Pos} {k : Nat} (hK : X.K = K) (sm : ∃ o, K.lookup sysModules = some o) (hr : Room k X.A) (ho : PE X o to) (he : PE X e te) (hbase : attributeBase o "count" X.env (eval o X.env) = eval o X.env := by rfl)
    (hfew : ((backTo cpos (starEach [e] X.env)).all (fun x => !x.1) && (backToKw cpos (keywordEach [] X.env)).all (fun x => x.1.isSome)
      && decide (([e] : List Expr).length + ([] : List Keyword).length + (if ([] : List Keyword).isEmpty then 0 else 1) < 30)) = true := by rfl)
    (hline : (apos.endLine == cpos.line) = true := by rfl) (hs : starEach [e] X.env = (false, eval e X.env) :: starEach [] X.env := by rfl) (hplain : (backTo cpos (starEach [] X.env)).any (·.1) = false := by rfl) :
    PE X (.Call (.Attribute o "count" apos) [e] [] cpos) (tBM K "list" rCntD to (tCons te tNil)) := by
  subst hK
  exact pe_bm PySem.F.plainAttrs_list PySem.F.slot_list_count PySem.F.type_list_count (mt_cntD sm hr) ho (pa_cons he pa_nil hs) hbase hfew hline hs hplain
theorem e_cnt {K : PySem.W.Frag} {σ : L2.St} {F : Hp} {tl tx : TE} {as : List At} {a : At} (hl : EvD tl σ F (.list (as.map atD))) (hx : EvD tx σ F (atD a)) : EvD (tBM K "list" rCntD tl (tCons tx tNil)) σ F (.int ((as.count a : Nat) : Int)) := fun S H1 f s Q q =>
  hl S H1 f s _ fun v H2 s2 r2 => by
    obtain ⟨p, xs, rfl, h1, r1⟩ := rp_lst r2
    refine ⟨.inl ⟨rfl, _, .inl (.inl h1)⟩, hx S H2 (f.mono s2) (s.trans (offS_mono s2)) _ fun w H3 s3 r3 => ?_⟩
    refine ⟨p, xs, _, w, atD a, rfl, rfl, s3 _ _ h1, (r1.mono (offS_mono s3)).mono offS_same, r3.mono offS_same, ats_plain as, at_plain a, Nat.le_trans (at_depth a) (by decide), ?_⟩
    have e : (as.map atD).countP (fun y => PyData.eqv y (atD a)) = as.count a := by
      rw [List.countP_map]
      exact List.countP_congr fun b _ => by rw [Function.comp, at_eqvC]; simp
    rw [e]
    exact q _ H3 (s2.trans s3) (.int _)
end Q

set_option maxHeartbeats 400000
namespace Ca
open PySem PySem.Spec PyProof.Rows L2
/-! own ==, and the != that a class has from object: x an instance whose class has __eq__ as a def, y another one or data -/
structure OwnCmp (K : PySem.W.Frag) (C f : Addr) : Prop where
  has : PySem.W.findIn K (.ref C) "__eq__" = some (some (.ref f))
  fn : PySem.W.isFn K (.ref f) = true
  ne : PySem.W.findIn K (.ref C) "__ne__" = some (some (.builtin "object.__ne__"))
  obj : PySem.W.mroIn K C (.type "object") = some true
  other : ∀ T ∈ tyN, PySem.W.subIn K (.type T) (.ref C) = some false
theorem ne_bind (v : Value) : bindSpecial (.builtin "object.__ne__") v = pure (.builtin "object.__ne__", [v]) := Slot.bind (T := "object") (name := "__ne__") (Slot.of (owner := "object") (n := "__ne__")
  (by rw [typeLookup_type, builtinLookup_eq_fast]; kernel_rfl) (by decide +kernel) (by decide +kernel) (by decide +kernel) (.inl (by decide +kernel)) (by rw [isSubtype_type]; kernel_rfl)) v
theorem ne_plain : plainId "object.__ne__" = true := by decide +kernel
open PySem.W in
theorem bound_bi {M : Model} {A : Around} {E : Value → Shared → Prop} {s : Shared} {K : PySem.W.Frag} {x C : Addr} {ox : Obj} {od : Option Obj} {nm : PySem.Str} {id : String} {args : List Value} {Q : Option Value → Shared → Prop} (kin : K.In s.heap) (J : InstAt s.heap x ox C od)
    (hs : findIn K (.ref C) nm = some (some (.builtin id))) (hb : ∀ v, bindSpecial (.builtin id) v = pure (.builtin id, [v])) (h : wpAny M A (call (.builtin id) (.ref x :: args)) (fun v => Q (some v)) E s) : wpAny M A (callSpecialIfBound? (.ref x) nm args) Q E s := by
  have z : wpAny M A (call (.builtin id) ([.ref x] ++ args) >>= fun v => pure (some v)) Q E s := wpAny_bind (wpAny_mono h (fun v s' y => wpAny_pure y) fun _ _ y => y)
  simp only [callSpecialIfBound?, bindSpecialIfBound?, hb]
  refine wpAny_holding (wpAny_bind (wpAny_bind (wpAny_bind (J.type.here ((looks_findIn kin hs).here (wpAny_bind (wpAny_askSetting (wpAny_ite ?_))))))))
  simp only [hb]
  split
  · exact wpAny_bind (wpAny_pure (wpAny_pure z))
  · exact wpAny_tryCatch (wpAny_bind (wpAny_pure (wpAny_pure z)))
open PySem.W in
theorem own_ne {P : Program} {w : World} {A : Around} {E : Value → Shared → Prop} {s : Shared} {K : PySem.W.Frag} {x C f : Addr} {ox : Obj} {od : Option Obj} {b t : Value} {Q : Value → Shared → Prop} (hu : A.units + 1 < cLine) (kin : K.In s.heap) (J : InstAt s.heap x ox C od) (o : OwnCmp K C f)
    (lb : Looks (model P w) s.heap (typeOf b) t) (hn : notFirst K C t = true) (go : wpAny (model P w) A.in1 (call (.ref f) [.ref x, b]) (fun v s' => ∃ c, v = .bool c ∧ Q (.bool (!c)) s') E s) : wpAny (model P w) A (richCompare .NotEq (.ref x) b) Q E s := by
  have isO : Looks (model P w) s.heap (isInstance (.ref x) (.type "object")) true := J.type.andThen (looks_subIn kin (show subIn K (.ref C) (.type "object") = some true from o.obj))
  have one : wpAny (model P w) A (tryCompare (.ref x) "__ne__" b) (fun r s' => ∃ v, r = some v ∧ Q v s') E s := by
    unfold tryCompare
    refine wpAny_bind (bound_bi kin J o.ne ne_bind (wpAny_call (codeAny_call_builtin ne_plain PySem.F.cmpEntry_ne (check_slot PySem.F.cmpKind_ne PySem.F.cmpSplit_ne isO (PySem.F.cmpArgs_ne _ _) ?_))))
    unfold Builtin.«object.__ne__»
    repeat (first
      | with_reducible refine wpAny_cRoomFor hu ?_
      | (refine wpAny_bind (m := callSpecialIfBound? (.ref x) (PySem.Str.ofString "__eq__") [b]) (ifBound_K kin J o.has o.fn (wpAny_mono go (fun r s' hr => ?_) fun _ _ e => e)))
      | wp_step)
    obtain ⟨c, rfl, hq⟩ := hr
    refine wpAny_bind (m := truthy (.bool c)) (wpAny_truthy_bool ?_)
    exact wpAny_pure (show wpAny (model P w) A (pure (some (Value.bool !c))) (fun r s' => ∃ v, r = some v ∧ Q v s') E s' from wpAny_pure ⟨_, rfl, hq⟩)
  unfold richCompare
  simp only [oneThing_ref]
  refine wpAny_holding (wpAny_bind (wpAny_cRoomFor (Nat.lt_of_succ_lt hu) (wpAny_bind (J.type.here (wpAny_bind (lb.here ?_))))))
  have last : ∀ {k : Option Value → Sem Value}, (∀ v, k (some v) = pure v) → wpAny (model P w) A (tryCompare (.ref x) (cmpInfo .NotEq).2.1 b >>= k) Q E s := fun {k} hk => wpAny_bind (wpAny_mono one (fun r s' ⟨v, e, q⟩ => by rw [e, hk]; exact wpAny_pure q) fun _ _ y => y)
  split
  · rename_i ne
    have e : subIn K t (.ref C) = some false := by
      rcases Bool.or_eq_true_iff.mp hn with e | e
      · rw [beq_iff_eq.mp e] at ne
        simp at ne
      · exact beq_iff_eq.mp e
    refine wpAny_bind ((looks_subIn kin e).here ?_)
    simp only [Bool.false_eq_true, if_false]
    exact last fun v => rfl
  · refine wpAny_bind (wpAny_pure ?_)
    simp only [Bool.false_eq_true, if_false]
    exact last fun v => rfl
/-- x == y, x != y -/
def rCmpO (K : PySem.W.Frag) (C : Addr) (sp : Sp) (E : XK) (ne : Bool) : R2 := fun x y H Q => ∃ a dx fs t, x = .ref a ∧ H a = some (.ins C dx fs) ∧ TyX K H y t ∧ (t = .ref C ∨ ∃ T ∈ tyN, t = .type T) ∧ sp [x, y] H (fun v H' => ∃ c, v = .bl c ∧ Q (.bl (c != ne)) H') E
section
variable {X : Cx} {CX : CXT} {k : Nat} {f C : Addr} {fd : FuncData} {ps : List PySem.Str} {sp : Sp} {E : XK}
theorem not_first {K : PySem.W.Frag} {t : Value} (o : OwnCmp K C f) (h : t = .ref C ∨ ∃ T ∈ tyN, t = .type T) : PySem.W.notFirst K C t = true := by
  unfold PySem.W.notFirst
  rcases h with e | ⟨T, hT, e⟩
  · rw [e]
    simp
  · rw [e, o.other T hT]
    simp
theorem op_eqO (o : OwnCmp X.K C f) (F : FnOk X.prog X.w X.K X.mg X.base CX k f fd ps sp) (hb : Binds X.K fd ps []) (hr : Room k X.A) (hx : Passes CX X E) : OpR X (compareOp .Eq) (rCmpO X.K C sp E false) := by
  intro pins s σ H x y v u Q I rx ry h
  obtain ⟨a, dx, fs, t, rfl, ha, ty, ht, q⟩ := h
  cases (show v = Value.ref a from rx)
  obtain ⟨mA, O, _⟩ := ins_get I.hok ha
  obtain ⟨od, J, _⟩ := O.look
  obtain ⟨m, fr⟩ := I.fr
  obtain ⟨P, Z, p, _⟩ := kit_of I ry ty
  have lk := Z.ty (model X.prog X.w) s.heap I.kIn p
  refine PySem.W.cmp_K (op := .Eq) hr.units0 fr I.ok.mod.kin J lk (not_first o ht) o.has o.fn ?_
  refine wpAny_mono (run_fnS (E := fun _ => E) F hr hb (fun pins H s e s' I c => hx pins σ H s e s' I c) I (.cons rx (.cons ry .nil)) q) (fun r s' z => ?_) fun _ _ z => z
  obtain ⟨vv, H', J', rv, c, rfl, q'⟩ := z
  cases (show r = _ from rv)
  refine ⟨.bl c, H', J', rfl, ?_⟩
  rw [Bool.bne_false] at q'
  exact q'
theorem op_neO (o : OwnCmp X.K C f) (F : FnOk X.prog X.w X.K X.mg X.base CX0 k f fd ps sp) (hb : Binds X.K fd ps []) (hr : Room (k + 1) X.A) : OpR X (compareOp .NotEq) (rCmpO X.K C sp E0 true) := by
  intro pins s σ H x y v u Q I rx ry h
  obtain ⟨a, dx, fs, t, rfl, ha, ty, ht, q⟩ := h
  cases (show v = Value.ref a from rx)
  obtain ⟨mA, O, _⟩ := ins_get I.hok ha
  obtain ⟨od, J, _⟩ := O.look
  obtain ⟨P, Z, p, _⟩ := kit_of I ry ty
  have lk := Z.ty (model X.prog X.w) s.heap I.kIn p
  have r2 : Vals [.ref a, y] [.ref a, u] := .cons rx (.cons ry .nil)
  have hl : [Value.ref a, u].length = ps.length := by
    rw [← r2.length]
    exact F.len _ _ _ _ q
  refine own_ne (by have := hr.units; omega) I.kIn J o lk (not_first o ht) (wpAny_call (codeAny_mono (F.run X.A.in1 X.stack s H ⟨[.ref a, u], []⟩ [.ref a, u] [.ref a, y] _ E0 hr.in1 I.env0.in1 (hb s [.ref a, u] I.kIn (by rw [List.append_nil]; exact hl)) r2 q) fun r s' hq => ?_))
  cases r with
  | error e => exact False.elim hq
  | ok fl =>
    cases fl with
    | ret r =>
      obtain ⟨vv, H', J', rv, c, rfl, q'⟩ := I.after hq
      cases (show r = _ from rv)
      refine ⟨c, rfl, .bl (!c), H', J'.tok _, rfl, ?_⟩
      rw [Bool.bne_true] at q'
      exact q'
    | _ => exact False.elim hq
end
end Ca

set_option maxHeartbeats 1000000
namespace Ca
open PySem PySem.Spec PyProof.Rows L2
theorem b_eq {σ : L2.St} {F : Hp} {tt : L2.TT} {a b : Bool} (h : EvB tt σ F a) (e : a = b) : EvB tt σ F b := e ▸ h
theorem b_orT {σ : L2.St} {F : Hp} {ta tb : L2.TT} (h : EvB ta σ F true) : EvB (tOr ta tb) σ F true := b_or (b := true) h fun z => by cases z
theorem e_chainI {σ : L2.St} {F : Hp} {ta tb tc : TE} {r r' : R2} {i j k : Int} {a b : Bool} (ha : EvD ta σ F (.int i)) (hb : EvD tb σ F (.int j)) (hc : EvD tc σ F (.int k)) (h1 : ∀ H (Q : VK), Q (.bl a) H → r (.int i) (.int j) H Q) (h2 : ∀ H (Q : VK), Q (.bl b) H → r' (.int j) (.int k) H Q) :
    EvD (tChain r r' ta tb tc) σ F (.bool (a && b)) := fun S H1 f s Q q => ha S H1 f s _ fun v H2 s2 r2 => hb S H2 (f.mono s2) (s.trans (offS_mono s2)) _ fun w H3 s3 r3 => by
  cases r2
  cases r3
  refine h1 _ _ ⟨a, rfl, ?_⟩
  cases a with
  | false =>
    exact q _ H3 (s2.trans s3) (.bl _)
  | true =>
    exact hc S H3 ((f.mono s2).mono s3) ((s.trans (offS_mono s2)).trans (offS_mono s3)) _ fun x H4 s4 r4 => by
      cases r4
      exact h2 _ _ (q _ H4 ((s2.trans s3).trans s4) (.bl _))
theorem e_notInD {K : PySem.W.Frag} {σ : L2.St} {F : Hp} {ta tb : TE} {d : PyData} {ds : List PyData} (ha : EvD ta σ F d) (hb : EvD tb σ F (.list ds)) (h1 : eqOk d = true) (h2 : eqOk (.list ds) = true) : EvD (tOp (rNotInD K) ta tb) σ F (.bool (!ds.any fun z => PyData.eqv z d)) := e_op ha hb fun S H x y f rx ry Q q => by
  unfold eqOk at h1 h2
  rw [Bool.and_eq_true] at h1 h2
  exact ⟨d, ds, Rp.dp h1.1 (rx.mono offS_same), Rp.dp h2.1 (ry.mono offS_same), h1.2, h2.2, q _ H (Same.refl _) (.bl _)⟩
theorem e_isiK {K : PySem.W.Frag} {σ : L2.St} {F : Hp} {ta : TE} {d : PyData} {n : String} {b : Bool} (k : ∀ _ : Unit, PySem.W.kitOne K (.type (tyD d)) (.type n) = some b) (h : EvD ta σ F d) : EvD (tCB (rIsi K) (tCons ta (tCons (tC (.ty n)) tNil))) σ F (.bool b) := fun S H1 f s Q q => h S H1 f s _ fun v H2 s2 r =>
  ⟨_, _, _, _, _, rfl, .ty _, (r.mono offS_same).ty, k (), q _ H2 s2 (.bl _)⟩
end Ca

set_option maxHeartbeats 4000000
namespace Q
open PySem PySem.Spec PyProof.Rows L2 Ca
/-! ### an integer that is no truth value -/
abbrev s_lwh : Stmt := top 40
abbrev n_lwh : List PySem.Str := ["_law_thing"]
theorem sc_lwh : FnScope n_lwh ["_law_thing"] (defScope s_lwh) := ⟨rfl, rfl, rfl, by decide +kernel, rfl, by decide +kernel, by decide +kernel⟩
def wholeD (d : PyData) : Bool := match d with
  | .int _ => true
  | _ => false
def RLwh : List PyData → PyData → Prop := fun ds d => ∃ e, ds = [e] ∧ d = .bool (wholeD e)
section
variable {P : Program} {w : World} {K : PySem.W.Frag} {mg : PySem.Str → Option Value} {base : Heap}
theorem ok_lwh {f : Addr} {fd : FuncData} (F : FnP K "_law_is_whole" s_lwh f fd) (T : Tx K mg) : FnOk P w K mg base CX0 1 f fd ["_law_thing"] (spR RLwh) := by
  refine F.ok sc_lwh (spR_len (by rintro _ _ ⟨x, rfl, _⟩; rfl)) (fun cdv A outer s H vs Q E hr h => ?_)
  obtain ⟨S, ds, d, fr, rA, ⟨e, rfl, rfl⟩, q⟩ := h
  obtain ⟨v0, rfl, r0⟩ := rpa1 rA
  refine ⟨_, PSs.nox (pss_one (ps_ret (pe_and (pe_callB (call_isi : CallR _ _ (rIsi K)) (by rfl) T.isi bIsi (pa_cons (pv 0) (pa_cons (pe_bltn (v := .ty "int") (by rfl) T.int bInt rfl) pa_nil))) (pe_one (pe_not (pe_callB (call_isi : CallR _ _ (rIsi K)) (by rfl) T.isi bIsi (pa_cons (pv 0) (pa_cons (pe_bltn (v := .ty "bool") (by rfl) T.bool bBool rfl) pa_nil)))))))), ?_⟩
  exact go_ret (P := fun H v => Rp H v (.bool (wholeD e))) fr (eqD (e_and (e_isiK (n := "int") (fun _ => kInt e) (e_var rfl r0)) fun _ => e_not (e_isiK (n := "bool") (fun _ => kBool e) (e_var rfl r0))) (by cases e <;> rfl)) q
end
end Q

set_option maxHeartbeats 4000000
namespace Q
open PySem PySem.Spec PyProof.Rows L2 Ca
/-! ### whether a value is a row -/
abbrev s_lil : Stmt := top 41
abbrev n_lil : List PySem.Str := ["_law_thing", "_law_part"]
theorem sc_lil : FnScope n_lil ["_law_thing"] (defScope s_lil) := ⟨rfl, rfl, rfl, by decide +kernel, rfl, by decide +kernel, by decide +kernel⟩
theorem room65 {k : Nat} {A : Around} (r : Room k A) : A.units + 65 < cLine := by
  have := r.un
  omega
abbrev abcD : List PyData := [.str "A", .str "B", .str "C"]
theorem in_abc {k : PyData} (h : (abcD.any fun z => PyData.eqv z k) = true) : ∃ s, k = .str s ∧ kindOk s = true := by
  cases k with
  | str s =>
    refine ⟨s, rfl, ?_⟩
    simp [PyData.eqv] at h
    rcases h with e | e | e <;> rw [← e] <;> decide +kernel
  | _ => simp [PyData.eqv] at h
theorem abc_in {s : PySem.Str} (h : kindOk s = true) : (abcD.any fun z => PyData.eqv z (.str s)) = true := by
  rcases kind_is h with e | e | e <;> subst e <;> simp [PyData.eqv]
/-- the first of four parts can be compared -/
def First (e : PyData) : Prop := ∀ k l r n, e = .tuple [k, l, r, n] → eqOk k = true
def RLil : List PyData → PyData → Prop := fun ds d => ∃ e, ds = [e] ∧ First e ∧ d = .bool (isRow e)
theorem whole_int {d : PyData} (h : wholeD d = true) : ∃ i, d = .int i := by
  cases d <;> first | exact ⟨_, rfl⟩ | cases h
section
variable {P : Program} {w : World} {K : PySem.W.Frag} {mg : PySem.Str → Option Value} {base : Heap}
theorem ok_lil {f : Addr} {fd : FuncData} (F : FnP K "_law_is_line" s_lil f fd) (T : Tx K mg) (D_lwh : Fd P w K mg base "_law_is_whole" 1 ["_law_thing"] (spR RLwh)) : FnOk P w K mg base CX0 2 f fd ["_law_thing"] (spR RLil) := by
  obtain ⟨f_lwh, fd_lwh, G_lwh, b_lwh, k_lwh, m_lwh⟩ := D_lwh.ex
  refine F.ok sc_lil (spR_len (by rintro _ _ ⟨x, rfl, _⟩; rfl)) (fun cdv A outer s H vs Q E hr h => ?_)
  obtain ⟨S, ds, d, fr, rA, ⟨e, rfl, he, rfl⟩, q⟩ := h
  obtain ⟨v0, rfl, r0⟩ := rpa1 rA
  refine ⟨_, PSs.nox (pss_cons (ps_if (PW.pt (pw_or (pt_not (pt_val (pe_callB (call_isi : CallR _ _ (rIsi K)) (by rfl) T.isi bIsi (pa_cons (pv 0) (pa_cons (pe_bltn (v := .ty "tuple") (by rfl) T.tup bTup rfl) pa_nil))))) (pw_or (pt_cmpR op_ne (pe_callB (call_lenQ : CallR _ _ (rLenQ K)) (by rfl) T.len bLen (pa_cons (pv 0) pa_nil)) pe_int (nomark _)) (pw_or1 (pt_cmpR (op_notInD (room65 hr) : OpR _ _ (rNotInD K)) (pe_ix (ix_tup : IxR _ (rIxT K)) (pv 0) pe_int (fun _ _ => rfl)) (pe_lst (pa_cons pe_str (pa_cons pe_str (pa_cons pe_str pa_nil)))) (by rfl)))))) (pss_one (ps_ret pe_bl)) pss_nil) (pss_cons (ps_if (pt_not (pt_val (pe_callB (cr_all rfl : CallR _ _ (rAll K)) (by rfl) T.all bAll (pa_cons (pe_lc (own := [("_law_part", 1)]) (g := gName 1) rfl sc_lil.nd (pi_tupQ (K := K) rfl (pe_slice (sl_tupA : SlR _ (rSlA K)) (pv 0) (po_some pe_int) po_none)) (blkOk_by (own := [("_law_part", 1)]) (N := n_lil) (sc := (defScope s_lil)) (by decide +kernel)) (fun _ _ _ _ _ => (pg_name (i := 1) sc_lil.nd rfl (Or.inl rfl))) (fun _ _ _ _ _ => pts_nil) (fun _ _ _ _ _ => (pe_call G_lwh (hr.mono (by decide)) rfl m_lwh k_lwh b_lwh .nil pass0 (pa_cons (pv 1) pa_nil)))) pa_nil)))) (pss_one (ps_ret pe_bl)) pss_nil) (pss_one (ps_ret (pe_and (pe_chain op_le op_le pe_int (pe_ix (ix_tup : IxR _ (rIxT K)) (pv 0) pe_int (fun _ _ => rfl)) pe_int) (pe_and (pe_chain op_le op_le pe_int (pe_ix (ix_tup : IxR _ (rIxT K)) (pv 0) pe_int (fun _ _ => rfl)) pe_int) (pe_one (pe_chain op_le op_le pe_int (pe_ix (ix_tup : IxR _ (rIxT K)) (pv 0) pe_int (fun _ _ => rfl)) pe_int)))))))), ?_⟩
  have no : ∀ {H' : Hp} {σ : L2.St}, Same H H' → isRow e = false → tRet (tC (.bl false)) { nx := fun _ H' => Q .non H', rt := Q } σ H' := fun s1 z => q _ _ s1 (by rw [z]; exact .bl _)
  have tC1 : ∀ {F' : Hp} {σ : L2.St} {i : Int}, EvD (tC (.int i)) σ F' (.int i) := e_int
  by_cases hT : isTup e = true
  · obtain ⟨es, rfl⟩ : ∃ es, e = .tuple es := by
      cases e <;> first | exact ⟨_, rfl⟩ | cases hT
    by_cases l4 : es.length = 4
    · match es, l4 with
      | [k, l, r, n], _ =>
        have e1 : EvB (tNot (tB (tCB (rIsi K) (tCons (tVar 0) (tCons (tC (.ty "tuple")) tNil))))) (start n_lil [v0]) (offS S H) false := b_not (b := true) (b_val (e_isiT (K := K) (d := .tuple [k, l, r, n]) (e_var rfl r0)))
        have e2 : EvB (tTest (tOp rNe (tCB (rLenQ K) (tCons (tVar 0) tNil)) (tC (.int 4)))) (start n_lil [v0]) (offS S H) false := b_test (e_neI (e_lenT (K := K) (e_var rfl r0)) tC1)
        refine go_ifS (b := !abcD.any fun z => PyData.eqv z k) fr (b_eq (b_or e1 fun _ => b_or e2 fun _ => b_test (e_notInD (K := K) (e_ixT (n := 0) (e_var rfl r0) tC1 rfl rfl) (e_lst (ds := abcD) (a_cons e_str (a_cons e_str (a_cons e_str a_nil))) (by decide)) (he k l r n rfl) (by decide +kernel))) (by simp)) (fun z H1 s1 fr1 => no s1 ?_) fun z H1 s1 fr1 => ?_
        · cases hR : isRow (.tuple [k, l, r, n]) with
          | false => rfl
          | true =>
            obtain ⟨a, ea, g⟩ := isRow_is hR
            unfold roD at ea
            injection ea with ea
            injection ea with ek _
            rw [ek, abc_in g.k] at z
            cases z
        obtain ⟨sk, rfl, hk⟩ := in_abc (k := k) (by rw [Bool.not_eq_false'] at z; exact z)
        have r1 := r0.mono (offS_mono (S := S) s1)
        refine go_ifS (b := !(wholeD l && (wholeD r && wholeD n))) fr1 (b_not (b_val (eqD (e_all (K := K) (e_lcT (K := K) (enc := id) (as := [l, r, n]) (b := fun _ => true) (ev := fun d => .bool (wholeD d)) (eqD (e_slT (K := K) (e_var rfl r1) (o_some (tC1 (i := ((1 : Nat) : Int)))) o_none) (by rw [cut_drop]; rfl)) (Nat.le_of_ble_eq_true rfl) fun d hd x F2 sF rx => g_name ⟨rfl, b_yes, fun _ => e_call (R := RLwh) (a_cons (e_var rfl rx) a_nil) ⟨d, rfl, rfl⟩⟩) (fun d hd => by
          obtain ⟨a, _, rfl⟩ := List.mem_map.mp hd
          exact ⟨_, rfl⟩)) (by simp [truD])))) (fun z H2 s2 fr2 => no (s1.trans s2) ?_) fun z H2 s2 fr2 => ?_
        · cases hR : isRow (.tuple [.str sk, l, r, n]) with
          | false => rfl
          | true =>
            obtain ⟨a, ea, g⟩ := isRow_is hR
            unfold roD at ea
            cases ea
            cases z
        have zz : wholeD l = true ∧ wholeD r = true ∧ wholeD n = true := by simpa [and_assoc] using z
        obtain ⟨li, rfl⟩ := whole_int zz.1
        obtain ⟨ri, rfl⟩ := whole_int zz.2.1
        obtain ⟨ni, rfl⟩ := whole_int zz.2.2
        have r2 := r1.mono (offS_mono (S := S) s2)
        refine go_ret (P := fun H v => Rp H v (.bool (isRow (.tuple [.str sk, .int li, .int ri, .int ni])))) fr2 (eqD (e_and (e_chainI (a := decide (0 ≤ li)) (b := decide (li ≤ 99)) tC1 (e_ixT (n := 1) (e_var rfl r2) tC1 rfl rfl) tC1 (fun H Q q => ⟨_, _, rfl, rfl, q⟩) fun H Q q => ⟨_, _, rfl, rfl, q⟩) fun _ =>
          e_and (e_chainI (a := decide (0 ≤ ri)) (b := decide (ri ≤ 99)) tC1 (e_ixT (n := 2) (e_var rfl r2) tC1 rfl rfl) tC1 (fun H Q q => ⟨_, _, rfl, rfl, q⟩) fun H Q q => ⟨_, _, rfl, rfl, q⟩) fun _ =>
          e_chainI (a := decide (1 ≤ ni)) (b := decide (ni ≤ 10000)) tC1 (e_ixT (n := 3) (e_var rfl r2) tC1 rfl rfl) tC1 (fun H Q q => ⟨_, _, rfl, rfl, q⟩) fun H Q q => ⟨_, _, rfl, rfl, q⟩) ?_) fun v H3 s3 r3 => q v H3 (s1.trans (s2.trans s3)) r3
        simp [isRow, isTri, isNum, hk, Bool.and_assoc]
    · refine go_ifS (b := true) fr (b_or (a := false) (b_not (b := true) (b_val (e_isiT (K := K) (d := .tuple es) (e_var rfl r0)))) fun _ => b_orT (b_eq (b_test (e_neI (e_lenT (K := K) (e_var rfl r0)) tC1)) (by
        rw [decide_eq_false (show ¬ ((es.length : Nat) : Int) = 4 by omega)]
        rfl))) (fun _ H1 s1 f1 => no s1 (isRow_len l4)) fun z => by cases z
  · have hF : isTup e = false := by simpa using hT
    exact go_ifS (b := true) fr (b_orT (b_not (b := false) (b_val (eqD (e_isiT (K := K) (e_var rfl r0)) (by rw [hF]))))) (fun _ H1 s1 f1 => no s1 (isRow_not hF)) fun z => by cases z
end
end Q

set_option maxHeartbeats 4000000
namespace Q
open PySem PySem.Spec PyProof.Rows L2 Ca
/-! ### whether values are the rows of a table -/
abbrev s_lar : Stmt := top 42
abbrev n_lar : List PySem.Str := ["_law_some_here", "_law_one", "_law_keys", "_law_key"]
theorem sc_lar : FnScope n_lar ["_law_some_here"] (defScope s_lar) := ⟨rfl, rfl, rfl, by decide +kernel, rfl, by decide +kernel, by decide +kernel⟩
def keyA (a : Ro) : At := ⟨a.k, a.l, a.r⟩
theorem key_roK {a b : Ro} : roK a = roK b ↔ keyA a = keyA b := by
  unfold roK keyA
  simp
theorem nd_keys {rs : List Ro} : (rs.map roK).Nodup ↔ (rs.map keyA).Nodup := by
  rw [List.Nodup, List.Nodup, List.pairwise_map, List.pairwise_map]
  constructor
  · exact fun h => h.imp fun ne e => ne (key_roK.mpr e)
  · exact fun h => h.imp fun ne e => ne (key_roK.mp e)
theorem nd_count : ∀ {l : List At}, l.Nodup ↔ ∀ a ∈ l, ¬ 1 < l.count a
  | [] => by simp
  | b :: l => by
    rw [List.nodup_cons, nd_count (l := l)]
    constructor
    · rintro ⟨nb, h⟩ a ha
      rw [List.count_cons]
      by_cases e : b = a
      · subst e
        rw [if_pos (by simp), List.count_eq_zero.mpr nb]
        omega
      · rw [if_neg (by simpa using e)]
        exact h a ((List.mem_cons.mp ha).resolve_left fun z => e z.symm)
    · intro h
      refine ⟨fun hb => ?_, fun a ha z => ?_⟩
      · have := h b (.head _)
        rw [List.count_cons, if_pos (by simp)] at this
        have := List.count_pos_iff.mpr hb
        omega
      · have := h a (.tail _ ha)
        rw [List.count_cons] at this
        omega
def RLar : List PyData → PyData → Prop := fun ds d => ∃ es b, ds = [.list es] ∧ es.length ≤ 1000 ∧ (∀ e ∈ es, First e) ∧ d = .bool b ∧ (b = true ↔ AreR es)
section
variable {P : Program} {w : World} {K : PySem.W.Frag} {mg : PySem.Str → Option Value} {base : Heap}
theorem ok_lar {f : Addr} {fd : FuncData} (F : FnP K "_law_are_lines" s_lar f fd) (T : Tx K mg) (D_lil : Fd P w K mg base "_law_is_line" 2 ["_law_thing"] (spR RLil)) : FnOk P w K mg base CX0 3 f fd ["_law_some_here"] (spR RLar) := by
  obtain ⟨f_lil, fd_lil, G_lil, b_lil, k_lil, m_lil⟩ := D_lil.ex
  refine F.ok sc_lar (spR_len (by rintro _ _ ⟨x, b, rfl, _⟩; rfl)) (fun cdv A outer s H vs Q E hr h => ?_)
  obtain ⟨S, ds, d, fr, rA, ⟨es, b, rfl, hz, he, rfl, hb⟩, q⟩ := h
  obtain ⟨v0, rfl, r0⟩ := rpa1 rA
  refine ⟨_, PSs.nox (pss_cons (ps_if (PW.pt (pw_or (pt_cmpR op_gt (pe_callB (call_lenQ : CallR _ _ (rLenQ K)) (by rfl) T.len bLen (pa_cons (pv 0) pa_nil)) pe_int (nomark _)) (pw_or1 (pt_not (pt_val (pe_callB (cr_all rfl : CallR _ _ (rAll K)) (by rfl) T.all bAll (pa_cons (pe_lc (own := [("_law_one", 1)]) (g := gName 1) rfl sc_lar.nd (pi_listQ (K := K) rfl (pv 0)) (blkOk_by (own := [("_law_one", 1)]) (N := n_lar) (sc := (defScope s_lar)) (by decide +kernel)) (fun _ _ _ _ _ => (pg_name (i := 1) sc_lar.nd rfl (Or.inl rfl))) (fun _ _ _ _ _ => pts_nil) (fun _ _ _ _ _ => (pe_call G_lil (hr.mono (by decide)) rfl m_lil k_lil b_lil .nil pass0 (pa_cons (pv 1) pa_nil)))) pa_nil))))))) (pss_one (ps_ret pe_bl)) pss_nil)
      (pss_cons (ps_set (i := 2) sc_lar.nd rfl (.inr rfl) (pe_lc (own := [("_law_one", 1)]) (g := gName 1) rfl sc_lar.nd (pi_listQ (K := K) rfl (pv 0)) (blkOk_by (own := [("_law_one", 1)]) (N := n_lar) (sc := (defScope s_lar)) (by decide +kernel)) (fun _ _ _ _ _ => (pg_name (i := 1) sc_lar.nd rfl (Or.inl rfl))) (fun _ _ _ _ _ => pts_nil) (fun _ _ _ _ _ => (pe_slice (sl_tupA : SlR _ (rSlA K)) (pv 1) po_none (po_some pe_int)))))
      (pss_one (ps_ret (pe_cmpR (op_eqD hr.units : OpR _ _ (rEqD K)) (pe_lc (own := [("_law_key", 3)]) (g := gName 3) rfl sc_lar.nd (pi_listQ (K := K) rfl (pv 2)) (blkOk_by (own := [("_law_key", 3)]) (N := n_lar) (sc := (defScope s_lar)) (by decide +kernel)) (fun _ _ _ _ _ => (pg_name (i := 3) sc_lar.nd rfl (Or.inl rfl))) (fun _ _ _ _ _ => (pts_one (pt_cmpR op_gt (pe_cntQ (K := K) rfl T.sm hr (pv 2) (pv 3)) pe_int (nomark _)))) (fun _ _ _ _ _ => (pv 3))) (pe_lst pa_nil) (nomark _)))))), ?_⟩
  have tC1 : ∀ {F' : Hp} {σ : L2.St} {i : Int}, EvD (tC (.int i)) σ F' (.int i) := e_int
  have eall : EvD (tCB (rAll K) (tCons (tLc (iList K (tVar 0)) (gName 1) tYes (tCall (spR RLil) [] E0 (tCons (tVar 1) tNil)) [1]) tNil)) (start n_lar [v0]) (offS S H) (.bool (es.all isRow)) := eqD (e_all (K := K) (e_lcL (K := K) (enc := id) (as := es) (b := fun _ => true) (ev := fun d => .bool (isRow d)) (by rw [List.map_id]; exact e_var rfl r0) (by omega) fun d hd x F2 sF rx => g_name ⟨rfl, b_yes, fun _ => e_call (R := RLil) (a_cons (e_var rfl rx) a_nil) ⟨d, rfl, he d hd, rfl⟩⟩) (fun d hd => by
      obtain ⟨a, _, rfl⟩ := List.mem_map.mp hd
      exact ⟨_, rfl⟩)) (by
    rw [filter_yes, List.all_map]
    rfl)
  refine go_ifS (b := decide ((12 : Int) < ((es.length : Nat) : Int)) || !es.all isRow) fr (b_or (b_test (e_cmp (g := fun i j => decide (j < i)) (e_lenL (K := K) (e_var rfl r0)) tC1)) fun _ => b_not (b_val eall)) (fun z H1 s1 f1 => ?_) fun z H1 s1 fr1 => ?_
  · have e : b = false := by
      cases b with
      | false => rfl
      | true =>
        obtain ⟨l12, rs, rfl, g, _⟩ := hb.mp rfl
        have a2 : (rs.map roD).all isRow = true := List.all_eq_true.mpr fun d hd => by
          obtain ⟨a, ha, rfl⟩ := List.mem_map.mp hd
          exact isRow_of (g a ha)
        rw [a2, decide_eq_false (show ¬ (12 : Int) < (((rs.map roD).length : Nat) : Int) by omega)] at z
        cases z
    subst e
    exact q _ _ s1 (.bl _)
  rw [Bool.or_eq_false_iff] at z
  have l12 : es.length ≤ 12 := by
    have := of_decide_eq_false z.1
    omega
  obtain ⟨rs, rfl, g⟩ := rows_of (ds := es) (by simpa using z.2)
  rw [List.length_map] at l12
  have r1 := r0.mono (offS_mono (S := S) s1)
  refine go_setS (P := fun H v => Rp H v (.list ((rs.map keyA).map atD))) fr1 (eqD (e_lcL (K := K) (enc := roD) (as := rs) (b := fun _ => true) (ev := fun a => atD (keyA a)) (e_var rfl r1) (by omega) fun a ha y F2 sF ry => g_name ⟨rfl, b_yes, fun _ => eqD (e_slT (K := K) (e_var rfl ry) o_none (o_some (tC1 (i := ((3 : Nat) : Int))))) (by rw [cut_take]; rfl)⟩) (by rw [List.filter_eq_self.mpr fun _ _ => rfl, List.map_map]; rfl)) fun v3 H2 s2 fr2 r3 => ?_
  have cqk : ∀ a ∈ rs.map keyA, Cq 1 (atD a) := fun a ha => by
    obtain ⟨c, hc, rfl⟩ := List.mem_map.mp ha
    exact cq_key (n := 0) c.l c.r (g c hc).k
  refine go_ret (P := fun H v => Rp H v (.bool b)) fr2 (eqD (e_eqD (K := K) (e_lcL (K := K) (enc := atD) (as := rs.map keyA) (b := fun a => decide (1 < (((rs.map keyA).count a : Nat) : Int))) (ev := atD) (e_var rfl r3) (by rw [List.length_map]; omega) fun a ha y F2 sF ry => g_name ⟨rfl, b_test (e_cmp (g := fun i j => decide (j < i)) (e_cnt (K := K) (e_var rfl (r3.mono sF)) (e_var rfl ry)) tC1), fun _ => e_var rfl ry⟩) (e_lst a_nil) ?_ (cq_nil (n := 0)).ok) ?_) fun v H3 s3 r4 => q v H3 (s1.trans (s2.trans s3)) r4
  · exact (cq_lst (k := 1) fun d hd => by
      obtain ⟨a, ha, rfl⟩ := List.mem_map.mp hd
      exact cqk a (List.mem_filter.mp ha).1).ok
  · congr 1
    rw [Bool.eq_iff_iff, hb]
    constructor
    · intro y
      have ye : (rs.map keyA).filter (fun a => decide (1 < (((rs.map keyA).count a : Nat) : Int))) = [] := by
        cases hc : (rs.map keyA).filter fun a => decide (1 < (((rs.map keyA).count a : Nat) : Int)) with
        | nil => rfl
        | cons c cs =>
          rw [hc] at y
          simp [PyData.eqv, PyData.eqvAll] at y
      refine ⟨by rw [List.length_map]; exact l12, rs, rfl, g, nd_keys.mpr (nd_count.mpr fun a ha z => ?_)⟩
      exact List.filter_eq_nil_iff.mp ye a ha (decide_eq_true (by omega))
    · rintro ⟨_, ts, et, _, nd⟩
      rw [← roD_inj et] at nd
      have c := nd_count.mp (nd_keys.mp nd)
      rw [List.filter_eq_nil_iff.mpr fun a ha z => c a ha (by have := of_decide_eq_true z; omega)]
      simp [PyData.eqv, PyData.eqvAll]
end
end Q

set_option maxHeartbeats 1000000
namespace Q
open PySem PySem.Spec PyProof.Rows L2 Ca
/-! ### _law_text of a tuple of rows -/
def RLTextT : List PyData → PyData → Prop := fun ds d => ∃ rs ks : List Ro, ds = [.tuple (rs.map roD)] ∧ rs.length ≤ 12 ∧ (∀ a ∈ rs, GoodR a) ∧ srtD (rs.map roD) = ks.map roD ∧ d = .str (txr ks)
section
variable {P : Program} {w : World} {K : PySem.W.Frag} {mg : PySem.Str → Option Value} {base : Heap}
theorem ok_ltextT {f : Addr} {fd : FuncData} (F : FnP K "_law_text" s_ltext f fd) (T : Tx K mg) : FnOk P w K mg base CX0 1 f fd ["_law_lines_here"] (spR RLTextT) := by
  refine F.ok sc_ltext (spR_len (by rintro _ _ ⟨rs, ks, rfl, _⟩; rfl)) (fun cdv A outer s H vs Q E hr h => ?_)
  obtain ⟨S, ds, d, fr, rA, ⟨rs, ks, rfl, hz, hg, hs, rfl⟩, q⟩ := h
  obtain ⟨v0, rfl, r0⟩ := rpa1 rA
  refine ⟨_, PSs.nox (pss_one (ps_ret (pe_joinQ (K := K) rfl pe_str (pe_lc (own := [("_law_row", 1)]) (g := gName 1) rfl sc_ltext.nd (pi_listQ (K := K) rfl (pe_callB (cr_sortD T.sm (hr.mono (Nat.le_refl _)) : CallR _ _ rSortD) (by rfl) T.sorted bSorted (pa_cons (pv 0) pa_nil)))
    (blkOk_by (own := [("_law_row", 1)]) (N := nLtext) (sc := defScope s_ltext) (by decide +kernel)) (fun _ _ _ _ _ => pg_name (i := 1) sc_ltext.nd rfl (Or.inl rfl)) (fun _ _ _ _ _ => pts_nil)
    (fun _ _ _ _ _ => pe_op op_add_str (pe_joinQ (K := K) rfl pe_str (pe_lc (own := [("_law_part", 2)]) (g := gName 2) rfl sc_ltext.nd (pi_tupQ (K := K) rfl (pv 1))
      (blkOk_by (own := [("_law_part", 2)]) (N := nLtext) (sc := relS (lcSc (argE (retE ((defBody s_ltext).getD 0 (.Pass ⟨0, 0, 0, 0⟩))))) (defScope s_ltext)) (by decide +kernel)) (fun _ _ _ _ _ => pg_name (i := 2) sc_ltext.nd rfl (Or.inl rfl)) (fun _ _ _ _ _ => pts_nil)
      (fun _ _ _ _ _ => pe_callTy call_strE (by rfl) T.str bStr (pa_cons (pv 2) pa_nil)))) pe_str))))), ?_⟩
  have gk := srt_good hs hg
  have lk : ks.length = rs.length := (srt_perm hs).length_eq
  refine go_ret (P := fun H v => Rp H v (.str (txr ks))) fr (eqD (e_joinL e_str (e_lcL (enc := roD) (b := fun _ => true) (ev := fun a => .str (rowT a)) (as := ks) (eqD (e_sortDT (e_var rfl r0) (ros_alike rs) (ros_sortable rs) (fun d hd => ?_) (by rw [List.length_map]; omega)) (by rw [hs])) (by omega)
    fun a ha x F2 sF r => g_name ⟨rfl, b_yes, fun _ => e_addS2 (eqD (e_joinL e_str (e_lcT (enc := id) (as := rowPs a) (b := fun _ => true) (ev := fun d => .str (strP d)) (e_var rfl ?_) (by show 4 ≤ 1000; decide) fun d hd x2 F3 sF3 r3 => g_name ⟨rfl, b_yes, fun _ => e_strE (e_var rfl r3) (row_sable (gk a ha) d hd)⟩) ?_ ?_) (by rw [filter_yes, row_join])) e_str ?_ (rowT_eq a).symm⟩) ?_ ?_) ?_) q
  · obtain ⟨a, _, rfl⟩ := List.mem_map.mp hd
    exact ro_depth a
  · exact r
  · intro d hd
    obtain ⟨e, _, rfl⟩ := List.mem_map.mp hd
    exact ⟨_, rfl⟩
  · rw [filter_yes]
    have e1 := rowP_len (gk a ha)
    have e2 : (PySem.Str.ofString " ").length = 1 := by decide +kernel
    unfold lens rowP at e1
    simp only [List.map_cons, List.map_nil, List.sum_cons, List.sum_nil] at e1
    show ([a.k, PySem.Str.ofString (toString a.l), PySem.Str.ofString (toString a.r), PySem.Str.ofString (toString a.n)].map (·.length)).sum + 4 * _ ≤ _
    simp only [List.map_cons, List.map_nil, List.sum_cons, List.sum_nil]
    rw [e2]
    omega
  · have := rowW_len (gk a ha)
    have e2 : (PySem.Str.ofString "\n").length = 1 := by decide +kernel
    rw [e2]
    omega
  · intro d hd
    obtain ⟨e, _, rfl⟩ := List.mem_map.mp hd
    exact ⟨_, rfl⟩
  · rw [filter_yes, List.map_map (g := strD)]
    have e := rows_len gk
    have e1 : (PySem.Str.ofString "").length = 0 := by decide +kernel
    show ((ks.map rowT).map (·.length)).sum + (ks.map rowT).length * _ ≤ _
    rw [e1]
    omega
  · rw [filter_yes, List.map_map]
    rfl
end
end Q

set_option maxHeartbeats 4000000
namespace Q
open PySem PySem.Spec PyProof.Rows L2 Ca
/-! ### _law_due -/
abbrev s_ldu : Stmt := top 45
abbrev n_ldu : List PySem.Str := ["_law_some_here", "_law_found"]
theorem sc_ldu : FnScope n_ldu ["_law_some_here"] (defScope s_ldu) := ⟨rfl, rfl, rfl, by decide +kernel, rfl, by decide +kernel, by decide +kernel⟩
/-- the row that data are -/
def unRo : PyData → Ro
  | .tuple [.str k, .int l, .int r, .int n] => ⟨k, l, r, n⟩
  | _ => ⟨"", 0, 0, 0⟩
theorem un_ro (a : Ro) : unRo (roD a) = a := rfl
theorem un_ros (ks : List Ro) : (ks.map roD).map unRo = ks := by
  rw [List.map_map]
  exact (List.map_congr_left fun a _ => un_ro a).trans (List.map_id ks)
def saidW (n : Nat) : PySem.Str := PySem.Str.ofString "Table(" ++ dg (n : Int) ++ PySem.Str.ofString " rows)"
def rowsD (es : List PyData) : PyData := .list [.tuple (srtD es), .int (es.length : Int), .str (saidW es.length), .str (txr ((srtD es).map unRo)), .bool true, .bool false]
open Classical in
/-- what is told of the table of these values -/
noncomputable def dueD (es : List PyData) : PyData := if AreR es then rowsD es else .str "rows"
theorem due_yes {es : List PyData} (h : AreR es) : dueD es = rowsD es := if_pos h
theorem due_no {es : List PyData} (h : ¬ AreR es) : dueD es = .str "rows" := if_neg h
def RLdu : List PyData → PyData → Prop := fun ds d => ∃ es, ds = [.list es] ∧ es.length ≤ 1000 ∧ (∀ e ∈ es, First e) ∧ d = dueD es
section
variable {P : Program} {w : World} {K : PySem.W.Frag} {mg : PySem.Str → Option Value} {base : Heap}
theorem ok_ldu {f : Addr} {fd : FuncData} (F : FnP K "_law_due" s_ldu f fd) (T : Tx K mg) (D_lar : Fd P w K mg base "_law_are_lines" 3 ["_law_some_here"] (spR RLar)) (D_ltx : Fd P w K mg base "_law_text" 1 ["_law_lines_here"] (spR RLTextT)) : FnOk P w K mg base CX0 4 f fd ["_law_some_here"] (spR RLdu) := by
  obtain ⟨f_lar, fd_lar, G_lar, b_lar, k_lar, m_lar⟩ := D_lar.ex
  obtain ⟨f_ltx, fd_ltx, G_ltx, b_ltx, k_ltx, m_ltx⟩ := D_ltx.ex
  refine F.ok sc_ldu (spR_len (by rintro _ _ ⟨x, rfl, _⟩; rfl)) (fun cdv A outer s H vs Q E hr h => ?_)
  obtain ⟨S, ds, d, fr, rA, ⟨es, rfl, hz, he, rfl⟩, q⟩ := h
  obtain ⟨v0, rfl, r0⟩ := rpa1 rA
  refine ⟨_, PSs.nox (pss_cons (ps_if (pt_not (pt_val (pe_call G_lar (hr.mono (by decide)) rfl m_lar k_lar b_lar .nil pass0 (pa_cons (pv 0) pa_nil)))) (pss_one (ps_ret pe_str)) pss_nil)
      (pss_cons (ps_set (i := 1) sc_ldu.nd rfl (.inl rfl) (pe_callTy (call_tupQ : CallR _ _ (rTupQ K)) (by rfl) T.tup bTup (pa_cons (pe_callB (cr_sortD T.sm hr) (by rfl) T.sorted bSorted (pa_cons (pv 0) pa_nil)) pa_nil)))
      (pss_one (ps_ret (pe_lst (pa_cons (pv 1) (pa_cons (pe_callB (call_lenQ : CallR _ _ (rLenQ K)) (by rfl) T.len bLen (pa_cons (pv 0) pa_nil)) (pa_cons (pe_op op_add_str (pe_op op_add_str pe_str (pe_callTy call_str_int (by rfl) T.str bStr (pa_cons (pe_callB (call_lenQ : CallR _ _ (rLenQ K)) (by rfl) T.len bLen (pa_cons (pv 0) pa_nil)) pa_nil))) pe_str) (pa_cons (pe_call G_ltx (hr.mono (by decide)) rfl m_ltx k_ltx b_ltx .nil pass0 (pa_cons (pv 1) pa_nil)) (pa_cons pe_bl (pa_cons pe_bl pa_nil))))))))))), ?_⟩
  by_cases hA : AreR es
  · refine go_ifS (b := false) fr (b_not (b := true) (b_val (e_call (R := RLar) (a_cons (e_var rfl r0) a_nil) ⟨es, true, rfl, hz, he, rfl, ⟨fun _ => hA, fun _ => rfl⟩⟩))) (fun z => by cases z) fun _ H1 s1 fr1 => ?_
    rw [due_yes hA] at q
    obtain ⟨l12, rs, rfl, g, nd⟩ := id hA
    obtain ⟨ks, es, pks⟩ := srt_rows rs
    have gk := srt_good es g
    have ss : srtD (ks.map roD) = ks.map roD := srt_idem es
    have r1 := r0.mono (offS_mono (S := S) s1)
    rw [List.length_map] at l12
    have lk : ks.length = rs.length := pks.length_eq
    refine go_setS (P := fun H v => Rp H v (.tuple (ks.map roD))) fr1 (eqD (e_tupOf (K := K) (e_sortD (e_var rfl r1) (ros_alike rs) (ros_sortable rs) (fun d hd => (by
      obtain ⟨a, _, rfl⟩ := List.mem_map.mp hd
      exact ro_depth a)) (by rw [List.length_map]; omega))) (by rw [es])) fun v1 H2 s2 fr2 r2 => ?_
    have r12 := r1.mono (offS_mono (S := S) s2)
    have n5 := num5 (show (0 : Int) ≤ ((rs.length : Nat) : Int) by omega) (show ((rs.length : Nat) : Int) ≤ 10000 by omega)
    refine go_ret (P := fun H v => Rp H v (rowsD (rs.map roD))) fr2 (eqD (e_lst (ds := [.tuple (ks.map roD), .int (rs.length : Int), .str (saidW rs.length), .str (txr ks), .bool true, .bool false]) (a_cons (e_var rfl r2) (a_cons (eqD (e_lenL (K := K) (e_var rfl r12)) (by rw [List.length_map])) (a_cons (e_addS (e_addS e_str (e_strI (eqD (e_lenL (K := K) (e_var rfl r12)) (by rw [List.length_map])) (log99 (by omega) (by omega))) ?_) e_str ?_) (a_cons (e_call (R := RLTextT) (a_cons (e_var rfl r2) a_nil) ⟨ks, ks, rfl, by omega, gk, ss, rfl⟩) (a_cons e_bl (a_cons e_bl a_nil)))))) (by simp)) ?_) fun v3 H3 s3 r3 => q v3 H3 (s1.trans (s2.trans s3)) r3
    · have : (PySem.Str.ofString "Table(").length = 6 := by decide +kernel
      show (PySem.Str.ofString "Table(").length + (dg ((rs.length : Nat) : Int)).length ≤ 1000
      have e5 : (dg ((rs.length : Nat) : Int)).length ≤ 5 := n5
      omega
    · have e6 : (PySem.Str.ofString "Table(").length = 6 := by decide +kernel
      have e7 : (PySem.Str.ofString " rows)").length = 6 := by decide +kernel
      have e5 : (dg ((rs.length : Nat) : Int)).length ≤ 5 := n5
      have e8 : (PySem.Str.ofString "Table(" ++ dg ((rs.length : Nat) : Int)).length = (PySem.Str.ofString "Table(").length + (dg ((rs.length : Nat) : Int)).length := PySem.Str.length_append _ _
      show (PySem.Str.ofString "Table(" ++ dg ((rs.length : Nat) : Int)).length + (PySem.Str.ofString " rows)").length ≤ 1000
      omega
    · unfold rowsD
      rw [es, un_ros, List.length_map]
  · refine go_ifS (b := true) fr (b_not (b := false) (b_val (e_call (R := RLar) (a_cons (e_var rfl r0) a_nil) ⟨es, false, rfl, hz, he, rfl, ⟨(fun z => by cases z), fun z => absurd z hA⟩⟩))) (fun _ H1 s1 fr1 => ?_) fun z => by cases z
    rw [due_no hA] at q
    exact q _ _ s1 (.str _)
end
end Q

set_option maxHeartbeats 4000000
namespace Q
open PySem PySem.Spec PyProof.Rows L2 Ca
/-! ### Table(x, y, ..) -/
section
variable {X : Cx} {CX : CXT} {k : Nat} {f C : Addr} {sp : Sp} {E : XK} {x : PySem.Str} {p pos : Pos}
/-- C(), C a class of the module whose __init__ takes *args -/
theorem pe_makeR0 (M : Mk X.K C f) (F : FnR X.prog X.w X.K X.mg X.base CX k f sp) (hr : Room (k + 1) X.A) (hg : Gl X x) (hm : X.mg x = some (.ref C)) (hx : Passes CX X E) (hdb : (x == ("__debug__" : PySem.Str)) = false := by decide) :
    PE X (.Call (.Name x p) [] [] pos) (StX.tMakeR C sp E tNil) := by
  exact ⟨fun _ _ _ _ _ inv want => wpAny_Call_Name_kw (ld_glob inv hg hm (PySem.W.callWith_K0 inv.kIn M.kp (StX.run_makeR (us := []) (vs := []) M F hr hx inv .nil want)) hdb)⟩
end
section
variable {σ : L2.St} {S : Addr → Bool} {H : Hp} {D : L2.Ends} {ta : TA} {C N : Addr} {E : XK} {es : List PyData}
theorem go_retMake (fr : Fr S H) (h : EvA ta σ (offS S H) es) (hl : es.length ≤ 13) (kE : ¬ AreR es → ∀ H', Same H H' → E (.ref N) none H')
    (k : AreR es → ∀ ks, srtD es = ks.map roD → ∀ v H', Same H H' → TV C ks (offS S H') v → D.rt v H') : tRet (StX.tMakeR C (spTInitR C N) E ta) D σ H := by
  classical
  refine h S H fr (Same.refl _) _ fun vs H2 s2 ra => ?_
  have lv : vs.length ≤ 13 := by
    rw [ra.length]
    exact hl
  refine fun x dx hx hd ndx => ⟨[.ref x], vs, rfl, rfl, Nat.le_of_lt (small1000 (by omega)), fun p hp => ?_⟩
  have sm := same2 (o1 := .own x) (o2 := .ins C dx []) (o3 := .tup vs) hx hd hp
  have npx : x ≠ p := fun z => by
    rw [← z, upd_same] at hp
    cases hp
  refine ⟨x, dx, p, es, decide (AreR es), rfl, by rw [upd_ne npx, upd_same], .tup upd_same ((ra.mono offS_same).mono sm), by omega, by simp, fun z H' s' => kE (of_decide_eq_false z) H' ((s2.trans sm).trans s'), fun rs ks e hA ek pk H' keep tv => ⟨rfl, ?_⟩⟩
  have sH : Same H2 H' := fun b u e => keep b u (ne_of_none e hx) (sm b u e)
  exact k hA ks ek _ H' (s2.trans sH) (tv.off ((fr.mono s2).mono sH))
end
abbrev s_lbu : Stmt := top 43
abbrev n_lbu : List PySem.Str := ["_law_some_here"]
theorem sc_lbu : FnScope n_lbu ["_law_some_here"] (defScope s_lbu) := ⟨rfl, rfl, rfl, by decide +kernel, rfl, by decide +kernel, by decide +kernel⟩
def spBuilt (C N : Addr) : Sp := fun vs H Q E => ∃ (S : Addr → Bool) (v : V) (es : List PyData), vs = [v] ∧ Fr S H ∧ Rp (offS S H) v (.list es) ∧ es.length ∈ [0, 1, 2, 3, 4, 5, 8, 12, 13] ∧ (¬ AreR es → ∀ H', Same H H' → E (.ref N) none H') ∧
  (AreR es → ∀ ks, srtD es = ks.map roD → ∀ v H', Same H H' → TV C ks (offS S H') v → Q v H')
section
variable {P : Program} {w : World} {K : PySem.W.Frag} {mg : PySem.Str → Option Value} {base : Heap}
theorem ok_lbu {f C N fI : Addr} {fd : FuncData} (F : FnP K "_law_built" s_lbu f fd) (T : Tx K mg) (M : Mk K C fI) (G_tinit : FnR P w K mg base (L2.CX P w) 6 fI (spTInitR C N)) (gC : mg "Table" = some (.ref C)) : FnOk P w K mg base (L2.CX P w) 8 f fd ["_law_some_here"] (spBuilt C N) := by
  refine F.ok sc_lbu (fun vs H Q E h => ?_) (fun cdv A outer s H vs Q E hr h => ?_)
  · obtain ⟨S, v, es, rfl, _⟩ := h
    rfl
  obtain ⟨S, v0, es, rfl, fr0, rX, hl, kE, kQ⟩ := h
  have pL := passes_call (X := cxOf (L2.CX P w) P w K mg base n_lbu "_law_built" (defScope s_lbu) f cdv A outer s H E) (takes_of rfl rfl rfl rfl) (E := E) (fun _ _ _ _ h => h)
  refine ⟨_, (pss_cons (ps_if (pt_cmpR op_eq (pe_callB (call_lenQ : CallR _ _ (rLenQ K)) (by rfl) T.len bLen (pa_cons (pv 0) pa_nil)) pe_int (nomark _)) (pss_one (ps_ret (pe_makeR0 M G_tinit (hr.mono (by decide)) rfl gC pL))) pss_nil)
      (pss_cons (ps_if (pt_cmpR op_eq (pe_callB (call_lenQ : CallR _ _ (rLenQ K)) (by rfl) T.len bLen (pa_cons (pv 0) pa_nil)) pe_int (nomark _)) (pss_one (ps_ret (StX.pe_makeR M G_tinit (hr.mono (by decide)) rfl gC pL (pa_cons (pe_ix (ix_list : IxR _ (rIxL K)) (pv 0) pe_int (fun _ _ => rfl)) pa_nil)))) pss_nil)
      (pss_cons (ps_if (pt_cmpR op_eq (pe_callB (call_lenQ : CallR _ _ (rLenQ K)) (by rfl) T.len bLen (pa_cons (pv 0) pa_nil)) pe_int (nomark _)) (pss_one (ps_ret (StX.pe_makeR M G_tinit (hr.mono (by decide)) rfl gC pL (pa_cons (pe_ix (ix_list : IxR _ (rIxL K)) (pv 0) pe_int (fun _ _ => rfl)) (pa_cons (pe_ix (ix_list : IxR _ (rIxL K)) (pv 0) pe_int (fun _ _ => rfl)) pa_nil))))) pss_nil)
      (pss_cons (ps_if (pt_cmpR op_eq (pe_callB (call_lenQ : CallR _ _ (rLenQ K)) (by rfl) T.len bLen (pa_cons (pv 0) pa_nil)) pe_int (nomark _)) (pss_one (ps_ret (StX.pe_makeR M G_tinit (hr.mono (by decide)) rfl gC pL (pa_cons (pe_ix (ix_list : IxR _ (rIxL K)) (pv 0) pe_int (fun _ _ => rfl)) (pa_cons (pe_ix (ix_list : IxR _ (rIxL K)) (pv 0) pe_int (fun _ _ => rfl)) (pa_cons (pe_ix (ix_list : IxR _ (rIxL K)) (pv 0) pe_int (fun _ _ => rfl)) pa_nil)))))) pss_nil)
      (pss_cons (ps_if (pt_cmpR op_eq (pe_callB (call_lenQ : CallR _ _ (rLenQ K)) (by rfl) T.len bLen (pa_cons (pv 0) pa_nil)) pe_int (nomark _)) (pss_one (ps_ret (StX.pe_makeR M G_tinit (hr.mono (by decide)) rfl gC pL (pa_cons (pe_ix (ix_list : IxR _ (rIxL K)) (pv 0) pe_int (fun _ _ => rfl)) (pa_cons (pe_ix (ix_list : IxR _ (rIxL K)) (pv 0) pe_int (fun _ _ => rfl)) (pa_cons (pe_ix (ix_list : IxR _ (rIxL K)) (pv 0) pe_int (fun _ _ => rfl)) (pa_cons (pe_ix (ix_list : IxR _ (rIxL K)) (pv 0) pe_int (fun _ _ => rfl)) pa_nil))))))) pss_nil)
      (pss_cons (ps_if (pt_cmpR op_eq (pe_callB (call_lenQ : CallR _ _ (rLenQ K)) (by rfl) T.len bLen (pa_cons (pv 0) pa_nil)) pe_int (nomark _)) (pss_one (ps_ret (StX.pe_makeR M G_tinit (hr.mono (by decide)) rfl gC pL (pa_cons (pe_ix (ix_list : IxR _ (rIxL K)) (pv 0) pe_int (fun _ _ => rfl)) (pa_cons (pe_ix (ix_list : IxR _ (rIxL K)) (pv 0) pe_int (fun _ _ => rfl)) (pa_cons (pe_ix (ix_list : IxR _ (rIxL K)) (pv 0) pe_int (fun _ _ => rfl)) (pa_cons (pe_ix (ix_list : IxR _ (rIxL K)) (pv 0) pe_int (fun _ _ => rfl)) (pa_cons (pe_ix (ix_list : IxR _ (rIxL K)) (pv 0) pe_int (fun _ _ => rfl)) pa_nil)))))))) pss_nil)
      (pss_cons (ps_if (pt_cmpR op_eq (pe_callB (call_lenQ : CallR _ _ (rLenQ K)) (by rfl) T.len bLen (pa_cons (pv 0) pa_nil)) pe_int (nomark _)) (pss_one (ps_ret (StX.pe_makeR M G_tinit (hr.mono (by decide)) rfl gC pL (pa_cons (pe_ix (ix_list : IxR _ (rIxL K)) (pv 0) pe_int (fun _ _ => rfl)) (pa_cons (pe_ix (ix_list : IxR _ (rIxL K)) (pv 0) pe_int (fun _ _ => rfl)) (pa_cons (pe_ix (ix_list : IxR _ (rIxL K)) (pv 0) pe_int (fun _ _ => rfl)) (pa_cons (pe_ix (ix_list : IxR _ (rIxL K)) (pv 0) pe_int (fun _ _ => rfl)) (pa_cons (pe_ix (ix_list : IxR _ (rIxL K)) (pv 0) pe_int (fun _ _ => rfl)) (pa_cons (pe_ix (ix_list : IxR _ (rIxL K)) (pv 0) pe_int (fun _ _ => rfl)) (pa_cons (pe_ix (ix_list : IxR _ (rIxL K)) (pv 0) pe_int (fun _ _ => rfl)) (pa_cons (pe_ix (ix_list : IxR _ (rIxL K)) (pv 0) pe_int (fun _ _ => rfl)) pa_nil))))))))))) pss_nil)
      (pss_cons (ps_if (pt_cmpR op_eq (pe_callB (call_lenQ : CallR _ _ (rLenQ K)) (by rfl) T.len bLen (pa_cons (pv 0) pa_nil)) pe_int (nomark _)) (pss_one (ps_ret (StX.pe_makeR M G_tinit (hr.mono (by decide)) rfl gC pL (pa_cons (pe_ix (ix_list : IxR _ (rIxL K)) (pv 0) pe_int (fun _ _ => rfl)) (pa_cons (pe_ix (ix_list : IxR _ (rIxL K)) (pv 0) pe_int (fun _ _ => rfl)) (pa_cons (pe_ix (ix_list : IxR _ (rIxL K)) (pv 0) pe_int (fun _ _ => rfl)) (pa_cons (pe_ix (ix_list : IxR _ (rIxL K)) (pv 0) pe_int (fun _ _ => rfl)) (pa_cons (pe_ix (ix_list : IxR _ (rIxL K)) (pv 0) pe_int (fun _ _ => rfl)) (pa_cons (pe_ix (ix_list : IxR _ (rIxL K)) (pv 0) pe_int (fun _ _ => rfl)) (pa_cons (pe_ix (ix_list : IxR _ (rIxL K)) (pv 0) pe_int (fun _ _ => rfl)) (pa_cons (pe_ix (ix_list : IxR _ (rIxL K)) (pv 0) pe_int (fun _ _ => rfl)) (pa_cons (pe_ix (ix_list : IxR _ (rIxL K)) (pv 0) pe_int (fun _ _ => rfl)) (pa_cons (pe_ix (ix_list : IxR _ (rIxL K)) (pv 0) pe_int (fun _ _ => rfl)) (pa_cons (pe_ix (ix_list : IxR _ (rIxL K)) (pv 0) pe_int (fun _ _ => rfl)) (pa_cons (pe_ix (ix_list : IxR _ (rIxL K)) (pv 0) pe_int (fun _ _ => rfl)) pa_nil))))))))))))))) pss_nil)
      (pss_one (ps_ret (StX.pe_makeR M G_tinit (hr.mono (by decide)) rfl gC pL (pa_cons (pe_ix (ix_list : IxR _ (rIxL K)) (pv 0) pe_int (fun _ _ => rfl)) (pa_cons (pe_ix (ix_list : IxR _ (rIxL K)) (pv 0) pe_int (fun _ _ => rfl)) (pa_cons (pe_ix (ix_list : IxR _ (rIxL K)) (pv 0) pe_int (fun _ _ => rfl)) (pa_cons (pe_ix (ix_list : IxR _ (rIxL K)) (pv 0) pe_int (fun _ _ => rfl)) (pa_cons (pe_ix (ix_list : IxR _ (rIxL K)) (pv 0) pe_int (fun _ _ => rfl)) (pa_cons (pe_ix (ix_list : IxR _ (rIxL K)) (pv 0) pe_int (fun _ _ => rfl)) (pa_cons (pe_ix (ix_list : IxR _ (rIxL K)) (pv 0) pe_int (fun _ _ => rfl)) (pa_cons (pe_ix (ix_list : IxR _ (rIxL K)) (pv 0) pe_int (fun _ _ => rfl)) (pa_cons (pe_ix (ix_list : IxR _ (rIxL K)) (pv 0) pe_int (fun _ _ => rfl)) (pa_cons (pe_ix (ix_list : IxR _ (rIxL K)) (pv 0) pe_int (fun _ _ => rfl)) (pa_cons (pe_ix (ix_list : IxR _ (rIxL K)) (pv 0) pe_int (fun _ _ => rfl)) (pa_cons (pe_ix (ix_list : IxR _ (rIxL K)) (pv 0) pe_int (fun _ _ => rfl)) (pa_cons (pe_ix (ix_list : IxR _ (rIxL K)) (pv 0) pe_int (fun _ _ => rfl)) pa_nil)))))))))))))))))))))))), ?_⟩
  have tC1 : ∀ {F' : Hp} {σ : L2.St} {i : Int}, EvD (tC (.int i)) σ F' (.int i) := e_int
  have s00 : Same H H := Same.refl H
  refine go_ifS (b := decide (((es.length : Nat) : Int) = 0)) fr0 (b_test (e_eqI (e_lenL (K := K) (e_var rfl rX)) tC1)) (fun z H1 s1 fr1 => ?_) fun z0 H1 s1 fr1 => ?_
  · have ln : es.length = 0 := by
      have := of_decide_eq_true z
      omega
    replace rX := rX.mono (offS_mono (S := S) s1)
    have st := s00.trans s1
    match es, ln with
    | [], _ => exact go_retMake (N := N) fr1 a_nil (Nat.le_of_ble_eq_true rfl) (fun n H' s' => kE n H' (st.trans s')) fun hA ks e v H' s' tv => kQ hA ks e v H' (st.trans s') tv
  replace rX := rX.mono (offS_mono (S := S) s1)
  have st1 := s00.trans s1
  refine go_ifS (b := decide (((es.length : Nat) : Int) = 1)) fr1 (b_test (e_eqI (e_lenL (K := K) (e_var rfl rX)) tC1)) (fun z H1 s1 fr1 => ?_) fun z1 H2 s2 fr2 => ?_
  · have ln : es.length = 1 := by
      have := of_decide_eq_true z
      omega
    replace rX := rX.mono (offS_mono (S := S) s1)
    have st := st1.trans s1
    match es, ln with
    | [a0], _ => exact go_retMake (N := N) fr1 (a_cons (e_ixL (n := 0) (e_var rfl rX) tC1 rfl rfl) a_nil) (Nat.le_of_ble_eq_true rfl) (fun n H' s' => kE n H' (st.trans s')) fun hA ks e v H' s' tv => kQ hA ks e v H' (st.trans s') tv
  replace rX := rX.mono (offS_mono (S := S) s2)
  have st2 := st1.trans s2
  refine go_ifS (b := decide (((es.length : Nat) : Int) = 2)) fr2 (b_test (e_eqI (e_lenL (K := K) (e_var rfl rX)) tC1)) (fun z H1 s1 fr1 => ?_) fun z2 H3 s3 fr3 => ?_
  · have ln : es.length = 2 := by
      have := of_decide_eq_true z
      omega
    replace rX := rX.mono (offS_mono (S := S) s1)
    have st := st2.trans s1
    match es, ln with
    | [a0, a1], _ => exact go_retMake (N := N) fr1 (a_cons (e_ixL (n := 0) (e_var rfl rX) tC1 rfl rfl) (a_cons (e_ixL (n := 1) (e_var rfl rX) tC1 rfl rfl) a_nil)) (Nat.le_of_ble_eq_true rfl) (fun n H' s' => kE n H' (st.trans s')) fun hA ks e v H' s' tv => kQ hA ks e v H' (st.trans s') tv
  replace rX := rX.mono (offS_mono (S := S) s3)
  have st3 := st2.trans s3
  refine go_ifS (b := decide (((es.length : Nat) : Int) = 3)) fr3 (b_test (e_eqI (e_lenL (K := K) (e_var rfl rX)) tC1)) (fun z H1 s1 fr1 => ?_) fun z3 H4 s4 fr4 => ?_
  · have ln : es.length = 3 := by
      have := of_decide_eq_true z
      omega
    replace rX := rX.mono (offS_mono (S := S) s1)
    have st := st3.trans s1
    match es, ln with
    | [a0, a1, a2], _ => exact go_retMake (N := N) fr1 (a_cons (e_ixL (n := 0) (e_var rfl rX) tC1 rfl rfl) (a_cons (e_ixL (n := 1) (e_var rfl rX) tC1 rfl rfl) (a_cons (e_ixL (n := 2) (e_var rfl rX) tC1 rfl rfl) a_nil))) (Nat.le_of_ble_eq_true rfl) (fun n H' s' => kE n H' (st.trans s')) fun hA ks e v H' s' tv => kQ hA ks e v H' (st.trans s') tv
  replace rX := rX.mono (offS_mono (S := S) s4)
  have st4 := st3.trans s4
  refine go_ifS (b := decide (((es.length : Nat) : Int) = 4)) fr4 (b_test (e_eqI (e_lenL (K := K) (e_var rfl rX)) tC1)) (fun z H1 s1 fr1 => ?_) fun z4 H5 s5 fr5 => ?_
  · have ln : es.length = 4 := by
      have := of_decide_eq_true z
      omega
    replace rX := rX.mono (offS_mono (S := S) s1)
    have st := st4.trans s1
    match es, ln with
    | [a0, a1, a2, a3], _ => exact go_retMake (N := N) fr1 (a_cons (e_ixL (n := 0) (e_var rfl rX) tC1 rfl rfl) (a_cons (e_ixL (n := 1) (e_var rfl rX) tC1 rfl rfl) (a_cons (e_ixL (n := 2) (e_var rfl rX) tC1 rfl rfl) (a_cons (e_ixL (n := 3) (e_var rfl rX) tC1 rfl rfl) a_nil)))) (Nat.le_of_ble_eq_true rfl) (fun n H' s' => kE n H' (st.trans s')) fun hA ks e v H' s' tv => kQ hA ks e v H' (st.trans s') tv
  replace rX := rX.mono (offS_mono (S := S) s5)
  have st5 := st4.trans s5
  refine go_ifS (b := decide (((es.length : Nat) : Int) = 5)) fr5 (b_test (e_eqI (e_lenL (K := K) (e_var rfl rX)) tC1)) (fun z H1 s1 fr1 => ?_) fun z5 H6 s6 fr6 => ?_
  · have ln : es.length = 5 := by
      have := of_decide_eq_true z
      omega
    replace rX := rX.mono (offS_mono (S := S) s1)
    have st := st5.trans s1
    match es, ln with
    | [a0, a1, a2, a3, a4], _ => exact go_retMake (N := N) fr1 (a_cons (e_ixL (n := 0) (e_var rfl rX) tC1 rfl rfl) (a_cons (e_ixL (n := 1) (e_var rfl rX) tC1 rfl rfl) (a_cons (e_ixL (n := 2) (e_var rfl rX) tC1 rfl rfl) (a_cons (e_ixL (n := 3) (e_var rfl rX) tC1 rfl rfl) (a_cons (e_ixL (n := 4) (e_var rfl rX) tC1 rfl rfl) a_nil))))) (Nat.le_of_ble_eq_true rfl) (fun n H' s' => kE n H' (st.trans s')) fun hA ks e v H' s' tv => kQ hA ks e v H' (st.trans s') tv
  replace rX := rX.mono (offS_mono (S := S) s6)
  have st6 := st5.trans s6
  refine go_ifS (b := decide (((es.length : Nat) : Int) = 8)) fr6 (b_test (e_eqI (e_lenL (K := K) (e_var rfl rX)) tC1)) (fun z H1 s1 fr1 => ?_) fun z6 H7 s7 fr7 => ?_
  · have ln : es.length = 8 := by
      have := of_decide_eq_true z
      omega
    replace rX := rX.mono (offS_mono (S := S) s1)
    have st := st6.trans s1
    match es, ln with
    | [a0, a1, a2, a3, a4, a5, a6, a7], _ => exact go_retMake (N := N) fr1 (a_cons (e_ixL (n := 0) (e_var rfl rX) tC1 rfl rfl) (a_cons (e_ixL (n := 1) (e_var rfl rX) tC1 rfl rfl) (a_cons (e_ixL (n := 2) (e_var rfl rX) tC1 rfl rfl) (a_cons (e_ixL (n := 3) (e_var rfl rX) tC1 rfl rfl) (a_cons (e_ixL (n := 4) (e_var rfl rX) tC1 rfl rfl) (a_cons (e_ixL (n := 5) (e_var rfl rX) tC1 rfl rfl) (a_cons (e_ixL (n := 6) (e_var rfl rX) tC1 rfl rfl) (a_cons (e_ixL (n := 7) (e_var rfl rX) tC1 rfl rfl) a_nil)))))))) (Nat.le_of_ble_eq_true rfl) (fun n H' s' => kE n H' (st.trans s')) fun hA ks e v H' s' tv => kQ hA ks e v H' (st.trans s') tv
  replace rX := rX.mono (offS_mono (S := S) s7)
  have st7 := st6.trans s7
  refine go_ifS (b := decide (((es.length : Nat) : Int) = 12)) fr7 (b_test (e_eqI (e_lenL (K := K) (e_var rfl rX)) tC1)) (fun z H1 s1 fr1 => ?_) fun z7 H8 s8 fr8 => ?_
  · have ln : es.length = 12 := by
      have := of_decide_eq_true z
      omega
    replace rX := rX.mono (offS_mono (S := S) s1)
    have st := st7.trans s1
    match es, ln with
    | [a0, a1, a2, a3, a4, a5, a6, a7, a8, a9, a10, a11], _ => exact go_retMake (N := N) fr1 (a_cons (e_ixL (n := 0) (e_var rfl rX) tC1 rfl rfl) (a_cons (e_ixL (n := 1) (e_var rfl rX) tC1 rfl rfl) (a_cons (e_ixL (n := 2) (e_var rfl rX) tC1 rfl rfl) (a_cons (e_ixL (n := 3) (e_var rfl rX) tC1 rfl rfl) (a_cons (e_ixL (n := 4) (e_var rfl rX) tC1 rfl rfl) (a_cons (e_ixL (n := 5) (e_var rfl rX) tC1 rfl rfl) (a_cons (e_ixL (n := 6) (e_var rfl rX) tC1 rfl rfl) (a_cons (e_ixL (n := 7) (e_var rfl rX) tC1 rfl rfl) (a_cons (e_ixL (n := 8) (e_var rfl rX) tC1 rfl rfl) (a_cons (e_ixL (n := 9) (e_var rfl rX) tC1 rfl rfl) (a_cons (e_ixL (n := 10) (e_var rfl rX) tC1 rfl rfl) (a_cons (e_ixL (n := 11) (e_var rfl rX) tC1 rfl rfl) a_nil)))))))))))) (Nat.le_of_ble_eq_true rfl) (fun n H' s' => kE n H' (st.trans s')) fun hA ks e v H' s' tv => kQ hA ks e v H' (st.trans s') tv
  replace rX := rX.mono (offS_mono (S := S) s8)
  have st8 := st7.trans s8
  have ln : es.length = 13 := by
    have a0 := of_decide_eq_false z0
    have a1 := of_decide_eq_false z1
    have a2 := of_decide_eq_false z2
    have a3 := of_decide_eq_false z3
    have a4 := of_decide_eq_false z4
    have a5 := of_decide_eq_false z5
    have a6 := of_decide_eq_false z6
    have a7 := of_decide_eq_false z7
    simp only [List.mem_cons, List.not_mem_nil, or_false] at hl
    omega
  match es, ln with
  | [a0, a1, a2, a3, a4, a5, a6, a7, a8, a9, a10, a11, a12], _ => exact go_retMake (N := N) fr8 (a_cons (e_ixL (n := 0) (e_var rfl rX) tC1 rfl rfl) (a_cons (e_ixL (n := 1) (e_var rfl rX) tC1 rfl rfl) (a_cons (e_ixL (n := 2) (e_var rfl rX) tC1 rfl rfl) (a_cons (e_ixL (n := 3) (e_var rfl rX) tC1 rfl rfl) (a_cons (e_ixL (n := 4) (e_var rfl rX) tC1 rfl rfl) (a_cons (e_ixL (n := 5) (e_var rfl rX) tC1 rfl rfl) (a_cons (e_ixL (n := 6) (e_var rfl rX) tC1 rfl rfl) (a_cons (e_ixL (n := 7) (e_var rfl rX) tC1 rfl rfl) (a_cons (e_ixL (n := 8) (e_var rfl rX) tC1 rfl rfl) (a_cons (e_ixL (n := 9) (e_var rfl rX) tC1 rfl rfl) (a_cons (e_ixL (n := 10) (e_var rfl rX) tC1 rfl rfl) (a_cons (e_ixL (n := 11) (e_var rfl rX) tC1 rfl rfl) (a_cons (e_ixL (n := 12) (e_var rfl rX) tC1 rfl rfl) a_nil))))))))))))) (Nat.le_of_ble_eq_true rfl) (fun n H' s' => kE n H' (st8.trans s')) fun hA ks e v H' s' tv => kQ hA ks e v H' (st8.trans s') tv
end
end Q
set_option maxHeartbeats 1000000
namespace Ca
open PySem PySem.Spec PyProof.Rows L2
/-! data == an instance with its own ==: the data's own kind declines, then the instance is asked -/
section
variable {P : Program} {w : World} {A : Around} {E : Value → Shared → Prop} {s : Shared} {K : PySem.W.Frag} {x C f : Addr} {ox : Obj} {od : Option Obj} {Q : Fin → Shared → Prop}
/-- x, an instance of C, is of none of the built-in kinds -/
def NoKind (K : PySem.W.Frag) (C : Addr) : Prop := ∀ T ∈ tyN, PySem.W.subIn K (.ref C) (.type T) = some false
theorem isn_no {T : String} (kin : K.In s.heap) (J : PySem.W.InstAt s.heap x ox C od) (h : PySem.W.subIn K (.ref C) (.type T) = some false) : PySem.W.Looks (model P w) s.heap (isInstance (.ref x) (.type T)) false := J.type.andThen (PySem.W.looks_subIn kin h)
theorem none_no (q : Q (.done (.ret .notImplemented)) s) : wpAny (model P w) A (Builtin.«NoneType.__eq__» ⟨[.none, .ref x], []⟩) Q E s := by
  unfold Builtin.«NoneType.__eq__»
  repeat wp_step
  exact q
theorem list_no {l : Addr} (h : PySem.W.Looks (model P w) s.heap (isInstance (.ref x) (.type "list")) false) (q : Q (.done (.ret .notImplemented)) s) : wpAny (model P w) A (Builtin.«list.__eq__» ⟨[.ref l, .ref x], []⟩) Q E s := by
  unfold Builtin.«list.__eq__»
  repeat (first
    | (refine wpAny_bind (m := isInstance (.ref x) (.type "list")) (h.here ?_))
    | wp_step)
  exact q
theorem tuple_no {l : Addr} (h : PySem.W.Looks (model P w) s.heap (isInstance (.ref x) (.type "tuple")) false) (q : Q (.done (.ret .notImplemented)) s) : wpAny (model P w) A (Builtin.«tuple.__eq__» ⟨[.ref l, .ref x], []⟩) Q E s := by
  unfold Builtin.«tuple.__eq__»
  repeat (first
    | (refine wpAny_bind (m := isInstance (.ref x) (.type "tuple")) (h.here ?_))
    | wp_step)
  exact q
theorem dict_no {l : Addr} (h : PySem.W.Looks (model P w) s.heap (isInstance (.ref x) (.type "dict")) false) (q : Q (.done (.ret .notImplemented)) s) : wpAny (model P w) A (Builtin.«dict.__eq__» ⟨[.ref l, .ref x], []⟩) Q E s := by
  unfold Builtin.«dict.__eq__»
  repeat (first
    | (refine wpAny_bind (m := isInstance (.ref x) (.type "dict")) (h.here ?_))
    | wp_step)
  exact q
theorem str_no {t : PySem.Str} {u : Nat} (J : PySem.W.InstAt s.heap x ox C od) (hd : ox.data = .plain) (q : Q (.done (.ret .notImplemented)) s) : wpAny (model P w) A (Builtin.«str.__eq__» ⟨[.str t u, .ref x], []⟩) Q E s := by
  unfold Builtin.«str.__eq__»
  repeat wp_step
  refine wpAny_load J.at_ ?_
  rw [hd]
  repeat wp_step
  exact q
theorem int_no {i : Int} {u : Nat} (J : PySem.W.InstAt s.heap x ox C od) (hd : ox.data = .plain) (q : Q (.done (.ret .notImplemented)) s) : wpAny (model P w) A (Builtin.«int.__eq__» ⟨[.int i u, .ref x], []⟩) Q E s := by
  unfold Builtin.«int.__eq__»
  repeat wp_step
  refine wpAny_load J.at_ ?_
  rw [hd]
  repeat wp_step
  exact q
theorem bool_no {b : Bool} (J : PySem.W.InstAt s.heap x ox C od) (hd : ox.data = .plain) (q : Q (.done (.ret .notImplemented)) s) : wpAny (model P w) A (Builtin.«int.__eq__» ⟨[.bool b, .ref x], []⟩) Q E s := by
  unfold Builtin.«int.__eq__»
  repeat wp_step
  refine wpAny_load J.at_ ?_
  rw [hd]
  repeat wp_step
  exact q
/-- the kind of a value, its own ==, and that this declines -/
def Declines (P : Program) (w : World) (s : Shared) (a : Value) (x : Addr) (T : String) : Prop := s.TypeIs a T ∧ ∃ id, Slot T "__eq__" id ∧ ∀ (A : Around) (E : Value → Shared → Prop) (R : Value → Shared → Prop), R .notImplemented s → wpAny (model P w) A (call (.builtin id) [a, .ref x]) R E s
open PySem.W in
theorem rev_eq {T : String} {a : Value} {Q : Value → Shared → Prop} (hu : A.units < cLine) (kin : K.In s.heap) (J : InstAt s.heap x ox C od) (hs : findIn K (.ref C) "__eq__" = some (some (.ref f))) (hf : isFn K (.ref f) = true) (ns : subIn K (.ref C) (.type T) = some false)
    (dc : Declines P w s a x T) (go : wpAny (model P w) A (call (.ref f) [.ref x, a]) (fun v s' => ∃ c, v = .bool c ∧ Q (.bool c) s') E s) : wpAny (model P w) A (richCompare .Eq a (.ref x)) Q E s := by
  obtain ⟨hT, id, sl, dec⟩ := dc
  unfold richCompare
  simp only [hT.oneThing_none]
  refine wpAny_holding (wpAny_bind (wpAny_cRoomFor hu (wpAny_bind (wpAny_typeOf hT (wpAny_bind (J.type.here ?_))))))
  have ne : (Value.type T != Value.ref C) = true := by
    rw [bne_iff_ne]
    exact fun z => by cases z
  simp only [ne, if_true]
  refine wpAny_bind ((looks_subIn kin ns).here ?_)
  simp only [if_false, Bool.not_false, Bool.false_eq_true, if_true]
  refine wpAny_bind (m := tryCompare a _ (.ref x)) (wpAny_tryCompare_declines hT sl (dec _ _ _ ⟨rfl, ?_⟩))
  refine wpAny_bind (m := tryCompare (.ref x) _ a) ?_
  unfold tryCompare
  refine wpAny_bind (ifBound_K kin J hs hf (wpAny_mono go (fun r s' hr => ?_) fun _ _ e => e))
  obtain ⟨c, rfl, hq⟩ := hr
  exact wpAny_pure (show wpAny (model P w) A (pure (Value.bool c)) Q E _ from wpAny_pure hq)
end
/-- x == y: x data or a list, y an instance with its own == -/
def rRevO (C : Addr) (sp : Sp) (E : XK) : R2 := fun x y H Q => ∃ a dx fs, y = .ref a ∧ H a = some (.ins C dx fs) ∧ ((∃ d, Rp H x d) ∨ ∃ b xs, x = .ref b ∧ H b = some (.lst xs)) ∧ sp [y, x] H (fun v H' => ∃ c, v = .bl c ∧ Q (.bl c) H') E
section
variable {X : Cx} {CX : CXT} {k : Nat} {f C : Addr} {fd : FuncData} {ps : List PySem.Str} {sp : Sp} {E : XK}
theorem op_eqRev (o : OwnCmp X.K C f) (nk : NoKind X.K C) (G : FnOk X.prog X.w X.K X.mg X.base CX k f fd ps sp) (hb : Binds X.K fd ps []) (hr : Room k X.A) (hx : Passes CX X E) : OpR X (compareOp .Eq) (rRevO C sp E) := by
  intro pins s σ H x y v u Q I rx ry h
  obtain ⟨a, dx, fs, rfl, ha, hk, q⟩ := h
  have eu : u = Value.ref a := ry
  subst eu
  obtain ⟨mA, O, _⟩ := ins_get I.hok ha
  obtain ⟨od, J, _⟩ := O.look
  have go : wpAny (model X.prog X.w) X.A (call (.ref f) [.ref a, v]) (fun r s' => ∃ c, r = .bool c ∧ EP X pins σ Q (.bool c) s') X.xe s := by
    refine wpAny_mono (run_fnS (E := fun _ => E) G hr hb (fun pins H s e s' I c => hx pins σ H s e s' I c) I (.cons ry (.cons rx .nil)) q) (fun r s' z => ?_) fun _ _ z => z
    obtain ⟨vv, H', J', rv, c, rfl, q'⟩ := z
    cases (show r = _ from rv)
    exact ⟨c, rfl, .bl c, H', J', rfl, q'⟩
  have lst : ∀ b xs, x = .ref b → H b = some (.lst xs) → Declines X.prog X.w s v a "list" := fun b xs e h => by
    subst e
    cases (show v = Value.ref b from rx)
    obtain ⟨its, rv, pl, _⟩ := I.list (.inl (.inl h))
    obtain ⟨ob, h1, h2, n, h3⟩ := pl.isList
    exact ⟨⟨ob, h1, h2⟩, _, F.slot_list_eq, fun A E R r => wpAny_call_entry F.slot_list_eq ⟨ob, h1, h2⟩ F.entry_list_eq (list_no (isn_no I.kIn J (nk _ (by simp [tyN]))) ⟨_, rfl, r⟩) (F.args_list_eq_2 _ _)⟩
  have dc : ∃ T ∈ tyN, Declines X.prog X.w s v a T := by
    rcases hk with ⟨d, r⟩ | ⟨b, xs, e, h⟩
    · cases r with
      | non =>
        cases (show v = Value.none from rx)
        exact ⟨"NoneType", by simp [tyN], rfl, _, F.slot_NoneType_eq, fun A E R r => wpAny_call_entry F.slot_NoneType_eq rfl F.entry_NoneType_eq (none_no ⟨_, rfl, r⟩) (F.args_NoneType_eq_2 _ _)⟩
      | bl c =>
        cases (show v = Value.bool c from rx)
        exact ⟨"bool", by simp [tyN], rfl, _, F.slot_bool_eq, fun A E R r => wpAny_call_entry F.slot_bool_eq rfl F.entry_int_eq (bool_no J rfl ⟨_, rfl, r⟩) (F.args_int_eq_2 _ _)⟩
      | int i =>
        obtain ⟨t, e⟩ := (show ∃ t, v = Value.int i t from rx)
        subst e
        exact ⟨"int", by simp [tyN], rfl, _, F.slot_int_eq, fun A E R r => wpAny_call_entry F.slot_int_eq rfl F.entry_int_eq (int_no J rfl ⟨_, rfl, r⟩) (F.args_int_eq_2 _ _)⟩
      | str i =>
        obtain ⟨t, e⟩ := (show ∃ t, v = Value.str i t from rx)
        subst e
        exact ⟨"str", by simp [tyN], rfl, _, F.slot_str_eq, fun A E R r => wpAny_call_entry F.slot_str_eq rfl F.entry_str_eq (str_no J rfl ⟨_, rfl, r⟩) (F.args_str_eq_2 _ _)⟩
      | @lst b xs _ h _ => exact ⟨"list", by simp [tyN], lst b xs rfl h⟩
      | @tup b xs _ h _ =>
        cases (show v = Value.ref b from rx)
        obtain ⟨its, rv, ⟨ob, h1, h2, n, h3⟩, _⟩ := I.tuple (.inl (.inl h))
        exact ⟨"tuple", by simp [tyN], ⟨ob, h1, h2⟩, _, F.slot_tuple_eq, fun A E R r => wpAny_call_entry F.slot_tuple_eq ⟨ob, h1, h2⟩ F.entry_tuple_eq (tuple_no (isn_no I.kIn J (nk _ (by simp [tyN]))) ⟨_, rfl, r⟩) (F.args_tuple_eq_2 _ _)⟩
      | @dic b h =>
        cases (show v = Value.ref b from rx)
        obtain ⟨_, _, vs, _, D⟩ := dk_of I.hok h
        exact ⟨"dict", by simp [tyN], D.typeIs, _, F.slot_dict_eq, fun A E R r => wpAny_call_entry F.slot_dict_eq D.typeIs F.entry_dict_eq (dict_no (isn_no I.kIn J (nk _ (by simp [tyN]))) ⟨_, rfl, r⟩) (F.args_dict_eq_2 _ _)⟩
    · exact ⟨"list", by simp [tyN], lst b xs e h⟩
  obtain ⟨T, hT, dc⟩ := dc
  exact rev_eq hr.units0 I.kIn J o.has o.fn (nk T hT) dc go
end
end Ca

set_option maxHeartbeats 1000000
namespace Ca
open PySem PySem.Spec PyProof.Rows L2
/-! ### repr of data or of an own instance -/
def rReprA (C : Addr) (sp : Sp) : List V → Hp → VK → Prop := fun xs H Q => rRepr xs H Q ∨ ∃ a dx fs, xs = [.ref a] ∧ H a = some (.ins C dx fs) ∧ sp [.ref a] H (fun v H' => ∃ z : PySem.Str, v = .str z ∧ Q (.str z) H') E0
theorem call_reprA {X : Cx} {C f : Addr} {k : Nat} {fd : FuncData} {sp : Sp} (sm : ∃ o, X.K.lookup sysModules = some o) (hg : X.A.guards = some []) (hs : PySem.W.findIn X.K (.ref C) "__repr__" = some (some (.ref f))) (hf : PySem.W.isFn X.K (.ref f) = true)
    (F : FnOk X.prog X.w X.K X.mg X.base CX0 k f fd ["self"] sp) (hb : Binds X.K fd ["self"] []) (hr : Room (k + 1) X.A) : CallR X (.builtin "repr") (rReprA C sp) := by
  intro pins s σ H xs us Q I r h
  rcases h with h | ⟨a, dx, fs, rfl, ha, q⟩
  · exact call_repr sm hg hr pins s σ H xs us Q I r h
  · obtain ⟨u, rfl, r1⟩ := r.one
    cases (show u = Value.ref a from r1)
    obtain ⟨mA, O, _⟩ := ins_get I.hok ha
    obtain ⟨od, J, _⟩ := O.look
    obtain ⟨m, fr⟩ := I.fr
    have hu : X.A.in1.units < cLine := hr.in1.units0
    refine PySem.W.repr_K hu fr I.ok.mod.kin J hs hf ?_
    have r2 : Vals [V.ref a] [Value.ref a] := .cons rfl .nil
    refine wpAny_call (codeAny_mono (F.run X.A.in1 X.stack s H ⟨[.ref a], []⟩ [.ref a] [.ref a] _ E0 hr.in1 I.env0.in1 (hb s [.ref a] I.kIn (by simp)) r2 q) fun r s' hq => ?_)
    cases r with
    | error e => exact False.elim hq
    | ok fl =>
      cases fl with
      | ret u =>
        obtain ⟨v, H', J', rv, z, rfl, q2⟩ := I.after hq
        obtain ⟨t, rfl⟩ := rv
        exact ⟨.str z, H', J', ⟨t, rfl⟩, q2⟩
      | _ => exact False.elim hq
section
variable {σ : L2.St} {F : Hp} {ta te : TE} {C : Addr} {sp : Sp} {d : PyData} {n : Nat}
theorem e_reprD (h : EvD ta σ F d) (ft : Fit d 60 n) (big : n ≤ sizeLine) : EvD (tCB (rReprA C sp) (tCons ta tNil)) σ F (.str d.shown) := fun S H1 f s Q q => by
  show ta σ H1 fun x H2 => rReprA C sp [x] H2 Q
  exact h S H1 f s _ fun v H2 s2 r => .inl ⟨v, d, rfl, r.mono offS_same, ft.sh, ft.dp, Nat.le_trans ft.ln big, q _ H2 s2 (.str _)⟩
end
end Ca

set_option maxHeartbeats 1000000
namespace Q
open PySem PySem.Spec PyProof.Rows L2 Ca
/-! ### a table == any value; repr of a table -/
instance decRow : DecidableEq Ro := fun a b => decidable_of_iff (a.k = b.k ∧ a.l = b.l ∧ a.r = b.r ∧ a.n = b.n) ⟨fun ⟨h1, h2, h3, h4⟩ => by cases a; cases b; simp_all, fun h => by rw [h]; exact ⟨rfl, rfl, rfl, rfl⟩⟩
theorem row_eqv (a b : Ro) : PyData.eqv (roD a) (roD b) = decide (a = b) := by
  rw [Bool.eq_iff_iff, decide_eq_true_eq]
  unfold roD
  constructor
  · intro h
    simp [PyData.eqv, PyData.eqvAll] at h
    cases a
    cases b
    simp_all
  · intro h
    subst h
    simp [PyData.eqv, PyData.eqvAll]
theorem rows_eqvA : ∀ ks ls : List Ro, PyData.eqvAll (ks.map roD) (ls.map roD) = decide (ks = ls)
  | [], [] => rfl
  | [], b :: ls => by simp [PyData.eqvAll]
  | a :: ks, [] => by simp [PyData.eqvAll]
  | a :: ks, b :: ls => by
    rw [List.map_cons, List.map_cons]
    show (PyData.eqv (roD a) (roD b) && PyData.eqvAll (ks.map roD) (ls.map roD)) = _
    rw [row_eqv, rows_eqvA ks ls, Bool.eq_iff_iff, Bool.and_eq_true, decide_eq_true_eq, decide_eq_true_eq, decide_eq_true_eq, List.cons.injEq]
theorem rows_eqv (ks ls : List Ro) : PyData.eqv (.tuple (ks.map roD)) (.tuple (ls.map roD)) = decide (ks = ls) := by
  rw [← rows_eqvA]
  rfl
theorem cq_rows {n : Nat} {rs : List Ro} (h : ∀ a ∈ rs, GoodR a) : Cq (n + 2) (.tuple (rs.map roD)) := cq_tup fun d hd => by
  obtain ⟨a, ha, rfl⟩ := List.mem_map.mp hd
  exact cq_ro (h a ha)
abbrev s_teq : Stmt := inClass cT 5
abbrev n_teq : List PySem.Str := ["self", "other"]
theorem sc_teq : FnScope n_teq ["self", "other"] (defScope s_teq) := ⟨rfl, rfl, rfl, by decide +kernel, rfl, by decide +kernel, by decide +kernel⟩
abbrev s_trepr : Stmt := inClass cT 6
abbrev n_trepr : List PySem.Str := ["self"]
theorem sc_trepr : FnScope n_trepr ["self"] (defScope s_trepr) := ⟨rfl, rfl, rfl, by decide +kernel, rfl, by decide +kernel, by decide +kernel⟩
/-- a table == a table or a value that is none -/
def ITEq (D : Addr) : Hp → List V → (Hp → V → Prop) → Prop := fun F vs P => ∃ vt vo ks b, vs = [vt, vo] ∧ TV D ks F vt ∧ (∀ a ∈ ks, GoodR a) ∧ ((∃ ls, TV D ls F vo ∧ (∀ a ∈ ls, GoodR a) ∧ b = decide (ks = ls)) ∨ (OddV F vo ∧ b = false)) ∧ P = fun H v => Rp H v (.bool b)
def ITRep (D : Addr) : Hp → List V → (Hp → V → Prop) → Prop := fun F vs P => ∃ vt ks, vs = [vt] ∧ TV D ks F vt ∧ ks.length ≤ 1000 ∧ P = fun H v => Rp H v (.str (saidW ks.length))
section
variable {P : Program} {w : World} {K : PySem.W.Frag} {mg : PySem.Str → Option Value} {base : Heap}
theorem ok_teq {f D N : Addr} {fd : FuncData} (F : FnM K "__eq__" "Table.__eq__" s_teq f fd) (T : Tx K mg) (TQ : TT K mg D N) (ic : IsC K D) (gD : mg "Table" = some (.ref D)) : FnOk P w K mg base CX0 1 f fd ["self", "other"] (spQ (ITEq D)) := by
  refine F.ok sc_teq (spQ_len (by rintro _ _ _ ⟨vt, vo, ks, b, rfl, _⟩; rfl)) (fun cdv A outer s H vs Q E hr h => ?_)
  obtain ⟨S, P0, fr, ⟨vt, vo, ks, b, rfl, tv, gk, to, rfl⟩, q⟩ := h
  refine ⟨_, PSs.nox (pss_one (ps_ret (pe_and (pe_callB (call_isi : CallR _ _ (rIsi K)) (by rfl) T.isi bIsi (pa_cons (pv 1) (pa_cons (pe_glob (v := .ref D) rfl gD rfl) pa_nil))) (pe_one (pe_cmpR (op_eqD hr.units : OpR _ _ (rEqD K)) (pe_fld (pv 0) rfl) (pe_fld (pv 1) rfl) (nomark _)))))), ?_⟩
  have mo : ∀ {F'}, Same (offS S H) F' → TV D ks F' vt := fun s => tv.mono s
  rcases to with ⟨ls, to, gl, rfl⟩ | ⟨od, rfl⟩
  · exact go_ret (P := fun H v => Rp H v (.bool (decide (ks = ls)))) fr (eqD (e_and (e_isiC (K := K) (P0 := TV D ls) TQ.cl ic (e_varP rfl fun _ sm => to.mono sm) (fun F v p => .inl ⟨rfl, ls, p⟩) (fun S H1 f s Q q => q _ H1 (Same.refl _) rfl) fun _ _ _ s h => h.mono s) fun _ => e_eqD (K := K) (e_kept TQ.cl TQ.nK (e_varP (P := TV D ks) rfl fun _ sm => tv.mono sm)) (e_kept TQ.cl TQ.nK (e_varP (P := TV D ls) rfl fun _ sm => to.mono sm)) (cq_rows (n := 0) gk).ok (cq_rows (n := 0) gl).ok) (by rw [rows_eqv, Bool.true_and])) q
  · exact go_ret (P := fun H v => Rp H v (.bool false)) fr (eqD (e_and (a := false) (b := false) (e_isiC (K := K) (P0 := OddV) TQ.cl ic (e_varP rfl fun _ sm => od.mono sm) (fun F v p => .inr ⟨rfl, p⟩) (fun S H1 f s Q q => q _ H1 (Same.refl _) rfl) mon_odd) fun z => by cases z) rfl) q
theorem ok_trepr {f D N : Addr} {fd : FuncData} (F : FnM K "__repr__" "Table.__repr__" s_trepr f fd) (T : Tx K mg) (TQ : TT K mg D N) : FnOk P w K mg base CX0 1 f fd ["self"] (spQ (ITRep D)) := by
  refine F.ok sc_trepr (spQ_len (by rintro _ _ _ ⟨vt, ks, rfl, _⟩; rfl)) (fun cdv A outer s H vs Q E hr h => ?_)
  obtain ⟨S, P0, fr, ⟨vt, ks, rfl, tv, hz, rfl⟩, q⟩ := h
  refine ⟨_, PSs.nox (pss_one (ps_ret (pe_joinedQ (.cons pe_str (.cons (pe_fmt (pe_callB (call_lenQ : CallR _ _ (rLenQ K)) (by rfl) T.len bLen (pa_cons (pe_fld (pv 0) rfl) pa_nil))) (.cons pe_str .nil)))))), ?_⟩
  have n5 : (dg ((ks.length : Nat) : Int)).length ≤ 5 := num5 (by omega) (by omega)
  have e6 : (PySem.Str.ofString "Table(").length = 6 := by decide +kernel
  have e7 : (PySem.Str.ofString " rows)").length = 6 := by decide +kernel
  exact go_ret (P := fun H v => Rp H v (.str (saidW ks.length))) fr (eqD (e_joined (ys := [PySem.Str.ofString "Table(", dg ((ks.length : Nat) : Int), PySem.Str.ofString " rows)"]) (.cons e_str (.cons (e_fmtI (eqD (e_lenT (e_kept TQ.cl TQ.nK (e_varP (P := TV D ks) rfl fun _ sm => tv.mono sm))) (by rw [List.length_map])) (log99 (by omega) (by omega))) (.cons e_str .nil))) (by
    unfold lens
    simp only [List.map_cons, List.map_nil, List.sum_cons, List.sum_nil]
    omega)) rfl) q
end
section
variable {K : PySem.W.Frag} {σ : L2.St} {F : Hp} {ta tb : TE} {D : Addr} {E : XK} {ks ls : List Ro} {ne : Bool}
theorem e_cmpT (h1 : EvP ta σ F (TV D ks)) (h2 : EvP tb σ F (TV D ls)) (cl : Cls K D) (ic : IsC K D) (gk : ∀ a ∈ ks, GoodR a) (gl : ∀ a ∈ ls, GoodR a) : EvD (tOp (rCmpO K D (spQ (ITEq D)) E ne) ta tb) σ F (.bool (decide (ks = ls) != ne)) := fun S H1 f s Q q =>
  h1 S H1 f s _ fun v H2 s2 p => h2 S H2 (f.mono s2) (s.trans (offS_mono s2)) _ fun w H3 s3 p3 => by
    have p' := p.mono (offS_mono (S := S) s3)
    obtain ⟨a, dx, o, e, ha, _⟩ := id p'
    subst e
    exact ⟨a, dx, _, .ref D, rfl, offS_same _ _ ha, (p3.mono offS_same).ty cl ic, .inl rfl, S, _, f.mono (s2.trans s3), ⟨_, w, ks, _, rfl, p', gk, .inl ⟨ls, p3, gl, rfl⟩, rfl⟩, fun v H4 s4 r4 => by
      cases r4
      exact ⟨_, rfl, q _ H4 ((s2.trans s3).trans s4) (.bl _)⟩⟩
theorem e_cmpN (h1 : EvP ta σ F (TV D ks)) (h2 : EvP tb σ F OddV) (gk : ∀ a ∈ ks, GoodR a) : EvD (tOp (rCmpO K D (spQ (ITEq D)) E ne) ta tb) σ F (.bool ne) := fun S H1 f s Q q =>
  h1 S H1 f s _ fun v H2 s2 p => h2 S H2 (f.mono s2) (s.trans (offS_mono s2)) _ fun w H3 s3 p3 => by
    have p' := p.mono (offS_mono (S := S) s3)
    obtain ⟨a, dx, o, e, ha, _⟩ := id p'
    subst e
    obtain ⟨T, hT, ty⟩ := (p3.mono (offS_same (S := S))).ty (K := K)
    exact ⟨a, dx, _, .type T, rfl, offS_same _ _ ha, ty, .inr ⟨T, hT, rfl⟩, S, _, f.mono (s2.trans s3), ⟨_, w, ks, false, rfl, p', gk, .inr ⟨p3, rfl⟩, rfl⟩, fun v H4 s4 r4 => by
      cases r4
      exact ⟨_, rfl, q _ H4 ((s2.trans s3).trans s4) (by rw [Bool.false_bne]; exact .bl _)⟩⟩
theorem e_revN (h1 : EvP ta σ F OddV) (h2 : EvP tb σ F (TV D ks)) (gk : ∀ a ∈ ks, GoodR a) : EvD (tOp (rRevO D (spQ (ITEq D)) E) ta tb) σ F (.bool false) := fun S H1 f s Q q =>
  h1 S H1 f s _ fun v H2 s2 p => h2 S H2 (f.mono s2) (s.trans (offS_mono s2)) _ fun w H3 s3 p3 => by
    have p' := p.mono (offS_mono (S := S) s3)
    obtain ⟨a, dx, o, e, ha, _⟩ := id p3
    subst e
    exact ⟨a, dx, _, rfl, offS_same _ _ ha, p'.mono offS_same, S, _, f.mono (s2.trans s3), ⟨_, v, ks, false, rfl, p3, gk, .inr ⟨p', rfl⟩, rfl⟩, fun v H4 s4 r4 => by
      cases r4
      exact ⟨_, rfl, q _ H4 ((s2.trans s3).trans s4) (.bl _)⟩⟩
end
end Q

set_option maxHeartbeats 4000000
namespace Q
open PySem PySem.Spec PyProof.Rows L2 Ca
/-! ### _law_said -/
abbrev s_lsd : Stmt := top 44
abbrev n_lsd : List PySem.Str := ["_law_some_here", "_law_made"]
theorem sc_lsd : FnScope n_lsd ["_law_some_here"] (defScope s_lsd) := ⟨rfl, rfl, rfl, by decide +kernel, rfl, by decide +kernel, by decide +kernel⟩
theorem rpa_rev {H : Hp} : ∀ {xs : List V} {ds : List PyData}, RpA H xs ds → RpA H xs.reverse ds.reverse
  | _, _, .nil => .nil
  | _, _, .cons h r => by
    rw [List.reverse_cons, List.reverse_cons]
    exact (rpa_rev r).append (.cons h .nil)
section
variable {K : PySem.W.Frag} {σ : L2.St} {F : Hp} {ta : TE} {C N : Addr} {es : List PyData} {ks : List Ro}
theorem e_revL (h : EvD ta σ F (.list es)) : EvD (tRevL K ta) σ F (.list es.reverse) := fun S H1 f s Q q => h S H1 f s _ fun v H2 s2 r => by
  obtain ⟨a, xs, rfl, ha, rx⟩ := rp_lst r
  exact ⟨a, xs, rfl, .inl (.inl ha), fun p hp => q _ _ (s2.trans (same_new hp)) (.lst (offS_new (f.mono s2) hp) ((rpa_rev rx).mono (offS_mono (same_new hp))))⟩
theorem e_built {E : XK} (h : EvD ta σ F (.list es)) (hA : AreR es) (hk : srtD es = ks.map roD) (hl : es.length ∈ [0, 1, 2, 3, 4, 5, 8, 12, 13]) : EvP (tCall (spBuilt C N) [] E (tCons ta tNil)) σ F (TV C ks) := fun S H1 f s Q q =>
  h S H1 f s _ fun v H2 s2 r => ⟨S, v, es, rfl, f.mono s2, r, hl, fun n => absurd hA n, fun _ ls e v3 H3 s3 tv => by
    have : ls = ks := roD_inj (e.symm.trans hk)
    subst this
    exact q v3 H3 (s2.trans s3) tv⟩
theorem e_reprT (h : EvP ta σ F (TV C ks)) (l : ks.length ≤ 1000) : EvD (tCB (rReprA C (spQ (ITRep C))) (tCons ta tNil)) σ F (.str (saidW ks.length)) := fun S H1 f s Q q => by
  show ta σ H1 fun x H2 => rReprA C (spQ (ITRep C)) [x] H2 Q
  refine h S H1 f s _ fun v H2 s2 p => ?_
  obtain ⟨a, dx, o, rfl, ha⟩ := tv_ins p
  refine .inr ⟨a, dx, _, rfl, offS_same _ _ ha, S, _, f.mono s2, ⟨_, ks, rfl, p, l, rfl⟩, fun v H3 s3 r => ?_⟩
  cases r
  exact ⟨_, rfl, q _ H3 (s2.trans s3) (.str _)⟩
theorem e_lenTV (h : EvP ta σ F (TV C ks)) (hz : ks.length ≤ 1000) : EvD (tCB (rLenO C (spQ (ITLen C))) (tCons ta tNil)) σ F (.int (ks.length : Int)) := fun S H1 f s Q q => by
  show ta σ H1 fun x H2 => rLenO C (spQ (ITLen C)) [x] H2 Q
  refine h S H1 f s _ fun v H2 s2 p => ?_
  obtain ⟨a, dx, o, rfl, ha⟩ := tv_ins p
  refine ⟨a, dx, _, rfl, offS_same _ _ ha, S, _, f.mono s2, ⟨_, ks, rfl, p, rfl⟩, fun v H3 s3 r => ?_⟩
  cases r
  exact ⟨_, rfl, by omega, by omega, q _ H3 (s2.trans s3) (.int _)⟩
theorem e_oddD {d : PyData} (h : EvD ta σ F d) : EvP ta σ F OddV := fun S H1 f s Q q => h S H1 f s _ fun v H2 s2 r => q v H2 s2 (.inl ⟨d, r⟩)
end
def spSaid : Sp := fun vs H Q _ => ∃ (S : Addr → Bool) (v : V) (es : List PyData), vs = [v] ∧ Fr S H ∧ Rp (offS S H) v (.list es) ∧ es.length ∈ [0, 1, 2, 3, 4, 5, 8, 12, 13] ∧ ∀ v' H', Same H H' → Rp (offS S H') v' (dueD es) → Q v' H'
section
variable {P : Program} {w : World} {K : PySem.W.Frag} {mg : PySem.Str → Option Value} {base : Heap}
theorem ok_lsd {f fB C N pR fA ftext fL fR fQ : Addr} {fd fdB fdA fdtext fdL fdR fdQ : FuncData} (F : FnP K "_law_said" s_lsd f fd) (T : Tx K mg) (TQ : TT K mg C N) (ic : IsC K C)
    (G_lbu : FnOk P w K mg base (L2.CX P w) 8 fB fdB ["_law_some_here"] (spBuilt C N)) (b_lbu : Binds K fdB ["_law_some_here"] []) (k_lbu : PySem.W.keepIn K (.ref fB) = true) (m_lbu : mg "_law_built" = some (.ref fB)) (exm : PySem.W.exmOne K (.ref N) (.ref N) = some true)
    (GR : FnOk P w K mg base CX0 1 fA fdA ["self"] (spQ (ITRows C))) (bR : Binds K fdA ["self"] []) (hR : PropOf K C "rows" pR fA)
    (Gtext : FnOk P w K mg base CX0 2 ftext fdtext ["self"] (spQ (ITText C))) (btext : Binds K fdtext ["self"] []) (Mtext : Meth K C "text" ftext)
    (hsL : PySem.W.findIn K (.ref C) "__len__" = some (some (.ref fL))) (hfL : PySem.W.isFn K (.ref fL) = true) (GLen : FnOk P w K mg base CX0 1 fL fdL ["self"] (spQ (ITLen C))) (bLen2 : Binds K fdL ["self"] [])
    (hsR : PySem.W.findIn K (.ref C) "__repr__" = some (some (.ref fR))) (hfR : PySem.W.isFn K (.ref fR) = true) (GRep : FnOk P w K mg base CX0 1 fR fdR ["self"] (spQ (ITRep C))) (bRep : Binds K fdR ["self"] [])
    (oT : OwnCmp K C fQ) (GTq : FnOk P w K mg base CX0 1 fQ fdQ ["self", "other"] (spQ (ITEq C))) (bTq : Binds K fdQ ["self", "other"] []) : FnG P w K mg base CX0 10 f spSaid := by
  refine fng_of F sc_lsd (FunD.bindsA (ps := ["_law_some_here"]) F fun _ _ _ _ _ _ us hl => match us, hl with | [_], _ => rfl) (fun vs H Q E h => ?_) (fun cdv A outer s0 H vs Q E hg hr h => ?_)
  · obtain ⟨S, v, es, rfl, _⟩ := h
    rfl
  obtain ⟨S, v, es, rfl, fr, rv, hl, q⟩ := h
  refine ⟨_, PSs.nox (pss_cons (ps_try_many (tb := fun W => tAsg (tCall (spBuilt C N) [] (fun cls d H => ∀ σ, W cls d σ H) (tCons (tVar 0) tNil)) (gName 1)) (Wout := fun _ _ _ _ => False) rfl rfl takes_none5 (fun W pn xe tk _ => pss_one (ps_set (i := 1) sc_lsd.nd rfl (.inl rfl) (pe_call G_lbu (hr.mono (by decide)) rfl m_lbu k_lbu b_lbu .nil (passW tk) (pa_cons (pv 0) pa_nil)))) (.cons (c := .ref N) (ts := fun _ _ _ => tRet (tC (.str "rows"))) ⟨rfl, by decide, .inl TQ.gN⟩ (fun a oe cls d pn hz hfl => pss_one (ps_ret pe_str)) .nil)) (pss_one (ps_ret (pe_lst (pa_cons (pe_prop (pv 1) TQ.cl hR GR (hr.mono (by decide)) bR .nil pass0 rfl) (pa_cons (pe_callB (call_lenO hsL hfL GLen bLen2 (hr.mono (by decide)) : CallR _ _ (rLenO C (spQ (ITLen C)))) (by rfl) T.len bLen (pa_cons (pv 1) pa_nil)) (pa_cons (pe_callB (call_reprA T.sm hg hsR hfR GRep bRep (hr.mono (by decide)) : CallR _ _ (rReprA C (spQ (ITRep C)))) (by rfl) T.repr bRepr (pa_cons (pv 1) pa_nil)) (pa_cons (pe_meth0 (pv 1) TQ.cl Mtext Gtext (hr.mono (by decide)) btext .nil pass0) (pa_cons (pe_cmpR (op_eqO oT GTq bTq (hr.mono (by decide)) pass0) (pv 1) (pe_call G_lbu (hr.mono (by decide)) rfl m_lbu k_lbu b_lbu .nil passL (pa_cons (pe_revL (pv 0)) pa_nil)) (nomark _)) (pa_cons (pe_cmpR (op_eqO oT GTq bTq (hr.mono (by decide)) pass0) (pv 1) (pe_prop (pv 1) TQ.cl hR GR (hr.mono (by decide)) bR .nil pass0 rfl) (nomark _)) pa_nil)))))))))), ?_⟩
  refine ⟨_, rfl, S, v, es, rfl, fr, rv, hl, fun hA H1 s1 σ => ⟨true, exm, fun _ b hb => q _ H1 s1 (by rw [due_no hA]; exact .str _), fun z => by cases z⟩, fun hA ks es' v1 H1 s1 tv => ?_⟩
  rw [due_yes hA] at q
  have o1 := offS_mono (S := S) s1
  have rv1 := rv.mono o1
  have fr1 := fr.mono s1
  obtain ⟨l12, rs, rfl, g, nd⟩ := id hA
  rw [List.length_map] at l12
  have pk := srt_perm es'
  have gk := srt_good es' g
  have lk : ks.length = rs.length := pk.length_eq
  have tv' : ∀ {F'}, Same (offS S H1) F' → EvP (tVar 1) [some v, some v1] F' (TV C ks) := fun s => e_varP rfl fun _ sm => (tv.mono s).mono sm
  have prev : (rs.reverse).Perm rs := List.reverse_perm rs
  have hAr : AreR (rs.map roD).reverse := by
    rw [← List.map_reverse]
    exact are_perm prev hA
  have esr : srtD (rs.map roD).reverse = ks.map roD := by
    rw [← List.map_reverse, srt_sameD prev, es']
  refine go_ret (P := fun H v => Rp H v (rowsD (rs.map roD))) fr1 (eqD (e_lst (ds := [.tuple (ks.map roD), .int (ks.length : Int), .str (saidW ks.length), .str (txr ks), .bool true, .bool false]) (a_cons (e_prop (tv' (Same.refl _)) tv_rows) (a_cons (e_lenTV (tv' (Same.refl _)) (by omega)) (a_cons (e_reprT (tv' (Same.refl _)) (by omega)) (a_cons (e_meth0 (tv' (Same.refl _)) (tv_text gk (by omega))) (a_cons (eqD (e_cmpT (K := K) (tv' (Same.refl _)) (e_built (N := N) (e_revL (K := K) (e_var rfl rv1)) hAr esr (by rw [List.length_reverse]; exact hl)) TQ.cl ic gk gk) (by simp)) (a_cons (e_cmpN (K := K) (tv' (Same.refl _)) (e_oddD (e_prop (tv' (Same.refl _)) tv_rows)) gk) a_nil)))))) (by simp)) ?_) fun v3 H3 s3 r3 => q v3 H3 (s1.trans s3) r3
  unfold rowsD
  rw [es', un_ros, List.length_map, lk]
end
end Q

set_option maxHeartbeats 4000000
namespace Q
open PySem PySem.Spec PyProof.Rows L2 Ca
/-! ### _law_some -/
section
variable {K : PySem.W.Frag} {s : Addr} {σ : L2.St} {F : Hp} {ta tb te t1 t2 : TE} {P P1 P2 : Hp → V → Prop} {d : PyData} {ds : List PyData}
def EvBD (s : Addr) (tt : L2.TT) (σ : L2.St) (F : Hp) : Prop := ∀ (S : Addr → Bool) (H1 : Hp), Fr S H1 → S s = true → Src H1 s → Same F (offS S H1) → ∀ Q : Bool → Hp → Prop, (∀ b H2, Kp s H1 H2 → Src H2 s → Q b H2) → tt σ H1 Q
theorem bd_eq {lo hi z : Int} (h : EvK s te σ F (IntP lo hi)) : EvBD s (tTest (tOp rEq te (tC (.int z)))) σ F := fun S H1 f hS hc sm Q q => h S H1 f hS hc sm _ fun v H2 k2 c2 ⟨x, e, _⟩ => by
  subst e
  exact ⟨rfl, _, rfl, q _ H2 k2 c2⟩
theorem e_lstOfT (h : EvD ta σ F (.tuple ds)) : EvD (tCB (rLstQ K) (tCons ta tNil)) σ F (.list ds) := e_cb (a_cons h a_nil) fun S H vs f r Q q => by
  obtain ⟨v, rfl, r1⟩ := rpa1 r
  obtain ⟨a, xs, rfl, ha, rx⟩ := rp_tup r1
  exact ⟨a, xs, rfl, .inr (.inl (.inl ha)), fun l hl => q _ _ (same_new hl) (.lst (offS_new f hl) (rx.mono (offS_mono (same_new hl))))⟩
theorem e_lastL (ha : EvD ta σ F (.list ds)) (hb : EvD tb σ F (.int (-1))) (hd : ds.getLast? = some d) : EvD (tOp (rIxL K) ta tb) σ F d := e_op ha hb fun S H x y f rx ry Q q => by
  obtain ⟨a, xs, rfl, h1, r1⟩ := rp_lst rx
  cases ry
  obtain ⟨es, rfl⟩ := List.getLast?_eq_some_iff.mp hd
  obtain ⟨v, hv, rv⟩ := r1.at (show (es ++ [d])[es.length]? = some d by simp)
  have lx := r1.length
  rw [List.length_append] at lx
  have e : xs = xs.take es.length ++ [v] := by
    have h2 : es.length < xs.length := by
      rw [lx]
      exact Nat.lt_succ_self _
    rw [List.getElem?_eq_getElem h2] at hv
    have h3 : xs.drop es.length = [v] := by
      rw [List.drop_eq_getElem_cons h2, Option.some.inj hv, List.drop_of_length_le (by rw [lx]; exact Nat.le_refl _)]
    rw [← h3, List.take_append_drop]
  refine ⟨a, xs, -1, v, rfl, rfl, .inl (.inl h1), ?_, q _ H (Same.refl _) rv⟩
  rw [e]
  exact atI_last _ v
variable {S : Addr → Bool} {H : Hp} {D : L2.Ends} {t u : TS}
theorem go_ifAnd {t1 t2 : L2.TT} {a b : TS} {c : Bool} (f : Fr S H) (h : EvB t1 σ (offS S H) c) (k1 : c = true → ∀ H', Same H H' → t2 σ H' fun c H1 => if c = true then a D σ H1 else b D σ H1) (k2 : c = false → ∀ H', Same H H' → b D σ H') :
    tIfS (tAnd t1 t2) a b D σ H := h S H f (Same.refl _) _ fun H' s => by
  cases c with
  | true => exact k1 rfl H' s
  | false => exact k2 rfl H' s
theorem go_parK {i j : Nat} (f : Fr S H) (hS : S s = true) (hc : Src H s) (h1 : EvK s t1 σ (offS S H) P1) (h2 : EvK s t2 σ (offS S H) P2) (m1 : Mon P1)
    (k : ∀ v w H', Kp s H H' → Src H' s → Fr S H' → P1 (offS S H') v → P2 (offS S H') w → u D ((σ.set i (some v)).set j (some w)) H') : tSeq (tPar i j (tCons t1 (tCons t2 tNil))) u D σ H :=
  h1 S H f hS hc (Same.refl _) _ fun v H2 k2 c2 p1 => h2 S H2 (k2.fr c2 f) hS c2 (k2.off hS) _ fun w H3 k3 c3 p2 => ⟨v, w, rfl, k v w H3 (k2.trans k3) c3 ((k2.trans k3).fr c3 f) (m1 _ _ _ (k3.off hS) p1) p2⟩
theorem go_putK {p : Addr} {i j n : Nat} {xs : List V} (f : Fr S H) (hS : S s = true) (hc : Src H s) (ne : p ≠ s) (hv : σ[i]? = some (some (.ref p))) (hj : σ[j]? = some (some (.int (n : Int)))) (hp : H p = some (.lst xs)) (hn : n < xs.length) (h : EvK s te σ (offS S H) P)
    (k : ∀ y H', Kp s H H' → Src H' s → H' p = some (.lst xs) → P (offS S H') y → D.nx σ (upd H' p (.lst (xs.set n y)))) : tAsg te (gSub (tVar i) (tVar j) L2.rSetL) D σ H :=
  h S H f hS hc (Same.refl _) _ fun v H' k' c r => ⟨_, hv, _, hj, p, xs, _, n, rfl, rfl, k' _ _ ne hp, by
    unfold ixN
    simp [hn], k v H' k' c (k' _ _ ne hp) r⟩
theorem go_appK {p : Addr} {i : Nat} {xs : List V} (f : Fr S H) (hS : S s = true) (hc : Src H s) (ne : p ≠ s) (hv : σ[i]? = some (some (.ref p))) (hp : H p = some (.lst xs)) (h : EvK s te σ (offS S H) P) (hz : xs.length ≤ 900)
    (k : ∀ y H', Kp s H H' → Src H' s → H' p = some (.lst xs) → P (offS S H') y → D.nx σ (upd H' p (.lst (xs ++ [y])))) : tDrop (tBM K "list" rAppend (tVar i) (tCons te tNil)) D σ H :=
  ⟨_, hv, .inl ⟨rfl, _, .inl (.inl hp)⟩, h S H f hS hc (Same.refl _) _ fun v H' k' c r => ⟨p, xs, v, rfl, rfl, k' _ _ ne hp, small1000 (by omega), k v H' k' c (k' _ _ ne hp) r⟩⟩
theorem go_newL {i : Nat} (f : Fr S H) (k : ∀ p H', H p = none → Same H H' → Fr (addS S p) H' → H' p = some (.lst []) → u D (σ.set i (some (.ref p))) H') : tSeq (tAsg (tLst tNil) (gName i)) u D σ H :=
  ⟨Nat.zero_le _, fun p hp => by
    have s := same_new (o := .lst []) hp
    exact k p _ hp s ((f.mono s).add upd_same trivial) upd_same⟩
end
theorem src_upd {H : Hp} {s p : Addr} {o : HO} (hs : Src H s) (h : p ≠ s) : Src (upd H p o) s := by
  obtain ⟨a, b, c, e⟩ := hs
  exact ⟨a, b, c, by rw [upd_ne h.symm]; exact e⟩
theorem fr_upd {S : Addr → Bool} {H : Hp} {p : Addr} {xs : List V} (f : Fr (addS S p) H) : Fr (addS S p) (upd H p (.lst xs)) := fun a ha => by
  by_cases e : a = p
  · exact ⟨.lst xs, by rw [e]; exact upd_same, trivial⟩
  · obtain ⟨o, h, m⟩ := f a ha
    exact ⟨o, by rw [upd_ne e]; exact h, m⟩
/-- a list of data at fo, to be changed -/
structure DIv (S : Addr → Bool) (s fo : Addr) (H0 : Hp) (ds : List PyData) (H : Hp) : Prop where
  kp : Kp s H0 H
  src : Src H s
  fr : Fr (addS S fo) H
  f0 : H0 fo = none
  sfo : S fo = false
  ss : S s = true
  at_ : ∃ xs, H fo = some (.lst xs) ∧ RpA (offS (addS S fo) H) xs ds
theorem rpa_setD {H : Hp} {v : V} {d : PyData} : ∀ {xs : List V} {ds : List PyData} (j : Nat), RpA H xs ds → Rp H v d → RpA H (xs.set j v) (ds.set j d)
  | _, _, _, .nil, _ => .nil
  | _, _, 0, .cons _ r, h => .cons h r
  | _, _, j + 1, .cons h r, h2 => .cons h (rpa_setD j r h2)
section
variable {S : Addr → Bool} {s fo : Addr} {H0 H H' : Hp} {ds : List PyData}
theorem DIv.frS (h : DIv S s fo H0 ds H) : Fr S H := fun a ha => h.fr a (by simp [addS, ha])
theorem DIv.ss1 (h : DIv S s fo H0 ds H) : addS S fo s = true := addS_s h.ss
theorem DIv.ns (h : DIv S s fo H0 ds H) : fo ≠ s := fun z => by
  have a := h.sfo
  rw [z, h.ss] at a
  cases a
theorem DIv.rp (h : DIv S s fo H0 ds H) : Rp (offS S H) (.ref fo) (.list ds) := by
  obtain ⟨xs, e, r⟩ := h.at_
  exact .lst (by rw [offS_at h.sfo]; exact e) (r.mono addS_off)
theorem DIv.step (h : DIv S s fo H0 ds H) (k : Kp s H H') (c : Src H' s) : DIv S s fo H0 ds H' := by
  obtain ⟨xs, e, r⟩ := h.at_
  exact ⟨h.kp.trans k, c, k.fr c h.fr, h.f0, h.sfo, h.ss, xs, k _ _ h.ns e, r.mono (k.off h.ss1)⟩
theorem DIv.same (h : DIv S s fo H0 ds H) (k : Same H H') : DIv S s fo H0 ds H' := h.step (.of k) (src_same h.src k)
theorem DIv.upd (h : DIv S s fo H0 ds H) {xs : List V} {cs : List PyData} (r : RpA (offS (addS S fo) H) xs cs) : DIv S s fo H0 cs (upd H fo (.lst xs)) := by
  refine ⟨fun b o hb e => ?_, src_upd h.src h.ns, fr_upd h.fr, h.f0, h.sfo, h.ss, xs, upd_same, r.mono addS_upd⟩
  rw [upd_ne (fun z => by rw [z, h.f0] at e; cases e)]
  exact h.kp b o hb e
end
theorem ro_hid {S S' : Addr → Bool} {H : Hp} {v : V} {c : Ro} (f : Fr S' H) (r : Rp (offS S H) v (roD c)) : Rp (offS S' H) v (roD c) := by
  obtain ⟨p, xs, rfl, hp, rx⟩ := rp_tup r
  refine .tup (by rw [offS_at (f.imm hp (by simp [MutO]))]; exact hp) ?_
  cases rx with
  | cons h1 rx =>
    cases h1
    cases rx with
    | cons h1 rx =>
      cases h1
      cases rx with
      | cons h1 rx =>
        cases h1
        cases rx with
        | cons h1 rx =>
          cases h1
          cases rx
          exact .cons (.str _) (.cons (.int _) (.cons (.int _) (.cons (.int _) .nil)))
/-- what may stand among the values -/
def OkE (e : PyData) : Prop := First e ∧ Fit e 3 600
theorem ok_tup {ds : List PyData} (hp : ∀ d ∈ ds, Fit d 1 100) (hl : ds.length ≤ 5) (h0 : ∀ d, ds.head? = some d → eqOk d = true) : OkE (.tuple ds) := ⟨fun k l r n e => by
  cases e
  exact h0 k rfl, (fit_tuple hp hl).mono (by decide) (by decide)⟩
theorem first_no {e : PyData} (h : ∀ ds, e ≠ .tuple ds) : First e := fun k l r n z => absurd z (h _)
def oddA (a : Ro) : List PyData := [roD a, .tuple [.str a.k, .int a.l, .int a.r], .tuple [.str a.k, .int a.l, .int a.r, .int a.n, .int 1], .list [.str a.k, .int a.l, .int a.r, .int a.n], .none, .str "A 0 0 1", .tuple [roD a], .tuple [.str a.k, .int a.l, .int a.r, .int 0], .tuple [.str a.k, .int a.l, .int a.r, .int 10001]]
def oddB (a : Ro) : List PyData := [.tuple [.str "D", .int a.l, .int a.r, .int a.n], .tuple [.str "a", .int a.l, .int a.r, .int a.n], .tuple [.str a.k, .int 100, .int a.r, .int a.n], .tuple [.str a.k, .int a.l, .int (-1), .int a.n], .tuple []]
def oddC (a : Ro) : List PyData := [.tuple [.str a.k, .int a.l, .int a.r, .bool true], .tuple [.str a.k, .bool false, .int a.r, .int a.n], .tuple [.none, .int a.l, .int a.r, .int a.n], .tuple [.str a.k, .int a.l, .int a.r, .str "1"]]
def oddD (a : Ro) : List PyData := [.tuple [.list [], .int a.l, .int a.r, .int a.n], .tuple [.str a.k, .list [.int 0], .int a.r, .int a.n], .tuple [.str a.k, .int a.l, .dict [], .int a.n], .tuple [.str a.k, .int a.l, .int a.r, .list [.int 1]], .dict []]
def oddE (a : Ro) : List PyData := [.tuple [.str a.k, .int a.l, .int a.r, .int 10000], .tuple [.str a.k, .int 0, .int 99, .int 1]]
theorem fit_w {x : PySem.Str} (h : x.cps.toList.all (fun c => decide (c < 16 ^ 8)) = true) (l : x.length ≤ 9) : Fit (.str x) 1 100 := (fit_str (ascii_ofs h) l).mono (by decide) (by decide)
theorem fit_i {i : Int} (h : i.natAbs ≤ 100000) : Fit (.int i) 1 100 := (fit_int (by omega)).mono (by decide) (by decide)
theorem ok_ro {a : Ro} (g : GoodR a) : OkE (roD a) := by
  have := g.l0; have := g.l9; have := g.r0; have := g.r9; have := g.n1; have := g.n9
  refine ok_tup ?_ (Nat.le_of_ble_eq_true rfl) fun d e => by cases e; exact (cq_str (k := 1) (kind_sok g.k)).ok
  intro d hd
  obtain rfl | hd := List.mem_cons.mp hd
  · exact (fit_str (ascii_kind g.k) (m := 1) (by rw [kind1 g.k]; decide)).mono (by decide) (by decide)
  · simp only [List.mem_cons, List.not_mem_nil, or_false] at hd
    rcases hd with rfl | rfl | rfl <;> exact fit_i (by omega)
theorem odd_ok {a : Ro} (g : GoodR a) : ∀ d ∈ ((oddA a ++ oddB a) ++ oddC a) ++ oddD a ++ oddE a, OkE d := by
  have := g.l0; have := g.l9; have := g.r0; have := g.r9; have := g.n1; have := g.n9
  have fk : Fit (.str a.k) 1 100 := (fit_str (ascii_kind g.k) (m := 1) (by rw [kind1 g.k]; decide)).mono (by decide) (by decide)
  have fl : Fit (.int a.l) 1 100 := fit_i (by omega)
  have fr : Fit (.int a.r) 1 100 := fit_i (by omega)
  have fn : Fit (.int a.n) 1 100 := fit_i (by omega)
  have f0 : Fit (.int 0) 1 100 := fit_i (by decide)
  have f1 : Fit (.int 1) 1 100 := fit_i (by decide)
  have fm : Fit (.int (-1)) 1 100 := fit_i (by decide)
  have f99 : Fit (.int 99) 1 100 := fit_i (by decide)
  have f100 : Fit (.int 100) 1 100 := fit_i (by decide)
  have fM : Fit (.int 10000) 1 100 := fit_i (by decide)
  have fN : Fit (.int 10001) 1 100 := fit_i (by decide)
  have fT : Fit (.bool true) 1 100 := (fit_bool true).mono (by decide) (by decide)
  have fF : Fit (.bool false) 1 100 := (fit_bool false).mono (by decide) (by decide)
  have fO : Fit .none 1 100 := fit_none.mono (by decide) (by decide)
  have fD : Fit (.str "D") 1 100 := fit_w (by decide +kernel) (by decide +kernel)
  have fa : Fit (.str "a") 1 100 := fit_w (by decide +kernel) (by decide +kernel)
  have f1s : Fit (.str "1") 1 100 := fit_w (by decide +kernel) (by decide +kernel)
  have fl0 : Fit (.list []) 1 100 := (fit_list (k := 0) (n := 0) (m := 0) (fun d h => by cases h) (by decide)).mono (by decide) (by decide)
  have fl1 : Fit (.list [.int 0]) 1 100 := (fit_list (k := 0) (n := 20) (m := 1) (fun d h => by rw [List.mem_singleton.mp h]; exact fit_int (by decide)) (by decide)).mono (by decide) (by decide)
  have fl2 : Fit (.list [.int 1]) 1 100 := (fit_list (k := 0) (n := 20) (m := 1) (fun d h => by rw [List.mem_singleton.mp h]; exact fit_int (by decide)) (by decide)).mono (by decide) (by decide)
  have fd0 : Fit (.dict []) 1 100 := fit_dict0.mono (by decide) (by decide)
  have ek : eqOk (.str a.k) = true := (cq_str (k := 1) (kind_sok g.k)).ok
  have eD : eqOk (.str "D") = true := by decide +kernel
  have ea : eqOk (.str "a") = true := by decide +kernel
  have eO : eqOk .none = true := by decide +kernel
  have eL : eqOk (.list []) = true := by decide +kernel
  have frow : Fit (roD a) 2 600 := (fit_tuple (k := 1) (n := 100) (m := 4) (by
    intro d hd
    simp only [List.mem_cons, List.not_mem_nil, or_false] at hd
    rcases hd with rfl | rfl | rfl | rfl <;> assumption) (Nat.le_of_ble_eq_true rfl)).mono (by decide) (by decide)
  have t3 : ∀ {x y z : PyData}, Fit x 1 100 → Fit y 1 100 → Fit z 1 100 → eqOk x = true → OkE (.tuple [x, y, z]) := fun a b c e => ok_tup (by
    intro d hd
    simp only [List.mem_cons, List.not_mem_nil, or_false] at hd
    rcases hd with rfl | rfl | rfl <;> assumption) (Nat.le_of_ble_eq_true rfl) fun d h => by cases h; exact e
  have t4 : ∀ {x y z u : PyData}, Fit x 1 100 → Fit y 1 100 → Fit z 1 100 → Fit u 1 100 → eqOk x = true → OkE (.tuple [x, y, z, u]) := fun a b c f e => ok_tup (by
    intro d hd
    simp only [List.mem_cons, List.not_mem_nil, or_false] at hd
    rcases hd with rfl | rfl | rfl | rfl <;> assumption) (Nat.le_of_ble_eq_true rfl) fun d h => by cases h; exact e
  intro d hd
  simp only [oddA, oddB, oddC, oddD, oddE, List.cons_append, List.nil_append, List.mem_cons, List.not_mem_nil, or_false] at hd
  rcases hd with rfl | rfl | rfl | rfl | rfl | rfl | rfl | rfl | rfl | rfl | rfl | rfl | rfl | rfl | rfl | rfl | rfl | rfl | rfl | rfl | rfl | rfl | rfl | rfl | rfl
  · exact ok_ro g
  · exact t3 fk fl fr ek
  · exact ok_tup (by
      intro d hd
      simp only [List.mem_cons, List.not_mem_nil, or_false] at hd
      rcases hd with rfl | rfl | rfl | rfl | rfl <;> assumption) (Nat.le_of_ble_eq_true rfl) fun d h => by cases h; exact ek
  · exact ⟨first_no (fun ds z => by cases z), (fit_list (k := 1) (n := 100) (m := 4) (by
      intro d hd
      simp only [List.mem_cons, List.not_mem_nil, or_false] at hd
      rcases hd with rfl | rfl | rfl | rfl <;> assumption) (Nat.le_of_ble_eq_true rfl)).mono (by decide) (by decide)⟩
  · exact ⟨first_no (fun ds z => by cases z), fO.mono (by decide) (by decide)⟩
  · exact ⟨first_no (fun ds z => by cases z), (fit_w (x := "A 0 0 1") (by decide +kernel) (by decide +kernel)).mono (by decide) (by decide)⟩
  · exact ⟨(fun k l r n z => by cases z), (fit_tuple (k := 2) (n := 411) (m := 1) (fun d h => by
      rw [List.mem_singleton.mp h]
      exact (fit_tuple (k := 1) (n := 100) (m := 4) (by
        intro d hd
        simp only [List.mem_cons, List.not_mem_nil, or_false] at hd
        rcases hd with rfl | rfl | rfl | rfl <;> assumption) (Nat.le_of_ble_eq_true rfl)).mono (by decide) (by decide)) (Nat.le_of_ble_eq_true rfl)).mono (by decide) (by decide)⟩
  · exact t4 fk fl fr f0 ek
  · exact t4 fk fl fr fN ek
  · exact t4 fD fl fr fn eD
  · exact t4 fa fl fr fn ea
  · exact t4 fk f100 fr fn ek
  · exact t4 fk fl fm fn ek
  · exact ok_tup (fun d h => by cases h) (Nat.le_of_ble_eq_true rfl) fun d h => by cases h
  · exact t4 fk fl fr fT ek
  · exact t4 fk fF fr fn ek
  · exact t4 fO fl fr fn eO
  · exact t4 fk fl fr f1s ek
  · exact t4 fl0 fl fr fn eL
  · exact t4 fk fl1 fr fn ek
  · exact t4 fk fl fd0 fn ek
  · exact t4 fk fl fr fl2 ek
  · exact ⟨first_no (fun ds z => by cases z), fd0.mono (by decide) (by decide)⟩
  · exact t4 fk fl fr fM ek
  · exact t4 fk f0 f99 f1 ek
end Q

set_option maxHeartbeats 4000000
namespace Q
open PySem PySem.Spec PyProof.Rows L2 Ca
/-! ### _law_some -/
abbrev s_lsm : Stmt := top 46
abbrev n_lsm : List PySem.Str := ["_law_source_here", "_law_many", "_law_found", "_law_turn", "_law_kind", "_law_at", "_law_row", "_law_odd"]
theorem sc_lsm : FnScope n_lsm ["_law_source_here"] (defScope s_lsm) := ⟨rfl, rfl, rfl, by decide +kernel, rfl, by decide +kernel, by decide +kernel⟩
def ManyP : Hp → V → Prop := fun _ v => ∃ n : Nat, v = .int (n : Int) ∧ n ∈ [0, 1, 2, 3, 4, 5, 8, 12, 13]
theorem mon_many : Mon ManyP := fun _ _ _ _ h => h
theorem k_many {s : Addr} {σ : L2.St} {F : Hp} {n : Nat} (h : n ∈ [0, 1, 2, 3, 4, 5, 8, 12, 13]) : EvK s (tC (.int (n : Int))) σ F ManyP := k_of fun S H1 f sm Q q => q _ H1 (Same.refl _) ⟨n, rfl, h⟩
abbrev tHead (K : PySem.W.Frag) (n : Int) : TE := tSl (rSlA K) (tVar 6) tNoPart (tPart (tC (.int n)))
abbrev tTail (K : PySem.W.Frag) (n : Int) : TE := tSl (rSlA K) (tVar 6) (tPart (tC (.int n))) tNoPart
section
variable {K : PySem.W.Frag} {σ : L2.St} {F : Hp} {v : V} {a : Ro}
theorem e_head1 (h : σ[6]? = some (some v)) (r : Rp F v (roD a)) : EvD (tHead K 1) σ F (.tuple [.str a.k]) := eqD (e_slT (e_var h r) o_none (o_some e_int)) rfl
theorem e_head2 (h : σ[6]? = some (some v)) (r : Rp F v (roD a)) : EvD (tHead K 2) σ F (.tuple [.str a.k, .int a.l]) := eqD (e_slT (e_var h r) o_none (o_some e_int)) rfl
theorem e_head3 (h : σ[6]? = some (some v)) (r : Rp F v (roD a)) : EvD (tHead K 3) σ F (.tuple [.str a.k, .int a.l, .int a.r]) := eqD (e_slT (e_var h r) o_none (o_some e_int)) rfl
theorem e_tail1 (h : σ[6]? = some (some v)) (r : Rp F v (roD a)) : EvD (tTail K 1) σ F (.tuple [.int a.l, .int a.r, .int a.n]) := eqD (e_slT (e_var h r) (o_some e_int) o_none) rfl
theorem e_tail2 (h : σ[6]? = some (some v)) (r : Rp F v (roD a)) : EvD (tTail K 2) σ F (.tuple [.int a.r, .int a.n]) := eqD (e_slT (e_var h r) (o_some e_int) o_none) rfl
theorem e_tail3 (h : σ[6]? = some (some v)) (r : Rp F v (roD a)) : EvD (tTail K 3) σ F (.tuple [.int a.n]) := eqD (e_slT (e_var h r) (o_some e_int) o_none) rfl
end
theorem ls_rp {D : PyData → Prop} {F : Hp} {v : V} {ds : List PyData} (r : Rp F v (.list ds)) (h : ∀ d ∈ ds, D d) : LsP ds.length (RpP D) F v := by
  obtain ⟨a, xs, rfl, ha, rx⟩ : ∃ a xs, v = .ref a ∧ F a = some (.lst xs) ∧ RpA F xs ds := by
    cases r with
    | lst h r => exact ⟨_, _, rfl, h, r⟩
  refine ⟨a, xs, rfl, ha, rx.length, ?_⟩
  have : ∀ {xs : List V} {ds : List PyData}, RpA F xs ds → (∀ d ∈ ds, D d) → ∀ x ∈ xs, RpP D F x := by
    intro xs ds r
    induction ds generalizing xs with
    | nil =>
      cases r
      exact fun _ x hx => by cases hx
    | cons d ds ih =>
      cases r with
      | cons h1 r =>
        intro hd x hx
        rcases List.mem_cons.mp hx with rfl | hx
        · exact ⟨d, hd d (.head _), h1⟩
        · exact ih r (fun e he => hd e (.tail _ he)) x hx
  exact this rx h
def spSome : Sp := fun vs H Q _ => ∃ (S : Addr → Bool) (s : Addr), vs = [.ref s] ∧ Fr S H ∧ S s = true ∧ Src H s ∧
  ∀ (x : V) (es : List PyData) (H' : Hp), Kp s H H' → Src H' s → Rp (offS S H') x (.list es) → es.length ∈ [0, 1, 2, 3, 4, 5, 8, 12, 13] → (∀ e ∈ es, OkE e) → Q x H'
section
variable {P : Program} {w : World} {K : PySem.W.Frag} {mg : PySem.Str → Option Value} {base : Heap}
theorem ok_lsm {f : Addr} {fd : FuncData} (F : FnP K "_law_some" s_lsm f fd) (T : Tx K mg) (D_dr : Fd P w K mg base "_law_draw" 1 ["_law_source_here", "_law_many"] spDraw)
    (D_chl : Fd P w K mg base "_law_choose" 2 ["_law_source_here", "_law_values"] spChoose) : FnOk P w K mg base CX0 3 f fd ["_law_source_here"] spSome := by
  obtain ⟨f_dr, fd_dr, G_dr, b_dr, k_dr, m_dr⟩ := D_dr.ex
  obtain ⟨f_chl, fd_chl, G_chl, b_chl, k_chl, m_chl⟩ := D_chl.ex
  refine F.ok sc_lsm (fun vs H Q E h => ?_) (fun cdv A outer s0 H vs Q E hr h => ?_)
  · obtain ⟨S, s, rfl, _⟩ := h
    rfl
  obtain ⟨S, s, rfl, fr, hS, hc, q⟩ := h
  refine ⟨_, PSs.nox (pss_cons (ps_set (i := 1) sc_lsm.nd rfl (.inl rfl) (pe_call G_chl (hr.mono (by decide)) rfl m_chl k_chl b_chl .nil pass0 (pa_cons (pv 0) (pa_cons (pe_lst (pa_cons pe_int (pa_cons pe_int (pa_cons pe_int (pa_cons pe_int (pa_cons pe_int (pa_cons pe_int (pa_cons pe_int (pa_cons pe_int (pa_cons pe_int (pa_cons pe_int pa_nil))))))))))) pa_nil))))
      (pss_cons (ps_set (i := 2) sc_lsm.nd rfl (.inl rfl) (pe_lst pa_nil))
      (pss_cons (ps_for PassesOwn.never rfl (pi_range1 rfl T.range (pa_cons (pv 1) pa_nil)) (pg_name (i := 3) sc_lsm.nd rfl (.inl rfl)) (pss_cons (ps_set (i := 4) sc_lsm.nd rfl (.inl rfl) (pe_call G_chl (hr.mono (by decide)) rfl m_chl k_chl b_chl .nil pass0 (pa_cons (pv 0) (pa_cons (pe_lst (pa_cons pe_str (pa_cons pe_str (pa_cons pe_str pa_nil)))) pa_nil))))
      (pss_one (ps_expr (pe_bm PySem.F.plainAttrs_list PySem.F.slot_list_append PySem.F.type_list_append mt_append (pv 2) (pa_cons (pe_tup (pa_cons (pv 4) (pa_cons (pv 3) (pa_cons (pe_call G_dr (hr.mono (by decide)) rfl m_dr k_dr b_dr .nil pass0 (pa_cons (pv 0) (pa_cons pe_int pa_nil))) (pa_cons (pe_op op_add pe_int (pe_call G_dr (hr.mono (by decide)) rfl m_dr k_dr b_dr .nil pass0 (pa_cons (pv 0) (pa_cons pe_int pa_nil)))) pa_nil))))) pa_nil))))))
      (pss_cons (ps_if (PW.pt (pw_and (pt_cmpR op_gt (pv 1) pe_int (nomark _)) (pw_and1 (pt_cmpR op_eq (pe_call G_dr (hr.mono (by decide)) rfl m_dr k_dr b_dr .nil pass0 (pa_cons (pv 0) (pa_cons pe_int pa_nil))) pe_int (nomark _))))) (pss_cons (ps_par (i := 5) (j := 6) (by rfl) sc_lsm.nd rfl rfl (by decide) rfl rfl (pa_cons (pe_call G_dr (hr.mono (by decide)) rfl m_dr k_dr b_dr .nil pass0 (pa_cons (pv 0) (pa_cons (pv 1) pa_nil))) (pa_cons (pe_ix (ix_list : IxR _ (rIxL K)) (pv 2) (pe_un un_neg pe_int) (fun _ _ => rfl)) pa_nil)) (by rfl))
      (pss_cons (ps_set (i := 7) sc_lsm.nd rfl (.inl rfl) (pe_lst (pa_cons (pv 6) (pa_cons (pe_slice (sl_tupA : SlR _ (rSlA K)) (pv 6) po_none (po_some pe_int)) (pa_cons (pe_op (op_catA : OpR _ _ (rCatA K)) (pv 6) (pe_tup (pa_cons pe_int pa_nil))) (pa_cons (pe_callTy (call_lstQ : CallR _ _ (rLstQ K)) (by rfl) T.lst bLst (pa_cons (pv 6) pa_nil)) (pa_cons pe_non (pa_cons pe_str (pa_cons (pe_tup (pa_cons (pv 6) pa_nil)) (pa_cons (pe_op (op_catA : OpR _ _ (rCatA K)) (pe_slice (sl_tupA : SlR _ (rSlA K)) (pv 6) po_none (po_some pe_int)) (pe_tup (pa_cons pe_int pa_nil))) (pa_cons (pe_op (op_catA : OpR _ _ (rCatA K)) (pe_slice (sl_tupA : SlR _ (rSlA K)) (pv 6) po_none (po_some pe_int)) (pe_tup (pa_cons pe_int pa_nil))) pa_nil)))))))))))
      (pss_cons (ps_set (i := 7) sc_lsm.nd rfl (.inl rfl) (pe_op op_cat (pv 7) (pe_lst (pa_cons (pe_op (op_catA : OpR _ _ (rCatA K)) (pe_tup (pa_cons pe_str pa_nil)) (pe_slice (sl_tupA : SlR _ (rSlA K)) (pv 6) (po_some pe_int) po_none)) (pa_cons (pe_op (op_catA : OpR _ _ (rCatA K)) (pe_tup (pa_cons pe_str pa_nil)) (pe_slice (sl_tupA : SlR _ (rSlA K)) (pv 6) (po_some pe_int) po_none)) (pa_cons (pe_op (op_catA : OpR _ _ (rCatA K)) (pe_op (op_catA : OpR _ _ (rCatA K)) (pe_slice (sl_tupA : SlR _ (rSlA K)) (pv 6) po_none (po_some pe_int)) (pe_tup (pa_cons pe_int pa_nil))) (pe_slice (sl_tupA : SlR _ (rSlA K)) (pv 6) (po_some pe_int) po_none)) (pa_cons (pe_op (op_catA : OpR _ _ (rCatA K)) (pe_op (op_catA : OpR _ _ (rCatA K)) (pe_slice (sl_tupA : SlR _ (rSlA K)) (pv 6) po_none (po_some pe_int)) (pe_tup (pa_cons (pe_un un_neg pe_int) pa_nil))) (pe_slice (sl_tupA : SlR _ (rSlA K)) (pv 6) (po_some pe_int) po_none)) (pa_cons (pe_tup pa_nil) pa_nil))))))))
      (pss_cons (ps_set (i := 7) sc_lsm.nd rfl (.inl rfl) (pe_op op_cat (pv 7) (pe_lst (pa_cons (pe_op (op_catA : OpR _ _ (rCatA K)) (pe_slice (sl_tupA : SlR _ (rSlA K)) (pv 6) po_none (po_some pe_int)) (pe_tup (pa_cons pe_bl pa_nil))) (pa_cons (pe_op (op_catA : OpR _ _ (rCatA K)) (pe_op (op_catA : OpR _ _ (rCatA K)) (pe_slice (sl_tupA : SlR _ (rSlA K)) (pv 6) po_none (po_some pe_int)) (pe_tup (pa_cons pe_bl pa_nil))) (pe_slice (sl_tupA : SlR _ (rSlA K)) (pv 6) (po_some pe_int) po_none)) (pa_cons (pe_op (op_catA : OpR _ _ (rCatA K)) (pe_tup (pa_cons pe_non pa_nil)) (pe_slice (sl_tupA : SlR _ (rSlA K)) (pv 6) (po_some pe_int) po_none)) (pa_cons (pe_op (op_catA : OpR _ _ (rCatA K)) (pe_slice (sl_tupA : SlR _ (rSlA K)) (pv 6) po_none (po_some pe_int)) (pe_tup (pa_cons pe_str pa_nil))) pa_nil)))))))
      (pss_cons (ps_set (i := 7) sc_lsm.nd rfl (.inl rfl) (pe_op op_cat (pv 7) (pe_lst (pa_cons (pe_op (op_catA : OpR _ _ (rCatA K)) (pe_tup (pa_cons (pe_lst pa_nil) pa_nil)) (pe_slice (sl_tupA : SlR _ (rSlA K)) (pv 6) (po_some pe_int) po_none)) (pa_cons (pe_op (op_catA : OpR _ _ (rCatA K)) (pe_op (op_catA : OpR _ _ (rCatA K)) (pe_slice (sl_tupA : SlR _ (rSlA K)) (pv 6) po_none (po_some pe_int)) (pe_tup (pa_cons (pe_lst (pa_cons pe_int pa_nil)) pa_nil))) (pe_slice (sl_tupA : SlR _ (rSlA K)) (pv 6) (po_some pe_int) po_none)) (pa_cons (pe_op (op_catA : OpR _ _ (rCatA K)) (pe_op (op_catA : OpR _ _ (rCatA K)) (pe_slice (sl_tupA : SlR _ (rSlA K)) (pv 6) po_none (po_some pe_int)) (pe_tup (pa_cons pe_dnewK pa_nil))) (pe_slice (sl_tupA : SlR _ (rSlA K)) (pv 6) (po_some pe_int) po_none)) (pa_cons (pe_op (op_catA : OpR _ _ (rCatA K)) (pe_slice (sl_tupA : SlR _ (rSlA K)) (pv 6) po_none (po_some pe_int)) (pe_tup (pa_cons (pe_lst (pa_cons pe_int pa_nil)) pa_nil))) (pa_cons pe_dnewK pa_nil))))))))
      (pss_one (ps_asg (pe_call G_chl (hr.mono (by decide)) rfl m_chl k_chl b_chl .nil pass0 (pa_cons (pv 0) (pa_cons (pe_op op_cat (pv 7) (pe_lst (pa_cons (pe_op (op_catA : OpR _ _ (rCatA K)) (pe_slice (sl_tupA : SlR _ (rSlA K)) (pv 6) po_none (po_some pe_int)) (pe_tup (pa_cons pe_int pa_nil))) (pa_cons (pe_op (op_catA : OpR _ _ (rCatA K)) (pe_slice (sl_tupA : SlR _ (rSlA K)) (pv 6) po_none (po_some pe_int)) (pe_tup (pa_cons pe_int (pa_cons pe_int (pa_cons pe_int pa_nil))))) pa_nil)))) pa_nil))) (pg_sub (pv 2) (pv 5) set_list)))))))) pss_nil)
      (pss_one (ps_ret (pv 2))))))), ?_⟩
  refine go_setK (s := s) (P := ManyP) fr hS hc (k_choose (n := 10) rfl (k_lst (Ps := [ManyP, ManyP, ManyP, ManyP, ManyP, ManyP, ManyP, ManyP, ManyP, ManyP]) (P := ManyP) (ka_cons (k_many (n := 0) (by decide)) mon_many (ka_cons (k_many (n := 1) (by decide)) mon_many (ka_cons (k_many (n := 2) (by decide)) mon_many (ka_cons (k_many (n := 3) (by decide)) mon_many (ka_cons (k_many (n := 4) (by decide)) mon_many (ka_cons (k_many (n := 5) (by decide)) mon_many (ka_cons (k_many (n := 8) (by decide)) mon_many (ka_cons (k_many (n := 8) (by decide)) mon_many (ka_cons (k_many (n := 12) (by decide)) mon_many (ka_cons (k_many (n := 13) (by decide)) mon_many ka_nil)))))))))) mon_many (by simp) (by simp)) mon_many (by decide) (by decide)) fun vm H1 k1 c1 fr1 pm => ?_
  obtain ⟨n, rfl, hn⟩ := pm
  have n13 : n ≤ 13 := by
    simp only [List.mem_cons, List.not_mem_nil, or_false] at hn
    omega
  refine go_newL fr1 fun fo H2 f0 s2 fr2 e2 => ?_
  have fs : fo ≠ s := fun z => by
    obtain ⟨x, y, c, e⟩ := c1
    rw [z, e] at f0
    cases f0
  have h0 : H fo = none := by
    cases e : H fo with
    | none => rfl
    | some o =>
      rw [k1 fo o fs e] at f0
      cases f0
  have I2 : DIv S s fo H [] H2 := ⟨k1.trans (.of s2), src_same c1 s2, fr2, h0, fr1.new f0, hS, [], e2, .nil⟩
  have done : ∀ (es : List PyData) (σ' : L2.St) (H' : Hp), σ'[2]? = some (some (.ref fo)) → es.length = n → (∀ e ∈ es, OkE e) → DIv S s fo H es H' → tRet (tVar 2) { nx := fun _ H' => Q .non H', rt := Q } σ' H' := fun es σ' H' hσ l ok I => ⟨_, hσ, q (.ref fo) es H' I.kp I.src I.rp (by rw [l]; exact hn) ok⟩
  refine go_forRS (S := S) (n := n) I2.frS (a_cons (e_var rfl (.int _)) a_nil) (by omega) fun H3 s3 fr3 => ⟨fun i σ H' => ∃ x3 x4 x5 x6 x7, σ = [some (.ref s), some (.int n), some (.ref fo), x3, x4, x5, x6, x7] ∧ ∃ rs : List Ro, rs.length = i ∧ (∀ a ∈ rs, GoodR a) ∧ DIv S s fo H (rs.map roD) H', ?_, ?_, ?_⟩
  · exact ⟨none, none, none, none, none, rfl, [], rfl, (fun a h => by cases h), I2.same s3⟩
  · rintro i σ H4 hi ⟨x3, x4, x5, x6, x7, rfl, rs, lr, gr, I4⟩
    refine go_setK (s := s) (S := addS S fo) (P := KindP) I4.fr I4.ss1 I4.src (k_choose (n := 3) rfl (k_lst (Ps := [KindP, KindP, KindP]) (P := KindP) (ka_cons (k_str (by decide +kernel)) mon_kind (ka_cons (k_str (by decide +kernel)) mon_kind (ka_cons (k_str (by decide +kernel)) mon_kind ka_nil))) mon_kind (by simp) (by simp)) mon_kind (by decide) (by decide)) fun vk H5 k5 c5 fr5 pk => ?_
    have I5 := I4.step k5 c5
    obtain ⟨xs, hx, rx⟩ := I5.at_
    have lx : xs.length = i := by rw [rx.length, List.length_map, lr]
    refine go_appK (s := s) (S := addS S fo) (P := TpP [KindP, IntP (i : Int) (i : Int), IntP 0 (100 - 1), IntP (1 + 0) (1 + (10000 - 1))]) I5.fr I5.ss1 I5.src I5.ns rfl hx (k_tup (ka_cons (k_of (e_varP rfl fun _ _ => pk)) mon_kind (ka_cons (k_varI (z := (i : Int)) rfl (by omega) (by omega)) mon_int (ka_cons (k_draw rfl e_int (by decide) (by decide)) mon_int (ka_cons (k_add (k_int (lo := 1) (hi := 1) (by decide) (by decide)) (k_draw rfl e_int (by decide) (by decide))) mon_int ka_nil)))) (by simp [mon_kind, mon_int]) (by simp)) (by omega) fun y H6 k6 c6 h6 ry => ?_
    have I6 := I5.step k6 c6
    obtain ⟨k, hk, l, m, l0, l9, m1, m9, rr⟩ : ∃ k, kindOk k = true ∧ ∃ l m : Int, 0 ≤ l ∧ l ≤ 99 ∧ 1 ≤ m ∧ m ≤ 10000 ∧ Rp (offS (addS S fo) H6) y (roD ⟨k, (i : Int), l, m⟩) := by
      obtain ⟨t, ys, rfl, ht, ps⟩ := ry
      cases ps with
      | cons h1 ps =>
        cases ps with
        | cons h2 ps =>
          cases ps with
          | cons h3 ps =>
            cases ps with
            | cons h4 ps =>
              cases ps
              obtain ⟨k, rfl, hk⟩ := h1
              obtain ⟨z, rfl, z0, z1⟩ := h2
              obtain ⟨l, rfl, l0, l9⟩ := h3
              obtain ⟨m, rfl, m0, m9⟩ := h4
              have : z = (i : Int) := by omega
              subst this
              exact ⟨k, hk, l, m, l0, by omega, by omega, by omega, .tup ht (.cons (.str _) (.cons (.int _) (.cons (.int _) (.cons (.int _) .nil))))⟩
    refine ⟨_, _, _, _, _, rfl, rs ++ [⟨k, (i : Int), l, m⟩], by simp [lr], fun a ha => ?_, ?_⟩
    · rcases List.mem_append.mp ha with z | z
      · exact gr a z
      · rw [List.mem_singleton.mp z]
        exact ⟨hk, by show (0 : Int) ≤ (i : Int); omega, by show (i : Int) ≤ 99; omega, l0, l9, m1, m9⟩
    · refine I6.upd ?_
      rw [List.map_append]
      exact (rx.mono (k6.off I5.ss1)).append (.cons rr .nil)
  rintro σ H4 ⟨x3, x4, x5, x6, x7, rfl, rs, lr, gr, I4⟩
  have okR : ∀ e ∈ rs.map roD, OkE e := fun e he => by
    obtain ⟨a, ha, rfl⟩ := List.mem_map.mp he
    exact ok_ro (gr a ha)
  refine go_seq (go_ifAnd (S := S) I4.frS (b_test (e_cmp (g := fun i j => decide (j < i)) (e_var rfl (.int _)) e_int)) (fun z H5 s5 => ?_) fun _ H5 s5 => done (rs.map roD) _ _ rfl (by rw [List.length_map, lr]) okR (I4.same s5))
  have I5 := I4.same s5
  refine bd_eq (k_draw (m := 2) rfl e_int (by decide) (by decide)) S H5 I5.frS hS I5.src (Same.refl _) _ fun b H6 k6 c6 => ?_
  have I6 := I5.step k6 c6
  cases b with
  | false =>
    rw [if_neg (by decide)]
    exact done (rs.map roD) _ _ rfl (by rw [List.length_map, lr]) okR I6
  | true =>
    rw [if_pos rfl]
    have n0 : 0 < n := by
      have := of_decide_eq_true z
      omega
    obtain ⟨ts, a, ea⟩ : ∃ ts a, rs = ts ++ [a] := by
      rcases List.eq_nil_or_concat rs with e | ⟨ts, a, e⟩
      · rw [e] at lr
        have : 0 = n := lr
        omega
      · exact ⟨ts, a, by rw [e, List.concat_eq_append]⟩
    have ga : GoodR a := gr a (by rw [ea]; simp)
    have tC1 : ∀ {F' : Hp} {σ : L2.St} {i : Int}, EvD (tC (.int i)) σ F' (.int i) := e_int
    refine go_parK (S := S) (P1 := IntP 0 ((n : Int) - 1)) (P2 := fun H v => Rp H v (roD a)) I6.frS hS I6.src (k_draw (m := (n : Int)) rfl (e_var rfl (.int _)) (by omega) (by omega)) (k_of (e_lastL (K := K) (e_var rfl I6.rp) (e_neg tC1) (by rw [ea, List.map_append]; simp))) mon_int fun vat vrow H7 k7 c7 fr7 pat prow => ?_
    obtain ⟨zat, rfl, a0, a9⟩ := pat
    obtain ⟨j, rfl⟩ := Int.eq_ofNat_of_zero_le a0
    have I7 := I6.step k7 c7
    have r7 := ro_hid I7.fr prow
    have hC : ∀ {x : Nat}, x ≤ 10 → x ≤ 1000 := fun h => by omega
    refine go_setS (S := addS S fo) (P := fun H v => Rp H v (.list (oddA a))) I7.fr (e_lst (ds := oddA a) (a_cons (e_var rfl r7) (a_cons (e_head3 rfl r7) (a_cons (e_catT (e_var rfl r7) (e_tup (a_cons tC1 a_nil)) (Nat.le_of_ble_eq_true rfl)) (a_cons (e_lstOfT (K := K) (e_var rfl r7)) (a_cons e_non (a_cons e_str (a_cons (e_tup (a_cons (e_var rfl r7) a_nil)) (a_cons (e_catT (e_head3 rfl r7) (e_tup (a_cons tC1 a_nil)) (Nat.le_of_ble_eq_true rfl)) (a_cons (e_catT (e_head3 rfl r7) (e_tup (a_cons tC1 a_nil)) (Nat.le_of_ble_eq_true rfl)) a_nil))))))))) (Nat.le_of_ble_eq_true rfl)) fun v1 H8 s8 fr8 q8 => ?_
    have r8 := r7.mono (offS_mono (S := addS S fo) s8)
    refine go_setS (S := addS S fo) (P := fun H v => Rp H v (.list (oddA a ++ oddB a))) fr8 (e_cat (e_var rfl q8) (e_lst (ds := oddB a) (a_cons (e_catT (e_tup (a_cons e_str a_nil)) (e_tail1 rfl r8) (Nat.le_of_ble_eq_true rfl)) (a_cons (e_catT (e_tup (a_cons e_str a_nil)) (e_tail1 rfl r8) (Nat.le_of_ble_eq_true rfl)) (a_cons (e_catT (e_catT (e_head1 rfl r8) (e_tup (a_cons tC1 a_nil)) (Nat.le_of_ble_eq_true rfl)) (e_tail2 rfl r8) (Nat.le_of_ble_eq_true rfl)) (a_cons (e_catT (e_catT (e_head2 rfl r8) (e_tup (a_cons (e_neg tC1) a_nil)) (Nat.le_of_ble_eq_true rfl)) (e_tail3 rfl r8) (Nat.le_of_ble_eq_true rfl)) (a_cons (e_tup a_nil) a_nil))))) (Nat.le_of_ble_eq_true rfl)) (Nat.le_of_ble_eq_true rfl)) fun v2 H9 s9 fr9 q9 => ?_
    have r9 := r8.mono (offS_mono (S := addS S fo) s9)
    refine go_setS (S := addS S fo) (P := fun H v => Rp H v (.list (oddA a ++ oddB a ++ oddC a))) fr9 (e_cat (e_var rfl q9) (e_lst (ds := oddC a) (a_cons (e_catT (e_head3 rfl r9) (e_tup (a_cons e_bl a_nil)) (Nat.le_of_ble_eq_true rfl)) (a_cons (e_catT (e_catT (e_head1 rfl r9) (e_tup (a_cons e_bl a_nil)) (Nat.le_of_ble_eq_true rfl)) (e_tail2 rfl r9) (Nat.le_of_ble_eq_true rfl)) (a_cons (e_catT (e_tup (a_cons e_non a_nil)) (e_tail1 rfl r9) (Nat.le_of_ble_eq_true rfl)) (a_cons (e_catT (e_head3 rfl r9) (e_tup (a_cons e_str a_nil)) (Nat.le_of_ble_eq_true rfl)) a_nil)))) (Nat.le_of_ble_eq_true rfl)) (Nat.le_of_ble_eq_true rfl)) fun v3 Ha sa fra qa => ?_
    have ra := r9.mono (offS_mono (S := addS S fo) sa)
    refine go_setS (S := addS S fo) (P := fun H v => Rp H v (.list (oddA a ++ oddB a ++ oddC a ++ oddD a))) fra (e_cat (e_var rfl qa) (e_lst (ds := oddD a) (a_cons (e_catT (e_tup (a_cons (e_lst a_nil) a_nil)) (e_tail1 rfl ra) (Nat.le_of_ble_eq_true rfl)) (a_cons (e_catT (e_catT (e_head1 rfl ra) (e_tup (a_cons (e_lst (a_cons tC1 a_nil)) a_nil)) (Nat.le_of_ble_eq_true rfl)) (e_tail2 rfl ra) (Nat.le_of_ble_eq_true rfl)) (a_cons (e_catT (e_catT (e_head2 rfl ra) (e_tup (a_cons e_dic a_nil)) (Nat.le_of_ble_eq_true rfl)) (e_tail3 rfl ra) (Nat.le_of_ble_eq_true rfl)) (a_cons (e_catT (e_head3 rfl ra) (e_tup (a_cons (e_lst (a_cons tC1 a_nil)) a_nil)) (Nat.le_of_ble_eq_true rfl)) (a_cons e_dic a_nil))))) (Nat.le_of_ble_eq_true rfl)) (Nat.le_of_ble_eq_true rfl)) fun v4 Hb sb frb qb => ?_
    have rb := ra.mono (offS_mono (S := addS S fo) sb)
    have Ib := (((I7.same s8).same s9).same sa).same sb
    obtain ⟨xs, hx, rx⟩ := Ib.at_
    have lx : xs.length = n := by rw [rx.length, List.length_map, lr]
    refine go_putK (s := s) (S := addS S fo) (n := j) (P := RpP OkE) Ib.fr Ib.ss1 Ib.src Ib.ns rfl rfl hx (by omega) (k_choose (n := 25) (P := RpP OkE) rfl (k_of (EvP.weak (e_cat (e_var rfl qb) (e_lst (ds := oddE a) (a_cons (e_catT (e_head3 rfl rb) (e_tup (a_cons tC1 a_nil)) (Nat.le_of_ble_eq_true rfl)) (a_cons (e_catT (e_head1 rfl rb) (e_tup (a_cons tC1 (a_cons tC1 (a_cons tC1 a_nil)))) (Nat.le_of_ble_eq_true rfl)) a_nil)) (Nat.le_of_ble_eq_true rfl)) (Nat.le_of_ble_eq_true rfl)) fun F v r => ls_rp (D := OkE) r (odd_ok ga))) mon_rp (by decide) (by decide)) fun y Hc kc cc hc2 ry => ?_
    obtain ⟨d, okd, rd⟩ := ry
    refine done ((rs.map roD).set j d) _ _ rfl (by rw [List.length_set, List.length_map, lr]) (fun e he => (List.mem_or_eq_of_mem_set he).elim (okR e) fun z => z ▸ okd) ((Ib.step kc cc).upd (rpa_setD j (rx.mono (kc.off Ib.ss1)) rd))
end
end Q

set_option maxHeartbeats 4000000
namespace Q
open PySem PySem.Spec PyProof.Rows L2 Ca
/-! ### the law -/
abbrev s_law : Stmt := top 47
abbrev n_law : List PySem.Str := ["_law_script", "_law_k", "_law_source_here", "_law_lap", "_law_some_here", "_law_kept", "_law_one", "_law_two", "_law_told", "_law_made", "_law_odd"]
theorem sc_law : FnScope n_law ["_law_script"] (defScope s_law) := ⟨rfl, rfl, rfl, by decide +kernel, rfl, by decide +kernel, by decide +kernel⟩
theorem mon_eqV {v : V} : Mon (fun _ x => x = v) := fun _ _ _ _ h => h
theorem mon_rowsP {m : Nat} {v o : Int} : Mon (RowsP m v o) := fun _ _ _ s ⟨rs, r, h⟩ => ⟨rs, r.mono s, h⟩
theorem same_kpV {s : Addr} {H H1 H2 : Hp} (s1 : Same H H1) (h0 : H s = none) (k : Kp s H1 H2) : Same H H2 := fun b o e => k b o (fun z => by rw [z, h0] at e; cases e) (s1 b o e)
theorem ascii_num {i : Int} (h0 : 0 ≤ i) : Ascii (dg i) := fun c hc => by
  obtain ⟨n, rfl⟩ := Int.eq_ofNat_of_zero_le h0
  have hc : c ∈ TL.tl (dg ((n : Nat) : Int)) := hc
  rw [show TL.tl (dg ((n : Nat) : Int)) = TL.numL n from TL.tl_num n] at hc
  have := (TL.numL_digits n c hc).2
  omega
theorem ascii_row {a : Ro} (g : GoodR a) : Ascii (rowT a) := by
  have sp : Ascii " " := ascii_ofs (by decide +kernel)
  have lf : Ascii "\n" := ascii_ofs (by decide +kernel)
  rw [rowT_eq]
  refine ascii_app (fun c hc => ?_) lf
  have hc : c ∈ TL.tl (rowW a) := hc
  rw [tl_rowW] at hc
  simp only [List.mem_append] at hc
  rcases hc with z | z | z | z | z | z | z
  · exact ascii_kind g.k c z
  · exact sp c z
  · exact ascii_num g.l0 c z
  · exact sp c z
  · exact ascii_num g.r0 c z
  · exact sp c z
  · exact ascii_num (show 0 ≤ a.n by have := g.n1; omega) c z
theorem fit_txr {ks : List Ro} (g : ∀ a ∈ ks, GoodR a) (h : ks.length ≤ 12) : Fit (.str (txr ks)) 2 7000 := by
  have e1 : Ascii "" := ascii_ofs (by decide +kernel)
  have e : Ascii (txr ks) := by
    unfold txr
    rw [TL.join_eq]
    refine ascii_join (s := "") e1 fun x hx => ?_
    obtain ⟨a, ha, rfl⟩ := List.mem_map.mp hx
    exact ascii_row (g a ha)
  exact (fit_str e (txr_len g h)).mono (by omega) (by omega)
theorem fit_said {n : Nat} (h : n ≤ 12) : Fit (.str (saidW n)) 2 7000 := by
  have a1 : Ascii (PySem.Str.ofString "Table(") := ascii_ofs (by decide +kernel)
  have a2 : Ascii (PySem.Str.ofString " rows)") := ascii_ofs (by decide +kernel)
  have e6 : (PySem.Str.ofString "Table(").length = 6 := by decide +kernel
  have e7 : (PySem.Str.ofString " rows)").length = 6 := by decide +kernel
  have n5 : (dg ((n : Nat) : Int)).length ≤ 5 := num5 (by omega) (by omega)
  have l1 : (PySem.Str.ofString "Table(" ++ dg ((n : Nat) : Int)).length ≤ 11 := Nat.le_trans (Nat.le_of_eq (PySem.Str.length_append _ _)) (by omega)
  have l2 : (saidW n).length ≤ 20 := Nat.le_trans (Nat.le_of_eq (PySem.Str.length_append _ _)) (Nat.le_trans (Nat.add_le_add l1 (Nat.le_of_eq e7)) (by decide))
  exact (fit_str (m := 20) (ascii_app (ascii_app a1 (ascii_num (by omega))) a2) l2).mono (by omega) (by omega)
theorem fit_due (es : List PyData) : Fit (dueD es) 50 1000000 := by
  by_cases hA : AreR es
  · rw [due_yes hA]
    obtain ⟨l12, rs, rfl, g, nd⟩ := id hA
    rw [List.length_map] at l12
    obtain ⟨ks, es', pks⟩ := srt_rows rs
    have gk := srt_good es' g
    have lk : ks.length ≤ 12 := by rw [pks.length_eq]; exact l12
    unfold rowsD
    rw [es', un_ros, List.length_map]
    refine (fit_list (k := 2) (n := 7000) (m := 6) (fun d hd => ?_) (Nat.le_of_ble_eq_true rfl)).mono (by decide) (by decide)
    simp only [List.mem_cons, List.not_mem_nil, or_false] at hd
    rcases hd with rfl | rfl | rfl | rfl | rfl | rfl
    · exact (fit_rows gk lk).mono (by decide) (by decide)
    · exact (fit_int (by omega)).mono (by decide) (by decide)
    · exact fit_said l12
    · exact fit_txr gk lk
    · exact (fit_bool true).mono (by decide) (by decide)
    · exact (fit_bool false).mono (by decide) (by decide)
  · rw [due_no hA]
    exact (fit_str (x := "rows") (m := 4) (ascii_ofs (by decide +kernel)) (by decide +kernel)).mono (by decide) (by decide)
section
variable {K : PySem.W.Frag} {s : Addr} {σ : L2.St} {F : Hp} {ta te : TE} {E : XK} {es : List PyData} {P : Hp → V → Prop} {d : PyData} {n : Nat}
theorem e_said (h : EvD ta σ F (.list es)) (hl : es.length ∈ [0, 1, 2, 3, 4, 5, 8, 12, 13]) : EvD (tCall spSaid [] E (tCons ta tNil)) σ F (dueD es) := fun S H1 f sm Q q =>
  h S H1 f sm _ fun v H2 s2 r => ⟨S, v, es, rfl, f.mono s2, r, hl, fun v3 H3 s3 r3 => q v3 H3 (s2.trans s3) r3⟩
theorem e_rep (h : EvD ta σ F d) (ft : Fit d 60 n) (big : n ≤ sizeLine) : EvD (tCB rRepr (tCons ta tNil)) σ F (.str d.shown) := fun S H1 f s Q q => by
  show ta σ H1 fun x H2 => rRepr [x] H2 Q
  exact h S H1 f s _ fun v H2 s2 r => ⟨v, d, rfl, r.mono offS_same, ft.sh, ft.dp, Nat.le_trans ft.ln big, q _ H2 s2 (.str _)⟩
theorem e_lstOne (h : EvP te σ F P) : EvP (tLst (tCons te tNil)) σ F OddV := fun S H1 f s Q q =>
  h S H1 f s _ fun v H2 s2 _ => ⟨Nat.le_of_ble_eq_true rfl, fun a ha => q _ _ (s2.trans (same_new ha)) (.inr ⟨a, [v], rfl, offS_new (f.mono s2) ha⟩)⟩
def SomeP : Hp → V → Prop := fun H v => ∃ es, Rp H v (.list es) ∧ es.length ∈ [0, 1, 2, 3, 4, 5, 8, 12, 13] ∧ ∀ e ∈ es, OkE e
theorem k_some {i : Nat} (hi : σ[i]? = some (some (.ref s))) : EvK s (tCall spSome [] E (tCons (tVar i) tNil)) σ F SomeP := fun S H1 f hS hc sm Q q =>
  ⟨_, hi, S, s, rfl, f, hS, hc, fun x es H' k c r l ok => q x H' k c ⟨es, r, l, ok⟩⟩
end
theorem ros_eqv (as bs : List Ro) : PyData.eqv (.list (as.map roD)) (.list (bs.map roD)) = decide (as = bs) := by
  rw [← rows_eqvA]
  rfl
section
variable {P : Program} {w : World} {K : PySem.W.Frag} {mg : PySem.Str → Option Value} {base : Heap}
theorem ok_law {f fB fS fE C N pR fA ftext fQ : Addr} {fd fdB fdA fdtext fdQ : FuncData} (F : FnP K "law" s_law f fd) (T : Tx K mg) (TQ : TT K mg C N) (ic : IsC K C) (nkT : NoKind K C)
    (D_cell : Fd P w K mg base "_law_cell" 1 ["_law_script", "_law_index"] (spCell K)) (D_src : Fd P w K mg base "_law_source" 1 ["_law_cell_here"] spSource)
    (D_lsm : Fd P w K mg base "_law_some" 3 ["_law_source_here"] spSome) (D_ldu : Fd P w K mg base "_law_due" 4 ["_law_some_here"] (spR RLdu))
    (D_lin : Fd P w K mg base "_law_lines" 3 ["_law_source_here", "_law_most", "_law_value", "_law_often"] spLines)
    (G_lbu : FnOk P w K mg base (L2.CX P w) 8 fB fdB ["_law_some_here"] (spBuilt C N)) (b_lbu : Binds K fdB ["_law_some_here"] []) (k_lbu : PySem.W.keepIn K (.ref fB) = true) (m_lbu : mg "_law_built" = some (.ref fB))
    (G_lsd : FnG P w K mg base CX0 10 fS spSaid) (k_lsd : PySem.W.keepIn K (.ref fS) = true) (m_lsd : mg "_law_said" = some (.ref fS))
    (GR : FnOk P w K mg base CX0 1 fA fdA ["self"] (spQ (ITRows C))) (bR : Binds K fdA ["self"] []) (hR : PropOf K C "rows" pR fA)
    (Gtext : FnOk P w K mg base CX0 2 ftext fdtext ["self"] (spQ (ITText C))) (btext : Binds K fdtext ["self"] []) (Mtext : Meth K C "text" ftext)
    (oT : OwnCmp K C fQ) (GTq : FnOk P w K mg base CX0 1 fQ fdQ ["self", "other"] (spQ (ITEq C))) (bTq : Binds K fdQ ["self", "other"] [])
    (G_leq : FnG P w K mg base CX0 1 fE spEq) (k_leq : PySem.W.keepIn K (.ref fE) = true) (m_leq : mg "_law_is_equal" = some (.ref fE)) : FnG P w K mg base CX0 11 f (spLaw K) := by
  obtain ⟨f_cell, fd_cell, G_cell, b_cell, k_cell, m_cell⟩ := D_cell.ex
  obtain ⟨f_src, fd_src, G_src, b_src, k_src, m_src⟩ := D_src.ex
  obtain ⟨f_lsm, fd_lsm, G_lsm, b_lsm, k_lsm, m_lsm⟩ := D_lsm.ex
  obtain ⟨f_ldu, fd_ldu, G_ldu, b_ldu, k_ldu, m_ldu⟩ := D_ldu.ex
  obtain ⟨f_lin, fd_lin, G_lin, b_lin, k_lin, m_lin⟩ := D_lin.ex
  refine fng_of F sc_law (FunD.bindsA (ps := ["_law_script"]) F fun _ _ _ _ _ _ us hl => match us, hl with | [_], _ => rfl) (fun vs H Q E h => ?_) (fun cdv A outer s0 H vs Q E hg hr h => ?_)
  · obtain ⟨a, ns, rfl, _⟩ := h
    rfl
  obtain ⟨a, ns, rfl, hS, h63, q⟩ := h
  refine ⟨_, PSs.nox (pss_one (ps_try_thru0 (pss_cons (ps_for PassesOwn.never rfl (pi_range1 rfl T.range (pa_cons (pe_callB (call_max2 rfl) (by rfl) T.max bMax (pa_cons pe_int (pa_cons (pe_callB (call_min2 rfl) (by rfl) T.min bMin (pa_cons (pe_callB call_len_seq (by rfl) T.len bLen (pa_cons (pv 0) pa_nil)) (pa_cons pe_int pa_nil))) pa_nil))) pa_nil)) (pg_name (i := 1) sc_law.nd rfl (.inl rfl)) (pss_cons (ps_set (i := 2) sc_law.nd rfl (.inl rfl) (pe_call G_src (hr.mono (by decide)) rfl m_src k_src b_src .nil pass0 (pa_cons (pe_call G_cell (hr.mono (by decide)) rfl m_cell k_cell b_cell .nil pass0 (pa_cons (pv 0) (pa_cons (pv 1) pa_nil))) pa_nil)))
      (pss_one (ps_for PassesOwn.never rfl (pi_range1 rfl T.range (pa_cons pe_int pa_nil)) (pg_name (i := 3) sc_law.nd rfl (.inl rfl)) (pss_cons (ps_set (i := 4) sc_law.nd rfl (.inl rfl) (pe_call G_lsm (hr.mono (by decide)) rfl m_lsm k_lsm b_lsm .nil pass0 (pa_cons (pv 2) pa_nil)))
      (pss_cons (ps_set (i := 5) sc_law.nd rfl (.inl rfl) (pe_callB (call_repr T.sm hg hr) (by rfl) T.repr bRepr (pa_cons (pv 4) pa_nil)))
      (pss_cons (ps_if (PW.pt (pw_or (pt_not (pt_val (pe_callG G_leq hg (hr.mono (by decide)) rfl m_leq k_leq pass0 (pa_cons (pe_callG G_lsd hg (hr.mono (by decide)) rfl m_lsd k_lsd pass0 (pa_cons (pv 4) pa_nil)) (pa_cons (pe_call G_ldu (hr.mono (by decide)) rfl m_ldu k_ldu b_ldu .nil pass0 (pa_cons (pv 4) pa_nil)) pa_nil))))) (pw_or1 (pt_cmpR op_ne (pe_callB (call_repr T.sm hg hr) (by rfl) T.repr bRepr (pa_cons (pv 4) pa_nil)) (pv 5) (nomark _))))) (pss_one (ps_ret pe_bl)) pss_nil)
      (pss_cons (ps_par (i := 6) (j := 7) (by rfl) sc_law.nd rfl rfl (by decide) rfl rfl (pa_cons (pe_call G_lin (hr.mono (by decide)) rfl m_lin k_lin b_lin .nil pass0 (pa_cons (pv 2) (pa_cons pe_int (pa_cons pe_int (pa_cons pe_int pa_nil))))) (pa_cons (pe_call G_lin (hr.mono (by decide)) rfl m_lin k_lin b_lin .nil pass0 (pa_cons (pv 2) (pa_cons pe_int (pa_cons pe_int (pa_cons pe_int pa_nil))))) pa_nil)) (by rfl))
      (pss_cons (ps_set (i := 8) sc_law.nd rfl (.inl rfl) (pe_lst (pa_cons (pe_cmpR (op_eqO oT GTq bTq (hr.mono (by decide)) pass0) (pe_call G_lbu (hr.mono (by decide)) rfl m_lbu k_lbu b_lbu .nil passL (pa_cons (pv 6) pa_nil)) (pe_call G_lbu (hr.mono (by decide)) rfl m_lbu k_lbu b_lbu .nil passL (pa_cons (pv 7) pa_nil)) (nomark _)) (pa_cons (pe_cmpR (op_neO oT GTq bTq (hr.mono (by decide))) (pe_call G_lbu (hr.mono (by decide)) rfl m_lbu k_lbu b_lbu .nil passL (pa_cons (pv 6) pa_nil)) (pe_call G_lbu (hr.mono (by decide)) rfl m_lbu k_lbu b_lbu .nil passL (pa_cons (pv 7) pa_nil)) (nomark _)) pa_nil))))
      (pss_cons (ps_if (pt_cmpR (op_neD hr.units : OpR _ _ (rNeD K)) (pv 8) (pe_lst (pa_cons (pe_cmpR (op_eqD hr.units : OpR _ _ (rEqD K)) (pe_callB (cr_sortD T.sm hr) (by rfl) T.sorted bSorted (pa_cons (pv 6) pa_nil)) (pe_callB (cr_sortD T.sm hr) (by rfl) T.sorted bSorted (pa_cons (pv 7) pa_nil)) (nomark _)) (pa_cons (pe_cmpR (op_neD hr.units : OpR _ _ (rNeD K)) (pe_callB (cr_sortD T.sm hr) (by rfl) T.sorted bSorted (pa_cons (pv 6) pa_nil)) (pe_callB (cr_sortD T.sm hr) (by rfl) T.sorted bSorted (pa_cons (pv 7) pa_nil)) (nomark _)) pa_nil))) (nomark _)) (pss_one (ps_ret pe_bl)) pss_nil)
      (pss_cons (ps_set (i := 9) sc_law.nd rfl (.inl rfl) (pe_call G_lbu (hr.mono (by decide)) rfl m_lbu k_lbu b_lbu .nil passL (pa_cons (pv 6) pa_nil)))
      (pss_one (ps_for PassesOwn.never rfl (pi_listQ (K := K) rfl (pe_lst (pa_cons pe_non (pa_cons pe_int (pa_cons pe_bl (pa_cons pe_str (pa_cons (pe_meth0 (pv 9) TQ.cl Mtext Gtext (hr.mono (by decide)) btext .nil pass0) (pa_cons (pe_prop (pv 9) TQ.cl hR GR (hr.mono (by decide)) bR .nil pass0 rfl) (pa_cons (pe_callTy (call_lstQ : CallR _ _ (rLstQ K)) (by rfl) T.lst bLst (pa_cons (pe_prop (pv 9) TQ.cl hR GR (hr.mono (by decide)) bR .nil pass0 rfl) pa_nil)) (pa_cons (pv 6) (pa_cons pe_dnewK (pa_cons (pe_lst (pa_cons (pv 9) pa_nil)) (pa_cons (pe_tup pa_nil) pa_nil))))))))))))) (pg_name (i := 10) sc_law.nd rfl (.inl rfl)) (pss_one (ps_if (PW.pt (pw_or (pt_cmpR (op_eqO oT GTq bTq (hr.mono (by decide)) pass0) (pv 9) (pv 10) (nomark _)) (pw_or (pt_cmpR (op_eqRev oT nkT GTq bTq (hr.mono (by decide)) pass0) (pv 10) (pv 9) (nomark _)) (pw_or1 (pt_not (pt_cmpR (op_neO oT GTq bTq (hr.mono (by decide))) (pv 9) (pv 10) (nomark _))))))) (pss_one (ps_ret pe_bl)) pss_nil))))))))))))))) (pss_one (ps_ret pe_bl))))), ?_⟩
  have sqS : ∀ {H' : Hp}, Same H H' → SqL K H' a (ns.map V.int) := fun s => s.seq hS
  refine ⟨_, rfl, a, _, rfl, .inl hS, _, 4, rfl, 1, _, rfl, _, rfl, ?_, ?_, ?_⟩
  · split <;> split <;> omega
  · have l : (((ns.map V.int).length : Nat) : Int) ≤ 63 := by
      rw [List.length_map]
      omega
    split <;> split <;> omega
  generalize Int.toNat _ = nk
  refine for_range (lo := 0) (n := nk) (fun i σ H' => ∃ x1 x2 x3 x4 x5 x6 x7 x8 x9 x10, σ = [some (V.ref a), x1, x2, x3, x4, x5, x6, x7, x8, x9, x10] ∧ Same H H') ⟨none, none, none, none, none, none, none, none, none, none, rfl, Same.refl H⟩ ?_ ?_
  · rintro i σ H' hi ⟨x1, x2, x3, x4, x5, x6, x7, x8, x9, x10, rfl, sH⟩
    refine ⟨_, rfl, _, rfl, a, ns, _, rfl, by omega, sqS sH, fun z => ⟨z, rfl, fun p c1 c2 c3 hp => ?_⟩⟩
    have p0 : H p = none := sH.free hp
    have s1 : Same H (upd H' p (.lst [.int c1, .int c2, .int c3])) := sH.trans (same_new hp)
    have src1 : Src (upd H' p (.lst [.int c1, .int c2, .int c3])) p := ⟨c1, c2, c3, upd_same⟩
    generalize upd H' p (.lst [.int c1, .int c2, .int c3]) = H1 at s1 src1 ⊢
    refine ⟨12, rfl, by decide, by decide, for_range (lo := 0) (n := 12) (fun j σ H2 => ∃ x3 x4 x5 x6 x7 x8 x9 x10, σ = [some (V.ref a), some (V.int (0 + (i : Int))), some (V.ref p), x3, x4, x5, x6, x7, x8, x9, x10] ∧ Same H H2 ∧ Src H2 p)
      ⟨_, _, _, _, _, _, _, _, rfl, s1, src1⟩ ?_ ?_⟩
    · rintro j σ H2 hj ⟨x3, x4, x5, x6, x7, x8, x9, x10, rfl, s2, src2⟩
      have hP : frP p p = true := frP_self p
      refine go_setK (s := p) (S := frP p) (P := SomeP) (fr_src src2) hP src2 (k_some rfl) fun vs H3 k3 c3 fr3 ⟨es, rs3, hl, okE⟩ => ?_
      have fitS : Fit (.list es) 60 10000 := (fit_list (k := 3) (n := 600) (m := 13) (fun d hd => (okE d hd).2) (by
        simp only [List.mem_cons, List.not_mem_nil, or_false] at hl
        omega)).mono (by decide) (by decide)
      have l13 : es.length ≤ 1000 := by
        simp only [List.mem_cons, List.not_mem_nil, or_false] at hl
        omega
      refine go_setS (P := fun H v => Rp H v (.str (PyData.list es).shown)) fr3 (e_rep (e_var rfl rs3) fitS (by decide)) fun vk H4 s4 fr4 rk => ?_
      have rs4 := rs3.mono (offS_mono (S := frP p) s4)
      refine go_ifS (b := false) fr4 (b_eq (b_or (a := false) (b_not (b := true) (b_val (e_eq (d := dueD es) (e_said (e_var rfl rs4) hl) (e_call (R := RLdu) (a_cons (e_var rfl rs4) a_nil) ⟨es, rfl, l13, fun e he => (okE e he).1, rfl⟩) (fit_due es)))) fun _ => b_test (e_neS (e_rep (e_var rfl rs4) fitS (by decide)) (e_var rfl rk))) (by simp)) (fun z => by cases z) fun _ H5 s5 fr5 => ?_
      have c5 := src_same (src_same c3 s4) s5
      refine go_parK (s := p) (S := frP p) (P1 := RowsP 3 99 10000) (P2 := RowsP 3 99 10000) fr5 hP c5 (k_linesV (m := 3) (ka_cons (k_of (e_varP rfl fun _ _ => rfl)) mon_eqV (ka_cons (k_of fun S H1 f s Q q => q _ H1 (Same.refl _) rfl) mon_eqV (ka_cons (k_int (lo := 0) (hi := 99) (by decide) (by decide)) mon_int (ka_cons (k_int (lo := 2) (hi := 10000) (by decide) (by decide)) mon_int ka_nil)))) (by decide)) (k_linesV (m := 3) (ka_cons (k_of (e_varP rfl fun _ _ => rfl)) mon_eqV (ka_cons (k_of fun S H1 f s Q q => q _ H1 (Same.refl _) rfl) mon_eqV (ka_cons (k_int (lo := 0) (hi := 99) (by decide) (by decide)) mon_int (ka_cons (k_int (lo := 2) (hi := 10000) (by decide) (by decide)) mon_int ka_nil)))) (by decide)) mon_rowsP fun v1 v2 H6 k6 c6 fr6 ⟨rs, r1, l1, g1', nd1⟩ ⟨ts, r2, l2, g2', nd2⟩ => ?_
      have g1 : ∀ a ∈ rs, GoodR a := fun a ha => (g1' a ha).g
      have g2 : ∀ a ∈ ts, GoodR a := fun a ha => (g2' a ha).g
      obtain ⟨ks, es1, pks⟩ := srt_rows rs
      obtain ⟨ls, es2, pls⟩ := srt_rows ts
      have gk : ∀ a ∈ ks, GoodR a := srt_good es1 g1
      have gl : ∀ a ∈ ls, GoodR a := srt_good es2 g2
      have lk : ks.length ≤ 12 := by rw [pks.length_eq]; omega
      have h1 : AreR (rs.map roD) := are_of g1 (by omega) nd1
      have h2 : AreR (ts.map roD) := are_of g2 (by omega) nd2
      have n1 : (rs.map roD).length ∈ [0, 1, 2, 3, 4, 5, 8, 12, 13] := by
        rw [List.length_map]
        simp only [List.mem_cons, List.not_mem_nil, or_false]
        omega
      have n2 : (ts.map roD).length ∈ [0, 1, 2, 3, 4, 5, 8, 12, 13] := by
        rw [List.length_map]
        simp only [List.mem_cons, List.not_mem_nil, or_false]
        omega
      have srt1 : ∀ {ta : TE} {σ : L2.St} {F : Hp}, EvD ta σ F (.list (rs.map roD)) → EvD (tCB rSortD (tCons ta tNil)) σ F (.list (ks.map roD)) := fun h => eqD (e_sortD h (ros_alike rs) (ros_sortable rs) (fun d hd => (by
        obtain ⟨a, _, rfl⟩ := List.mem_map.mp hd
        exact ro_depth a)) (by rw [List.length_map]; omega)) (by rw [es1])
      have srt2 : ∀ {ta : TE} {σ : L2.St} {F : Hp}, EvD ta σ F (.list (ts.map roD)) → EvD (tCB rSortD (tCons ta tNil)) σ F (.list (ls.map roD)) := fun h => eqD (e_sortD h (ros_alike ts) (ros_sortable ts) (fun d hd => (by
        obtain ⟨a, _, rfl⟩ := List.mem_map.mp hd
        exact ro_depth a)) (by rw [List.length_map]; omega)) (by rw [es2])
      refine go_setS (P := fun H v => Rp H v (.list [.bool (decide (ks = ls)), .bool (!decide (ks = ls))])) fr6 (e_lst (a_cons (eqD (e_cmpT (K := K) (e_built (N := N) (e_var rfl r1) h1 es1 n1) (e_built (N := N) (e_var rfl r2) h2 es2 n2) TQ.cl ic gk gl) (by simp)) (a_cons (eqD (e_cmpT (K := K) (e_built (N := N) (e_var rfl r1) h1 es1 n1) (e_built (N := N) (e_var rfl r2) h2 es2 n2) TQ.cl ic gk gl) (by simp)) a_nil))) fun vt H7 s7 fr7 r7 => ?_
      have r17 := r1.mono (offS_mono (S := frP p) s7)
      have r27 := r2.mono (offS_mono (S := frP p) s7)
      have okB : ∀ b c : Bool, eqOk (.list [.bool b, .bool c]) = true := fun b c => (cq_lst (k := 1) fun d hd => by
        simp only [List.mem_cons, List.not_mem_nil, or_false] at hd
        rcases hd with rfl | rfl <;> exact cq_bool _).ok
      refine go_ifS (b := false) fr7 (b_eq (b_test (e_neD (K := K) (e_var rfl r7) (e_lst (a_cons (eqD (e_eqD (K := K) (srt1 (e_var rfl r17)) (srt2 (e_var rfl r27)) (cq_ros (n := 0) gk).ok (cq_ros (n := 0) gl).ok) (by rw [ros_eqv])) (a_cons (eqD (e_neD (K := K) (srt1 (e_var rfl r17)) (srt2 (e_var rfl r27)) (cq_ros (n := 0) gk).ok (cq_ros (n := 0) gl).ok) (by rw [ros_eqv])) a_nil))) (okB _ _) (okB _ _))) (by simp [PyData.eqv, PyData.eqvAll])) (fun z => by cases z) fun _ H8 s8 fr8 => ?_
      refine go_setS (P := TV C ks) fr8 (e_built (N := N) (e_var rfl (r17.mono (offS_mono (S := frP p) s8))) h1 es1 n1) fun vm H9 s9 fr9 tv => ?_
      have c9 := src_same (src_same (src_same c6 s7) s8) s9
      have r19 := (r17.mono (offS_mono (S := frP p) s8)).mono (offS_mono (S := frP p) s9)
      have tv9 : ∀ {σ : L2.St}, σ[9]? = some (some vm) → EvP (tVar 9) σ (offS (frP p) H9) (TV C ks) := fun h => e_varP h fun _ sm => tv.mono sm
      refine go_forK (s := p) (S := frP p) (n := 11) (P := OddV) fr9 hP c9 (k_lst (Ps := [OddV, OddV, OddV, OddV, OddV, OddV, OddV, OddV, OddV, OddV, OddV]) (P := OddV) (ka_cons (k_of (e_oddD e_non)) mon_odd (ka_cons (k_of (e_oddD e_int)) mon_odd (ka_cons (k_of (e_oddD e_bl)) mon_odd (ka_cons (k_of (e_oddD e_str)) mon_odd (ka_cons (k_of (e_oddD (e_meth0 (tv9 rfl) (tv_text gk (by omega))))) mon_odd (ka_cons (k_of (e_oddD (e_prop (tv9 rfl) tv_rows))) mon_odd (ka_cons (k_of (e_oddD (e_lstOfT (K := K) (e_prop (tv9 rfl) tv_rows)))) mon_odd (ka_cons (k_of (e_oddD (e_var rfl r19))) mon_odd (ka_cons (k_of (e_oddD e_dic)) mon_odd (ka_cons (k_of (e_lstOne (tv9 rfl))) mon_odd (ka_cons (k_of (e_oddD (e_tup a_nil))) mon_odd ka_nil))))))))))) mon_odd (by simp) (by simp)) mon_odd fun Ha ka ca fra =>
        ⟨fun _ σ' H' => ∃ x10, σ' = [some (V.ref a), some (V.int (0 + (i : Int))), some (V.ref p), some (V.int (0 + (j : Int))), some vs, some vk, some v1, some v2, some vt, some vm, x10] ∧ Same Ha H', ⟨_, rfl, Same.refl _⟩, fun _ σ' H' h => ?_, fun i' y σ' H' _ py h => ?_, fun σ' H' h => ?_⟩
      · obtain ⟨_, _, s5⟩ := h
        exact offS_mono s5
      · obtain ⟨x10, rfl, sb⟩ := h
        have tvb : ∀ {σ : L2.St}, σ[9]? = some (some vm) → EvP (tVar 9) σ (offS (frP p) H') (TV C ks) := fun h => e_varP h fun _ sm => ((tv.mono (ka.off hP)).mono (offS_mono sb)).mono sm
        have oy : ∀ {σ : L2.St}, σ[10]? = some (some y) → EvP (tVar 10) σ (offS (frP p) H') OddV := fun h => e_varP h fun _ sm => py.mono sm
        refine go_if (b := false) (fra.mono sb) (b_or (a := false) (b_test (e_cmpN (K := K) (ne := false) (tvb rfl) (oy rfl) gk)) fun _ => b_or (a := false) (b_test (e_revN (oy rfl) (tvb rfl) gk)) fun _ => b_not (b := true) (b_test (e_cmpN (K := K) (ne := true) (tvb rfl) (oy rfl) gk))) (fun z => by cases z) fun _ H6' s6' fr6' => ⟨_, rfl, sb.trans s6'⟩
      · obtain ⟨x10', rfl, sb⟩ := h
        exact ⟨_, _, _, _, _, _, _, _, rfl, same_kpV s2 p0 ((((((((k3.trans (.of s4)).trans (.of s5)).trans k6).trans (.of s7)).trans (.of s8)).trans (.of s9)).trans ka).trans (.of sb)), src_same ca sb⟩
    · rintro σ H2 ⟨x3, x4, x5, x6, x7, x8, x9, x10, rfl, s2, src2⟩
      exact ⟨_, _, _, _, _, _, _, _, _, _, rfl, s2⟩
  · rintro σ H' ⟨x1, x2, x3, x4, x5, x6, x7, x8, x9, x10, rfl, sH⟩
    exact q H'
end
end Q

set_option maxHeartbeats 4000000
/-! what is read off the top: facts (as Bools of the written part) and defs (found by an address of one's own) -/
namespace Ca
open PySem PySem.Spec PyProof.Rows L2 He
structure DfX where
  at_ : PySem.W.Frag → Addr
  name : PySem.Str
  qual : PySem.Str
  st : Stmt
abbrev DfX.see (d : DfX) (K : PySem.W.Frag) : FnW := match K.lookup (d.at_ K) with
  | some ⟨_, _, .func fd, _⟩ => some (fd.name, fd.qualname, fd.params, fd.body, fd.scope, fd.globals, fd.closure, fd.builtins)
  | _ => none
def DfX.due (d : DfX) : FnW := some (d.name, d.qual, defArgs d.st, .stmts (defBody d.st), defScope d.st, mainGlobals, [], builtinsNs)
def DfX.ok (d : DfX) (K : PySem.W.Frag) : Bool := PySem.W.keepIn K (.ref (d.at_ K)) && (match K.lookup (d.at_ K) with
  | some ⟨_, _, .func fd, _⟩ => PySem.W.codeIn K fd.code d.qual && dflB K fd.defaults []
  | _ => false)
theorem DfX.fun_ {d : DfX} {K : PySem.W.Frag} (e : d.see K = d.due) (c : d.ok K = true) : ∃ fd, FunD K d.name d.qual (defArgs d.st) (defBody d.st) (defScope d.st) [] [] (d.at_ K) fd := by
  obtain ⟨kp, c⟩ := ba c
  unfold DfX.see at e
  cases q : K.lookup (d.at_ K) with
  | none =>
    rw [q] at c
    cases c
  | some o =>
    obtain ⟨oc, od, dt, sl⟩ := o
    rw [q] at c e
    cases dt with
    | func fd =>
      obtain ⟨y1, y2, y3, y4, y5, y6, y7, y8, y9, y10, y11, y12, y13, y14, y15⟩ := fd
      unfold DfX.due at e
      have e1 := Option.some.inj e
      simp only [Prod.mk.injEq] at e1
      obtain ⟨z1, z2, z3, z4, z5, z6, z7, z8⟩ := e1
      subst z1 z2 z3 z4 z5 z6 z7 z8
      obtain ⟨k1, k2⟩ := ba c
      exact ⟨_, ⟨oc, od, y8, y9, y10, y11, y12, y13, y14, sl, rfl, q, k1, dflB_ok k2, .inl rfl⟩, kp⟩
    | _ => cases c
abbrev AlX : Type := Bool × List FnW
def seeX (fs : List (PySem.W.Frag → Bool)) (fn : List DfX) (K : PySem.W.Frag) : AlX := (fs.all (fun f => f K) && fn.all (fun d => d.ok K), fn.map fun d => d.see K)
def dueX (fn : List DfX) : AlX := (true, fn.map DfX.due)
def SaysX (fs : List (PySem.W.Frag → Bool)) (fn : List DfX) (K : PySem.W.Frag) : Prop := seeX fs fn K = dueX fn
def seeG (n : Nat) (fs : List (PySem.W.Frag → Bool)) (fn : List DfX) (g : Addr → Option Obj) : AlX := seeX fs fn (frG g (sysModules :: asD g n))
def hookX (n : Nat) (fs : List (PySem.W.Frag → Bool)) (fn : List DfX) : PySem.W.Hook where
  α := AlX
  obs := fun s => seeG n fs fn s.heap.get?
  val := fun _ => dueX fn
  says := fun _ h => ∃ K : PySem.W.Frag, K.In h ∧ SaysX fs fn K
  of := fun _ _ e => ⟨_, frG_in, e⟩
  keeps := fun _ _ _ ⟨K, hK, c⟩ k => ⟨K, PySem.W.Frag.In.keeps hK k, c⟩
theorem seeG_eq {n : Nat} {fs : List (PySem.W.Frag → Bool)} {fn : List DfX} {g : Addr → Option Obj} {s : Shared} (h : ∀ a, g a = s.heap.get? a) : seeG n fs fn g = (hookX n fs fn).obs s := by
  obtain rfl : g = s.heap.get? := funext h
  rfl
section
variable {fs : List (PySem.W.Frag → Bool)} {fn : List DfX} {K : PySem.W.Frag}
theorem SaysX.fact (c : SaysX fs fn K) (i : Nat) {f : PySem.W.Frag → Bool} (h : fs[i]? = some f := by rfl) : f K = true := by
  have z := congrArg (fun y : AlX => y.1) c
  exact List.all_eq_true.mp (ba z).1 f (List.mem_of_getElem? h)
theorem SaysX.def_ (c : SaysX fs fn K) (i : Nat) {d : DfX} (h : fn[i]? = some d := by rfl) : ∃ fd, FunD K d.name d.qual (defArgs d.st) (defBody d.st) (defScope d.st) [] [] (d.at_ K) fd := by
  have z1 := congrArg (fun y : AlX => y.1) c
  have z2 : fn.map (fun d => d.see K) = fn.map DfX.due := congrArg (fun y : AlX => y.2) c
  have z3 : (fn.map fun d => d.see K)[i]? = (fn.map DfX.due)[i]? := by rw [z2]
  rw [List.getElem?_map, List.getElem?_map, h] at z3
  exact DfX.fun_ (Option.some.inj z3) (List.all_eq_true.mp (ba z1).2 d (List.mem_of_getElem? h))
end
/-- the getter of a property of a class -/
def propG (K : PySem.W.Frag) (p : Addr) : Addr := match PySem.W.recIn K p "property" with
  | some (.ref g :: _) => g
  | _ => 0
def propB (x m : PySem.Str) (K : PySem.W.Frag) : Bool :=
  eqO (PySem.W.findIn K (.ref (ga K x)) m) (some (some (.ref (ma K (ga K x) m)))) && (eqO (PySem.W.specialIn K (.ref (ma K (ga K x) m)) "__get__") (some (some (.builtin "property.__get__"))) &&
    (decide (PySem.W.takesIn K (.ref (ma K (ga K x) m)) = some true) && (match PySem.W.recIn K (ma K (ga K x) m) "property" with
      | some (.ref _ :: _) => true
      | _ => false)))
theorem prop_ok {x m : PySem.Str} {K : PySem.W.Frag} (h : propB x m K = true) : PropOf K (ga K x) m (ma K (ga K x) m) (propG K (ma K (ga K x) m)) := by
  obtain ⟨h1, h⟩ := ba h
  obtain ⟨h2, h⟩ := ba h
  obtain ⟨h3, h4⟩ := ba h
  refine ⟨eqO_ok h1, eqO_ok h2, of_decide_eq_true h3, ?_⟩
  unfold propG
  cases q : PySem.W.recIn K (ma K (ga K x) m) "property" with
  | none =>
    rw [q] at h4
    cases h4
  | some l =>
    rw [q] at h4
    cases l with
    | nil => cases h4
    | cons v l =>
      cases v with
      | ref g => exact ⟨l, rfl⟩
      | _ => cases h4
end Ca

set_option maxHeartbeats 4000000
namespace Ca
open PySem PySem.Spec PyProof.Rows L2 He
/-- a class read by its name, its classmethods -/
def cmP (K : PySem.W.Frag) (x m : PySem.Str) : Addr := match PySem.W.findCls K (.ref (ga K x)) (.type "type") m with
  | some (.get _ (.ref p) _ _) => p
  | _ => 0
def cmG (K : PySem.W.Frag) (x m : PySem.Str) : Addr := match PySem.W.recIn K (cmP K x m) "classmethod" with
  | some (.ref g :: _) => g
  | _ => 0
def cmB (x m : PySem.Str) (K : PySem.W.Frag) : Bool :=
  (match PySem.W.findCls K (.ref (ga K x)) (.type "type") m with
    | some (.get (.builtin s) (.ref _) .none (.ref c)) => decide (s = "classmethod.__get__") && decide (c = ga K x)
    | _ => false) && ((match PySem.W.recIn K (cmP K x m) "classmethod" with
    | some (.ref _ :: _) => true
    | _ => false) && PySem.W.fnIn K (cmG K x m))
theorem cm_ok {x m : PySem.Str} {K : PySem.W.Frag} (h : cmB x m K = true) : ClX.CMet K (ga K x) (.type "type") m (cmP K x m) (cmG K x m) := by
  unfold cmB at h
  obtain ⟨h1, h⟩ := ba h
  obtain ⟨h2, h3⟩ := ba h
  refine ⟨?_, ?_, h3⟩
  · have e : ∃ p, PySem.W.findCls K (.ref (ga K x)) (.type "type") m = some (.get (.builtin "classmethod.__get__") (.ref p) .none (.ref (ga K x))) ∧ cmP K x m = p := by
      unfold cmP
      split at h1
      · rename_i s p c q
        obtain ⟨a1, a2⟩ := ba h1
        have a1 := of_decide_eq_true a1
        have a2 := of_decide_eq_true a2
        subst a1 a2
        exact ⟨p, q, by rw [q]⟩
      · cases h1
    obtain ⟨p, e1, e2⟩ := e
    rw [e2]
    exact e1
  · unfold cmG
    split at h2
    · rename_i g l q
      exact ⟨l, by rw [q]⟩
    · cases h2
def crB (x : PySem.Str) (K : PySem.W.Frag) : Bool := PySem.W.readsIn K (ga K x) (.type "type") && eqO (PySem.W.specialIn K (.ref (ga K x)) "__getattribute__") (some (some (.builtin "type.__getattribute__")))
theorem cr_ok {x : PySem.Str} {K : PySem.W.Frag} (h : crB x K = true) : ClX.CRead K (ga K x) (.type "type") := by
  obtain ⟨h1, h2⟩ := ba h
  exact ⟨h1, eqO_ok h2⟩
def seeY (n : Nat) (fs : List (PySem.W.Frag → Bool)) (fn : List DfX) (g : Addr → Option Obj) : AlX := seeX fs fn (frG g (cStatics :: sysModules :: asD g n))
def hookY (n : Nat) (fs : List (PySem.W.Frag → Bool)) (fn : List DfX) : PySem.W.Hook where
  α := AlX
  obs := fun s => seeY n fs fn s.heap.get?
  val := fun _ => dueX fn
  says := fun _ h => ∃ K : PySem.W.Frag, K.In h ∧ SaysX fs fn K
  of := fun _ _ e => ⟨_, frG_in, e⟩
  keeps := fun _ _ _ ⟨K, hK, c⟩ k => ⟨K, PySem.W.Frag.In.keeps hK k, c⟩
theorem seeY_eq {n : Nat} {fs : List (PySem.W.Frag → Bool)} {fn : List DfX} {g : Addr → Option Obj} {s : Shared} (h : ∀ a, g a = s.heap.get? a) : seeY n fs fn g = (hookY n fs fn).obs s := by
  obtain rfl : g = s.heap.get? := funext h
  rfl
end Ca

set_option maxHeartbeats 400000
namespace Q
open PySem PySem.Spec PyProof.Rows L2 He Ca
def isCB (x : PySem.Str) (K : PySem.W.Frag) : Bool :=
  eqO (PySem.W.findIn K (.ref (ga K x)) "__class__") (some (some (.builtin "object.__class__"))) && (eqO (PySem.W.specialIn K (.builtin "object.__class__") "__get__") (some (some (.builtin "getset_descriptor.__get__"))) &&
    (decide (PySem.W.takesIn K (.builtin "object.__class__") = some true) && (decide (PySem.W.mroIn K (ga K x) (.type "object") = some true) && (decide (PySem.W.kitOne K (.ref (ga K x)) (.ref (ga K x)) = some true) && tyN.all fun T => decide (PySem.W.kitOne K (.type T) (.ref (ga K x)) = some false)))))
theorem isC_ok {x : PySem.Str} {K : PySem.W.Frag} (h : isCB x K = true) : IsC K (ga K x) := by
  obtain ⟨h1, h⟩ := ba h
  obtain ⟨h2, h⟩ := ba h
  obtain ⟨h3, h⟩ := ba h
  obtain ⟨h4, h⟩ := ba h
  obtain ⟨h5, h6⟩ := ba h
  exact ⟨eqO_ok h1, eqO_ok h2, of_decide_eq_true h3, of_decide_eq_true h4, of_decide_eq_true h5, fun T hT => of_decide_eq_true (List.all_eq_true.mp h6 T hT)⟩
def exmB (x y : PySem.Str) (b : Bool) (K : PySem.W.Frag) : Bool := decide (PySem.W.exmOne K (.ref (ga K x)) (.ref (ga K y)) = some b)
theorem exm_ok {x y : PySem.Str} {b : Bool} {K : PySem.W.Frag} (h : exmB x y b K = true) : PySem.W.exmOne K (.ref (ga K x)) (.ref (ga K y)) = some b := of_decide_eq_true h
def ownB (n : PySem.Str) (x : PySem.Str) (K : PySem.W.Frag) : Bool := eqO (PySem.W.findIn K (.ref (ga K x)) n) (some (some (.ref (ma K (ga K x) n)))) && PySem.W.isFn K (.ref (ma K (ga K x) n))
theorem own_ok {n x : PySem.Str} {K : PySem.W.Frag} (h : ownB n x K = true) : PySem.W.findIn K (.ref (ga K x)) n = some (some (.ref (ma K (ga K x) n))) ∧ PySem.W.isFn K (.ref (ma K (ga K x) n)) = true := by
  obtain ⟨h1, h2⟩ := ba h
  exact ⟨eqO_ok h1, h2⟩
def cmpB (x : PySem.Str) (K : PySem.W.Frag) : Bool := ownB "__eq__" x K && (eqO (PySem.W.findIn K (.ref (ga K x)) "__ne__") (some (some (.builtin "object.__ne__"))) &&
  (decide (PySem.W.mroIn K (ga K x) (.type "object") = some true) && tyN.all fun T => decide (PySem.W.subIn K (.type T) (.ref (ga K x)) = some false)))
theorem cmp_ok {x : PySem.Str} {K : PySem.W.Frag} (h : cmpB x K = true) : OwnCmp K (ga K x) (ma K (ga K x) "__eq__") := by
  obtain ⟨h1, h⟩ := ba h
  obtain ⟨h3, h⟩ := ba h
  obtain ⟨h4, h5⟩ := ba h
  obtain ⟨h1, h2⟩ := own_ok h1
  exact ⟨h1, h2, eqO_ok h3, of_decide_eq_true h4, fun T hT => of_decide_eq_true (List.all_eq_true.mp h5 T hT)⟩
def noKB (x : PySem.Str) (K : PySem.W.Frag) : Bool := tyN.all fun T => decide (PySem.W.subIn K (.ref (ga K x)) (.type T) = some false)
theorem noK_ok {x : PySem.Str} {K : PySem.W.Frag} (h : noKB x K = true) : NoKind K (ga K x) := fun T hT => of_decide_eq_true (List.all_eq_true.mp h T hT)
end Q

set_option maxHeartbeats 0
namespace Q
open PySem PySem.Spec PyProof.Rows L2 Ca
def fs1 : List (PySem.W.Frag → Bool) := [(fun K => (He.Fa.free "isinstance").ok K), (fun K => (He.Fa.free "int").ok K), (fun K => (He.Fa.free "bool").ok K), (fun K => (He.Fa.free "str").ok K), (fun K => (He.Fa.free "tuple").ok K), (fun K => (He.Fa.free "list").ok K), (fun K => (He.Fa.free "len").ok K), (fun K => (He.Fa.free "all").ok K), (fun K => (He.Fa.free "sorted").ok K), (fun K => (He.Fa.free "repr").ok K), (fun K => (He.Fa.free "max").ok K), (fun K => (He.Fa.free "min").ok K), (fun K => (He.Fa.free "range").ok K), (fun K => (He.Fa.glo "is_number").ok K), (fun K => (He.Fa.glo "is_triple").ok K), (fun K => (He.Fa.glo "is_key").ok K), (fun K => (He.Fa.glo "is_row").ok K), (fun K => (He.Fa.glo "are_rows").ok K), (fun K => (He.Fa.glo "text_of_rows").ok K), (fun K => (He.Fa.glo "KINDS").ok K)]
def fs2 : List (PySem.W.Frag → Bool) := [(fun K => (He.Fa.glo "NoRows").ok K), (fun K => (He.Fa.glo "Table").ok K), (fun K => He.tupB K "KINDS" [.str "A", .str "B", .str "C"]), (fun K => (K.lookup sysModules).isSome), (fun K => (He.Fa.exc "NoRows").ok K), (fun K => (He.Fa.cls "Table").ok K), (fun K => (He.Fa.noat "Table" "kept").ok K), (fun K => (He.Fa.mkr "Table").ok K), (fun K => (He.Fa.int "MOST_VALUE" 99).ok K), (fun K => (He.Fa.int "MOST_OFTEN" 10000).ok K), (fun K => (He.Fa.int "MOST_ROWS" 12).ok K), (fun K => propB "Table" "rows" K), (fun K => (He.Fa.meth "Table" "text").ok K), (fun K => isCB "Table" K), (fun K => ownB "__len__" "Table" K), (fun K => ownB "__repr__" "Table" K), (fun K => cmpB "Table" K), (fun K => noKB "Table" K), (fun K => (He.Fa.glo "_law_cell").ok K), (fun K => (He.Fa.glo "_law_source").ok K)]
def fs3 : List (PySem.W.Frag → Bool) := [(fun K => (He.Fa.glo "_law_draw").ok K), (fun K => (He.Fa.glo "_law_choose").ok K), (fun K => (He.Fa.glo "_law_is_equal").ok K), (fun K => (He.Fa.glo "_law_lines").ok K), (fun K => (He.Fa.glo "_law_text").ok K), (fun K => (He.Fa.glo "law").ok K), (fun K => (He.Fa.glo "_law_is_whole").ok K), (fun K => (He.Fa.glo "_law_is_line").ok K), (fun K => (He.Fa.glo "_law_are_lines").ok K), (fun K => (He.Fa.glo "_law_built").ok K), (fun K => (He.Fa.glo "_law_said").ok K), (fun K => (He.Fa.glo "_law_due").ok K), (fun K => (He.Fa.glo "_law_some").ok K), (fun K => exmB "NoRows" "NoRows" true K)]
def fs : List (PySem.W.Frag → Bool) := fs1 ++ fs2 ++ fs3
def df_num : DfX := ⟨fun K => He.ga K "is_number", "is_number", "is_number", s_is_number⟩
def df_tri : DfX := ⟨fun K => He.ga K "is_triple", "is_triple", "is_triple", s_is_triple⟩
def df_key : DfX := ⟨fun K => He.ga K "is_key", "is_key", "is_key", s_is_key⟩
def df_row : DfX := ⟨fun K => He.ga K "is_row", "is_row", "is_row", s_is_row⟩
def df_arr : DfX := ⟨fun K => He.ga K "are_rows", "are_rows", "are_rows", s_are_rows⟩
def df_txr : DfX := ⟨fun K => He.ga K "text_of_rows", "text_of_rows", "text_of_rows", s_txr⟩
def df_tinit : DfX := ⟨fun K => He.ma K (He.ga K "Table") "__init__", "__init__", "Table.__init__", s_tinit⟩
def df_trows : DfX := ⟨fun K => propG K (He.ma K (He.ga K "Table") "rows"), "rows", "Table.rows", s_trows⟩
def df_ttext : DfX := ⟨fun K => He.ma K (He.ga K "Table") "text", "text", "Table.text", s_ttext⟩
def df_tlen : DfX := ⟨fun K => He.ma K (He.ga K "Table") "__len__", "__len__", "Table.__len__", s_tlen⟩
def df_trepr : DfX := ⟨fun K => He.ma K (He.ga K "Table") "__repr__", "__repr__", "Table.__repr__", s_trepr⟩
def df_teq : DfX := ⟨fun K => He.ma K (He.ga K "Table") "__eq__", "__eq__", "Table.__eq__", s_teq⟩
def df_cell : DfX := ⟨fun K => He.ga K "_law_cell", "_law_cell", "_law_cell", s_cell⟩
def df_source : DfX := ⟨fun K => He.ga K "_law_source", "_law_source", "_law_source", s_source⟩
def df_draw : DfX := ⟨fun K => He.ga K "_law_draw", "_law_draw", "_law_draw", s_draw⟩
def df_choose : DfX := ⟨fun K => He.ga K "_law_choose", "_law_choose", "_law_choose", s_choose⟩
def df_eq : DfX := ⟨fun K => He.ga K "_law_is_equal", "_law_is_equal", "_law_is_equal", s_eq⟩
def df_lines : DfX := ⟨fun K => He.ga K "_law_lines", "_law_lines", "_law_lines", s_lines⟩
def df_ltext : DfX := ⟨fun K => He.ga K "_law_text", "_law_text", "_law_text", s_ltext⟩
def df_law : DfX := ⟨fun K => He.ga K "law", "law", "law", s_law⟩
def df_lwh : DfX := ⟨fun K => He.ga K "_law_is_whole", "_law_is_whole", "_law_is_whole", s_lwh⟩
def df_lil : DfX := ⟨fun K => He.ga K "_law_is_line", "_law_is_line", "_law_is_line", s_lil⟩
def df_lar : DfX := ⟨fun K => He.ga K "_law_are_lines", "_law_are_lines", "_law_are_lines", s_lar⟩
def df_lbu : DfX := ⟨fun K => He.ga K "_law_built", "_law_built", "_law_built", s_lbu⟩
def df_lsd : DfX := ⟨fun K => He.ga K "_law_said", "_law_said", "_law_said", s_lsd⟩
def df_ldu : DfX := ⟨fun K => He.ga K "_law_due", "_law_due", "_law_due", s_ldu⟩
def df_lsm : DfX := ⟨fun K => He.ga K "_law_some", "_law_some", "_law_some", s_lsm⟩
def fn : List DfX := [df_num, df_tri, df_key, df_row, df_arr, df_txr, df_tinit, df_trows, df_ttext, df_tlen, df_trepr, df_teq, df_cell, df_source, df_draw, df_choose, df_eq, df_lines, df_ltext, df_law, df_lwh, df_lil, df_lar, df_lbu, df_lsd, df_ldu, df_lsm]
def nm1 : List PySem.Str := ["_wall", "KINDS", "LONGEST_NUMBER", "is_number", "is_triple", "number_of_word", "CountError", "NoRows", "NoKey", "NoText", "NoTable", "TooMuch", "MOST_ROWS", "MOST_VALUE", "MOST_OFTEN", "MOST_DIGIT", "DIGIT_BASE", "is_key", "is_row", "are_rows", "text_of_rows", "row_of_line", "greatest_value", "summed_rows", "shifted_rows"]
def nm2 : List PySem.Str := ["paired_rows", "Table", "check_table", "table_within_limits", "_law_cell", "_law_source", "_law_draw", "_law_choose", "_law_is_equal", "_law_lines", "_law_text", "_law_is_whole", "_law_is_line", "_law_are_lines", "_law_built", "_law_said", "_law_due", "_law_some"]
def nms : List PySem.Str := nm1 ++ nm2
abbrev R : PySem.W.OpenRow := PySem.W.OpenLaw.row PySem.Challenge.rw_countalike_k01_tables_made
abbrev hk : PySem.W.Hook := hookY 7 fs fn
def ob (s : PySem.W.SharedT) : AlX := seeY 7 fs fn (HandSHeadRun.getT s)
theorem ob_eq (s : PySem.W.SharedT) : ob s = hk.obs s.abs := seeY_eq (HandSHeadRun.getT_eq s)
theorem run (w : World) : HandSHeadRun.RunEq R (PySem.W.view R.prog [47]) hk ob 30000 nms w := by
  intro os
  kernel_rfl
theorem facts {P : Program} {w : World} {K : PySem.W.Frag} {h : Heap} {mg : PySem.Str → Option Value} {f : Addr} (X : K.In h) (G : h.Ns mainGlobals mg) (hfa : mg ("law" : PySem.Str) = some (.ref f)) (c : SaysX fs fn K) :
    ∀ base : Heap, K.In base → base.Ns mainGlobals mg → FnG P w K mg base CX0 11 f (spLaw K) := by
  intro base _ _
  obtain ⟨fd_num, F_num⟩ := c.def_ 0 (d := df_num) rfl
  obtain ⟨fd_tri, F_tri⟩ := c.def_ 1 (d := df_tri) rfl
  obtain ⟨fd_key, F_key⟩ := c.def_ 2 (d := df_key) rfl
  obtain ⟨fd_row, F_row⟩ := c.def_ 3 (d := df_row) rfl
  obtain ⟨fd_arr, F_arr⟩ := c.def_ 4 (d := df_arr) rfl
  obtain ⟨fd_txr, F_txr⟩ := c.def_ 5 (d := df_txr) rfl
  obtain ⟨fd_tinit, F_tinit⟩ := c.def_ 6 (d := df_tinit) rfl
  obtain ⟨fd_trows, F_trows⟩ := c.def_ 7 (d := df_trows) rfl
  obtain ⟨fd_ttext, F_ttext⟩ := c.def_ 8 (d := df_ttext) rfl
  obtain ⟨fd_tlen, F_tlen⟩ := c.def_ 9 (d := df_tlen) rfl
  obtain ⟨fd_trepr, F_trepr⟩ := c.def_ 10 (d := df_trepr) rfl
  obtain ⟨fd_teq, F_teq⟩ := c.def_ 11 (d := df_teq) rfl
  obtain ⟨fd_cell, F_cell⟩ := c.def_ 12 (d := df_cell) rfl
  obtain ⟨fd_source, F_source⟩ := c.def_ 13 (d := df_source) rfl
  obtain ⟨fd_draw, F_draw⟩ := c.def_ 14 (d := df_draw) rfl
  obtain ⟨fd_choose, F_choose⟩ := c.def_ 15 (d := df_choose) rfl
  obtain ⟨fd_eq, F_eq⟩ := c.def_ 16 (d := df_eq) rfl
  obtain ⟨fd_lines, F_lines⟩ := c.def_ 17 (d := df_lines) rfl
  obtain ⟨fd_ltext, F_ltext⟩ := c.def_ 18 (d := df_ltext) rfl
  obtain ⟨fd_law, F_law⟩ := c.def_ 19 (d := df_law) rfl
  obtain ⟨fd_lwh, F_lwh⟩ := c.def_ 20 (d := df_lwh) rfl
  obtain ⟨fd_lil, F_lil⟩ := c.def_ 21 (d := df_lil) rfl
  obtain ⟨fd_lar, F_lar⟩ := c.def_ 22 (d := df_lar) rfl
  obtain ⟨fd_lbu, F_lbu⟩ := c.def_ 23 (d := df_lbu) rfl
  obtain ⟨fd_lsd, F_lsd⟩ := c.def_ 24 (d := df_lsd) rfl
  obtain ⟨fd_ldu, F_ldu⟩ := c.def_ 25 (d := df_ldu) rfl
  obtain ⟨fd_lsm, F_lsm⟩ := c.def_ 26 (d := df_lsm) rfl
  have e := hfa.symm.trans (He.glo_ok X G (c.fact 45 rfl))
  cases e
  have b_num : Binds K fd_num ["thing", "least", "most"] [] := F_num.bindsN fun _ _ _ _ _ _ us hl => match us, hl with | [_, _, _], _ => rfl
  have b_tri : Binds K fd_tri ["thing", "most"] [] := F_tri.bindsN fun _ _ _ _ _ _ us hl => match us, hl with | [_, _], _ => rfl
  have b_key : Binds K fd_key ["thing"] [] := F_key.bindsN fun _ _ _ _ _ _ us hl => match us, hl with | [_], _ => rfl
  have b_row : Binds K fd_row ["thing"] [] := F_row.bindsN fun _ _ _ _ _ _ us hl => match us, hl with | [_], _ => rfl
  have b_arr : Binds K fd_arr ["things"] [] := F_arr.bindsN fun _ _ _ _ _ _ us hl => match us, hl with | [_], _ => rfl
  have b_txr : Binds K fd_txr ["rows"] [] := F_txr.bindsN fun _ _ _ _ _ _ us hl => match us, hl with | [_], _ => rfl
  have b_trows : Binds K fd_trows ["self"] [] := F_trows.bindsN fun _ _ _ _ _ _ us hl => match us, hl with | [_], _ => rfl
  have b_ttext : Binds K fd_ttext ["self"] [] := F_ttext.bindsN fun _ _ _ _ _ _ us hl => match us, hl with | [_], _ => rfl
  have b_tlen : Binds K fd_tlen ["self"] [] := F_tlen.bindsN fun _ _ _ _ _ _ us hl => match us, hl with | [_], _ => rfl
  have b_trepr : Binds K fd_trepr ["self"] [] := F_trepr.bindsN fun _ _ _ _ _ _ us hl => match us, hl with | [_], _ => rfl
  have b_teq : Binds K fd_teq ["self", "other"] [] := F_teq.bindsN fun _ _ _ _ _ _ us hl => match us, hl with | [_, _], _ => rfl
  have b_cell : Binds K fd_cell ["_law_script", "_law_index"] [] := F_cell.bindsN fun _ _ _ _ _ _ us hl => match us, hl with | [_, _], _ => rfl
  have b_source : Binds K fd_source ["_law_cell_here"] [] := F_source.bindsN fun _ _ _ _ _ _ us hl => match us, hl with | [_], _ => rfl
  have b_draw : Binds K fd_draw ["_law_source_here", "_law_many"] [] := F_draw.bindsN fun _ _ _ _ _ _ us hl => match us, hl with | [_, _], _ => rfl
  have b_choose : Binds K fd_choose ["_law_source_here", "_law_values"] [] := F_choose.bindsN fun _ _ _ _ _ _ us hl => match us, hl with | [_, _], _ => rfl
  have b_lines : Binds K fd_lines ["_law_source_here", "_law_most", "_law_value", "_law_often"] [] := F_lines.bindsN fun _ _ _ _ _ _ us hl => match us, hl with | [_, _, _, _], _ => rfl
  have b_ltext : Binds K fd_ltext ["_law_lines_here"] [] := F_ltext.bindsN fun _ _ _ _ _ _ us hl => match us, hl with | [_], _ => rfl
  have b_lwh : Binds K fd_lwh ["_law_thing"] [] := F_lwh.bindsN fun _ _ _ _ _ _ us hl => match us, hl with | [_], _ => rfl
  have b_lil : Binds K fd_lil ["_law_thing"] [] := F_lil.bindsN fun _ _ _ _ _ _ us hl => match us, hl with | [_], _ => rfl
  have b_lar : Binds K fd_lar ["_law_some_here"] [] := F_lar.bindsN fun _ _ _ _ _ _ us hl => match us, hl with | [_], _ => rfl
  have b_lbu : Binds K fd_lbu ["_law_some_here"] [] := F_lbu.bindsN fun _ _ _ _ _ _ us hl => match us, hl with | [_], _ => rfl
  have b_ldu : Binds K fd_ldu ["_law_some_here"] [] := F_ldu.bindsN fun _ _ _ _ _ _ us hl => match us, hl with | [_], _ => rfl
  have b_lsm : Binds K fd_lsm ["_law_source_here"] [] := F_lsm.bindsN fun _ _ _ _ _ _ us hl => match us, hl with | [_], _ => rfl
  have sK : ∀ H : Hp, SqT K H (He.ga K "KINDS") [.str "A", .str "B", .str "C"] := fun H => He.tupB_ok (c.fact 22 rfl) H
  have T : Tx K mg := {
    isi := (He.free_ok X G (c.fact 0 rfl)), int := (He.free_ok X G (c.fact 1 rfl)), bool := (He.free_ok X G (c.fact 2 rfl)), str := (He.free_ok X G (c.fact 3 rfl)), tup := (He.free_ok X G (c.fact 4 rfl)), lst := (He.free_ok X G (c.fact 5 rfl)), len := (He.free_ok X G (c.fact 6 rfl)), all := (He.free_ok X G (c.fact 7 rfl)),
    sorted := (He.free_ok X G (c.fact 8 rfl)), repr := (He.free_ok X G (c.fact 9 rfl)), max := (He.free_ok X G (c.fact 10 rfl)), min := (He.free_ok X G (c.fact 11 rfl)), range := (He.free_ok X G (c.fact 12 rfl)),
    kinds := ⟨_, (He.glo_ok X G (c.fact 19 rfl)), sK⟩, sm := Option.isSome_iff_exists.mp (c.fact 23 rfl) }
  obtain ⟨yR1, yR2, yR3, yR4⟩ := He.exc_ok (c.fact 24 rfl)
  have XxR : XT K mg "NoRows" (He.ga K "NoRows") := ⟨(He.glo_ok X G (c.fact 20 rfl)), yR1, yR2, yR3, yR4⟩
  have TQ : TT K mg (He.ga K "Table") (He.ga K "NoRows") := {
    cl := He.cls_ok (c.fact 25 rfl), nK := He.noat_ok (c.fact 26 rfl), gN := XxR.gN, xN := XxR.xN, kN := XxR.kN, bN := XxR.bN, tN := XxR.tN }
  have M := He.mkr_ok (c.fact 27 rfl)
  have G_num := ok_num (P := P) (w := w) (mg := mg) (base := base) F_num T
  have G_tri := ok_tri (P := P) (w := w) (base := base) F_tri T F_num (He.glo_ok X G (c.fact 13 rfl))
  have G_key := ok_key (P := P) (w := w) (base := base) F_key (He.int_ok X G (c.fact 28 rfl)) ⟨_, _, G_tri.imp tri_imp, b_tri, F_tri.kp, (He.glo_ok X G (c.fact 14 rfl))⟩
  have G_row := ok_row (P := P) (w := w) (base := base) F_row T (He.int_ok X G (c.fact 29 rfl)) ⟨_, _, G_key, b_key, F_key.kp, (He.glo_ok X G (c.fact 15 rfl))⟩ ⟨_, _, G_num.imp num_imp, b_num, F_num.kp, (He.glo_ok X G (c.fact 13 rfl))⟩
  have G_arrT := ok_rowsT (P := P) (w := w) (base := base) F_arr T (He.int_ok X G (c.fact 30 rfl)) ⟨_, _, G_row, b_row, F_row.kp, (He.glo_ok X G (c.fact 16 rfl))⟩
  have G_arrL := ok_rowsL (P := P) (w := w) (base := base) F_arr T (He.int_ok X G (c.fact 30 rfl)) ⟨_, _, G_row, b_row, F_row.kp, (He.glo_ok X G (c.fact 16 rfl))⟩
  have G_tinit := ok_tinit (P := P) (w := w) (base := base) F_tinit T TQ ⟨_, _, G_arrT, b_arr, F_arr.kp, (He.glo_ok X G (c.fact 17 rfl))⟩
  have G_txrT := ok_txrT (P := P) (w := w) (mg := mg) (base := base) F_txr T
  have G_txrL := ok_txrL (P := P) (w := w) (mg := mg) (base := base) F_txr T
  have G_trows := ok_trows (P := P) (w := w) (base := base) F_trows TQ
  have G_ttext := ok_ttext (P := P) (w := w) (base := base) F_ttext TQ ⟨_, _, G_txrT, b_txr, F_txr.kp, (He.glo_ok X G (c.fact 18 rfl))⟩
  have hR := prop_ok (c.fact 31 rfl)
  have mX := He.meth_ok (c.fact 32 rfl)
  have ic := isC_ok (c.fact 33 rfl)
  have G_tlen := ok_tlen (P := P) (w := w) (base := base) F_tlen T TQ
  have G_trepr := ok_trepr (P := P) (w := w) (base := base) F_trepr T TQ
  have G_teq := ok_teq (P := P) (w := w) (base := base) F_teq T TQ ic (He.glo_ok X G (c.fact 21 rfl))
  obtain ⟨hsL, hfL⟩ := own_ok (c.fact 34 rfl)
  obtain ⟨hsR, hfR⟩ := own_ok (c.fact 35 rfl)
  have oT := cmp_ok (c.fact 36 rfl)
  have nkT := noK_ok (c.fact 37 rfl)
  have G_cell := ok_cell (P := P) (w := w) (mg := mg) (base := base) F_cell T
  have G_source := ok_source (P := P) (w := w) (mg := mg) (base := base) F_source T
  have G_draw := ok_draw (P := P) (w := w) (mg := mg) (base := base) F_draw
  have G_choose := ok_choose (P := P) (w := w) (base := base) F_choose T G_draw b_draw F_draw.kp (He.glo_ok X G (c.fact 40 rfl))
  have G_eq := ok_eq (P := P) (w := w) (mg := mg) (base := base) F_eq T
  have G_lines := ok_lines (P := P) (w := w) (base := base) F_lines T ⟨_, _, G_draw, b_draw, F_draw.kp, (He.glo_ok X G (c.fact 40 rfl))⟩ ⟨_, _, G_choose, b_choose, F_choose.kp, (He.glo_ok X G (c.fact 41 rfl))⟩
  have G_ltext := ok_ltextT (P := P) (w := w) (mg := mg) (base := base) F_ltext T
  have G_lwh := ok_lwh (P := P) (w := w) (mg := mg) (base := base) F_lwh T
  have G_lil := ok_lil (P := P) (w := w) (base := base) F_lil T ⟨_, _, G_lwh, b_lwh, F_lwh.kp, (He.glo_ok X G (c.fact 46 rfl))⟩
  have G_lar := ok_lar (P := P) (w := w) (base := base) F_lar T ⟨_, _, G_lil, b_lil, F_lil.kp, (He.glo_ok X G (c.fact 47 rfl))⟩
  have G_ldu := ok_ldu (P := P) (w := w) (base := base) F_ldu T ⟨_, _, G_lar, b_lar, F_lar.kp, (He.glo_ok X G (c.fact 48 rfl))⟩ ⟨_, _, G_ltext, b_ltext, F_ltext.kp, (He.glo_ok X G (c.fact 44 rfl))⟩
  have G_lbu := ok_lbu (P := P) (w := w) (base := base) F_lbu T M G_tinit (He.glo_ok X G (c.fact 21 rfl))
  have G_lsd := ok_lsd (P := P) (w := w) (base := base) F_lsd T TQ ic G_lbu b_lbu F_lbu.kp (He.glo_ok X G (c.fact 49 rfl)) (exm_ok (c.fact 53 rfl)) G_trows b_trows hR G_ttext b_ttext mX hsL hfL G_tlen b_tlen hsR hfR G_trepr b_trepr oT G_teq b_teq
  have G_lsm := ok_lsm (P := P) (w := w) (base := base) F_lsm T ⟨_, _, G_draw, b_draw, F_draw.kp, (He.glo_ok X G (c.fact 40 rfl))⟩ ⟨_, _, G_choose, b_choose, F_choose.kp, (He.glo_ok X G (c.fact 41 rfl))⟩
  exact ok_law (P := P) (w := w) (base := base) F_law T TQ ic nkT ⟨_, _, G_cell, b_cell, F_cell.kp, (He.glo_ok X G (c.fact 38 rfl))⟩ ⟨_, _, G_source, b_source, F_source.kp, (He.glo_ok X G (c.fact 39 rfl))⟩ ⟨_, _, G_lsm, b_lsm, F_lsm.kp, (He.glo_ok X G (c.fact 52 rfl))⟩ ⟨_, _, G_ldu, b_ldu, F_ldu.kp, (He.glo_ok X G (c.fact 51 rfl))⟩ ⟨_, _, G_lines, b_lines, F_lines.kp, (He.glo_ok X G (c.fact 43 rfl))⟩ G_lbu b_lbu F_lbu.kp (He.glo_ok X G (c.fact 49 rfl)) G_lsd F_lsd.kp (He.glo_ok X G (c.fact 50 rfl)) G_trows b_trows hR G_ttext b_ttext mX oT G_teq b_teq G_eq F_eq.kp (He.glo_ok X G (c.fact 42 rfl))
end Q
open PySem PySem.W PySem.Calls PyProof.Rows
theorem PySem.Challenge.cw_countalike_k01_tables_made_holds : PySem.Challenge.rw_countalike_k01_tables_made.Holds := by
  w_on; o_law
  refine HandSHeadRun.head_any (r := OpenLaw.row PySem.Challenge.rw_countalike_k01_tables_made) (q := view (OpenLaw.row PySem.Challenge.rw_countalike_k01_tables_made).prog [47]) (H := Q.hk) (ob := Q.ob) (M := 30000) (loose := Q.nms)
    (d := HandSHeadRun.topDef (OpenLaw.row PySem.Challenge.rw_countalike_k01_tables_made).prog 47) (kwd := []) Q.ob_eq
    (by kernel_rfl) (fun s => by kernel_rfl) Q.run (by kernel_rfl) (by kernel_rfl) (by kernel_rfl) (by rfl) (by first | assumption | decide +kernel) (by decide +kernel) ⟨rfl, rfl, rfl, rfl, rfl, by decide +kernel⟩ ?hw ?hc
  case hw => w_witness2
  case hc =>
    refine Ca.walk_ofG (l := PySem.Challenge.rw_countalike_k01_tables_made) (n := 63) (k := 11) rfl (by decide) (by kernel_rfl) ⟨rfl, by decide, by decide⟩ ?F
    intro w mg fa h Y G hmg0
    obtain ⟨K, KX, c⟩ := Y
    have hmg : mg ("law" : PySem.Str) = some (.ref fa) := by
      have e : (HandSHeadRun.topDef (OpenLaw.row PySem.Challenge.rw_countalike_k01_tables_made).prog 47).name = ("law" : PySem.Str) := by kernel_rfl
      rw [← e]
      exact hmg0
    exact ⟨K, Q.spLaw K, KX, fun H a ns hl _ hS => ⟨a, ns, rfl, hS, hl, fun _ => rfl⟩, Q.facts KX G hmg c⟩

